import PyProof.Rows.All
import Wide.All
import OpenK.AllK
import Wide.FinOn
import HandS.ForMost
import HandS.Exc
import HandS.ExcOwn
import HandS.TryOnly
import HandS.WordsExc
import HandS.Walk
import HandS.IsInst
import KE.GoesNew
import KE.GoesEnum
import KE.GoesMore
import HandS.TupAny
import HandS.Conv
import HandS.TupMul
import HandS.Zip
import PyProof.EnumMake
import PyProof.Draws
import HandS.Flow
import HandS.Small
import HandS.Style
import HandS.ExcIs
import PyProof.Rows.Walk
import PySem.Challenge.RW_anydlooks_k02_rows_sums_and_inverses
section
set_option Elab.async false
set_option linter.all false
set_option maxRecDepth 100000
namespace PD
open PySem PySem.Spec PyProof.Rows L2

inductive Cell where
  | un
  | fz (d : PyData)
  | ow (b : Bool) (ds : List PyData)
abbrev Sg := List Cell
inductive Ans (α : Type) where
  | ok (a : α)
  | ex (c : Str) (fs : List (Str × PyData))
abbrev M (α : Type) := Sg → Option (Ans α × Sg)
abbrev Am := Nat → Option Addr
/-- what a frame never touches (ph), and what its caller lent it (ba, by slot) -/
structure Fx where
  ph : Addr → Prop
  ba : Am
def Hid (ph : Fx) (am : Am) (b : Addr) : Prop := ph.ph b ∨ ∃ i, am i = some b
open Classical in
noncomputable def hid (ph : Fx) (am : Am) (H : Hp) : Hp := fun b => if Hid ph am b then none else H b
variable {K : PySem.W.Frag} {ph : Fx} {am am' am'' : Am} {H H' H'' H1 H2 : Hp} {a b p : Addr} {o : HO}

theorem hid_some : hid ph am H b = some o ↔ ¬ Hid ph am b ∧ H b = some o := by
  unfold hid
  by_cases h : Hid ph am b
  · simp [h]
  · simp [h]
theorem hid_sub : Same (hid ph am H) H := fun _ _ h => (hid_some.mp h).2
theorem hid_same (s : Same H H') : Same (hid ph am H) (hid ph am H') := fun b o h =>
  let ⟨h1, h2⟩ := hid_some.mp h
  hid_some.mpr ⟨h1, s b o h2⟩

mutual
/-- a value as data -/
inductive Dq (K : PySem.W.Frag) (H : Hp) : V → PyData → Prop
  | non : Dq K H .non .none
  | bl (b : Bool) : Dq K H (.bl b) (.bool b)
  | int (i : Int) : Dq K H (.int i) (.int i)
  | str (x : Str) : Dq K H (.str x) (.str x)
  | lst {a : Addr} {xs : List V} {ds : List PyData} : SqL K H a xs → DqAll K H xs ds → Dq K H (.ref a) (.list ds)
  | tup {a : Addr} {xs : List V} {ds : List PyData} : SqT K H a xs → DqAll K H xs ds → Dq K H (.ref a) (.tuple ds)
inductive DqAll (K : PySem.W.Frag) (H : Hp) : List V → List PyData → Prop
  | nil : DqAll K H [] []
  | cons {v : V} {vs : List V} {d : PyData} {ds : List PyData} : Dq K H v d → DqAll K H vs ds → DqAll K H (v :: vs) (d :: ds)
end
theorem rd_mono (s : Same H H') {u : HO} (q : Rd H a u) : Rd H' a u := by
  rcases q with q | ⟨o, q⟩
  · exact .inl (s _ _ q)
  · exact .inr ⟨o, s _ _ q⟩
mutual
theorem Dq.dp : ∀ {v : V} {d : PyData}, Dq K H v d → L2.Dp K H v d
  | _, _, .non => .non
  | _, _, .bl b => .bl b
  | _, _, .int i => .int i
  | _, _, .str x => .str x
  | _, _, .lst q h => .lst q h.dp
  | _, _, .tup q h => .tup q h.dp
theorem DqAll.dp : ∀ {vs : List V} {ds : List PyData}, DqAll K H vs ds → L2.DpAll K H vs ds
  | _, _, .nil => .nil
  | _, _, .cons h t => .cons h.dp t.dp
end
mutual
theorem dp_mono (s : Same H H') : ∀ {v : V} {d : PyData}, Dq K H v d → Dq K H' v d
  | _, _, .non => .non
  | _, _, .bl b => .bl b
  | _, _, .int i => .int i
  | _, _, .str x => .str x
  | _, _, .lst q h => .lst (s.seq q) (dps_mono s h)
  | _, _, .tup q h => .tup (by
      rcases q with (q | ⟨o, q⟩) | q
      · exact .inl (.inl (s _ _ q))
      · exact .inl (.inr ⟨o, s _ _ q⟩)
      · exact .inr q) (dps_mono s h)
theorem dps_mono (s : Same H H') : ∀ {vs : List V} {ds : List PyData}, DqAll K H vs ds → DqAll K H' vs ds
  | _, _, .nil => .nil
  | _, _, .cons h t => .cons (dp_mono s h) (dps_mono s t)
end
theorem seqT_mono (s : Same H H') {xs : List V} (q : SqT K H a xs) : SqT K H' a xs := by
  rcases q with (q | ⟨o, q⟩) | q
  · exact .inl (.inl (s _ _ q))
  · exact .inl (.inr ⟨o, s _ _ q⟩)
  · exact .inr q
theorem same_new (h : H p = none) : Same H (upd H p o) := fun b x e => by
  rw [upd_ne (ne_of_none e h)]
  exact e

/-- DqAll as lists -/
theorem DqAll.length : ∀ {vs : List V} {ds : List PyData}, DqAll K H vs ds → vs.length = ds.length
  | _, _, .nil => rfl
  | _, _, .cons _ t => by simp [DqAll.length t]
theorem DqAll.get : ∀ {vs : List V} {ds : List PyData} {i : Nat} {d : PyData}, DqAll K H vs ds → ds[i]? = some d → ∃ v, vs[i]? = some v ∧ Dq K H v d
  | _, _, _, _, .nil, e => by simp at e
  | _, _, 0, _, .cons h _, e => by simp at e; subst e; exact ⟨_, rfl, h⟩
  | _, _, i + 1, _, .cons _ t, e => by
    obtain ⟨v, e1, e2⟩ := DqAll.get (i := i) t (by simpa using e)
    exact ⟨v, by simpa using e1, e2⟩
theorem DqAll.append : ∀ {vs ws : List V} {ds es : List PyData}, DqAll K H vs ds → DqAll K H ws es → DqAll K H (vs ++ ws) (ds ++ es)
  | _, _, _, _, .nil, s => s
  | _, _, _, _, .cons h t, s => .cons h (DqAll.append t s)
theorem DqAll.take : ∀ {vs : List V} {ds : List PyData} (n : Nat), DqAll K H vs ds → DqAll K H (vs.take n) (ds.take n)
  | _, _, 0, _ => by simpa using .nil
  | _, _, _ + 1, .nil => .nil
  | _, _, n + 1, .cons h t => by simpa using DqAll.cons h (DqAll.take n t)
theorem DqAll.drop : ∀ {vs : List V} {ds : List PyData} (n : Nat), DqAll K H vs ds → DqAll K H (vs.drop n) (ds.drop n)
  | _, _, 0, h => by simpa using h
  | _, _, _ + 1, .nil => .nil
  | _, _, n + 1, .cons _ t => by simpa using DqAll.drop n t
theorem DqAll.set {v : V} {d : PyData} (h : Dq K H v d) : ∀ {vs : List V} {ds : List PyData} (n : Nat), DqAll K H vs ds → DqAll K H (vs.set n v) (ds.set n d)
  | _, _, _, .nil => .nil
  | _, _, 0, .cons _ t => .cons h t
  | _, _, n + 1, .cons q t => .cons q (DqAll.set h n t)
theorem DqAll.rev : ∀ {vs : List V} {ds : List PyData}, DqAll K H vs ds → DqAll K H vs.reverse ds.reverse
  | _, _, .nil => .nil
  | _, _, .cons h t => by simpa using DqAll.append (DqAll.rev t) (.cons h .nil)
theorem DqAll.rep {v : V} {d : PyData} (h : Dq K H v d) : ∀ n, DqAll K H (List.replicate n v) (List.replicate n d)
  | 0 => .nil
  | n + 1 => .cons h (DqAll.rep h n)

structure Step (am : Am) (H : Hp) (am' : Am) (H' : Hp) : Prop where
  keep : ∀ b o, H b = some o → (∀ i, am i ≠ some b) → H' b = some o
  new : ∀ i a, am' i = some a → (∃ j, am j = some a) ∨ H a = none
  there : ∀ b o, H b = some o → ∃ o', H' b = some o'
theorem Step.refl : Step am H am H := ⟨fun _ _ h _ => h, fun i a h => .inl ⟨i, h⟩, fun _ o h => ⟨o, h⟩⟩
theorem Step.of (s : Same H H') : Step am H am H' := ⟨fun b o h _ => s b o h, fun i a h => .inl ⟨i, h⟩, fun b o h => ⟨o, s b o h⟩⟩
theorem Step.trans (x : Step am H am' H') (y : Step am' H' am'' H'') : Step am H am'' H'' where
  keep := fun b o h n => y.keep b o (x.keep b o h n) fun i e => by
    rcases x.new i b e with ⟨j, q⟩ | q
    · exact n j q
    · rw [q] at h; cases h
  new := fun i a h => by
    rcases y.new i a h with ⟨j, q⟩ | q
    · exact x.new j a q
    · cases e : H a with
      | none => exact .inr rfl
      | some o =>
        obtain ⟨o', e'⟩ := x.there a o e
        rw [q] at e'; cases e'
  there := fun b o h => let ⟨o', h'⟩ := x.there b o h; y.there b o' h'
theorem Step.hid (x : Step am H am' H') : Same (hid ph am H) (PD.hid ph am' H') := fun b o h => by
  obtain ⟨h1, h2⟩ := hid_some.mp h
  refine hid_some.mpr ⟨fun q => ?_, x.keep b o h2 fun i e => h1 (.inr ⟨i, e⟩)⟩
  rcases q with q | ⟨i, q⟩
  · exact h1 (.inl q)
  · rcases x.new i b q with ⟨j, e⟩ | e
    · exact h1 (.inr ⟨j, e⟩)
    · rw [e] at h2; cases h2

structure SR (K : PySem.W.Frag) (ph : Fx) (am : Am) (σ : L2.St) (H : Hp) (δ : Sg) : Prop where
  len : σ.length = δ.length
  fz : ∀ (i : Nat) (d : PyData), δ[i]? = some (Cell.fz d) → ∃ v, σ[i]? = some (some v) ∧ Dq K (hid ph am H) v d
  ow : ∀ (i : Nat) (b : Bool) (ds : List PyData), δ[i]? = some (Cell.ow b ds) → ∃ a vs, am i = some a ∧ σ[i]? = some (some (.ref a)) ∧ H a = some (.lst vs) ∧ DqAll K (hid ph am H) vs ds ∧ vs.length ≤ sizeLine ∧ (b = false → ph.ba i = none)
  amf : ∀ (i : Nat) (a : Addr), am i = some a → ¬ ph.ph a ∧ ∃ b ds, δ[i]? = some (Cell.ow b ds)
  inj : ∀ (i j : Nat) (a : Addr), am i = some a → am j = some a → i = j
  phs : ∀ b, ph.ph b → ∃ o, H b = some o
  bas : ∀ (i : Nat) (a : Addr), ph.ba i = some a → am i = some a
variable {σ : L2.St} {δ δ' δ'' : Sg}
theorem SR.hidden (s : SR K ph am σ H δ) (h : Hid ph am b) : ∃ o, H b = some o := by
  rcases h with h | ⟨i, h⟩
  · exact s.phs b h
  · obtain ⟨_, bb, ds, e⟩ := s.amf i b h
    obtain ⟨a, vs, e1, _, e2, _⟩ := s.ow i bb ds e
    rw [h] at e1; cases e1
    exact ⟨_, e2⟩
theorem SR.same (s : SR K ph am σ H δ) (q : Same H H') : SR K ph am σ H' δ where
  len := s.len
  fz := fun i d e => let ⟨v, e1, e2⟩ := s.fz i d e; ⟨v, e1, dp_mono (hid_same q) e2⟩
  ow := fun i b ds e => let ⟨a, vs, e1, e2, e3, e4, e5⟩ := s.ow i b ds e; ⟨a, vs, e1, e2, q _ _ e3, dps_mono (hid_same q) e4, e5⟩
  amf := s.amf
  inj := s.inj
  phs := fun b h => let ⟨o, e⟩ := s.phs b h; ⟨o, q b o e⟩
  bas := s.bas
theorem SR.new (s : SR K ph am σ H δ) (h : H p = none) : ¬ Hid ph am p := fun q => by
  obtain ⟨o, e⟩ := s.hidden q
  rw [h] at e; cases e

/-- what is wanted of an exception: W; c's class by its name -/
def XPm (K : PySem.W.Frag) (mg : Str → Option Value) (W : WX) (ph : Fx) (am : Am) (σ : L2.St) (H : Hp) (δ' : Sg) (c : Str) (fs : List (Str × PyData)) : Prop :=
  ∀ C dx am' H', mg c = some (.ref C) → Step am H am' H' → SR K ph am' σ H' δ' →
    ((fs = [] ∧ dx = none) ∨ ∃ a vs, dx = some a ∧ fs ≠ [] ∧ H' a = some (.xd vs) ∧ vs.map (·.1) = fs.map (·.1) ∧ DqAll K (hid ph am' H') (vs.map (·.2)) (fs.map (·.2))) → W (.ref C) dx σ H'
abbrev XP (X : Cx) (W : WX) (ph : Fx) (am : Am) (σ : L2.St) (H : Hp) (δ' : Sg) (c : Str) (fs : List (Str × PyData)) : Prop := XPm X.K X.mg W ph am σ H δ' c fs
abbrev E00 : WX := fun _ _ _ _ => False
/-- .. of a statement: wherever it raises -/
def XPS (X : Cx) (W : WX) (ph : Fx) (am : Am) (H : Hp) (δ' : Sg) (c : Str) (fs : List (Str × PyData)) : Prop :=
  ∀ C dx am' σ' H', X.mg c = some (.ref C) → Step am H am' H' → SR X.K ph am' σ' H' δ' →
    ((fs = [] ∧ dx = none) ∨ ∃ a vs, dx = some a ∧ fs ≠ [] ∧ H' a = some (.xd vs) ∧ vs.map (·.1) = fs.map (·.1) ∧ DqAll X.K (hid ph am' H') (vs.map (·.2)) (fs.map (·.2))) → W (.ref C) dx σ' H'
/-- .. of a def: what a caller wants -/
def XPd (K : PySem.W.Frag) (mg : Str → Option Value) (E : XK) (ph : Fx) (am : Am) (H : Hp) (c : Str) (fs : List (Str × PyData)) : Prop :=
  ∀ C dx am' H', mg c = some (.ref C) → Step am H am' H' →
    ((fs = [] ∧ dx = none) ∨ ∃ a vs, dx = some a ∧ fs ≠ [] ∧ H' a = some (.xd vs) ∧ vs.map (·.1) = fs.map (·.1) ∧ DqAll K (hid ph am' H') (vs.map (·.2)) (fs.map (·.2))) → E (.ref C) dx H'

def ReadE (X : Cx) (W : WX) (t : TE) (f : M PyData) : Prop := ∀ (ph : Fx) (am : Am) (σ : L2.St) (H : Hp) (δ : Sg) (Q : VK) (ans : Ans PyData) (δ' : Sg), SR X.K ph am σ H δ → f δ = some (ans, δ') →
    (∀ d, ans = .ok d → ∀ am' v H', Step am H am' H' → SR X.K ph am' σ H' δ' → Dq X.K (hid ph am' H') v d → Q v H') →
    (∀ c fs, ans = .ex c fs → XP X W ph am σ H δ' c fs) → t σ H Q
def ReadF (X : Cx) (W : WX) (t : TE) (f : M (List PyData)) : Prop := ∀ (ph : Fx) (am : Am) (σ : L2.St) (H : Hp) (δ : Sg) (Q : VK) (ans : Ans (List PyData)) (δ' : Sg), SR X.K ph am σ H δ → f δ = some (ans, δ') →
    (∀ ds, ans = .ok ds → ∀ am' p vs H', H p = none → H' p = none → Step am H am' H' → SR X.K ph am' σ H' δ' → DqAll X.K (hid ph am' H') vs ds → vs.length ≤ sizeLine → Q (.ref p) (upd H' p (.lst vs))) →
    (∀ c fs, ans = .ex c fs → XP X W ph am σ H δ' c fs) → t σ H Q
def ReadA (X : Cx) (W : WX) (t : TA) (f : M (List PyData)) : Prop := ∀ (ph : Fx) (am : Am) (σ : L2.St) (H : Hp) (δ : Sg) (Q : List V → Hp → Prop) (ans : Ans (List PyData)) (δ' : Sg), SR X.K ph am σ H δ → f δ = some (ans, δ') →
    (∀ ds, ans = .ok ds → ∀ am' vs H', Step am H am' H' → SR X.K ph am' σ H' δ' → DqAll X.K (hid ph am' H') vs ds → Q vs H') →
    (∀ c fs, ans = .ex c fs → XP X W ph am σ H δ' c fs) → t σ H Q
def ReadT (X : Cx) (W : WX) (t : TT) (f : M Bool) : Prop := ∀ (ph : Fx) (am : Am) (σ : L2.St) (H : Hp) (δ : Sg) (Q : Bool → Hp → Prop) (ans : Ans Bool) (δ' : Sg), SR X.K ph am σ H δ → f δ = some (ans, δ') →
    (∀ b, ans = .ok b → ∀ am' H', Step am H am' H' → SR X.K ph am' σ H' δ' → Q b H') →
    (∀ c fs, ans = .ex c fs → XP X W ph am σ H δ' c fs) → t σ H Q
structure DE (X : Cx) (W : WX) (e : Expr) (f : M PyData) : Prop where
  ex : ∃ t, PE X e t ∧ ReadE X W t f
/-- a new list -/
structure DF (X : Cx) (W : WX) (e : Expr) (f : M (List PyData)) : Prop where
  ex : ∃ t, PE X e t ∧ ReadF X W t f
/-- arguments -/
structure DA (X : Cx) (W : WX) (es : List Expr) (f : M (List PyData)) : Prop where
  ex : ∃ t, PA X es t ∧ ReadA X W t f
/-- tests -/
structure DT (X : Cx) (W : WX) (e : Expr) (f : M Bool) : Prop where
  ex : ∃ t, PT X e t ∧ ReadT X W t f
structure DW (X : Cx) (W : WX) (e : Expr) (f : M Bool) : Prop where
  ex : ∃ t, PW X e t ∧ ReadT X W t f

/-! ### the monad -/
@[reducible] def ret {α : Type} (a : α) : M α := fun δ => some (.ok a, δ)
def bnd {α β : Type} (f : M α) (g : α → M β) : M β := fun δ => match f δ with
  | some (.ok a, δ') => g a δ'
  | some (.ex c fs, δ') => some (.ex c fs, δ')
  | none => none
def lif {α : Type} (o : Option α) : M α := fun δ => match o with
  | some a => some (.ok a, δ)
  | none => none
theorem bnd_some {α β : Type} {f : M α} {g : α → M β} {ans : Ans β} (h : bnd f g δ = some (ans, δ')) :
    (∃ a δ1, f δ = some (.ok a, δ1) ∧ g a δ1 = some (ans, δ')) ∨ ∃ c fs, f δ = some (.ex c fs, δ') ∧ ans = .ex c fs := by
  unfold bnd at h
  split at h
  · rename_i a δ1 e
    exact .inl ⟨a, δ1, e, h⟩
  · rename_i c fs δ1 e
    cases h
    exact .inr ⟨c, fs, e, rfl⟩
  · cases h
theorem lif_some {α : Type} {o : Option α} {ans : Ans α} (h : lif o δ = some (ans, δ')) : ∃ a, o = some a ∧ ans = .ok a ∧ δ' = δ := by
  unfold lif at h
  split at h
  · cases h; exact ⟨_, rfl, rfl, rfl⟩
  · cases h
theorem XPm.step {mg : Str → Option Value} {W : WX} {c : Str} {fs : List (Str × PyData)} (s : Step am H am' H') (h : XPm K mg W ph am σ H δ' c fs) : XPm K mg W ph am' σ H' δ' c fs :=
  fun C dx am2 H2 e k r q => h C dx am2 H2 e (s.trans k) r q
theorem XPS.step {X : Cx} {W : WX} {c : Str} {fs : List (Str × PyData)} (s : Step am H am' H') (h : XPS X W ph am H δ' c fs) : XPS X W ph am' H' δ' c fs :=
  fun C dx am2 σ2 H2 e k r q => h C dx am2 σ2 H2 e (s.trans k) r q
theorem XPS.at {X : Cx} {W : WX} {c : Str} {fs : List (Str × PyData)} (h : XPS X W ph am H δ' c fs) : XP X W ph am σ H δ' c fs :=
  fun C dx am2 H2 e k r q => h C dx am2 σ H2 e k r q
theorem XPd.step {mg : Str → Option Value} {E : XK} {c : Str} {fs : List (Str × PyData)} (s : Step am H am' H') (h : XPd K mg E ph am H c fs) : XPd K mg E ph am' H' c fs :=
  fun C dx am2 H2 e k q => h C dx am2 H2 e (s.trans k) q
end PD
end

section
set_option Elab.async false
set_option linter.all false
set_option maxRecDepth 100000
set_option maxHeartbeats 1000000
namespace PD
open PySem PySem.Spec PyProof.Rows L2
variable {X : Cx} {W : WX} {pos : Pos} {e e1 e2 : Expr} {es : List Expr} {f g : M PyData} {fs : M (List PyData)}

/-! ### constants and names -/
theorem de_ret {t : TE} {d : PyData} {v : V} (h : PE X e t) (ht : t = tC v) (hv : ∀ H, Dq X.K H v d) : DE X W e (ret d) :=
  ⟨⟨t, h, fun ph am σ H δ Q ans δ' s q k _ => by
    cases q
    subst ht
    exact k _ rfl am v H Step.refl s (hv _)⟩⟩
theorem de_int {i : Int} {j} : DE X W (.Constant (.int i) j pos) (ret (.int i)) := de_ret pe_int rfl fun _ => .int i
theorem de_bl {b : Bool} {j} : DE X W (.Constant (.bool b) j pos) (ret (.bool b)) := de_ret pe_bl rfl fun _ => .bl b
theorem de_non {j} : DE X W (.Constant .none j pos) (ret .none) := de_ret pe_non rfl fun _ => .non
theorem de_str {x : Str} {j} : DE X W (.Constant (.str x) j pos) (ret (.str x)) := de_ret pe_str rfl fun _ => .str x

/-- a list of one's own is read as a value: from here on it is frozen -/
def xVar (i : Nat) : M PyData := fun δ => match δ[i]? with
  | some (.fz d) => some (.ok d, δ)
  | some (.ow false ds) => some (.ok (.list ds), δ.set i (.fz (.list ds)))
  | _ => none
def amDrop (am : Am) (i : Nat) : Am := fun j => if j = i then none else am j
theorem amDrop_some {am : Am} {i j : Nat} {a : Addr} : amDrop am i j = some a ↔ j ≠ i ∧ am j = some a := by
  unfold amDrop
  by_cases h : j = i <;> simp [h]
theorem step_drop {am : Am} {H : Hp} {i : Nat} : Step am H (amDrop am i) H :=
  ⟨fun _ _ h _ => h, fun j a h => .inl ⟨j, (amDrop_some.mp h).2⟩, fun _ o h => ⟨o, h⟩⟩
variable {K : PySem.W.Frag} {ph : Fx} {am am' : Am} {H H' : Hp} {σ : L2.St} {δ δ' : Sg}
/-- freezing -/
theorem SR.freeze (s : SR K ph am σ H δ) {i : Nat} {ds : List PyData} (e : δ[i]? = some (.ow false ds)) :
    ∃ a vs, am i = some a ∧ σ[i]? = some (some (.ref a)) ∧ H a = some (.lst vs) ∧ SR K ph (amDrop am i) σ H (δ.set i (.fz (.list ds))) ∧ Dq K (hid ph (amDrop am i) H) (.ref a) (.list ds) := by
  obtain ⟨a, vs, e1, e2, e3, e4, e6, e5⟩ := s.ow i false ds e
  have st : Step am H (amDrop am i) H := step_drop
  have hi : i < δ.length := (List.getElem?_eq_some_iff.mp e).1
  have na : ¬ Hid ph (amDrop am i) a := by
    rintro (q | ⟨j, q⟩)
    · exact (s.amf i a e1).1 q
    · obtain ⟨n, q⟩ := amDrop_some.mp q
      exact n (s.inj j i a q e1)
  have dp : Dq K (hid ph (amDrop am i) H) (.ref a) (.list ds) := .lst (.inl (.inl (hid_some.mpr ⟨na, e3⟩))) (dps_mono st.hid e4)
  refine ⟨a, vs, e1, e2, e3, ⟨by rw [s.len, List.length_set], fun j d q => ?_, fun j b' ds' q => ?_, fun j a' q => ?_, fun j k a' q1 q2 => ?_, s.phs, fun j a' q => ?_⟩, dp⟩
  · by_cases hj : j = i
    · subst hj
      rw [List.getElem?_set_self hi] at q
      cases q
      exact ⟨_, e2, dp⟩
    · rw [List.getElem?_set_ne (Ne.symm hj)] at q
      obtain ⟨v, h1, h2⟩ := s.fz j d q
      exact ⟨v, h1, dp_mono st.hid h2⟩
  · by_cases hj : j = i
    · subst hj
      rw [List.getElem?_set_self hi] at q
      cases q
    · rw [List.getElem?_set_ne (Ne.symm hj)] at q
      obtain ⟨a2, vs2, h1, h2, h3, h4, h6, h5⟩ := s.ow j b' ds' q
      exact ⟨a2, vs2, amDrop_some.mpr ⟨hj, h1⟩, h2, h3, dps_mono st.hid h4, h6, h5⟩
  · obtain ⟨n, q⟩ := amDrop_some.mp q
    obtain ⟨h1, b, ds', h2⟩ := s.amf j a' q
    exact ⟨h1, b, ds', by rw [List.getElem?_set_ne (Ne.symm n)]; exact h2⟩
  · exact s.inj j k a' (amDrop_some.mp q1).2 (amDrop_some.mp q2).2
  · refine amDrop_some.mpr ⟨fun z => ?_, s.bas j a' q⟩
    subst z
    rw [e5 rfl] at q
    cases q
theorem de_var (i : Nat) {x : Str} (hN : X.N[i]? = some x := by rfl) (hv : Vis X.env.scope x := by first | exact Or.inl rfl | exact Or.inr (Or.inl rfl) | exact Or.inr (Or.inr rfl)) (hd : (x == ("__debug__" : Str)) = false := by decide)
    (hcd : (x == ("__classdict__" : Str)) = false := by decide) : DE X W (.Name x pos) (xVar i) :=
  ⟨⟨tVar i, pe_var hN hv hd hcd, fun ph am σ H δ Q ans δ' s q k _ => by
    unfold xVar at q
    split at q
    · rename_i d e
      cases q
      obtain ⟨v, h1, h2⟩ := s.fz i d e
      exact ⟨v, h1, k _ rfl am v H Step.refl s h2⟩
    · rename_i ds e
      cases q
      obtain ⟨a, vs, h1, h2, h3, h4, h5⟩ := s.freeze e
      exact ⟨.ref a, h2, k _ rfl _ _ H step_drop h4 h5⟩
    · cases q⟩⟩

/-! ### operators -/
def OpD (X : Cx) (r : R2) (F : PyData → PyData → Option PyData) : Prop :=
  ∀ (ph : Fx) (am : Am) (H : Hp) (x y : V) (d e c : PyData) (Q : VK), (∀ b, Hid ph am b → ∃ o, H b = some o) → Dq X.K (hid ph am H) x d → Dq X.K (hid ph am H) y e → F d e = some c →
    (∀ v H', Same H H' → Dq X.K (hid ph am H') v c → Q v H') → r x y H Q
def UnD (X : Cx) (r : V → Hp → VK → Prop) (F : PyData → Option PyData) : Prop :=
  ∀ (ph : Fx) (am : Am) (H : Hp) (x : V) (d c : PyData) (Q : VK), (∀ b, Hid ph am b → ∃ o, H b = some o) → Dq X.K (hid ph am H) x d → F d = some c →
    (∀ v H', Same H H' → Dq X.K (hid ph am H') v c → Q v H') → r x H Q
def CallD (X : Cx) (r : List V → Hp → VK → Prop) (F : List PyData → Option PyData) : Prop :=
  ∀ (ph : Fx) (am : Am) (H : Hp) (xs : List V) (ds : List PyData) (c : PyData) (Q : VK), (∀ b, Hid ph am b → ∃ o, H b = some o) → DqAll X.K (hid ph am H) xs ds → F ds = some c →
    (∀ v H', Same H H' → Dq X.K (hid ph am H') v c → Q v H') → r xs H Q
/-- .. giving a new list -/
def CallF (X : Cx) (r : List V → Hp → VK → Prop) (F : List PyData → Option (List PyData)) : Prop :=
  ∀ (ph : Fx) (am : Am) (H : Hp) (xs : List V) (ds cs : List PyData) (Q : VK), (∀ b, Hid ph am b → ∃ o, H b = some o) → DqAll X.K (hid ph am H) xs ds → F ds = some cs →
    (∀ p vs, H p = none → DqAll X.K (hid ph am H) vs cs → vs.length ≤ sizeLine → Q (.ref p) (upd H p (.lst vs))) → r xs H Q
def OpF (X : Cx) (r : R2) (F : PyData → PyData → Option (List PyData)) : Prop :=
  ∀ (ph : Fx) (am : Am) (H : Hp) (x y : V) (d e : PyData) (cs : List PyData) (Q : VK), (∀ b, Hid ph am b → ∃ o, H b = some o) → Dq X.K (hid ph am H) x d → Dq X.K (hid ph am H) y e → F d e = some cs →
    (∀ p vs, H p = none → DqAll X.K (hid ph am H) vs cs → vs.length ≤ sizeLine → Q (.ref p) (upd H p (.lst vs))) → r x y H Q

def xBin (F : PyData → PyData → Option PyData) (f g : M PyData) : M PyData := bnd f fun a => bnd g fun b => lif (F a b)
def xUn (F : PyData → Option PyData) (f : M PyData) : M PyData := bnd f fun a => lif (F a)
theorem bin_read {ta tb : TE} {r : R2} {F : PyData → PyData → Option PyData} (hr : OpD X r F) (qa : ReadE X W ta f) (qb : ReadE X W tb g) : ReadE X W (tOp r ta tb) (xBin F f g) := by
  intro ph am σ H δ Q ans δ' s q k kx
  rcases bnd_some q with ⟨a, δ1, e1, q1⟩ | ⟨c, fs, e1, q1⟩
  · refine qa ph am σ H δ _ _ _ s e1 (fun d ed am1 x H1 st1 s1 d1 => ?_) (fun c fs z => by cases z)
    cases ed
    rcases bnd_some q1 with ⟨b, δ2, e2, q2⟩ | ⟨c, fs, e2, q2⟩
    · refine qb ph am1 σ H1 δ1 _ _ _ s1 e2 (fun d ed am2 y H2 st2 s2 d2 => ?_) (fun c fs z => by cases z)
      cases ed
      obtain ⟨z, e3, rfl, rfl⟩ := lif_some q2
      refine hr ph am2 H2 x y a b z _ (fun b h => s2.hidden h) (dp_mono st2.hid d1) d2 e3 fun v H3 sm dv => ?_
      exact k _ rfl am2 v H3 ((st1.trans st2).trans (Step.of sm)) (s2.same sm) dv
    · subst q2
      refine qb ph am1 σ H1 δ1 _ _ _ s1 e2 (fun d ed => by cases ed) (fun c' fs' z => ?_)
      cases z
      exact (kx _ _ rfl).step st1
  · subst q1
    refine qa ph am σ H δ _ _ _ s e1 (fun d ed => by cases ed) (fun c' fs' z => ?_)
    cases z
    exact kx _ _ rfl
theorem bin_core {r : R2} {F : PyData → PyData → Option PyData} (hr : OpD X r F) (ha : DE X W e1 f) (hb : DE X W e2 g) (rule : ∀ ta tb, PE X e1 ta → PE X e2 tb → PE X e (tOp r ta tb)) : DE X W e (xBin F f g) := by
  obtain ⟨ta, pa, qa⟩ := ha.ex
  obtain ⟨tb, pb, qb⟩ := hb.ex
  exact ⟨⟨_, rule ta tb pa pb, bin_read hr qa qb⟩⟩
theorem de_bin {op : Operator} {r : R2} {F : PyData → PyData → Option PyData} (hr : OpD X r F) (ho : OpR X (binaryOp op) r) (ha : DE X W e1 f) (hb : DE X W e2 g) : DE X W (.BinOp e1 op e2 pos) (xBin F f g) :=
  bin_core hr ha hb fun _ _ pa pb => pe_op ho pa pb
theorem de_cmp {op : CmpOp} {r : R2} {F : PyData → PyData → Option PyData} (hr : OpD X r F) (ho : OpR X (compareOp op) r) (hm : behindInMarks op e2 = false) (ha : DE X W e1 f) (hb : DE X W e2 g) : DE X W (.Compare e1 [op] [e2] pos) (xBin F f g) :=
  bin_core hr ha hb fun _ _ pa pb => pe_cmpR ho pa pb hm
theorem de_un {op : UnaryOp} {r : V → Hp → VK → Prop} {F : PyData → Option PyData} (hr : UnD X r F) (ho : UnR X (unaryOp op) r) (ha : DE X W e1 f) : DE X W (.UnaryOp op e1 pos) (xUn F f) := by
  obtain ⟨ta, pa, qa⟩ := ha.ex
  refine ⟨⟨_, pe_un ho pa, fun ph am σ H δ Q ans δ' s q k kx => ?_⟩⟩
  rcases bnd_some q with ⟨a, δ1, e1, q1⟩ | ⟨c, fs, e1, q1⟩
  · refine qa ph am σ H δ _ _ _ s e1 (fun d ed am1 x H1 st1 s1 d1 => ?_) (fun c fs z => by cases z)
    cases ed
    obtain ⟨z, e3, rfl, rfl⟩ := lif_some q1
    exact hr ph am1 H1 x a z _ (fun b h => s1.hidden h) d1 e3 fun v H3 sm dv => k _ rfl am1 v H3 (st1.trans (Step.of sm)) (s1.same sm) dv
  · subst q1
    exact qa ph am σ H δ _ _ _ s e1 (fun d ed => by cases ed) (fun c' fs' z => by cases z; exact kx _ _ rfl)
/-- a new list as a value -/
theorem de_df {fs : M (List PyData)} (h : DF X W e fs) : DE X W e (bnd fs fun ds => ret (.list ds)) := by
  obtain ⟨t, p, q⟩ := h.ex
  refine ⟨⟨t, p, fun ph am σ H δ Q ans δ' s e k kx => ?_⟩⟩
  rcases bnd_some e with ⟨ds, δ1, e1, q1⟩ | ⟨c, fs, e1, q1⟩
  · cases q1
    refine q ph am σ H δ _ _ _ s e1 (fun d ed am1 p vs H1 n0 n1 st s1 dv hz => ?_) (fun c fs z => by cases z)
    cases ed
    have sm : Same H1 (upd H1 p (.lst vs)) := same_new n1
    refine k _ rfl am1 _ _ (st.trans (Step.of sm)) (s1.same sm) (.lst (.inl (.inl (hid_some.mpr ⟨s1.new n1, upd_same⟩))) (dps_mono (hid_same sm) dv))
  · subst q1
    exact q ph am σ H δ _ _ _ s e1 (fun d ed => by cases ed) (fun c' fs' z => by cases z; exact kx _ _ rfl)
/-! ### arguments and displays -/
theorem da_nil : DA X W [] (ret []) := ⟨⟨tNil, pa_nil, fun ph am σ H δ Q ans δ' s q k _ => by cases q; exact k _ rfl am [] H Step.refl s .nil⟩⟩
theorem da_cons (h : DE X W e f) (t : DA X W es fs) (hs : starEach (e :: es) X.env = (false, eval e X.env) :: starEach es X.env := by rfl) : DA X W (e :: es) (bnd f fun d => bnd fs fun ds => ret (d :: ds)) := by
  obtain ⟨ta, pa, qa⟩ := h.ex
  obtain ⟨tb, pb, qb⟩ := t.ex
  refine ⟨⟨_, pa_cons pa pb hs, fun ph am σ H δ Q ans δ' s q k kx => ?_⟩⟩
  rcases bnd_some q with ⟨a, δ1, e1, q1⟩ | ⟨c, fs, e1, q1⟩
  · refine qa ph am σ H δ _ _ _ s e1 (fun d ed am1 x H1 st1 s1 d1 => ?_) (fun c fs z => by cases z)
    cases ed
    rcases bnd_some q1 with ⟨b, δ2, e2, q2⟩ | ⟨c, fs, e2, q2⟩
    · cases q2
      refine qb ph am1 σ H1 δ1 _ _ _ s1 e2 (fun d ed am2 y H2 st2 s2 d2 => ?_) (fun c fs z => by cases z)
      cases ed
      exact k _ rfl am2 _ H2 (st1.trans st2) s2 (.cons (dp_mono st2.hid d1) d2)
    · subst q2
      exact qb ph am1 σ H1 δ1 _ _ _ s1 e2 (fun d ed => by cases ed) (fun c' fs' z => by cases z; exact (kx _ _ rfl).step st1)
  · subst q1
    exact qa ph am σ H δ _ _ _ s e1 (fun d ed => by cases ed) (fun c' fs' z => by cases z; exact kx _ _ rfl)
def xTup (fs : M (List PyData)) : M PyData := bnd fs fun ds => lif (if ds.length ≤ sizeLine then some (.tuple ds) else none)
def xLst (fs : M (List PyData)) : M (List PyData) := bnd fs fun ds => lif (if ds.length ≤ sizeLine then some ds else none)
theorem if_some {c : Prop} [Decidable c] {α : Type} {a b : α} (h : (if c then some a else none) = some b) : c ∧ a = b := by
  split at h
  · cases h; exact ⟨by assumption, rfl⟩
  · cases h
theorem de_tup {x1} (h : DA X W es fs) : DE X W (.Tuple es x1 pos) (xTup fs) := by
  obtain ⟨ta, pa, qa⟩ := h.ex
  refine ⟨⟨_, pe_tup pa, fun ph am σ H δ Q ans δ' s q k kx => ?_⟩⟩
  rcases bnd_some q with ⟨a, δ1, e1, q1⟩ | ⟨c, fs, e1, q1⟩
  · refine qa ph am σ H δ _ _ _ s e1 (fun d ed am1 x H1 st1 s1 d1 => ?_) (fun c fs z => by cases z)
    cases ed
    obtain ⟨z, e3, rfl, rfl⟩ := lif_some q1
    obtain ⟨hz, rfl⟩ := if_some e3
    refine ⟨by rw [DqAll.length d1]; exact hz, fun p np => ?_⟩
    have sm : Same H1 (upd H1 p (.tup x)) := same_new np
    exact k _ rfl am1 _ _ (st1.trans (Step.of sm)) (s1.same sm) (.tup (.inl (.inl (hid_some.mpr ⟨s1.new np, upd_same⟩))) (dps_mono (hid_same sm) d1))
  · subst q1
    exact qa ph am σ H δ _ _ _ s e1 (fun d ed => by cases ed) (fun c' fs' z => by cases z; exact kx _ _ rfl)
/-- nothing that is new was there -/
theorem Step.none (st : Step am H am' H') {p : Addr} (h : H' p = .none) : H p = .none := by
  cases e : H p with
  | none => rfl
  | some o =>
    obtain ⟨o', e'⟩ := st.there p o e
    rw [h] at e'; cases e'
theorem df_lst (h : DA X W es fs) : DF X W (.List es pos) (xLst fs) := by
  obtain ⟨ta, pa, qa⟩ := h.ex
  refine ⟨⟨_, pe_lst pa, fun ph am σ H δ Q ans δ' s q k kx => ?_⟩⟩
  rcases bnd_some q with ⟨a, δ1, e1, q1⟩ | ⟨c, fs, e1, q1⟩
  · refine qa ph am σ H δ _ _ _ s e1 (fun d ed am1 x H1 st1 s1 d1 => ?_) (fun c fs z => by cases z)
    cases ed
    obtain ⟨z, e3, rfl, rfl⟩ := lif_some q1
    obtain ⟨hz, rfl⟩ := if_some e3
    exact ⟨by rw [DqAll.length d1]; exact hz, fun p np => k _ rfl am1 p x H1 (st1.none np) np st1 s1 d1 (by rw [DqAll.length d1]; exact hz)⟩
  · subst q1
    exact qa ph am σ H δ _ _ _ s e1 (fun d ed => by cases ed) (fun c' fs' z => by cases z; exact kx _ _ rfl)
/-! ### built-ins called by name -/
def xCall (F : List PyData → Option PyData) (fs : M (List PyData)) : M PyData := bnd fs fun ds => lif (F ds)
def xCallF (F : List PyData → Option (List PyData)) (fs : M (List PyData)) : M (List PyData) := bnd fs fun ds => lif (F ds)
theorem call_core {r : List V → Hp → VK → Prop} {F : List PyData → Option PyData} (hr : CallD X r F) (h : DA X W es fs) (rule : ∀ t, PA X es t → PE X e (tCB r t)) : DE X W e (xCall F fs) := by
  obtain ⟨ta, pa, qa⟩ := h.ex
  refine ⟨⟨_, rule _ pa, fun ph am σ H δ Q ans δ' s q k kx => ?_⟩⟩
  rcases bnd_some q with ⟨a, δ1, e1, q1⟩ | ⟨c, fs, e1, q1⟩
  · refine qa ph am σ H δ _ _ _ s e1 (fun d ed am1 x H1 st1 s1 d1 => ?_) (fun c fs z => by cases z)
    cases ed
    obtain ⟨z, e3, rfl, rfl⟩ := lif_some q1
    exact hr ph am1 H1 x a z _ (fun b h => s1.hidden h) d1 e3 fun v H3 sm dv => k _ rfl am1 v H3 (st1.trans (Step.of sm)) (s1.same sm) dv
  · subst q1
    exact qa ph am σ H δ _ _ _ s e1 (fun d ed => by cases ed) (fun c' fs' z => by cases z; exact kx _ _ rfl)
theorem callF_core {r : List V → Hp → VK → Prop} {F : List PyData → Option (List PyData)} (hr : CallF X r F) (h : DA X W es fs) (rule : ∀ t, PA X es t → PE X e (tCB r t)) : DF X W e (xCallF F fs) := by
  obtain ⟨ta, pa, qa⟩ := h.ex
  refine ⟨⟨_, rule _ pa, fun ph am σ H δ Q ans δ' s q k kx => ?_⟩⟩
  rcases bnd_some q with ⟨a, δ1, e1, q1⟩ | ⟨c, fs, e1, q1⟩
  · refine qa ph am σ H δ _ _ _ s e1 (fun d ed am1 x H1 st1 s1 d1 => ?_) (fun c fs z => by cases z)
    cases ed
    obtain ⟨z, e3, rfl, rfl⟩ := lif_some q1
    exact hr ph am1 H1 x a z _ (fun b h => s1.hidden h) d1 e3 fun p vs np dv hz => k _ rfl am1 p vs H1 (st1.none np) np st1 s1 dv hz
  · subst q1
    exact qa ph am σ H δ _ _ _ s e1 (fun d ed => by cases ed) (fun c' fs' z => by cases z; exact kx _ _ rfl)
def xBinF (F : PyData → PyData → Option (List PyData)) (f g : M PyData) : M (List PyData) := bnd f fun a => bnd g fun b => lif (F a b)
theorem binF_core {r : R2} {F : PyData → PyData → Option (List PyData)} (hr : OpF X r F) (ha : DE X W e1 f) (hb : DE X W e2 g) (rule : ∀ ta tb, PE X e1 ta → PE X e2 tb → PE X e (tOp r ta tb)) : DF X W e (xBinF F f g) := by
  obtain ⟨ta, pa, qa⟩ := ha.ex
  obtain ⟨tb, pb, qb⟩ := hb.ex
  refine ⟨⟨_, rule ta tb pa pb, fun ph am σ H δ Q ans δ' s q k kx => ?_⟩⟩
  rcases bnd_some q with ⟨a, δ1, e1, q1⟩ | ⟨c, fs, e1, q1⟩
  · refine qa ph am σ H δ _ _ _ s e1 (fun d ed am1 x H1 st1 s1 d1 => ?_) (fun c fs z => by cases z)
    cases ed
    rcases bnd_some q1 with ⟨b, δ2, e2, q2⟩ | ⟨c, fs, e2, q2⟩
    · refine qb ph am1 σ H1 δ1 _ _ _ s1 e2 (fun d ed am2 y H2 st2 s2 d2 => ?_) (fun c fs z => by cases z)
      cases ed
      obtain ⟨z, e3, rfl, rfl⟩ := lif_some q2
      exact hr ph am2 H2 x y a b z _ (fun b h => s2.hidden h) (dp_mono st2.hid d1) d2 e3 fun p vs np dv hz => k _ rfl am2 p vs H2 ((st1.trans st2).none np) np (st1.trans st2) s2 dv hz
    · subst q2
      exact qb ph am1 σ H1 δ1 _ _ _ s1 e2 (fun d ed => by cases ed) (fun c' fs' z => by cases z; exact (kx _ _ rfl).step st1)
  · subst q1
    exact qa ph am σ H δ _ _ _ s e1 (fun d ed => by cases ed) (fun c' fs' z => by cases z; exact kx _ _ rfl)
end PD
end

section
set_option Elab.async false
set_option linter.all false
set_option maxRecDepth 100000
set_option maxHeartbeats 4000000
namespace PD
open PySem PySem.Spec PyProof.Rows L2
theorem tuple_mulS (l : Addr) (items : Array Value) (n : Nat) (sl : Array (Option Value)) (dd : Option Addr) (x : Int) (u : Tok) (c0 : (decide (x < -(2 ^ 63)) || decide (x ≥ 2 ^ 63)) = false) (c1 : (items.isEmpty || x == 1) = true) :
    Meets (Builtin.«tuple.__mul__» ⟨[.ref l, .int x u], []⟩) (fun _ R s => s.heap.get? l = some { cls := .type "tuple", dict := dd, data := .seq items n, slots := sl } ∧
      R (.ok (.ret (Value.ref l))) s) :=
  .of_wp fun prog w A R s h => by
    obtain ⟨hp, g, d, tk, os⟩ := s
    obtain ⟨hl, h⟩ := h
    have f1 := AutoSeq1.idx_int
    wp_walk using wpAny_loadPart' hl
    repeat (first
      | (refine wpAny_ite_false (decide_eq_false (by rw [c0]; exact Bool.false_ne_true)) ?_; wp_walk using wpAny_loadPart' hl)
      | (refine wpAny_ite_true (decide_eq_true (by rw [c1])) ?_; wp_walk using wpAny_loadPart' hl))
    exact ⟨_, rfl, h⟩
theorem tuple_mul0 (l : Addr) (items : Array Value) (n : Nat) (sl : Array (Option Value)) (dd : Option Addr) (x : Int) (u : Tok) (c0 : (decide (x < -(2 ^ 63)) || decide (x ≥ 2 ^ 63)) = false) (c1 : (items.isEmpty || x == 1) = false) (c2 : (decide (x ≤ 0) || items.isEmpty) = true) :
    Meets (Builtin.«tuple.__mul__» ⟨[.ref l, .int x u], []⟩) (fun _ R s => s.heap.get? l = some { cls := .type "tuple", dict := dd, data := .seq items n, slots := sl } ∧
      R (.ok (.ret (Value.ref s.heap.objs.size))) { s with heap := s.heap.push { cls := Value.type "tuple", data := Data.seq #[] }, toks := s.toks }) :=
  .of_wp fun prog w A R s h => by
    obtain ⟨hp, g, d, tk, os⟩ := s
    obtain ⟨hl, h⟩ := h
    have f1 := AutoSeq1.idx_int
    wp_walk using wpAny_loadPart' hl
    repeat (first
      | (refine wpAny_ite_false (decide_eq_false (by rw [c0]; exact Bool.false_ne_true)) ?_; wp_walk using wpAny_loadPart' hl)
      | (refine wpAny_ite_false (decide_eq_false (by rw [c1]; exact Bool.false_ne_true)) ?_; wp_walk using wpAny_loadPart' hl)
      | (refine wpAny_ite_true (decide_eq_true (by rw [c2])) ?_; wp_walk using wpAny_loadPart' hl))
    exact ⟨_, rfl, h⟩

variable {X : Cx}
def rRepA (K : PySem.W.Frag) : R2 := fun x y H Q => ∃ l k xs, x = .ref l ∧ y = .int k ∧ SqT K H l xs ∧ -(2 ^ 63) ≤ k ∧ k ≤ 1000 ∧ xs.length ≤ 1000 ∧
  ((xs = [] ∨ k = 1) → Q (.ref l) H) ∧ (xs ≠ [] → k ≠ 1 → ∀ p, H p = none → Q (.ref p) (upd H p (.tup (List.replicate k.toNat xs).flatten)))
theorem op_repA : OpR X (binaryOp .Mult) (rRepA X.K) := by
  intro pins s σ H x y v u Q I rx ry h
  obtain ⟨l, k, xs, rfl, rfl, hT, h0, h1, hz, q1, q2⟩ := h
  by_cases big : xs ≠ [] ∧ 2 ≤ k
  · exact op_repT pins s σ H _ _ v u Q I rx ry ⟨l, k, xs, rfl, rfl, hT, big.1, big.2, h1, hz, q2 big.1 (by omega)⟩
  cases rx
  obtain ⟨t, rfl⟩ := ry
  obtain ⟨its, r, ⟨⟨cls, dd, data, sl⟩, ho, hc, n, hd⟩, hs⟩ := I.tuple hT
  simp only at hc hd
  subst hc hd
  have hle : its.length = xs.length := r.length.symm
  have c0 : (decide (k < -(2 ^ 63)) || decide (k ≥ 2 ^ 63)) = false := by
    rw [decide_eq_false (by omega), decide_eq_false (by omega)] <;> rfl
  by_cases c1 : (its.toArray.isEmpty || k == 1) = true
  · have hx : xs = [] ∨ k = 1 := by
      simp only [Bool.or_eq_true, beq_iff_eq] at c1
      rcases c1 with c | c
      · left
        have : its = [] := by simpa using c
        rw [this] at hle
        exact List.eq_nil_of_length_eq_zero hle.symm
      · exact .inr c
    refine wpAny_binaryOp_repeat_ref (T := "tuple") (U := "int") (by decide) ⟨_, ho, rfl⟩ (fun s' => typeIs_int s' k t) noFill_tuple_mul F.fills_int_mul F.slot_int_rmul repeat_tuple F.slot_int_index.lookup
      (call_meets F.slot_int_rmul (typeIs_int s k t) F.entry_int_rmul (F.args_int_rmul_2 _ _) (int_rmul_tuple k t l its.toArray n dd sl)
        ⟨ho, rfl, ⟨_, ho, rfl⟩, call_meets F.slot_tuple_mul ⟨_, ho, rfl⟩ F.entry_tuple_mul (F.args_tuple_mul_2 _ _) (tuple_mulS l its.toArray n sl dd k t c0 c1) ⟨ho, ?_⟩⟩)
    exact ⟨.ref l, H, I, rfl, q1 hx⟩
  · have c1' : (its.toArray.isEmpty || k == 1) = false := by simpa using c1
    have hx : xs ≠ [] := fun e => by
      rw [e] at hle
      have : its = [] := List.eq_nil_of_length_eq_zero hle
      rw [this] at c1'
      simp at c1'
    have hk : k ≠ 1 := fun e => by
      rw [e] at c1'
      simp at c1'
    have hk0 : k ≤ 0 := by
      have : ¬ 2 ≤ k := fun z => big ⟨hx, z⟩
      omega
    have c2 : (decide (k ≤ 0) || its.toArray.isEmpty) = true := by
      rw [decide_eq_true hk0, Bool.true_or]
    refine wpAny_binaryOp_repeat_ref (T := "tuple") (U := "int") (by decide) ⟨_, ho, rfl⟩ (fun s' => typeIs_int s' k t) noFill_tuple_mul F.fills_int_mul F.slot_int_rmul repeat_tuple F.slot_int_index.lookup
      (call_meets F.slot_int_rmul (typeIs_int s k t) F.entry_int_rmul (F.args_int_rmul_2 _ _) (int_rmul_tuple k t l its.toArray n dd sl)
        ⟨ho, rfl, ⟨_, ho, rfl⟩, call_meets F.slot_tuple_mul ⟨_, ho, rfl⟩ F.entry_tuple_mul (F.args_tuple_mul_2 _ _) (tuple_mul0 l its.toArray n sl dd k t c0 c1' c2) ⟨ho, ?_⟩⟩)
    have e0 : (List.replicate k.toNat xs).flatten = [] := by
      rw [show k.toNat = 0 by omega]
      rfl
    refine ⟨.ref s.heap.objs.size, upd H s.heap.objs.size (.tup (List.replicate k.toNat xs).flatten), ?_, rfl, q2 hx hk _ (I.hok.fresh (Nat.le_refl _))⟩
    rw [e0]
    exact I.laid (t' := s.toks) (o := .tup []) (fun b ob q => Heap.get?_push_of_some _ q) (Nat.le_refl _) ⟨Nat.zero_le _, [], .nil, IsTup.new _ _⟩
/-! ### list + list, list * int, of any list that may be read -/
def rCatL (K : PySem.W.Frag) : R2 := fun x y H Q => ∃ l b xs zs, x = .ref l ∧ y = .ref b ∧ SqL K H l xs ∧ SqL K H b zs ∧ xs.length + zs.length ≤ sizeLine ∧ ∀ p, H p = none → Q (.ref p) (upd H p (.lst (xs ++ zs)))
theorem op_catL : OpR X (binaryOp .Add) (rCatL X.K) := by
  intro pins s σ H x y v u Q I rx ry h
  obtain ⟨l, b, xs, zs, rfl, rfl, hH, hB, hz, q⟩ := h
  cases rx
  cases ry
  obtain ⟨its, r, p1, _⟩ := I.list hH
  obtain ⟨its2, r2, p2, _⟩ := I.list hB
  have hl := r.length
  have hl2 := r2.length
  obtain ⟨⟨cls, dd, data, sl⟩, ho, hc, n, hd⟩ := p1.isList
  obtain ⟨⟨cls2, dd2, data2, sl2⟩, ho2, hc2, n2, hd2⟩ := p2.isList
  simp only at hc hd hc2 hd2
  subst hc hd hc2 hd2
  have e : its.toArray ++ its2.toArray = (its ++ its2).toArray := by simp
  refine concat_meets ⟨_, ho, rfl⟩ ⟨_, ho2, rfl⟩ noFill_list_add seq_list_add PySem.F.slot_list_add PySem.F.entry_list_add (PySem.F.args_list_add_2 _ _) (list_addW l b its.toArray its2.toArray n n2 dd dd2 sl sl2 (by rw [List.size_toArray, List.size_toArray]; omega)) ⟨ho, ho2, ?_⟩
  rw [e]
  exact ⟨.ref _, _, I.lnew (t' := s.toks) (r.append r2) (by rw [List.length_append]; omega), rfl, q _ I.fresh⟩
end PD
end

section
set_option Elab.async false
set_option linter.all false
set_option maxRecDepth 100000
set_option maxHeartbeats 2000000
namespace PD
open PySem PySem.Spec PyProof.Rows L2
/-! ### lists and tuples, in any mix, under zip and enumerate -/
def SqK (k : Bool) (K : PySem.W.Frag) (H : Hp) (a : Addr) (xs : List V) : Prop := if k = true then SqL K H a xs else SqT K H a xs
def IsK (k : Bool) (h : Heap) (a : Addr) (its : Array Value) : Prop := if k = true then h.IsList a its else h.IsTuple a its
def ItK (k : Bool) (h : Heap) (it a : Addr) (i : Nat) : Prop := if k = true then h.IsListIter it a i else h.IsTupleIter it a i
def obK (k : Bool) (a : Addr) : Obj := if k = true then { cls := .type "list_iterator", data := .fields #[.ref a, .int 0 0] } else { cls := .type "tuple_iterator", data := .fields #[.ref a, .int 0 0] }
theorem seq_of {X : Cx} {pins : List (Addr × Obj)} {σ : L2.St} {H : Hp} {s : Shared} {a : Addr} {xs : List V} {k : Bool} (I : Inv X pins σ H s) (q : SqK k X.K H a xs) : ∃ its : List Value, Vals xs its ∧ IsK k s.heap a its.toArray ∧ xs.length ≤ sizeLine := by
  cases k with
  | true =>
    obtain ⟨its, r, p, z⟩ := I.list (show SqL _ _ _ _ from q)
    exact ⟨its, r, p.isList, z⟩
  | false =>
    obtain ⟨its, r, p, z⟩ := I.tuple (show SqT _ _ _ _ from q)
    exact ⟨its, r, p, z⟩
theorem seq_inj {X : Cx} {pins : List (Addr × Obj)} {σ : L2.St} {H : Hp} {s : Shared} {a : Addr} {xs ys : List V} {k : Bool} (I : Inv X pins σ H s) (q : SqK k X.K H a xs) (q' : SqK k X.K H a ys) : xs = ys := by
  cases k with
  | true => exact I.list_inj q q'
  | false => exact I.tuple_inj q q'
theorem begins_k (k : Bool) (a : Addr) (items : Array Value) : Begins (.ref a) (obK k a) fun h => IsK k h a items := by
  cases k with
  | true => exact begins_list a items
  | false => exact begins_tuple a items
theorem draws_k {prog : Program} {w : World} {A : Around} (k : Bool) (hh : A.handled = none) (it a : Addr) (hne : a ≠ it) (items : Array Value) :
    Draws prog w A it [it, a] items.size (fun i v => items[i]? = some v) (fun i h => ItK k h it a i ∧ IsK k h a items) := by
  cases k with
  | true => exact Draws.list hh it a hne items
  | false => exact Draws.tuple hh it a hne items
theorem itK_at {k : Bool} {h h' : Heap} {it a : Addr} {i : Nat} (x : ItK k h it a i) (e : ∀ o, h.get? it = some o → h'.get? it = some o) : ItK k h' it a i := by
  cases k with
  | true => exact Heap.IsListIter.at (show h.IsListIter it a i from x) e
  | false => exact Heap.IsTupleIter.at (show h.IsTupleIter it a i from x) e
theorem itK_ob {k : Bool} {h : Heap} {it a : Addr} {i : Nat} (x : ItK k h it a i) : ∃ o, h.get? it = some o ∧ ∀ v, o.data ≠ .cell v := by
  cases k with
  | true =>
    obtain ⟨o, e, _, d⟩ := (show h.IsListIter it a i from x)
    exact ⟨o, e, fun v q => by rw [d] at q; cases q⟩
  | false =>
    obtain ⟨o, e, _, d⟩ := (show h.IsTupleIter it a i from x)
    exact ⟨o, e, fun v q => by rw [d] at q; cases q⟩
theorem itK_new {k : Bool} {h : Heap} {it a : Addr} (x : h.get? it = some (obK k a)) : ItK k h it a 0 := by
  cases k with
  | true => exact ⟨_, x, rfl, rfl⟩
  | false => exact ⟨_, x, rfl, rfl⟩
def ItzK (k1 k2 : Bool) (K : PySem.W.Frag) (a b : Addr) : It :=
  ⟨fun i H => ∃ (xs ys : List V) (x y : V), SqK k1 K H a xs ∧ SqK k2 K H b ys ∧ xs[i]? = some x ∧ ys[i]? = some y,
    fun i H v H' => ∃ T x y, v = .ref T ∧ H T = none ∧ H' = upd H T (.tup [x, y]) ∧ (∀ xs, SqK k1 K H a xs → xs[i]? = some x) ∧ ∀ ys, SqK k2 K H b ys → ys[i]? = some y,
    fun i H => ∃ xs ys : List V, SqK k1 K H a xs ∧ SqK k2 K H b ys ∧ i = min xs.length ys.length⟩
theorem turn_zipK {P : Program} {w : World} {K : PySem.W.Frag} {elts : List Expr} {kk : Nat} {tpos : Pos} {k1 k2 : Bool} {a b z TI TO i1 i2 : Addr} (D : ZipSep2 z TI TO i1 i2 [i1, a] [i2, b]) (ha : a ≠ i1) (hb : b ≠ i2) :
    Turn P w K (.Tuple elts kk tpos) (ItzK k1 k2 K a b) [z, TI, TO, i1, i2] z (fun i h => IsZip h z TI TO .none ∧ IsPair h TI (.ref i1) (.ref i2) ∧ (∃ x y, IsPair h TO x y) ∧ ItK k1 h i1 a i ∧ ItK k2 h i2 b i) where
  mem := by simp
  obj := fun i h st c hc => by
    obtain ⟨hz, hTI, ⟨x, y, hTO⟩, h1, h2⟩ := st
    have e' : c = z ∨ c = TI ∨ c = TO ∨ c = i1 ∨ c = i2 := by simpa using hc
    rcases e' with q | q | q | q | q
    · rw [q]; exact ⟨_, hz, fun v q => nomatch q⟩
    · rw [q]; exact ⟨_, hTI, fun v q => nomatch q⟩
    · rw [q]; exact ⟨_, hTO, fun v q => nomatch q⟩
    · rw [q]; exact itK_ob h1
    · rw [q]; exact itK_ob h2
  keep := fun i h h' st k => by
    obtain ⟨hz, hTI, ⟨x, y, hTO⟩, h1, h2⟩ := st
    exact ⟨k z (by simp) _ hz, k TI (by simp) _ hTI, ⟨x, y, k TO (by simp) _ hTO⟩, itK_at h1 fun o q => k i1 (by simp) o q, itK_at h2 fun o q => k i2 (by simp) o q⟩
  item := by
    intro X hP hw hK hc i pins s σ H E I hf st hg
    subst hP hw hK
    obtain ⟨hz, hTI, ⟨x0, y0, hTO⟩, h1, h2⟩ := st
    obtain ⟨xs, ys, x, y, hqx, hqy, hx, hy⟩ := hg
    obtain ⟨its, rv, p, _⟩ := seq_of I hqx
    obtain ⟨its2, rv2, p2, _⟩ := seq_of I hqy
    obtain ⟨u, hu, ru⟩ := rv.get hx
    obtain ⟨u2, hu2, ru2⟩ := rv2.get hy
    have hzl : z < s.heap.objs.size := Heap.lt_size hz
    have D1 := draws_k (prog := X.prog) (w := X.w) (A := X.A.in1) k1 (I.ok.hd hc) i1 a ha its.toArray
    have D2 := draws_k (prog := X.prog) (w := X.w) (A := X.A.in1) k2 (I.ok.hd hc) i2 b hb its2.toArray
    have l1 : i < its.toArray.size := by rw [List.size_toArray]; exact (List.getElem?_eq_some_iff.mp hu).1
    have l2 : i < its2.toArray.size := by rw [List.size_toArray]; exact (List.getElem?_eq_some_iff.mp hu2).1
    refine wpAny_pyNext_zipD2_item D D1 D2 hz hTI hTO ⟨h1, p⟩ ⟨h2, p2⟩ l1 l2 fun x1 x2 h' tk g1 g2 z' TO' s1' s2' hT hsz hk => ?_
    have e1 : x1 = u := by
      have : its.toArray[i]? = some u := by simpa using hu
      rw [this] at g1
      exact (Option.some.inj g1).symm
    have e2 : x2 = u2 := by
      have : its2.toArray[i]? = some u2 := by simpa using hu2
      rw [this] at g2
      exact (Option.some.inj g2).symm
    subst e1 e2
    refine ⟨_, rfl, wpAny_letOwnedTupleGo_zip (s := { s with heap := h', toks := tk }) z' fun h'' z'' sb => ?_⟩
    have hT2 : h''.get? s.heap.objs.size = some { cls := .type "tuple", data := .seq #[x1, x2] } := (sb.2 _ (Nat.ne_of_gt hzl)).trans hT
    have new : ObjOk X.prog X.w (upd H s.heap.objs.size (.tup [x, y])) h'' s.heap.objs.size (.tup [x, y]) :=
      ⟨by show 2 ≤ sizeLine; decide, [x1, x2], .cons ru (.cons ru2 .nil), ⟨_, hT2, rfl, _, rfl⟩⟩
    have I1 : Inv X pins σ (upd H s.heap.objs.size (.tup [x, y])) { s with heap := h'', toks := tk } :=
      I.turnedNew (t' := tk) (ch := [z, TI, TO, i1, i2]) (fun c o hb q => (sb.2 c (fun q' => hb (by simp [q']))).trans (hk c o (fun q' => hb (by simp [q'])) (fun q' => hb (by simp [q'])) (fun q' => hb (by simp [q'])) (fun q' => hb (by simp [q'])) q)) hf (Nat.le_refl _) new
    refine ⟨.ref s.heap.objs.size, _, I1, rfl, ⟨_, x, y, rfl, I.hok.fresh (Nat.le_refl _), rfl, fun l hl => by rw [seq_inj I hl hqx]; exact hx, fun l hl => by rw [seq_inj I hl hqy]; exact hy⟩, ⟨z'', ?_, ⟨x1, x2, ?_⟩, ?_, ?_⟩, fun c hcm => ?_⟩
    · exact (sb.2 _ D.TIz).trans (hk _ _ D.TIz D.TITO D.TIi1 D.TIi2 hTI)
    · exact (sb.2 _ D.TOz).trans TO'
    · exact itK_at s1'.1 fun o q => (sb.2 _ (fun e => D.zi1 e.symm)).trans q
    · exact itK_at s2'.1 fun o q => (sb.2 _ (fun e => D.zi2 e.symm)).trans q
    · have hlt : c < s.heap.objs.size := by
        have e' : c = z ∨ c = TI ∨ c = TO ∨ c = i1 ∨ c = i2 := by simpa using hcm
        rcases e' with q | q | q | q | q
        · rw [q]; exact hzl
        · rw [q]; exact Heap.lt_size hTI
        · rw [q]; exact Heap.lt_size hTO
        · rw [q]; obtain ⟨_, e1, _⟩ := itK_ob h1; exact Heap.lt_size e1
        · rw [q]; obtain ⟨_, e2, _⟩ := itK_ob h2; exact Heap.lt_size e2
      rw [upd_ne (Nat.ne_of_lt hlt)]
      exact (hf c hcm).1
  done := by
    intro X hP hw hK hc i pins s σ H E I hf st hg
    subst hP hw hK
    obtain ⟨hz, hTI, ⟨x0, y0, hTO⟩, h1, h2⟩ := st
    obtain ⟨xs, ys, hqx, hqy, hend⟩ := hg
    obtain ⟨its, rv, p, _⟩ := seq_of I hqx
    obtain ⟨its2, rv2, p2, _⟩ := seq_of I hqy
    have l1 := rv.length
    have l2 := rv2.length
    have D1 := draws_k (prog := X.prog) (w := X.w) (A := X.A.in1) k1 (I.ok.hd hc) i1 a ha its.toArray
    have D2 := draws_k (prog := X.prog) (w := X.w) (A := X.A.in1) k2 (I.ok.hd hc) i2 b hb its2.toArray
    exact wpAny_pyNext_zipD2_end D D1 D2 hz hTI hTO ⟨h1, p⟩ ⟨h2, p2⟩ (by rw [List.size_toArray]; omega) (by rw [List.size_toArray]; omega) (by rw [List.size_toArray, List.size_toArray]; omega) fun h' tk hk => ⟨rfl, I.turnedL (t' := tk) (ch := [z, TI, TO, i1, i2]) (fun c o hb q =>
      hk c o (fun q' => hb (by simp [q'])) (fun q' => hb (by simp [q'])) (fun q' => hb (by simp [q'])) (fun q' => hb (by simp [q'])) q) hf⟩
  self := fun A i s Q E st h => wpAny_pyIter_zip st.1 h
def iZipK (K : PySem.W.Frag) (ta : TA) : TI := fun σ H R => ta σ H fun vs H1 => ∃ k1 k2 a b xs ys, vs = [.ref a, .ref b] ∧ SqK k1 K H1 a xs ∧ SqK k2 K H1 b ys ∧ R (ItzK k1 k2 K a b) H1
theorem isK_lt {k : Bool} {h : Heap} {a : Addr} {its : Array Value} (x : IsK k h a its) : a < h.objs.size := by
  cases k with
  | true => obtain ⟨o, e, _⟩ := (show h.IsList a its from x); exact Heap.lt_size e
  | false => obtain ⟨o, e, _⟩ := (show h.IsTuple a its from x); exact Heap.lt_size e
theorem pi_zipK {X : Cx} {e e2 : Expr} {ta : TA} {p pos tpos : Pos} {elts : List Expr} {kk : Nat} (hg : Gl X "zip") (hm : X.mg "zip" = none) (ha : PA X [e, e2] ta)
    (hs : starEach [e, e2] X.env = (false, eval e X.env) :: starEach [e2] X.env) (hpl : (backTo pos (starEach [e2] X.env)).any (·.1) = false) :
    PI X (.Tuple elts kk tpos) (.Call (.Name "zip" p) [e, e2] [] pos) (iZipK X.K ta) := by
  refine ⟨fun pins s σ H R I h => ?_⟩
  refine Call_ (ld_blt I hg hm PyProof.Rows.boot_zip (PyProof.Rows.callWith_type1 (thn (ha.run pos pins s σ H _ I h) fun us s1 ⟨vs, H1, I1, r1, q1⟩ => ?_) hs hpl))
  obtain ⟨k1, k2, a, b, xs, ys, ex, hqx, hqy, q⟩ := q1
  subst ex
  cases r1 with
  | cons r rr =>
    cases rr with
    | cons r' rr =>
      cases rr
      cases r
      cases r'
      obtain ⟨its, rv, p1, _⟩ := seq_of I1 hqx
      obtain ⟨its2, rv2, p2, _⟩ := seq_of I1 hqy
      have la : a < s1.heap.objs.size := isK_lt p1
      have lb : b < s1.heap.objs.size := isK_lt p2
      refine zip_begins2 (begins_k k1 a its.toArray) (begins_k k2 b its2.toArray) p1 p2 fun h' hz hTI hTO h1 h2 hsz hk => wpAny_pyIter_zip hz ?_
      have I2 : Inv X pins σ H1 { s1 with heap := h' } := I1.kept (t' := s1.toks) hk
      have sep : ZipSep2 (s1.heap.objs.size + 4) (s1.heap.objs.size + 2) (s1.heap.objs.size + 3) s1.heap.objs.size (s1.heap.objs.size + 1) (s1.heap.objs.size :: [a]) ((s1.heap.objs.size + 1) :: [b]) :=
        zip_sep2 (fun c hc => by rw [List.mem_singleton.mp hc]; exact la) (fun c hc => by rw [List.mem_singleton.mp hc]; exact lb)
      refine ⟨s1.heap.objs.size + 4, [s1.heap.objs.size + 4, s1.heap.objs.size + 2, s1.heap.objs.size + 3, s1.heap.objs.size, s1.heap.objs.size + 1], _, _, H1, rfl, I2, turn_zipK sep (Nat.ne_of_lt la) (Nat.ne_of_lt (Nat.lt_succ_of_lt lb)), ⟨hz, hTI, ⟨_, _, hTO⟩, itK_new h1, itK_new h2⟩, fun c hcm => ?_, q⟩
      have e' : c = s1.heap.objs.size + 4 ∨ c = s1.heap.objs.size + 2 ∨ c = s1.heap.objs.size + 3 ∨ c = s1.heap.objs.size ∨ c = s1.heap.objs.size + 1 := by simpa using hcm
      have hle : s1.heap.objs.size ≤ c := by
        rcases e' with z | z | z | z | z
        · rw [z]; exact Nat.le_add_right _ _
        · rw [z]; exact Nat.le_add_right _ _
        · rw [z]; exact Nat.le_add_right _ _
        · rw [z]; exact Nat.le_refl _
        · rw [z]; exact Nat.le_add_right _ _
      exact I1.fpOk hle (I1.hok.fresh hle)
theorem walk_zipK {K : PySem.W.Frag} {k1 k2 : Bool} {a b : Addr} {xs ys : List V} {n : Nat} (hn : n = min xs.length ys.length) : Walk (ItzK k1 k2 K a b) n (fun H => SqK k1 K H a xs ∧ SqK k2 K H b ys) (YPair (fun i => xs[i]?) (fun i => ys[i]?)) := by
  subst hn
  refine ⟨fun i _ hi q => ?_, fun _ q => ⟨xs, ys, q.1, q.2, rfl⟩, fun i H v H' _ q y => ?_⟩
  · have h1 : i < xs.length := by omega
    have h2 : i < ys.length := by omega
    exact ⟨xs, ys, xs[i], ys[i], q.1, q.2, by simp [h1], by simp [h2]⟩
  · obtain ⟨T, x, z, h1, h2, h3, h4, h5⟩ := y
    exact ⟨T, x, z, h1, h2, h3, h4 xs q.1, h5 ys q.2⟩
/-! enumerate -/
theorem meets_enumerate_newB0 {v : Value} {o : Obj} {H : Heap → Prop} (B : Begins v o H) :
    Meets (Builtin.«enumerate.__new__» ⟨[.type "enumerate", v], []⟩) (fun _ R s => H s.heap ∧
      R (.ok (.ret (.ref (s.heap.push o).objs.size))) { s with heap := (s.heap.push o).push { cls := .type "enumerate", data := .fields #[.none, .bool false, .ref s.heap.objs.size, rawInt 0, .none, .none] } }) :=
  .of_wp fun prog w A R s h => by
    obtain ⟨hp, g, d, tk, os⟩ := s; obtain ⟨h1, h⟩ := h
    have hsub := sub_enumerate
    have q1 : ∀ {A' : Around} {E : Value → Shared → Prop} {Q : Value → Shared → Prop}, Q (.ref hp.objs.size) ⟨hp.push o, g, d, tk, os⟩ → wpAny (model prog w) A' (pyIter v) Q E ⟨hp, g, d, tk, os⟩ :=
      fun q => B.iter prog w _ _ ⟨hp, g, d, tk, os⟩ _ h1 q
    wp_walk using q1
    refine wpAny_stack_any fun st => wpAny_pure ?_
    split
    · rename_i c _ _ _ _ _
      cases (c == Value.type "enumerate")
      · wp_walk using q1
        exact ⟨_, rfl, h⟩
      · wp_walk using q1
        exact ⟨_, rfl, h⟩
    · wp_walk using q1
      exact ⟨_, rfl, h⟩
theorem enum_begins0 {prog : Program} {w : World} {A : Around} {E : Value → Shared → Prop} {s : Shared} {v : Value} {o : Obj} {H : Heap → Prop} {Q : Value → Shared → Prop} (B : Begins v o H) (h1 : H s.heap)
    (h : ∀ h', IsEnum h' (s.heap.objs.size + 1) s.heap.objs.size 0 .none → h'.get? s.heap.objs.size = some o → h'.objs.size = s.heap.objs.size + 2 →
      (∀ b o, s.heap.get? b = some o → h'.get? b = some o) → Q (.ref (s.heap.objs.size + 1)) { s with heap := h' }) :
    wpAny (model prog w) A (call (.type "enumerate") [v]) Q E s := by
  refine callType_new F.called_enumerate (by decide) (F.typeCall_enumerate_1 _) (F.newCall_enumerate_1 _) (fun obj => F.args_object_init_2 obj _) F.entry_enumerate_new
    (meets_enumerate_newB0 B) ⟨h1, ?_⟩
  have hz : (s.heap.push o).objs.size = s.heap.objs.size + 1 := Heap.size_push ..
  show _ ∧ _
  rw [hz]
  have he : IsEnum ((s.heap.push o).push { cls := .type "enumerate", data := .fields #[.none, .bool false, .ref s.heap.objs.size, rawInt 0, .none, .none] }) (s.heap.objs.size + 1) s.heap.objs.size 0 .none := by
    have := Heap.get?_push_size (s.heap.push o) (o := { cls := .type "enumerate", data := .fields #[.none, .bool false, .ref s.heap.objs.size, rawInt 0, .none, .none] }) rfl
    rw [hz] at this; exact this
  refine ⟨⟨_, he, rfl⟩, h _ he (Heap.get?_push_of_some _ (Heap.get?_push_size _ B.free)) (by rw [Heap.size_push, hz]) fun b o x => Heap.get?_push_of_some _ (Heap.get?_push_of_some _ x)⟩
def IteK (k : Bool) (K : PySem.W.Frag) (a : Addr) : It :=
  ⟨fun i H => ∃ (xs : List V) (x : V), SqK k K H a xs ∧ xs[i]? = some x, fun i H v H' => ∃ T x, v = .ref T ∧ H T = none ∧ H' = upd H T (.tup [.int (i : Nat), x]) ∧ ∀ xs, SqK k K H a xs → xs[i]? = some x, fun i H => ∃ xs : List V, SqK k K H a xs ∧ xs.length = i⟩
theorem turn_enumK {P : Program} {w : World} {K : PySem.W.Frag} {elts : List Expr} {kk : Nat} {tpos : Pos} {k : Bool} {a e it : Addr} (hne : e ≠ it) (hea : e ≠ a) (hai : a ≠ it) :
    Turn P w K (.Tuple elts kk tpos) (IteK k K a) [e, it] e (fun i h => (∃ old, IsEnum h e it ((i : Nat) : Int) old) ∧ ItK k h it a i) where
  mem := by simp
  obj := fun i h st b hb => by
    obtain ⟨⟨old, he⟩, h1⟩ := st
    have e' : b = e ∨ b = it := by simpa using hb
    rcases e' with z | z
    · rw [z]; exact ⟨_, he, fun v q => nomatch q⟩
    · rw [z]; exact itK_ob h1
  keep := fun i h h' st k => let ⟨⟨old, he⟩, hi⟩ := st; ⟨⟨old, k e (by simp) _ he⟩, itK_at hi fun o q => k it (by simp) o q⟩
  item := by
    intro X hP hw hK hc i pins s σ H E I hf st hg
    subst hP hw hK
    obtain ⟨⟨old, he⟩, hit⟩ := st
    obtain ⟨xs, x, hq, hx⟩ := hg
    obtain ⟨its, rv, p, hz⟩ := seq_of I hq
    obtain ⟨u, hu, ru⟩ := rv.get hx
    have hel : e < s.heap.objs.size := Heap.lt_size he
    have hil : it < s.heap.objs.size := by obtain ⟨_, q, _⟩ := itK_ob hit; exact Heap.lt_size q
    have D1 := draws_k (prog := X.prog) (w := X.w) (A := X.A.in1) k (I.ok.hd hc) it a hai its.toArray
    have l1 : i < its.toArray.size := by rw [List.size_toArray]; exact (List.getElem?_eq_some_iff.mp hu).1
    refine wpAny_pyNext_enum_itemD D1 he ⟨hit, p⟩ l1 hne (by simp [hne, hea]) fun x1 h' tk g1 ho st' hT hsz hk => ?_
    have e1 : x1 = u := by
      have : its.toArray[i]? = some u := by simpa using hu
      rw [this] at g1
      exact (Option.some.inj g1).symm
    subst e1
    refine ⟨_, rfl, wpAny_letOwnedTupleGo_enum (s := { s with heap := h', toks := tk + 1 }) ho fun h'' he' sb => ?_⟩
    have hT2 : h''.get? s.heap.objs.size = some { cls := .type "tuple", data := .seq #[.int i tk, x1] } := (sb.2 _ (Nat.ne_of_gt hel)).trans hT
    have new : ObjOk X.prog X.w (upd H s.heap.objs.size (.tup [.int (i : Nat), x])) h'' s.heap.objs.size (.tup [.int (i : Nat), x]) :=
      ⟨by show 2 ≤ sizeLine; decide, [.int i tk, x1], .cons ⟨_, rfl⟩ (.cons ru .nil), ⟨_, hT2, rfl, _, rfl⟩⟩
    have I1 : Inv X pins σ (upd H s.heap.objs.size (.tup [.int (i : Nat), x])) { s with heap := h'', toks := tk + 1 } :=
      I.turnedNew (ch := [e, it]) (fun b ob hb q => (sb.2 b (fun z => hb (by simp [z]))).trans (hk b ob (fun z => hb (by simp [z])) (fun z => hb (by simp [z])) q)) hf (Nat.le_refl _) new
    refine ⟨.ref s.heap.objs.size, _, I1, rfl, ⟨_, x, rfl, I.hok.fresh (Nat.le_refl _), rfl, fun ys hy => by rw [seq_inj I hy hq]; exact hx⟩, ⟨⟨x1, ?_⟩, itK_at st'.1 fun o q => (sb.2 it (Ne.symm hne)).trans q⟩, fun b hb => ?_⟩
    · have e1 : ((i + 1 : Nat) : Int) = (i : Int) + 1 := by omega
      rw [e1]; exact he'
    · have hb' : b < s.heap.objs.size := by
        have e' : b = e ∨ b = it := by simpa using hb
        rcases e' with z | z
        · rw [z]; exact hel
        · rw [z]; exact hil
      rw [upd_ne (Nat.ne_of_lt hb')]
      exact (hf b hb).1
  done := by
    intro X hP hw hK hc i pins s σ H E I hf st hg
    subst hP hw hK
    obtain ⟨⟨old, he⟩, hit⟩ := st
    obtain ⟨xs, hq, hx⟩ := hg
    obtain ⟨its, rv, p, hz⟩ := seq_of I hq
    have hl := rv.length
    have D1 := draws_k (prog := X.prog) (w := X.w) (A := X.A.in1) k (I.ok.hd hc) it a hai its.toArray
    have W := WalksT.enumerateD D1 e hne (by simp [hne, hea]) (by simp)
    subst hx
    have hs : its.toArray.size = xs.length := by rw [List.size_toArray]; omega
    refine W.done s _ _ ⟨⟨old, by rw [hs]; exact he⟩, by rw [hs]; exact ⟨hit, p⟩⟩ fun h' tk hk => ?_
    exact ⟨rfl, I.turnedL (t' := tk) (ch := [e, it]) (fun c o hb q => hk c o hb q) hf⟩
  self := fun A i s Q E st h => wpAny_pyIter_enum st.1.choose_spec h
def iEnumK (K : PySem.W.Frag) (ta : TA) : TI := fun σ H R => ta σ H fun vs H1 => ∃ k a xs, vs = [.ref a] ∧ SqK k K H1 a xs ∧ R (IteK k K a) H1
theorem pi_enumK {X : Cx} {e : Expr} {ta : TA} {p pos tpos : Pos} {elts : List Expr} {kk : Nat} (hg : Gl X "enumerate") (hm : X.mg "enumerate" = none) (ha : PA X [e] ta) (hs : starEach [e] X.env = [(false, eval e X.env)]) :
    PI X (.Tuple elts kk tpos) (.Call (.Name "enumerate" p) [e] [] pos) (iEnumK X.K ta) := by
  refine ⟨fun pins s σ H R I h => ?_⟩
  refine Call_ (ld_blt I hg hm boot_enumerate (PyProof.Rows.callWith_type1 (thn (ha.run pos pins s σ H _ I h) fun us s1 ⟨vs, H1, I1, r1, q1⟩ => ?_) hs rfl))
  obtain ⟨k, a, xs, ex, hq, q⟩ := q1
  subst ex
  cases r1 with
  | cons r rr =>
    cases rr
    cases r
    obtain ⟨its, rv, p', hz⟩ := seq_of I1 hq
    have la : a < s1.heap.objs.size := isK_lt p'
    refine enum_begins0 (begins_k k a its.toArray) p' fun h' he hit hsz hk => wpAny_pyIter_enum he ?_
    have I2 : Inv X pins σ H1 { s1 with heap := h' } := I1.kept (t' := s1.toks) hk
    refine ⟨s1.heap.objs.size + 1, [s1.heap.objs.size + 1, s1.heap.objs.size], _, _, H1, rfl, I2, turn_enumK (a := a) (e := s1.heap.objs.size + 1) (it := s1.heap.objs.size) (Nat.succ_ne_self _) (Nat.ne_of_gt (Nat.lt_succ_of_lt la)) (Nat.ne_of_lt la), ⟨⟨.none, he⟩, itK_new hit⟩, fun b hb => ?_, q⟩
    have e' : b = s1.heap.objs.size + 1 ∨ b = s1.heap.objs.size := by simpa using hb
    have hle : s1.heap.objs.size ≤ b := by
      rcases e' with z | z
      · rw [z]; exact Nat.le_succ _
      · rw [z]; exact Nat.le_refl _
    exact I1.fpOk hle (I1.hok.fresh hle)
theorem walk_enumK {K : PySem.W.Frag} {k : Bool} {a : Addr} {xs : List V} : Walk (IteK k K a) xs.length (fun H => SqK k K H a xs) (YPair (fun i => some (.int (i : Nat))) (fun i => xs[i]?)) := by
  refine ⟨fun i _ hi q => ⟨xs, xs[i], q, by simp [hi]⟩, fun _ q => ⟨xs, q, rfl⟩, fun i H v H' _ q y => ?_⟩
  obtain ⟨T, x, h1, h2, h3, h4⟩ := y
  exact ⟨T, .int (i : Nat), x, h1, h2, h3, rfl, h4 xs q⟩
/-! a list or a tuple as it is -/
def iSeqK (K : PySem.W.Frag) (tl : TE) : TI := fun σ H R => tl σ H fun x H1 => ∃ a, x = .ref a ∧ ((∃ xs, SqL K H1 a xs) ∧ R (Itl K a) H1 ∨ (∃ xs, SqT K H1 a xs) ∧ R (Itt K a) H1)
theorem pi_seqK {X : Cx} {tg l : Expr} {tl : TE} (hl : PE X l tl) : PI X tg l (iSeqK X.K tl) := by
  refine ⟨fun pins s σ H R I h => ?_⟩
  refine thn (hl.run pins s σ H _ I h) fun u s1 ⟨x, H1, I1, r1, a, e, q⟩ => ?_
  subst e
  cases r1
  rcases q with ⟨⟨xs, hq⟩, q⟩ | ⟨⟨xs, hq⟩, q⟩
  · obtain ⟨its, rv, p', hz⟩ := I1.list hq
    refine wpAny_pyIter_list p'.isList (pi_one (tk := s1.toks) I1 _ (turn_list a _) ?_ q)
    exact ⟨_, Heap.get?_push_size _ rfl, rfl, rfl⟩
  · obtain ⟨its, rv, p', hz⟩ := I1.tuple hq
    refine wpAny_pyIter_tuple p' (pi_one (tk := s1.toks) I1 _ (turn_tuple a _) ?_ q)
    exact ⟨_, Heap.get?_push_size _ rfl, rfl, rfl⟩
end PD
end

section
set_option Elab.async false
set_option linter.all false
set_option maxRecDepth 100000
set_option maxHeartbeats 1000000
namespace PD
open PySem PySem.Spec PyProof.Rows L2
variable {X : Cx} {W : WX} {pos : Pos} {e e1 e2 : Expr} {es : List Expr} {f g : M PyData} {fs : M (List PyData)}
variable {K : PySem.W.Frag} {ph : Fx} {am am' : Am} {H H' : Hp} {σ : L2.St} {δ δ' : Sg} {p : Addr}

theorem seqT_hid {a : Addr} {xs : List V} (q : SqT K (hid ph am H) a xs) : SqT K H a xs := seqT_mono hid_sub q
theorem rd_hid {a : Addr} {xs : List V} (q : SqL K (hid ph am H) a xs) : SqL K H a xs := hid_sub.seq q
/-- a new object is not hidden -/
theorem new_hid {o : HO} (hn : ∀ b, Hid ph am b → ∃ o, H b = some o) (h : H p = none) : hid ph am (upd H p o) p = some o :=
  hid_some.mpr ⟨fun q => (by
    obtain ⟨o, e⟩ := hn p q
    rw [h] at e
    cases e), upd_same⟩
theorem new_tup {xs : List V} {ds : List PyData} (hn : ∀ b, Hid ph am b → ∃ o, H b = some o) (h : H p = none) (d : DqAll K (hid ph am H) xs ds) : Dq K (hid ph am (upd H p (.tup xs))) (.ref p) (.tuple ds) :=
  .tup (.inl (.inl (new_hid hn h))) (dps_mono (hid_same (same_new h)) d)
theorem new_lst {xs : List V} {ds : List PyData} (hn : ∀ b, Hid ph am b → ∃ o, H b = some o) (h : H p = none) (d : DqAll K (hid ph am H) xs ds) : Dq K (hid ph am (upd H p (.lst xs))) (.ref p) (.list ds) :=
  .lst (.inl (.inl (new_hid hn h))) (dps_mono (hid_same (same_new h)) d)
theorem OpD.or {r r' : R2} {F G : PyData → PyData → Option PyData} (h : OpD X r F) (h' : OpD X r' G) : OpD X (fun x y H Q => r x y H Q ∨ r' x y H Q) (fun a b => match F a b with | some c => some c | none => G a b) := by
  intro ph am H x y d e c Q hn dx dy q k
  simp only at q
  cases hF : F d e with
  | some c' =>
    rw [hF] at q
    cases q
    exact .inl (h ph am H x y d e _ Q hn dx dy hF k)
  | none =>
    rw [hF] at q
    exact .inr (h' ph am H x y d e _ Q hn dx dy q k)

/-! ### ints -/
def intsD (F : Int → Int → Option PyData) : PyData → PyData → Option PyData
  | .int i, .int j => F i j
  | _, _ => none
theorem opd_rI0 {gv : Int → Int → V} {gd : Int → Int → PyData} (h : ∀ H i j, Dq X.K H (gv i j) (gd i j)) : OpD X (rI0 gv) (intsD fun i j => some (gd i j)) := by
  intro ph am H x y d e c Q hn dx dy q k
  cases dx with
  | int i =>
    cases dy with
    | int j =>
      cases q
      exact ⟨i, j, rfl, rfl, k _ H (Same.refl H) (h _ i j)⟩
    | _ => cases q
  | _ => cases q
theorem opd_rI {C : Int → Int → Prop} {Cb : Int → Int → Bool} {gv : Int → Int → V} {gd : Int → Int → PyData} (h : ∀ H i j, Dq X.K H (gv i j) (gd i j)) (hc : ∀ i j, Cb i j = true → C i j) : OpD X (rI C gv) (intsD fun i j => if Cb i j = true then some (gd i j) else none) := by
  intro ph am H x y d e c Q hn dx dy q k
  cases dx with
  | int i =>
    cases dy with
    | int j =>
      obtain ⟨h1, rfl⟩ := if_some q
      exact ⟨i, j, rfl, rfl, hc i j h1, k _ H (Same.refl H) (h _ i j)⟩
    | _ => cases q
  | _ => cases q
def small64 (i : Int) : Bool := decide (-(2 ^ 64) < i) && decide (i < 2 ^ 64)
def mulOk (i j : Int) : Bool := small64 i || small64 j
def subD : PyData → PyData → Option PyData := intsD fun i j => some (.int (i - j))
theorem opd_sub : OpD X (rI0 fun i j => .int (i - j)) subD := opd_rI0 fun _ i j => .int _
def mulI : PyData → PyData → Option PyData := intsD fun i j => if mulOk i j = true then some (.int (i * j)) else none
theorem opd_mulI : OpD X (rI CMul fun i j => .int (i * j)) mulI := opd_rI (fun _ i j => .int _) fun i j h => by
  unfold mulOk small64 at h
  simp only [Bool.or_eq_true, Bool.and_eq_true, decide_eq_true_eq] at h
  exact h
def divOk (j : Int) : Bool := decide (j ≠ 0) && decide (j.natAbs < 1073741824)
def fdivD : PyData → PyData → Option PyData := intsD fun i j => if divOk j = true then some (.int (i.fdiv j)) else none
theorem opd_fdiv : OpD X (rI CDivN fun i j => .int (i.fdiv j)) fdivD := opd_rI (Cb := fun _ j => divOk j) (fun _ i j => .int _) fun i j h => by
  unfold divOk at h
  simp only [Bool.and_eq_true, decide_eq_true_eq] at h
  exact h
def modD : PyData → PyData → Option PyData := intsD fun i j => if decide (j ≠ 0) = true then some (.int (i.fmod j)) else none
theorem opd_mod : OpD X (rI (fun _ j => j ≠ 0) fun i j => .int (i.fmod j)) modD := opd_rI (Cb := fun _ j => decide (j ≠ 0)) (fun _ i j => .int _) fun i j h => of_decide_eq_true h
def powOk (i j : Int) : Bool := decide (0 ≤ j) && decide (j ≤ 1000000) && decide (i.natAbs < 2 ^ 64)
def powD : PyData → PyData → Option PyData := intsD fun i j => if powOk i j = true then some (.int (i ^ j.toNat)) else none
theorem opd_pow : OpD X (rI CPow fun i j => .int (i ^ j.toNat)) powD := opd_rI (Cb := powOk) (fun _ i j => .int _) fun i j h => by
  unfold powOk at h
  simp only [Bool.and_eq_true, decide_eq_true_eq] at h
  exact ⟨h.1.1, h.1.2, h.2⟩
def addI : PyData → PyData → Option PyData := intsD fun i j => some (.int (i + j))
theorem opd_addI : OpD X (rI0 fun i j => .int (i + j)) addI := opd_rI0 fun _ i j => .int _
/-! ### tuples, lists -/
def catT : PyData → PyData → Option PyData
  | .tuple xs, .tuple ys => if xs.length + ys.length ≤ sizeLine then some (.tuple (xs ++ ys)) else none
  | _, _ => none
theorem opd_catT : OpD X (rCatA X.K) catT := by
  intro ph am H x y d e c Q hn dx dy q k
  cases dx with
  | tup h1 a1 =>
    cases dy with
    | tup h2 a2 =>
      rename_i a xs ds b ys es
      obtain ⟨hz, rfl⟩ := if_some q
      have l1 := a1.length
      have l2 := a2.length
      refine ⟨a, b, xs, ys, rfl, rfl, seqT_hid h1, seqT_hid h2, by omega, fun e => ?_, fun _ e => ?_, fun _ _ p np => ?_⟩
      · subst e
        cases a1
        exact k _ H (Same.refl H) (.tup h2 a2)
      · subst e
        cases a2
        rw [List.append_nil] at k
        exact k _ H (Same.refl H) (.tup h1 a1)
      · exact k _ _ (same_new np) (new_tup hn np (a1.append a2))
    | _ => cases q
  | _ => cases q
def catL : PyData → PyData → Option (List PyData)
  | .list xs, .list ys => if xs.length + ys.length ≤ sizeLine then some (xs ++ ys) else none
  | _, _ => none
theorem opf_catL : OpF X (rCatL X.K) catL := by
  intro ph am H x y d e c Q hn dx dy q k
  cases dx with
  | lst h1 a1 =>
    cases dy with
    | lst h2 a2 =>
      rename_i a xs ds b ys es
      obtain ⟨hz, rfl⟩ := if_some q
      have l1 := a1.length
      have l2 := a2.length
      exact ⟨a, b, xs, ys, rfl, rfl, rd_hid h1, rd_hid h2, by omega, fun p np => k p _ np (a1.append a2) (by rw [List.length_append]; omega)⟩
    | _ => cases q
  | _ => cases q
theorem OpF.d {r : R2} {F : PyData → PyData → Option (List PyData)} (h : OpF X r F) : OpD X r (fun a b => (F a b).map .list) := by
  intro ph am H x y d e c Q hn dx dy q k
  simp only at q
  cases hF : F d e with
  | none => rw [hF] at q; cases q
  | some cs =>
    rw [hF] at q
    cases q
    exact h ph am H x y d e cs Q hn dx dy hF fun p vs np dv hz => k _ _ (same_new np) (new_lst hn np dv)
def repT : PyData → PyData → Option PyData
  | .tuple xs, .int k => if -(2 ^ 63) ≤ k ∧ k ≤ 1000 ∧ xs.length ≤ 1000 then some (.tuple (List.replicate k.toNat xs).flatten) else none
  | _, _ => none
theorem DqAll.flat {vs : List V} {ds : List PyData} (h : DqAll K H vs ds) : ∀ n, DqAll K H (List.replicate n vs).flatten (List.replicate n ds).flatten
  | 0 => .nil
  | n + 1 => by
    rw [List.replicate_succ, List.replicate_succ, List.flatten_cons, List.flatten_cons]
    exact h.append (DqAll.flat h n)
theorem opd_repT : OpD X (rRepA X.K) repT := by
  intro ph am H x y d e c Q hn dx dy q k
  cases dx with
  | tup h1 a1 =>
    cases dy with
    | int n =>
      rename_i a xs ds
      obtain ⟨⟨z1, z2, z3⟩, rfl⟩ := if_some q
      have l1 := a1.length
      refine ⟨a, n, xs, rfl, rfl, seqT_hid h1, z1, z2, by omega, fun e => ?_, fun _ _ p np => ?_⟩
      · have e' : (List.replicate n.toNat ds).flatten = ds := by
          rcases e with e | e
          · subst e
            cases a1
            rw [List.flatten_replicate_nil]
          · subst e
            show (List.replicate 1 ds).flatten = ds
            simp
        rw [e'] at k
        exact k _ H (Same.refl H) (.tup h1 a1)
      · exact k _ _ (same_new np) (new_tup hn np (a1.flat _))
    | _ => cases q
  | _ => cases q
/-! ### the operators at any data -/
def addD : PyData → PyData → Option PyData := fun a b => match addI a b with | some c => some c | none => (fun a b => match catT a b with | some c => some c | none => (fun a b => (catL a b).map .list) a b) a b
theorem de_add (ha : DE X W e1 f) (hb : DE X W e2 g) : DE X W (.BinOp e1 .Add e2 pos) (xBin addD f g) :=
  de_bin (opd_addI.or (opd_catT.or opf_catL.d)) (op_add.or (op_catA.or op_catL)) ha hb
theorem df_cat (ha : DE X W e1 f) (hb : DE X W e2 g) : DF X W (.BinOp e1 .Add e2 pos) (xBinF catL f g) :=
  binF_core opf_catL ha hb fun _ _ pa pb => pe_op op_catL pa pb
theorem de_sub (ha : DE X W e1 f) (hb : DE X W e2 g) : DE X W (.BinOp e1 .Sub e2 pos) (xBin subD f g) := de_bin opd_sub op_sub ha hb
def mulD : PyData → PyData → Option PyData := fun a b => match mulI a b with | some c => some c | none => repT a b
theorem de_mul (ha : DE X W e1 f) (hb : DE X W e2 g) : DE X W (.BinOp e1 .Mult e2 pos) (xBin mulD f g) := de_bin (opd_mulI.or opd_repT) (op_mul.or op_repA) ha hb
theorem de_fdiv (ha : DE X W e1 f) (hb : DE X W e2 g) : DE X W (.BinOp e1 .FloorDiv e2 pos) (xBin fdivD f g) := de_bin opd_fdiv op_fdivN ha hb
theorem de_mod (ha : DE X W e1 f) (hb : DE X W e2 g) : DE X W (.BinOp e1 .Mod e2 pos) (xBin modD f g) := de_bin opd_mod op_modN ha hb
theorem de_pow (ha : DE X W e1 f) (hb : DE X W e2 g) : DE X W (.BinOp e1 .Pow e2 pos) (xBin powD f g) := de_bin opd_pow op_pow ha hb
/-! ### comparisons -/
def ltD : PyData → PyData → Option PyData := intsD fun i j => some (.bool (decide (i < j)))
def leD : PyData → PyData → Option PyData := intsD fun i j => some (.bool (decide (i ≤ j)))
def gtD : PyData → PyData → Option PyData := intsD fun i j => some (.bool (decide (j < i)))
def geD : PyData → PyData → Option PyData := intsD fun i j => some (.bool (decide (j ≤ i)))
theorem opd_lt : OpD X (rI0 fun i j => .bl (decide (i < j))) ltD := opd_rI0 fun _ i j => .bl _
theorem opd_le : OpD X (rI0 fun i j => .bl (decide (i ≤ j))) leD := opd_rI0 fun _ i j => .bl _
theorem opd_gt : OpD X (rI0 fun i j => .bl (decide (j < i))) gtD := opd_rI0 fun _ i j => .bl _
theorem opd_ge : OpD X (rI0 fun i j => .bl (decide (j ≤ i))) geD := opd_rI0 fun _ i j => .bl _
theorem de_lt (ha : DE X W e1 f) (hb : DE X W e2 g) : DE X W (.Compare e1 [.Lt] [e2] pos) (xBin ltD f g) := de_cmp opd_lt op_lt (nomark _) ha hb
theorem de_le (ha : DE X W e1 f) (hb : DE X W e2 g) : DE X W (.Compare e1 [.LtE] [e2] pos) (xBin leD f g) := de_cmp opd_le op_le (nomark _) ha hb
theorem de_gt (ha : DE X W e1 f) (hb : DE X W e2 g) : DE X W (.Compare e1 [.Gt] [e2] pos) (xBin gtD f g) := de_cmp opd_gt op_gt (nomark _) ha hb
theorem de_ge (ha : DE X W e1 f) (hb : DE X W e2 g) : DE X W (.Compare e1 [.GtE] [e2] pos) (xBin geD f g) := de_cmp opd_ge op_ge (nomark _) ha hb
def eqD (a b : PyData) : Option PyData := if SeqAt.shaped a = true ∧ SeqAt.shaped b = true then some (.bool (PyData.eqv a b)) else none
def neD (a b : PyData) : Option PyData := if SeqAt.shaped a = true ∧ SeqAt.shaped b = true then some (.bool (!PyData.eqv a b)) else none
theorem opd_eq : OpD X (rEqD X.K) eqD := by
  intro ph am H x y d e c Q hn dx dy q k
  obtain ⟨⟨h1, h2⟩, rfl⟩ := if_some q
  exact ⟨d, e, (dp_mono hid_sub dx).dp, (dp_mono hid_sub dy).dp, h1, h2, k _ H (Same.refl H) (.bl _)⟩
theorem opd_ne : OpD X (rNeD X.K) neD := by
  intro ph am H x y d e c Q hn dx dy q k
  obtain ⟨⟨h1, h2⟩, rfl⟩ := if_some q
  exact ⟨d, e, (dp_mono hid_sub dx).dp, (dp_mono hid_sub dy).dp, h1, h2, k _ H (Same.refl H) (.bl _)⟩
theorem de_eq (hu : X.A.units + 64 < cLine) (ha : DE X W e1 f) (hb : DE X W e2 g) : DE X W (.Compare e1 [.Eq] [e2] pos) (xBin eqD f g) := de_cmp opd_eq (op_eqD hu) (nomark _) ha hb
theorem de_ne (hu : X.A.units + 64 < cLine) (ha : DE X W e1 f) (hb : DE X W e2 g) : DE X W (.Compare e1 [.NotEq] [e2] pos) (xBin neD f g) := de_cmp opd_ne (op_neD hu) (nomark _) ha hb
def isNone : PyData → Bool
  | .none => true
  | _ => false
def isD (a b : PyData) : Option PyData := if isNone b = true then some (.bool (isNone a)) else none
def isnotD (a b : PyData) : Option PyData := if isNone b = true then some (.bool (!isNone a)) else none
theorem dq_none {v : V} {d : PyData} (h : Dq K H v d) : isNone d = decide (v = .non) := by cases h <;> rfl
theorem opd_is : OpD X (fun x y H Q => y = .non ∧ Q (.bl (decide (x = .non))) H) isD := by
  intro ph am H x y d e c Q hn dx dy q k
  obtain ⟨h1, rfl⟩ := if_some q
  refine ⟨?_, ?_⟩
  · rw [dq_none dy] at h1
    exact of_decide_eq_true h1
  · rw [dq_none dx] at k
    exact k _ H (Same.refl H) (.bl _)
theorem opd_isnot : OpD X (fun x y H Q => y = .non ∧ Q (.bl (!decide (x = .non))) H) isnotD := by
  intro ph am H x y d e c Q hn dx dy q k
  obtain ⟨h1, rfl⟩ := if_some q
  refine ⟨?_, ?_⟩
  · rw [dq_none dy] at h1
    exact of_decide_eq_true h1
  · rw [dq_none dx] at k
    exact k _ H (Same.refl H) (.bl _)
theorem de_is (ha : DE X W e1 f) (hb : DE X W e2 g) : DE X W (.Compare e1 [.Is] [e2] pos) (xBin isD f g) := de_cmp opd_is op_isN (nomark _) ha hb
theorem de_isnot (ha : DE X W e1 f) (hb : DE X W e2 g) : DE X W (.Compare e1 [.IsNot] [e2] pos) (xBin isnotD f g) := de_cmp opd_isnot op_notN (nomark _) ha hb
/-! ### signs -/
def negD : PyData → Option PyData
  | .int i => some (.int (-i))
  | _ => none
theorem und_neg : UnD X (rU fun i => .int (-i)) negD := by
  intro ph am H x d c Q hn dx q k
  cases dx with
  | int i =>
    cases q
    exact ⟨i, rfl, k _ H (Same.refl H) (.int _)⟩
  | _ => cases q
theorem de_neg (ha : DE X W e1 f) : DE X W (.UnaryOp .USub e1 pos) (xUn negD f) := de_un und_neg un_neg ha
/-! ### subscripts -/
def ixD : PyData → PyData → Option PyData
  | .list xs, .int i => atI xs i
  | .tuple xs, .int i => atI xs i
  | _, _ => none
theorem atI_get {vs : List V} {ds : List PyData} {i : Int} {d : PyData} (h : DqAll K H vs ds) (e : atI ds i = some d) : ∃ v, atI vs i = some v ∧ Dq K H v d := by
  unfold atI at e ⊢
  rw [h.length]
  cases hj : ixN ds.length i with
  | none => rw [hj] at e; cases e
  | some j =>
    rw [hj] at e
    exact h.get e
theorem de_ix (hs : PlainIx e2) (ha : DE X W e1 f) (hb : DE X W e2 g) : DE X W (.Subscript e1 e2 pos) (xBin ixD f g) :=
  bin_core (r := rIx X.K) (fun ph am H x y d e c Q hn dx dy q k => by
    cases dx with
    | lst h1 a1 =>
      cases dy with
      | int i =>
        obtain ⟨v, q1, q2⟩ := atI_get a1 q
        exact .inl ⟨_, _, i, v, rfl, rfl, rd_hid h1, q1, k _ H (Same.refl H) q2⟩
      | _ => cases q
    | tup h1 a1 =>
      cases dy with
      | int i =>
        obtain ⟨v, q1, q2⟩ := atI_get a1 q
        exact .inr (.inl ⟨_, _, i, v, rfl, rfl, seqT_hid h1, q1, k _ H (Same.refl H) q2⟩)
      | _ => cases q
    | _ => cases q) ha hb fun _ _ pa pb => pe_ix ix_seq pa pb hs
/-! ### calls -/
variable {t : TA} {p1 : Pos}
def lenD : List PyData → Option PyData
  | [.list xs] => some (.int xs.length)
  | [.tuple xs] => some (.int xs.length)
  | _ => none
theorem calld_len : CallD X (fun xs H Q => ∃ p ys, xs = [.ref p] ∧ (SqL X.K H p ys ∨ SqT X.K H p ys) ∧ Q (.int ys.length) H) lenD := by
  intro ph am H xs ds c Q hn dx q k
  cases dx with
  | nil => cases q
  | cons h t =>
    cases t with
    | cons _ _ => cases h <;> cases q
    | nil =>
      cases h with
      | lst h1 a1 => cases q; exact ⟨_, _, rfl, .inl (rd_hid h1), k _ H (Same.refl H) (by rw [← a1.length]; exact .int _)⟩
      | tup h1 a1 => cases q; exact ⟨_, _, rfl, .inr (seqT_hid h1), k _ H (Same.refl H) (by rw [← a1.length]; exact .int _)⟩
      | _ => cases q
def intD : List PyData → Option PyData
  | [.int i] => some (.int i)
  | [.bool k] => some (.int (if k then 1 else 0))
  | _ => none
theorem calld_int : CallD X (fun xs H Q => (∃ i, xs = [.int i] ∧ Q (.int i) H) ∨ ∃ k, xs = [.bl k] ∧ Q (.int (if k then 1 else 0)) H) intD := by
  intro ph am H xs ds c Q hn dx q k
  cases dx with
  | nil => cases q
  | cons h t =>
    cases t with
    | cons _ _ => cases h <;> cases q
    | nil =>
      cases h with
      | int i => cases q; exact .inl ⟨i, rfl, k _ H (Same.refl H) (.int _)⟩
      | bl b => cases q; exact .inr ⟨b, rfl, k _ H (Same.refl H) (.int _)⟩
      | _ => cases q
def absD : List PyData → Option PyData
  | [.int i] => some (.int (if i < 0 then -i else i))
  | _ => none
theorem calld_abs : CallD X (fun xs H Q => ∃ i, xs = [.int i] ∧ Q (.int (if i < 0 then -i else i)) H) absD := by
  intro ph am H xs ds c Q hn dx q k
  cases dx with
  | nil => cases q
  | cons h t =>
    cases t with
    | cons _ _ => cases h <;> cases q
    | nil =>
      cases h with
      | int i => cases q; exact ⟨i, rfl, k _ H (Same.refl H) (.int _)⟩
      | _ => cases q

/-- a built-in called by its name -/
theorem de_callB {id : String} {x : Str} {r : List V → Hp → VK → Prop} {F : List PyData → Option PyData} (hr : CallD X r F) (hc : CallR X (.builtin id) r) (hm : X.mg x = none) (hv : bootBuiltins x = some (.builtin id)) (h : DA X W (e :: es) fs)
    (hg : Gl X x := by rfl) (hn : x ≠ "__name__" := by decide) (hdb : (x == ("__debug__" : Str)) = false := by decide)
    (he : starEach (e :: es) X.env = (false, eval e X.env) :: starEach es X.env := by rfl) (hpl : (backTo pos (starEach es X.env)).any (·.1) = false := by rfl) : DE X W (.Call (.Name x p1) (e :: es) [] pos) (xCall F fs) :=
  call_core hr h fun t pa => pe_callB hc hg hm hv pa hn hdb he hpl
theorem de_callTy {T : String} {x : Str} {r : List V → Hp → VK → Prop} {F : List PyData → Option PyData} (hr : CallD X r F) (hc : CallR X (.type T) r) (hm : X.mg x = none) (hv : bootBuiltins x = some (.type T)) (h : DA X W (e :: es) fs)
    (hg : Gl X x := by rfl) (hn : x ≠ "__name__" := by decide) (hdb : (x == ("__debug__" : Str)) = false := by decide)
    (he : starEach (e :: es) X.env = (false, eval e X.env) :: starEach es X.env := by rfl) (hpl : (backTo pos (starEach es X.env)).any (·.1) = false := by rfl) : DE X W (.Call (.Name x p1) (e :: es) [] pos) (xCall F fs) :=
  call_core hr h fun t pa => pe_callTy hc hg hm hv pa hn hdb he hpl
theorem df_callTy {T : String} {x : Str} {r : List V → Hp → VK → Prop} {F : List PyData → Option (List PyData)} (hr : CallF X r F) (hc : CallR X (.type T) r) (hm : X.mg x = none) (hv : bootBuiltins x = some (.type T)) (h : DA X W (e :: es) fs)
    (hg : Gl X x := by rfl) (hn : x ≠ "__name__" := by decide) (hdb : (x == ("__debug__" : Str)) = false := by decide)
    (he : starEach (e :: es) X.env = (false, eval e X.env) :: starEach es X.env := by rfl) (hpl : (backTo pos (starEach es X.env)).any (·.1) = false := by rfl) : DF X W (.Call (.Name x p1) (e :: es) [] pos) (xCallF F fs) :=
  callF_core hr h fun t pa => pe_callTy hc hg hm hv pa hn hdb he hpl
/-! all, any, sum, tuple, list -/
def bools? : List PyData → Option (List Bool)
  | [] => some []
  | .bool b :: r => (bools? r).map (b :: ·)
  | _ :: _ => none
def ints? : List PyData → Option (List Int)
  | [] => some []
  | .int i :: r => (ints? r).map (i :: ·)
  | _ :: _ => none
theorem bools_vs : ∀ {vs : List V} {ds : List PyData} {bs : List Bool}, DqAll K H vs ds → bools? ds = some bs → vs = bs.map V.bl
  | _, _, _, .nil, h => by cases h; rfl
  | _, d :: r, bs, .cons hd t, h => by
    cases hd with
    | bl b =>
      unfold bools? at h
      cases hr : bools? r with
      | none => rw [hr] at h; cases h
      | some bs' =>
        rw [hr] at h
        cases h
        rw [bools_vs t hr]
        rfl
    | _ => cases h
theorem ints_vs : ∀ {vs : List V} {ds : List PyData} {bs : List Int}, DqAll K H vs ds → ints? ds = some bs → vs = bs.map V.int
  | _, _, _, .nil, h => by cases h; rfl
  | _, d :: r, bs, .cons hd t, h => by
    cases hd with
    | int b =>
      unfold ints? at h
      cases hr : ints? r with
      | none => rw [hr] at h; cases h
      | some bs' =>
        rw [hr] at h
        cases h
        rw [ints_vs t hr]
        rfl
    | _ => cases h
def allD : List PyData → Option PyData
  | [.list xs] => (bools? xs).map fun bs => .bool (bs.all id)
  | _ => none
def anyD : List PyData → Option PyData
  | [.list xs] => (bools? xs).map fun bs => .bool (bs.any id)
  | _ => none
def sumD : List PyData → Option PyData
  | [.list xs] => (ints? xs).map fun bs => .int bs.sum
  | _ => none
theorem one_list {F : List PyData → Option PyData} {R : List PyData → PyData → Prop} {r : List V → Hp → VK → Prop} (hF : ∀ ds c, F ds = some c → ∃ xs, ds = [.list xs] ∧ R xs c)
    (hr : ∀ a vs xs c H (ph : Fx) (am : Am) (Q : VK), SqL X.K H a vs → DqAll X.K (hid ph am H) vs xs → R xs c → (∀ v, Dq X.K (hid ph am H) v c → Q v H) → r [.ref a] H Q) : CallD X r F := by
  intro ph am H xs ds c Q hn dx q k
  obtain ⟨ys, rfl, h⟩ := hF ds c q
  cases dx with
  | cons h1 t =>
    cases t
    cases h1 with
    | lst h1 a1 => exact hr _ _ ys c H ph am Q (rd_hid h1) a1 h fun v dv => k v H (Same.refl H) dv
theorem calld_all : CallD X (rAll X.K) allD := one_list (R := fun xs c => ∃ bs, bools? xs = some bs ∧ c = .bool (bs.all id)) (fun ds c h => by
    unfold allD at h
    split at h
    · rename_i xs
      cases hb : bools? xs with
      | none => rw [hb] at h; cases h
      | some bs => rw [hb] at h; cases h; exact ⟨xs, rfl, bs, hb, rfl⟩
    · cases h) fun a vs xs c H ph am Q h1 a1 ⟨bs, hb, e⟩ k => by
      subst e
      have := bools_vs a1 hb
      subst this
      exact ⟨a, bs, rfl, h1, k _ (.bl _)⟩
theorem calld_any : CallD X (rAny X.K) anyD := one_list (R := fun xs c => ∃ bs, bools? xs = some bs ∧ c = .bool (bs.any id)) (fun ds c h => by
    unfold anyD at h
    split at h
    · rename_i xs
      cases hb : bools? xs with
      | none => rw [hb] at h; cases h
      | some bs => rw [hb] at h; cases h; exact ⟨xs, rfl, bs, hb, rfl⟩
    · cases h) fun a vs xs c H ph am Q h1 a1 ⟨bs, hb, e⟩ k => by
      subst e
      have := bools_vs a1 hb
      subst this
      exact ⟨a, bs, rfl, h1, k _ (.bl _)⟩
theorem calld_sum : CallD X (rSum X.K) sumD := one_list (R := fun xs c => ∃ bs, ints? xs = some bs ∧ c = .int bs.sum) (fun ds c h => by
    unfold sumD at h
    split at h
    · rename_i xs
      cases hb : ints? xs with
      | none => rw [hb] at h; cases h
      | some bs => rw [hb] at h; cases h; exact ⟨xs, rfl, bs, hb, rfl⟩
    · cases h) fun a vs xs c H ph am Q h1 a1 ⟨bs, hb, e⟩ k => by
      subst e
      have := ints_vs a1 hb
      subst this
      exact ⟨a, bs, rfl, h1, k _ (.int _)⟩
def tupleD : List PyData → Option PyData
  | [.list xs] => some (.tuple xs)
  | [.tuple xs] => some (.tuple xs)
  | _ => none
theorem calld_tuple : CallD X (fun xs H Q => ∃ p ys, xs = [.ref p] ∧ ((SqL X.K H p ys ∧ ∀ l, H l = none → Q (.ref l) (upd H l (.tup ys))) ∨ (SqT X.K H p ys ∧ Q (.ref p) H))) tupleD := by
  intro ph am H xs ds c Q hn dx q k
  cases dx with
  | nil => cases q
  | cons h t =>
    cases t with
    | cons _ _ => cases h <;> cases q
    | nil =>
      cases h with
      | lst h1 a1 => cases q; exact ⟨_, _, rfl, .inl ⟨rd_hid h1, fun l nl => k _ _ (same_new nl) (new_tup hn nl a1)⟩⟩
      | tup h1 a1 => cases q; exact ⟨_, _, rfl, .inr ⟨seqT_hid h1, k _ H (Same.refl H) (.tup h1 a1)⟩⟩
      | _ => cases q
def listD : List PyData → Option (List PyData)
  | [.list xs] => if xs.length ≤ sizeLine then some xs else none
  | [.tuple xs] => if xs.length ≤ sizeLine then some xs else none
  | _ => none
theorem callf_list : CallF X (fun xs H Q => ∃ p ys, xs = [.ref p] ∧ (SqL X.K H p ys ∨ SqT X.K H p ys) ∧ ∀ l, H l = none → Q (.ref l) (upd H l (.lst ys))) listD := by
  intro ph am H xs ds c Q hn dx q k
  cases dx with
  | nil => cases q
  | cons h t =>
    cases t with
    | cons _ _ => cases h <;> cases q
    | nil =>
      cases h with
      | lst h1 a1 =>
        obtain ⟨hz, rfl⟩ := if_some q
        exact ⟨_, _, rfl, .inl (rd_hid h1), fun l nl => k _ _ nl a1 (by rw [a1.length]; exact hz)⟩
      | tup h1 a1 =>
        obtain ⟨hz, rfl⟩ := if_some q
        exact ⟨_, _, rfl, .inr (seqT_hid h1), fun l nl => k _ _ nl a1 (by rw [a1.length]; exact hz)⟩
      | _ => cases q
/-! isinstance -/
def tyOfD : PyData → String
  | .none => "NoneType"
  | .bool _ => "bool"
  | .int _ => "int"
  | .str _ => "str"
  | .list _ => "list"
  | .tuple _ => "tuple"
  | .dict _ => "dict"
theorem tyx_of {v : V} {d : PyData} (h : Dq X.K (hid ph am H) v d) : TyX X.K H v (.type (tyOfD d)) := by
  cases h with
  | non => exact .base .non
  | bl b => exact .base (.bl b)
  | int i => exact .base (.int i)
  | str x => exact .base (.str x)
  | lst h1 _ =>
    rcases rd_hid h1 with (q | ⟨o, q⟩) | ⟨o, its, n, q, c, _⟩
    · exact .base (.lst q)
    · exact .base (.frz q)
    · exact .kList q c
  | tup h1 _ =>
    rcases seqT_hid h1 with (q | ⟨o, q⟩) | ⟨o, its, n, q, c, _⟩
    · exact .base (.tup q)
    · exact .fTuple q
    · exact .kTuple q c
end PD
end

section
set_option Elab.async false
set_option linter.all false
set_option maxRecDepth 100000
set_option maxHeartbeats 1000000
namespace PD
open PySem PySem.Spec PyProof.Rows L2
variable {X : Cx} {W : WX} {pos : Pos} {e e1 e2 e3 : Expr} {es : List Expr} {f g h : M PyData} {fs : M (List PyData)} {fb gb : M Bool}
variable {K : PySem.W.Frag} {ph : Fx} {am am' : Am} {H H' : Hp} {σ : L2.St} {δ δ' : Sg} {p p1 p2 : Addr}

/-! ### isinstance -/
def isSub (s T : String) : Bool := s == T || (s == "bool" && T == "int")
theorem kit_tab : ∀ s ∈ ["NoneType", "bool", "int", "str", "list", "tuple", "dict"], ∀ T ∈ ["int", "bool", "str", "list", "tuple"], kitB s T = some (isSub s T) := by decide +kernel
theorem tyOf_mem (d : PyData) : tyOfD d ∈ ["NoneType", "bool", "int", "str", "list", "tuple", "dict"] := by cases d <;> simp [tyOfD]
def isiD (Ts : List String) (d : PyData) : Option PyData := some (.bool (Ts.any (isSub (tyOfD d))))
theorem kit_any {t : String} (ht : t ∈ ["NoneType", "bool", "int", "str", "list", "tuple", "dict"]) : ∀ {Ts : List String}, (∀ T ∈ Ts, T ∈ ["int", "bool", "str", "list", "tuple"]) → PySem.W.kitAny K (.type t) (Ts.map .type) = some (Ts.any (isSub t))
  | [], _ => rfl
  | T :: Ts, hT => by
    have h1 := kit_tab t ht T (hT T (by simp))
    refine kitAny_cons (b := isSub t T) (kit_ty h1) (fun e => ?_) (fun e => ?_)
    · rw [kit_any ht fun T h => hT T (by simp [h])]
      simp [e]
    · simp [e]
variable {pf pt pT : Pos}
theorem de_isi1 {T : Str} (Tn : String) (hT : Tn ∈ ["int", "bool", "str", "list", "tuple"]) (hm : X.mg "isinstance" = none) (hmT : X.mg T = none) (hv : bootBuiltins T = some (.type Tn)) (he : DE X W e f)
    (hg : Gl X "isinstance" := by rfl) (hgT : Gl X T := by rfl) (hn : T ≠ "__name__" := by decide) (hd : (T == ("__debug__" : Str)) = false := by decide)
    (hs1 : starEach [.Name T pT] X.env = (false, eval (.Name T pT) X.env) :: starEach [] X.env := by rfl)
    (hs : starEach [e, .Name T pT] X.env = (false, eval e X.env) :: starEach [.Name T pT] X.env := by rfl) (hpl : (backTo pos (starEach [.Name T pT] X.env)).any (·.1) = false := by rfl) :
    DE X W (.Call (.Name "isinstance" pf) [e, .Name T pT] [] pos) (xUn (isiD [Tn]) f) := by
  obtain ⟨ta, pa, qa⟩ := he.ex
  refine ⟨⟨_, pe_callB call_isi hg hm boot_isinstance (pa_cons pa (pa_cons (pe_bltn (v := .ty Tn) hgT hmT hv rfl hn hd) pa_nil hs1) hs) (by decide) (by decide) hs hpl, fun ph am σ H δ Q ans δ' s q k kx => ?_⟩⟩
  rcases bnd_some q with ⟨a, δ1, e1, q1⟩ | ⟨c, fs, e1, q1⟩
  · refine qa ph am σ H δ _ _ _ s e1 (fun d ed am1 x H1 st1 s1 d1 => ?_) (fun c fs z => by cases z)
    cases ed
    obtain ⟨z, e3, rfl, rfl⟩ := lif_some q1
    cases e3
    refine ⟨x, .ty Tn, .type (tyOfD a), .type Tn, isSub (tyOfD a) Tn, rfl, .ty Tn, tyx_of d1, kit_ty (kit_tab _ (tyOf_mem a) _ hT), k _ rfl am1 _ H1 st1 s1 ?_⟩
    have : [Tn].any (isSub (tyOfD a)) = isSub (tyOfD a) Tn := by simp
    rw [this]
    exact .bl _
  · subst q1
    exact qa ph am σ H δ _ _ _ s e1 (fun d ed => by cases ed) (fun c' fs' z => by cases z; exact kx _ _ rfl)
/-- isinstance(x, (S, T)) -/
theorem de_isi2 {S T : Str} {kk : Nat} {pS pT2 : Pos} (Sn Tn : String) (hS : Sn ∈ ["int", "bool", "str", "list", "tuple"]) (hT : Tn ∈ ["int", "bool", "str", "list", "tuple"]) (hm : X.mg "isinstance" = none) (hmS : X.mg S = none) (hvS : bootBuiltins S = some (.type Sn)) (hmT : X.mg T = none) (hv : bootBuiltins T = some (.type Tn)) (he : DE X W e f)
    (hg : Gl X "isinstance" := by rfl) (hgS : Gl X S := by rfl) (hnS : S ≠ "__name__" := by decide) (hdS : (S == ("__debug__" : Str)) = false := by decide) (hgT : Gl X T := by rfl) (hn : T ≠ "__name__" := by decide) (hd : (T == ("__debug__" : Str)) = false := by decide)
    (hs0 : starEach [.Name T pT] X.env = (false, eval (.Name T pT) X.env) :: starEach [] X.env := by rfl)
    (hs2 : starEach [.Name S pS, .Name T pT] X.env = (false, eval (.Name S pS) X.env) :: starEach [.Name T pT] X.env := by rfl)
    (hs1 : starEach [.Tuple [.Name S pS, .Name T pT] kk pT2] X.env = (false, eval (.Tuple [.Name S pS, .Name T pT] kk pT2) X.env) :: starEach [] X.env := by rfl)
    (hs : starEach [e, .Tuple [.Name S pS, .Name T pT] kk pT2] X.env = (false, eval e X.env) :: starEach [.Tuple [.Name S pS, .Name T pT] kk pT2] X.env := by rfl) (hpl : (backTo pos (starEach [.Tuple [.Name S pS, .Name T pT] kk pT2] X.env)).any (·.1) = false := by rfl) :
    DE X W (.Call (.Name "isinstance" pf) [e, .Tuple [.Name S pS, .Name T pT] kk pT2] [] pos) (xUn (isiD [Sn, Tn]) f) := by
  obtain ⟨ta, pa, qa⟩ := he.ex
  refine ⟨⟨_, pe_callB call_isiT hg hm boot_isinstance (pa_cons pa (pa_cons (pe_tup (pa_cons (pe_bltn (v := .ty Sn) hgS hmS hvS rfl hnS hdS) (pa_cons (pe_bltn (v := .ty Tn) hgT hmT hv rfl hn hd) pa_nil hs0) hs2)) pa_nil hs1) hs) (by decide) (by decide) hs hpl, fun ph am σ H δ Q ans δ' s q k kx => ?_⟩⟩
  rcases bnd_some q with ⟨a, δ1, e1, q1⟩ | ⟨c, fs, e1, q1⟩
  · refine qa ph am σ H δ _ _ _ s e1 (fun d ed am1 x H1 st1 s1 d1 => ?_) (fun c fs z => by cases z)
    cases ed
    obtain ⟨z, e3, rfl, rfl⟩ := lif_some q1
    cases e3
    refine ⟨by show 2 ≤ sizeLine; decide, fun p np => ?_⟩
    have sm : Same H1 (upd H1 p (.tup [.ty Sn, .ty Tn])) := same_new np
    refine ⟨x, p, [.ty Sn, .ty Tn], .type (tyOfD a), [.type Sn, .type Tn], [Sn, Tn].any (isSub (tyOfD a)), rfl, upd_same, .cons (.ty Sn) (.cons (.ty Tn) .nil), tyx_of (dp_mono (hid_same sm) d1), kit_any (K := X.K) (Ts := [Sn, Tn]) (tyOf_mem a) (fun T h => ?_), k _ rfl am1 _ _ (st1.trans (Step.of sm)) (s1.same sm) (.bl _)⟩
    simp only [List.mem_cons, List.not_mem_nil, or_false] at h
    rcases h with rfl | rfl
    · exact hS
    · exact hT
  · subst q1
    exact qa ph am σ H δ _ _ _ s e1 (fun d ed => by cases ed) (fun c' fs' z => by cases z; exact kx _ _ rfl)

/-! ### tests -/
def truthD : PyData → Option Bool
  | .none => some false
  | .bool b => some b
  | .int i => some (i != 0)
  | .str x => if x.length ≤ sizeLine then some ((x.length : Int) != 0) else none
  | .list xs => some (!xs.isEmpty)
  | .tuple xs => some (!xs.isEmpty)
  | _ => none
theorem tru_of {v : V} {d : PyData} {b : Bool} (h : Dq X.K (hid ph am H) v d) (e : truthD d = some b) : TruV X.K v H b := by
  cases h with
  | non => cases e; rfl
  | bl b => cases e; rfl
  | int i => cases e; rfl
  | str x => obtain ⟨h1, rfl⟩ := if_some e; exact ⟨h1, rfl⟩
  | lst h1 a1 =>
    cases e
    refine .inl ⟨_, rd_hid h1, ?_⟩
    cases a1 <;> rfl
  | tup h1 a1 =>
    cases e
    refine .inr (.inl ⟨_, seqT_hid h1, ?_⟩)
    cases a1 <;> rfl
def boolD : PyData → Option Bool
  | .bool b => some b
  | _ => none
def xTru (f : M PyData) : M Bool := bnd f fun d => lif (truthD d)
def xBool (f : M PyData) : M Bool := bnd f fun d => lif (boolD d)
theorem dt_tru (ha : DE X W e f) (he : ∀ whole, isTrue e X.env whole = (do let v ← whole; standAt e.pos; holding [v] (truthy v)) := by intro _; rfl) : DT X W e (xTru f) := by
  obtain ⟨ta, pa, qa⟩ := ha.ex
  refine ⟨⟨_, pt_truth pa he, fun ph am σ H δ Q ans δ' s q k kx => ?_⟩⟩
  rcases bnd_some q with ⟨a, δ1, e1, q1⟩ | ⟨c, fs, e1, q1⟩
  · refine qa ph am σ H δ _ _ _ s e1 (fun d ed am1 x H1 st1 s1 d1 => ?_) (fun c fs z => by cases z)
    cases ed
    obtain ⟨z, e3, rfl, rfl⟩ := lif_some q1
    exact ⟨z, tru_of d1 e3, k _ rfl am1 H1 st1 s1⟩
  · subst q1
    exact qa ph am σ H δ _ _ _ s e1 (fun d ed => by cases ed) (fun c' fs' z => by cases z; exact kx _ _ rfl)
theorem bool_read {t : TE} (qa : ReadE X W t f) : ReadT X W (tTest t) (xBool f) := by
  intro ph am σ H δ Q ans δ' s q k kx
  rcases bnd_some q with ⟨a, δ1, e1, q1⟩ | ⟨c, fs, e1, q1⟩
  · refine qa ph am σ H δ _ _ _ s e1 (fun d ed am1 x H1 st1 s1 d1 => ?_) (fun c fs z => by cases z)
    cases ed
    obtain ⟨z, e3, rfl, rfl⟩ := lif_some q1
    cases d1 with
    | bl b => cases e3; exact ⟨_, rfl, k _ rfl am1 H1 st1 s1⟩
    | _ => cases e3
  · subst q1
    exact qa ph am σ H δ _ _ _ s e1 (fun d ed => by cases ed) (fun c' fs' z => by cases z; exact kx _ _ rfl)
theorem dt_cmp {op : CmpOp} {r : R2} {F : PyData → PyData → Option PyData} (hr : OpD X r F) (ho : OpR X (compareOp op) r) (hm : behindInMarks op e2 = false) (ha : DE X W e1 f) (hb : DE X W e2 g) : DT X W (.Compare e1 [op] [e2] pos) (xBool (xBin F f g)) := by
  obtain ⟨ta, pa, qa⟩ := ha.ex
  obtain ⟨tb, pb, qb⟩ := hb.ex
  exact ⟨⟨_, pt_cmpR ho pa pb hm, bool_read (bin_read hr qa qb)⟩⟩
theorem dt_lt (ha : DE X W e1 f) (hb : DE X W e2 g) : DT X W (.Compare e1 [.Lt] [e2] pos) (xBool (xBin ltD f g)) := dt_cmp opd_lt op_lt (nomark _) ha hb
theorem dt_le (ha : DE X W e1 f) (hb : DE X W e2 g) : DT X W (.Compare e1 [.LtE] [e2] pos) (xBool (xBin leD f g)) := dt_cmp opd_le op_le (nomark _) ha hb
theorem dt_gt (ha : DE X W e1 f) (hb : DE X W e2 g) : DT X W (.Compare e1 [.Gt] [e2] pos) (xBool (xBin gtD f g)) := dt_cmp opd_gt op_gt (nomark _) ha hb
theorem dt_ge (ha : DE X W e1 f) (hb : DE X W e2 g) : DT X W (.Compare e1 [.GtE] [e2] pos) (xBool (xBin geD f g)) := dt_cmp opd_ge op_ge (nomark _) ha hb
theorem dt_eq (hu : X.A.units + 64 < cLine) (ha : DE X W e1 f) (hb : DE X W e2 g) : DT X W (.Compare e1 [.Eq] [e2] pos) (xBool (xBin eqD f g)) := dt_cmp opd_eq (op_eqD hu) (nomark _) ha hb
theorem dt_ne (hu : X.A.units + 64 < cLine) (ha : DE X W e1 f) (hb : DE X W e2 g) : DT X W (.Compare e1 [.NotEq] [e2] pos) (xBool (xBin neD f g)) := dt_cmp opd_ne (op_neD hu) (nomark _) ha hb
theorem dt_is (ha : DE X W e1 f) (hb : DE X W e2 g) : DT X W (.Compare e1 [.Is] [e2] pos) (xBool (xBin isD f g)) := dt_cmp opd_is op_isN (nomark _) ha hb
theorem dt_isnot (ha : DE X W e1 f) (hb : DE X W e2 g) : DT X W (.Compare e1 [.IsNot] [e2] pos) (xBool (xBin isnotD f g)) := dt_cmp opd_isnot op_notN (nomark _) ha hb
/-- a < b < c -/
def xChain (F G : PyData → PyData → Option PyData) (f g h : M PyData) : M PyData := bnd f fun a => bnd g fun b => bnd (lif (F a b)) fun z => match z with
  | .bool true => bnd h fun c => lif (G b c)
  | .bool false => ret (.bool false)
  | _ => lif none
theorem chain_read {ta tb tc : TE} {r r' : R2} {F G : PyData → PyData → Option PyData} (hr : OpD X r F) (hr' : OpD X r' G) (qa : ReadE X W ta f) (qb : ReadE X W tb g) (qc : ReadE X W tc h) : ReadE X W (tChain r r' ta tb tc) (xChain F G f g h) := by
  intro ph am σ H δ Q ans δ' s q k kx
  rcases bnd_some q with ⟨a, δ1, e1, q1⟩ | ⟨c, fs, e1, q1⟩
  · refine qa ph am σ H δ _ _ _ s e1 (fun d ed am1 x H1 st1 s1 d1 => ?_) (fun c fs z => by cases z)
    cases ed
    rcases bnd_some q1 with ⟨b, δ2, e2, q2⟩ | ⟨c, fs, e2, q2⟩
    · refine qb ph am1 σ H1 δ1 _ _ _ s1 e2 (fun d ed am2 y H2 st2 s2 d2 => ?_) (fun c fs z => by cases z)
      cases ed
      rcases bnd_some q2 with ⟨z, δ3, e3, q3⟩ | ⟨c, fs, e3, q3⟩
      · obtain ⟨z', e4, e5, e6⟩ := lif_some e3
        cases e5
        subst e6
        refine hr ph am2 H2 x y a b z _ (fun b h => s2.hidden h) (dp_mono st2.hid d1) d2 e4 fun v H3 sm dv => ?_
        have st3 := (st1.trans st2).trans (Step.of (am := am2) sm)
        have s3 := s2.same sm
        cases dv with
        | bl kb =>
          cases kb with
          | false =>
            cases q3
            exact ⟨false, rfl, iteF (k _ rfl am2 _ H3 st3 s3 (.bl false))⟩
          | true =>
            refine ⟨true, rfl, iteT ?_⟩
            simp only at q3
            rcases bnd_some q3 with ⟨c, δ4, e7, q4⟩ | ⟨c, fs, e7, q4⟩
            · refine qc ph am2 σ H3 _ _ _ _ s3 e7 (fun d ed am4 w H4 st4 s4 d4 => ?_) (fun c fs z => by cases z)
              cases ed
              obtain ⟨z2, e8, rfl, rfl⟩ := lif_some q4
              refine hr' ph am4 H4 y w b c z2 _ (fun b h => s4.hidden h) (dp_mono st4.hid (dp_mono (hid_same sm) d2)) d4 e8 fun v H5 sm5 dv5 => ?_
              exact k _ rfl am4 v H5 ((st3.trans st4).trans (Step.of sm5)) (s4.same sm5) dv5
            · subst q4
              exact qc ph am2 σ H3 _ _ _ _ s3 e7 (fun d ed => by cases ed) (fun c' fs' z => by cases z; exact (kx _ _ rfl).step st3)
        | _ => cases q3
      · obtain ⟨_, _, z, _⟩ := lif_some e3
        cases z
    · subst q2
      exact qb ph am1 σ H1 δ1 _ _ _ s1 e2 (fun d ed => by cases ed) (fun c' fs' z => by cases z; exact (kx _ _ rfl).step st1)
  · subst q1
    exact qa ph am σ H δ _ _ _ s e1 (fun d ed => by cases ed) (fun c' fs' z => by cases z; exact kx _ _ rfl)
theorem de_chain {op op' : CmpOp} {r r' : R2} {F G : PyData → PyData → Option PyData} (hr : OpD X r F) (hr' : OpD X r' G) (ho : OpR X (compareOp op) r) (ho' : OpR X (compareOp op') r') (ha : DE X W e1 f) (hb : DE X W e2 g) (hc : DE X W e3 h)
    (hm : lastMarks [op, op'] [e2, e3] = false := by with_unfolding_all rfl) : DE X W (.Compare e1 [op, op'] [e2, e3] pos) (xChain F G f g h) := by
  obtain ⟨ta, pa, qa⟩ := ha.ex
  obtain ⟨tb, pb, qb⟩ := hb.ex
  obtain ⟨tc, pc, qc⟩ := hc.ex
  exact ⟨⟨_, pe_chain ho ho' pa pb pc hm, chain_read hr hr' qa qb qc⟩⟩
theorem dt_chain {op op' : CmpOp} {r r' : R2} {F G : PyData → PyData → Option PyData} (hr : OpD X r F) (hr' : OpD X r' G) (ho : OpR X (compareOp op) r) (ho' : OpR X (compareOp op') r') (ha : DE X W e1 f) (hb : DE X W e2 g) (hc : DE X W e3 h)
    (hm : lastMarks [op, op'] [e2, e3] = false := by with_unfolding_all rfl) : DT X W (.Compare e1 [op, op'] [e2, e3] pos) (xBool (xChain F G f g h)) := by
  obtain ⟨ta, pa, qa⟩ := ha.ex
  obtain ⟨tb, pb, qb⟩ := hb.ex
  obtain ⟨tc, pc, qc⟩ := hc.ex
  exact ⟨⟨_, pt_chain ho ho' pa pb pc hm, bool_read (chain_read hr hr' qa qb qc)⟩⟩
/-! and, or, not as tests -/
def xAndT (fb gb : M Bool) : M Bool := bnd fb fun b => if b = true then gb else ret false
def xOrT (fb gb : M Bool) : M Bool := bnd fb fun b => if b = true then ret true else gb
def xNotT (fb : M Bool) : M Bool := bnd fb fun b => ret (!b)
theorem dw_and1 (ha : DT X W e1 fb) : DW X W (.BoolOp .And [e1] pos) fb := by
  obtain ⟨ta, pa, qa⟩ := ha.ex
  exact ⟨⟨_, pw_and1 pa, qa⟩⟩
theorem dw_or1 (ha : DT X W e1 fb) : DW X W (.BoolOp .Or [e1] pos) fb := by
  obtain ⟨ta, pa, qa⟩ := ha.ex
  exact ⟨⟨_, pw_or1 pa, qa⟩⟩
theorem dw_and (ha : DT X W e1 fb) (hb : DW X W (.BoolOp .And (e2 :: es) pos) gb) : DW X W (.BoolOp .And (e1 :: e2 :: es) pos) (xAndT fb gb) := by
  obtain ⟨ta, pa, qa⟩ := ha.ex
  obtain ⟨tb, pb, qb⟩ := hb.ex
  refine ⟨⟨_, pw_and pa pb, fun ph am σ H δ Q ans δ' s q k kx => ?_⟩⟩
  rcases bnd_some q with ⟨a, δ1, e1, q1⟩ | ⟨c, fs, e1, q1⟩
  · refine qa ph am σ H δ _ _ _ s e1 (fun d ed am1 H1 st1 s1 => ?_) (fun c fs z => by cases z)
    cases ed
    cases a with
    | true =>
      rw [if_pos rfl] at q1
      exact iteT (qb ph am1 σ H1 δ1 _ _ _ s1 q1 (fun d ed am2 H2 st2 s2 => k d ed am2 H2 (st1.trans st2) s2) fun c fs z => (kx c fs z).step st1)
    | false =>
      rw [if_neg Bool.false_ne_true] at q1
      cases q1
      exact iteF (k _ rfl am1 H1 st1 s1)
  · subst q1
    exact qa ph am σ H δ _ _ _ s e1 (fun d ed => by cases ed) (fun c' fs' z => by cases z; exact kx _ _ rfl)
theorem dw_or (ha : DT X W e1 fb) (hb : DW X W (.BoolOp .Or (e2 :: es) pos) gb) : DW X W (.BoolOp .Or (e1 :: e2 :: es) pos) (xOrT fb gb) := by
  obtain ⟨ta, pa, qa⟩ := ha.ex
  obtain ⟨tb, pb, qb⟩ := hb.ex
  refine ⟨⟨_, pw_or pa pb, fun ph am σ H δ Q ans δ' s q k kx => ?_⟩⟩
  rcases bnd_some q with ⟨a, δ1, e1, q1⟩ | ⟨c, fs, e1, q1⟩
  · refine qa ph am σ H δ _ _ _ s e1 (fun d ed am1 H1 st1 s1 => ?_) (fun c fs z => by cases z)
    cases ed
    cases a with
    | true =>
      rw [if_pos rfl] at q1
      cases q1
      exact iteT (k _ rfl am1 H1 st1 s1)
    | false =>
      rw [if_neg Bool.false_ne_true] at q1
      exact iteF (qb ph am1 σ H1 δ1 _ _ _ s1 q1 (fun d ed am2 H2 st2 s2 => k d ed am2 H2 (st1.trans st2) s2) fun c fs z => (kx c fs z).step st1)
  · subst q1
    exact qa ph am σ H δ _ _ _ s e1 (fun d ed => by cases ed) (fun c' fs' z => by cases z; exact kx _ _ rfl)
theorem dt_w (ha : DW X W e fb) : DT X W e fb := by
  obtain ⟨ta, pa, qa⟩ := ha.ex
  exact ⟨⟨_, pa.pt, qa⟩⟩
theorem dt_not (ha : DT X W e fb) : DT X W (.UnaryOp .Not e pos) (xNotT fb) := by
  obtain ⟨ta, pa, qa⟩ := ha.ex
  refine ⟨⟨_, pt_not pa, fun ph am σ H δ Q ans δ' s q k kx => ?_⟩⟩
  rcases bnd_some q with ⟨a, δ1, e1, q1⟩ | ⟨c, fs, e1, q1⟩
  · refine qa ph am σ H δ _ _ _ s e1 (fun d ed am1 H1 st1 s1 => ?_) (fun c fs z => by cases z)
    cases ed
    cases q1
    exact k _ rfl am1 H1 st1 s1
  · subst q1
    exact qa ph am σ H δ _ _ _ s e1 (fun d ed => by cases ed) (fun c' fs' z => by cases z; exact kx _ _ rfl)
/-! and, or, not as values: all but the last True or False -/
def xAnd (f g : M PyData) : M PyData := bnd f fun d => match d with
  | .bool true => g
  | .bool false => ret (.bool false)
  | _ => lif none
def xOr (f g : M PyData) : M PyData := bnd f fun d => match d with
  | .bool true => ret (.bool true)
  | .bool false => g
  | _ => lif none
def xNot (f : M PyData) : M PyData := bnd f fun d => match d with
  | .bool b => ret (.bool (!b))
  | _ => lif none
theorem de_one {op} (ha : DE X W e f) : DE X W (.BoolOp op [e] pos) f := by
  obtain ⟨ta, pa, qa⟩ := ha.ex
  exact ⟨⟨_, pe_one pa, qa⟩⟩
theorem lif_none {α : Type} {ans : Ans α} (h : lif (none : Option α) δ = some (ans, δ')) : False := by cases h
theorem de_and (ha : DE X W e1 f) (hb : DE X W (.BoolOp .And (e2 :: es) pos) g) : DE X W (.BoolOp .And (e1 :: e2 :: es) pos) (xAnd f g) := by
  obtain ⟨ta, pa, qa⟩ := ha.ex
  obtain ⟨tb, pb, qb⟩ := hb.ex
  refine ⟨⟨_, pe_and pa pb, fun ph am σ H δ Q ans δ' s q k kx => ?_⟩⟩
  rcases bnd_some q with ⟨a, δ1, e1, q1⟩ | ⟨c, fs, e1, q1⟩
  · refine qa ph am σ H δ _ _ _ s e1 (fun d ed am1 x H1 st1 s1 d1 => ?_) (fun c fs z => by cases z)
    cases ed
    cases d1 with
    | bl b =>
      cases b with
      | true => exact ⟨true, rfl, iteT (qb ph am1 σ H1 δ1 _ _ _ s1 q1 (fun d ed am2 v H2 st2 s2 d2 => k d ed am2 v H2 (st1.trans st2) s2 d2) fun c fs z => (kx c fs z).step st1)⟩
      | false =>
        cases q1
        exact ⟨false, rfl, iteF (k _ rfl am1 _ H1 st1 s1 (.bl false))⟩
    | _ => exact (lif_none q1).elim
  · subst q1
    exact qa ph am σ H δ _ _ _ s e1 (fun d ed => by cases ed) (fun c' fs' z => by cases z; exact kx _ _ rfl)
theorem de_or (ha : DE X W e1 f) (hb : DE X W (.BoolOp .Or (e2 :: es) pos) g) : DE X W (.BoolOp .Or (e1 :: e2 :: es) pos) (xOr f g) := by
  obtain ⟨ta, pa, qa⟩ := ha.ex
  obtain ⟨tb, pb, qb⟩ := hb.ex
  refine ⟨⟨_, pe_or pa pb, fun ph am σ H δ Q ans δ' s q k kx => ?_⟩⟩
  rcases bnd_some q with ⟨a, δ1, e1, q1⟩ | ⟨c, fs, e1, q1⟩
  · refine qa ph am σ H δ _ _ _ s e1 (fun d ed am1 x H1 st1 s1 d1 => ?_) (fun c fs z => by cases z)
    cases ed
    cases d1 with
    | bl b =>
      cases b with
      | false => exact ⟨false, rfl, iteF (qb ph am1 σ H1 δ1 _ _ _ s1 q1 (fun d ed am2 v H2 st2 s2 d2 => k d ed am2 v H2 (st1.trans st2) s2 d2) fun c fs z => (kx c fs z).step st1)⟩
      | true =>
        cases q1
        exact ⟨true, rfl, iteT (k _ rfl am1 _ H1 st1 s1 (.bl true))⟩
    | _ => exact (lif_none q1).elim
  · subst q1
    exact qa ph am σ H δ _ _ _ s e1 (fun d ed => by cases ed) (fun c' fs' z => by cases z; exact kx _ _ rfl)
theorem de_not (ha : DE X W e f) : DE X W (.UnaryOp .Not e pos) (xNot f) := by
  obtain ⟨ta, pa, qa⟩ := ha.ex
  refine ⟨⟨_, pe_not pa, fun ph am σ H δ Q ans δ' s q k kx => ?_⟩⟩
  rcases bnd_some q with ⟨a, δ1, e1, q1⟩ | ⟨c, fs, e1, q1⟩
  · refine qa ph am σ H δ _ _ _ s e1 (fun d ed am1 x H1 st1 s1 d1 => ?_) (fun c fs z => by cases z)
    cases ed
    cases d1 with
    | bl b => cases q1; exact ⟨b, rfl, k _ rfl am1 _ H1 st1 s1 (.bl _)⟩
    | _ => exact (lif_none q1).elim
  · subst q1
    exact qa ph am σ H δ _ _ _ s e1 (fun d ed => by cases ed) (fun c' fs' z => by cases z; exact kx _ _ rfl)
def xIf {α : Type} (fb : M Bool) (f g : M α) : M α := bnd fb fun b => if b = true then f else g
theorem de_if (hc : DT X W e3 fb) (ha : DE X W e1 f) (hb : DE X W e2 g) : DE X W (.IfExp e3 e1 e2 pos) (xIf fb f g) := by
  obtain ⟨tc, pc, qc⟩ := hc.ex
  obtain ⟨ta, pa, qa⟩ := ha.ex
  obtain ⟨tb, pb, qb⟩ := hb.ex
  refine ⟨⟨_, pe_ifExp pc pa pb, fun ph am σ H δ Q ans δ' s q k kx => ?_⟩⟩
  rcases bnd_some q with ⟨a, δ1, e1, q1⟩ | ⟨c, fs, e1, q1⟩
  · refine qc ph am σ H δ _ _ _ s e1 (fun d ed am1 H1 st1 s1 => ?_) (fun c fs z => by cases z)
    cases ed
    cases a with
    | true =>
      rw [if_pos rfl] at q1
      exact iteT (qa ph am1 σ H1 δ1 _ _ _ s1 q1 (fun d ed am2 v H2 st2 s2 d2 => k d ed am2 v H2 (st1.trans st2) s2 d2) fun c fs z => (kx c fs z).step st1)
    | false =>
      rw [if_neg Bool.false_ne_true] at q1
      exact iteF (qb ph am1 σ H1 δ1 _ _ _ s1 q1 (fun d ed am2 v H2 st2 s2 d2 => k d ed am2 v H2 (st1.trans st2) s2 d2) fun c fs z => (kx c fs z).step st1)
  · subst q1
    exact qc ph am σ H δ _ _ _ s e1 (fun d ed => by cases ed) (fun c' fs' z => by cases z; exact kx _ _ rfl)
end PD
end

section
set_option Elab.async false
set_option linter.all false
set_option maxRecDepth 100000
set_option maxHeartbeats 1000000
namespace PD
open PySem PySem.Spec PyProof.Rows L2
variable {X : Cx} {W : WX} {pos : Pos} {e e1 e2 e3 : Expr} {es : List Expr} {f g h : M PyData} {fs : M (List PyData)} {fb gb : M Bool}
variable {K : PySem.W.Frag} {ph : Fx} {am am' am1 : Am} {H H' H1 : Hp} {σ σ' : L2.St} {δ δ' δ1 : Sg} {a p p1 p2 : Addr} {v : V} {vs : List V} {d : PyData} {ds : List PyData} {i : Nat}

/-! ### slots -/
/-- a cell that may be stored anew -/
def Cell.free : Cell → Bool
  | .ow true _ => false
  | _ => true
theorem SR.nba (s : SR K ph am σ H δ) {c : Cell} (e : δ[i]? = some c) (hc : c.free = true) : ph.ba i = none := by
  cases hb : ph.ba i with
  | none => rfl
  | some a =>
    have h1 := s.bas i a hb
    obtain ⟨_, b, ds, h2⟩ := s.amf i a h1
    rw [e] at h2
    cases h2
    cases b with
    | true => cases hc
    | false =>
      obtain ⟨_, _, _, _, _, _, _, h3⟩ := s.ow i false ds e
      rw [h3 rfl] at hb
      cases hb
theorem SR.put (s : SR K ph am σ H δ) {c : Cell} (e : δ[i]? = some c) (hc : c.free = true) (dv : Dq K (hid ph am H) v d) : SR K ph (amDrop am i) (σ.set i (some v)) H (δ.set i (.fz d)) := by
  have st : Step am H (amDrop am i) H := step_drop
  have hi : i < δ.length := (List.getElem?_eq_some_iff.mp e).1
  have hσ : i < σ.length := by rw [s.len]; exact hi
  refine ⟨by rw [List.length_set, List.length_set, s.len], fun j d' q => ?_, fun j b' ds' q => ?_, fun j a' q => ?_, fun j k a' q1 q2 => ?_, s.phs, fun j a' q => ?_⟩
  · by_cases hj : j = i
    · subst hj
      rw [List.getElem?_set_self hi] at q
      cases q
      exact ⟨v, List.getElem?_set_self hσ, dp_mono st.hid dv⟩
    · rw [List.getElem?_set_ne (Ne.symm hj)] at q
      obtain ⟨v', h1, h2⟩ := s.fz j d' q
      exact ⟨v', by rw [List.getElem?_set_ne (Ne.symm hj)]; exact h1, dp_mono st.hid h2⟩
  · by_cases hj : j = i
    · subst hj
      rw [List.getElem?_set_self hi] at q
      cases q
    · rw [List.getElem?_set_ne (Ne.symm hj)] at q
      obtain ⟨a2, vs2, h1, h2, h3, h4, h5, h6⟩ := s.ow j b' ds' q
      exact ⟨a2, vs2, amDrop_some.mpr ⟨hj, h1⟩, by rw [List.getElem?_set_ne (Ne.symm hj)]; exact h2, h3, dps_mono st.hid h4, h5, h6⟩
  · obtain ⟨n, q⟩ := amDrop_some.mp q
    obtain ⟨h1, b, ds', h2⟩ := s.amf j a' q
    exact ⟨h1, b, ds', by rw [List.getElem?_set_ne (Ne.symm n)]; exact h2⟩
  · exact s.inj j k a' (amDrop_some.mp q1).2 (amDrop_some.mp q2).2
  · refine amDrop_some.mpr ⟨fun z => ?_, s.bas j a' q⟩
    subst z
    rw [s.nba e hc] at q
    cases q
def amPut (am : Am) (i : Nat) (p : Addr) : Am := fun j => if j = i then some p else am j
theorem amPut_same : amPut am i p i = some p := by simp [amPut]
theorem amPut_ne {j : Nat} (h : j ≠ i) : amPut am i p j = am j := by simp [amPut, h]
theorem step_put (n : H p = none) : Step am H (amPut am i p) (upd H p (.lst vs)) :=
  ⟨fun b o h _ => same_new n b o h, fun j a h => by
    by_cases hj : j = i
    · subst hj
      rw [amPut_same] at h
      cases h
      exact .inr n
    · rw [amPut_ne hj] at h
      exact .inl ⟨j, h⟩, fun b o h => ⟨o, same_new n b o h⟩⟩
theorem SR.putOwn (s : SR K ph am σ H δ) {c : Cell} (e : δ[i]? = some c) (hc : c.free = true) (n : H p = none) (dv : DqAll K (hid ph am H) vs ds) (hz : vs.length ≤ sizeLine) :
    SR K ph (amPut am i p) (σ.set i (some (.ref p))) (upd H p (.lst vs)) (δ.set i (.ow false ds)) := by
  have st : Step am H (amPut am i p) (upd H p (.lst vs)) := step_put n
  have hi : i < δ.length := (List.getElem?_eq_some_iff.mp e).1
  have hσ : i < σ.length := by rw [s.len]; exact hi
  have np : ¬ Hid ph am p := s.new n
  refine ⟨by rw [List.length_set, List.length_set, s.len], fun j d' q => ?_, fun j b' ds' q => ?_, fun j a' q => ?_, fun j k a' q1 q2 => ?_, fun b hb => ?_, fun j a' q => ?_⟩
  · by_cases hj : j = i
    · subst hj
      rw [List.getElem?_set_self hi] at q
      cases q
    · rw [List.getElem?_set_ne (Ne.symm hj)] at q
      obtain ⟨v', h1, h2⟩ := s.fz j d' q
      exact ⟨v', by rw [List.getElem?_set_ne (Ne.symm hj)]; exact h1, dp_mono st.hid h2⟩
  · by_cases hj : j = i
    · subst hj
      rw [List.getElem?_set_self hi] at q
      cases q
      exact ⟨p, vs, amPut_same, List.getElem?_set_self hσ, upd_same, dps_mono st.hid dv, hz, fun _ => s.nba e hc⟩
    · rw [List.getElem?_set_ne (Ne.symm hj)] at q
      obtain ⟨a2, vs2, h1, h2, h3, h4, h5, h6⟩ := s.ow j b' ds' q
      exact ⟨a2, vs2, by rw [amPut_ne hj]; exact h1, by rw [List.getElem?_set_ne (Ne.symm hj)]; exact h2, same_new n _ _ h3, dps_mono st.hid h4, h5, h6⟩
  · by_cases hj : j = i
    · subst hj
      rw [amPut_same] at q
      cases q
      exact ⟨fun z => np (.inl z), false, ds, List.getElem?_set_self hi⟩
    · rw [amPut_ne hj] at q
      obtain ⟨h1, b, ds', h2⟩ := s.amf j a' q
      exact ⟨h1, b, ds', by rw [List.getElem?_set_ne (Ne.symm hj)]; exact h2⟩
  · by_cases hj : j = i
    · by_cases hk : k = i
      · rw [hj, hk]
      · rw [hj, amPut_same] at q1
        cases q1
        rw [amPut_ne hk] at q2
        exact (np (.inr ⟨k, q2⟩)).elim
    · by_cases hk : k = i
      · rw [hk, amPut_same] at q2
        cases q2
        rw [amPut_ne hj] at q1
        exact (np (.inr ⟨j, q1⟩)).elim
      · rw [amPut_ne hj] at q1
        rw [amPut_ne hk] at q2
        exact s.inj j k a' q1 q2
  · obtain ⟨o, h1⟩ := s.phs b hb
    exact ⟨o, same_new n _ _ h1⟩
  · have hj : j ≠ i := fun z => by
      subst z
      rw [s.nba e hc] at q
      cases q
    rw [amPut_ne hj]
    exact s.bas j a' q
/-- a list of one's own is changed -/
theorem hid_own (h : am i = some a) {o : HO} : hid ph am (upd H a o) = hid ph am H := by
  funext b
  unfold hid
  by_cases hb : Hid ph am b
  · rw [if_pos hb, if_pos hb]
  · rw [if_neg hb, if_neg hb, upd_ne]
    intro z
    subst z
    exact hb (.inr ⟨i, h⟩)
theorem step_mut (h : am i = some a) {u : HO} (e : H a = some u) : Step am H am (upd H a (.lst vs)) :=
  ⟨fun b o q n => by rw [upd_ne (fun z => n i (by rw [z]; exact h))]; exact q, fun j b q => .inl ⟨j, q⟩, fun b o q => by
    by_cases z : b = a
    · subst z
      exact ⟨_, upd_same⟩
    · exact ⟨o, by rw [upd_ne z]; exact q⟩⟩
theorem SR.mut (s : SR K ph am σ H δ) {b : Bool} (e : δ[i]? = some (.ow b ds)) (h : am i = some a) {ds' : List PyData} {vs' : List V} (dv : DqAll K (hid ph am H) vs' ds') (hz : vs'.length ≤ sizeLine) :
    SR K ph am σ (upd H a (.lst vs')) (δ.set i (.ow b ds')) := by
  have hi : i < δ.length := (List.getElem?_eq_some_iff.mp e).1
  obtain ⟨a0, vs0, e1, e2, e3, e4, e5, e6⟩ := s.ow i b ds e
  rw [h] at e1
  cases e1
  have hh : ∀ o, hid ph am (upd H a o) = hid ph am H := fun o => hid_own h
  refine ⟨by rw [List.length_set, s.len], fun j d' q => ?_, fun j b' ds2 q => ?_, fun j a' q => ?_, s.inj, fun c hc => ?_, s.bas⟩
  · have hj : j ≠ i := fun z => by
      subst z
      rw [List.getElem?_set_self hi] at q
      cases q
    rw [List.getElem?_set_ne (Ne.symm hj)] at q
    rw [hh]
    exact s.fz j d' q
  · by_cases hj : j = i
    · subst hj
      rw [List.getElem?_set_self hi] at q
      cases q
      exact ⟨a, vs', h, e2, upd_same, by rw [hh]; exact dv, hz, e6⟩
    · rw [List.getElem?_set_ne (Ne.symm hj)] at q
      obtain ⟨a2, vs2, h1, h2, h3, h4, h5, h6⟩ := s.ow j b' ds2 q
      have na : a2 ≠ a := fun z => hj (s.inj j i a (by rw [← z]; exact h1) h)
      exact ⟨a2, vs2, h1, h2, by rw [upd_ne na]; exact h3, by rw [hh]; exact h4, h5, h6⟩
  · obtain ⟨h1, b2, ds2, h2⟩ := s.amf j a' q
    by_cases hj : j = i
    · exact ⟨h1, b, ds', by rw [hj]; exact List.getElem?_set_self hi⟩
    · exact ⟨h1, b2, ds2, by rw [List.getElem?_set_ne (Ne.symm hj)]; exact h2⟩
  · obtain ⟨o, h1⟩ := s.phs c hc
    have na : c ≠ a := fun z => (s.amf i a h).1 (by rw [← z]; exact hc)
    exact ⟨o, by rw [upd_ne na]; exact h1⟩

/-! ### canonical readings -/
theorem PE.weak {t t' : TE} (h : PE X e t) (w : ∀ σ H Q, t' σ H Q → t σ H Q) : PE X e t' := ⟨fun pins s σ H Q I q => h.run pins s σ H Q I (w σ H Q q)⟩
theorem PT.weak {t t' : TT} (h : PT X e t) (w : ∀ σ H Q, t' σ H Q → t σ H Q) : PT X e t' := ⟨fun pins s σ H Q I q => h.run pins s σ H Q I (w σ H Q q)⟩
def tOf (K : PySem.W.Frag) (mg : Str → Option Value) (W : WX) (f : M PyData) : TE := fun σ H Q => ∃ ph am δ ans δ', SR K ph am σ H δ ∧ f δ = some (ans, δ') ∧
  (∀ d, ans = .ok d → ∀ am' v H', Step am H am' H' → SR K ph am' σ H' δ' → Dq K (hid ph am' H') v d → Q v H') ∧ (∀ c fs, ans = .ex c fs → XPm K mg W ph am σ H δ' c fs)
def ttOf (K : PySem.W.Frag) (mg : Str → Option Value) (W : WX) (f : M Bool) : TT := fun σ H Q => ∃ ph am δ ans δ', SR K ph am σ H δ ∧ f δ = some (ans, δ') ∧
  (∀ b, ans = .ok b → ∀ am' H', Step am H am' H' → SR K ph am' σ H' δ' → Q b H') ∧ (∀ c fs, ans = .ex c fs → XPm K mg W ph am σ H δ' c fs)
theorem DE.can (d : DE X W e f) : PE X e (tOf X.K X.mg W f) := by
  obtain ⟨t, p, q⟩ := d.ex
  refine PE.weak p fun σ H Q ⟨ph, am, δ, ans, δ', s, e, k, kx⟩ => q ph am σ H δ Q ans δ' s e k kx
theorem DT.can (d : DT X W e fb) : PT X e (ttOf X.K X.mg W fb) := by
  obtain ⟨t, p, q⟩ := d.ex
  refine PT.weak p fun σ H Q ⟨ph, am, δ, ans, δ', s, e, k, kx⟩ => q ph am σ H δ Q ans δ' s e k kx

/-! ### targets -/
abbrev Tg := PyData → Sg → Option Sg
def ReadG (X : Cx) (t : TG) (s : Tg) : Prop := ∀ (ph : Fx) (am : Am) (σ : L2.St) (H : Hp) (δ δ' : Sg) (v : V) (d : PyData) (Q : L2.St → Hp → Prop), SR X.K ph am σ H δ → Dq X.K (hid ph am H) v d → s d δ = some δ' →
  (∀ am' σ', Step am H am' H → SR X.K ph am' σ' H δ' → Q σ' H) → t v σ H Q
structure DG (X : Cx) (tg : Expr) (s : Tg) : Prop where
  ex : ∃ t, PG X tg t ∧ ReadG X t s
def tgOf (K : PySem.W.Frag) (s : Tg) : TG := fun v σ H Q => ∃ ph am δ δ' d, SR K ph am σ H δ ∧ Dq K (hid ph am H) v d ∧ s d δ = some δ' ∧ (∀ am' σ', Step am H am' H → SR K ph am' σ' H δ' → Q σ' H)
theorem DG.can {tg : Expr} {s : Tg} (d : DG X tg s) : PG X tg (tgOf X.K s) := by
  obtain ⟨t, p, q⟩ := d.ex
  exact ⟨fun pins st σ H v u Q I r ⟨ph, am, δ, δ', dd, s1, s2, s3, k⟩ => p.run pins st σ H v u Q I r (q ph am σ H δ δ' v dd Q s1 s2 s3 k)⟩
def sName (i : Nat) : Tg := fun d δ => match δ[i]? with
  | some c => if c.free = true then some (δ.set i (.fz d)) else none
  | none => none
theorem sName_some {i : Nat} (h : sName i d δ = some δ') : ∃ c, δ[i]? = some c ∧ c.free = true ∧ δ' = δ.set i (.fz d) := by
  unfold sName at h
  split at h
  · rename_i c e
    obtain ⟨h1, rfl⟩ := if_some h
    exact ⟨c, e, h1, rfl⟩
  · cases h
theorem dg_name {i : Nat} {x : Str} (hN : X.N.Nodup) (hi : X.N[i]? = some x := by rfl) (hx : Loc X.env.scope x := by first | exact Or.inl rfl | exact Or.inr rfl) (hf : X.fn x = true ∨ X.env.scope.names.lookup x = some .local := by first | exact .inl rfl | exact .inr rfl) : DG X (.Name x pos) (sName i) :=
  ⟨⟨gName i, pg_name hN hi hx hf, fun ph am σ H δ δ' v d Q s dv q k => by
    obtain ⟨c, e1, e2, rfl⟩ := sName_some q
    exact k _ _ step_drop (s.put e1 e2 dv)⟩⟩
abbrev Tgs := List PyData → Sg → Option Sg
structure DGs (X : Cx) (ts : List Expr) (s : Tgs) : Prop where
  ex : ∃ t, PGs X ts t ∧ ∀ (ph : Fx) (am : Am) (σ : L2.St) (H : Hp) (δ δ' : Sg) (vs : List V) (ds : List PyData) (Q : L2.St → Hp → Prop), SR X.K ph am σ H δ → DqAll X.K (hid ph am H) vs ds → s ds δ = some δ' →
    (∀ am' σ', Step am H am' H → SR X.K ph am' σ' H δ' → Q σ' H) → t vs σ H Q
def sNil : Tgs := fun ds δ => match ds with
  | [] => some δ
  | _ :: _ => none
def sCons (s : Tg) (r : Tgs) : Tgs := fun ds δ => match ds with
  | [] => none
  | d :: ds => match s d δ with
    | some δ1 => r ds δ1
    | none => none
theorem dgs_nil : DGs X [] sNil := ⟨⟨gNil, pgs_nil, fun ph am σ H δ δ' vs ds Q s dv q k => by
  cases dv with
  | nil => cases q; exact ⟨rfl, k am σ Step.refl s⟩
  | cons _ _ => cases q⟩⟩
theorem dgs_cons {tg : Expr} {ts : List Expr} {s : Tg} {r : Tgs} (h : DG X tg s) (t : DGs X ts r) (hs : (assignEach (tg :: ts) X.env).map (·.2) = assign tg X.env :: (assignEach ts X.env).map (·.2) := by rfl) : DGs X (tg :: ts) (sCons s r) := by
  obtain ⟨t1, p1, q1⟩ := h.ex
  obtain ⟨t2, p2, q2⟩ := t.ex
  refine ⟨⟨_, pgs_cons p1 p2 hs, fun ph am σ H δ δ' vs ds Q s dv q k => ?_⟩⟩
  cases dv with
  | nil => cases q
  | cons dv dt =>
    rename_i v vs d ds
    unfold sCons at q
    simp only at q
    split at q
    · rename_i δ1 e1
      refine ⟨v, vs, rfl, q1 ph am σ H δ δ1 v d _ s dv e1 fun am1 σ1 st1 s1 => ?_⟩
      exact q2 ph am1 σ1 H δ1 δ' vs ds Q s1 (dps_mono st1.hid dt) q fun am2 σ2 st2 s2 => k am2 σ2 (st1.trans st2) s2
    · cases q
def sTup (n : Nat) (r : Tgs) : Tg := fun d δ => match d with
  | .tuple ds => if ds.length = n then r ds δ else none
  | _ => none
theorem dg_tup {ts : List Expr} {k n : Nat} {r : Tgs} (hc : X.calm = true) (t : DGs X ts r) (hn : (assignEach ts X.env).length = n := by rfl) (hst : (assignEach ts X.env).findIdx? (·.1) = none := by rfl) : DG X (.Tuple ts k pos) (sTup n r) := by
  obtain ⟨t2, p2, q2⟩ := t.ex
  refine ⟨⟨_, pg_tup hc p2 hn hst, fun ph am σ H δ δ' v d Q s dv q k => ?_⟩⟩
  cases dv with
  | tup h1 a1 =>
    unfold sTup at q
    simp only at q
    split at q
    · rename_i hl
      exact ⟨_, _, rfl, seqT_hid h1, by rw [a1.length]; exact hl, q2 ph am σ H δ δ' _ _ Q s a1 q k⟩
    · cases q
  | _ => cases q
end PD
end

section
set_option Elab.async false
set_option linter.all false
set_option maxRecDepth 100000
set_option maxHeartbeats 1000000
namespace PD
open PySem PySem.Spec PyProof.Rows L2
variable {X : Cx} {W : WX} {pos : Pos} {e e1 e2 e3 : Expr} {es : List Expr} {f g h : M PyData} {fs : M (List PyData)} {fb gb : M Bool}
variable {K : PySem.W.Frag} {ph : Fx} {am am' am1 : Am} {H H' H1 : Hp} {σ σ' : L2.St} {δ δ' δ1 : Sg} {a p p1 p2 : Addr} {v : V} {vs : List V} {d : PyData} {ds : List PyData} {i : Nat}

inductive Flo where
  | nx | bk | ct
  | rt (d : PyData)
  | rf (ds : List PyData)
abbrev MS := M Flo
/-- what is wanted at an end -/
def EndOk (K : PySem.W.Frag) (ph : Fx) (am : Am) (H : Hp) (δ' : Sg) (D : Ends) : Flo → Prop
  | .nx => ∀ am' σ' H', Step am H am' H' → SR K ph am' σ' H' δ' → D.nx σ' H'
  | .bk => ∀ am' σ' H', Step am H am' H' → SR K ph am' σ' H' δ' → D.bk σ' H'
  | .ct => ∀ am' σ' H', Step am H am' H' → SR K ph am' σ' H' δ' → D.ct σ' H'
  | .rt d => ∀ am' σ' v H', Step am H am' H' → SR K ph am' σ' H' δ' → Dq K (hid ph am' H') v d → D.rt v H'
  | .rf ds => ∀ am' σ' p vs H', H p = none → H' p = none → Step am H am' H' → SR K ph am' σ' H' δ' → DqAll K (hid ph am' H') vs ds → vs.length ≤ sizeLine → D.rt (.ref p) (upd H' p (.lst vs))
theorem EndOk.step {D : Ends} {fl : Flo} (st : Step am H am1 H1) (k : EndOk K ph am H δ' D fl) : EndOk K ph am1 H1 δ' D fl := by
  cases fl with
  | nx => exact fun am' σ' H' s1 s2 => k am' σ' H' (st.trans s1) s2
  | bk => exact fun am' σ' H' s1 s2 => k am' σ' H' (st.trans s1) s2
  | ct => exact fun am' σ' H' s1 s2 => k am' σ' H' (st.trans s1) s2
  | rt d => exact fun am' σ' v H' s1 s2 => k am' σ' v H' (st.trans s1) s2
  | rf ds => exact fun am' σ' p vs H' n1 n2 s1 s2 => k am' σ' p vs H' (st.none n1) n2 (st.trans s1) s2
def ReadS (X : Cx) (W : WX) (t : TS) (g : MS) : Prop := ∀ (ph : Fx) (am : Am) (σ : L2.St) (H : Hp) (δ : Sg) (D : Ends) (ans : Ans Flo) (δ' : Sg), SR X.K ph am σ H δ → g δ = some (ans, δ') →
  (∀ fl, ans = .ok fl → EndOk X.K ph am H δ' D fl) → (∀ c fs, ans = .ex c fs → XPS X W ph am H δ' c fs) → t D σ H
structure DS (X : Cx) (W : WX) (st : Stmt) (g : MS) : Prop where
  ex : ∃ t, PS X st t ∧ ReadS X W t g
structure DSs (X : Cx) (W : WX) (st : List Stmt) (g : MS) : Prop where
  ex : ∃ t, PSs X st t ∧ ReadS X W t g
variable {st : Stmt} {sts : List Stmt} {gs hs : MS}
def sSkip : MS := ret .nx
def sSeq (g h : MS) : MS := fun δ => match g δ with
  | some (.ok .nx, δ1) => h δ1
  | r => r
theorem sSeq_some {g h : MS} {ans : Ans Flo} (q : sSeq g h δ = some (ans, δ')) : (∃ δ1, g δ = some (.ok .nx, δ1) ∧ h δ1 = some (ans, δ')) ∨ (g δ = some (ans, δ') ∧ ans ≠ .ok .nx) := by
  unfold sSeq at q
  split at q
  · rename_i δ1 e
    exact .inl ⟨δ1, e, q⟩
  · rename_i hne
    refine .inr ⟨q, fun z => ?_⟩
    subst z
    exact hne δ' q
theorem dss_nil : DSs X W [] sSkip := ⟨⟨tNext, pss_nil, fun ph am σ H δ D ans δ' s q k _ => by cases q; exact k _ rfl am σ H Step.refl s⟩⟩
theorem dss_one (h1 : DS X W st gs) : DSs X W [st] gs := by
  obtain ⟨t, p, q⟩ := h1.ex
  exact ⟨⟨t, pss_one p, q⟩⟩
theorem seq_read {t u : TS} (q1 : ReadS X W t gs) (q2 : ReadS X W u hs) : ReadS X W (tSeq t u) (sSeq gs hs) := by
  intro ph am σ H δ D ans δ' s q k kx
  rcases sSeq_some q with ⟨δ1, e1, e2⟩ | ⟨e1, ne⟩
  · refine q1 ph am σ H δ _ _ _ s e1 (fun fl z => ?_) (fun c fs z => by cases z)
    cases z
    intro am1 σ1 H1 st1 s1
    exact q2 ph am1 σ1 H1 δ1 D ans δ' s1 e2 (fun fl z => (k fl z).step st1) fun c fs z => (kx c fs z).step st1
  · refine q1 ph am σ H δ _ _ _ s e1 (fun fl z => ?_) kx
    subst z
    cases fl with
    | nx => exact (ne rfl).elim
    | bk => exact k _ rfl
    | ct => exact k _ rfl
    | rt d => exact k _ rfl
    | rf ds => exact k _ rfl
theorem dss_cons (h1 : DS X W st gs) (h2 : DSs X W sts hs) : DSs X W (st :: sts) (sSeq gs hs) := by
  obtain ⟨t1, p1, q1⟩ := h1.ex
  obtain ⟨t2, p2, q2⟩ := h2.ex
  exact ⟨⟨_, pss_cons p1 p2, seq_read q1 q2⟩⟩
/-! ### returns, expressions -/
def sRet (f : M PyData) : MS := bnd f fun d => ret (.rt d)
theorem ds_ret (he : DE X W e f) : DS X W (.Return (some e) pos) (sRet f) := by
  obtain ⟨t, p, q⟩ := he.ex
  refine ⟨⟨_, ps_ret p, fun ph am σ H δ D ans δ' s z k kx => ?_⟩⟩
  rcases bnd_some z with ⟨d, δ1, e1, e2⟩ | ⟨c, fs, e1, e2⟩
  · cases e2
    exact q ph am σ H δ _ _ _ s e1 (fun d ed am1 v H1 st1 s1 d1 => by cases ed; exact k _ rfl am1 σ v H1 st1 s1 d1) (fun c fs z => by cases z)
  · subst e2
    exact q ph am σ H δ _ _ _ s e1 (fun d ed => by cases ed) (fun c' fs' z => by cases z; exact (kx _ _ rfl).at)
def sRetF (f : M (List PyData)) : MS := bnd f fun d => ret (.rf d)
theorem ds_retF (he : DF X W e fs) : DS X W (.Return (some e) pos) (sRetF fs) := by
  obtain ⟨t, p, q⟩ := he.ex
  refine ⟨⟨_, ps_ret p, fun ph am σ H δ D ans δ' s z k kx => ?_⟩⟩
  rcases bnd_some z with ⟨d, δ1, e1, e2⟩ | ⟨c, fs, e1, e2⟩
  · cases e2
    exact q ph am σ H δ _ _ _ s e1 (fun d ed am1 p vs H1 n0 n1 st1 s1 d1 hz => by cases ed; exact k _ rfl am1 σ p vs H1 n0 n1 st1 s1 d1 hz) (fun c fs z => by cases z)
  · subst e2
    exact q ph am σ H δ _ _ _ s e1 (fun d ed => by cases ed) (fun c' fs' z => by cases z; exact (kx _ _ rfl).at)
theorem ds_retN : DS X W (.Return none pos) (ret (.rt .none)) := ⟨⟨tRetN, ps_retN, fun ph am σ H δ D ans δ' s z k kx => by
  cases z
  exact k _ rfl am σ .non H Step.refl s .non⟩⟩
def sDrop (f : M PyData) : MS := bnd f fun _ => ret .nx
theorem ds_expr (he : DE X W e f) (hs : swapsWith e none pos.line X.env = pure false := by rfl) : DS X W (.Expr e pos) (sDrop f) := by
  obtain ⟨t, p, q⟩ := he.ex
  refine ⟨⟨_, ps_expr p hs, fun ph am σ H δ D ans δ' s z k kx => ?_⟩⟩
  rcases bnd_some z with ⟨d, δ1, e1, e2⟩ | ⟨c, fs, e1, e2⟩
  · cases e2
    exact q ph am σ H δ _ _ _ s e1 (fun d ed am1 v H1 st1 s1 d1 => by cases ed; exact k _ rfl am1 σ H1 st1 s1) (fun c fs z => by cases z)
  · subst e2
    exact q ph am σ H δ _ _ _ s e1 (fun d ed => by cases ed) (fun c' fs' z => by cases z; exact (kx _ _ rfl).at)
theorem ds_pass : DS X W (.Pass pos) sSkip := ⟨⟨tNext, ps_pass, fun ph am σ H δ D ans δ' s q k _ => by cases q; exact k _ rfl am σ H Step.refl s⟩⟩
theorem ds_break : DS X W (.Break pos) (ret .bk) := ⟨⟨tBreak, ps_break, fun ph am σ H δ D ans δ' s q k _ => by cases q; exact k _ rfl am σ H Step.refl s⟩⟩
theorem ds_continue : DS X W (.Continue pos) (ret .ct) := ⟨⟨tCont, ps_continue, fun ph am σ H δ D ans δ' s q k _ => by cases q; exact k _ rfl am σ H Step.refl s⟩⟩
def sIf (c : M Bool) (g h : MS) : MS := bnd c fun b => if b = true then g else h
theorem ds_if {a b : List Stmt} (hc : DT X W e fb) (ha : DSs X W a gs) (hb : DSs X W b hs) : DS X W (.If e a b pos) (sIf fb gs hs) := by
  obtain ⟨tc, pc, qc⟩ := hc.ex
  obtain ⟨ta, pa, qa⟩ := ha.ex
  obtain ⟨tb, pb, qb⟩ := hb.ex
  refine ⟨⟨_, ps_if pc pa pb, fun ph am σ H δ D ans δ' s q k kx => ?_⟩⟩
  rcases bnd_some q with ⟨x, δ1, e1, q1⟩ | ⟨c, fs, e1, q1⟩
  · refine qc ph am σ H δ _ _ _ s e1 (fun d ed am1 H1 st1 s1 => ?_) (fun c fs z => by cases z)
    cases ed
    cases x with
    | true =>
      rw [if_pos rfl] at q1
      exact iteT (qa ph am1 σ H1 δ1 D _ _ s1 q1 (fun fl z => (k fl z).step st1) fun c fs z => (kx c fs z).step st1)
    | false =>
      rw [if_neg Bool.false_ne_true] at q1
      exact iteF (qb ph am1 σ H1 δ1 D _ _ s1 q1 (fun fl z => (k fl z).step st1) fun c fs z => (kx c fs z).step st1)
  · subst q1
    exact qc ph am σ H δ _ _ _ s e1 (fun d ed => by cases ed) (fun c' fs' z => by cases z; exact (kx _ _ rfl).at)
/-! ### stores -/
def sAsg (f : M PyData) (s : Tg) : MS := bnd f fun d => fun δ => match s d δ with
  | some δ' => some (.ok .nx, δ')
  | none => none
theorem asg_read {t : TE} {u : TG} {s : Tg} (q1 : ReadE X W t f) (q2 : ReadG X u s) : ReadS X W (tAsg t u) (sAsg f s) := by
  intro ph am σ H δ D ans δ' sr z k kx
  rcases bnd_some z with ⟨d, δ1, e1, e2⟩ | ⟨c, fs, e1, e2⟩
  · refine q1 ph am σ H δ _ _ _ sr e1 (fun d ed am1 v H1 st1 s1 d1 => ?_) (fun c fs z => by cases z)
    cases ed
    split at e2
    · rename_i δ2 e3
      cases e2
      exact q2 ph am1 σ H1 δ1 _ v d _ s1 d1 e3 fun am2 σ2 st2 s2 => k _ rfl am2 σ2 H1 (st1.trans st2) s2
    · cases e2
  · subst e2
    exact q1 ph am σ H δ _ _ _ sr e1 (fun d ed => by cases ed) (fun c' fs' z => by cases z; exact (kx _ _ rfl).at)
theorem ds_asg {tg : Expr} {s : Tg} (he : DE X W e f) (hg : DG X tg s) (hs : swapsWithSole [tg] e pos.line X.env = pure false := by rfl) (hw : swappedStores [tg] e X.env = pure none := by rfl)
    (h1 : (assignEach [tg] X.env).map (·.2) = [assign tg X.env] := by rfl) : DS X W (.Assign [tg] e pos) (sAsg f s) := by
  obtain ⟨t, p, q⟩ := he.ex
  obtain ⟨u, pu, qu⟩ := hg.ex
  exact ⟨⟨_, ps_asg p pu hs hw h1, asg_read q qu⟩⟩
theorem ds_set {i : Nat} {x : Str} {pos' : Pos} (hN : X.N.Nodup) (he : DE X W e f) (hi : X.N[i]? = some x := by rfl) (hx : Loc X.env.scope x := by first | exact Or.inl rfl | exact Or.inr rfl) (hs : swapsWith e (some (.Name x pos')) pos.line X.env = pure false := by rfl)
    (hf : X.fn x = true ∨ X.env.scope.names.lookup x = some .local := by first | exact .inl rfl | exact .inr rfl) : DS X W (.Assign [.Name x pos'] e pos) (sAsg f (sName i)) := by
  obtain ⟨t, p, q⟩ := he.ex
  exact ⟨⟨_, ps_set hN hi hx p hs hf, asg_read q fun ph am σ H δ δ' v d Q s dv q k => by
    obtain ⟨c, e1, e2, rfl⟩ := sName_some q
    exact k _ _ step_drop (s.put e1 e2 dv)⟩⟩
/-- a new list that the name is to own -/
def sOwn (f : M (List PyData)) (i : Nat) : MS := bnd f fun ds => fun δ => match δ[i]? with
  | some c => if c.free = true then some (.ok .nx, δ.set i (.ow false ds)) else none
  | none => none
theorem own_read {t : TE} (q1 : ReadF X W t fs) : ReadS X W (tAsg t (gName i)) (sOwn fs i) := by
  intro ph am σ H δ D ans δ' sr z k kx
  rcases bnd_some z with ⟨ds, δ1, e1, e2⟩ | ⟨c, fs, e1, e2⟩
  · refine q1 ph am σ H δ _ _ _ sr e1 (fun d ed am1 p vs H1 n0 n1 st1 s1 d1 hz => ?_) (fun c fs z => by cases z)
    cases ed
    split at e2
    · rename_i c e3
      obtain ⟨h1, e4⟩ := if_some e2
      cases e4
      exact k _ rfl (amPut am1 i p) _ _ (st1.trans (step_put n1)) (s1.putOwn e3 h1 n1 d1 hz)
    · cases e2
  · subst e2
    exact q1 ph am σ H δ _ _ _ sr e1 (fun d ed => by cases ed) (fun c' fs' z => by cases z; exact (kx _ _ rfl).at)
theorem ds_own {i : Nat} {x : Str} {pos' : Pos} (hN : X.N.Nodup) (he : DF X W e fs) (hi : X.N[i]? = some x := by rfl) (hx : Loc X.env.scope x := by first | exact Or.inl rfl | exact Or.inr rfl) (hs : swapsWith e (some (.Name x pos')) pos.line X.env = pure false := by rfl)
    (hf : X.fn x = true ∨ X.env.scope.names.lookup x = some .local := by first | exact .inl rfl | exact .inr rfl) : DS X W (.Assign [.Name x pos'] e pos) (sOwn fs i) := by
  obtain ⟨t, p, q⟩ := he.ex
  exact ⟨⟨_, ps_set hN hi hx p hs hf, own_read q⟩⟩
/-- xs[k] = e, xs owned -/
def sSub (f : M PyData) (i : Nat) (g : M PyData) : MS := bnd f fun d => fun δ1 => match δ1[i]? with
  | some (.ow _ _) => (bnd g fun k => fun δ2 => match δ2[i]?, k with
    | some (.ow b ds), .int n => match ixN ds.length n with
      | some j => some (.ok .nx, δ2.set i (.ow b (ds.set j d)))
      | none => none
    | _, _ => none) δ1
  | _ => none
theorem ds_sub {i : Nat} {x : Str} {pn ps' : Pos} (he : DE X W e f) (hk : DE X W e2 g) (hN : X.N[i]? = some x := by rfl) (hv : Vis X.env.scope x := by first | exact Or.inl rfl | exact Or.inr (Or.inl rfl) | exact Or.inr (Or.inr rfl)) (hd : (x == ("__debug__" : Str)) = false := by decide) (hcd : (x == ("__classdict__" : Str)) = false := by decide)
    (ha : ∀ v, assign (.Subscript (.Name x pn) e2 ps') X.env v = (do
      let ov ← holding [v] (eval (.Name x pn) X.env)
      let iv ← holding [v, ov] (eval e2 X.env)
      standAt ps'
      holding [v, ov, iv] (setItem ov iv v)
      release [v, ov, iv] []) := by intro _; rfl)
    (hs : swapsWithSole [.Subscript (.Name x pn) e2 ps'] e pos.line X.env = pure false := by rfl) (hw : swappedStores [.Subscript (.Name x pn) e2 ps'] e X.env = pure none := by rfl)
    (h1 : (assignEach [.Subscript (.Name x pn) e2 ps'] X.env).map (·.2) = [assign (.Subscript (.Name x pn) e2 ps') X.env] := by rfl) : DS X W (.Assign [.Subscript (.Name x pn) e2 ps'] e pos) (sSub f i g) := by
  obtain ⟨t, p, q⟩ := he.ex
  obtain ⟨t2, p2, q2⟩ := hk.ex
  refine ⟨⟨_, ps_asg p (pg_sub (pe_var hN hv hd hcd) p2 set_list ha) hs hw h1, fun ph am σ H δ D ans δ' sr z k kx => ?_⟩⟩
  rcases bnd_some z with ⟨d, δ1, e1, e2⟩ | ⟨c, fs, e1, e2⟩
  · refine q ph am σ H δ _ _ _ sr e1 (fun d ed am1 v H1 st1 s1 d1 => ?_) (fun c fs z => by cases z)
    cases ed
    split at e2
    · rename_i b0 ds0 e3
      obtain ⟨a0, vs0, o1, o2, o3, o4, _, _⟩ := s1.ow i b0 ds0 e3
      refine ⟨.ref a0, o2, ?_⟩
      rcases bnd_some e2 with ⟨n, δ2, e4, e5⟩ | ⟨c, fs, e4, e5⟩
      · refine q2 ph am1 σ H1 δ1 _ _ _ s1 e4 (fun d ed am2 w H2 st2 s2 d2 => ?_) (fun c fs z => by cases z)
        cases ed
        split at e5
        · rename_i b ds k' e6
          cases d2 with
          | int n =>
            obtain ⟨a1, vs1, r1, r2, r3, r4, r5, r6⟩ := s2.ow i b ds e6
            rw [o2] at r2
            cases r2
            split at e5
            · rename_i j e7
              cases e5
              refine ⟨a0, vs1, _, j, rfl, rfl, r3, by rw [r4.length]; exact e7, ?_⟩
              exact k _ rfl am2 σ _ ((st1.trans st2).trans (step_mut r1 r3)) (s2.mut e6 r1 (r4.set (dp_mono st2.hid d1) j) (by rw [List.length_set]; exact r5))
            · cases e5
        · cases e5
      · subst e5
        exact q2 ph am1 σ H1 δ1 _ _ _ s1 e4 (fun d ed => by cases ed) (fun c' fs' z => by cases z; exact ((kx _ _ rfl).step st1).at)
    · cases e2
  · subst e2
    exact q ph am σ H δ _ _ _ sr e1 (fun d ed => by cases ed) (fun c' fs' z => by cases z; exact (kx _ _ rfl).at)
/-- xs.append(e), xs owned -/
def sApp (i : Nat) (f : M PyData) : MS := fun δ => match δ[i]? with
  | some (.ow _ _) => (bnd f fun d => fun δ1 => match δ1[i]? with
    | some (.ow b ds) => if ds.length < sizeLine then some (.ok .nx, δ1.set i (.ow b (ds ++ [d]))) else none
    | _ => none) δ
  | _ => none
theorem ds_app {i : Nat} {x : Str} {pn apos cpos : Pos} (he : DE X W e f) (hN : X.N[i]? = some x := by rfl) (hv : Vis X.env.scope x := by first | exact Or.inl rfl | exact Or.inr (Or.inl rfl) | exact Or.inr (Or.inr rfl)) (hd : (x == ("__debug__" : Str)) = false := by decide) (hcd : (x == ("__classdict__" : Str)) = false := by decide)
    (hs0 : starEach [e] X.env = (false, eval e X.env) :: starEach [] X.env := by rfl)
    (hbase : attributeBase (.Name x pn) "append" X.env (eval (.Name x pn) X.env) = eval (.Name x pn) X.env := by rfl)
    (hfew : ((backTo cpos (starEach [e] X.env)).all (fun x => !x.1) && (backToKw cpos (keywordEach [] X.env)).all (fun x => x.1.isSome)
      && decide (([e] : List Expr).length + ([] : List Keyword).length + (if ([] : List Keyword).isEmpty then 0 else 1) < 30)) = true := by rfl)
    (hline : (apos.endLine == cpos.line) = true := by rfl) (hplain : (backTo cpos (starEach [] X.env)).any (·.1) = false := by rfl)
    (hs : swapsWith (.Call (.Attribute (.Name x pn) "append" apos) [e] [] cpos) none pos.line X.env = pure false := by rfl) : DS X W (.Expr (.Call (.Attribute (.Name x pn) "append" apos) [e] [] cpos) pos) (sApp i f) := by
  obtain ⟨t, p, q⟩ := he.ex
  refine ⟨⟨_, ps_expr (pe_bm PySem.F.plainAttrs_list PySem.F.slot_list_append PySem.F.type_list_append mt_append (pe_var hN hv hd hcd) (pa_cons p pa_nil hs0) hbase hfew hline hs0 hplain) hs, fun ph am σ H δ D ans δ' sr z k kx => ?_⟩⟩
  unfold sApp at z
  split at z
  · rename_i b0 ds0 e3
    obtain ⟨a0, vs0, o1, o2, o3, o4, _, _⟩ := sr.ow i b0 ds0 e3
    refine ⟨.ref a0, o2, .inl ⟨rfl, _, .inl (.inl o3)⟩, ?_⟩
    rcases bnd_some z with ⟨d, δ2, e4, e5⟩ | ⟨c, fs, e4, e5⟩
    · refine q ph am σ H δ _ _ _ sr e4 (fun d ed am2 w H2 st2 s2 d2 => ?_) (fun c fs z => by cases z)
      cases ed
      split at e5
      · rename_i b ds e6
        obtain ⟨a1, vs1, r1, r2, r3, r4, r5, r6⟩ := s2.ow i b ds e6
        rw [o2] at r2
        cases r2
        obtain ⟨hz, e8⟩ := if_some e5
        cases e8
        refine ⟨a0, vs1, w, rfl, rfl, r3, by rw [r4.length]; exact hz, ?_⟩
        exact k _ rfl am2 σ _ (st2.trans (step_mut r1 r3)) (s2.mut e6 r1 (r4.append (.cons d2 .nil)) (by rw [List.length_append, r4.length]; exact hz))
      · cases e5
    · subst e5
      exact q ph am σ H δ _ _ _ sr e4 (fun d ed => by cases ed) (fun c' fs' z => by cases z; exact (kx _ _ rfl).at)
  · cases z
/-! ### reading what one owns, without freezing -/
def xIxO (i : Nat) (g : M PyData) : M PyData := fun δ => match δ[i]? with
  | some (.ow _ _) => (bnd g fun b => fun δ1 => match δ1[i]? with
    | some (.ow _ ds) => lif (ixD (.list ds) b) δ1
    | _ => none) δ
  | _ => none
theorem de_ixo {i : Nat} {x : Str} {pn : Pos} (hp : PlainIx e2) (hb : DE X W e2 g) (hN : X.N[i]? = some x := by rfl) (hv : Vis X.env.scope x := by first | exact Or.inl rfl | exact Or.inr (Or.inl rfl) | exact Or.inr (Or.inr rfl)) (hd : (x == ("__debug__" : Str)) = false := by decide) (hcd : (x == ("__classdict__" : Str)) = false := by decide) :
    DE X W (.Subscript (.Name x pn) e2 pos) (xIxO i g) := by
  obtain ⟨t, p, q⟩ := hb.ex
  refine ⟨⟨_, pe_ix ix_list (pe_var hN hv hd hcd) p hp, fun ph am σ H δ Q ans δ' sr z k kx => ?_⟩⟩
  unfold xIxO at z
  split at z
  · rename_i b0 ds0 e3
    obtain ⟨a0, vs0, o1, o2, o3, o4, _, _⟩ := sr.ow i b0 ds0 e3
    refine ⟨.ref a0, o2, ?_⟩
    rcases bnd_some z with ⟨d, δ2, e4, e5⟩ | ⟨c, fs, e4, e5⟩
    · refine q ph am σ H δ _ _ _ sr e4 (fun d ed am2 w H2 st2 s2 d2 => ?_) (fun c fs z => by cases z)
      cases ed
      split at e5
      · rename_i b ds e6
        obtain ⟨a1, vs1, r1, r2, r3, r4, r5, r6⟩ := s2.ow i b ds e6
        rw [o2] at r2
        cases r2
        obtain ⟨c, e7, rfl, rfl⟩ := lif_some e5
        cases d2 with
        | int n =>
          obtain ⟨v', h1, h2⟩ := atI_get r4 e7
          exact ⟨a0, vs1, n, v', rfl, rfl, .inl (.inl r3), h1, k _ rfl am2 v' H2 st2 s2 h2⟩
        | _ => cases e7
      · cases e5
    · subst e5
      exact q ph am σ H δ _ _ _ sr e4 (fun d ed => by cases ed) (fun c' fs' z => by cases z; exact kx _ _ rfl)
  · cases z
/-- len(xs) -/
def xLenO (i : Nat) : M PyData := fun δ => match δ[i]? with
  | some (.ow _ ds) => some (.ok (.int ds.length), δ)
  | _ => none
theorem de_leno {i : Nat} {x : Str} {pn pf : Pos} (hm : X.mg "len" = none) (hN : X.N[i]? = some x := by rfl) (hv : Vis X.env.scope x := by first | exact Or.inl rfl | exact Or.inr (Or.inl rfl) | exact Or.inr (Or.inr rfl)) (hd : (x == ("__debug__" : Str)) = false := by decide) (hcd : (x == ("__classdict__" : Str)) = false := by decide) (hg : Gl X "len" := by rfl)
    (he : starEach [.Name x pn] X.env = (false, eval (.Name x pn) X.env) :: starEach [] X.env := by rfl) (hpl : (backTo pos (starEach [] X.env)).any (·.1) = false := by rfl) : DE X W (.Call (.Name "len" pf) [.Name x pn] [] pos) (xLenO i) := by
  refine ⟨⟨_, pe_callB call_len_seq hg hm PySem.boot_len (pa_cons (pe_var hN hv hd hcd) pa_nil he) (by decide) (by decide) he hpl, fun ph am σ H δ Q ans δ' sr z k kx => ?_⟩⟩
  unfold xLenO at z
  split at z
  · rename_i b0 ds0 e3
    cases z
    obtain ⟨a0, vs0, o1, o2, o3, o4, _, _⟩ := sr.ow i b0 ds0 e3
    exact ⟨.ref a0, o2, a0, vs0, rfl, .inl (.inl (.inl o3)), k _ rfl am _ H Step.refl sr (by rw [o4.length]; exact .int _)⟩
  · cases z
/-- xs == e, xs != e: what comes is no part of xs -/
def xCmpO (F : PyData → PyData → Option PyData) (i : Nat) (g : M PyData) : M PyData := fun δ => match δ[i]? with
  | some (.ow _ _) => (bnd g fun b => fun δ1 => match δ1[i]? with
    | some (.ow _ ds) => match F (.list ds) b with
      | some (.bool c) => some (.ok (.bool c), δ1)
      | _ => none
    | _ => none) δ
  | _ => none
theorem cmpo_read {i : Nat} {t : TE} {r : R2} {F : PyData → PyData → Option PyData} (hr : OpD X r F) (q : ReadE X W t g) : ReadE X W (tOp r (tVar i) t) (xCmpO F i g) := by
  intro ph am σ H δ Q ans δ' sr z k kx
  unfold xCmpO at z
  split at z
  · rename_i b0 ds0 e3
    obtain ⟨a0, vs0, o1, o2, o3, o4, _, _⟩ := sr.ow i b0 ds0 e3
    refine ⟨.ref a0, o2, ?_⟩
    rcases bnd_some z with ⟨d, δ2, e4, e5⟩ | ⟨c, fs, e4, e5⟩
    · refine q ph am σ H δ _ _ _ sr e4 (fun d ed am2 w H2 st2 s2 d2 => ?_) (fun c fs z => by cases z)
      cases ed
      split at e5
      · rename_i b ds e6
        obtain ⟨a1, vs1, r1, r2, r3, r4, r5, r6⟩ := s2.ow i b ds e6
        rw [o2] at r2
        cases r2
        split at e5
        · rename_i c e7
          cases e5
          have st : Step am2 H2 (amDrop am2 i) H2 := step_drop
          have na : ¬ Hid ph (amDrop am2 i) a0 := by
            rintro (q | ⟨j, q⟩)
            · exact (s2.amf i a0 r1).1 q
            · obtain ⟨n, q⟩ := amDrop_some.mp q
              exact n (s2.inj j i a0 q r1)
          refine hr ph (amDrop am2 i) H2 _ w (.list ds) _ (.bool c) Q (fun b h => s2.hidden ?_) (.lst (.inl (.inl (hid_some.mpr ⟨na, r3⟩))) (dps_mono st.hid r4)) (dp_mono st.hid d2) e7 fun v H3 sm dv => ?_
          · rcases h with h | ⟨j, h⟩
            · exact .inl h
            · exact .inr ⟨j, (amDrop_some.mp h).2⟩
          · cases dv with
            | bl c => exact k _ rfl am2 _ H3 (st2.trans (Step.of sm)) (s2.same sm) (.bl c)
        · cases e5
      · cases e5
    · subst e5
      exact q ph am σ H δ _ _ _ sr e4 (fun d ed => by cases ed) (fun c' fs' z => by cases z; exact kx _ _ rfl)
  · cases z
theorem de_cmpo {i : Nat} {x : Str} {pn : Pos} {op : CmpOp} {r : R2} {F : PyData → PyData → Option PyData} (hr : OpD X r F) (ho : OpR X (compareOp op) r) (hm : behindInMarks op e2 = false) (hb : DE X W e2 g) (hN : X.N[i]? = some x := by rfl) (hv : Vis X.env.scope x := by first | exact Or.inl rfl | exact Or.inr (Or.inl rfl) | exact Or.inr (Or.inr rfl)) (hd : (x == ("__debug__" : Str)) = false := by decide) (hcd : (x == ("__classdict__" : Str)) = false := by decide) :
    DE X W (.Compare (.Name x pn) [op] [e2] pos) (xCmpO F i g) := by
  obtain ⟨t, p, q⟩ := hb.ex
  exact ⟨⟨_, pe_cmpR ho (pe_var hN hv hd hcd) p hm, cmpo_read hr q⟩⟩
theorem dt_cmpo {i : Nat} {x : Str} {pn : Pos} {op : CmpOp} {r : R2} {F : PyData → PyData → Option PyData} (hr : OpD X r F) (ho : OpR X (compareOp op) r) (hm : behindInMarks op e2 = false) (hb : DE X W e2 g) (hN : X.N[i]? = some x := by rfl) (hv : Vis X.env.scope x := by first | exact Or.inl rfl | exact Or.inr (Or.inl rfl) | exact Or.inr (Or.inr rfl)) (hd : (x == ("__debug__" : Str)) = false := by decide) (hcd : (x == ("__classdict__" : Str)) = false := by decide) :
    DT X W (.Compare (.Name x pn) [op] [e2] pos) (xBool (xCmpO F i g)) := by
  obtain ⟨t, p, q⟩ := hb.ex
  exact ⟨⟨_, pt_cmpR ho (pe_var hN hv hd hcd) p hm, bool_read (cmpo_read hr q)⟩⟩
end PD
end

section
set_option Elab.async false
set_option linter.all false
set_option maxRecDepth 100000
set_option maxHeartbeats 1000000
namespace PD
open PySem PySem.Spec PyProof.Rows L2
variable {X : Cx} {W : WX} {pos : Pos} {e e1 e2 e3 : Expr} {es : List Expr} {f g h : M PyData} {fs : M (List PyData)} {fb gb : M Bool}
variable {K : PySem.W.Frag} {ph : Fx} {am am' am1 : Am} {H H' H1 : Hp} {σ σ' : L2.St} {δ δ' δ1 : Sg} {a p p1 p2 : Addr} {v : V} {vs : List V} {d : PyData} {ds : List PyData} {i : Nat}

/-- what is walked gives ds, one after another, whatever the turns do -/
def WalkD (K : PySem.W.Frag) (ph : Fx) (am : Am) (H : Hp) (J : It) (ds : List PyData) : Prop :=
  ∃ (G : Hp → Prop) (Y : Nat → Hp → V → Hp → Prop), Walk J ds.length G Y ∧ (∀ (ph2 : Fx) am2 H2, (∀ b o, hid ph am H b = some o → hid ph2 am2 H2 b = some o) → G H2) ∧
    ∀ i x H2 H3 (ph2 : Fx) am2, i < ds.length → (∀ b o, hid ph am H b = some o → hid ph2 am2 H2 b = some o) → (∀ b, Hid ph2 am2 b → ∃ o, H2 b = some o) → Y i H2 x H3 →
      ∃ d, ds[i]? = some d ∧ Same H2 H3 ∧ Dq K (hid ph2 am2 H3) x d
def ReadI (X : Cx) (W : WX) (t : TI) (f : M (List PyData)) : Prop := ∀ (ph : Fx) (am : Am) (σ : L2.St) (H : Hp) (δ : Sg) (R : It → Hp → Prop) (ans : Ans (List PyData)) (δ' : Sg), SR X.K ph am σ H δ → f δ = some (ans, δ') →
  (∀ ds, ans = .ok ds → ∀ am' H' J, Step am H am' H' → SR X.K ph am' σ H' δ' → WalkD X.K ph am' H' J ds → R J H') → (∀ c fs, ans = .ex c fs → XP X W ph am σ H δ' c fs) → t σ H R
structure DI (X : Cx) (W : WX) (tg iter : Expr) (f : M (List PyData)) : Prop where
  ex : ∃ t, PI X tg iter t ∧ ReadI X W t f
/-! ### the walks -/
def seqD : PyData → Option (List PyData)
  | .list xs => some xs
  | .tuple xs => some xs
  | _ => none
theorem seq_rd {x : V} (h : Dq K (hid ph am H) x d) (e : seqD d = some ds) : ∃ k a xs, x = .ref a ∧ SqK k K (hid ph am H) a xs ∧ DqAll K (hid ph am H) xs ds := by
  cases h with
  | lst h1 a1 => cases e; exact ⟨true, _, _, rfl, h1, a1⟩
  | tup h1 a1 => cases e; exact ⟨false, _, _, rfl, h1, a1⟩
  | _ => cases e
theorem sqK_mono {k : Bool} {xs : List V} (s : Same H H') (q : SqK k K H a xs) : SqK k K H' a xs := by
  cases k with
  | true => exact s.seq (show SqL K H a xs from q)
  | false => exact seqT_mono s (show SqT K H a xs from q)
theorem sqK_hid {k : Bool} {xs : List V} (q : SqK k K (hid ph am H) a xs) : SqK k K H a xs := sqK_mono hid_sub q
theorem at_dq {xs : List V} {x : V} (h : DqAll K H xs ds) (e : xs[i]? = some x) : ∃ d, ds[i]? = some d ∧ Dq K H x d := by
  have hi : i < ds.length := by rw [← h.length]; exact (List.getElem?_eq_some_iff.mp e).1
  obtain ⟨v, h1, h2⟩ := h.get (i := i) (List.getElem?_eq_getElem hi)
  rw [e] at h1
  cases h1
  exact ⟨_, List.getElem?_eq_getElem hi, h2⟩
theorem walkD_list {xs : List V} (q : SqL K (hid ph am H) a xs) (h : DqAll K (hid ph am H) xs ds) : WalkD K ph am H (Itl K a) ds := by
  refine ⟨_, _, by rw [← h.length]; exact walk_list (xs := xs), fun ph2 am2 H2 s => hid_sub.seq (Same.seq (H := hid ph am H) (H' := hid ph2 am2 H2) s q), fun i x H2 H3 ph2 am2 hi s hn y => ?_⟩
  obtain ⟨rfl, y⟩ := y
  obtain ⟨d, h1, h2⟩ := at_dq h y
  exact ⟨d, h1, Same.refl _, dp_mono s h2⟩
theorem walkD_tup {xs : List V} (q : SqT K (hid ph am H) a xs) (h : DqAll K (hid ph am H) xs ds) : WalkD K ph am H (Itt K a) ds := by
  refine ⟨_, _, by rw [← h.length]; exact walk_tup (xs := xs), fun ph2 am2 H2 s => seqT_mono hid_sub (seqT_mono (H := hid ph am H) (H' := hid ph2 am2 H2) s q), fun i x H2 H3 ph2 am2 hi s hn y => ?_⟩
  obtain ⟨rfl, y⟩ := y
  obtain ⟨d, h1, h2⟩ := at_dq h y
  exact ⟨d, h1, Same.refl _, dp_mono s h2⟩
def xSeq (f : M PyData) : M (List PyData) := bnd f fun d => lif (seqD d)
theorem di_seq {tg : Expr} (he : DE X W e f) : DI X W tg e (xSeq f) := by
  obtain ⟨t, p, q⟩ := he.ex
  refine ⟨⟨_, pi_seqK p, fun ph am σ H δ R ans δ' s z k kx => ?_⟩⟩
  rcases bnd_some z with ⟨d, δ1, e1, e2⟩ | ⟨c, fs, e1, e2⟩
  · refine q ph am σ H δ _ _ _ s e1 (fun d' ed am1 v H1 st1 s1 d1 => ?_) (fun c fs z => by cases z)
    cases ed
    obtain ⟨ds, e3, rfl, rfl⟩ := lif_some e2
    cases d1 with
    | lst h1 a1 =>
      cases e3
      exact ⟨_, rfl, .inl ⟨⟨_, rd_hid h1⟩, k _ rfl am1 H1 _ st1 s1 (walkD_list h1 a1)⟩⟩
    | tup h1 a1 =>
      cases e3
      exact ⟨_, rfl, .inr ⟨⟨_, seqT_hid h1⟩, k _ rfl am1 H1 _ st1 s1 (walkD_tup h1 a1)⟩⟩
    | _ => cases e3
  · subst e2
    exact q ph am σ H δ _ _ _ s e1 (fun d ed => by cases ed) (fun c' fs' z => by cases z; exact kx _ _ rfl)
/-! range -/
def rangeL (lo : Int) (n : Nat) : List PyData := (List.range n).map fun i => .int (lo + (i : Nat))
theorem rangeL_length (lo : Int) (n : Nat) : (rangeL lo n).length = n := by simp [rangeL]
theorem walkD_range {lo : Int} {n : Nat} : WalkD K ph am H (Itr lo n) (rangeL lo n) := by
  refine ⟨_, _, by rw [rangeL_length]; exact walk_range, fun _ _ _ _ => trivial, fun i x H2 H3 ph2 am2 hi s hn y => ?_⟩
  obtain ⟨rfl, rfl⟩ := y
  rw [rangeL_length] at hi
  exact ⟨.int (lo + i), by simp [rangeL, hi], Same.refl _, .int _⟩
def fit62 (i : Int) : Bool := decide (-(2 ^ 62) ≤ i) && decide (i < 2 ^ 62)
def range1D : List PyData → Option (List PyData)
  | [.int j] => if fit62 j = true then some (rangeL 0 j.toNat) else none
  | _ => none
def range2D : List PyData → Option (List PyData)
  | [.int i, .int j] => if fit62 i = true ∧ fit62 j = true then some (rangeL i (j - i).toNat) else none
  | _ => none
def xCallF' (F : List PyData → Option (List PyData)) (fs : M (List PyData)) : M (List PyData) := bnd fs fun ds => lif (F ds)
variable {tg : Expr} {pf : Pos}
theorem di_range1 (hm : X.mg "range" = none) (h : DA X W [e] fs) (hg : Gl X "range" := by rfl) (hs : starEach [e] X.env = [(false, eval e X.env)] := by rfl) : DI X W tg (.Call (.Name "range" pf) [e] [] pos) (xCallF' range1D fs) := by
  obtain ⟨t, p, q⟩ := h.ex
  refine ⟨⟨_, pi_range1 hg hm p hs, fun ph am σ H δ R ans δ' s z k kx => ?_⟩⟩
  rcases bnd_some z with ⟨d, δ1, e1, e2⟩ | ⟨c, fs, e1, e2⟩
  · refine q ph am σ H δ _ _ _ s e1 (fun d' ed am1 v H1 st1 s1 d1 => ?_) (fun c fs z => by cases z)
    cases ed
    obtain ⟨ds, e3, rfl, rfl⟩ := lif_some e2
    cases d1 with
    | nil => cases e3
    | cons h1 t1 =>
      cases t1 with
      | cons _ _ => cases h1 <;> cases e3
      | nil =>
        cases h1 with
        | int j =>
          obtain ⟨h2, rfl⟩ := if_some e3
          unfold fit62 at h2
          simp only [Bool.and_eq_true, decide_eq_true_eq] at h2
          exact ⟨j, rfl, h2.1, h2.2, k _ rfl am1 H1 _ st1 s1 walkD_range⟩
        | _ => cases e3
  · subst e2
    exact q ph am σ H δ _ _ _ s e1 (fun d ed => by cases ed) (fun c' fs' z => by cases z; exact kx _ _ rfl)
theorem di_range2 (hm : X.mg "range" = none) (h : DA X W [e, e2] fs) (hg : Gl X "range" := by rfl) (hs : starEach [e, e2] X.env = [(false, eval e X.env), (false, eval e2 X.env)] := by rfl) (hs2 : starEach [e2] X.env = [(false, eval e2 X.env)] := by rfl) : DI X W tg (.Call (.Name "range" pf) [e, e2] [] pos) (xCallF' range2D fs) := by
  obtain ⟨t, p, q⟩ := h.ex
  refine ⟨⟨_, pi_range2 hg hm p hs hs2, fun ph am σ H δ R ans δ' s z k kx => ?_⟩⟩
  rcases bnd_some z with ⟨d, δ1, e1, e2⟩ | ⟨c, fs, e1, e2⟩
  · refine q ph am σ H δ _ _ _ s e1 (fun d' ed am1 v H1 st1 s1 d1 => ?_) (fun c fs z => by cases z)
    cases ed
    obtain ⟨ds, e3, rfl, rfl⟩ := lif_some e2
    cases d1 with
    | nil => cases e3
    | cons h1 t1 =>
      cases t1 with
      | nil => cases h1 <;> cases e3
      | cons h2 t2 =>
        cases t2 with
        | cons _ _ => cases h1 <;> cases h2 <;> cases e3
        | nil =>
          cases h1 with
          | int i =>
            cases h2 with
            | int j =>
              obtain ⟨h2, rfl⟩ := if_some e3
              unfold fit62 at h2
              simp only [Bool.and_eq_true, decide_eq_true_eq] at h2
              exact ⟨i, j, rfl, ⟨h2.1.1, h2.1.2, h2.2.1, h2.2.2⟩, k _ rfl am1 H1 _ st1 s1 walkD_range⟩
            | _ => cases e3
          | _ => cases e3
  · subst e2
    exact q ph am σ H δ _ _ _ s e1 (fun d ed => by cases ed) (fun c' fs' z => by cases z; exact kx _ _ rfl)
/-! zip, enumerate -/
def pairL : List PyData → List PyData → List PyData
  | x :: xs, y :: ys => .tuple [x, y] :: pairL xs ys
  | _, _ => []
theorem pairL_length : ∀ xs ys : List PyData, (pairL xs ys).length = min xs.length ys.length
  | [], ys => by simp [pairL]
  | x :: xs, [] => by simp [pairL]
  | x :: xs, y :: ys => by simp only [pairL, List.length_cons, pairL_length xs ys]; omega
theorem pairL_get : ∀ {xs ys : List PyData} {i : Nat} {x y : PyData}, xs[i]? = some x → ys[i]? = some y → (pairL xs ys)[i]? = some (.tuple [x, y])
  | [], _, _, _, _, h, _ => by simp at h
  | _ :: _, [], _, _, _, _, h => by simp at h
  | x :: xs, y :: ys, 0, _, _, h1, h2 => by simp at h1 h2; subst h1 h2; rfl
  | x :: xs, y :: ys, i + 1, _, _, h1, h2 => by
    simp at h1 h2
    simpa [pairL] using pairL_get h1 h2
def zipD : List PyData → Option (List PyData)
  | [a, b] => match seqD a, seqD b with
    | some xs, some ys => some (pairL xs ys)
    | _, _ => none
  | _ => none
theorem walkD_zip {k1 k2 : Bool} {b : Addr} {xs ys : List V} {es : List PyData} (q1 : SqK k1 K (hid ph am H) a xs) (q2 : SqK k2 K (hid ph am H) b ys) (h1 : DqAll K (hid ph am H) xs ds) (h2 : DqAll K (hid ph am H) ys es) : WalkD K ph am H (ItzK k1 k2 K a b) (pairL ds es) := by
  refine ⟨_, _, walk_zipK (xs := xs) (ys := ys) (by rw [pairL_length, h1.length, h2.length]), fun ph2 am2 H2 s => ⟨sqK_hid (sqK_mono s q1), sqK_hid (sqK_mono s q2)⟩, fun i x H2 H3 ph2 am2 hi s hn y => ?_⟩
  obtain ⟨T, x1, y1, rfl, nT, rfl, e1, e2⟩ := y
  obtain ⟨d1, f1, g1⟩ := at_dq h1 e1
  obtain ⟨d2, f2, g2⟩ := at_dq h2 e2
  exact ⟨_, pairL_get f1 f2, same_new nT, new_tup hn nT (.cons (dp_mono s g1) (.cons (dp_mono s g2) .nil))⟩
variable {tpos : Pos} {elts : List Expr} {kk : Nat}
theorem di_zip (hm : X.mg "zip" = none) (h : DA X W [e, e2] fs) (hg : Gl X "zip" := by rfl) (hs : starEach [e, e2] X.env = (false, eval e X.env) :: starEach [e2] X.env := by rfl) (hpl : (backTo pos (starEach [e2] X.env)).any (·.1) = false := by rfl) :
    DI X W (.Tuple elts kk tpos) (.Call (.Name "zip" pf) [e, e2] [] pos) (xCallF' zipD fs) := by
  obtain ⟨t, p, q⟩ := h.ex
  refine ⟨⟨_, pi_zipK hg hm p hs hpl, fun ph am σ H δ R ans δ' s z k kx => ?_⟩⟩
  rcases bnd_some z with ⟨d, δ1, e1, e2⟩ | ⟨c, fs, e1, e2⟩
  · refine q ph am σ H δ _ _ _ s e1 (fun d' ed am1 v H1 st1 s1 d1 => ?_) (fun c fs z => by cases z)
    cases ed
    obtain ⟨ds, e3, rfl, rfl⟩ := lif_some e2
    cases d1 with
    | nil => cases e3
    | cons h1 t1 =>
      cases t1 with
      | nil => cases e3
      | cons h2 t2 =>
        cases t2 with
        | cons _ _ => cases e3
        | nil =>
          unfold zipD at e3
          simp only at e3
          split at e3
          · rename_i xs ys r1 r2
            cases e3
            obtain ⟨k1, a, us, rfl, q1, z1⟩ := seq_rd h1 r1
            obtain ⟨k2, b, ws, rfl, q2, z2⟩ := seq_rd h2 r2
            exact ⟨k1, k2, a, b, us, ws, rfl, sqK_hid q1, sqK_hid q2, k _ rfl am1 H1 _ st1 s1 (walkD_zip q1 q2 z1 z2)⟩
          · cases e3
  · subst e2
    exact q ph am σ H δ _ _ _ s e1 (fun d ed => by cases ed) (fun c' fs' z => by cases z; exact kx _ _ rfl)
def enumL (ds : List PyData) : List PyData := ds.zipIdx.map fun p => .tuple [.int (p.2 : Nat), p.1]
def enumD : List PyData → Option (List PyData)
  | [a] => (seqD a).map enumL
  | _ => none
theorem walkD_enum {k : Bool} {xs : List V} (q1 : SqK k K (hid ph am H) a xs) (h1 : DqAll K (hid ph am H) xs ds) : WalkD K ph am H (IteK k K a) (enumL ds) := by
  refine ⟨_, _, by rw [show (enumL ds).length = xs.length by rw [h1.length]; simp [enumL]]; exact walk_enumK (xs := xs), fun ph2 am2 H2 s => sqK_hid (sqK_mono s q1), fun i x H2 H3 ph2 am2 hi s hn y => ?_⟩
  obtain ⟨T, x1, y1, rfl, nT, rfl, e1, e2⟩ := y
  cases e1
  obtain ⟨d2, f2, g2⟩ := at_dq h1 e2
  exact ⟨_, by simp [enumL, f2], same_new nT, new_tup hn nT (.cons (.int _) (.cons (dp_mono s g2) .nil))⟩
theorem di_enum (hm : X.mg "enumerate" = none) (h : DA X W [e] fs) (hg : Gl X "enumerate" := by rfl) (hs : starEach [e] X.env = [(false, eval e X.env)] := by rfl) :
    DI X W (.Tuple elts kk tpos) (.Call (.Name "enumerate" pf) [e] [] pos) (xCallF' enumD fs) := by
  obtain ⟨t, p, q⟩ := h.ex
  refine ⟨⟨_, pi_enumK hg hm p hs, fun ph am σ H δ R ans δ' s z k kx => ?_⟩⟩
  rcases bnd_some z with ⟨d, δ1, e1, e2⟩ | ⟨c, fs, e1, e2⟩
  · refine q ph am σ H δ _ _ _ s e1 (fun d' ed am1 v H1 st1 s1 d1 => ?_) (fun c fs z => by cases z)
    cases ed
    obtain ⟨ds, e3, rfl, rfl⟩ := lif_some e2
    cases d1 with
    | nil => cases e3
    | cons h1 t1 =>
      cases t1 with
      | cons _ _ => cases e3
      | nil =>
        rename_i dd
        replace e3 : (seqD dd).map enumL = some ds := e3
        cases r1 : seqD dd with
        | none => rw [r1] at e3; cases e3
        | some xs =>
          rw [r1] at e3
          cases e3
          obtain ⟨k1, a, us, rfl, q1, z1⟩ := seq_rd h1 r1
          exact ⟨k1, a, us, rfl, sqK_hid q1, k _ rfl am1 H1 _ st1 s1 (walkD_enum q1 z1)⟩
  · subst e2
    exact q ph am σ H δ _ _ _ s e1 (fun d ed => by cases ed) (fun c' fs' z => by cases z; exact kx _ _ rfl)

/-! ### for -/
variable {gs hs : MS} {body : List Stmt}
def loopD (set : Tg) (b : MS) : List PyData → MS
  | [], δ => some (.ok .nx, δ)
  | d :: ds, δ => match set d δ with
    | none => none
    | some δ1 => match b δ1 with
      | some (.ok .nx, δ2) => loopD set b ds δ2
      | some (.ok .ct, δ2) => loopD set b ds δ2
      | some (.ok .bk, δ2) => some (.ok .nx, δ2)
      | r => r
def sFor (it : M (List PyData)) (set : Tg) (b : MS) : MS := bnd it fun ds => loopD set b ds
theorem ds_for {iter : Expr} {set : Tg} (hp : PassesOwn (model X.prog X.w) X.A X.env X.xe) (hc : X.calm = true) (hi : DI X W tg iter fs) (hg : DG X tg set) (hb : DSs X W body gs) (hs : ∀ x, foldedSetIterable iter X.env x = pure x := by intro _; rfl) :
    DS X W (.For tg iter body [] pos) (sFor fs set gs) := by
  obtain ⟨ti, pi, qi⟩ := hi.ex
  obtain ⟨tgt, pg, qg⟩ := hg.ex
  obtain ⟨tb, pb, qb⟩ := hb.ex
  refine ⟨⟨_, ps_for hp hc pi pg pb hs, fun ph am σ H δ D ans δ' s z k kx => ?_⟩⟩
  rcases bnd_some z with ⟨ds, δ1, e1, e2⟩ | ⟨c, fs, e1, e2⟩
  · refine qi ph am σ H δ _ _ _ s e1 (fun d' ed am1 H1 J st1 s1 wd => ?_) (fun c fs z => by cases z)
    cases ed
    obtain ⟨G, Y, w, hG, hY⟩ := wd
    refine for_it w (fun i σ' H' => ∃ am2 δ2, Step am1 H1 am2 H' ∧ SR X.K ph am2 σ' H' δ2 ∧ loopD set gs (ds.drop i) δ2 = some (ans, δ')) ⟨am1, δ1, Step.refl, s1, e2⟩ (fun i σ' H' _ ⟨am2, δ2, st, _, _⟩ => hG ph am2 H' st.hid) (fun i x σ' H2 H3 hi ⟨am2, δ2, st, s2, el⟩ y => ?_) (fun σ' H' ⟨am2, δ2, st, s2, el⟩ => ?_)
    · obtain ⟨d, hd, sm, dq⟩ := hY i x H2 H3 ph am2 hi st.hid (fun b h => s2.hidden h) y
      have hdr : ds.drop i = d :: ds.drop (i + 1) := by
        obtain ⟨h1, h2⟩ := List.getElem?_eq_some_iff.mp hd
        rw [List.drop_eq_getElem_cons h1, h2]
      rw [hdr] at el
      unfold loopD at el
      have s3 := s2.same sm
      split at el
      · cases el
      · rename_i δ3 es
        refine qg ph am2 σ' H3 δ2 δ3 x d _ s3 dq es fun am4 σ4 st4 s4 => ?_
        have stA : Step am1 H1 am4 H3 := (st.trans (Step.of sm)).trans st4
        split at el
        · rename_i δ4 eb
          exact qb ph am4 σ4 H3 δ3 _ _ _ s4 eb (fun fl z => by cases z; exact fun am5 σ5 H5 st5 s5 => ⟨am5, δ4, stA.trans st5, s5, el⟩) (fun c fs z => by cases z)
        · rename_i δ4 eb
          exact qb ph am4 σ4 H3 δ3 _ _ _ s4 eb (fun fl z => by cases z; exact fun am5 σ5 H5 st5 s5 => ⟨am5, δ4, stA.trans st5, s5, el⟩) (fun c fs z => by cases z)
        · rename_i δ4 eb
          cases el
          exact qb ph am4 σ4 H3 δ3 _ _ _ s4 eb (fun fl z => by cases z; exact fun am5 σ5 H5 st5 s5 => k _ rfl am5 σ5 H5 ((st1.trans stA).trans st5) s5) (fun c fs z => by cases z)
        · rename_i n1 n2 n3
          refine qb ph am4 σ4 H3 δ3 _ ans δ' s4 el (fun fl z => ?_) (fun c fs z => (kx c fs z).step (st1.trans stA))
          subst z
          cases fl with
          | nx => exact (n1 _ el).elim
          | ct => exact (n2 _ el).elim
          | bk => exact (n3 _ el).elim
          | rt d => exact fun am5 σ5 v H5 st5 s5 d5 => k _ rfl am5 σ5 v H5 ((st1.trans stA).trans st5) s5 d5
          | rf ds => exact fun am5 σ5 p vs H5 m1 m2 st5 s5 d5 => k _ rfl am5 σ5 p vs H5 ((st1.trans stA).none m1) m2 ((st1.trans stA).trans st5) s5 d5
    · rw [List.drop_length] at el
      cases el
      exact k _ rfl am2 σ' H' (st1.trans st) s2
  · subst e2
    exact qi ph am σ H δ _ _ _ s e1 (fun d ed => by cases ed) (fun c' fs' z => by cases z; exact (kx _ _ rfl).at)
end PD
end

section
set_option Elab.async false
set_option linter.all false
set_option maxRecDepth 100000
set_option maxHeartbeats 1000000
namespace PD
open PySem PySem.Spec PyProof.Rows L2
variable {X : Cx} {W : WX} {pos : Pos} {e e1 e2 e3 : Expr} {es : List Expr} {f g h : M PyData} {fs : M (List PyData)} {fb gb : M Bool}
variable {K : PySem.W.Frag} {ph : Fx} {am am' am1 : Am} {H H' H1 : Hp} {σ σ' : L2.St} {δ δ' δ1 : Sg} {a p p1 p2 D : Addr} {v : V} {vs : List V} {d : PyData} {ds : List PyData} {i : Nat}

/-! ### a heap without the new list -/
def del (D : Addr) (H : Hp) : Hp := fun b => if b = D then none else H b
theorem del_same : del D H D = none := by simp [del]
theorem del_ne {b : Addr} (h : b ≠ D) : del D H b = H b := by simp [del, h]
theorem del_upd {o : HO} : del D (upd H D o) = del D H := by
  funext b
  by_cases h : b = D
  · rw [h, del_same, del_same]
  · rw [del_ne h, del_ne h, upd_ne h]
theorem del_new {o : HO} (n : H D = none) : del D (upd H D o) = H := by
  funext b
  by_cases h : b = D
  · rw [h, del_same, n]
  · rw [del_ne h, upd_ne h]
theorem upd_del {o : HO} (e : H D = some o) : upd (del D H) D o = H := by
  funext b
  by_cases h : b = D
  · rw [h, upd_same, e]
  · rw [upd_ne h, del_ne h]
/-- D hidden too -/
def Fx.also (ph : Fx) (D : Addr) : Fx := ⟨fun b => ph.ph b ∨ b = D, ph.ba⟩
theorem hid_also : hid (ph.also D) am H = hid ph am (del D H) := by
  funext b
  unfold hid
  by_cases hD : b = D
  · rw [hD, del_same, if_pos (show Hid (ph.also D) am D from .inl (.inr rfl))]
    split <;> rfl
  · rw [del_ne hD]
    have : Hid (ph.also D) am b ↔ Hid ph am b := by
      unfold Hid Fx.also
      constructor
      · rintro ((q | q) | q)
        · exact .inl q
        · exact (hD q).elim
        · exact .inr q
      · rintro (q | q)
        · exact .inl (.inl q)
        · exact .inr q
    by_cases h : Hid ph am b
    · rw [if_pos h, if_pos (this.mpr h)]
    · rw [if_neg h, if_neg (fun z => h (this.mp z))]
theorem SR.also (s : SR K ph am σ (del D H) δ) {o : HO} (e : H D = some o) : SR K (ph.also D) am σ H δ := by
  have aD : ∀ i a, am i = some a → a ≠ D := fun i a h z => by
    obtain ⟨o', h'⟩ := s.hidden (.inr ⟨i, h⟩)
    rw [z, del_same] at h'
    cases h'
  refine ⟨s.len, fun i d q => by rw [hid_also]; exact s.fz i d q, fun i b ds q => ?_, fun i a q => ?_, s.inj, fun b hb => ?_, s.bas⟩
  · obtain ⟨a, vs, h1, h2, h3, h4, h5⟩ := s.ow i b ds q
    exact ⟨a, vs, h1, h2, by rw [del_ne (aD i a h1)] at h3; exact h3, by rw [hid_also]; exact h4, h5⟩
  · obtain ⟨h1, h2⟩ := s.amf i a q
    exact ⟨fun z => z.elim h1 (aD i a q), h2⟩
  · rcases hb with hb | hb
    · obtain ⟨o', h'⟩ := s.phs b hb
      have : b ≠ D := fun z => by
        rw [z, del_same] at h'
        cases h'
      rw [del_ne this] at h'
      exact ⟨o', h'⟩
    · exact ⟨o, by rw [hb]; exact e⟩
theorem SR.unalso (s : SR K (ph.also D) am σ H δ) (hph : ¬ ph.ph D) : SR K ph am σ (del D H) δ := by
  have aD : ∀ i a, am i = some a → a ≠ D := fun i a h z => (s.amf i a h).1 (.inr z)
  refine ⟨s.len, fun i d q => by rw [← hid_also]; exact s.fz i d q, fun i b ds q => ?_, fun i a q => ?_, s.inj, fun b hb => ?_, s.bas⟩
  · obtain ⟨a, vs, h1, h2, h3, h4, h5⟩ := s.ow i b ds q
    exact ⟨a, vs, h1, h2, by rw [del_ne (aD i a h1)]; exact h3, by rw [← hid_also]; exact h4, h5⟩
  · obtain ⟨h1, h2⟩ := s.amf i a q
    exact ⟨fun z => h1 (.inl z), h2⟩
  · obtain ⟨o', h'⟩ := s.phs b (.inl hb)
    have : b ≠ D := fun z => hph (by rw [← z]; exact hb)
    exact ⟨o', by rw [del_ne this]; exact h'⟩
theorem Step.del (st : Step am H am' H') (hD : ∀ i, am' i ≠ some D) : Step am (PD.del D H) am' (PD.del D H') where
  keep := fun b o h n => by
    by_cases z : b = D
    · rw [z, del_same] at h; cases h
    · rw [del_ne z] at h ⊢
      exact st.keep b o h n
  new := fun i a h => by
    rcases st.new i a h with q | q
    · exact .inl q
    · refine .inr ?_
      rw [del_ne (fun z => hD i (by rw [← z]; exact h))]
      exact q
  there := fun b o h => by
    by_cases z : b = D
    · rw [z, del_same] at h; cases h
    · rw [del_ne z] at h ⊢
      exact st.there b o h

/-! ### the comprehension's own names -/
def wipeD (δ : Sg) : List Nat → Sg
  | [] => δ
  | i :: r => (wipeD δ r).set i .un
def noOw (δ : Sg) (is : List Nat) : Bool := is.all fun i => match δ[i]? with
  | some (.ow _ _) => false
  | _ => true
theorem wipeD_length : ∀ {is : List Nat}, (wipeD δ is).length = δ.length
  | [] => rfl
  | i :: r => by rw [wipeD, List.length_set, wipeD_length]
theorem wipeD_out : ∀ {is : List Nat}, i ∉ is → (wipeD δ is)[i]? = δ[i]?
  | [], _ => rfl
  | j :: r, h => by
    rw [wipeD, List.getElem?_set_ne (fun z => h (by simp [z])), wipeD_out (fun z => h (by simp [z]))]
theorem wipeD_in : ∀ {is : List Nat} {c : Cell}, i ∈ is → (wipeD δ is)[i]? = some c → c = .un
  | j :: r, c, h, q => by
    by_cases hj : j = i
    · subst hj
      rw [wipeD] at q
      by_cases hl : j < (wipeD δ r).length
      · rw [List.getElem?_set_self hl] at q
        exact (Option.some.inj q).symm
      · rw [List.getElem?_eq_none (by rw [List.length_set]; omega)] at q
        cases q
    · rw [wipeD, List.getElem?_set_ne hj] at q
      exact wipeD_in (by simpa [Ne.symm hj] using h) q
theorem SR.wipe (s : SR K ph am σ H δ) {is : List Nat} (n : noOw δ is = true) : SR K ph am (L2.wipe σ is) H (wipeD δ is) := by
  have no : ∀ i ∈ is, ∀ b ds, δ[i]? ≠ some (.ow b ds) := fun i hi b ds e => by
    have := List.all_eq_true.mp n i hi
    rw [e] at this
    cases this
  refine ⟨by rw [L2.wipe_length, wipeD_length, s.len], fun i d q => ?_, fun i b ds q => ?_, fun i a q => ?_, s.inj, s.phs, s.bas⟩
  · by_cases hi : i ∈ is
    · cases wipeD_in hi q
    · rw [wipeD_out hi] at q
      rw [L2.wipe_out hi]
      exact s.fz i d q
  · by_cases hi : i ∈ is
    · cases wipeD_in hi q
    · rw [wipeD_out hi] at q
      rw [L2.wipe_out hi]
      exact s.ow i b ds q
  · obtain ⟨h1, b, ds, h2⟩ := s.amf i a q
    exact ⟨h1, b, ds, by rw [wipeD_out (fun hi => no i hi b ds h2)]; exact h2⟩
/-- the names as they were, all else as it is -/
def backD (δ0 δ : Sg) : List Nat → Sg
  | [] => δ
  | i :: r => (backD δ0 δ r).set i (δ0.getD i .un)
theorem backD_length {δ0 : Sg} : ∀ {is : List Nat}, (backD δ0 δ is).length = δ.length
  | [] => rfl
  | i :: r => by rw [backD, List.length_set, backD_length]
theorem backD_out {δ0 : Sg} : ∀ {is : List Nat}, i ∉ is → (backD δ0 δ is)[i]? = δ[i]?
  | [], _ => rfl
  | j :: r, h => by
    rw [backD, List.getElem?_set_ne (fun z => h (by simp [z])), backD_out (fun z => h (by simp [z]))]
theorem backD_in {δ0 : Sg} : ∀ {is : List Nat} {c : Cell}, i ∈ is → (backD δ0 δ is)[i]? = some c → c = δ0.getD i .un
  | j :: r, c, h, q => by
    by_cases hj : j = i
    · subst hj
      rw [backD] at q
      by_cases hl : j < (backD δ0 δ r).length
      · rw [List.getElem?_set_self hl] at q
        exact (Option.some.inj q).symm
      · rw [List.getElem?_eq_none (by rw [List.length_set]; omega)] at q
        cases q
    · rw [backD, List.getElem?_set_ne hj] at q
      exact backD_in (by simpa [Ne.symm hj] using h) q
theorem SR.back {δ0 : Sg} {am0 : Am} {H0 : Hp} (s0 : SR K ph am0 σ H0 δ0) (st : Step am0 H0 am H) {is : List Nat} (n0 : noOw δ0 is = true) (s : SR K ph am (L2.wipe σ is) H δ) (n : ∀ i ∈ is, ∀ c, δ[i]? = some c → c = .un) : SR K ph am σ H (backD δ0 δ is) := by
  have no : ∀ i ∈ is, ∀ b ds, δ0[i]? ≠ some (.ow b ds) := fun i hi b ds e => by
    have := List.all_eq_true.mp n0 i hi
    rw [e] at this
    cases this
  refine ⟨?_, fun i d q => ?_, fun i b ds q => ?_, fun i a q => ?_, s.inj, s.phs, s.bas⟩
  · have := s.len
    rw [L2.wipe_length] at this
    rw [backD_length, this]
  · by_cases hi : i ∈ is
    · have e := backD_in hi q
      cases e0 : δ0[i]? with
      | none =>
        rw [List.getD_eq_getElem?_getD, e0] at e
        cases e
      | some c =>
        rw [List.getD_eq_getElem?_getD, e0] at e
        have e' : Cell.fz d = c := e
        subst e'
        obtain ⟨v, h1, h2⟩ := s0.fz i d e0
        exact ⟨v, h1, dp_mono st.hid h2⟩
    · rw [backD_out hi] at q
      obtain ⟨v, h1, h2⟩ := s.fz i d q
      rw [L2.wipe_out hi] at h1
      exact ⟨v, h1, h2⟩
  · by_cases hi : i ∈ is
    · have e := backD_in hi q
      cases e0 : δ0[i]? with
      | none =>
        rw [List.getD_eq_getElem?_getD, e0] at e
        cases e
      | some c =>
        rw [List.getD_eq_getElem?_getD, e0] at e
        have e' : Cell.ow b ds = c := e
        subst e'
        exact (no i hi b ds e0).elim
    · rw [backD_out hi] at q
      obtain ⟨a, vs, h1, h2, h3⟩ := s.ow i b ds q
      rw [L2.wipe_out hi] at h2
      exact ⟨a, vs, h1, h2, h3⟩
  · obtain ⟨h1, b, ds, h2⟩ := s.amf i a q
    have hi : i ∉ is := fun hi => by cases n i hi _ h2
    exact ⟨h1, b, ds, by rw [backD_out hi]; exact h2⟩
/-! ### [e for x in xs if t] -/
def compD (is : List Nat) (set : Tg) (t : M Bool) (el : M PyData) : List PyData → List PyData → Sg → Option (List PyData × Sg)
  | [], acc, δ => some (acc, δ)
  | d :: ds, acc, δ => match set d δ with
    | none => none
    | some δ1 => match t δ1 with
      | some (.ok true, δ2) => match el δ2 with
        | some (.ok y, δ3) => if acc.length < sizeLine ∧ noOw δ3 is = true then compD is set t el ds (acc ++ [y]) (wipeD δ3 is) else none
        | _ => none
      | some (.ok false, δ2) => if noOw δ2 is = true then compD is set t el ds acc (wipeD δ2 is) else none
      | _ => none
def xComp (it : M (List PyData)) (is : List Nat) (set : Tg) (t : M Bool) (el : M PyData) : M (List PyData) := bnd it fun ds => fun δ =>
  if noOw δ is = true then match compD is set t el ds [] (wipeD δ is) with
    | some (acc, δ') => some (.ok acc, backD δ δ' is)
    | none => none
  else none
theorem compD_un {is : List Nat} {set : Tg} {t : M Bool} {el : M PyData} : ∀ {ds acc out : List PyData} {δ δ' : Sg}, compD is set t el ds acc δ = some (out, δ') → (∀ i ∈ is, ∀ c, δ[i]? = some c → c = .un) → ∀ i ∈ is, ∀ c, δ'[i]? = some c → c = .un
  | [], acc, out, δ, δ', h, n => by cases h; exact n
  | d :: ds, acc, out, δ, δ', h, n => by
    unfold compD at h
    split at h
    · cases h
    · split at h
      · split at h
        · split at h
          · exact compD_un h fun i hi c q => wipeD_in hi q
          · cases h
        · cases h
      · split at h
        · exact compD_un h fun i hi c q => wipeD_in hi q
        · cases h
      · cases h
abbrev Blk (X : Cx) (scope : Scope) (s : Shared) (H : Hp) (C : Addr) (cl : List (Str × Addr)) (fp : List Addr) : Cx := X.blk s H scope (compEnvC scope cl C X.env) fp
/-- a target of a comprehension: what it stores are the own names -/
structure DGc (X : Cx) (tg : Expr) (is : List Nat) (s : Tg) : Prop where
  ex : ∃ t, PG X tg t ∧ ∀ (ph : Fx) (am : Am) (σ : L2.St) (H : Hp) (δ δ' : Sg) (v : V) (d : PyData) (Q : L2.St → Hp → Prop), SR X.K ph am σ H δ → Dq X.K (hid ph am H) v d → s d δ = some δ' →
    (∀ am' σ', Step am H am' H → SR X.K ph am' σ' H δ' → L2.wipe σ' is = L2.wipe σ is → Q σ' H) → t v σ H Q
def tgcOf (K : PySem.W.Frag) (is : List Nat) (s : Tg) : TG := fun v σ H Q => ∃ ph am δ δ' d, SR K ph am σ H δ ∧ Dq K (hid ph am H) v d ∧ s d δ = some δ' ∧ (∀ am' σ', Step am H am' H → SR K ph am' σ' H δ' → L2.wipe σ' is = L2.wipe σ is → Q σ' H)
theorem DGc.can {tg : Expr} {is : List Nat} {s : Tg} (d : DGc X tg is s) : PG X tg (tgcOf X.K is s) := by
  obtain ⟨t, p, q⟩ := d.ex
  exact ⟨fun pins st σ H v u Q I r ⟨ph, am, δ, δ', dd, s1, s2, s3, k⟩ => p.run pins st σ H v u Q I r (q ph am σ H δ δ' v dd Q s1 s2 s3 k)⟩
theorem wipe_get : ∀ {is : List Nat} {σ : L2.St} {j : Nat}, (L2.wipe σ is)[j]? = if j ∈ is then (σ[j]?).map (fun _ => none) else σ[j]?
  | [], σ, j => by simp [L2.wipe]
  | v :: r, σ, j => by
    rw [L2.wipe]
    by_cases h : v = j
    · subst h
      rw [if_pos (by simp)]
      by_cases hl : v < σ.length
      · rw [List.getElem?_set_self (by rw [L2.wipe_length]; exact hl), List.getElem?_eq_getElem hl]
        rfl
      · rw [List.getElem?_eq_none (by rw [List.length_set, L2.wipe_length]; omega), List.getElem?_eq_none (by omega)]
        rfl
    · rw [List.getElem?_set_ne h, wipe_get]
      by_cases hr : j ∈ r
      · rw [if_pos hr, if_pos (by simp [hr])]
      · rw [if_neg hr, if_neg (by simp [hr, Ne.symm h])]
theorem wipe_set {is : List Nat} {i : Nat} {x : Option V} (h : i ∈ is) : L2.wipe (σ.set i x) is = L2.wipe σ is := by
  apply List.ext_getElem?
  intro j
  rw [wipe_get, wipe_get]
  by_cases hj : j ∈ is
  · rw [if_pos hj, if_pos hj]
    by_cases hl : j < σ.length
    · rw [List.getElem?_eq_getElem (by rw [List.length_set]; exact hl), List.getElem?_eq_getElem hl]
      rfl
    · rw [List.getElem?_eq_none (by rw [List.length_set]; omega), List.getElem?_eq_none (by omega)]
  · rw [if_neg hj, if_neg hj, List.getElem?_set_ne (fun z => hj (by rw [← z]; exact h))]
theorem wipe_wipe {is : List Nat} : L2.wipe (L2.wipe σ is) is = L2.wipe σ is := by
  apply List.ext_getElem?
  intro j
  rw [wipe_get, wipe_get]
  by_cases hj : j ∈ is
  · rw [if_pos hj, if_pos hj]
    cases σ[j]? <;> rfl
  · rw [if_neg hj, if_neg hj]
theorem dgc_name {is : List Nat} {i : Nat} {x : Str} (hN : X.N.Nodup) (hm : i ∈ is) (hi : X.N[i]? = some x := by rfl) (hx : Loc X.env.scope x := by first | exact Or.inl rfl | exact Or.inr rfl) (hf : X.fn x = true ∨ X.env.scope.names.lookup x = some .local := by first | exact .inl rfl | exact .inr rfl) : DGc X (.Name x pos) is (sName i) :=
  ⟨⟨gName i, pg_name hN hi hx hf, fun ph am σ H δ δ' v d Q s dv q k => by
    obtain ⟨c, e1, e2, rfl⟩ := sName_some q
    exact k _ _ step_drop (s.put e1 e2 dv) (wipe_set hm)⟩⟩
structure DGsc (X : Cx) (ts : List Expr) (is : List Nat) (s : Tgs) : Prop where
  ex : ∃ t, PGs X ts t ∧ ∀ (ph : Fx) (am : Am) (σ : L2.St) (H : Hp) (δ δ' : Sg) (vs : List V) (ds : List PyData) (Q : L2.St → Hp → Prop), SR X.K ph am σ H δ → DqAll X.K (hid ph am H) vs ds → s ds δ = some δ' →
    (∀ am' σ', Step am H am' H → SR X.K ph am' σ' H δ' → L2.wipe σ' is = L2.wipe σ is → Q σ' H) → t vs σ H Q
theorem dgsc_nil {is : List Nat} : DGsc X [] is sNil := ⟨⟨gNil, pgs_nil, fun ph am σ H δ δ' vs ds Q s dv q k => by
  cases dv with
  | nil => cases q; exact ⟨rfl, k am σ Step.refl s rfl⟩
  | cons _ _ => cases q⟩⟩
theorem dgsc_cons {is : List Nat} {tg : Expr} {ts : List Expr} {s : Tg} {r : Tgs} (h : DGc X tg is s) (t : DGsc X ts is r) (hs : (assignEach (tg :: ts) X.env).map (·.2) = assign tg X.env :: (assignEach ts X.env).map (·.2) := by rfl) : DGsc X (tg :: ts) is (sCons s r) := by
  obtain ⟨t1, p1, q1⟩ := h.ex
  obtain ⟨t2, p2, q2⟩ := t.ex
  refine ⟨⟨_, pgs_cons p1 p2 hs, fun ph am σ H δ δ' vs ds Q s dv q k => ?_⟩⟩
  cases dv with
  | nil => cases q
  | cons dv dt =>
    rename_i v vs d ds
    unfold sCons at q
    simp only at q
    split at q
    · rename_i δ1 e1
      refine ⟨v, vs, rfl, q1 ph am σ H δ δ1 v d _ s dv e1 fun am1 σ1 st1 s1 w1 => ?_⟩
      exact q2 ph am1 σ1 H δ1 δ' vs ds Q s1 (dps_mono st1.hid dt) q fun am2 σ2 st2 s2 w2 => k am2 σ2 (st1.trans st2) s2 (w2.trans w1)
    · cases q
theorem dgc_tup {is : List Nat} {ts : List Expr} {k n : Nat} {r : Tgs} (hc : X.calm = true) (t : DGsc X ts is r) (hn : (assignEach ts X.env).length = n := by rfl) (hst : (assignEach ts X.env).findIdx? (·.1) = none := by rfl) : DGc X (.Tuple ts k pos) is (sTup n r) := by
  obtain ⟨t2, p2, q2⟩ := t.ex
  refine ⟨⟨_, pg_tup hc p2 hn hst, fun ph am σ H δ δ' v d Q s dv q k => ?_⟩⟩
  cases dv with
  | tup h1 a1 =>
    unfold sTup at q
    simp only at q
    split at q
    · rename_i hl
      exact ⟨_, _, rfl, seqT_hid h1, by rw [a1.length]; exact hl, q2 ph am σ H δ δ' _ _ Q s a1 q k⟩
    · cases q
  | _ => cases q
structure DTs (X : Cx) (W : WX) (es : List Expr) (f : M Bool) : Prop where
  ex : ∃ t, PTs X es t ∧ ReadT X W t f
theorem dts_nil : DTs X W [] (ret true) := ⟨⟨tYes, pts_nil, fun ph am σ H δ Q ans δ' s q k _ => by cases q; exact k _ rfl am H Step.refl s⟩⟩
theorem dts_one (h : DT X W e fb) : DTs X W [e] fb := by
  obtain ⟨t, p, q⟩ := h.ex
  exact ⟨⟨t, pts_one p, q⟩⟩
theorem DTs.can (d : DTs X W es fb) : PTs X es (ttOf X.K X.mg W fb) := by
  obtain ⟨t, p, q⟩ := d.ex
  exact ⟨fun pins s σ H Q I ⟨ph, am, δ, ans, δ', s1, e, k, kx⟩ => p.run pins s σ H Q I (q ph am σ H δ Q ans δ' s1 e k kx)⟩
theorem comp_read {ti : TI} {is : List Nat} {set : Tg} {t : M Bool} {el : M PyData} (qi : ReadI X W ti fs) : ReadF X W (tLc ti (tgcOf X.K is set) (ttOf X.K X.mg E00 t) (tOf X.K X.mg E00 el) is) (xComp fs is set t el) := by
  intro ph am σ H δ Q ans δ' s z k kx
  rcases bnd_some z with ⟨ds, δ1, e1, e2⟩ | ⟨c, fs, e1, e2⟩
  · refine qi ph am σ H δ _ _ _ s e1 (fun d' ed am1 H1 J st1 s1 wd => ?_) (fun c fs z => by cases z)
    cases ed
    split at e2
    · rename_i hno
      split at e2
      · rename_i acc δ2 ec
        cases e2
        intro D hD
        obtain ⟨G, Y, w, hG, hY⟩ := wd
        have nD : ¬ ph.ph D := fun z => by
          obtain ⟨o, h⟩ := s1.phs D z
          rw [hD] at h
          cases h
        refine lc_it w (fun i H' => ∃ am2 δ3 av ad, Step am1 H1 am2 (del D H') ∧ SR X.K ph am2 (L2.wipe σ is) (del D H') δ3 ∧ H' D = some (.lst av) ∧ DqAll X.K (hid ph am2 (del D H')) av ad ∧ av.length ≤ sizeLine ∧ (∀ i ∈ is, ∀ c, δ3[i]? = some c → c = .un) ∧ compD is set t el (ds.drop i) ad δ3 = some (acc, δ2)) ?_ (fun i H' _ ⟨am2, δ3, av, ad, st, s2, hl, dq, hz, hu, el⟩ => hG (ph.also D) am2 H' (by rw [hid_also]; exact st.hid)) (fun i x H2 H3 hi ⟨am2, δ3, av, ad, st, s2, hl, dq, hz, hu, ee⟩ y => ?_) (fun H' ⟨am2, δ3, av, ad, st, s2, hl, dq, hz, hu, ee⟩ => ?_)
        · rw [del_new hD]
          exact ⟨am1, wipeD δ1 is, [], [], Step.refl, s1.wipe hno, upd_same, .nil, Nat.zero_le _, fun i hi c q => wipeD_in hi q, ec⟩
        · have sA : SR X.K (ph.also D) am2 (L2.wipe σ is) H2 δ3 := s2.also hl
          obtain ⟨d, hd, sm, dqx⟩ := hY i x H2 H3 (ph.also D) am2 hi (by rw [hid_also]; exact st.hid) (fun b h => sA.hidden h) y
          have hdr : ds.drop i = d :: ds.drop (i + 1) := by
            obtain ⟨h1, h2⟩ := List.getElem?_eq_some_iff.mp hd
            rw [List.drop_eq_getElem_cons h1, h2]
          rw [hdr] at ee
          unfold compD at ee
          split at ee
          · cases ee
          · rename_i δ4 es
            refine ⟨ph.also D, am2, δ3, δ4, d, sA.same sm, dqx, es, fun am4 σ4 st4 s4 w4 => ?_⟩
            rw [wipe_wipe] at w4
            have fin : ∀ {am6 : Am} {H6 : Hp} {δ6 : Sg} {ov : List V} {od : List PyData}, Step am4 H3 am6 H6 → SR X.K (ph.also D) am6 σ4 H6 δ6 → noOw δ6 is = true → DqAll X.K (hid (ph.also D) am6 H6) ov od → (av ++ ov).length ≤ sizeLine →
                compD is set t el (ds.drop (i + 1)) (ad ++ od) (wipeD δ6 is) = some (acc, δ2) → H6 D = some (.lst av) ∧ ∀ H7, H7 D = some (.lst (av ++ ov)) → del D H7 = del D H6 →
                ∃ am2 δ3 av ad, Step am1 H1 am2 (del D H7) ∧ SR X.K ph am2 (L2.wipe σ is) (del D H7) δ3 ∧ H7 D = some (.lst av) ∧ DqAll X.K (hid ph am2 (del D H7)) av ad ∧ av.length ≤ sizeLine ∧ (∀ i ∈ is, ∀ c, δ3[i]? = some c → c = .un) ∧ compD is set t el (ds.drop (i + 1)) ad δ3 = some (acc, δ2) := by
              intro am6 H6 δ6 ov od st6 s6 no6 dv hz6 e6
              have stT : Step am2 H2 am6 H6 := ((Step.of sm).trans st4).trans st6
              have hD6 : ∀ i, am6 i ≠ some D := fun i e => (s6.amf i D e).1 (.inr rfl)
              refine ⟨stT.keep D _ hl fun i e => (sA.amf i D e).1 (.inr rfl), fun H7 h7 e7 => ?_⟩
              rw [e7]
              refine ⟨am6, wipeD δ6 is, av ++ ov, ad ++ od, st.trans (stT.del hD6), ?_, h7, ?_, hz6, fun i hi c q => wipeD_in hi q, e6⟩
              · have := (s6.wipe no6).unalso nD
                rw [w4] at this
                exact this
              · rw [hid_also] at dv
                exact (dps_mono (stT.del hD6).hid dq).append dv
            refine ⟨w4, ?_⟩
            split at ee
            · rename_i δ5 et
              split at ee
              · rename_i yy δ6 ey
                split at ee
                · rename_i hc
                  refine ⟨ph.also D, am4, δ4, _, δ5, s4, et, fun b eb am5 H5 st5 s5 => ?_, fun c fs z => by cases z⟩
                  cases eb
                  refine iteT ⟨ph.also D, am5, δ5, _, δ6, s5, ey, fun d ed am6 v H6 st6 s6 d6 => ?_, fun c fs z => by cases z⟩
                  cases ed
                  have hl2 : av.length < sizeLine := by rw [dq.length]; exact hc.1
                  obtain ⟨g1, g2⟩ := fin (st5.trans st6) s6 hc.2 (.cons d6 .nil) (by rw [List.length_append]; exact hl2) ee
                  exact ⟨av, g1, hl2, g2 _ upd_same del_upd⟩
                · cases ee
              · cases ee
            · rename_i δ5 et
              split at ee
              · rename_i hc
                refine ⟨ph.also D, am4, δ4, _, δ5, s4, et, fun b eb am5 H5 st5 s5 => ?_, fun c fs z => by cases z⟩
                cases eb
                refine iteF ?_
                obtain ⟨g1, g2⟩ := fin (ov := []) (od := []) st5 s5 hc .nil (by rw [List.append_nil]; exact hz) (by rw [List.append_nil]; exact ee)
                exact g2 H5 (by rw [List.append_nil]; exact g1) rfl
              · cases ee
            · cases ee
        · rw [List.drop_length] at ee
          cases ee
          have := k _ rfl am2 D av (del D H') (st1.none hD) del_same (st1.trans st) (SR.back s1 st hno s2 hu) dq hz
          rw [upd_del hl] at this
          exact this
      · cases e2
    · cases e2
  · subst e2
    exact qi ph am σ H δ _ _ _ s e1 (fun d ed => by cases ed) (fun c' fs' z => by cases z; exact kx _ _ rfl)
theorem df_lc {elt tg iter : Expr} {ifs : List Expr} {scope : Scope} {own : List (Str × Nat)} {set : Tg} {t : M Bool} {el : M PyData} (hc : X.calm = true) (hN : X.N.Nodup) (hi : DI X W tg iter fs) (ok : BlkOk X.N X.env.scope scope own)
    (hg : ∀ (s : Shared) (H : Hp) (C : Addr) (cl : List (Str × Addr)) (fp : List Addr), DGc (Blk X scope s H C cl fp) tg (own.map (·.2)) set) (ht : ∀ (s : Shared) (H : Hp) (C : Addr) (cl : List (Str × Addr)) (fp : List Addr), DTs (Blk X scope s H C cl fp) E00 ifs t)
    (he : ∀ (s : Shared) (H : Hp) (C : Addr) (cl : List (Str × Addr)) (fp : List Addr), DE (Blk X scope s H C cl fp) E00 elt el) (hs : ∀ x, foldedSetIterable iter X.env x = pure x := by intro _; rfl) :
    DF X W (.ListComp elt [⟨tg, iter, ifs, 0⟩] scope pos) (xComp fs (own.map (·.2)) set t el) := by
  obtain ⟨ti, pi, qi⟩ := hi.ex
  exact ⟨⟨_, pe_lc hc hN pi ok (fun s H C cl fp => (hg s H C cl fp).can) (fun s H C cl fp => (ht s H C cl fp).can) (fun s H C cl fp => (he s H C cl fp).can) hs, comp_read qi⟩⟩
/-- name = [..] on one line -/
theorem ds_setLc {i : Nat} {y : Str} {py spos : Pos} {elt tg iter : Expr} {ifs : List Expr} {scope : Scope} {own : List (Str × Nat)} {set : Tg} {t : M Bool} {el : M PyData} (hc : X.calm = true) (hN : X.N.Nodup) (hi : DI X W tg iter fs) (ok : BlkOk X.N X.env.scope scope own)
    (hg : ∀ (s : Shared) (H : Hp) (C : Addr) (cl : List (Str × Addr)) (fp : List Addr), DGc (Blk X scope s H C cl fp) tg (own.map (·.2)) set) (ht : ∀ (s : Shared) (H : Hp) (C : Addr) (cl : List (Str × Addr)) (fp : List Addr), DTs (Blk X scope s H C cl fp) E00 ifs t)
    (he : ∀ (s : Shared) (H : Hp) (C : Addr) (cl : List (Str × Addr)) (fp : List Addr), DE (Blk X scope s H C cl fp) E00 elt el)
    (hsw : swapsWith (.ListComp elt [⟨tg, iter, ifs, 0⟩] scope pos) (some (.Name y py)) spos.line X.env = pure true)
    (hy : X.N[i]? = some y := by rfl) (hyl : X.env.scope.names.lookup y = some .local := by rfl) (hs : ∀ x, foldedSetIterable iter X.env x = pure x := by intro _; rfl) :
    DS X W (.Assign [.Name y py] (.ListComp elt [⟨tg, iter, ifs, 0⟩] scope pos) spos) (sOwn (xComp fs (own.map (·.2)) set t el) i) := by
  obtain ⟨ti, pi, qi⟩ := hi.ex
  exact ⟨⟨_, ps_setLc hc hN hy hyl hsw pi ok (fun s H C cl fp => (hg s H C cl fp).can) (fun s H C cl fp => (ht s H C cl fp).can) (fun s H C cl fp => (he s H C cl fp).can) hs, own_read (comp_read qi)⟩⟩
/-- .. the name is not to own it -/
theorem setf_read {i : Nat} {t : TE} (q1 : ReadF X W t fs) : ReadS X W (tAsg t (gName i)) (sAsg (bnd fs fun ds => ret (.list ds)) (sName i)) := by
  intro ph am σ H δ D ans δ' sr z k kx
  rcases bnd_some z with ⟨d, δ1, e1, e2⟩ | ⟨c, fs, e1, e2⟩
  · rcases bnd_some e1 with ⟨ds, δ2, e3, e4⟩ | ⟨c, fs, e3, e4⟩
    · cases e4
      refine q1 ph am σ H δ _ _ _ sr e3 (fun d ed am1 p vs H1 n0 n1 st1 s1 d1 hz => ?_) (fun c fs z => by cases z)
      cases ed
      split at e2
      · rename_i δ2 e5
        cases e2
        obtain ⟨c, e6, e7, rfl⟩ := sName_some e5
        have sm : Same H1 (upd H1 p (.lst vs)) := same_new n1
        exact k _ rfl _ _ _ ((st1.trans (Step.of sm)).trans step_drop) ((s1.same sm).put e6 e7 (new_lst (fun b h => s1.hidden h) n1 d1))
      · cases e2
    · cases e4
  · subst e2
    rcases bnd_some e1 with ⟨ds, δ2, e3, e4⟩ | ⟨c, fs, e3, e4⟩
    · cases e4
    · cases e4
      exact q1 ph am σ H δ _ _ _ sr e3 (fun d ed => by cases ed) (fun c' fs' z => by cases z; exact (kx _ _ rfl).at)
theorem ds_setLcF {i : Nat} {y : Str} {py spos : Pos} {elt tg iter : Expr} {ifs : List Expr} {scope : Scope} {own : List (Str × Nat)} {set : Tg} {t : M Bool} {el : M PyData} (hc : X.calm = true) (hN : X.N.Nodup) (hi : DI X W tg iter fs) (ok : BlkOk X.N X.env.scope scope own)
    (hg : ∀ (s : Shared) (H : Hp) (C : Addr) (cl : List (Str × Addr)) (fp : List Addr), DGc (Blk X scope s H C cl fp) tg (own.map (·.2)) set) (ht : ∀ (s : Shared) (H : Hp) (C : Addr) (cl : List (Str × Addr)) (fp : List Addr), DTs (Blk X scope s H C cl fp) E00 ifs t)
    (he : ∀ (s : Shared) (H : Hp) (C : Addr) (cl : List (Str × Addr)) (fp : List Addr), DE (Blk X scope s H C cl fp) E00 elt el)
    (hsw : swapsWith (.ListComp elt [⟨tg, iter, ifs, 0⟩] scope pos) (some (.Name y py)) spos.line X.env = pure true)
    (hy : X.N[i]? = some y := by rfl) (hyl : X.env.scope.names.lookup y = some .local := by rfl) (hs : ∀ x, foldedSetIterable iter X.env x = pure x := by intro _; rfl) :
    DS X W (.Assign [.Name y py] (.ListComp elt [⟨tg, iter, ifs, 0⟩] scope pos) spos) (sAsg (bnd (xComp fs (own.map (·.2)) set t el) fun ds => ret (.list ds)) (sName i)) := by
  obtain ⟨ti, pi, qi⟩ := hi.ex
  exact ⟨⟨_, ps_setLc hc hN hy hyl hsw pi ok (fun s H C cl fp => (hg s H C cl fp).can) (fun s H C cl fp => (ht s H C cl fp).can) (fun s H C cl fp => (he s H C cl fp).can) hs, setf_read (comp_read qi)⟩⟩
end PD
end

section
set_option Elab.async false
set_option linter.all false
set_option maxRecDepth 100000
set_option maxHeartbeats 1000000
namespace PD
open PySem PySem.Spec PyProof.Rows L2
variable {X : Cx} {W : WX} {pos : Pos} {e e1 e2 e3 : Expr} {es : List Expr} {f g h : M PyData} {fs : M (List PyData)} {fb gb : M Bool}
variable {K : PySem.W.Frag} {ph : Fx} {am am' am1 : Am} {H H' H1 : Hp} {σ σ' : L2.St} {δ δ' δ1 : Sg} {a p p1 p2 D : Addr} {v : V} {vs : List V} {d : PyData} {ds : List PyData} {i : Nat}

/-! ### what a def promises -/
def spD (K : PySem.W.Frag) (mg : Str → Option Value) (n : Nat) (G : Sg → Option (Ans PyData × Sg)) : Sp := fun vs H Q E => vs.length = n ∧ ∃ ph cells ans cells', SR K ph ph.ba (vs.map some) H cells ∧ G cells = some (ans, cells') ∧
  (∀ d, ans = .ok d → ∀ v H', Step ph.ba H ph.ba H' → SR K ph ph.ba (vs.map some) H' cells' → Dq K (hid ph ph.ba H') v d → Q v H') ∧ (∀ c fs, ans = .ex c fs → XPd K mg E ph ph.ba H c fs)
/-- .. handing back a new list -/
def spF (K : PySem.W.Frag) (mg : Str → Option Value) (n : Nat) (G : Sg → Option (Ans (List PyData) × Sg)) : Sp := fun vs H Q E => vs.length = n ∧ ∃ ph cells ans cells', SR K ph ph.ba (vs.map some) H cells ∧ G cells = some (ans, cells') ∧
  (∀ ds, ans = .ok ds → ∀ p us H', H p = none → H' p = none → Step ph.ba H ph.ba H' → SR K ph ph.ba (vs.map some) H' cells' → DqAll K (hid ph ph.ba H') us ds → us.length ≤ sizeLine → Q (.ref p) (upd H' p (.lst us))) ∧ (∀ c fs, ans = .ex c fs → XPd K mg E ph ph.ba H c fs)
/-- the cells of what was lent, as they are at the end -/
def keepD : Sg → Sg → Sg
  | [], _ => []
  | .ow _ _ :: cs, d :: ds => d :: keepD cs ds
  | c :: cs, _ :: ds => c :: keepD cs ds
  | c :: cs, [] => c :: keepD cs []
def keepO (cells δ : Sg) : Option Sg := if cells.length ≤ δ.length then some (keepD cells δ) else none
theorem keepO_some {cells δ out : Sg} (h : keepO cells δ = some out) : cells.length ≤ δ.length ∧ out = keepD cells δ := by
  unfold keepO at h
  split at h
  · cases h; exact ⟨by assumption, rfl⟩
  · cases h
def runD (m : Nat) (g : MS) (cells : Sg) : Option (Ans PyData × Sg) := match g (cells ++ List.replicate (m - cells.length) .un) with
  | some (.ok (.rt d), δ) => (keepO cells δ).map fun out => (.ok d, out)
  | some (.ok (.rf ds), δ) => (keepO cells δ).map fun out => (.ok (.list ds), out)
  | some (.ok .nx, δ) => (keepO cells δ).map fun out => (.ok .none, out)
  | some (.ex c fs, δ) => some (.ex c fs, δ)
  | _ => none
def runF (m : Nat) (g : MS) (cells : Sg) : Option (Ans (List PyData) × Sg) := match g (cells ++ List.replicate (m - cells.length) .un) with
  | some (.ok (.rf ds), δ) => (keepO cells δ).map fun out => (.ok ds, out)
  | some (.ex c fs, δ) => some (.ex c fs, δ)
  | _ => none
theorem keepO_map {α : Type} {cells δ : Sg} {f : Sg → α × Sg} {r : α × Sg} (h : (keepO cells δ).map f = some r) : cells.length ≤ δ.length ∧ r = f (keepD cells δ) := by
  cases e : keepO cells δ with
  | none => rw [e] at h; cases h
  | some o =>
    obtain ⟨h1, h2⟩ := keepO_some e
    rw [e] at h
    cases h
    exact ⟨h1, by rw [h2]⟩
theorem keepD_length : ∀ (cs ds : Sg), (keepD cs ds).length = cs.length
  | [], _ => rfl
  | .ow _ _ :: cs, d :: ds => by simp [keepD, keepD_length cs ds]
  | .ow _ _ :: cs, [] => by simp [keepD, keepD_length cs []]
  | .un :: cs, _ :: ds => by simp [keepD, keepD_length cs ds]
  | .un :: cs, [] => by simp [keepD, keepD_length cs []]
  | .fz _ :: cs, _ :: ds => by simp [keepD, keepD_length cs ds]
  | .fz _ :: cs, [] => by simp [keepD, keepD_length cs []]
theorem keepD_get : ∀ {cs ds : Sg} {i : Nat} {c : Cell}, cs.length ≤ ds.length → (keepD cs ds)[i]? = some c → ∃ c0, cs[i]? = some c0 ∧ ((∃ b es, c0 = .ow b es) ∧ ds[i]? = some c ∨ (∀ b es, c0 ≠ .ow b es) ∧ c = c0)
  | [], _, i, c, _, h => by simp [keepD] at h
  | c0 :: cs, [], _, _, hl, _ => by simp at hl
  | .ow b es :: cs, d :: ds, 0, c, hl, h => by
    simp [keepD] at h
    subst h
    exact ⟨_, rfl, .inl ⟨⟨b, es, rfl⟩, rfl⟩⟩
  | .un :: cs, d :: ds, 0, c, hl, h => by
    simp [keepD] at h
    subst h
    exact ⟨_, rfl, .inr ⟨fun _ _ z => (by cases z), rfl⟩⟩
  | .fz x :: cs, d :: ds, 0, c, hl, h => by
    simp [keepD] at h
    subst h
    exact ⟨_, rfl, .inr ⟨fun _ _ z => (by cases z), rfl⟩⟩
  | .ow b es :: cs, d :: ds, i + 1, c, hl, h => by
    obtain ⟨c0, h1, h2⟩ := keepD_get (cs := cs) (ds := ds) (i := i) (c := c) (by simpa using hl) (by simpa [keepD] using h)
    exact ⟨c0, by simpa using h1, by simpa using h2⟩
  | .un :: cs, d :: ds, i + 1, c, hl, h => by
    obtain ⟨c0, h1, h2⟩ := keepD_get (cs := cs) (ds := ds) (i := i) (c := c) (by simpa using hl) (by simpa [keepD] using h)
    exact ⟨c0, by simpa using h1, by simpa using h2⟩
  | .fz x :: cs, d :: ds, i + 1, c, hl, h => by
    obtain ⟨c0, h1, h2⟩ := keepD_get (cs := cs) (ds := ds) (i := i) (c := c) (by simpa using hl) (by simpa [keepD] using h)
    exact ⟨c0, by simpa using h1, by simpa using h2⟩
theorem SR.ext (s : SR K ph am σ H δ) (m : Nat) : SR K ph am (σ ++ List.replicate m none) H (δ ++ List.replicate m .un) := by
  have lt : ∀ {i : Nat} {c : Cell}, (δ ++ List.replicate m .un)[i]? = some c → c ≠ .un → δ[i]? = some c ∧ i < δ.length := fun {i c} h hc => by
    by_cases hi : i < δ.length
    · rw [List.getElem?_append_left hi] at h
      exact ⟨h, hi⟩
    · rw [List.getElem?_append_right (by omega), List.getElem?_replicate] at h
      split at h
      · cases h; exact (hc rfl).elim
      · cases h
  have σl : ∀ {i : Nat}, i < δ.length → (σ ++ List.replicate m none)[i]? = σ[i]? := fun {i} hi => List.getElem?_append_left (by rw [s.len]; exact hi)
  refine ⟨by rw [List.length_append, List.length_append, List.length_replicate, List.length_replicate, s.len], fun i d q => ?_, fun i b ds q => ?_, fun i a q => ?_, s.inj, s.phs, s.bas⟩
  · obtain ⟨h1, h2⟩ := lt q (fun z => by cases z)
    rw [σl h2]
    exact s.fz i d h1
  · obtain ⟨h1, h2⟩ := lt q (fun z => by cases z)
    rw [σl h2]
    exact s.ow i b ds h1
  · obtain ⟨h1, b, ds, h2⟩ := s.amf i a q
    exact ⟨h1, b, ds, by rw [List.getElem?_append_left (List.getElem?_eq_some_iff.mp h2).1]; exact h2⟩
theorem hid_ba (s : ∀ (i : Nat) (a : Addr), ph.ba i = some a → am i = some a) : Same (hid ph am H) (hid ph ph.ba H) := fun b o h => by
  obtain ⟨h1, h2⟩ := hid_some.mp h
  exact hid_some.mpr ⟨fun z => h1 (z.elim .inl fun ⟨i, e⟩ => .inr ⟨i, s i b e⟩), h2⟩
theorem SR.leave {cells : Sg} {σ0 : L2.St} {H0 : Hp} (s0 : SR K ph ph.ba σ0 H0 cells) (st : Step ph.ba H0 am H) (s : SR K ph am σ H δ) (hl : cells.length ≤ δ.length) : Step ph.ba H0 ph.ba H ∧ SR K ph ph.ba σ0 H (keepD cells δ) := by
  have st' : Step ph.ba H0 ph.ba H := ⟨st.keep, fun i a q => .inl ⟨i, q⟩, st.there⟩
  refine ⟨st', by rw [keepD_length, s0.len], fun i d q => ?_, fun i b ds q => ?_, fun i a q => ?_, s0.inj, fun b hb => ?_, fun i a q => q⟩
  · obtain ⟨c0, h1, h2⟩ := keepD_get hl q
    rcases h2 with ⟨⟨b, es, e⟩, h3⟩ | ⟨h2, h3⟩
    · subst e
      obtain ⟨a, vs, o1, _⟩ := s0.ow i b es h1
      obtain ⟨_, b', ds', h4⟩ := s.amf i a (s.bas i a o1)
      rw [h3] at h4
      cases h4
    · subst h3
      obtain ⟨v, g1, g2⟩ := s0.fz i d h1
      exact ⟨v, g1, dp_mono st'.hid g2⟩
  · obtain ⟨c0, h1, h2⟩ := keepD_get hl q
    rcases h2 with ⟨⟨b0, es, e⟩, h3⟩ | ⟨h2, h3⟩
    · subst e
      obtain ⟨a, vs, o1, o2, _, _⟩ := s0.ow i b0 es h1
      obtain ⟨a', vs', r1, r2, r3, r4, r5, r6⟩ := s.ow i b ds h3
      rw [s.bas i a o1] at r1
      cases r1
      exact ⟨a, vs', o1, o2, r3, dps_mono (hid_ba s.bas) r4, r5, r6⟩
    · exact (h2 b ds h3.symm).elim
  · obtain ⟨h1, b, ds, h2⟩ := s0.amf i a q
    obtain ⟨_, b', ds', h4⟩ := s.amf i a (s.bas i a q)
    have hi : i < (keepD cells δ).length := by
      rw [keepD_length]
      exact (List.getElem?_eq_some_iff.mp h2).1
    obtain ⟨c0, g1, g2⟩ := keepD_get hl (List.getElem?_eq_getElem hi)
    rw [h2] at g1
    cases g1
    rcases g2 with ⟨_, g3⟩ | ⟨g2, _⟩
    · rw [h4] at g3
      exact ⟨h1, b', ds', by rw [List.getElem?_eq_getElem hi, ← g3]⟩
    · exact (g2 b ds rfl).elim
  · exact s.phs b hb
section
variable {P : Program} {w : World} {mg : Str → Option Value} {base : Heap} {x qual : Str} {st : Stmt} {fa : Addr} {fd : FuncData} {N ps : List Str} {k : Nat} {gs : MS}
abbrev CxD (P : Program) (w : World) (K : PySem.W.Frag) (mg : Str → Option Value) (base : Heap) (N : List Str) (qual : Str) (st : Stmt) (fa : Addr) (cdv : Value) (A : Around) (outer : List PySem.Env) (s : Shared) (H : Hp) (E : XK) : Cx :=
  cxOf (L2.CX P w) P w K mg base N qual (defScope st) fa cdv A outer s H E
theorem keep_step {m : Nat} (hl : vs.length = m) (hN : m ≤ N.length) : L2.start N vs = vs.map some ++ List.replicate (N.length - m) none := by
  unfold L2.start
  rw [hl]
/-- a def, by its body -/
theorem fn_d (F : Fun K x qual st fa fd) (S : FnScope N ps (defScope st)) (hn : ps.length ≤ N.length)
    (body : ∀ (cdv : Value) (A : Around) (outer : List PySem.Env) (s : Shared) (H : Hp) (E : XK), Room k (A.deeper (envOfC qual (defScope st) s.heap.objs.size fa cdv)) → DSs (CxD P w K mg base N qual st fa cdv A outer s H E) (fun cls d _ H => E cls d H) (defBody st) gs) :
    FnOk P w K mg base (L2.CX P w) (k + 1) fa fd ps (spD K mg ps.length (runD N.length gs)) := by
  refine F.okX S (fun vs H Q E h => h.1) (fun cdv A outer s H vs Q E hr h => ?_)
  obtain ⟨hl, ph, cells, ans, cells', s0, q, k1, kx⟩ := h
  obtain ⟨t, pt, qt⟩ := (body cdv A outer s H E hr).ex
  refine ⟨t, pt, ?_⟩
  have hc : cells.length = ps.length := by
    have := s0.len
    rw [List.length_map, hl] at this
    exact this.symm
  have s1 : SR K ph ph.ba (L2.start N vs) H (cells ++ List.replicate (N.length - cells.length) .un) := by
    rw [keep_step hl hn, hc]
    exact s0.ext _
  unfold runD at q
  split at q
  · rename_i d δ e1
    obtain ⟨hle, q⟩ := keepO_map q
    cases q
    refine qt ph ph.ba _ H _ _ _ _ s1 e1 (fun fl z => ?_) (fun c fs z => by cases z)
    cases z
    intro am' σ' v H' st1 s2 dv
    obtain ⟨st2, s3⟩ := SR.leave s0 st1 s2 hle
    exact k1 _ rfl v H' st2 s3 (dp_mono (hid_ba s2.bas) dv)
  · rename_i ds δ e1
    obtain ⟨hle, q⟩ := keepO_map q
    cases q
    refine qt ph ph.ba _ H _ _ _ _ s1 e1 (fun fl z => ?_) (fun c fs z => by cases z)
    cases z
    intro am' σ' p us H' n0 n1 st1 s2 dv hz
    have sm : Same H' (upd H' p (.lst us)) := same_new n1
    obtain ⟨st2, s3⟩ := SR.leave s0 (st1.trans (Step.of sm)) (s2.same sm) hle
    exact k1 _ rfl _ _ st2 s3 (dp_mono (hid_ba s2.bas) (new_lst (fun b h => s2.hidden h) n1 dv))
  · rename_i δ e1
    obtain ⟨hle, q⟩ := keepO_map q
    cases q
    refine qt ph ph.ba _ H _ _ _ _ s1 e1 (fun fl z => ?_) (fun c fs z => by cases z)
    cases z
    intro am' σ' H' st1 s2
    obtain ⟨st2, s3⟩ := SR.leave s0 st1 s2 hle
    exact k1 _ rfl .non H' st2 s3 .non
  · rename_i c fs δ e1
    cases q
    exact qt ph ph.ba _ H _ _ _ _ s1 e1 (fun fl z => by cases z) (fun c fs z => by cases z; exact fun C dx am' σ' H' m st _ pl => kx _ _ rfl C dx am' H' m st pl)
  · cases q
/-- a def that hands back a new list -/
theorem fn_f (F : Fun K x qual st fa fd) (S : FnScope N ps (defScope st)) (hn : ps.length ≤ N.length)
    (body : ∀ (cdv : Value) (A : Around) (outer : List PySem.Env) (s : Shared) (H : Hp) (E : XK), Room k (A.deeper (envOfC qual (defScope st) s.heap.objs.size fa cdv)) → DSs (CxD P w K mg base N qual st fa cdv A outer s H E) (fun cls d _ H => E cls d H) (defBody st) gs) :
    FnOk P w K mg base (L2.CX P w) (k + 1) fa fd ps (spF K mg ps.length (runF N.length gs)) := by
  refine F.okX S (fun vs H Q E h => h.1) (fun cdv A outer s H vs Q E hr h => ?_)
  obtain ⟨hl, ph, cells, ans, cells', s0, q, k1, kx⟩ := h
  obtain ⟨t, pt, qt⟩ := (body cdv A outer s H E hr).ex
  refine ⟨t, pt, ?_⟩
  have hc : cells.length = ps.length := by
    have := s0.len
    rw [List.length_map, hl] at this
    exact this.symm
  have s1 : SR K ph ph.ba (L2.start N vs) H (cells ++ List.replicate (N.length - cells.length) .un) := by
    rw [keep_step hl hn, hc]
    exact s0.ext _
  unfold runF at q
  split at q
  · rename_i ds δ e1
    obtain ⟨hle, q⟩ := keepO_map q
    cases q
    refine qt ph ph.ba _ H _ _ _ _ s1 e1 (fun fl z => ?_) (fun c fs z => by cases z)
    cases z
    intro am' σ' p us H' n0 n1 st1 s2 dv hz
    obtain ⟨st2, s3⟩ := SR.leave s0 st1 s2 hle
    exact k1 _ rfl p us H' n0 n1 st2 s3 (dps_mono (hid_ba s2.bas) dv) hz
  · rename_i c fs δ e1
    cases q
    exact qt ph ph.ba _ H _ _ _ _ s1 e1 (fun fl z => by cases z) (fun c fs z => by cases z; exact fun C dx am' σ' H' m st _ pl => kx _ _ rfl C dx am' H' m st pl)
  · cases q
end
/-! ### calls of defs -/
variable {k : Nat} {fa : Addr} {fd : FuncData} {ps : List Str} {x : Str} {pf : Pos} {n : Nat}
/-- the callee never touches what is hidden here -/
def Fx.under (ph : Fx) (am : Am) : Fx := ⟨Hid ph am, fun _ => none⟩
theorem hid_under : hid (ph.under am) (fun _ => none) H = hid ph am H := by
  funext b
  unfold hid
  have : Hid (ph.under am) (fun _ => none) b ↔ Hid ph am b := ⟨fun z => z.elim id fun ⟨_, e⟩ => (by cases e), fun z => .inl z⟩
  by_cases h : Hid ph am b
  · rw [if_pos h, if_pos (this.mpr h)]
  · rw [if_neg h, if_neg (fun z => h (this.mp z))]
theorem map_fz_get {j : Nat} {c : Cell} (h : (ds.map Cell.fz)[j]? = some c) : ∃ d, ds[j]? = some d ∧ c = .fz d := by
  rw [List.getElem?_map] at h
  cases e : ds[j]? with
  | none => rw [e] at h; cases h
  | some d => rw [e] at h; cases h; exact ⟨d, rfl, rfl⟩
theorem SR.under (s : SR K ph am σ H δ) (dv : DqAll K (hid ph am H) vs ds) : SR K (ph.under am) (ph.under am).ba (vs.map some) H (ds.map .fz) := by
  refine ⟨by rw [List.length_map, List.length_map, dv.length], fun j d q => ?_, fun j b es q => ?_, fun j a q => (by cases q), fun j k a q => (by cases q), fun b hb => s.hidden hb, fun j a q => (by cases q)⟩
  · obtain ⟨d', h1, h2⟩ := map_fz_get q
    cases h2
    obtain ⟨v, g1, g2⟩ := dv.get h1
    exact ⟨v, by rw [List.getElem?_map, g1]; rfl, by rw [show (ph.under am).ba = fun _ => none from rfl, hid_under]; exact g2⟩
  · obtain ⟨d', h1, h2⟩ := map_fz_get q
    cases h2
theorem XP.of_under {c : Str} {fs : List (Str × PyData)} (s : SR X.K ph am σ H δ') (k : XP X W ph am σ H δ' c fs) : XPd X.K X.mg (WE W σ) (ph.under am) (ph.under am).ba H c fs := by
  intro C dx am' H' e st q
  have sm : Same H H' := fun b o h => st.keep b o h fun i z => by cases z
  refine k C dx am H' e (Step.of sm) (s.same sm) ?_
  rcases q with q | ⟨a, vs, e1, e0, e2, e3, e4⟩
  · exact .inl q
  · refine .inr ⟨a, vs, e1, e0, e2, e3, dps_mono (fun b o h => ?_) e4⟩
    obtain ⟨h1, h2⟩ := hid_some.mp h
    exact hid_some.mpr ⟨fun z => h1 (.inl z), h2⟩
def xDef (G : Sg → Option (Ans PyData × Sg)) (fs : M (List PyData)) : M PyData := bnd fs fun ds => fun δ => match G (ds.map .fz) with
  | some (.ok d, _) => some (.ok d, δ)
  | some (.ex c es, _) => some (.ex c es, δ)
  | none => none
theorem def_read {t : TA} {G : Sg → Option (Ans PyData × Sg)} (q : ReadA X W t fs) (hn : ∀ ds δ δ', fs δ = some (.ok ds, δ') → ds.length = n) : ReadE X W (tCallS (spD X.K X.mg n G) (WE W) t) (xDef G fs) := by
  intro ph am σ H δ Q ans δ' s z k kx
  rcases bnd_some z with ⟨ds, δ1, e1, e2⟩ | ⟨c, fs, e1, e2⟩
  · refine q ph am σ H δ _ _ _ s e1 (fun d' ed am1 vs H1 st1 s1 dv => ?_) (fun c fs z => by cases z)
    cases ed
    refine ⟨by rw [dv.length]; exact hn ds δ δ1 e1, ph.under am1, ds.map .fz, ?_⟩
    have s2 := s1.under dv
    split at e2
    · rename_i d cells e3
      cases e2
      refine ⟨_, _, s2, e3, fun d ed v H' st' _ dv' => ?_, fun c fs z => by cases z⟩
      cases ed
      have sm : Same H1 H' := fun b o h => st'.keep b o h fun i z => by cases z
      rw [show (ph.under am1).ba = fun _ => none from rfl, hid_under] at dv'
      exact k _ rfl am1 v H' (st1.trans (Step.of sm)) (s1.same sm) dv'
    · rename_i c es cells e3
      cases e2
      refine ⟨_, _, s2, e3, fun d ed => (by cases ed), fun c fs z => ?_⟩
      cases z
      exact XP.of_under s1 ((kx _ _ rfl).step st1)
    · cases e2
  · subst e2
    exact q ph am σ H δ _ _ _ s e1 (fun d ed => by cases ed) (fun c' fs' z => by cases z; exact kx _ _ rfl)
theorem da_len : True := trivial
theorem de_call {G : Sg → Option (Ans PyData × Sg)} (F : FnOk X.prog X.w X.K X.mg X.base (L2.CX X.prog X.w) k fa fd ps (spD X.K X.mg n G)) (hr : Room k X.A) (hm : X.mg x = some (.ref fa)) (hk : PySem.W.keepIn X.K (.ref fa) = true) (hb : Binds X.K fd ps []) (hx : ∀ σ, PassesAt (L2.CX X.prog X.w) X σ (WE W σ))
    (ha : DA X W (e :: es) fs) (hn : ∀ ds δ δ', fs δ = some (.ok ds, δ') → ds.length = n) (hg : Gl X x := by rfl) (hdb : (x == ("__debug__" : Str)) = false := by decide) (he : starEach (e :: es) X.env = (false, eval e X.env) :: starEach es X.env := by rfl) (hpl : (backTo pos (starEach es X.env)).any (·.1) = false := by rfl) :
    DE X W (.Call (.Name x pf) (e :: es) [] pos) (xDef G fs) := by
  obtain ⟨t, p, q⟩ := ha.ex
  exact ⟨⟨_, pe_callS F hr hg hm hk hb hx p hdb he hpl, def_read q hn⟩⟩
/-- the first argument a list of one's own, lent -/
def xDefO (G : Sg → Option (Ans PyData × Sg)) (i : Nat) (fs : M (List PyData)) : M PyData := fun δ => match δ[i]? with
  | some (.ow _ _) => (bnd fs fun ds => fun δ1 => match δ1[i]? with
    | some (.ow b os) => match G (.ow true os :: ds.map .fz) with
      | some (.ok d, .ow _ os' :: _) => some (.ok d, δ1.set i (.ow b os'))
      | _ => none
    | _ => none) δ
  | _ => none
def Fx.lend (ph : Fx) (am : Am) (i : Nat) (a : Addr) : Fx := ⟨fun b => Hid ph am b ∧ b ≠ a, fun j => if j = 0 then some a else none⟩
theorem lend_ba {i j : Nat} {b : Addr} : (ph.lend am i a).ba j = some b ↔ j = 0 ∧ b = a := by
  unfold Fx.lend
  by_cases h : j = 0
  · simp [h]; exact eq_comm
  · simp [h]
theorem hid_lend {i : Nat} (h : am i = some a) : hid (ph.lend am i a) (ph.lend am i a).ba H = hid ph am H := by
  funext b
  unfold hid
  have : Hid (ph.lend am i a) (ph.lend am i a).ba b ↔ Hid ph am b := by
    constructor
    · rintro (⟨q, _⟩ | ⟨j, q⟩)
      · exact q
      · obtain ⟨_, rfl⟩ := lend_ba.mp q
        exact .inr ⟨i, h⟩
    · intro q
      by_cases hb : b = a
      · exact .inr ⟨0, lend_ba.mpr ⟨rfl, hb⟩⟩
      · exact .inl ⟨q, hb⟩
  by_cases h : Hid ph am b
  · rw [if_pos h, if_pos (this.mpr h)]
  · rw [if_neg h, if_neg (fun z => h (this.mp z))]
theorem SR.lend (s : SR K ph am σ H δ) {i : Nat} {b : Bool} {os : List PyData} {ov : List V} (h1 : am i = some a) (h2 : H a = some (.lst ov)) (h3 : DqAll K (hid ph am H) ov os) (h4 : ov.length ≤ sizeLine) (dv : DqAll K (hid ph am H) vs ds) :
    SR K (ph.lend am i a) (ph.lend am i a).ba ((.ref a :: vs).map some) H (.ow true os :: ds.map .fz) := by
  refine ⟨by simp [dv.length], fun j d q => ?_, fun j b es q => ?_, fun j c q => ?_, fun j l c q1 q2 => ?_, fun c hc => s.hidden hc.1, fun j c q => q⟩
  · cases j with
    | zero => simp at q
    | succ j =>
      obtain ⟨d', g1, g2⟩ := map_fz_get (j := j) (c := Cell.fz d) q
      cases g2
      obtain ⟨v, g3, g4⟩ := dv.get g1
      exact ⟨v, by simp [g3], by rw [hid_lend h1]; exact g4⟩
  · cases j with
    | zero =>
      simp at q
      obtain ⟨rfl, rfl⟩ := q
      exact ⟨a, ov, lend_ba.mpr ⟨rfl, rfl⟩, rfl, h2, by rw [hid_lend h1]; exact h3, h4, fun z => by cases z⟩
    | succ j =>
      obtain ⟨d', g1, g2⟩ := map_fz_get (j := j) (c := Cell.ow b es) q
      cases g2
  · obtain ⟨rfl, rfl⟩ := lend_ba.mp q
    exact ⟨fun z => z.2 rfl, true, os, rfl⟩
  · rw [(lend_ba.mp q1).1, (lend_ba.mp q2).1]
theorem defO_read {i : Nat} {t : TA} {G : Sg → Option (Ans PyData × Sg)} (q : ReadA X W t fs) (hn : ∀ ds δ δ', fs δ = some (.ok ds, δ') → ds.length + 1 = n) : ReadE X W (tCallS (spD X.K X.mg n G) (WE W) (tCons (tVar i) t)) (xDefO G i fs) := by
  intro ph am σ H δ Q ans δ' s z k kx
  unfold xDefO at z
  split at z
  · rename_i b0 ds0 e3
    obtain ⟨a0, vs0, o1, o2, o3, o4, _, _⟩ := s.ow i b0 ds0 e3
    refine ⟨.ref a0, o2, ?_⟩
    rcases bnd_some z with ⟨ds, δ1, e4, e5⟩ | ⟨c, fs, e4, e5⟩
    · refine q ph am σ H δ _ _ _ s e4 (fun d' ed am1 vs H1 st1 s1 dv => ?_) (fun c fs z => by cases z)
      cases ed
      split at e5
      · rename_i b os e6
        obtain ⟨a1, ov, r1, r2, r3, r4, r5, r6⟩ := s1.ow i b os e6
        rw [o2] at r2
        cases r2
        split at e5
        · rename_i d b' os' rest e7
          cases e5
          refine ⟨by simp [dv.length, hn ds δ δ1 e4], ph.lend am1 i a0, _, _, _, s1.lend (b := b) r1 r3 r4 r5 dv, e7, fun d ed v H' st' s' dv' => ?_, fun c fs z => by cases z⟩
          cases ed
          have st2 : Step am1 H1 am1 H' := ⟨fun b o h m => st'.keep b o h fun j z => by
            obtain ⟨_, rfl⟩ := lend_ba.mp z
            exact m i r1, fun j b h => .inl ⟨j, h⟩, st'.there⟩
          rw [hid_lend r1] at dv'
          obtain ⟨a2, ov2, t1, t2, t3, t4, t5, _⟩ := s'.ow 0 b' os' rfl
          obtain ⟨_, rfl⟩ := lend_ba.mp t1
          rw [hid_lend r1] at t4
          have hi : i < δ1.length := (List.getElem?_eq_some_iff.mp e6).1
          refine k _ rfl am1 v H' (st1.trans st2) ⟨by rw [List.length_set, s1.len], fun j d q => ?_, fun j bb es q => ?_, fun j c q => ?_, s1.inj, fun c hc => ?_, s1.bas⟩ dv'
          · have hj : j ≠ i := fun z => by
              subst z
              rw [List.getElem?_set_self hi] at q
              cases q
            rw [List.getElem?_set_ne (Ne.symm hj)] at q
            obtain ⟨v, g1, g2⟩ := s1.fz j d q
            exact ⟨v, g1, dp_mono st2.hid g2⟩
          · by_cases hj : j = i
            · subst hj
              rw [List.getElem?_set_self hi] at q
              cases q
              exact ⟨a2, ov2, r1, o2, t3, t4, t5, r6⟩
            · rw [List.getElem?_set_ne (Ne.symm hj)] at q
              obtain ⟨a3, vs3, g1, g2, g3, g4, g5⟩ := s1.ow j bb es q
              refine ⟨a3, vs3, g1, g2, st'.keep _ _ g3 fun l z => ?_, dps_mono st2.hid g4, g5⟩
              obtain ⟨_, rfl⟩ := lend_ba.mp z
              exact hj (s1.inj j i _ g1 r1)
          · obtain ⟨g1, b2, es, g2⟩ := s1.amf j c q
            by_cases hj : j = i
            · exact ⟨g1, b, os', by rw [hj]; exact List.getElem?_set_self hi⟩
            · exact ⟨g1, b2, es, by rw [List.getElem?_set_ne (Ne.symm hj)]; exact g2⟩
          · obtain ⟨o, h⟩ := s1.phs c hc
            exact st'.there c o h
        · cases e5
      · cases e5
    · subst e5
      exact q ph am σ H δ _ _ _ s e4 (fun d ed => by cases ed) (fun c' fs' z => by cases z; exact kx _ _ rfl)
  · cases z
theorem de_callO {i : Nat} {y : Str} {pn : Pos} {G : Sg → Option (Ans PyData × Sg)} (F : FnOk X.prog X.w X.K X.mg X.base (L2.CX X.prog X.w) k fa fd ps (spD X.K X.mg n G)) (hr : Room k X.A) (hm : X.mg x = some (.ref fa)) (hk : PySem.W.keepIn X.K (.ref fa) = true) (hb : Binds X.K fd ps []) (hx : ∀ σ, PassesAt (L2.CX X.prog X.w) X σ (WE W σ))
    (ha : DA X W es fs) (hn : ∀ ds δ δ', fs δ = some (.ok ds, δ') → ds.length + 1 = n) (hN : X.N[i]? = some y := by rfl) (hv : Vis X.env.scope y := by first | exact Or.inl rfl | exact Or.inr (Or.inl rfl) | exact Or.inr (Or.inr rfl)) (hd : (y == ("__debug__" : Str)) = false := by decide) (hcd : (y == ("__classdict__" : Str)) = false := by decide)
    (hg : Gl X x := by rfl) (hdb : (x == ("__debug__" : Str)) = false := by decide) (he : starEach (.Name y pn :: es) X.env = (false, eval (.Name y pn) X.env) :: starEach es X.env := by rfl) (hpl : (backTo pos (starEach es X.env)).any (·.1) = false := by rfl) :
    DE X W (.Call (.Name x pf) (.Name y pn :: es) [] pos) (xDefO G i fs) := by
  obtain ⟨t, p, q⟩ := ha.ex
  exact ⟨⟨_, pe_callS F hr hg hm hk hb hx (pa_cons (pe_var hN hv hd hcd) p he) hdb he hpl, defO_read q hn⟩⟩

/-- the one argument a new list, lent -/
def xDefT (G : Sg → Option (Ans PyData × Sg)) (fs : M (List PyData)) : M PyData := bnd fs fun ds => fun δ => match G [.ow true ds] with
  | some (.ok d, _) => some (.ok d, δ)
  | _ => none
def Fx.temp (ph : Fx) (am : Am) (a : Addr) : Fx := ⟨Hid ph am, fun j => if j = 0 then some a else none⟩
theorem temp_ba {j : Nat} {b : Addr} : (ph.temp am a).ba j = some b ↔ j = 0 ∧ b = a := by
  unfold Fx.temp
  by_cases h : j = 0
  · simp [h]; exact eq_comm
  · simp [h]
theorem hid_temp : Same (hid (ph.temp am a) (ph.temp am a).ba H) (hid ph am H) := fun b o h => by
  obtain ⟨h1, h2⟩ := hid_some.mp h
  exact hid_some.mpr ⟨fun z => h1 (.inl z), h2⟩
theorem defT_read {t : TE} {G : Sg → Option (Ans PyData × Sg)} (q : ReadF X W t fs) : ReadE X W (tCallS (spD X.K X.mg 1 G) (WE W) (tCons t tNil)) (xDefT G fs) := by
  intro ph am σ H δ Q ans δ' s z k kx
  rcases bnd_some z with ⟨ds, δ1, e1, e2⟩ | ⟨c, fs, e1, e2⟩
  · refine q ph am σ H δ _ _ _ s e1 (fun d' ed am1 p vs H1 n0 n1 st1 s1 dv hz => ?_) (fun c fs z => by cases z)
    cases ed
    split at e2
    · rename_i d cells e3
      cases e2
      have sm : Same H1 (upd H1 p (.lst vs)) := same_new n1
      have hh : Same (hid ph am1 H1) (hid (ph.temp am1 p) (ph.temp am1 p).ba (upd H1 p (.lst vs))) := fun b o h => by
        obtain ⟨h1, h2⟩ := hid_some.mp h
        refine hid_some.mpr ⟨fun z => ?_, sm b o h2⟩
        rcases z with z | ⟨j, z⟩
        · exact h1 z
        · obtain ⟨_, rfl⟩ := temp_ba.mp z
          rw [n1] at h2
          cases h2
      have s2 : SR X.K (ph.temp am1 p) (ph.temp am1 p).ba ([V.ref p].map some) (upd H1 p (.lst vs)) [.ow true ds] := by
        refine ⟨rfl, fun j d q => ?_, fun j b es q => ?_, fun j c q => ?_, fun j l c q1 q2 => ?_, fun c hc => ?_, fun j c q => q⟩
        · cases j with
          | zero => simp at q
          | succ j => simp at q
        · cases j with
          | zero =>
            simp at q
            obtain ⟨rfl, rfl⟩ := q
            exact ⟨p, vs, temp_ba.mpr ⟨rfl, rfl⟩, rfl, upd_same, dps_mono hh dv, hz, fun z => by cases z⟩
          | succ j => simp at q
        · obtain ⟨rfl, rfl⟩ := temp_ba.mp q
          exact ⟨fun z => s1.new n1 z, true, ds, rfl⟩
        · rw [(temp_ba.mp q1).1, (temp_ba.mp q2).1]
        · obtain ⟨o, h⟩ := s1.hidden hc
          exact ⟨o, sm c o h⟩
      refine ⟨rfl, ph.temp am1 p, _, _, _, s2, e3, fun d ed v H' st' _ dv' => ?_, fun c fs z => by cases z⟩
      cases ed
      have sm2 : Same H1 H' := fun b o h => st'.keep b o (sm b o h) fun j z => by
        obtain ⟨_, rfl⟩ := temp_ba.mp z
        rw [n1] at h
        cases h
      exact k _ rfl am1 v H' (st1.trans (Step.of sm2)) (s1.same sm2) (dp_mono hid_temp dv')
    · cases e2
  · subst e2
    exact q ph am σ H δ _ _ _ s e1 (fun d ed => by cases ed) (fun c' fs' z => by cases z; exact kx _ _ rfl)
theorem de_callT {G : Sg → Option (Ans PyData × Sg)} (F : FnOk X.prog X.w X.K X.mg X.base (L2.CX X.prog X.w) k fa fd ps (spD X.K X.mg 1 G)) (hr : Room k X.A) (hm : X.mg x = some (.ref fa)) (hk : PySem.W.keepIn X.K (.ref fa) = true) (hb : Binds X.K fd ps []) (hx : ∀ σ, PassesAt (L2.CX X.prog X.w) X σ (WE W σ))
    (ha : DF X W e fs) (hg : Gl X x := by rfl) (hdb : (x == ("__debug__" : Str)) = false := by decide) (he : starEach [e] X.env = (false, eval e X.env) :: starEach [] X.env := by rfl) (hpl : (backTo pos (starEach [] X.env)).any (·.1) = false := by rfl) :
    DE X W (.Call (.Name x pf) [e] [] pos) (xDefT G fs) := by
  obtain ⟨t, p, q⟩ := ha.ex
  exact ⟨⟨_, pe_callS F hr hg hm hk hb hx (pa_cons p pa_nil he) hdb he hpl, defT_read q⟩⟩
/-- a def that hands back a new list -/
def xDefF (G : Sg → Option (Ans (List PyData) × Sg)) (fs : M (List PyData)) : M (List PyData) := bnd fs fun ds => fun δ => match G (ds.map .fz) with
  | some (.ok d, _) => some (.ok d, δ)
  | some (.ex c es, _) => some (.ex c es, δ)
  | none => none
theorem defF_read {t : TA} {G : Sg → Option (Ans (List PyData) × Sg)} (q : ReadA X W t fs) (hn : ∀ ds δ δ', fs δ = some (.ok ds, δ') → ds.length = n) : ReadF X W (tCallS (spF X.K X.mg n G) (WE W) t) (xDefF G fs) := by
  intro ph am σ H δ Q ans δ' s z k kx
  rcases bnd_some z with ⟨ds, δ1, e1, e2⟩ | ⟨c, fs, e1, e2⟩
  · refine q ph am σ H δ _ _ _ s e1 (fun d' ed am1 vs H1 st1 s1 dv => ?_) (fun c fs z => by cases z)
    cases ed
    refine ⟨by rw [dv.length]; exact hn ds δ δ1 e1, ph.under am1, ds.map .fz, ?_⟩
    have s2 := s1.under dv
    split at e2
    · rename_i d cells e3
      cases e2
      refine ⟨_, _, s2, e3, fun d ed p us H' n0 n1 st' _ dv' hz => ?_, fun c fs z => by cases z⟩
      cases ed
      have sm : Same H1 H' := fun b o h => st'.keep b o h fun i z => by cases z
      rw [show (ph.under am1).ba = fun _ => none from rfl, hid_under] at dv'
      exact k _ rfl am1 p us H' (st1.none n0) n1 (st1.trans (Step.of sm)) (s1.same sm) dv' hz
    · rename_i c es cells e3
      cases e2
      refine ⟨_, _, s2, e3, fun d ed => (by cases ed), fun c fs z => ?_⟩
      cases z
      exact XP.of_under s1 ((kx _ _ rfl).step st1)
    · cases e2
  · subst e2
    exact q ph am σ H δ _ _ _ s e1 (fun d ed => by cases ed) (fun c' fs' z => by cases z; exact kx _ _ rfl)
theorem df_call {G : Sg → Option (Ans (List PyData) × Sg)} (F : FnOk X.prog X.w X.K X.mg X.base (L2.CX X.prog X.w) k fa fd ps (spF X.K X.mg n G)) (hr : Room k X.A) (hm : X.mg x = some (.ref fa)) (hk : PySem.W.keepIn X.K (.ref fa) = true) (hb : Binds X.K fd ps []) (hx : ∀ σ, PassesAt (L2.CX X.prog X.w) X σ (WE W σ))
    (ha : DA X W (e :: es) fs) (hn : ∀ ds δ δ', fs δ = some (.ok ds, δ') → ds.length = n) (hg : Gl X x := by rfl) (hdb : (x == ("__debug__" : Str)) = false := by decide) (he : starEach (e :: es) X.env = (false, eval e X.env) :: starEach es X.env := by rfl) (hpl : (backTo pos (starEach es X.env)).any (·.1) = false := by rfl) :
    DF X W (.Call (.Name x pf) (e :: es) [] pos) (xDefF G fs) := by
  obtain ⟨t, p, q⟩ := ha.ex
  exact ⟨⟨_, pe_callS F hr hg hm hk hb hx p hdb he hpl, defF_read q hn⟩⟩
/-! how many arguments -/
theorem alen0 : ∀ (ds : List PyData) (δ δ' : Sg), (ret [] : M (List PyData)) δ = some (.ok ds, δ') → ds.length = 0 := fun ds δ δ' h => by cases h; rfl
theorem alenS {n : Nat} (h : ∀ ds δ δ', fs δ = some (.ok ds, δ') → ds.length = n) : ∀ (ds : List PyData) (δ δ' : Sg), (bnd f fun d => bnd fs fun ds => ret (d :: ds)) δ = some (.ok ds, δ') → ds.length = n + 1 := fun ds δ δ' z => by
  rcases bnd_some z with ⟨d, δ1, e1, e2⟩ | ⟨c, fs, e1, e2⟩
  · rcases bnd_some e2 with ⟨d, δ2, e3, e4⟩ | ⟨c, fs, e3, e4⟩
    · cases e4
      rw [List.length_cons, h _ _ _ e3]
    · cases e4
  · cases e2
theorem alenO {n : Nat} (h : ∀ ds δ δ', fs δ = some (.ok ds, δ') → ds.length = n) : ∀ (ds : List PyData) (δ δ' : Sg), fs δ = some (.ok ds, δ') → ds.length + 1 = n + 1 := fun ds δ δ' z => by rw [h ds δ δ' z]
end PD
end

section
set_option Elab.async false
set_option linter.all false
set_option maxRecDepth 100000
set_option maxHeartbeats 1000000
namespace PD
open PySem PySem.Spec PyProof.Rows L2
variable {X : Cx} {W : WX} {pos : Pos} {e e1 e2 e3 : Expr} {es : List Expr} {f g h : M PyData} {fs : M (List PyData)} {fb gb : M Bool}
variable {K : PySem.W.Frag} {ph : Fx} {am am' am1 : Am} {H H' H1 : Hp} {σ σ' : L2.St} {δ δ' δ1 : Sg} {a p p1 p2 D : Addr} {v : V} {vs : List V} {d : PyData} {ds : List PyData} {i : Nat}

/-! displays times an int; x or y of new lists; parts of a list -/
def xRepF (fs : M (List PyData)) (g : M PyData) : M (List PyData) := bnd fs fun ds => bnd g fun b => lif (match b with
  | .int k => if -(2 ^ 63) ≤ k ∧ k < 2 ^ 63 ∧ ds.length * k.toNat ≤ sizeLine then some (List.replicate k.toNat ds).flatten else none
  | _ => none)
theorem df_rep (ha : DF X W e1 fs) (hb : DE X W e2 g) : DF X W (.BinOp e1 .Mult e2 pos) (xRepF fs g) := by
  obtain ⟨ta, pa, qa⟩ := ha.ex
  obtain ⟨tb, pb, qb⟩ := hb.ex
  refine ⟨⟨_, pe_op op_rep pa pb, fun ph am σ H δ Q ans δ' s q k kx => ?_⟩⟩
  rcases bnd_some q with ⟨a, δ1, e1, q1⟩ | ⟨c, fs, e1, q1⟩
  · refine qa ph am σ H δ _ _ _ s e1 (fun d ed am1 p vs H1 n0 n1 st1 s1 d1 hz => ?_) (fun c fs z => by cases z)
    cases ed
    have sm : Same H1 (upd H1 p (.lst vs)) := same_new n1
    have s2 := s1.same sm
    have stA : Step am H am1 (upd H1 p (.lst vs)) := st1.trans (Step.of sm)
    rcases bnd_some q1 with ⟨b, δ2, e2, q2⟩ | ⟨c, fs, e2, q2⟩
    · refine qb ph am1 σ _ δ1 _ _ _ s2 e2 (fun d ed am2 y H2 st2 s3 d2 => ?_) (fun c fs z => by cases z)
      cases ed
      obtain ⟨z, e3, rfl, rfl⟩ := lif_some q2
      cases d2 with
      | int n =>
        obtain ⟨⟨h1, h2, h3⟩, rfl⟩ := if_some e3
        have hp : H2 p = some (.lst vs) := st2.keep p _ upd_same fun i z => s1.new n1 (.inr ⟨i, z⟩)
        refine ⟨p, n, vs, rfl, rfl, hp, h1, h2, Nat.le_trans (Nat.le_of_eq (by rw [d1.length])) h3, fun p2 np => ?_⟩
        have d3 : DqAll X.K (hid ph am2 H2) vs a := dps_mono st2.hid (dps_mono (hid_same sm) d1)
        have hL : (List.replicate n.toNat vs).flatten.length = a.length * n.toNat := by
          rw [PyProof.Rows.lm_len_rep_flat, d1.length]
          exact Nat.mul_comm _ _
        exact k _ rfl am2 p2 _ H2 ((stA.trans st2).none np) np (stA.trans st2) s3 (d3.flat _) (Nat.le_trans (Nat.le_of_eq hL) h3)
      | _ => cases e3
    · subst q2
      exact qb ph am1 σ _ δ1 _ _ _ s2 e2 (fun d ed => by cases ed) (fun c' fs' z => by cases z; exact (kx _ _ rfl).step stA)
  · subst q1
    exact qa ph am σ H δ _ _ _ s e1 (fun d ed => by cases ed) (fun c' fs' z => by cases z; exact kx _ _ rfl)
end PD
end

section
set_option Elab.async false
set_option linter.all false
set_option maxRecDepth 100000
set_option maxHeartbeats 1000000
namespace PD
open PySem PySem.Spec PyProof.Rows L2
variable {X : Cx} {W : WX} {pos : Pos} {e e1 e2 e3 : Expr} {es : List Expr} {f g h : M PyData} {fs : M (List PyData)} {fb gb : M Bool}
variable {K : PySem.W.Frag} {ph : Fx} {am am' am1 : Am} {H H' H1 : Hp} {σ σ' : L2.St} {δ δ' δ1 : Sg} {a p p1 p2 D : Addr} {v : V} {vs : List V} {d : PyData} {ds : List PyData} {i : Nat}

def xOrF (fs gs : M (List PyData)) : M (List PyData) := bnd fs fun ds => if ds.isEmpty = true then gs else ret ds
theorem df_one {op} {fs : M (List PyData)} (ha : DF X W e fs) : DF X W (.BoolOp op [e] pos) fs := by
  obtain ⟨ta, pa, qa⟩ := ha.ex
  exact ⟨⟨_, pe_one pa, qa⟩⟩
theorem df_or {gs : M (List PyData)} (ha : DF X W e1 fs) (hb : DF X W (.BoolOp .Or (e2 :: es) pos) gs) : DF X W (.BoolOp .Or (e1 :: e2 :: es) pos) (xOrF fs gs) := by
  obtain ⟨ta, pa, qa⟩ := ha.ex
  obtain ⟨tb, pb, qb⟩ := hb.ex
  refine ⟨⟨_, pe_orT pa pb, fun ph am σ H δ Q ans δ' s q k kx => ?_⟩⟩
  rcases bnd_some q with ⟨a, δ1, e1, q1⟩ | ⟨c, fs, e1, q1⟩
  · refine qa ph am σ H δ _ _ _ s e1 (fun d ed am1 p vs H1 n0 n1 st1 s1 d1 hz => ?_) (fun c fs z => by cases z)
    cases ed
    have sm : Same H1 (upd H1 p (.lst vs)) := same_new n1
    have hev : vs.isEmpty = a.isEmpty := by cases d1 <;> rfl
    refine ⟨!vs.isEmpty, .inl ⟨vs, .inl (.inl upd_same), rfl⟩, ?_⟩
    rw [hev]
    cases ha : a.isEmpty with
    | true =>
      rw [ha, if_pos rfl] at q1
      exact iteF (qb ph am1 σ _ δ1 _ _ _ (s1.same sm) q1 (fun ds ed am2 p2 vs2 H2 m0 m1 st2 s2 d2 hz2 => k ds ed am2 p2 vs2 H2 ((st1.trans (Step.of sm)).none m0) m1 ((st1.trans (Step.of sm)).trans st2) s2 d2 hz2) fun c fs z => (kx c fs z).step (st1.trans (Step.of sm)))
    | false =>
      rw [ha, if_neg Bool.false_ne_true] at q1
      cases q1
      exact iteT (k _ rfl am1 p vs H1 n0 n1 st1 s1 d1 hz)
  · subst q1
    exact qa ph am σ H δ _ _ _ s e1 (fun d ed => by cases ed) (fun c' fs' z => by cases z; exact kx _ _ rfl)
end PD
end

section
set_option Elab.async false
set_option linter.all false
set_option maxRecDepth 100000
set_option maxHeartbeats 1000000
namespace PD
open PySem PySem.Spec PyProof.Rows L2
variable {X : Cx} {W : WX} {pos : Pos} {e e1 e2 e3 : Expr} {es : List Expr} {f g h : M PyData} {fs : M (List PyData)} {fb gb : M Bool}
variable {K : PySem.W.Frag} {ph : Fx} {am am' am1 : Am} {H H' H1 : Hp} {σ σ' : L2.St} {δ δ' δ1 : Sg} {a p p1 p2 D : Addr} {v : V} {vs : List V} {d : PyData} {ds : List PyData} {i : Nat}
variable {k : Nat} {fa : Addr} {fd : FuncData} {ps : List Str} {x : Str} {pf : Pos} {n : Nat}
/-! ### raise X() -/
theorem pmk_own0 {C : Addr} {bmB : List Value} {B newId initId : String} {x : Str} {p : Pos} (F : ExcBaseFacts B newId initId bmB) (q : PySem.W.excIn X.K C bmB newId = true) (gC : X.mg x = some (.ref C))
    (kC : PySem.W.keepIn X.K (.ref C) = true) (r : Raises X (.ref C)) (hg : Gl X x) (hdb : (x == ("__debug__" : Str)) = false := by decide) : PMk X (.Call (.Name x p) [] [] pos) (fun _ H Q => Q (.ref C) none H) := by
  intro pins s σ H Q I h
  refine wpAny_Call_Name_kw (ld_glob I hg gC ?_ hdb)
  refine PySem.W.callWith_K0 (first := []) I.kIn kC ?_
  show wpAny _ _ (call (.ref C) []) _ _ _
  obtain ⟨bm, N, nm, qn, bs, hdct, sn, sub, ab, col, dd, k0, k1, k2, k3, k5, mN, hC, hN, hni, T⟩ := exc_obj I.kIn q
  refine wpAny_call_exc_subT F T hC hN hni (fun h' e hm => ?_) (Nat.zero_le _)
  exact mk_of I hm r h (I.hok.gone hm.new)
/-- facts of an own exception class without an __init__ -/
structure ExcT (K : PySem.W.Frag) (mg : Str → Option Value) (x : Str) (C : Addr) (B newId initId : String) (bmB : List Value) : Prop where
  F : ExcBaseFacts B newId initId bmB
  q : PySem.W.excIn K C bmB newId = true
  g : mg x = some (.ref C)
  k : PySem.W.keepIn K (.ref C) = true
  b : PySem.W.subIn K (.ref C) (.type "BaseException") = some true
  t : PySem.W.typeIn K (.ref C) = some (.type "type")
def sRaise (c : Str) : MS := fun δ => some (.ex c [], δ)
theorem ds_raise0 {C : Addr} {bmB : List Value} {B newId initId : String} {x : Str} {p : Pos} {rp : Pos} (T : ExcT X.K X.mg x C B newId initId bmB) (hc : X.calm = true) (tk : Takes X W) (hg : Gl X x := by rfl) (hdb : (x == ("__debug__" : Str)) = false := by decide) :
    DS X W (.Raise (some (.Call (.Name x p) [] [] pos)) none rp) (sRaise x) :=
  ⟨⟨_, ps_raise hc tk (pmk_own0 T.F T.q T.g T.k (raises_own T.b T.t) hg hdb), fun ph am σ H δ D ans δ' s q _ kx => by
    cases q
    exact kx _ _ rfl C none am σ H T.g Step.refl s (.inl ⟨rfl, rfl⟩)⟩⟩
/-! ### keywords alone -/
structure DK (X : Cx) (W : WX) (kws : List Keyword) (f : M (List PyData)) : Prop where
  ex : ∃ t, PK X kws t ∧ ReadA X W t f
theorem dk_nil : DK X W [] (ret []) := ⟨⟨tNil, pk_nil, fun ph am σ H δ Q ans δ' s q k _ => by cases q; exact k _ rfl am [] H Step.refl s .nil⟩⟩
theorem dk_cons {kws : List Keyword} {nm : Option Str} {kpos : Pos} (h : DE X W e f) (t : DK X W kws fs) : DK X W (⟨nm, e, kpos⟩ :: kws) (bnd f fun d => bnd fs fun ds => ret (d :: ds)) := by
  obtain ⟨ta, pa, qa⟩ := h.ex
  obtain ⟨tb, pb, qb⟩ := t.ex
  refine ⟨⟨_, pk_cons pa pb, fun ph am σ H δ Q ans δ' s q k kx => ?_⟩⟩
  rcases bnd_some q with ⟨a, δ1, e1, q1⟩ | ⟨c, fs, e1, q1⟩
  · refine qa ph am σ H δ _ _ _ s e1 (fun d ed am1 x H1 st1 s1 d1 => ?_) (fun c fs z => by cases z)
    cases ed
    rcases bnd_some q1 with ⟨b, δ2, e2, q2⟩ | ⟨c, fs, e2, q2⟩
    · cases q2
      refine qb ph am1 σ H1 δ1 _ _ _ s1 e2 (fun d ed am2 y H2 st2 s2 d2 => ?_) (fun c fs z => by cases z)
      cases ed
      exact k _ rfl am2 _ H2 (st1.trans st2) s2 (.cons (dp_mono st2.hid d1) d2)
    · subst q2
      exact qb ph am1 σ H1 δ1 _ _ _ s1 e2 (fun d ed => by cases ed) (fun c' fs' z => by cases z; exact (kx _ _ rfl).step st1)
  · subst q1
    exact qa ph am σ H δ _ _ _ s e1 (fun d ed => by cases ed) (fun c' fs' z => by cases z; exact kx _ _ rfl)
def pick {α : Type} (perm : List Nat) (xs : List α) : List α := if xs.length = perm.length then perm.filterMap (xs[·]?) else []
theorem vals_fm {zs : List V} {ws : List Value} (r : Vals zs ws) : ∀ perm : List Nat, Vals (perm.filterMap (zs[·]?)) (perm.filterMap (ws[·]?))
  | [] => .nil
  | j :: t => by
    cases e : zs[j]? with
    | none =>
      have e' := r.none_of e
      rw [List.filterMap_cons, List.filterMap_cons, e, e']
      exact vals_fm r t
    | some x =>
      obtain ⟨u, e', r'⟩ := r.get e
      rw [List.filterMap_cons, List.filterMap_cons, e, e']
      exact .cons r' (vals_fm r t)
theorem dqs_fm {zs : List V} {ds : List PyData} (r : DqAll K H zs ds) : ∀ perm : List Nat, DqAll K H (perm.filterMap (zs[·]?)) (perm.filterMap (ds[·]?))
  | [] => .nil
  | j :: t => by
    cases e : ds[j]? with
    | none =>
      have e' : zs[j]? = none := List.getElem?_eq_none (by rw [r.length]; exact List.getElem?_eq_none_iff.mp e)
      rw [List.filterMap_cons, List.filterMap_cons, e, e']
      exact dqs_fm r t
    | some x =>
      obtain ⟨u, e', r'⟩ := r.get e
      rw [List.filterMap_cons, List.filterMap_cons, e, e']
      exact .cons r' (dqs_fm r t)
theorem vals_pick {perm : List Nat} {zs : List V} {ws : List Value} (r : Vals zs ws) : Vals (pick perm zs) (pick perm ws) := by
  unfold pick
  rw [r.length]
  split
  · exact vals_fm r perm
  · exact .nil
theorem dqs_pick {perm : List Nat} {zs : List V} {ds : List PyData} (r : DqAll K H zs ds) : DqAll K H (pick perm zs) (pick perm ds) := by
  unfold pick
  rw [r.length]
  split
  · exact dqs_fm r perm
  · exact .nil
theorem pe_callK0 {CX : CXT} {sp : Sp} {E : L2.St → XK} {p : Pos} {kws : List Keyword} {tk : TA} {ks : List Str} {perm : List Nat} (F : FnOk X.prog X.w X.K X.mg X.base CX k fa fd ps sp) (hr : Room k X.A) (hg : Gl X x) (hm : X.mg x = some (.ref fa)) (hk : PySem.W.keepIn X.K (.ref fa) = true)
    (hb : ∀ ws : List Value, ws.length = perm.length → bindArgs fd ⟨[], ks.zip ws⟩ = pure (ps.zip (pick perm ws))) (hx : ∀ σ, PassesAt CX X σ (E σ))
    (hkw : PK X kws tk) (hall : (backToKw pos (keywordEach kws X.env)).all (·.1.isSome) = true := by rfl) (hks : (backToKw pos (keywordEach kws X.env)).filterMap (·.1) = ks := by rfl)
    (hdb : (x == ("__debug__" : Str)) = false := by decide) (hpl : ((backTo pos (starEach [] X.env)).any (·.1) || (backToKw pos (keywordEach kws X.env)).any (·.1.isNone)) = false := by rfl) :
    PE X (.Call (.Name x p) [] kws pos) (fun σ H Q => tk σ H fun zs H2 => zs.length = perm.length ∧ sp (pick perm zs) H2 Q (E σ)) := by
  refine ⟨fun pins s σ H Q I h => ?_⟩
  refine wpAny_Call_Name_kw (ld_glob I hg hm ?_ hdb)
  refine PySem.W.callWith_KW0 (first := []) (h₀ := X.base) I.ok.mod.kin hk hall ?_ hpl
  refine thn (hkw.run pos pins s σ H _ I h) fun ws s2 ⟨zs, H2, I2, rz, hz, q2⟩ => ⟨I2.kIn, ?_⟩
  rw [hks]
  show wpAny _ _ (call (.ref fa) [] (ks.zip ws)) _ _ _
  have r2 : Vals (pick perm zs) (pick perm ws) := vals_pick rz
  refine wpAny_call (codeAny_mono (F.run X.A X.stack s2 H2 ⟨[], ks.zip ws⟩ (pick perm ws) (pick perm zs) Q (E σ) hr I2.env0 (.of_eq (hb ws (by rw [← rz.length]; exact hz))) r2 q2) fun r s' hq => ?_)
  cases r with
  | error e => exact hx σ pins H2 s2 e s' I2 hq
  | ok fl =>
    cases fl with
    | ret u => exact I2.after hq
    | next => exact False.elim hq
    | brk => exact False.elim hq
    | cont => exact False.elim hq
def xDefK (G : Sg → Option (Ans PyData × Sg)) (perm : List Nat) (fs : M (List PyData)) : M PyData := bnd fs fun ds => if ds.length = perm.length then xDef G (ret (pick perm ds)) else lif none
theorem de_callK0 {kws : List Keyword} {ks : List Str} {perm : List Nat} {G : Sg → Option (Ans PyData × Sg)} (F : FnOk X.prog X.w X.K X.mg X.base (L2.CX X.prog X.w) k fa fd ps (spD X.K X.mg n G)) (hr : Room k X.A) (hm : X.mg x = some (.ref fa)) (hk : PySem.W.keepIn X.K (.ref fa) = true)
    (hb : ∀ ws : List Value, ws.length = perm.length → bindArgs fd ⟨[], ks.zip ws⟩ = pure (ps.zip (pick perm ws))) (hx : ∀ σ, PassesAt (L2.CX X.prog X.w) X σ (WE W σ)) (hkw : DK X W kws fs) (hn : ∀ ds : List PyData, ds.length = perm.length → (pick perm ds).length = n)
    (hg : Gl X x := by rfl) (hall : (backToKw pos (keywordEach kws X.env)).all (·.1.isSome) = true := by rfl) (hks : (backToKw pos (keywordEach kws X.env)).filterMap (·.1) = ks := by rfl)
    (hdb : (x == ("__debug__" : Str)) = false := by decide) (hpl : ((backTo pos (starEach [] X.env)).any (·.1) || (backToKw pos (keywordEach kws X.env)).any (·.1.isNone)) = false := by rfl) : DE X W (.Call (.Name x pf) [] kws pos) (xDefK G perm fs) := by
  obtain ⟨t, p, q⟩ := hkw.ex
  refine ⟨⟨_, pe_callK0 F hr hg hm hk hb hx p hall hks hdb hpl, fun ph am σ H δ Q ans δ' s z k kx => ?_⟩⟩
  rcases bnd_some z with ⟨ds, δ1, e1, e2⟩ | ⟨c, fs, e1, e2⟩
  · refine q ph am σ H δ _ _ _ s e1 (fun d' ed am1 vs H1 st1 s1 dv => ?_) (fun c fs z => by cases z)
    cases ed
    split at e2
    · rename_i hl
      refine ⟨by rw [dv.length]; exact hl, ?_⟩
      have s2 := s1.under (dqs_pick (perm := perm) dv)
      rcases bnd_some e2 with ⟨ds2, δ2, e3, e4⟩ | ⟨c, fs, e3, e4⟩
      · cases e3
        refine ⟨by rw [(dqs_pick (perm := perm) dv).length]; exact hn ds hl, ph.under am1, (pick perm ds).map .fz, ?_⟩
        split at e4
        · rename_i d cells e5
          cases e4
          refine ⟨_, _, s2, e5, fun d ed v H' st' _ dv' => ?_, fun c fs z => by cases z⟩
          cases ed
          have sm : Same H1 H' := fun b o h => st'.keep b o h fun i z => by cases z
          rw [show (ph.under am1).ba = fun _ => none from rfl, hid_under] at dv'
          exact k _ rfl am1 v H' (st1.trans (Step.of sm)) (s1.same sm) dv'
        · rename_i c es cells e5
          cases e4
          refine ⟨_, _, s2, e5, fun d ed => (by cases ed), fun c fs z => ?_⟩
          cases z
          exact XP.of_under s1 ((kx _ _ rfl).step st1)
        · cases e4
      · cases e3
    · exact (lif_none e2).elim
  · subst e2
    exact q ph am σ H δ _ _ _ s e1 (fun d ed => by cases ed) (fun c' fs' z => by cases z; exact kx _ _ rfl)
/-! ### slices of a list or tuple, the parts ints -/
def cutD (xs : List PyData) (lo hi : Option Int) : List PyData := (xs.drop (HT.sIx xs.length 0 lo)).take (HT.sIx xs.length xs.length hi - HT.sIx xs.length 0 lo)
theorem dqs_cut {lo hi : Option Int} (h : DqAll K H vs ds) : DqAll K H (cutV vs lo hi) (cutD ds lo hi) := by
  unfold cutV cutD
  rw [h.length]
  exact (h.drop _).take _
structure DO (X : Cx) (W : WX) (e : Option Expr) (f : M (Option Int)) : Prop where
  ex : ∃ t, PO X e t ∧ ∀ (ph : Fx) (am : Am) (σ : L2.St) (H : Hp) (δ : Sg) (Q : Option Int → Hp → Prop) (ans : Ans (Option Int)) (δ' : Sg), SR X.K ph am σ H δ → f δ = some (ans, δ') →
    (∀ b, ans = .ok b → ∀ am' H', Step am H am' H' → SR X.K ph am' σ H' δ' → Q b H') → (∀ c fs, ans = .ex c fs → XP X W ph am σ H δ' c fs) → t σ H Q
theorem do_none : DO X W none (ret none) := ⟨⟨tNoPart, po_none, fun ph am σ H δ Q ans δ' s q k _ => by cases q; exact k _ rfl am H Step.refl s⟩⟩
def xPart (f : M PyData) : M (Option Int) := bnd f fun d => lif (match d with
  | .int i => some (some i)
  | _ => none)
theorem do_some (h : DE X W e f) : DO X W (some e) (xPart f) := by
  obtain ⟨ta, pa, qa⟩ := h.ex
  refine ⟨⟨_, po_some pa, fun ph am σ H δ Q ans δ' s q k kx => ?_⟩⟩
  rcases bnd_some q with ⟨a, δ1, e1, q1⟩ | ⟨c, fs, e1, q1⟩
  · refine qa ph am σ H δ _ _ _ s e1 (fun d ed am1 x H1 st1 s1 d1 => ?_) (fun c fs z => by cases z)
    cases ed
    obtain ⟨z, e3, rfl, rfl⟩ := lif_some q1
    cases d1 with
    | int i => cases e3; exact ⟨i, rfl, k _ rfl am1 H1 st1 s1⟩
    | _ => cases e3
  · subst q1
    exact qa ph am σ H δ _ _ _ s e1 (fun d ed => by cases ed) (fun c' fs' z => by cases z; exact kx _ _ rfl)
def xSlL (f : M PyData) (lo hi : M (Option Int)) : M (List PyData) := bnd f fun d => bnd lo fun l => bnd hi fun u => lif (match d with
  | .list xs => if xs.length ≤ sizeLine then some (cutD xs l u) else none
  | _ => none)
theorem df_slice {lo hi : Option Expr} {fl fh : M (Option Int)} {p2 : Pos} (he : DE X W e f) (hl : DO X W lo fl) (hh : DO X W hi fh) : DF X W (.Subscript e (.Slice lo hi none p2) pos) (xSlL f fl fh) := by
  obtain ⟨te, pe, qe⟩ := he.ex
  obtain ⟨tl, pl, ql⟩ := hl.ex
  obtain ⟨th, pp, qh⟩ := hh.ex
  refine ⟨⟨_, pe_slice sl_list pe pl pp, fun ph am σ H δ Q ans δ' s q k kx => ?_⟩⟩
  rcases bnd_some q with ⟨a, δ1, e1, q1⟩ | ⟨c, fs, e1, q1⟩
  · refine qe ph am σ H δ _ _ _ s e1 (fun d ed am1 x H1 st1 s1 d1 => ?_) (fun c fs z => by cases z)
    cases ed
    rcases bnd_some q1 with ⟨l, δ2, e2, q2⟩ | ⟨c, fs, e2, q2⟩
    · refine ql ph am1 σ H1 δ1 _ _ _ s1 e2 (fun d ed am2 H2 st2 s2 => ?_) (fun c fs z => by cases z)
      cases ed
      rcases bnd_some q2 with ⟨u, δ3, e3, q3⟩ | ⟨c, fs, e3, q3⟩
      · refine qh ph am2 σ H2 δ2 _ _ _ s2 e3 (fun d ed am3 H3 st3 s3 => ?_) (fun c fs z => by cases z)
        cases ed
        obtain ⟨z, e4, rfl, rfl⟩ := lif_some q3
        have d3 := dp_mono st3.hid (dp_mono st2.hid d1)
        cases d3 with
        | lst h1 a1 =>
          obtain ⟨hz0, rfl⟩ := if_some e4
          refine ⟨_, _, rfl, rd_hid h1, fun p np => ?_⟩
          have hz := Nat.le_trans (cutV_length _ l u) (Nat.le_trans (Nat.le_of_eq a1.length) hz0)
          exact k _ rfl am3 p _ H3 (((st1.trans st2).trans st3).none np) np ((st1.trans st2).trans st3) s3 (dqs_cut a1) hz
        | _ => cases e4
      · subst q3
        exact qh ph am2 σ H2 δ2 _ _ _ s2 e3 (fun d ed => by cases ed) (fun c' fs' z => by cases z; exact (kx _ _ rfl).step (st1.trans st2))
    · subst q2
      exact ql ph am1 σ H1 δ1 _ _ _ s1 e2 (fun d ed => by cases ed) (fun c' fs' z => by cases z; exact (kx _ _ rfl).step st1)
  · subst q1
    exact qe ph am σ H δ _ _ _ s e1 (fun d ed => by cases ed) (fun c' fs' z => by cases z; exact kx _ _ rfl)
end PD
end

section
set_option Elab.async false
set_option linter.all false
set_option maxRecDepth 100000
set_option maxHeartbeats 1000000
namespace PD
open PySem PySem.Spec PyProof.Rows L2
variable {X : Cx} {W : WX} {pos : Pos} {e e1 e2 e3 : Expr} {es : List Expr} {f g h : M PyData} {fs : M (List PyData)} {fb gb : M Bool}
variable {K : PySem.W.Frag} {ph : Fx} {am am' am1 : Am} {H H' H1 : Hp} {σ σ' : L2.St} {δ δ' δ1 : Sg} {a b p p1 p2 D : Addr} {v : V} {vs : List V} {d : PyData} {ds : List PyData} {i j : Nat}
variable {k : Nat} {fa : Addr} {fd : FuncData} {ps : List Str} {x : Str} {pf : Pos} {n : Nat}
/-! ### two lists of one's own lent -/
def Fx.lend2 (ph : Fx) (am : Am) (a b : Addr) : Fx := ⟨fun c => Hid ph am c ∧ c ≠ a ∧ c ≠ b, fun l => match l with
  | 0 => some a
  | 1 => some b
  | _ => none⟩
theorem lend2_ba {l : Nat} {c : Addr} : (ph.lend2 am a b).ba l = some c ↔ (l = 0 ∧ c = a) ∨ (l = 1 ∧ c = b) := by
  unfold Fx.lend2
  match l with
  | 0 => simp; exact eq_comm
  | 1 => simp; exact eq_comm
  | l + 2 => simp
theorem hid_lend2 (h1 : am i = some a) (h2 : am j = some b) : hid (ph.lend2 am a b) (ph.lend2 am a b).ba H = hid ph am H := by
  funext c
  unfold hid
  have : Hid (ph.lend2 am a b) (ph.lend2 am a b).ba c ↔ Hid ph am c := by
    constructor
    · rintro (⟨q, _⟩ | ⟨l, q⟩)
      · exact q
      · rcases lend2_ba.mp q with ⟨_, rfl⟩ | ⟨_, rfl⟩
        · exact .inr ⟨i, h1⟩
        · exact .inr ⟨j, h2⟩
    · intro q
      by_cases ha : c = a
      · exact .inr ⟨0, lend2_ba.mpr (.inl ⟨rfl, ha⟩)⟩
      · by_cases hb : c = b
        · exact .inr ⟨1, lend2_ba.mpr (.inr ⟨rfl, hb⟩)⟩
        · exact .inl ⟨q, ha, hb⟩
  by_cases h : Hid ph am c
  · rw [if_pos h, if_pos (this.mpr h)]
  · rw [if_neg h, if_neg (fun z => h (this.mp z))]
theorem SR.lend2 (s : SR K ph am σ H δ) {os us : List PyData} {ov uv : List V} (hij : a ≠ b) (h1 : am i = some a) (g1 : am j = some b) (h2 : H a = some (.lst ov)) (g2 : H b = some (.lst uv)) (h3 : DqAll K (hid ph am H) ov os) (g3 : DqAll K (hid ph am H) uv us) (h4 : ov.length ≤ sizeLine) (g4 : uv.length ≤ sizeLine) :
    SR K (ph.lend2 am a b) (ph.lend2 am a b).ba ([V.ref a, V.ref b].map some) H [.ow true os, .ow true us] := by
  refine ⟨rfl, fun l d q => ?_, fun l bb es q => ?_, fun l c q => ?_, fun l m c q1 q2 => ?_, fun c hc => s.hidden hc.1, fun l c q => q⟩
  · match l, q with
    | 0, q => simp at q
    | 1, q => simp at q
    | l + 2, q => simp at q
  · match l, q with
    | 0, q =>
      simp at q
      obtain ⟨rfl, rfl⟩ := q
      exact ⟨a, ov, lend2_ba.mpr (.inl ⟨rfl, rfl⟩), rfl, h2, by rw [hid_lend2 h1 g1]; exact h3, h4, fun z => by cases z⟩
    | 1, q =>
      simp at q
      obtain ⟨rfl, rfl⟩ := q
      exact ⟨b, uv, lend2_ba.mpr (.inr ⟨rfl, rfl⟩), rfl, g2, by rw [hid_lend2 h1 g1]; exact g3, g4, fun z => by cases z⟩
    | l + 2, q => simp at q
  · rcases lend2_ba.mp q with ⟨rfl, rfl⟩ | ⟨rfl, rfl⟩
    · exact ⟨fun z => z.2.1 rfl, true, os, rfl⟩
    · exact ⟨fun z => z.2.2 rfl, true, us, rfl⟩
  · rcases lend2_ba.mp q1 with ⟨rfl, rfl⟩ | ⟨rfl, rfl⟩ <;> rcases lend2_ba.mp q2 with ⟨rfl, e⟩ | ⟨rfl, e⟩
    · rfl
    · exact (hij e).elim
    · exact (hij e.symm).elim
    · rfl
def xDef2 (G : Sg → Option (Ans PyData × Sg)) (i j : Nat) : M PyData := fun δ => match δ[i]?, δ[j]? with
  | some (.ow b os), some (.ow c us) => if i ≠ j then match G [.ow true os, .ow true us] with
      | some (.ok d, [.ow _ os', .ow _ us']) => some (.ok d, (δ.set i (.ow b os')).set j (.ow c us'))
      | _ => none
    else none
  | _, _ => none
theorem def2_read {G : Sg → Option (Ans PyData × Sg)} : ReadE X W (tCallS (spD X.K X.mg 2 G) (WE W) (tCons (tVar i) (tCons (tVar j) tNil))) (xDef2 G i j) := by
  intro ph am σ H δ Q ans δ' s z k kx
  unfold xDef2 at z
  split at z
  · rename_i b0 os c0 us e1 e2
    split at z
    · rename_i hij
      obtain ⟨a, ov, o1, o2, o3, o4, o5, o6⟩ := s.ow i b0 os e1
      obtain ⟨b, uv, r1, r2, r3, r4, r5, r6⟩ := s.ow j c0 us e2
      have hab : a ≠ b := fun q => hij (s.inj i j a o1 (by rw [q]; exact r1))
      refine ⟨.ref a, o2, .ref b, r2, ?_⟩
      split at z
      · rename_i d b1 os' c1 us' e3
        cases z
        refine ⟨rfl, ph.lend2 am a b, _, _, _, s.lend2 hab o1 r1 o3 r3 o4 r4 o5 r5, e3, fun d ed v H' st' s' dv' => ?_, fun c fs z => by cases z⟩
        cases ed
        have st2 : Step am H am H' := ⟨fun c o h m => st'.keep c o h fun l z => by
          rcases lend2_ba.mp z with ⟨_, rfl⟩ | ⟨_, rfl⟩
          · exact m i o1
          · exact m j r1, fun l c h => .inl ⟨l, h⟩, st'.there⟩
        rw [hid_lend2 o1 r1] at dv'
        obtain ⟨a2, ov2, t1, t2, t3, t4, t5, _⟩ := s'.ow 0 b1 os' rfl
        obtain ⟨b2, uv2, y1, y2, y3, y4, y5, _⟩ := s'.ow 1 c1 us' rfl
        rcases lend2_ba.mp t1 with ⟨_, rfl⟩ | ⟨q, _⟩
        · rcases lend2_ba.mp y1 with ⟨q, _⟩ | ⟨_, rfl⟩
          · cases q
          · rw [hid_lend2 o1 r1] at t4 y4
            have hi : i < δ.length := (List.getElem?_eq_some_iff.mp e1).1
            have hj : j < δ.length := (List.getElem?_eq_some_iff.mp e2).1
            have gi : ((δ.set i (.ow b0 os')).set j (.ow c0 us'))[i]? = some (.ow b0 os') := by
              rw [List.getElem?_set_ne (Ne.symm hij), List.getElem?_set_self hi]
            have gj : ((δ.set i (.ow b0 os')).set j (.ow c0 us'))[j]? = some (.ow c0 us') := by
              rw [List.getElem?_set_self (by rw [List.length_set]; exact hj)]
            have go : ∀ {l : Nat}, l ≠ i → l ≠ j → ((δ.set i (.ow b0 os')).set j (.ow c0 us'))[l]? = δ[l]? := fun {l} h1 h2 => by
              rw [List.getElem?_set_ne (Ne.symm h2), List.getElem?_set_ne (Ne.symm h1)]
            refine k _ rfl am v H' st2 ⟨by rw [List.length_set, List.length_set, s.len], fun l d q => ?_, fun l bb es q => ?_, fun l c q => ?_, s.inj, fun c hc => ?_, s.bas⟩ dv'
            · by_cases h1 : l = i
              · rw [h1, gi] at q; cases q
              · by_cases h2 : l = j
                · rw [h2, gj] at q; cases q
                · rw [go h1 h2] at q
                  obtain ⟨v, g1, g2⟩ := s.fz l d q
                  exact ⟨v, g1, dp_mono st2.hid g2⟩
            · by_cases h1 : l = i
              · rw [h1, gi] at q
                cases q
                rw [h1]
                exact ⟨a2, ov2, o1, o2, t3, t4, t5, o6⟩
              · by_cases h2 : l = j
                · rw [h2, gj] at q
                  cases q
                  rw [h2]
                  exact ⟨b2, uv2, r1, r2, y3, y4, y5, r6⟩
                · rw [go h1 h2] at q
                  obtain ⟨a3, vs3, g1, g2, g3, g4, g5⟩ := s.ow l bb es q
                  refine ⟨a3, vs3, g1, g2, st'.keep _ _ g3 fun m z => ?_, dps_mono st2.hid g4, g5⟩
                  rcases lend2_ba.mp z with ⟨_, rfl⟩ | ⟨_, rfl⟩
                  · exact h1 (s.inj l i _ g1 o1)
                  · exact h2 (s.inj l j _ g1 r1)
            · obtain ⟨g1, bb, es, g2⟩ := s.amf l c q
              by_cases h1 : l = i
              · exact ⟨g1, b0, os', by rw [h1]; exact gi⟩
              · by_cases h2 : l = j
                · exact ⟨g1, c0, us', by rw [h2]; exact gj⟩
                · exact ⟨g1, bb, es, by rw [go h1 h2]; exact g2⟩
            · obtain ⟨o, h⟩ := s.phs c hc
              exact st'.there c o h
        · cases q
      · cases z
    · cases z
  · cases z
theorem de_call2 {y z : Str} {pn pz : Pos} {G : Sg → Option (Ans PyData × Sg)} (F : FnOk X.prog X.w X.K X.mg X.base (L2.CX X.prog X.w) k fa fd ps (spD X.K X.mg 2 G)) (hr : Room k X.A) (hm : X.mg x = some (.ref fa)) (hk : PySem.W.keepIn X.K (.ref fa) = true) (hb : Binds X.K fd ps []) (hx : ∀ σ, PassesAt (L2.CX X.prog X.w) X σ (WE W σ))
    (hN : X.N[i]? = some y := by rfl) (hv : Vis X.env.scope y := by first | exact Or.inl rfl | exact Or.inr (Or.inl rfl) | exact Or.inr (Or.inr rfl)) (hd : (y == ("__debug__" : Str)) = false := by decide) (hcd : (y == ("__classdict__" : Str)) = false := by decide)
    (hN2 : X.N[j]? = some z := by rfl) (hv2 : Vis X.env.scope z := by first | exact Or.inl rfl | exact Or.inr (Or.inl rfl) | exact Or.inr (Or.inr rfl)) (hd2 : (z == ("__debug__" : Str)) = false := by decide) (hcd2 : (z == ("__classdict__" : Str)) = false := by decide)
    (hg : Gl X x := by rfl) (hdb : (x == ("__debug__" : Str)) = false := by decide) (he2 : starEach [.Name z pz] X.env = (false, eval (.Name z pz) X.env) :: starEach [] X.env := by rfl) (he : starEach [.Name y pn, .Name z pz] X.env = (false, eval (.Name y pn) X.env) :: starEach [.Name z pz] X.env := by rfl) (hpl : (backTo pos (starEach [.Name z pz] X.env)).any (·.1) = false := by rfl) :
    DE X W (.Call (.Name x pf) [.Name y pn, .Name z pz] [] pos) (xDef2 G i j) :=
  ⟨⟨_, pe_callS F hr hg hm hk hb hx (pa_cons (pe_var hN hv hd hcd) (pa_cons (pe_var hN2 hv2 hd2 hcd2) pa_nil he2) he) hdb he hpl, def2_read⟩⟩
/-! ### a, b = e1, e2; a, b, c = e1, e2, e3 -/
def sPar2 (fs : M (List PyData)) (i j : Nat) : MS := bnd fs fun ds => fun δ => match ds with
  | [x, y] => match sName i x δ with
    | some δ1 => match sName j y δ1 with
      | some δ2 => some (.ok .nx, δ2)
      | none => none
    | none => none
  | _ => none
def sPar3 (fs : M (List PyData)) (i j l : Nat) : MS := bnd fs fun ds => fun δ => match ds with
  | [x, y, z] => match sName i x δ with
    | some δ1 => match sName j y δ1 with
      | some δ2 => match sName l z δ2 with
        | some δ3 => some (.ok .nx, δ3)
        | none => none
      | none => none
    | none => none
  | _ => none
theorem ds_par2 {x y : Str} {px py pt : Pos} {kt k2 pt2} (hc : X.calm = true) (hN : X.N.Nodup) (ha : DA X W [e1, e2] fs) (hi : X.N[i]? = some x := by rfl) (hj : X.N[j]? = some y := by rfl) (hij : i ≠ j := by decide)
    (hx : X.env.scope.names.lookup x = some .local := by rfl) (hy : X.env.scope.names.lookup y = some .local := by rfl)
    (hw : swappedStores [.Tuple [.Name x px, .Name y py] kt pt] (.Tuple [e1, e2] k2 pt2) X.env = pure (some [x, y]) := by rfl)
    (hs : swapsWithSole [.Tuple [.Name x px, .Name y py] kt pt] (.Tuple [e1, e2] k2 pt2) pos.line X.env = pure false := by rfl) : DS X W (.Assign [.Tuple [.Name x px, .Name y py] kt pt] (.Tuple [e1, e2] k2 pt2) pos) (sPar2 fs i j) := by
  obtain ⟨t, p, q⟩ := ha.ex
  refine ⟨⟨_, ps_par hc hN hi hj hij hx hy p hw hs, fun ph am σ H δ D ans δ' s z k kx => ?_⟩⟩
  rcases bnd_some z with ⟨ds, δ1, e1, e2⟩ | ⟨c, fs, e1, e2⟩
  · refine q ph am σ H δ _ _ _ s e1 (fun d' ed am1 vs H1 st1 s1 dv => ?_) (fun c fs z => by cases z)
    cases ed
    cases dv with
    | nil => cases e2
    | cons d1 t1 =>
      cases t1 with
      | nil => cases e2
      | cons d2 t2 =>
        cases t2 with
        | cons _ _ => cases e2
        | nil =>
          simp only at e2
          split at e2
          · rename_i δ2 n1
            split at e2
            · rename_i δ3 n2
              cases e2
              obtain ⟨c1, f1, f2, rfl⟩ := sName_some n1
              obtain ⟨c2, f3, f4, rfl⟩ := sName_some n2
              refine ⟨_, _, rfl, k _ rfl _ _ H1 ((st1.trans step_drop).trans step_drop) ((s1.put f1 f2 d1).put f3 f4 (dp_mono (Step.hid step_drop) d2))⟩
            · cases e2
          · cases e2
  · subst e2
    exact q ph am σ H δ _ _ _ s e1 (fun d ed => by cases ed) (fun c' fs' z => by cases z; exact (kx _ _ rfl).at)
theorem ds_par3 {l : Nat} {x y z : Str} {px py pz pt : Pos} {kt k2 pt2} (hc : X.calm = true) (hN : X.N.Nodup) (ha : DA X W [e1, e2, e3] fs) (hi : X.N[i]? = some x := by rfl) (hj : X.N[j]? = some y := by rfl) (hl : X.N[l]? = some z := by rfl) (hij : i ≠ j := by decide) (hil : i ≠ l := by decide) (hjl : j ≠ l := by decide)
    (hx : X.env.scope.names.lookup x = some .local := by rfl) (hy : X.env.scope.names.lookup y = some .local := by rfl) (hz : X.env.scope.names.lookup z = some .local := by rfl)
    (hw : swappedStores [.Tuple [.Name x px, .Name y py, .Name z pz] kt pt] (.Tuple [e1, e2, e3] k2 pt2) X.env = pure (some [x, y, z]) := by rfl)
    (hs : swapsWithSole [.Tuple [.Name x px, .Name y py, .Name z pz] kt pt] (.Tuple [e1, e2, e3] k2 pt2) pos.line X.env = pure false := by rfl) : DS X W (.Assign [.Tuple [.Name x px, .Name y py, .Name z pz] kt pt] (.Tuple [e1, e2, e3] k2 pt2) pos) (sPar3 fs i j l) := by
  obtain ⟨t, p, q⟩ := ha.ex
  refine ⟨⟨_, ps_par3 hc hN hi hj hl hij hil hjl hx hy hz p hw hs, fun ph am σ H δ D ans δ' s z k kx => ?_⟩⟩
  rcases bnd_some z with ⟨ds, δ1, e1, e2⟩ | ⟨c, fs, e1, e2⟩
  · refine q ph am σ H δ _ _ _ s e1 (fun d' ed am1 vs H1 st1 s1 dv => ?_) (fun c fs z => by cases z)
    cases ed
    cases dv with
    | nil => cases e2
    | cons d1 t1 =>
      cases t1 with
      | nil => cases e2
      | cons d2 t2 =>
        cases t2 with
        | nil => cases e2
        | cons d3 t3 =>
          cases t3 with
          | cons _ _ => cases e2
          | nil =>
            simp only at e2
            split at e2
            · rename_i δ2 n1
              split at e2
              · rename_i δ3 n2
                split at e2
                · rename_i δ4 n3
                  cases e2
                  obtain ⟨c1, f1, f2, rfl⟩ := sName_some n1
                  obtain ⟨c2, f3, f4, rfl⟩ := sName_some n2
                  obtain ⟨c3, f5, f6, rfl⟩ := sName_some n3
                  refine ⟨_, _, _, rfl, k _ rfl _ _ H1 (((st1.trans step_drop).trans step_drop).trans step_drop) (((s1.put f1 f2 d1).put f3 f4 (dp_mono (Step.hid step_drop) d2)).put f5 f6 (dp_mono (Step.hid step_drop) (dp_mono (Step.hid step_drop) d3)))⟩
                · cases e2
              · cases e2
            · cases e2
  · subst e2
    exact q ph am σ H δ _ _ _ s e1 (fun d ed => by cases ed) (fun c' fs' z => by cases z; exact (kx _ _ rfl).at)
/-! ### what a body may rely on -/
theorem hu64 {A : Around} {k : Nat} (hr : Room k A) : A.units + 64 < cLine := hr.units
theorem pass_cx {P : Program} {w : World} {mg : Str → Option Value} {base : Heap} {N : List Str} {qual : Str} {st : Stmt} {cdv : Value} {A : Around} {outer : List PySem.Env} {s : Shared} {E : XK} :
    ∀ σ, PassesAt (L2.CX P w) (CxD P w K mg base N qual st fa cdv A outer s H E) σ (WE (fun cls d _ H => E cls d H) σ) := fun σ => passAt (takes_of rfl rfl rfl rfl) σ
theorem pass0 : ∀ σ, PassesAt (L2.CX X.prog X.w) X σ (WE E00 σ) := fun σ => passAt takes0 σ
theorem own_cx {P : Program} {w : World} {mg : Str → Option Value} {base : Heap} {N : List Str} {qual : Str} {st : Stmt} {cdv : Value} {A : Around} {outer : List PySem.Env} {s : Shared} {E : XK} :
    PassesOwn (model P w) (CxD P w K mg base N qual st fa cdv A outer s H E).A (CxD P w K mg base N qual st fa cdv A outer s H E).env (CxD P w K mg base N qual st fa cdv A outer s H E).xe := passes_of rfl
theorem fn_none {P : Program} {w : World} {mg : Str → Option Value} {base : Heap} : FnOk P w K mg base (L2.CX P w) 0 fa fd ps (spD K mg ps.length fun _ => none) :=
  ⟨fun vs H Q E h => h.1, fun A outer s H args us vs Q E _ _ _ _ h => by
    obtain ⟨_, _, _, _, _, _, q, _⟩ := h
    cases q⟩
end PD
end

section
set_option Elab.async false
set_option linter.all false
set_option maxRecDepth 100000
set_option maxHeartbeats 1000000
namespace PD
open PySem PySem.Spec PyProof.Rows L2
variable {X : Cx} {W : WX} {pos : Pos} {e e1 e2 e3 : Expr} {es : List Expr} {f g h : M PyData} {fs : M (List PyData)} {fb gb : M Bool}
variable {K : PySem.W.Frag} {ph : Fx} {am am' am1 : Am} {H H' H1 : Hp} {σ σ' : L2.St} {δ δ' δ1 : Sg} {a b p p1 p2 D : Addr} {v : V} {vs : List V} {d : PyData} {ds : List PyData} {i j : Nat}
variable {pf : Pos}
theorem bt_int : bootBuiltins "int" = some (.type "int") := by decide +kernel
theorem bt_bool : bootBuiltins "bool" = some (.type "bool") := by decide +kernel
theorem bt_str : bootBuiltins "str" = some (.type "str") := by decide +kernel
theorem bt_list : bootBuiltins "list" = some (.type "list") := by decide +kernel
theorem bt_tuple : bootBuiltins "tuple" = some (.type "tuple") := by decide +kernel
theorem bb_abs : bootBuiltins "abs" = some (.builtin "abs") := by decide +kernel
theorem bb_all : bootBuiltins "all" = some (.builtin "all") := by decide +kernel
theorem bb_any : bootBuiltins "any" = some (.builtin "any") := by decide +kernel
theorem bb_sum : bootBuiltins "sum" = some (.builtin "sum") := by decide +kernel
section
variable (hd : DA X W [e] fs)
include hd
theorem de_len (hm : X.mg "len" = none) (hg : Gl X "len" := by rfl) (he : starEach [e] X.env = (false, eval e X.env) :: starEach [] X.env := by rfl) (hpl : (backTo pos (starEach [] X.env)).any (·.1) = false := by rfl) : DE X W (.Call (.Name "len" pf) [e] [] pos) (xCall lenD fs) :=
  de_callB calld_len call_len_seq hm PySem.boot_len hd hg (by decide) (by decide) he hpl
theorem de_intc (hm : X.mg "int" = none) (hg : Gl X "int" := by rfl) (he : starEach [e] X.env = (false, eval e X.env) :: starEach [] X.env := by rfl) (hpl : (backTo pos (starEach [] X.env)).any (·.1) = false := by rfl) : DE X W (.Call (.Name "int" pf) [e] [] pos) (xCall intD fs) :=
  de_callTy calld_int call_int1 hm bt_int hd hg (by decide) (by decide) he hpl
theorem de_abs (hm : X.mg "abs" = none) (hg : Gl X "abs" := by rfl) (he : starEach [e] X.env = (false, eval e X.env) :: starEach [] X.env := by rfl) (hpl : (backTo pos (starEach [] X.env)).any (·.1) = false := by rfl) : DE X W (.Call (.Name "abs" pf) [e] [] pos) (xCall absD fs) :=
  de_callB calld_abs call_abs hm bb_abs hd hg (by decide) (by decide) he hpl
theorem de_all (hm : X.mg "all" = none) (hc : X.calm = true := by rfl) (hg : Gl X "all" := by rfl) (he : starEach [e] X.env = (false, eval e X.env) :: starEach [] X.env := by rfl) (hpl : (backTo pos (starEach [] X.env)).any (·.1) = false := by rfl) : DE X W (.Call (.Name "all" pf) [e] [] pos) (xCall allD fs) :=
  de_callB calld_all (cr_all hc) hm bb_all hd hg (by decide) (by decide) he hpl
theorem de_any (hm : X.mg "any" = none) (hc : X.calm = true := by rfl) (hg : Gl X "any" := by rfl) (he : starEach [e] X.env = (false, eval e X.env) :: starEach [] X.env := by rfl) (hpl : (backTo pos (starEach [] X.env)).any (·.1) = false := by rfl) : DE X W (.Call (.Name "any" pf) [e] [] pos) (xCall anyD fs) :=
  de_callB calld_any (cr_any hc) hm bb_any hd hg (by decide) (by decide) he hpl
theorem de_sum (hm : X.mg "sum" = none) (hc : X.calm = true := by rfl) (hg : Gl X "sum" := by rfl) (he : starEach [e] X.env = (false, eval e X.env) :: starEach [] X.env := by rfl) (hpl : (backTo pos (starEach [] X.env)).any (·.1) = false := by rfl) : DE X W (.Call (.Name "sum" pf) [e] [] pos) (xCall sumD fs) :=
  de_callB calld_sum (cr_sum hc) hm bb_sum hd hg (by decide) (by decide) he hpl
theorem de_tuplec (hm : X.mg "tuple" = none) (hg : Gl X "tuple" := by rfl) (he : starEach [e] X.env = (false, eval e X.env) :: starEach [] X.env := by rfl) (hpl : (backTo pos (starEach [] X.env)).any (·.1) = false := by rfl) : DE X W (.Call (.Name "tuple" pf) [e] [] pos) (xCall tupleD fs) :=
  de_callTy calld_tuple call_tuple_of hm bt_tuple hd hg (by decide) (by decide) he hpl
theorem df_list (hm : X.mg "list" = none) (hg : Gl X "list" := by rfl) (he : starEach [e] X.env = (false, eval e X.env) :: starEach [] X.env := by rfl) (hpl : (backTo pos (starEach [] X.env)).any (·.1) = false := by rfl) : DF X W (.Call (.Name "list" pf) [e] [] pos) (xCallF listD fs) :=
  df_callTy callf_list call_list_of hm bt_list hd hg (by decide) (by decide) he hpl
end
/-! a slice of a list or a tuple -/
def sliceD (d : PyData) (l u : Option Int) : Option PyData := match d with
  | .list xs => some (.list (cutD xs l u))
  | .tuple xs => some (.tuple (cutD xs l u))
  | _ => none
def xSl (f : M PyData) (lo hi : M (Option Int)) : M PyData := bnd f fun d => bnd lo fun l => bnd hi fun u => lif (sliceD d l u)
theorem cut_whole {xs : List PyData} {l u : Option Int} (h : HT.sIx xs.length 0 l = 0 ∧ HT.sIx xs.length xs.length u = xs.length) : cutD xs l u = xs := by
  unfold cutD
  rw [h.1, h.2]
  simp
theorem de_slice {lo hi : Option Expr} {fl fh : M (Option Int)} {p2 : Pos} (he : DE X W e f) (hl : DO X W lo fl) (hh : DO X W hi fh) : DE X W (.Subscript e (.Slice lo hi none p2) pos) (xSl f fl fh) := by
  obtain ⟨te, pe, qe⟩ := he.ex
  obtain ⟨tl, pl, ql⟩ := hl.ex
  obtain ⟨th, pp, qh⟩ := hh.ex
  refine ⟨⟨_, pe_slice (SlR.or sl_list sl_tupA) pe pl pp, fun ph am σ H δ Q ans δ' s q k kx => ?_⟩⟩
  rcases bnd_some q with ⟨a, δ1, e1, q1⟩ | ⟨c, fs, e1, q1⟩
  · refine qe ph am σ H δ _ _ _ s e1 (fun d ed am1 x H1 st1 s1 d1 => ?_) (fun c fs z => by cases z)
    cases ed
    rcases bnd_some q1 with ⟨l, δ2, e2, q2⟩ | ⟨c, fs, e2, q2⟩
    · refine ql ph am1 σ H1 δ1 _ _ _ s1 e2 (fun d ed am2 H2 st2 s2 => ?_) (fun c fs z => by cases z)
      cases ed
      rcases bnd_some q2 with ⟨u, δ3, e3, q3⟩ | ⟨c, fs, e3, q3⟩
      · refine qh ph am2 σ H2 δ2 _ _ _ s2 e3 (fun d ed am3 H3 st3 s3 => ?_) (fun c fs z => by cases z)
        cases ed
        obtain ⟨z, e4, rfl, rfl⟩ := lif_some q3
        have d3 := dp_mono st3.hid (dp_mono st2.hid d1)
        have stA := (st1.trans st2).trans st3
        cases d3 with
        | lst h1 a1 =>
          cases e4
          exact .inl ⟨_, _, rfl, rd_hid h1, fun p np => k _ rfl am3 _ _ (stA.trans (Step.of (same_new np))) (s3.same (same_new np)) (new_lst (fun b h => s3.hidden h) np (dqs_cut a1))⟩
        | tup h1 a1 =>
          cases e4
          refine .inr ⟨_, _, rfl, seqT_hid h1, fun hw => ?_, fun _ p np => k _ rfl am3 _ _ (stA.trans (Step.of (same_new np))) (s3.same (same_new np)) (new_tup (fun b h => s3.hidden h) np (dqs_cut a1))⟩
          rw [a1.length] at hw
          rw [cut_whole hw] at k
          exact k _ rfl am3 _ H3 stA s3 (.tup h1 a1)
        | _ => cases e4
      · subst q3
        exact qh ph am2 σ H2 δ2 _ _ _ s2 e3 (fun d ed => by cases ed) (fun c' fs' z => by cases z; exact (kx _ _ rfl).step (st1.trans st2))
    · subst q2
      exact ql ph am1 σ H1 δ1 _ _ _ s1 e2 (fun d ed => by cases ed) (fun c' fs' z => by cases z; exact (kx _ _ rfl).step st1)
  · subst q1
    exact qe ph am σ H δ _ _ _ s e1 (fun d ed => by cases ed) (fun c' fs' z => by cases z; exact kx _ _ rfl)
end PD
namespace PD
open PySem PySem.Spec PyProof.Rows L2
variable {X : Cx} {W : WX} {pos : Pos} {k : Nat} {fa : Addr} {fd : FuncData} {ps : List Str} {x : Str} {pf : Pos}
theorem ra_nil : ReadA X W tNil (ret []) := fun ph am σ H δ Q ans δ' s q k _ => by cases q; exact k _ rfl am [] H Step.refl s .nil
theorem pe_callS0 {CX : CXT} {sp : Sp} {E : L2.St → XK} (F : FnOk X.prog X.w X.K X.mg X.base CX k fa fd ps sp) (hr : Room k X.A) (hg : Gl X x) (hm : X.mg x = some (.ref fa)) (hk : PySem.W.keepIn X.K (.ref fa) = true) (hb : Binds X.K fd ps []) (hx : ∀ σ, PassesAt CX X σ (E σ)) (hdb : (x == ("__debug__" : Str)) = false := by decide) :
    PE X (.Call (.Name x pf) [] [] pos) (tCallS sp E tNil) := by
  refine ⟨fun pins s σ H Q I h => ?_⟩
  refine wpAny_Call_Name_kw (ld_glob I hg hm ?_ hdb)
  exact PySem.W.callWith_K0 I.kIn hk (run_fnS (us := []) F hr hb (hx σ) I .nil h)
theorem de_call0 {G : Sg → Option (Ans PyData × Sg)} (F : FnOk X.prog X.w X.K X.mg X.base (L2.CX X.prog X.w) k fa fd ps (spD X.K X.mg 0 G)) (hr : Room k X.A) (hm : X.mg x = some (.ref fa)) (hk : PySem.W.keepIn X.K (.ref fa) = true) (hb : Binds X.K fd ps []) (hx : ∀ σ, PassesAt (L2.CX X.prog X.w) X σ (WE W σ))
    (hg : Gl X x := by rfl) (hdb : (x == ("__debug__" : Str)) = false := by decide) : DE X W (.Call (.Name x pf) [] [] pos) (xDef G (ret [])) :=
  ⟨⟨_, pe_callS0 F hr hg hm hk hb hx hdb, def_read ra_nil alen0⟩⟩
end PD
namespace PD
open PySem PySem.Spec PyProof.Rows L2
variable {X : Cx} {W : WX} {e : Expr} {st : Stmt} {sts : List Stmt}
theorem de_never : DE X W e (fun _ => none) := ⟨⟨fun _ _ _ => False, ⟨fun _ _ _ _ _ _ h => h.elim⟩, fun ph am σ H δ Q ans δ' s q _ _ => by cases q⟩⟩
theorem ds_never : DS X W st (fun _ => none) := ⟨⟨tNever, ps_never, fun ph am σ H δ D ans δ' s q _ _ => by cases q⟩⟩
theorem dss_never : DSs X W sts (fun _ => none) := ⟨⟨tNever, pss_never, fun ph am σ H δ D ans δ' s q _ _ => by cases q⟩⟩
end PD
end

section
set_option Elab.async false
set_option linter.all false
set_option maxRecDepth 100000
set_option maxHeartbeats 1000000
namespace PD
open PySem PySem.Spec PyProof.Rows L2
variable {X : Cx} {W : WX} {pos : Pos} {e e1 : Expr} {es : List Expr}
variable {K : PySem.W.Frag} {ph : Fx} {am am' : Am} {H H' : Hp} {σ σ' : L2.St} {δ δ' : Sg} {a p : Addr} {v : V} {vs : List V} {d : PyData} {ds : List PyData} {i j : Nat}
/-- a free slot is emptied -/
theorem SR.unset (s : SR K ph am σ H δ) {c : Cell} (e : δ[i]? = some c) (hc : c.free = true) : SR K ph (amDrop am i) (σ.set i none) H (δ.set i .un) := by
  have st : Step am H (amDrop am i) H := step_drop
  have hi : i < δ.length := (List.getElem?_eq_some_iff.mp e).1
  refine ⟨by rw [List.length_set, List.length_set, s.len], fun j d' q => ?_, fun j b' ds' q => ?_, fun j a' q => ?_, fun j k a' q1 q2 => ?_, s.phs, fun j a' q => ?_⟩
  · by_cases hj : j = i
    · subst hj
      rw [List.getElem?_set_self hi] at q
      cases q
    · rw [List.getElem?_set_ne (Ne.symm hj)] at q
      obtain ⟨v', h1, h2⟩ := s.fz j d' q
      exact ⟨v', by rw [List.getElem?_set_ne (Ne.symm hj)]; exact h1, dp_mono st.hid h2⟩
  · by_cases hj : j = i
    · subst hj
      rw [List.getElem?_set_self hi] at q
      cases q
    · rw [List.getElem?_set_ne (Ne.symm hj)] at q
      obtain ⟨a2, vs2, h1, h2, h3, h4, h5, h6⟩ := s.ow j b' ds' q
      exact ⟨a2, vs2, amDrop_some.mpr ⟨hj, h1⟩, by rw [List.getElem?_set_ne (Ne.symm hj)]; exact h2, h3, dps_mono st.hid h4, h5, h6⟩
  · obtain ⟨n, q⟩ := amDrop_some.mp q
    obtain ⟨h1, b, ds', h2⟩ := s.amf j a' q
    exact ⟨h1, b, ds', by rw [List.getElem?_set_ne (Ne.symm n)]; exact h2⟩
  · exact s.inj j k a' (amDrop_some.mp q1).2 (amDrop_some.mp q2).2
  · refine amDrop_some.mpr ⟨fun z => ?_, s.bas j a' q⟩
    subst z
    rw [s.nba e hc] at q
    cases q
/-- what an exception holds -/
def PL (K : PySem.W.Frag) (ph : Fx) (am : Am) (H : Hp) (dx : Option Addr) (fs : List (Str × PyData)) : Prop :=
  (fs = [] ∧ dx = none) ∨ ∃ a vs, dx = some a ∧ fs ≠ [] ∧ H a = some (.xd vs) ∧ vs.map (·.1) = fs.map (·.1) ∧ DqAll K (hid ph am H) (vs.map (·.2)) (fs.map (·.2))
/-- what a suite puts together: constants, what the exception in slot i is and holds -/
structure DXs (X : Cx) (i : Nat) (c : Str) (es : List Expr) (g : List (Str × PyData) → Option (List PyData)) : Prop where
  ex : ∀ (a : Addr) (oe : Obj) (C : Addr) (dx : Option Addr) (pn : List (Addr × Obj)), Zc (.ref C) dx oe → (∃ vs, oe.data = .fields vs) → X.mg c = some (.ref C) →
    ∃ t, PA (X.suite a ((a, oe) :: pn)) es t ∧ ∀ (ph : Fx) (am : Am) (σ : L2.St) (H : Hp) (Q : List V → Hp → Prop) (fs : List (Str × PyData)) (ds : List PyData), σ[i]? = some (some (.ref a)) → PL X.K ph am H dx fs → g fs = some ds →
      (∀ vs, DqAll X.K (hid ph am H) vs ds → Q vs H) → t σ H Q
variable {c : Str} {gi : List (Str × PyData) → Option (List PyData)}
def gCon (d : PyData) (g : List (Str × PyData) → Option (List PyData)) : List (Str × PyData) → Option (List PyData) := fun fs => (g fs).map (d :: ·)
def gIs (b : Bool) (g : List (Str × PyData) → Option (List PyData)) : List (Str × PyData) → Option (List PyData) := fun fs => match fs with
  | [] => (g fs).map (.bool b :: ·)
  | _ => none
theorem dx_nil : DXs X i c [] (fun _ => some []) := ⟨fun a oe C dx pn hz hf hm => ⟨tNil, pa_nil, fun ph am σ H Q fs ds hs hp hg k => by cases hg; exact k [] .nil⟩⟩
theorem dx_con {v : V} (hc : ∀ X' : Cx, PE X' e (tC v)) (hv : ∀ H, Dq X.K H v d) (h : DXs X i c es gi) (hs : starEach (e :: es) X.env = (false, eval e X.env) :: starEach es X.env := by rfl) : DXs X i c (e :: es) (gCon d gi) :=
  ⟨fun a oe C dx pn hz hf hm => by
    obtain ⟨t, p, q⟩ := h.ex a oe C dx pn hz hf hm
    refine ⟨_, pa_cons (hc _) p hs, fun ph am σ H Q fs ds hσ hp hg k => ?_⟩
    unfold gCon at hg
    cases e2 : gi fs with
    | none => rw [e2] at hg; cases hg
    | some ds2 =>
      rw [e2] at hg
      cases hg
      exact q ph am σ H _ fs ds2 hσ hp e2 fun vs dv => k (v :: vs) (.cons (hv _) dv)⟩
theorem dx_str {x : Str} {k} (h : DXs X i c es gi) (hs : starEach (.Constant (.str x) k pos :: es) X.env = (false, eval (.Constant (.str x) k pos) X.env) :: starEach es X.env := by rfl) : DXs X i c (.Constant (.str x) k pos :: es) (gCon (.str x) gi) :=
  dx_con (v := .str x) (fun _ => pe_str) (fun _ => .str x) h hs

variable {pf pn pT : Pos}
/-- isinstance(n, T), n the exception -/
theorem dx_isi {n T : Str} {b : Bool} (Tn : String) (hC : ∀ C, X.mg c = some (.ref C) → ExcC X.K C ∧ PySem.W.kitOne X.K (.ref C) (.type Tn) = some b) (hm : X.mg "isinstance" = none) (hmT : X.mg T = none) (hv : bootBuiltins T = some (.type Tn)) (h : DXs X i c es gi)
    (hN : X.N[i]? = some n := by rfl) (hvi : Vis X.env.scope n := by first | exact Or.inl rfl | exact Or.inr (Or.inl rfl) | exact Or.inr (Or.inr rfl)) (hdn : (n == ("__debug__" : Str)) = false := by decide) (hcd : (n == ("__classdict__" : Str)) = false := by decide)
    (hg : Gl X "isinstance" := by rfl) (hgT : Gl X T := by rfl) (hn : T ≠ "__name__" := by decide) (hd : (T == ("__debug__" : Str)) = false := by decide)
    (hs1 : starEach [.Name T pT] X.env = (false, eval (.Name T pT) X.env) :: starEach [] X.env := by rfl)
    (hs : starEach [.Name n pn, .Name T pT] X.env = (false, eval (.Name n pn) X.env) :: starEach [.Name T pT] X.env := by rfl) (hpl : (backTo pos (starEach [.Name T pT] X.env)).any (·.1) = false := by rfl)
    (hs0 : starEach (.Call (.Name "isinstance" pf) [.Name n pn, .Name T pT] [] pos :: es) X.env = (false, eval (.Call (.Name "isinstance" pf) [.Name n pn, .Name T pT] [] pos) X.env) :: starEach es X.env := by rfl) :
    DXs X i c (.Call (.Name "isinstance" pf) [.Name n pn, .Name T pT] [] pos :: es) (gIs b gi) :=
  ⟨fun a oe C dx q hz hf hm' => by
    obtain ⟨t, p, r⟩ := h.ex a oe C dx q hz hf hm'
    obtain ⟨hc, hk⟩ := hC C hm'
    cases dx with
    | some dd => 
      exact ⟨fun _ _ _ => False, ⟨fun _ _ _ _ _ _ _ (h : False) => h.elim⟩, fun ph am σ H Q fs ds hσ hp hg k => by
        unfold gIs at hg
        split at hg
        · rcases hp with ⟨_, z⟩ | ⟨a', vs, z, e0, _⟩
          · cases z
          · exact (e0 rfl).elim
        · cases hg⟩
    | none =>
      refine ⟨_, pa_cons (pe_callB (X := X.suite a ((a, oe) :: q)) (call_isE hc hz hf) hg hm boot_isinstance (pa_cons (pe_var hN hvi hdn hcd) (pa_cons (pe_bltn (v := .ty Tn) hgT hmT hv rfl hn hd) pa_nil hs1) hs) (by decide) (by decide) hs hpl) p hs0, fun ph am σ H Q fs ds hσ hp hg k => ?_⟩
      unfold gIs at hg
      split at hg
      · cases e2 : gi [] with
        | none => rw [e2] at hg; cases hg
        | some ds2 =>
          rw [e2] at hg
          cases hg
          exact ⟨_, hσ, .ty Tn, .type Tn, b, rfl, fun u hu => hu, hk, r ph am σ H _ [] ds2 hσ hp e2 fun vs dv => k (.bl b :: vs) (.cons (.bl b) dv)⟩
      · cases hg⟩
/-! ### try: .. except x as n: y = [..] -/
def tsOf (X : Cx) (W : WX) (g : MS) : TS := fun D σ H => ∃ ph am δ ans δ', SR X.K ph am σ H δ ∧ g δ = some (ans, δ') ∧ (∀ fl, ans = .ok fl → EndOk X.K ph am H δ' D fl) ∧ (∀ c fs, ans = .ex c fs → XPS X W ph am H δ' c fs)
theorem DSs.can {sts : List Stmt} {g : MS} (h : DSs X W sts g) : PSs X sts (tsOf X W g) := by
  obtain ⟨t, p, q⟩ := h.ex
  exact ⟨fun pins s σ H D I ⟨ph, am, δ, ans, δ', s1, e, k, kx⟩ => p.run pins s σ H D I (q ph am σ H δ D ans δ' s1 e k kx)⟩
def sTryX (c : Str) (i j : Nat) (gi : List (Str × PyData) → Option (List PyData)) (g : MS) : MS := fun δ => match g δ with
  | some (.ok fl, δ1) => some (.ok fl, δ1)
  | some (.ex c' fs, δ1) => if c' = c then (match gi fs, δ1[i]?, δ1[j]? with
    | some ds, some ci, some cj => if (ci.free && cj.free && (i != j) && decide (ds.length ≤ 1000)) = true then some (.ok .nx, (δ1.set j (.fz (.list ds))).set i .un) else none
    | _, _, _ => none) else none
  | none => none
def tCat (X : Cx) (i j : Nat) (c : Str) (gi : List (Str × PyData) → Option (List PyData)) : Addr → Value → Option Addr → TS := fun a cls dx D σ H => ∃ C ph am fs ds, cls = .ref C ∧ X.mg c = some (.ref C) ∧ σ[i]? = some (some (.ref a)) ∧ PL X.K ph am H dx fs ∧ gi fs = some ds ∧
  (∀ vs, DqAll X.K (hid ph am H) vs ds → vs.length ≤ sizeLine ∧ ∀ p, H p = none → D.nx (σ.set j (some (.ref p))) (upd H p (.lst vs)))
theorem ds_try_set {n x y : Str} {C : Addr} {py spos np pos' : Pos} {body : List Stmt} {g : MS} (hs : X.stack = X.env :: X.outer) (hfr : X.env.frame = some X.env.locals) (hN : X.N.Nodup) (tk : Takes X W) (hx : Names X x (.ref C)) (hxm : X.mg x = some (.ref C)) (hself : PySem.W.exmOne X.K (.ref C) (.ref C) = some true)
    (hb : ∀ (W' : WX) (pn : List (Addr × Obj)) (xe : Value → Shared → Prop), Takes (X.tr pn xe) W' → DSs (X.tr pn xe) W' body g) (hd : DXs X i x es gi)
    (hi : X.N[i]? = some n := by rfl) (hln : X.env.kindOf n = some .local := by rfl) (hj : X.N[j]? = some y := by rfl) (hy : Loc X.env.scope y := by first | exact Or.inl rfl | exact Or.inr rfl) (hsw : swapsWith (.List es pos) (some (.Name y py)) spos.line X.env = pure false := by rfl)
    (hf : X.fn y = true ∨ X.env.scope.names.lookup y = some .local := by first | exact .inl rfl | exact .inr rfl) :
    DS X W (.Try body [.ExceptHandler (some (.Name x np)) (some n) [.Assign [.Name y py] (.List es pos) spos] pos'] [] [] pf) (sTryX x i j gi g) := by
  refine ⟨⟨_, ps_try_as (tb := fun W' => tsOf X W' g) (ts := tCat X i j x gi) (Wout := fun _ _ _ _ => False) hs hfr hN hi hln hx takes0 (fun W' pn xe tk' _ => (hb W' pn xe tk').can) (fun a oe cls dx pn hz hv => ?_), fun ph am σ H δ D ans δ' s q k kx => ?_⟩⟩
  · refine ⟨fun pins s σ H D I h => ?_⟩
    obtain ⟨C', ph, am, fs, ds, rfl, hm, hσ, hp, hg, k⟩ := h
    obtain ⟨t, pt, qt⟩ := hd.ex a oe C' dx pn hz hv hm
    refine (pss_one (ps_set (X := X.suite a ((a, oe) :: pn)) hN hj hy (pe_lst pt) hsw hf)).run pins s σ H D I ?_
    exact qt ph am σ H _ fs ds hσ hp hg fun vs dv => k vs dv
  · unfold sTryX at q
    split at q
    · rename_i fl δ1 e1
      cases q
      exact ⟨ph, am, δ, _, _, s, e1, fun fl' z => by cases z; exact k _ rfl, fun c fs z => by cases z⟩
    · rename_i c' fs δ1 e1
      split at q
      · rename_i hc
        subst hc
        split at q
        · rename_i ds ci cj g1 g2 g3
          split at q
          · rename_i hc
            simp only [Bool.and_eq_true, bne_iff_ne, decide_eq_true_eq] at hc
            obtain ⟨⟨⟨f1, f2⟩, nij⟩, hl⟩ := hc
            cases q
            refine ⟨ph, am, δ, _, _, s, e1, fun fl' z => (by cases z), fun c fs z => ?_⟩
            cases z
            intro C' dx am' σ' H' hm st s' pl
            have hi' : i < σ'.length := by rw [s'.len]; exact (List.getElem?_eq_some_iff.mp g2).1
            rw [hxm] at hm
            cases hm
            refine ⟨true, hself, fun _ a na => ?_, fun z => by cases z⟩
            refine ⟨C, ph, am', _, ds, rfl, hxm, List.getElem?_set_self hi', pl, g1, fun vs dv => ?_⟩
            have hz : vs.length ≤ sizeLine := by rw [dv.length, sizeLine_eq]; omega
            refine ⟨hz, fun p np => ?_⟩
            have s2 := (s'.same (same_new (o := .lst vs) np))
            have s3 := s2.put g3 f2 (new_lst (fun b h => s'.hidden h) np dv)
            have g2' : (δ1.set j (.fz (.list ds)))[i]? = some ci := by rw [List.getElem?_set_ne (Ne.symm nij)]; exact g2
            have s4 := s3.unset g2' f1
            have e : ((σ'.set i (some (.ref a))).set j (some (.ref p))).set i none = (σ'.set j (some (.ref p))).set i none := by
              rw [List.set_comm _ _ (Ne.symm nij), List.set_set]
              exact List.set_comm _ _ nij
            show D.nx (((σ'.set i (some (.ref a))).set j (some (.ref p))).set i none) _
            rw [e]
            exact k _ rfl _ _ _ ((st.trans (Step.of (same_new np))).trans (step_drop.trans step_drop)) s4
          · cases q
        · cases q
      · cases q
    · cases q
end PD
end

section
set_option Elab.async false
set_option linter.all false
set_option maxRecDepth 100000
namespace PD
open PySem
/-! ### loops and comprehensions by what holds behind j turns -/
theorem loop_inv {set : Tg} {b : MS} {ds : List PyData} {δ : Sg} (I : Nat → Sg → Prop) (h0 : I 0 δ)
    (step : ∀ (j : Nat) (d : PyData), ds[j]? = some d → ∀ δ, I j δ → ∃ δ1 δ2, set d δ = some δ1 ∧ b δ1 = some (.ok .nx, δ2) ∧ I (j + 1) δ2) :
    ∃ δ', loopD set b ds δ = some (.ok .nx, δ') ∧ I ds.length δ' := by
  induction ds generalizing δ I with
  | nil => exact ⟨δ, rfl, h0⟩
  | cons d ds ih =>
    obtain ⟨δ1, δ2, e1, e2, h1⟩ := step 0 d rfl δ h0
    obtain ⟨δ', e3, h2⟩ := ih (δ := δ2) (fun j => I (j + 1)) h1 fun j d' q δ hi => step (j + 1) d' q δ hi
    exact ⟨δ', by unfold loopD; rw [e1]; show (match b δ1 with | some (.ok .nx, δ2) => loopD set b ds δ2 | some (.ok .ct, δ2) => loopD set b ds δ2 | some (.ok .bk, δ2) => some (.ok .nx, δ2) | r => r) = _; rw [e2]; exact e3, h2⟩
/-- .. of a comprehension without tests: the j-th element is made in a state with I j -/
theorem comp_inv {is : List Nat} {set : Tg} {el : M PyData} {ds : List PyData} {acc : List PyData} {δ : Sg} (I : Nat → List PyData → Sg → Prop) (h0 : I 0 acc δ) (hl : acc.length + ds.length ≤ 1000000)
    (step : ∀ (j : Nat) (d : PyData), ds[j]? = some d → ∀ acc δ, I j acc δ → ∃ δ1 y δ3, set d δ = some δ1 ∧ el δ1 = some (.ok y, δ3) ∧ noOw δ3 is = true ∧ I (j + 1) (acc ++ [y]) (wipeD δ3 is)) :
    ∃ acc' δ', compD is set (PD.ret true) el ds acc δ = some (acc', δ') ∧ I ds.length acc' δ' := by
  induction ds generalizing δ acc I with
  | nil => exact ⟨acc, δ, rfl, h0⟩
  | cons d ds ih =>
    obtain ⟨δ1, y, δ3, e1, e2, n, h1⟩ := step 0 d rfl acc δ h0
    have hl' : (acc ++ [y]).length + ds.length ≤ 1000000 := by simp at hl ⊢; omega
    obtain ⟨acc', δ', e3, h2⟩ := ih (δ := wipeD δ3 is) (acc := acc ++ [y]) (fun j => I (j + 1)) h1 hl' fun j d' q a δ hi => step (j + 1) d' q a δ hi
    refine ⟨acc', δ', ?_, h2⟩
    have hs : acc.length < sizeLine := by rw [sizeLine_eq]; simp at hl; omega
    unfold compD
    simp only [e1, e2, PD.ret, hs, n, and_self, if_true, e3]
/-- .. whose elements leave the state as it was -/
theorem comp_map {is : List Nat} {set : Tg} {el : M PyData} {ds : List PyData} {acc : List PyData} {δ : Sg} (f : PyData → PyData) (hl : acc.length + ds.length ≤ 1000000)
    (step : ∀ d, d ∈ ds → ∃ δ1 δ3, set d δ = some δ1 ∧ el δ1 = some (.ok (f d), δ3) ∧ noOw δ3 is = true ∧ wipeD δ3 is = δ) :
    compD is set (PD.ret true) el ds acc δ = some (acc ++ ds.map f, δ) := by
  induction ds generalizing acc with
  | nil => simp [compD]
  | cons d ds ih =>
    obtain ⟨δ1, δ3, e1, e2, n, h1⟩ := step d (List.mem_cons_self ..)
    have hs : acc.length < sizeLine := by rw [sizeLine_eq]; simp at hl; omega
    unfold compD
    simp only [e1, e2, PD.ret, hs, n, and_self, if_true, h1]
    have q := ih (acc := acc ++ [f d]) (by simp at hl ⊢; omega) fun d' h => step d' (List.mem_cons_of_mem _ h)
    unfold PD.ret at q
    rw [q]
    simp
theorem pairL_ints : ∀ l m : List Int, pairL (l.map .int) (m.map .int) = List.zipWith (fun x y => PyData.tuple [.int x, .int y]) l m
  | [], _ => by simp [pairL]
  | _ :: _, [] => by simp [pairL]
  | x :: l, y :: m => by simp [pairL, pairL_ints l m]
theorem xComp_eq {it : M (List PyData)} {is : List Nat} {set : Tg} {t : M Bool} {el : M PyData} {δ δ1 δ' : Sg} {ds acc : List PyData} (h : it δ = some (.ok ds, δ1)) (n : noOw δ1 is = true) (hc : compD is set t el ds [] (wipeD δ1 is) = some (acc, δ')) :
    xComp it is set t el δ = some (.ok acc, backD δ1 δ' is) := by
  unfold xComp bnd
  rw [h]
  simp only [n, if_true, hc]
theorem bnd_eq {α β : Type} {f : M α} {g : α → M β} {δ δ1 : Sg} {a : α} (h : f δ = some (.ok a, δ1)) : bnd f g δ = g a δ1 := by
  unfold bnd
  rw [h]
theorem sSeq_eq {f g : MS} {δ δ1 : Sg} (h : f δ = some (.ok .nx, δ1)) : sSeq f g δ = g δ1 := by
  unfold sSeq
  rw [h]
end PD
end

section
set_option Elab.async false
set_option linter.all false
set_option maxRecDepth 100000
namespace PD
open PySem
/-! ### what holds behind a run of a plain function: rules by the head of the term -/
def Gd {α : Type} (f : M α) (δ : Sg) (Q : α → Sg → Prop) : Prop := ∃ a δ', f δ = some (.ok a, δ') ∧ Q a δ'
inductive At : Sg → Nat → Cell → Prop
  | z {c : Cell} {δ : Sg} : At (c :: δ) 0 c
  | s {c d : Cell} {δ : Sg} {i : Nat} : At δ i c → At (d :: δ) (i + 1) c
inductive Put : Sg → Nat → Cell → Sg → Prop
  | z {c d : Cell} {δ : Sg} : Put (d :: δ) 0 c (c :: δ)
  | s {c d : Cell} {δ δ' : Sg} {i : Nat} : Put δ i c δ' → Put (d :: δ) (i + 1) c (d :: δ')
theorem At.get {δ : Sg} {i : Nat} {c : Cell} (h : At δ i c) : δ[i]? = some c := by
  induction h with
  | z => rfl
  | s _ ih => simpa using ih
theorem Put.set {δ δ' : Sg} {i : Nat} {c : Cell} (h : Put δ i c δ') : δ.set i c = δ' := by
  induction h with
  | z => rfl
  | s _ ih => simp [ih]
variable {α β : Type} {δ δ' δ1 : Sg} {i : Nat} {d : PyData} {ds os : List PyData}
theorem Gd.imp {f : M α} {Q R : α → Sg → Prop} (h : Gd f δ Q) (q : ∀ a δ', Q a δ' → R a δ') : Gd f δ R :=
  let ⟨a, δ', e, h⟩ := h
  ⟨a, δ', e, q a δ' h⟩
theorem w_eq {f : M α} {Q : α → Sg → Prop} {a : α} (e : f δ = some (.ok a, δ')) (h : Q a δ') : Gd f δ Q := ⟨a, δ', e, h⟩
theorem Gd.eq {f : M α} {a : α} (h : Gd f δ fun x y => x = a ∧ y = δ') : f δ = some (.ok a, δ') := by
  obtain ⟨x, y, e, rfl, rfl⟩ := h
  exact e
theorem w_ret {a : α} {Q : α → Sg → Prop} (h : Q a δ) : Gd (ret a) δ Q := ⟨a, δ, rfl, h⟩
theorem w_bnd {f : M α} {g : α → M β} {Q : β → Sg → Prop} (h : Gd f δ fun a δ1 => Gd (g a) δ1 Q) : Gd (bnd f g) δ Q := by
  obtain ⟨a, δ1, e, b, δ2, e2, h⟩ := h
  exact ⟨b, δ2, by rw [bnd_eq e, e2], h⟩
theorem w_lif {o : Option α} {a : α} {Q : α → Sg → Prop} (e : o = some a) (h : Q a δ) : Gd (lif o) δ Q := ⟨a, δ, by rw [e]; rfl, h⟩
theorem w_var {Q : PyData → Sg → Prop} (a : At δ i (.fz d)) (h : Q d δ) : Gd (xVar i) δ Q := ⟨d, δ, by unfold xVar; rw [a.get], h⟩
theorem w_varO {Q : PyData → Sg → Prop} (a : At δ i (.ow false ds)) (p : Put δ i (.fz (.list ds)) δ') (h : Q (.list ds) δ') : Gd (xVar i) δ Q := ⟨.list ds, δ', by unfold xVar; rw [a.get]; dsimp only; rw [p.set], h⟩
theorem w_bin {F : PyData → PyData → Option PyData} {f g : M PyData} {Q : PyData → Sg → Prop} (h : Gd f δ fun a δ1 => Gd g δ1 fun b δ2 => Gd (lif (F a b)) δ2 Q) : Gd (xBin F f g) δ Q := w_bnd (h.imp fun _ _ h => w_bnd h)
theorem w_un {F : PyData → Option PyData} {f : M PyData} {Q : PyData → Sg → Prop} (h : Gd f δ fun a δ1 => Gd (lif (F a)) δ1 Q) : Gd (xUn F f) δ Q := w_bnd h
theorem w_binF {F : PyData → PyData → Option (List PyData)} {f g : M PyData} {Q : List PyData → Sg → Prop} (h : Gd f δ fun a δ1 => Gd g δ1 fun b δ2 => Gd (lif (F a b)) δ2 Q) : Gd (xBinF F f g) δ Q := w_bnd (h.imp fun _ _ h => w_bnd h)
theorem w_tup {fs : M (List PyData)} {Q : PyData → Sg → Prop} (h : Gd fs δ fun ds δ1 => ds.length ≤ 1000000 ∧ Q (.tuple ds) δ1) : Gd (xTup fs) δ Q :=
  w_bnd (h.imp fun ds _ h => w_lif (if_pos (Nat.le_trans h.1 (by rw [sizeLine_eq]; decide))) h.2)
theorem w_lst {fs : M (List PyData)} {Q : List PyData → Sg → Prop} (h : Gd fs δ fun ds δ1 => ds.length ≤ 1000000 ∧ Q ds δ1) : Gd (xLst fs) δ Q :=
  w_bnd (h.imp fun ds _ h => w_lif (if_pos (Nat.le_trans h.1 (by rw [sizeLine_eq]; decide))) h.2)
theorem w_call {F : List PyData → Option PyData} {fs : M (List PyData)} {Q : PyData → Sg → Prop} (h : Gd fs δ fun ds δ1 => Gd (lif (F ds)) δ1 Q) : Gd (xCall F fs) δ Q := w_bnd h
theorem w_callF {F : List PyData → Option (List PyData)} {fs : M (List PyData)} {Q : List PyData → Sg → Prop} (h : Gd fs δ fun ds δ1 => Gd (lif (F ds)) δ1 Q) : Gd (xCallF F fs) δ Q := w_bnd h
theorem w_callF' {F : List PyData → Option (List PyData)} {fs : M (List PyData)} {Q : List PyData → Sg → Prop} (h : Gd fs δ fun ds δ1 => Gd (lif (F ds)) δ1 Q) : Gd (xCallF' F fs) δ Q := w_bnd h
theorem w_seqv {f : M PyData} {Q : List PyData → Sg → Prop} (h : Gd f δ fun d δ1 => Gd (lif (seqD d)) δ1 Q) : Gd (xSeq f) δ Q := w_bnd h
theorem w_tru {f : M PyData} {Q : Bool → Sg → Prop} (h : Gd f δ fun d δ1 => Gd (lif (truthD d)) δ1 Q) : Gd (xTru f) δ Q := w_bnd h
theorem w_bool {f : M PyData} {Q : Bool → Sg → Prop} (h : Gd f δ fun d δ1 => Gd (lif (boolD d)) δ1 Q) : Gd (xBool f) δ Q := w_bnd h
theorem w_cond {b : Bool} {f g : M α} {Q : α → Sg → Prop} (h : Gd (cond b f g) δ Q) : Gd (if b = true then f else g) δ Q := by cases b <;> exact h
theorem w_andT {f g : M Bool} {Q : Bool → Sg → Prop} (h : Gd f δ fun b δ1 => Gd (cond b g (ret false)) δ1 Q) : Gd (xAndT f g) δ Q := w_bnd (h.imp fun _ _ h => w_cond h)
theorem w_orT {f g : M Bool} {Q : Bool → Sg → Prop} (h : Gd f δ fun b δ1 => Gd (cond b (ret true) g) δ1 Q) : Gd (xOrT f g) δ Q := w_bnd (h.imp fun _ _ h => w_cond h)
theorem w_notT {f : M Bool} {Q : Bool → Sg → Prop} (h : Gd f δ fun b δ1 => Q (!b) δ1) : Gd (xNotT f) δ Q := w_bnd (h.imp fun _ _ h => w_ret h)
/-- `and` by what the left side is -/
theorem w_and {f g : M PyData} {Q : PyData → Sg → Prop} (h : Gd f δ fun d δ1 => ∃ b, d = .bool b ∧ Gd (cond b g (ret (.bool false))) δ1 Q) : Gd (xAnd f g) δ Q :=
  w_bnd (h.imp fun d _ h => by
    obtain ⟨b, rfl, h⟩ := h
    cases b
    · exact h
    · exact h)
theorem w_or {f g : M PyData} {Q : PyData → Sg → Prop} (h : Gd f δ fun d δ1 => ∃ b, d = .bool b ∧ Gd (cond b (ret (.bool true)) g) δ1 Q) : Gd (xOr f g) δ Q :=
  w_bnd (h.imp fun d _ h => by
    obtain ⟨b, rfl, h⟩ := h
    cases b
    · exact h
    · exact h)
theorem w_not {f : M PyData} {Q : PyData → Sg → Prop} (h : Gd f δ fun d δ1 => ∃ b, d = .bool b ∧ Q (.bool (!b)) δ1) : Gd (xNot f) δ Q :=
  w_bnd (h.imp fun d _ h => by
    obtain ⟨b, rfl, h⟩ := h
    exact w_ret h)
theorem w_if {c : M Bool} {f g : M α} {Q : α → Sg → Prop} (h : Gd c δ fun b δ1 => Gd (cond b f g) δ1 Q) : Gd (xIf c f g) δ Q := w_bnd (h.imp fun _ _ h => w_cond h)
theorem w_it {f g : M α} {Q : α → Sg → Prop} (h : Gd f δ Q) : Gd (cond true f g) δ Q := h
theorem w_ie {f g : M α} {Q : α → Sg → Prop} (h : Gd g δ Q) : Gd (cond false f g) δ Q := h
theorem w_by {b : Bool} {f g : M α} {Q : α → Sg → Prop} (h : b = true → Gd f δ Q) (k : b = false → Gd g δ Q) : Gd (cond b f g) δ Q := by
  cases b
  · exact k rfl
  · exact h rfl
theorem w_chain {F G : PyData → PyData → Option PyData} {f g h : M PyData} {Q : PyData → Sg → Prop} (q : Gd f δ fun a δ1 => Gd g δ1 fun b δ2 => ∃ z, F a b = some (.bool z) ∧ Gd (cond z (bnd h fun c => lif (G b c)) (ret (.bool false))) δ2 Q) : Gd (xChain F G f g h) δ Q :=
  w_bnd (q.imp fun a _ q => w_bnd (q.imp fun b δ2 q => by
    obtain ⟨z, e, q⟩ := q
    refine w_bnd (w_lif e ?_)
    cases z
    · exact q
    · exact q))
/-! statements -/
def Nx (h : MS) (Q : Flo → Sg → Prop) (fl : Flo) (δ : Sg) : Prop := match fl with
  | .nx => Gd h δ Q
  | fl => Q fl δ
theorem nx_nx {h : MS} {Q : Flo → Sg → Prop} (q : Gd h δ Q) : Nx h Q .nx δ := q
theorem nx_rt {h : MS} {Q : Flo → Sg → Prop} (q : Q (.rt d) δ) : Nx h Q (.rt d) δ := q
theorem nx_rf {h : MS} {Q : Flo → Sg → Prop} (q : Q (.rf ds) δ) : Nx h Q (.rf ds) δ := q
theorem nx_bk {h : MS} {Q : Flo → Sg → Prop} (q : Q .bk δ) : Nx h Q .bk δ := q
theorem nx_ct {h : MS} {Q : Flo → Sg → Prop} (q : Q .ct δ) : Nx h Q .ct δ := q
theorem w_seq {g h : MS} {Q : Flo → Sg → Prop} (q : Gd g δ (Nx h Q)) : Gd (sSeq g h) δ Q := by
  obtain ⟨fl, δ1, e, q⟩ := q
  cases fl with
  | nx =>
    obtain ⟨a, δ2, e2, q⟩ := (q : Gd h δ1 Q)
    exact ⟨a, δ2, by rw [sSeq_eq e, e2], q⟩
  | bk => exact ⟨_, _, by unfold sSeq; rw [e], q⟩
  | ct => exact ⟨_, _, by unfold sSeq; rw [e], q⟩
  | rt d => exact ⟨_, _, by unfold sSeq; rw [e], q⟩
  | rf d => exact ⟨_, _, by unfold sSeq; rw [e], q⟩
theorem w_skip {Q : Flo → Sg → Prop} (h : Q .nx δ) : Gd sSkip δ Q := w_ret h
theorem w_sret {f : M PyData} {Q : Flo → Sg → Prop} (h : Gd f δ fun d δ1 => Q (.rt d) δ1) : Gd (sRet f) δ Q := w_bnd (h.imp fun _ _ h => w_ret h)
theorem w_sretF {f : M (List PyData)} {Q : Flo → Sg → Prop} (h : Gd f δ fun d δ1 => Q (.rf d) δ1) : Gd (sRetF f) δ Q := w_bnd (h.imp fun _ _ h => w_ret h)
theorem w_sif {c : M Bool} {g h : MS} {Q : Flo → Sg → Prop} (q : Gd c δ fun b δ1 => Gd (cond b g h) δ1 Q) : Gd (sIf c g h) δ Q := w_bnd (q.imp fun _ _ h => w_cond h)
def Gs (s : Tg) (d : PyData) (δ : Sg) (Q : Sg → Prop) : Prop := ∃ δ', s d δ = some δ' ∧ Q δ'
def Gss (s : Tgs) (ds : List PyData) (δ : Sg) (Q : Sg → Prop) : Prop := ∃ δ', s ds δ = some δ' ∧ Q δ'
theorem w_name {Q : Sg → Prop} {c : Cell} (a : At δ i c) (f : c.free = true) (p : Put δ i (.fz d) δ') (h : Q δ') : Gs (sName i) d δ Q := ⟨δ', by unfold sName; rw [a.get]; dsimp only; rw [if_pos f, p.set], h⟩
theorem w_snil {Q : Sg → Prop} (h : Q δ) : Gss sNil [] δ Q := ⟨δ, rfl, h⟩
theorem w_scons {s : Tg} {r : Tgs} {Q : Sg → Prop} (h : Gs s d δ fun δ1 => Gss r ds δ1 Q) : Gss (sCons s r) (d :: ds) δ Q := by
  obtain ⟨δ1, e, δ2, e2, h⟩ := h
  exact ⟨δ2, by unfold sCons; dsimp only; rw [e]; exact e2, h⟩
theorem w_stup {n : Nat} {r : Tgs} {Q : Sg → Prop} (l : ds.length = n) (h : Gss r ds δ Q) : Gs (sTup n r) (.tuple ds) δ Q := by
  obtain ⟨δ1, e, h⟩ := h
  exact ⟨δ1, by unfold sTup; dsimp only; rw [if_pos l]; exact e, h⟩
theorem w_asg {f : M PyData} {s : Tg} {Q : Flo → Sg → Prop} (h : Gd f δ fun d δ1 => Gs s d δ1 (Q .nx)) : Gd (sAsg f s) δ Q := w_bnd (h.imp fun d δ1 h => by
  obtain ⟨δ2, e, h⟩ := h
  exact ⟨.nx, δ2, by dsimp only; rw [e], h⟩)
theorem w_own {f : M (List PyData)} {Q : Flo → Sg → Prop} (h : Gd f δ fun ds δ1 => ∃ c δ2, At δ1 i c ∧ c.free = true ∧ Put δ1 i (.ow false ds) δ2 ∧ Q .nx δ2) : Gd (sOwn f i) δ Q := w_bnd (h.imp fun ds δ1 h => by
  obtain ⟨c, δ2, a, f, p, h⟩ := h
  exact ⟨.nx, δ2, by dsimp only; rw [a.get]; dsimp only; rw [if_pos f, p.set], h⟩)
theorem w_ixO {g : M PyData} {b : Bool} {Q : PyData → Sg → Prop} (a : At δ i (.ow b ds)) (h : Gd g δ fun k δ1 => ∃ b' ds', At δ1 i (.ow b' ds') ∧ Gd (lif (ixD (.list ds') k)) δ1 Q) : Gd (xIxO i g) δ Q := by
  obtain ⟨k, δ1, e, b', ds', a', h⟩ := h
  obtain ⟨v, δ2, e2, h⟩ := h
  exact ⟨v, δ2, by unfold xIxO; rw [a.get]; try dsimp only; rw [bnd_eq e]; (try dsimp only); rw [a'.get]; exact e2, h⟩
theorem w_lenO {b : Bool} {Q : PyData → Sg → Prop} (a : At δ i (.ow b ds)) (h : Q (.int ds.length) δ) : Gd (xLenO i) δ Q := ⟨_, _, by unfold xLenO; rw [a.get], h⟩
theorem w_app {f : M PyData} {b : Bool} {Q : Flo → Sg → Prop} (a : At δ i (.ow b ds)) (h : Gd f δ fun d δ1 => ∃ b' ds' δ2, At δ1 i (.ow b' ds') ∧ ds'.length < 1000000 ∧ Put δ1 i (.ow b' (ds' ++ [d])) δ2 ∧ Q .nx δ2) : Gd (sApp i f) δ Q := by
  obtain ⟨k, δ1, e, b', ds', δ2, a', l, p, h⟩ := h
  exact ⟨.nx, δ2, by unfold sApp; rw [a.get]; dsimp only; rw [bnd_eq e]; (try dsimp only); rw [a'.get]; dsimp only; rw [if_pos (Nat.lt_of_lt_of_le l (by rw [sizeLine_eq]; decide)), p.set], h⟩
theorem w_sub {f g : M PyData} {Q : Flo → Sg → Prop} (h : Gd f δ fun d δ1 => ∃ b ds, At δ1 i (.ow b ds) ∧ Gd g δ1 fun k δ2 => ∃ b' ds' n j δ3, k = .int n ∧ At δ2 i (.ow b' ds') ∧ L2.ixN ds'.length n = some j ∧ Put δ2 i (.ow b' (ds'.set j d)) δ3 ∧ Q .nx δ3) : Gd (sSub f i g) δ Q := w_bnd (h.imp fun d δ1 h => by
  obtain ⟨b, ds, a, k, δ2, e, b', ds', n, j, δ3, rfl, a', ej, p, h⟩ := h
  exact ⟨.nx, δ3, by dsimp only; rw [a.get]; dsimp only; rw [bnd_eq e]; (try dsimp only); rw [a'.get]; dsimp only; rw [ej]; dsimp only; rw [p.set], h⟩)
theorem w_cmpO {F : PyData → PyData → Option PyData} {g : M PyData} {b : Bool} {Q : PyData → Sg → Prop} (a : At δ i (.ow b ds)) (h : Gd g δ fun k δ1 => ∃ b' ds' c, At δ1 i (.ow b' ds') ∧ F (.list ds') k = some (.bool c) ∧ Q (.bool c) δ1) : Gd (xCmpO F i g) δ Q := by
  obtain ⟨k, δ1, e, b', ds', c, a', e2, h⟩ := h
  exact ⟨_, δ1, by unfold xCmpO; rw [a.get]; dsimp only; rw [bnd_eq e]; (try dsimp only); rw [a'.get]; dsimp only; rw [e2], h⟩
/-! calls -/
theorem w_def {G : Sg → Option (Ans PyData × Sg)} {fs : M (List PyData)} {Q : PyData → Sg → Prop} (h : Gd fs δ fun ds δ1 => ∃ d o, G (ds.map .fz) = some (.ok d, o) ∧ Q d δ1) : Gd (xDef G fs) δ Q := w_bnd (h.imp fun ds δ1 h => by
  obtain ⟨d, o, e, h⟩ := h
  exact ⟨d, δ1, by dsimp only; rw [e], h⟩)
theorem w_defF {G : Sg → Option (Ans (List PyData) × Sg)} {fs : M (List PyData)} {Q : List PyData → Sg → Prop} (h : Gd fs δ fun ds δ1 => ∃ d o, G (ds.map .fz) = some (.ok d, o) ∧ Q d δ1) : Gd (xDefF G fs) δ Q := w_bnd (h.imp fun ds δ1 h => by
  obtain ⟨d, o, e, h⟩ := h
  exact ⟨d, δ1, by dsimp only; rw [e], h⟩)
theorem w_defT {G : Sg → Option (Ans PyData × Sg)} {fs : M (List PyData)} {Q : PyData → Sg → Prop} (h : Gd fs δ fun ds δ1 => ∃ d o, G [.ow true ds] = some (.ok d, o) ∧ Q d δ1) : Gd (xDefT G fs) δ Q := w_bnd (h.imp fun ds δ1 h => by
  obtain ⟨d, o, e, h⟩ := h
  exact ⟨d, δ1, by dsimp only; rw [e], h⟩)
theorem w_defO {G : Sg → Option (Ans PyData × Sg)} {fs : M (List PyData)} {b : Bool} {Q : PyData → Sg → Prop} (a : At δ i (.ow b os)) (h : Gd fs δ fun ds δ1 => ∃ b' os' b'' os'' d o δ2, At δ1 i (.ow b' os') ∧ G (.ow true os' :: ds.map .fz) = some (.ok d, .ow b'' os'' :: o) ∧ Put δ1 i (.ow b' os'') δ2 ∧ Q d δ2) : Gd (xDefO G i fs) δ Q := by
  obtain ⟨ds, δ1, e, b', os', b'', os'', d, o, δ2, a', e2, p, h⟩ := h
  exact ⟨d, δ2, by unfold xDefO; rw [a.get]; dsimp only; rw [bnd_eq e]; (try dsimp only); rw [a'.get]; dsimp only; rw [e2]; dsimp only; rw [p.set], h⟩
theorem w_def2 {G : Sg → Option (Ans PyData × Sg)} {j : Nat} {b c b1 b2 : Bool} {os us os' us' : List PyData} {δ1 δ2 : Sg} {Q : PyData → Sg → Prop} (a : At δ i (.ow b os)) (a2 : At δ j (.ow c us)) (n : i ≠ j)
    (e : G [.ow true os, .ow true us] = some (.ok d, [.ow b1 os', .ow b2 us'])) (p : Put δ i (.ow b os') δ1) (p2 : Put δ1 j (.ow c us') δ2) (h : Q d δ2) : Gd (xDef2 G i j) δ Q :=
  ⟨d, δ2, by unfold xDef2; rw [a.get, a2.get]; dsimp only; rw [if_pos n, e]; dsimp only; rw [p.set, p2.set], h⟩
theorem w_orF {f g : M (List PyData)} {Q : List PyData → Sg → Prop} (h : Gd f δ fun ds δ1 => Gd (cond ds.isEmpty g (ret ds)) δ1 Q) : Gd (xOrF f g) δ Q := w_bnd (h.imp fun _ _ h => w_cond h)
theorem w_part {f : M PyData} {Q : Option Int → Sg → Prop} (h : Gd f δ fun d δ1 => ∃ n, d = .int n ∧ Q (some n) δ1) : Gd (xPart f) δ Q := w_bnd (h.imp fun d δ1 h => by
  obtain ⟨n, rfl, h⟩ := h
  exact w_lif rfl h)
theorem w_sl {f : M PyData} {lo hi : M (Option Int)} {Q : PyData → Sg → Prop} (h : Gd f δ fun d δ1 => Gd lo δ1 fun l δ2 => Gd hi δ2 fun u δ3 => Gd (lif (sliceD d l u)) δ3 Q) : Gd (xSl f lo hi) δ Q := w_bnd (h.imp fun _ _ h => w_bnd (h.imp fun _ _ h => w_bnd h))
theorem w_repF {fs : M (List PyData)} {g : M PyData} {Q : List PyData → Sg → Prop} (h : Gd fs δ fun ds δ1 => Gd g δ1 fun b δ2 => ∃ n : Nat, b = .int n ∧ ds.length * n ≤ 1000000 ∧ n ≤ 1000000 ∧ Q (List.replicate n ds).flatten δ2) : Gd (xRepF fs g) δ Q := w_bnd (h.imp fun ds _ h => w_bnd (h.imp fun b _ h => by
  obtain ⟨n, rfl, l, l2, h⟩ := h
  refine w_lif ?_ h
  dsimp only
  rw [if_pos ⟨by omega, by omega, Nat.le_trans (by simpa using l) (by rw [sizeLine_eq]; decide)⟩]
  simp))
/-! loops and comprehensions -/
theorem w_loop {set : Tg} {b : MS} {Q : Flo → Sg → Prop} (I : Nat → Sg → Prop) (h0 : I 0 δ)
    (step : ∀ (j : Nat) (d : PyData), ds[j]? = some d → ∀ δ, I j δ → Gs set d δ fun δ1 => Gd b δ1 fun fl δ2 => fl = .nx ∧ I (j + 1) δ2) (h : ∀ δ', I ds.length δ' → Q .nx δ') : Gd (loopD set b ds) δ Q := by
  obtain ⟨δ', e, q⟩ := loop_inv (set := set) (b := b) I h0 fun j d e δ hi => by
    obtain ⟨δ1, e1, fl, δ2, e2, rfl, h⟩ := step j d e δ hi
    exact ⟨δ1, δ2, e1, e2, h⟩
  exact ⟨.nx, δ', e, h δ' q⟩
theorem w_for {it : M (List PyData)} {set : Tg} {b : MS} {Q : Flo → Sg → Prop} (h : Gd it δ fun ds δ1 => Gd (loopD set b ds) δ1 Q) : Gd (sFor it set b) δ Q := w_bnd h
/-- the names of a comprehension: wiped and given back -/
theorem w_comp {it : M (List PyData)} {is : List Nat} {set : Tg} {t : M Bool} {el : M PyData} {Q : List PyData → Sg → Prop}
    (h : Gd it δ fun ds δ1 => noOw δ1 is = true ∧ ∃ acc δ2, compD is set t el ds [] (wipeD δ1 is) = some (acc, δ2) ∧ Q acc (backD δ1 δ2 is)) : Gd (xComp it is set t el) δ Q := by
  obtain ⟨ds, δ1, e, n, acc, δ2, e2, h⟩ := h
  exact ⟨acc, _, xComp_eq e n e2, h⟩
/-- a comprehension whose elements are made by a plain function and leave the state -/
theorem comp_fun {is : List Nat} {set : Tg} {el : M PyData} (f : PyData → PyData) (hl : ds.length ≤ 1000000)
    (step : ∀ d, d ∈ ds → Gs set d δ fun δ1 => Gd el δ1 fun y δ3 => y = f d ∧ noOw δ3 is = true ∧ wipeD δ3 is = δ) : compD is set (ret true) el ds [] δ = some (ds.map f, δ) := by
  have q := comp_map (is := is) (set := set) (el := el) (ds := ds) (acc := []) (δ := δ) f (by simpa using hl) fun d hd => by
    obtain ⟨δ1, e1, y, δ3, e2, rfl, n, w⟩ := step d hd
    exact ⟨δ1, δ3, e1, e2, n, w⟩
  simpa using q
theorem w_runD {m : Nat} {g : MS} {cells out : Sg} (h : Gd g (cells ++ List.replicate (m - cells.length) .un) fun fl δ' => fl = .rt d ∧ keepO cells δ' = some out) : runD m g cells = some (.ok d, out) := by
  obtain ⟨fl, δ', e, rfl, k⟩ := h
  unfold runD
  rw [e]
  dsimp only
  rw [k]
  rfl
theorem w_runDF {m : Nat} {g : MS} {cells out : Sg} (h : Gd g (cells ++ List.replicate (m - cells.length) .un) fun fl δ' => fl = .rf ds ∧ keepO cells δ' = some out) : runD m g cells = some (.ok (.list ds), out) := by
  obtain ⟨fl, δ', e, rfl, k⟩ := h
  unfold runD
  rw [e]
  dsimp only
  rw [k]
  rfl
theorem w_runF {m : Nat} {g : MS} {cells out : Sg} (h : Gd g (cells ++ List.replicate (m - cells.length) .un) fun fl δ' => fl = .rf ds ∧ keepO cells δ' = some out) : runF m g cells = some (.ok ds, out) := by
  obtain ⟨fl, δ', e, rfl, k⟩ := h
  unfold runF
  rw [e]
  dsimp only
  rw [k]
  rfl
/-! operations at numbers -/
theorem o_add (x y : Int) : addD (.int x) (.int y) = some (.int (x + y)) := rfl
theorem o_sub (x y : Int) : subD (.int x) (.int y) = some (.int (x - y)) := rfl
theorem o_mul {x y : Int} (h : mulOk x y = true) : mulD (.int x) (.int y) = some (.int (x * y)) := by unfold mulD mulI intsD; dsimp only; rw [if_pos h]
theorem o_mod {x y : Int} (h : y ≠ 0) : modD (.int x) (.int y) = some (.int (x.fmod y)) := by unfold modD intsD; dsimp only; rw [if_pos (by simpa using h)]
theorem o_div {x y : Int} (h : divOk y = true) : fdivD (.int x) (.int y) = some (.int (x.fdiv y)) := by unfold fdivD intsD; dsimp only; rw [if_pos h]
theorem o_lt (x y : Int) : ltD (.int x) (.int y) = some (.bool (decide (x < y))) := rfl
theorem o_le (x y : Int) : leD (.int x) (.int y) = some (.bool (decide (x ≤ y))) := rfl
theorem o_gt (x y : Int) : gtD (.int x) (.int y) = some (.bool (decide (y < x))) := rfl
theorem o_ge (x y : Int) : geD (.int x) (.int y) = some (.bool (decide (y ≤ x))) := rfl
theorem o_eqI (x y : Int) : eqD (.int x) (.int y) = some (.bool (decide (x = y))) := by simp [eqD, SeqAt.shaped, PyData.eqv, PyData.canLay0, PyData.depth]; rfl
theorem o_zip {a b : PyData} {xs ys : List PyData} (h : seqD a = some xs) (h2 : seqD b = some ys) : zipD [a, b] = some (pairL xs ys) := by unfold zipD; dsimp only; rw [h, h2]
theorem o_bools (bs : List Bool) : bools? (bs.map .bool) = some bs := by
  induction bs with
  | nil => rfl
  | cons b bs ih => simp [bools?, ih]
theorem o_all (bs : List Bool) : allD [.list (bs.map .bool)] = some (.bool (bs.all id)) := by unfold allD; dsimp only; rw [o_bools]; rfl
theorem o_tup0 (n : Nat) (h : n ≤ 1000) : mulD (.tuple [.int 0]) (.int (n : Int)) = some (.tuple ((List.replicate n (0 : Int)).map .int)) := by
  simp [mulD, mulI, intsD, repT]
  omega
theorem noOw_nil : noOw δ [] = true := rfl
theorem free_un : Cell.free .un = true := rfl
theorem free_fz {d : PyData} : Cell.free (.fz d) = true := rfl
theorem free_ow {ds : List PyData} : Cell.free (.ow false ds) = true := rfl
theorem len1 {a : PyData} : [a].length = 1 := rfl
theorem len2 {a b : PyData} : [a, b].length = 2 := rfl
theorem len3 {a b c : PyData} : [a, b, c].length = 3 := rfl
theorem len_and {ds : List PyData} {R : Prop} (l : ds.length ≤ 1000000) (h : R) : ds.length ≤ 1000000 ∧ R := ⟨l, h⟩
end PD
end

local macro_rules | `(tactic| walk_at "wp") => `(tactic| (repeat' (with_reducible first | apply PD.w_bnd | apply PD.w_ret | (apply PD.w_var; (focus ((repeat (first | exact PD.At.z | apply PD.At.s)); done))) | apply PD.w_bin | apply PD.w_un | apply PD.w_binF | apply PD.w_tup | apply PD.w_lst | apply PD.w_call | apply PD.w_callF' | apply PD.w_callF | apply PD.w_seqv | apply PD.w_tru | apply PD.w_bool | apply PD.w_andT | apply PD.w_orT | apply PD.w_notT | apply PD.w_and | apply PD.w_or | apply PD.w_not | apply PD.w_if | apply PD.w_it | apply PD.w_ie | apply PD.w_chain | apply PD.w_seq | apply PD.nx_nx | apply PD.nx_rt | apply PD.nx_rf | apply PD.w_skip | apply PD.w_sret | apply PD.w_sretF | apply PD.w_sif | apply PD.w_asg | apply PD.w_for | apply PD.w_own | (apply PD.w_name; (focus ((repeat (first | exact PD.At.z | apply PD.At.s)); done)); (first | exact PD.free_fz | exact PD.free_un | exact PD.free_ow | assumption); (focus ((repeat (first | exact PD.Put.z | apply PD.Put.s)); done))) | apply PD.w_snil | apply PD.w_scons | (apply PD.w_stup; first | exact PD.len2 | exact PD.len3 | exact PD.len1) | apply PD.w_def | apply PD.w_defF | apply PD.w_defT | apply PD.w_orF | apply PD.w_part | apply PD.w_sl | apply PD.w_repF | apply PD.w_comp | (apply PD.len_and; (focus (simp only [List.length_cons, List.length_nil, Nat.zero_add, Nat.reduceAdd, Nat.reduceLeDiff]; done))))))
local macro_rules | `(tactic| walk_at "w_run") => `(tactic| ((first | refine PD.w_runD ?_ | refine PD.w_runF ?_) <;> simp only [List.length_cons, List.length_nil, List.replicate, List.cons_append, List.nil_append, Nat.reduceAdd, Nat.reduceSub, List.map_cons, List.map_nil]))
local macro_rules | `(tactic| walk_at "w_at") => `(tactic| (focus ((repeat (first | exact PD.At.z | apply PD.At.s)); done)))
local macro_rules | `(tactic| walk_at "w_put") => `(tactic| (focus ((repeat (first | exact PD.Put.z | apply PD.Put.s)); done)))

section
set_option linter.all false
set_option maxRecDepth 100000
namespace K02
open PySem PD

def B_is_number : MS :=
  (sRet (xAnd (xUn (isiD ["int"]) (xVar 0)) (xNot (xUn (isiD ["bool"]) (xVar 0)))))
def g_is_number : Sg → Option (Ans PyData × Sg) := runD 1 B_is_number
def B_is_below : MS :=
  (sRet (xAnd (xDef g_is_number (bnd (xVar 0) fun d => bnd (ret []) fun ds => ret (d :: ds))) (xChain leD ltD (ret (.int 0)) (xVar 0) (xVar 1))))
def g_is_below : Sg → Option (Ans PyData × Sg) := runD 2 B_is_below
def B_is_tuple_of : MS :=
  (sRet (xAnd (xUn (isiD ["tuple"]) (xVar 0)) (xBin eqD (xCall lenD (bnd (xVar 0) fun d => bnd (ret []) fun ds => ret (d :: ds))) (xVar 1))))
def g_is_tuple_of : Sg → Option (Ans PyData × Sg) := runD 2 B_is_tuple_of
def B_is_row : MS :=
  (sRet (xAnd (xDef g_is_tuple_of (bnd (xVar 0) fun d => bnd (bnd (xVar 2) fun d => bnd (ret []) fun ds => ret (d :: ds)) fun ds => ret (d :: ds))) (xCall allD (bnd (bnd (xComp (xSeq (xVar 0)) [3] (sName 3) (ret true) (xDef g_is_below (bnd (xVar 3) fun d => bnd (bnd (xVar 1) fun d => bnd (ret []) fun ds => ret (d :: ds)) fun ds => ret (d :: ds)))) fun ds => ret (.list ds)) fun d => bnd (ret []) fun ds => ret (d :: ds)))))
def g_is_row : Sg → Option (Ans PyData × Sg) := runD 4 B_is_row
def B_inverse : MS :=
  (sSeq (sFor (xCallF' range1D (bnd (xVar 0) fun d => bnd (ret []) fun ds => ret (d :: ds))) (sName 2) (sIf (xBool (xBin eqD (xBin modD (xBin mulD (xVar 2) (xVar 1)) (xVar 0)) (ret (.int 1)))) (sRet (xVar 2)) sSkip))
  (sRaise "Unfit"))
def g_inverse : Sg → Option (Ans PyData × Sg) := runD 3 B_inverse
def B_row_by : MS :=
  (sSeq (sAsg (bnd (xRepF (xLst (bnd (ret (.int 0)) fun d => bnd (ret []) fun ds => ret (d :: ds))) (xVar 3)) fun ds => ret (.list ds)) (sName 4))
  (sSeq (sFor (xCallF' zipD (bnd (xVar 1) fun d => bnd (bnd (xVar 2) fun d => bnd (ret []) fun ds => ret (d :: ds)) fun ds => ret (d :: ds))) (sTup 2 (sCons (sName 5) (sCons (sName 6) sNil))) (sIf (xTru (xVar 6)) (sAsg (bnd (xComp (xCallF' zipD (bnd (xVar 4) fun d => bnd (bnd (xVar 5) fun d => bnd (ret []) fun ds => ret (d :: ds)) fun ds => ret (d :: ds))) [7, 8] (sTup 2 (sCons (sName 7) (sCons (sName 8) sNil))) (ret true) (xBin modD (xBin addD (xVar 7) (xBin mulD (xVar 6) (xVar 8))) (xVar 0))) fun ds => ret (.list ds)) (sName 4)) sSkip))
  (sRet (xCall tupleD (bnd (xVar 4) fun d => bnd (ret []) fun ds => ret (d :: ds))))))
def g_row_by : Sg → Option (Ans PyData × Sg) := runD 9 B_row_by
def B_product : MS :=
  (sRet (xBin modD (xCall sumD (bnd (bnd (xComp (xCallF' zipD (bnd (xVar 1) fun d => bnd (bnd (xVar 2) fun d => bnd (ret []) fun ds => ret (d :: ds)) fun ds => ret (d :: ds))) [3, 4] (sTup 2 (sCons (sName 3) (sCons (sName 4) sNil))) (ret true) (xBin mulD (xVar 3) (xVar 4))) fun ds => ret (.list ds)) fun d => bnd (ret []) fun ds => ret (d :: ds))) (xVar 0)))
def g_product : Sg → Option (Ans PyData × Sg) := runD 5 B_product
def B__law_box : MS :=
  (sSeq (sAsg (xIf (xBool (xBin ltD (xVar 1) (xCall lenD (bnd (xVar 0) fun d => bnd (ret []) fun ds => ret (d :: ds))))) (xBin ixD (xVar 0) (xVar 1)) (ret (.int 0))) (sName 2))
  (sRetF (xLst (bnd (xBin mulD (xCall absD (bnd (xVar 2) fun d => bnd (ret []) fun ds => ret (d :: ds))) (xCall intD (bnd (xBin geD (xCall absD (bnd (xVar 2) fun d => bnd (ret []) fun ds => ret (d :: ds))) (xBin powD (ret (.int 10)) (ret (.int 18)))) fun d => bnd (ret []) fun ds => ret (d :: ds)))) fun d => bnd (bnd (xBin addD (xBin addD (xBin modD (xCall intD (bnd (xVar 2) fun d => bnd (ret []) fun ds => ret (d :: ds))) (ret (.int 2305843009213693951))) (xBin mulD (ret (.int 39373)) (xVar 1))) (ret (.int 3155002))) fun d => bnd (bnd (ret (.int 0)) fun d => bnd (ret []) fun ds => ret (d :: ds)) fun ds => ret (d :: ds)) fun ds => ret (d :: ds)))))
def g__law_box : Sg → Option (Ans (List PyData) × Sg) := runF 3 B__law_box
def B__law_take : MS :=
  (sSeq (sIf (xBool (xBin gtD (xIxO 0 (ret (.int 0))) (ret (.int 0)))) (sSeq (sAsg (xBin modD (xCall intD (bnd (xIxO 0 (ret (.int 0))) fun d => bnd (ret []) fun ds => ret (d :: ds))) (xVar 1)) (sName 2))
  (sSeq (sSub (xBin fdivD (xIxO 0 (ret (.int 0))) (xVar 1)) 0 (ret (.int 0)))
  (sRet (xVar 2)))) sSkip)
  (sSeq (sSub (xBin addD (xIxO 0 (ret (.int 2))) (ret (.int 1))) 0 (ret (.int 2)))
  (sSeq (sAsg (xBin modD (xCall intD (bnd (xBin mulD (xBin addD (xIxO 0 (ret (.int 1))) (xBin mulD (ret (.int 48271)) (xIxO 0 (ret (.int 2))))) (xBin addD (ret (.int 39373)) (xIxO 0 (ret (.int 2))))) fun d => bnd (ret []) fun ds => ret (d :: ds))) (ret (.int 2147483647))) (sName 3))
  (sSeq (sAsg (xBin addD (xBin modD (xCall intD (bnd (xVar 3) fun d => bnd (ret []) fun ds => ret (d :: ds))) (ret (.int 40009))) (ret (.int 7))) (sName 4))
  (sSeq (sAsg (xBin modD (xCall intD (bnd (xBin mulD (xBin addD (xBin addD (xVar 3) (xIxO 0 (ret (.int 2)))) (xBin fdivD (xIxO 0 (ret (.int 1))) (ret (.int 1000003)))) (xVar 4)) fun d => bnd (ret []) fun ds => ret (d :: ds))) (ret (.int 2147483629))) (sName 5))
  (sRet (xBin modD (xCall intD (bnd (xBin fdivD (xBin modD (xCall intD (bnd (xBin addD (xBin mulD (xVar 5) (ret (.int 48271))) (xVar 3)) fun d => bnd (ret []) fun ds => ret (d :: ds))) (ret (.int 2147483587))) (ret (.int 64))) fun d => bnd (ret []) fun ds => ret (d :: ds))) (xVar 1))))))))
def g__law_take : Sg → Option (Ans PyData × Sg) := runD 6 B__law_take
def B__law_cells : MS :=
  (sSeq (sOwn (xOrF (xCallF listD (bnd (xSl (xVar 0) (ret none) (xPart (xVar 1))) fun d => bnd (ret []) fun ds => ret (d :: ds))) (xLst (bnd (ret (.int 0)) fun d => bnd (ret []) fun ds => ret (d :: ds)))) 2)
  (sSeq (sFor (xCallF' enumD (bnd (xSl (xVar 0) (xPart (xVar 1)) (xPart (ret (.int 63)))) fun d => bnd (ret []) fun ds => ret (d :: ds))) (sTup 2 (sCons (sName 3) (sCons (sName 4) sNil))) (sSeq (sAsg (xBin modD (xCall intD (bnd (xVar 3) fun d => bnd (ret []) fun ds => ret (d :: ds))) (xVar 1)) (sName 5))
  (sSub (xBin addD (xIxO 2 (xVar 5)) (xBin mulD (xVar 4) (xBin addD (xVar 3) (ret (.int 2))))) 2 (xVar 5))))
  (sRet (xVar 2))))
def g__law_cells : Sg → Option (Ans PyData × Sg) := runD 6 B__law_cells
def B__law_of : MS :=
  (sRet (xBin ixD (xVar 1) (xDefO g__law_take 0 (bnd (xCall lenD (bnd (xVar 1) fun d => bnd (ret []) fun ds => ret (d :: ds))) fun d => bnd (ret []) fun ds => ret (d :: ds)))))
def g__law_of : Sg → Option (Ans PyData × Sg) := runD 2 B__law_of
def B__law_of2 : MS :=
  (sRet (xIxO 1 (xDefO g__law_take 0 (bnd (xLenO 1) fun d => bnd (ret []) fun ds => ret (d :: ds)))))
def g__law_of2 : Sg → Option (Ans PyData × Sg) := runD 2 B__law_of2
def B__law_lists (G : Sg → Option (Ans PyData × Sg)) : MS :=
  (sRet (xIf (xTru (xUn (isiD ["list", "tuple"]) (xVar 0))) (bnd (xComp (xSeq (xVar 0)) [1] (sName 1) (ret true) (xDef G (bnd (xVar 1) fun d => bnd (ret []) fun ds => ret (d :: ds)))) fun ds => ret (.list ds)) (xVar 0)))
def gr__law_lists : Nat → Sg → Option (Ans PyData × Sg)
  | 0 => fun _ => none
  | n + 1 => runD 2 (B__law_lists (gr__law_lists n))
def g__law_lists : Sg → Option (Ans PyData × Sg) := gr__law_lists 8
def B__law_same (G : Sg → Option (Ans PyData × Sg)) : MS :=
  (sSeq (sIf (xTru (xUn (isiD ["list", "tuple"]) (xVar 1))) (sSeq (sIf (xOrT (xBool (xBin neD (xUn (isiD ["list"]) (xVar 0)) (xUn (isiD ["list"]) (xVar 1)))) (xBool (xBin neD (xUn (isiD ["tuple"]) (xVar 0)) (xUn (isiD ["tuple"]) (xVar 1))))) (sRet (ret (.bool false))) sSkip)
  (sRet (xAnd (xBin eqD (xCall lenD (bnd (xVar 0) fun d => bnd (ret []) fun ds => ret (d :: ds))) (xCall lenD (bnd (xVar 1) fun d => bnd (ret []) fun ds => ret (d :: ds)))) (xCall allD (bnd (bnd (xComp (xCallF' zipD (bnd (xVar 0) fun d => bnd (bnd (xVar 1) fun d => bnd (ret []) fun ds => ret (d :: ds)) fun ds => ret (d :: ds))) [2, 3] (sTup 2 (sCons (sName 2) (sCons (sName 3) sNil))) (ret true) (xDef G (bnd (xVar 2) fun d => bnd (bnd (xVar 3) fun d => bnd (ret []) fun ds => ret (d :: ds)) fun ds => ret (d :: ds)))) fun ds => ret (.list ds)) fun d => bnd (ret []) fun ds => ret (d :: ds)))))) sSkip)
  (sSeq (sIf (xOrT (xBool (xBin isD (xVar 1) (ret .none))) (xTru (xUn (isiD ["bool", "str"]) (xVar 1)))) (sRet (xAnd (xBin eqD (xVar 0) (xVar 1)) (xAnd (xBin eqD (xUn (isiD ["bool"]) (xVar 0)) (xUn (isiD ["bool"]) (xVar 1))) (xBin eqD (xBin isD (xVar 0) (ret .none)) (xBin isD (xVar 1) (ret .none)))))) sSkip)
  (sRet (xAnd (xUn (isiD ["int"]) (xVar 0)) (xAnd (xNot (xUn (isiD ["bool"]) (xVar 0))) (xBin eqD (xVar 0) (xVar 1)))))))
def gr__law_same : Nat → Sg → Option (Ans PyData × Sg)
  | 0 => fun _ => none
  | n + 1 => runD 4 (B__law_same (gr__law_same n))
def g__law_same : Sg → Option (Ans PyData × Sg) := gr__law_same 8
def B__law_plus : MS :=
  (sRet (xCall tupleD (bnd (bnd (xComp (xCallF' zipD (bnd (xVar 1) fun d => bnd (bnd (xVar 2) fun d => bnd (ret []) fun ds => ret (d :: ds)) fun ds => ret (d :: ds))) [4, 5] (sTup 2 (sCons (sName 4) (sCons (sName 5) sNil))) (ret true) (xBin modD (xCall intD (bnd (xBin addD (xVar 4) (xBin mulD (xVar 3) (xVar 5))) fun d => bnd (ret []) fun ds => ret (d :: ds))) (xVar 0))) fun ds => ret (.list ds)) fun d => bnd (ret []) fun ds => ret (d :: ds))))
def g__law_plus : Sg → Option (Ans PyData × Sg) := runD 6 B__law_plus
def B__law_mixed : MS :=
  (sSeq (sAsg (xBin mulD (xTup (bnd (ret (.int 0)) fun d => bnd (ret []) fun ds => ret (d :: ds))) (xVar 3)) (sName 4))
  (sSeq (sFor (xCallF' zipD (bnd (xVar 1) fun d => bnd (bnd (xVar 2) fun d => bnd (ret []) fun ds => ret (d :: ds)) fun ds => ret (d :: ds))) (sTup 2 (sCons (sName 5) (sCons (sName 6) sNil))) (sAsg (xDef g__law_plus (bnd (xVar 0) fun d => bnd (bnd (xVar 4) fun d => bnd (bnd (xVar 5) fun d => bnd (bnd (xVar 6) fun d => bnd (ret []) fun ds => ret (d :: ds)) fun ds => ret (d :: ds)) fun ds => ret (d :: ds)) fun ds => ret (d :: ds))) (sName 4)))
  (sRet (xVar 4))))
def g__law_mixed : Sg → Option (Ans PyData × Sg) := runD 7 B__law_mixed
def B__law_times : MS :=
  (sRet (xBin modD (xCall intD (bnd (xCall sumD (bnd (bnd (xComp (xCallF' zipD (bnd (xVar 1) fun d => bnd (bnd (xVar 2) fun d => bnd (ret []) fun ds => ret (d :: ds)) fun ds => ret (d :: ds))) [3, 4] (sTup 2 (sCons (sName 3) (sCons (sName 4) sNil))) (ret true) (xBin mulD (xVar 3) (xVar 4))) fun ds => ret (.list ds)) fun d => bnd (ret []) fun ds => ret (d :: ds))) fun d => bnd (ret []) fun ds => ret (d :: ds))) (xVar 0)))
def g__law_times : Sg → Option (Ans PyData × Sg) := runD 5 B__law_times
def B__law_drawn_vectors : MS :=
  (sSeq (sOwn (xLst (ret [])) 4)
  (sSeq (sFor (xCallF' range1D (bnd (xVar 2) fun d => bnd (ret []) fun ds => ret (d :: ds))) (sName 5) (sSeq (sAsg (xDefO g__law_take 0 (bnd (ret (.int 6)) fun d => bnd (ret []) fun ds => ret (d :: ds))) (sName 6))
  (sIf (xBool (xBin eqD (xVar 6) (ret (.int 0)))) (sApp 4 (xBin mulD (xTup (bnd (ret (.int 0)) fun d => bnd (ret []) fun ds => ret (d :: ds))) (xVar 3))) (sIf (xAndT (xBool (xBin eqD (xVar 6) (ret (.int 1)))) (xBool (xCmpO neD 4 (bnd (xLst (ret [])) fun ds => ret (.list ds))))) (sApp 4 (xDef g__law_plus (bnd (xVar 1) fun d => bnd (bnd (xBin mulD (xTup (bnd (ret (.int 0)) fun d => bnd (ret []) fun ds => ret (d :: ds))) (xVar 3)) fun d => bnd (bnd (xDef2 g__law_of2 0 4) fun d => bnd (bnd (xDefO g__law_take 0 (bnd (xVar 1) fun d => bnd (ret []) fun ds => ret (d :: ds))) fun d => bnd (ret []) fun ds => ret (d :: ds)) fun ds => ret (d :: ds)) fun ds => ret (d :: ds)) fun ds => ret (d :: ds)))) (sApp 4 (xCall tupleD (bnd (bnd (xComp (xCallF' range1D (bnd (xVar 3) fun d => bnd (ret []) fun ds => ret (d :: ds))) [7] (sName 7) (ret true) (xDefO g__law_take 0 (bnd (xVar 1) fun d => bnd (ret []) fun ds => ret (d :: ds)))) fun ds => ret (.list ds)) fun d => bnd (ret []) fun ds => ret (d :: ds))))))))
  (sRet (xCall tupleD (bnd (xVar 4) fun d => bnd (ret []) fun ds => ret (d :: ds))))))
def g__law_drawn_vectors : Sg → Option (Ans PyData × Sg) := runD 8 B__law_drawn_vectors
def B__law_heard : MS :=
  (sSeq (sAsg (xTup (bnd (ret .none) fun d => bnd (bnd (ret .none) fun d => bnd (ret []) fun ds => ret (d :: ds)) fun ds => ret (d :: ds))) (sTup 2 (sCons (sName 2) (sCons (sName 3) sNil))))
  (sSeq (sTryX "Unfit" 4 2 (gCon (.str (PySem.Str.ofString "unfit")) (gIs true fun _ => some [])) (sAsg (xDef g_inverse (bnd (xVar 0) fun d => bnd (bnd (xVar 1) fun d => bnd (ret []) fun ds => ret (d :: ds)) fun ds => ret (d :: ds))) (sName 3)))
  (sRet (xIf (xBool (xBin isD (xVar 2) (ret .none))) (xVar 3) (xVar 2)))))
def g__law_heard : Sg → Option (Ans PyData × Sg) := runD 5 B__law_heard
def B__law_by_hand_right : MS :=
  (sSeq (sAsg (bnd (xComp (xSeq (xTup (bnd (ret (.int 2)) fun d => bnd (bnd (ret (.int 3)) fun d => bnd (bnd (ret (.int 5)) fun d => bnd (ret []) fun ds => ret (d :: ds)) fun ds => ret (d :: ds)) fun ds => ret (d :: ds)))) [6] (sName 6) (ret true) (bnd (xComp (xCallF' range1D (bnd (xVar 6) fun d => bnd (ret []) fun ds => ret (d :: ds))) [5] (sName 5) (ret true) (xDef g__law_heard (bnd (xVar 6) fun d => bnd (bnd (xVar 5) fun d => bnd (ret []) fun ds => ret (d :: ds)) fun ds => ret (d :: ds)))) fun ds => ret (.list ds))) fun ds => ret (.list ds)) (sName 0))
  (sSeq (sAsg (bnd (xLst (bnd (bnd (xLst (bnd (bnd (xLst (bnd (ret (.str (PySem.Str.ofString "unfit"))) fun d => bnd (bnd (ret (.bool true)) fun d => bnd (ret []) fun ds => ret (d :: ds)) fun ds => ret (d :: ds))) fun ds => ret (.list ds)) fun d => bnd (bnd (ret (.int 1)) fun d => bnd (ret []) fun ds => ret (d :: ds)) fun ds => ret (d :: ds))) fun ds => ret (.list ds)) fun d => bnd (bnd (bnd (xLst (bnd (bnd (xLst (bnd (ret (.str (PySem.Str.ofString "unfit"))) fun d => bnd (bnd (ret (.bool true)) fun d => bnd (ret []) fun ds => ret (d :: ds)) fun ds => ret (d :: ds))) fun ds => ret (.list ds)) fun d => bnd (bnd (ret (.int 1)) fun d => bnd (bnd (ret (.int 2)) fun d => bnd (ret []) fun ds => ret (d :: ds)) fun ds => ret (d :: ds)) fun ds => ret (d :: ds))) fun ds => ret (.list ds)) fun d => bnd (bnd (bnd (xLst (bnd (bnd (xLst (bnd (ret (.str (PySem.Str.ofString "unfit"))) fun d => bnd (bnd (ret (.bool true)) fun d => bnd (ret []) fun ds => ret (d :: ds)) fun ds => ret (d :: ds))) fun ds => ret (.list ds)) fun d => bnd (bnd (ret (.int 1)) fun d => bnd (bnd (ret (.int 3)) fun d => bnd (bnd (ret (.int 2)) fun d => bnd (bnd (ret (.int 4)) fun d => bnd (ret []) fun ds => ret (d :: ds)) fun ds => ret (d :: ds)) fun ds => ret (d :: ds)) fun ds => ret (d :: ds)) fun ds => ret (d :: ds))) fun ds => ret (.list ds)) fun d => bnd (ret []) fun ds => ret (d :: ds)) fun ds => ret (d :: ds)) fun ds => ret (d :: ds))) fun ds => ret (.list ds)) (sName 1))
  (sSeq (sAsg (bnd (xBinF catL (xVar 0) (bnd (xLst (bnd (xDefK g_inverse [1, 0] (bnd (ret (.int 4)) fun d => bnd (bnd (ret (.int 5)) fun d => bnd (ret []) fun ds => ret (d :: ds)) fun ds => ret (d :: ds))) fun d => bnd (bnd (xDef g_product (bnd (ret (.int 5)) fun d => bnd (bnd (xTup (bnd (ret (.int 2)) fun d => bnd (bnd (ret (.int 3)) fun d => bnd (ret []) fun ds => ret (d :: ds)) fun ds => ret (d :: ds))) fun d => bnd (bnd (xTup (bnd (ret (.int 4)) fun d => bnd (bnd (ret (.int 4)) fun d => bnd (ret []) fun ds => ret (d :: ds)) fun ds => ret (d :: ds))) fun d => bnd (ret []) fun ds => ret (d :: ds)) fun ds => ret (d :: ds)) fun ds => ret (d :: ds))) fun d => bnd (bnd (xDef g_product (bnd (ret (.int 3)) fun d => bnd (bnd (xTup (ret [])) fun d => bnd (bnd (xTup (ret [])) fun d => bnd (ret []) fun ds => ret (d :: ds)) fun ds => ret (d :: ds)) fun ds => ret (d :: ds))) fun d => bnd (bnd (xDefK g_product [2, 1, 0] (bnd (bnd (xLst (bnd (ret (.int 1)) fun d => bnd (bnd (ret (.int 2)) fun d => bnd (ret []) fun ds => ret (d :: ds)) fun ds => ret (d :: ds))) fun ds => ret (.list ds)) fun d => bnd (bnd (bnd (xLst (bnd (ret (.int 2)) fun d => bnd (bnd (ret (.int 2)) fun d => bnd (ret []) fun ds => ret (d :: ds)) fun ds => ret (d :: ds))) fun ds => ret (.list ds)) fun d => bnd (bnd (ret (.int 3)) fun d => bnd (ret []) fun ds => ret (d :: ds)) fun ds => ret (d :: ds)) fun ds => ret (d :: ds))) fun d => bnd (ret []) fun ds => ret (d :: ds)) fun ds => ret (d :: ds)) fun ds => ret (d :: ds)) fun ds => ret (d :: ds))) fun ds => ret (.list ds))) fun ds => ret (.list ds)) (sName 0))
  (sSeq (sAsg (bnd (xBinF catL (xVar 1) (bnd (xLst (bnd (ret (.int 4)) fun d => bnd (bnd (ret (.int 0)) fun d => bnd (bnd (ret (.int 0)) fun d => bnd (bnd (ret (.int 0)) fun d => bnd (ret []) fun ds => ret (d :: ds)) fun ds => ret (d :: ds)) fun ds => ret (d :: ds)) fun ds => ret (d :: ds))) fun ds => ret (.list ds))) fun ds => ret (.list ds)) (sName 1))
  (sSeq (sAsg (bnd (xBinF catL (xVar 0) (bnd (xLst (bnd (xDef g_row_by (bnd (ret (.int 3)) fun d => bnd (bnd (xTup (bnd (xTup (bnd (ret (.int 1)) fun d => bnd (bnd (ret (.int 2)) fun d => bnd (bnd (ret (.int 0)) fun d => bnd (ret []) fun ds => ret (d :: ds)) fun ds => ret (d :: ds)) fun ds => ret (d :: ds))) fun d => bnd (bnd (xTup (bnd (ret (.int 2)) fun d => bnd (bnd (ret (.int 1)) fun d => bnd (bnd (ret (.int 0)) fun d => bnd (ret []) fun ds => ret (d :: ds)) fun ds => ret (d :: ds)) fun ds => ret (d :: ds))) fun d => bnd (bnd (xTup (bnd (ret (.int 0)) fun d => bnd (bnd (ret (.int 1)) fun d => bnd (bnd (ret (.int 1)) fun d => bnd (ret []) fun ds => ret (d :: ds)) fun ds => ret (d :: ds)) fun ds => ret (d :: ds))) fun d => bnd (ret []) fun ds => ret (d :: ds)) fun ds => ret (d :: ds)) fun ds => ret (d :: ds))) fun d => bnd (bnd (xTup (bnd (ret (.int 0)) fun d => bnd (bnd (ret (.int 2)) fun d => bnd (bnd (ret (.int 1)) fun d => bnd (ret []) fun ds => ret (d :: ds)) fun ds => ret (d :: ds)) fun ds => ret (d :: ds))) fun d => bnd (bnd (ret (.int 3)) fun d => bnd (ret []) fun ds => ret (d :: ds)) fun ds => ret (d :: ds)) fun ds => ret (d :: ds)) fun ds => ret (d :: ds))) fun d => bnd (bnd (xDef g_row_by (bnd (ret (.int 2)) fun d => bnd (bnd (xTup (ret [])) fun d => bnd (bnd (xTup (ret [])) fun d => bnd (bnd (ret (.int 4)) fun d => bnd (ret []) fun ds => ret (d :: ds)) fun ds => ret (d :: ds)) fun ds => ret (d :: ds)) fun ds => ret (d :: ds))) fun d => bnd (bnd (xDef g_row_by (bnd (ret (.int 5)) fun d => bnd (bnd (xTup (bnd (xTup (ret [])) fun d => bnd (bnd (xTup (ret [])) fun d => bnd (ret []) fun ds => ret (d :: ds)) fun ds => ret (d :: ds))) fun d => bnd (bnd (xTup (bnd (ret (.int 1)) fun d => bnd (bnd (ret (.int 4)) fun d => bnd (ret []) fun ds => ret (d :: ds)) fun ds => ret (d :: ds))) fun d => bnd (bnd (ret (.int 0)) fun d => bnd (ret []) fun ds => ret (d :: ds)) fun ds => ret (d :: ds)) fun ds => ret (d :: ds)) fun ds => ret (d :: ds))) fun d => bnd (ret []) fun ds => ret (d :: ds)) fun ds => ret (d :: ds)) fun ds => ret (d :: ds))) fun ds => ret (.list ds))) fun ds => ret (.list ds)) (sName 0))
  (sSeq (sAsg (bnd (xBinF catL (xVar 1) (bnd (xLst (bnd (xTup (bnd (ret (.int 1)) fun d => bnd (bnd (ret (.int 0)) fun d => bnd (bnd (ret (.int 1)) fun d => bnd (ret []) fun ds => ret (d :: ds)) fun ds => ret (d :: ds)) fun ds => ret (d :: ds))) fun d => bnd (bnd (xTup (bnd (ret (.int 0)) fun d => bnd (bnd (ret (.int 0)) fun d => bnd (bnd (ret (.int 0)) fun d => bnd (bnd (ret (.int 0)) fun d => bnd (ret []) fun ds => ret (d :: ds)) fun ds => ret (d :: ds)) fun ds => ret (d :: ds)) fun ds => ret (d :: ds))) fun d => bnd (bnd (xTup (ret [])) fun d => bnd (ret []) fun ds => ret (d :: ds)) fun ds => ret (d :: ds)) fun ds => ret (d :: ds))) fun ds => ret (.list ds))) fun ds => ret (.list ds)) (sName 1))
  (sSeq (sAsg (bnd (xBinF catL (xVar 0) (bnd (xLst (bnd (xDefK g_row_by [3, 2, 1, 0] (bnd (ret (.int 2)) fun d => bnd (bnd (bnd (xLst (bnd (ret (.int 4)) fun d => bnd (bnd (ret (.int 4)) fun d => bnd (ret []) fun ds => ret (d :: ds)) fun ds => ret (d :: ds))) fun ds => ret (.list ds)) fun d => bnd (bnd (bnd (xLst (bnd (bnd (xLst (bnd (ret (.int 1)) fun d => bnd (bnd (ret (.int 2)) fun d => bnd (ret []) fun ds => ret (d :: ds)) fun ds => ret (d :: ds))) fun ds => ret (.list ds)) fun d => bnd (bnd (bnd (xLst (bnd (ret (.int 3)) fun d => bnd (bnd (ret (.int 4)) fun d => bnd (ret []) fun ds => ret (d :: ds)) fun ds => ret (d :: ds))) fun ds => ret (.list ds)) fun d => bnd (ret []) fun ds => ret (d :: ds)) fun ds => ret (d :: ds))) fun ds => ret (.list ds)) fun d => bnd (bnd (ret (.int 5)) fun d => bnd (ret []) fun ds => ret (d :: ds)) fun ds => ret (d :: ds)) fun ds => ret (d :: ds)) fun ds => ret (d :: ds))) fun d => bnd (bnd (xDef g_row_by (bnd (ret (.int 3)) fun d => bnd (bnd (xTup (bnd (xTup (bnd (ret (.int 2)) fun d => bnd (bnd (ret (.int 2)) fun d => bnd (ret []) fun ds => ret (d :: ds)) fun ds => ret (d :: ds))) fun d => bnd (bnd (xTup (bnd (ret (.int 2)) fun d => bnd (bnd (ret (.int 2)) fun d => bnd (ret []) fun ds => ret (d :: ds)) fun ds => ret (d :: ds))) fun d => bnd (bnd (xTup (bnd (ret (.int 2)) fun d => bnd (bnd (ret (.int 2)) fun d => bnd (ret []) fun ds => ret (d :: ds)) fun ds => ret (d :: ds))) fun d => bnd (ret []) fun ds => ret (d :: ds)) fun ds => ret (d :: ds)) fun ds => ret (d :: ds))) fun d => bnd (bnd (xTup (bnd (ret (.int 1)) fun d => bnd (bnd (ret (.int 1)) fun d => bnd (bnd (ret (.int 1)) fun d => bnd (ret []) fun ds => ret (d :: ds)) fun ds => ret (d :: ds)) fun ds => ret (d :: ds))) fun d => bnd (bnd (ret (.int 2)) fun d => bnd (ret []) fun ds => ret (d :: ds)) fun ds => ret (d :: ds)) fun ds => ret (d :: ds)) fun ds => ret (d :: ds))) fun d => bnd (ret []) fun ds => ret (d :: ds)) fun ds => ret (d :: ds))) fun ds => ret (.list ds))) fun ds => ret (.list ds)) (sName 0))
  (sSeq (sAsg (bnd (xBinF catL (xVar 1) (bnd (xLst (bnd (xTup (bnd (ret (.int 1)) fun d => bnd (bnd (ret (.int 4)) fun d => bnd (ret []) fun ds => ret (d :: ds)) fun ds => ret (d :: ds))) fun d => bnd (bnd (xTup (bnd (ret (.int 0)) fun d => bnd (bnd (ret (.int 0)) fun d => bnd (ret []) fun ds => ret (d :: ds)) fun ds => ret (d :: ds))) fun d => bnd (ret []) fun ds => ret (d :: ds)) fun ds => ret (d :: ds))) fun ds => ret (.list ds))) fun ds => ret (.list ds)) (sName 1))
  (sSeq (sAsg (xCall tupleD (bnd (bnd (xComp (xCallF' range1D (bnd (ret (.int 40)) fun d => bnd (ret []) fun ds => ret (d :: ds))) [7] (sName 7) (ret true) (xBin modD (xCall intD (bnd (xVar 7) fun d => bnd (ret []) fun ds => ret (d :: ds))) (ret (.int 5)))) fun ds => ret (.list ds)) fun d => bnd (ret []) fun ds => ret (d :: ds))) (sName 2))
  (sSeq (sAsg (bnd (xBinF catL (xVar 0) (bnd (xLst (bnd (xDef g_row_by (bnd (ret (.int 5)) fun d => bnd (bnd (xBin mulD (xTup (bnd (xVar 2) fun d => bnd (ret []) fun ds => ret (d :: ds))) (ret (.int 40))) fun d => bnd (bnd (xBin mulD (xTup (bnd (ret (.int 2)) fun d => bnd (ret []) fun ds => ret (d :: ds))) (ret (.int 40))) fun d => bnd (bnd (ret (.int 40)) fun d => bnd (ret []) fun ds => ret (d :: ds)) fun ds => ret (d :: ds)) fun ds => ret (d :: ds)) fun ds => ret (d :: ds))) fun d => bnd (bnd (xDef g_product (bnd (ret (.int 5)) fun d => bnd (bnd (xVar 2) fun d => bnd (bnd (xVar 2) fun d => bnd (ret []) fun ds => ret (d :: ds)) fun ds => ret (d :: ds)) fun ds => ret (d :: ds))) fun d => bnd (ret []) fun ds => ret (d :: ds)) fun ds => ret (d :: ds))) fun ds => ret (.list ds))) fun ds => ret (.list ds)) (sName 0))
  (sSeq (sAsg (bnd (xBinF catL (xVar 1) (bnd (xLst (bnd (xBin mulD (xTup (bnd (ret (.int 0)) fun d => bnd (ret []) fun ds => ret (d :: ds))) (ret (.int 40))) fun d => bnd (bnd (ret (.int 0)) fun d => bnd (ret []) fun ds => ret (d :: ds)) fun ds => ret (d :: ds))) fun ds => ret (.list ds))) fun ds => ret (.list ds)) (sName 1))
  (sSeq (sAsg (bnd (xLst (bnd (xTup (bnd (xTup (ret [])) fun d => bnd (bnd (ret (.int 2)) fun d => bnd (bnd (ret (.int 0)) fun d => bnd (ret []) fun ds => ret (d :: ds)) fun ds => ret (d :: ds)) fun ds => ret (d :: ds))) fun d => bnd (bnd (xTup (bnd (xTup (bnd (ret (.int 0)) fun d => bnd (bnd (ret (.int 1)) fun d => bnd (ret []) fun ds => ret (d :: ds)) fun ds => ret (d :: ds))) fun d => bnd (bnd (ret (.int 2)) fun d => bnd (bnd (ret (.int 2)) fun d => bnd (ret []) fun ds => ret (d :: ds)) fun ds => ret (d :: ds)) fun ds => ret (d :: ds))) fun d => bnd (bnd (xTup (bnd (xTup (bnd (ret (.int 2)) fun d => bnd (bnd (ret (.int 0)) fun d => bnd (bnd (ret (.int 1)) fun d => bnd (ret []) fun ds => ret (d :: ds)) fun ds => ret (d :: ds)) fun ds => ret (d :: ds))) fun d => bnd (bnd (ret (.int 3)) fun d => bnd (bnd (ret (.int 3)) fun d => bnd (ret []) fun ds => ret (d :: ds)) fun ds => ret (d :: ds)) fun ds => ret (d :: ds))) fun d => bnd (bnd (xTup (bnd (xTup (bnd (ret (.int 4)) fun d => bnd (ret []) fun ds => ret (d :: ds))) fun d => bnd (bnd (ret (.int 5)) fun d => bnd (bnd (ret (.int 1)) fun d => bnd (ret []) fun ds => ret (d :: ds)) fun ds => ret (d :: ds)) fun ds => ret (d :: ds))) fun d => bnd (ret []) fun ds => ret (d :: ds)) fun ds => ret (d :: ds)) fun ds => ret (d :: ds)) fun ds => ret (d :: ds))) fun ds => ret (.list ds)) (sName 3))
  (sSeq (sAsg (bnd (xLst (bnd (xTup (bnd (xTup (bnd (ret (.int 2)) fun d => bnd (ret []) fun ds => ret (d :: ds))) fun d => bnd (bnd (ret (.int 2)) fun d => bnd (bnd (ret (.int 1)) fun d => bnd (ret []) fun ds => ret (d :: ds)) fun ds => ret (d :: ds)) fun ds => ret (d :: ds))) fun d => bnd (bnd (xTup (bnd (xTup (bnd (ret (.int 3)) fun d => bnd (bnd (ret (.int 0)) fun d => bnd (ret []) fun ds => ret (d :: ds)) fun ds => ret (d :: ds))) fun d => bnd (bnd (ret (.int 3)) fun d => bnd (bnd (ret (.int 2)) fun d => bnd (ret []) fun ds => ret (d :: ds)) fun ds => ret (d :: ds)) fun ds => ret (d :: ds))) fun d => bnd (bnd (xTup (bnd (xTup (bnd (xUn negD (ret (.int 1))) fun d => bnd (ret []) fun ds => ret (d :: ds))) fun d => bnd (bnd (ret (.int 5)) fun d => bnd (bnd (ret (.int 1)) fun d => bnd (ret []) fun ds => ret (d :: ds)) fun ds => ret (d :: ds)) fun ds => ret (d :: ds))) fun d => bnd (bnd (xTup (bnd (xTup (bnd (ret (.int 0)) fun d => bnd (bnd (ret (.int 1)) fun d => bnd (ret []) fun ds => ret (d :: ds)) fun ds => ret (d :: ds))) fun d => bnd (bnd (ret (.int 2)) fun d => bnd (bnd (ret (.int 3)) fun d => bnd (ret []) fun ds => ret (d :: ds)) fun ds => ret (d :: ds)) fun ds => ret (d :: ds))) fun d => bnd (bnd (xTup (bnd (xTup (bnd (ret (.int 0)) fun d => bnd (bnd (ret (.int 1)) fun d => bnd (ret []) fun ds => ret (d :: ds)) fun ds => ret (d :: ds))) fun d => bnd (bnd (ret (.int 2)) fun d => bnd (bnd (ret (.int 1)) fun d => bnd (ret []) fun ds => ret (d :: ds)) fun ds => ret (d :: ds)) fun ds => ret (d :: ds))) fun d => bnd (bnd (xTup (bnd (bnd (xLst (bnd (ret (.int 0)) fun d => bnd (bnd (ret (.int 1)) fun d => bnd (ret []) fun ds => ret (d :: ds)) fun ds => ret (d :: ds))) fun ds => ret (.list ds)) fun d => bnd (bnd (ret (.int 2)) fun d => bnd (bnd (ret (.int 2)) fun d => bnd (ret []) fun ds => ret (d :: ds)) fun ds => ret (d :: ds)) fun ds => ret (d :: ds))) fun d => bnd (bnd (xTup (bnd (xTup (bnd (ret (.bool true)) fun d => bnd (bnd (ret (.int 0)) fun d => bnd (ret []) fun ds => ret (d :: ds)) fun ds => ret (d :: ds))) fun d => bnd (bnd (ret (.int 2)) fun d => bnd (bnd (ret (.int 2)) fun d => bnd (ret []) fun ds => ret (d :: ds)) fun ds => ret (d :: ds)) fun ds => ret (d :: ds))) fun d => bnd (bnd (xTup (bnd (ret .none) fun d => bnd (bnd (ret (.int 2)) fun d => bnd (bnd (ret (.int 0)) fun d => bnd (ret []) fun ds => ret (d :: ds)) fun ds => ret (d :: ds)) fun ds => ret (d :: ds))) fun d => bnd (ret []) fun ds => ret (d :: ds)) fun ds => ret (d :: ds)) fun ds => ret (d :: ds)) fun ds => ret (d :: ds)) fun ds => ret (d :: ds)) fun ds => ret (d :: ds)) fun ds => ret (d :: ds)) fun ds => ret (d :: ds))) fun ds => ret (.list ds)) (sName 4))
  (sSeq (sAsg (bnd (xBinF catL (xVar 4) (bnd (xLst (bnd (xTup (bnd (xTup (bnd (ret (.str (PySem.Str.ofString "0"))) fun d => bnd (ret []) fun ds => ret (d :: ds))) fun d => bnd (bnd (ret (.int 2)) fun d => bnd (bnd (ret (.int 1)) fun d => bnd (ret []) fun ds => ret (d :: ds)) fun ds => ret (d :: ds)) fun ds => ret (d :: ds))) fun d => bnd (bnd (xTup (bnd (xTup (bnd (xTup (bnd (ret (.int 0)) fun d => bnd (ret []) fun ds => ret (d :: ds))) fun d => bnd (ret []) fun ds => ret (d :: ds))) fun d => bnd (bnd (ret (.int 2)) fun d => bnd (bnd (ret (.int 1)) fun d => bnd (ret []) fun ds => ret (d :: ds)) fun ds => ret (d :: ds)) fun ds => ret (d :: ds))) fun d => bnd (bnd (xTup (bnd (xTup (bnd (ret (.int 0)) fun d => bnd (bnd (ret .none) fun d => bnd (ret []) fun ds => ret (d :: ds)) fun ds => ret (d :: ds))) fun d => bnd (bnd (ret (.int 3)) fun d => bnd (bnd (ret (.int 2)) fun d => bnd (ret []) fun ds => ret (d :: ds)) fun ds => ret (d :: ds)) fun ds => ret (d :: ds))) fun d => bnd (bnd (xTup (bnd (ret (.int 0)) fun d => bnd (bnd (ret (.int 2)) fun d => bnd (bnd (ret (.int 1)) fun d => bnd (ret []) fun ds => ret (d :: ds)) fun ds => ret (d :: ds)) fun ds => ret (d :: ds))) fun d => bnd (bnd (xTup (bnd (xTup (bnd (ret (.bool false)) fun d => bnd (ret []) fun ds => ret (d :: ds))) fun d => bnd (bnd (ret (.int 5)) fun d => bnd (bnd (ret (.int 1)) fun d => bnd (ret []) fun ds => ret (d :: ds)) fun ds => ret (d :: ds)) fun ds => ret (d :: ds))) fun d => bnd (bnd (xTup (bnd (ret (.str (PySem.Str.ofString "01"))) fun d => bnd (bnd (ret (.int 2)) fun d => bnd (bnd (ret (.int 2)) fun d => bnd (ret []) fun ds => ret (d :: ds)) fun ds => ret (d :: ds)) fun ds => ret (d :: ds))) fun d => bnd (ret []) fun ds => ret (d :: ds)) fun ds => ret (d :: ds)) fun ds => ret (d :: ds)) fun ds => ret (d :: ds)) fun ds => ret (d :: ds)) fun ds => ret (d :: ds))) fun ds => ret (.list ds))) fun ds => ret (.list ds)) (sName 4))
  (sSeq (sAsg (bnd (xBinF catL (bnd (xBinF catL (xVar 0) (bnd (xComp (xSeq (xVar 3)) [8] (sName 8) (ret true) (xDef g_is_row (bnd (xBin ixD (xVar 8) (ret (.int 0))) fun d => bnd (bnd (xBin ixD (xVar 8) (ret (.int 1))) fun d => bnd (bnd (xBin ixD (xVar 8) (ret (.int 2))) fun d => bnd (ret []) fun ds => ret (d :: ds)) fun ds => ret (d :: ds)) fun ds => ret (d :: ds)))) fun ds => ret (.list ds))) fun ds => ret (.list ds)) (bnd (xComp (xSeq (xVar 4)) [8] (sName 8) (ret true) (xDefK g_is_row [2, 1, 0] (bnd (xBin ixD (xVar 8) (ret (.int 2))) fun d => bnd (bnd (xBin ixD (xVar 8) (ret (.int 1))) fun d => bnd (bnd (xBin ixD (xVar 8) (ret (.int 0))) fun d => bnd (ret []) fun ds => ret (d :: ds)) fun ds => ret (d :: ds)) fun ds => ret (d :: ds)))) fun ds => ret (.list ds))) fun ds => ret (.list ds)) (sName 0))
  (sRet (xDef g__law_same (bnd (xVar 0) fun d => bnd (bnd (bnd (xBinF catL (bnd (xBinF catL (xVar 1) (bnd (xRepF (xLst (bnd (ret (.bool true)) fun d => bnd (ret []) fun ds => ret (d :: ds))) (xCall lenD (bnd (xVar 3) fun d => bnd (ret []) fun ds => ret (d :: ds)))) fun ds => ret (.list ds))) fun ds => ret (.list ds)) (bnd (xRepF (xLst (bnd (ret (.bool false)) fun d => bnd (ret []) fun ds => ret (d :: ds))) (xCall lenD (bnd (xVar 4) fun d => bnd (ret []) fun ds => ret (d :: ds)))) fun ds => ret (.list ds))) fun ds => ret (.list ds)) fun d => bnd (ret []) fun ds => ret (d :: ds)) fun ds => ret (d :: ds)))))))))))))))))))
def g__law_by_hand_right : Sg → Option (Ans PyData × Sg) := runD 9 B__law_by_hand_right
def B__law_right : MS :=
  (sSeq (sAsg (xTup (bnd (xDefO g__law_of 0 (bnd (bnd (xLst (bnd (ret (.int 2)) fun d => bnd (bnd (ret (.int 3)) fun d => bnd (bnd (ret (.int 5)) fun d => bnd (ret []) fun ds => ret (d :: ds)) fun ds => ret (d :: ds)) fun ds => ret (d :: ds))) fun ds => ret (.list ds)) fun d => bnd (ret []) fun ds => ret (d :: ds))) fun d => bnd (bnd (xDefO g__law_take 0 (bnd (ret (.int 7)) fun d => bnd (ret []) fun ds => ret (d :: ds))) fun d => bnd (bnd (xDefO g__law_take 0 (bnd (ret (.int 7)) fun d => bnd (ret []) fun ds => ret (d :: ds))) fun d => bnd (ret []) fun ds => ret (d :: ds)) fun ds => ret (d :: ds)) fun ds => ret (d :: ds))) (sTup 3 (sCons (sName 1) (sCons (sName 2) (sCons (sName 3) sNil)))))
  (sSeq (sAsg (xDefO g__law_drawn_vectors 0 (bnd (xVar 1) fun d => bnd (bnd (xVar 2) fun d => bnd (bnd (xVar 3) fun d => bnd (ret []) fun ds => ret (d :: ds)) fun ds => ret (d :: ds)) fun ds => ret (d :: ds))) (sName 4))
  (sSeq (sAsg (xCall tupleD (bnd (bnd (xComp (xCallF' range1D (bnd (xVar 2) fun d => bnd (ret []) fun ds => ret (d :: ds))) [13] (sName 13) (ret true) (xDefO g__law_take 0 (bnd (xVar 1) fun d => bnd (ret []) fun ds => ret (d :: ds)))) fun ds => ret (.list ds)) fun d => bnd (ret []) fun ds => ret (d :: ds))) (sName 5))
  (sSeq (sAsg (xDef g__law_mixed (bnd (xVar 1) fun d => bnd (bnd (xVar 4) fun d => bnd (bnd (xVar 5) fun d => bnd (bnd (xVar 3) fun d => bnd (ret []) fun ds => ret (d :: ds)) fun ds => ret (d :: ds)) fun ds => ret (d :: ds)) fun ds => ret (d :: ds))) (sName 6))
  (sSeq (sOwn (xLst (bnd (xDef g_row_by (bnd (xVar 1) fun d => bnd (bnd (xVar 4) fun d => bnd (bnd (xVar 5) fun d => bnd (bnd (xVar 3) fun d => bnd (ret []) fun ds => ret (d :: ds)) fun ds => ret (d :: ds)) fun ds => ret (d :: ds)) fun ds => ret (d :: ds))) fun d => bnd (bnd (xDef g_row_by (bnd (xVar 1) fun d => bnd (bnd (xDef g__law_lists (bnd (xVar 4) fun d => bnd (ret []) fun ds => ret (d :: ds))) fun d => bnd (bnd (bnd (xCallF listD (bnd (xVar 5) fun d => bnd (ret []) fun ds => ret (d :: ds))) fun ds => ret (.list ds)) fun d => bnd (bnd (xVar 3) fun d => bnd (ret []) fun ds => ret (d :: ds)) fun ds => ret (d :: ds)) fun ds => ret (d :: ds)) fun ds => ret (d :: ds))) fun d => bnd (ret []) fun ds => ret (d :: ds)) fun ds => ret (d :: ds))) 7)
  (sSeq (sOwn (xLst (bnd (xVar 6) fun d => bnd (bnd (xVar 6) fun d => bnd (ret []) fun ds => ret (d :: ds)) fun ds => ret (d :: ds))) 8)
  (sSeq (sFor (xSeq (xVar 4)) (sName 9) (sSeq (sApp 7 (xDef g_product (bnd (xVar 1) fun d => bnd (bnd (xVar 9) fun d => bnd (bnd (xVar 6) fun d => bnd (ret []) fun ds => ret (d :: ds)) fun ds => ret (d :: ds)) fun ds => ret (d :: ds))))
  (sApp 8 (xDef g__law_times (bnd (xVar 1) fun d => bnd (bnd (xVar 9) fun d => bnd (bnd (xVar 6) fun d => bnd (ret []) fun ds => ret (d :: ds)) fun ds => ret (d :: ds)) fun ds => ret (d :: ds))))))
  (sSeq (sOwn (xCallF listD (bnd (xVar 6) fun d => bnd (ret []) fun ds => ret (d :: ds))) 10)
  (sSeq (sIf (xBool (xCmpO neD 10 (bnd (xLst (ret [])) fun ds => ret (.list ds)))) (sSub (xDefO g__law_of 0 (bnd (bnd (xLst (bnd (xVar 1) fun d => bnd (bnd (xUn negD (ret (.int 1))) fun d => bnd (bnd (ret .none) fun d => bnd (bnd (ret (.bool true)) fun d => bnd (bnd (ret (.str (PySem.Str.ofString "0"))) fun d => bnd (bnd (ret (.int 0)) fun d => bnd (bnd (xBin subD (xVar 1) (ret (.int 1))) fun d => bnd (bnd (xTup (bnd (ret (.int 0)) fun d => bnd (ret []) fun ds => ret (d :: ds))) fun d => bnd (bnd (xBin addD (xVar 1) (ret (.int 3))) fun d => bnd (ret []) fun ds => ret (d :: ds)) fun ds => ret (d :: ds)) fun ds => ret (d :: ds)) fun ds => ret (d :: ds)) fun ds => ret (d :: ds)) fun ds => ret (d :: ds)) fun ds => ret (d :: ds)) fun ds => ret (d :: ds)) fun ds => ret (d :: ds))) fun ds => ret (.list ds)) fun d => bnd (ret []) fun ds => ret (d :: ds))) 10 (xDefO g__law_take 0 (bnd (xVar 3) fun d => bnd (ret []) fun ds => ret (d :: ds)))) sSkip)
  (sSeq (sAsg (xCall tupleD (bnd (xVar 10) fun d => bnd (ret []) fun ds => ret (d :: ds))) (sName 11))
  (sSeq (sAsg (xBin eqD (bnd (xComp (xSeq (xVar 11)) [14] (sName 14) (xOrT (xTru (xUn (isiD ["bool"]) (xVar 14))) (xOrT (xNotT (xTru (xUn (isiD ["int"]) (xVar 14)))) (xNotT (xBool (xChain leD ltD (ret (.int 0)) (xVar 14) (xVar 1)))))) (xVar 14)) fun ds => ret (.list ds)) (bnd (xLst (ret [])) fun ds => ret (.list ds))) (sName 12))
  (sSeq (sOwn (xBinF catL (xVar 7) (bnd (xLst (bnd (xDef g_is_row (bnd (xVar 6) fun d => bnd (bnd (xVar 1) fun d => bnd (bnd (xVar 3) fun d => bnd (ret []) fun ds => ret (d :: ds)) fun ds => ret (d :: ds)) fun ds => ret (d :: ds))) fun d => bnd (bnd (xDef g_is_row (bnd (xVar 6) fun d => bnd (bnd (xVar 1) fun d => bnd (bnd (xBin addD (xVar 3) (ret (.int 1))) fun d => bnd (ret []) fun ds => ret (d :: ds)) fun ds => ret (d :: ds)) fun ds => ret (d :: ds))) fun d => bnd (bnd (xDef g_is_row (bnd (bnd (xCallF listD (bnd (xVar 6) fun d => bnd (ret []) fun ds => ret (d :: ds))) fun ds => ret (.list ds)) fun d => bnd (bnd (xVar 1) fun d => bnd (bnd (xVar 3) fun d => bnd (ret []) fun ds => ret (d :: ds)) fun ds => ret (d :: ds)) fun ds => ret (d :: ds))) fun d => bnd (bnd (xDef g_is_row (bnd (xVar 11) fun d => bnd (bnd (xVar 1) fun d => bnd (bnd (xVar 3) fun d => bnd (ret []) fun ds => ret (d :: ds)) fun ds => ret (d :: ds)) fun ds => ret (d :: ds))) fun d => bnd (ret []) fun ds => ret (d :: ds)) fun ds => ret (d :: ds)) fun ds => ret (d :: ds)) fun ds => ret (d :: ds))) fun ds => ret (.list ds))) 7)
  (sRet (xDef g__law_same (bnd (xVar 7) fun d => bnd (bnd (bnd (xBinF catL (xVar 8) (bnd (xLst (bnd (ret (.bool true)) fun d => bnd (bnd (ret (.bool false)) fun d => bnd (bnd (ret (.bool false)) fun d => bnd (bnd (xVar 12) fun d => bnd (ret []) fun ds => ret (d :: ds)) fun ds => ret (d :: ds)) fun ds => ret (d :: ds)) fun ds => ret (d :: ds))) fun ds => ret (.list ds))) fun ds => ret (.list ds)) fun d => bnd (ret []) fun ds => ret (d :: ds)) fun ds => ret (d :: ds))))))))))))))))
def g__law_right : Sg → Option (Ans PyData × Sg) := runD 15 B__law_right
def B_law : MS :=
  (sSeq (sIf (xNotT (xTru (xDef g__law_by_hand_right (ret [])))) (sRet (ret (.bool false))) sSkip)
  (sSeq (sAsg (xDef g__law_cells (bnd (xVar 0) fun d => bnd (bnd (ret (.int 2)) fun d => bnd (ret []) fun ds => ret (d :: ds)) fun ds => ret (d :: ds))) (sName 1))
  (sRet (xCall allD (bnd (bnd (xComp (xCallF' range1D (bnd (xCall lenD (bnd (xVar 1) fun d => bnd (ret []) fun ds => ret (d :: ds))) fun d => bnd (ret []) fun ds => ret (d :: ds))) [2] (sName 2) (ret true) (xDefT g__law_right (xDefF g__law_box (bnd (xVar 1) fun d => bnd (bnd (xVar 2) fun d => bnd (ret []) fun ds => ret (d :: ds)) fun ds => ret (d :: ds))))) fun ds => ret (.list ds)) fun d => bnd (ret []) fun ds => ret (d :: ds))))))
def g_law : Sg → Option (Ans PyData × Sg) := runD 3 B_law
end K02
end

section
set_option Elab.async false
set_option linter.all false
set_option maxRecDepth 100000
set_option maxHeartbeats 4000000
namespace K02
open PySem PySem.Spec PyProof.Rows L2 PD
def topS (i : Nat) : Stmt := PySem.Challenge.pw_anydlooks_k02_rows_sums_and_inverses.main.body.getD i (.Pass ⟨0, 0, 0, 0⟩)
abbrev s_is_number : Stmt := topS 3
abbrev N_is_number : List Str := ["thing"]
theorem S_is_number : FnScope N_is_number ["thing"] (defScope s_is_number) := ⟨rfl, rfl, rfl, by decide +kernel, rfl, by decide +kernel, by decide +kernel⟩
abbrev s_is_below : Stmt := topS 4
abbrev N_is_below : List Str := ["thing", "bound"]
theorem S_is_below : FnScope N_is_below ["thing", "bound"] (defScope s_is_below) := ⟨rfl, rfl, rfl, by decide +kernel, rfl, by decide +kernel, by decide +kernel⟩
abbrev s_is_tuple_of : Stmt := topS 5
abbrev N_is_tuple_of : List Str := ["thing", "many"]
theorem S_is_tuple_of : FnScope N_is_tuple_of ["thing", "many"] (defScope s_is_tuple_of) := ⟨rfl, rfl, rfl, by decide +kernel, rfl, by decide +kernel, by decide +kernel⟩
abbrev s_is_row : Stmt := topS 7
abbrev N_is_row : List Str := ["thing", "prime", "length", "own"]
theorem S_is_row : FnScope N_is_row ["thing", "prime", "length"] (defScope s_is_row) := ⟨rfl, rfl, rfl, by decide +kernel, rfl, by decide +kernel, by decide +kernel⟩
abbrev s_inverse : Stmt := topS 8
abbrev N_inverse : List Str := ["prime", "residue", "other"]
theorem S_inverse : FnScope N_inverse ["prime", "residue"] (defScope s_inverse) := ⟨rfl, rfl, rfl, by decide +kernel, rfl, by decide +kernel, by decide +kernel⟩
abbrev s_row_by : Stmt := topS 9
abbrev N_row_by : List Str := ["prime", "rows", "factors", "length", "total", "row", "factor", "own", "more"]
theorem S_row_by : FnScope N_row_by ["prime", "rows", "factors", "length"] (defScope s_row_by) := ⟨rfl, rfl, rfl, by decide +kernel, rfl, by decide +kernel, by decide +kernel⟩
abbrev s_product : Stmt := topS 10
abbrev N_product : List Str := ["prime", "row", "other", "own", "more"]
theorem S_product : FnScope N_product ["prime", "row", "other"] (defScope s_product) := ⟨rfl, rfl, rfl, by decide +kernel, rfl, by decide +kernel, by decide +kernel⟩
abbrev s__law_box : Stmt := topS 12
abbrev N__law_box : List Str := ["script", "k", "cell"]
theorem S__law_box : FnScope N__law_box ["script", "k"] (defScope s__law_box) := ⟨rfl, rfl, rfl, by decide +kernel, rfl, by decide +kernel, by decide +kernel⟩
abbrev s__law_take : Stmt := topS 13
abbrev N__law_take : List Str := ["tin", "below_so", "drawn", "once_so", "wide_so", "twice_so"]
theorem S__law_take : FnScope N__law_take ["tin", "below_so"] (defScope s__law_take) := ⟨rfl, rfl, rfl, by decide +kernel, rfl, by decide +kernel, by decide +kernel⟩
abbrev s__law_cells : Stmt := topS 14
abbrev N__law_cells : List Str := ["script", "most_so", "cells_so", "k", "cell", "at_so"]
theorem S__law_cells : FnScope N__law_cells ["script", "most_so"] (defScope s__law_cells) := ⟨rfl, rfl, rfl, by decide +kernel, rfl, by decide +kernel, by decide +kernel⟩
abbrev s__law_of : Stmt := topS 15
abbrev N__law_of : List Str := ["tin", "goods_so"]
theorem S__law_of : FnScope N__law_of ["tin", "goods_so"] (defScope s__law_of) := ⟨rfl, rfl, rfl, by decide +kernel, rfl, by decide +kernel, by decide +kernel⟩
abbrev s__law_lists : Stmt := topS 16
abbrev N__law_lists : List Str := ["matter", "bit"]
theorem S__law_lists : FnScope N__law_lists ["matter"] (defScope s__law_lists) := ⟨rfl, rfl, rfl, by decide +kernel, rfl, by decide +kernel, by decide +kernel⟩
abbrev s__law_same : Stmt := topS 17
abbrev N__law_same : List Str := ["got", "due", "mine", "its"]
theorem S__law_same : FnScope N__law_same ["got", "due"] (defScope s__law_same) := ⟨rfl, rfl, rfl, by decide +kernel, rfl, by decide +kernel, by decide +kernel⟩
abbrev s__law_plus : Stmt := topS 18
abbrev N__law_plus : List Str := ["p", "one_so", "two_so", "factor_so", "own", "its"]
theorem S__law_plus : FnScope N__law_plus ["p", "one_so", "two_so", "factor_so"] (defScope s__law_plus) := ⟨rfl, rfl, rfl, by decide +kernel, rfl, by decide +kernel, by decide +kernel⟩
abbrev s__law_mixed : Stmt := topS 19
abbrev N__law_mixed : List Str := ["p", "vectors_so", "factors_so", "wide_so", "found", "own", "n"]
theorem S__law_mixed : FnScope N__law_mixed ["p", "vectors_so", "factors_so", "wide_so"] (defScope s__law_mixed) := ⟨rfl, rfl, rfl, by decide +kernel, rfl, by decide +kernel, by decide +kernel⟩
abbrev s__law_times : Stmt := topS 20
abbrev N__law_times : List Str := ["p", "one_so", "two_so", "own", "its"]
theorem S__law_times : FnScope N__law_times ["p", "one_so", "two_so"] (defScope s__law_times) := ⟨rfl, rfl, rfl, by decide +kernel, rfl, by decide +kernel, by decide +kernel⟩
abbrev s__law_drawn_vectors : Stmt := topS 21
abbrev N__law_drawn_vectors : List Str := ["tin", "p", "count_so", "wide_so", "found", "lap", "kind_so", "k"]
theorem S__law_drawn_vectors : FnScope N__law_drawn_vectors ["tin", "p", "count_so", "wide_so"] (defScope s__law_drawn_vectors) := ⟨rfl, rfl, rfl, by decide +kernel, rfl, by decide +kernel, by decide +kernel⟩
abbrev s__law_heard : Stmt := topS 22
abbrev N__law_heard : List Str := ["p", "n", "caught", "mine", "error"]
theorem S__law_heard : FnScope N__law_heard ["p", "n"] (defScope s__law_heard) := ⟨rfl, rfl, rfl, by decide +kernel, rfl, by decide +kernel, by decide +kernel⟩
abbrev s__law_by_hand_right : Stmt := topS 23
abbrev N__law_by_hand_right : List Str := ["got", "due", "wide_so", "good_so", "odd", "n", "p", "k", "own"]
theorem S__law_by_hand_right : FnScope N__law_by_hand_right [] (defScope s__law_by_hand_right) := ⟨rfl, rfl, rfl, by decide +kernel, rfl, by decide +kernel, by decide +kernel⟩
abbrev s__law_right : Stmt := topS 24
abbrev N__law_right : List Str := ["tin", "p", "count_so", "wide_so", "vectors_so", "bids_so", "due", "got", "want_so", "own", "cells_so", "matter", "fine_so", "k", "n"]
theorem S__law_right : FnScope N__law_right ["tin"] (defScope s__law_right) := ⟨rfl, rfl, rfl, by decide +kernel, rfl, by decide +kernel, by decide +kernel⟩
abbrev s_law : Stmt := topS 25
abbrev N_law : List Str := ["script", "cells_so", "k"]
theorem S_law : FnScope N_law ["script"] (defScope s_law) := ⟨rfl, rfl, rfl, by decide +kernel, rfl, by decide +kernel, by decide +kernel⟩
variable {P : Program} {w : World} {K : PySem.W.Frag} {mg : Str → Option Value} {base : Heap}
theorem bd_is_number {a_is_number : Addr}
    (m_bool : mg "bool" = none)
    (m_int : mg "int" = none)
    (m_isinstance : mg "isinstance" = none) :
    ∀ (cdv : Value) (A : Around) (outer : List PySem.Env) (s : Shared) (H : Hp) (E : XK), Room 0 (A.deeper (envOfC "is_number" (defScope s_is_number) s.heap.objs.size a_is_number cdv)) → DSs (CxD P w K mg base N_is_number "is_number" s_is_number a_is_number cdv A outer s H E) (fun cls d _ H => E cls d H) (defBody s_is_number) B_is_number := fun cdv A outer s H E hr =>
  (dss_one (ds_ret (de_and (de_isi1 "int" (by decide) m_isinstance m_int bt_int (de_var 0)) (de_one (de_not (de_isi1 "bool" (by decide) m_isinstance m_bool bt_bool (de_var 0)))))))
theorem ok_is_number {a_is_number : Addr} {fd_is_number : FuncData} (F : Fun K "is_number" "is_number" s_is_number a_is_number fd_is_number)
    (m_bool : mg "bool" = none)
    (m_int : mg "int" = none)
    (m_isinstance : mg "isinstance" = none) :
    FnOk P w K mg base (L2.CX P w) 1 a_is_number fd_is_number ["thing"] (spD K mg 1 g_is_number) :=
  fn_d (k := 0) (N := N_is_number) (ps := ["thing"]) (gs := B_is_number) F S_is_number (by decide) (bd_is_number m_bool m_int m_isinstance)
theorem bd_is_below {a_is_below : Addr}
    {a_is_number : Addr} {fd_is_number : FuncData} (F_is_number : FnOk P w K mg base (L2.CX P w) 1 a_is_number fd_is_number ["thing"] (spD K mg 1 g_is_number)) (e_is_number : mg "is_number" = some (.ref a_is_number)) (k_is_number : PySem.W.keepIn K (.ref a_is_number) = true) (b_is_number : Binds K fd_is_number ["thing"] []) :
    ∀ (cdv : Value) (A : Around) (outer : List PySem.Env) (s : Shared) (H : Hp) (E : XK), Room 1 (A.deeper (envOfC "is_below" (defScope s_is_below) s.heap.objs.size a_is_below cdv)) → DSs (CxD P w K mg base N_is_below "is_below" s_is_below a_is_below cdv A outer s H E) (fun cls d _ H => E cls d H) (defBody s_is_below) B_is_below := fun cdv A outer s H E hr =>
  (dss_one (ds_ret (de_and (de_call F_is_number (hr.mono (by decide)) e_is_number k_is_number b_is_number pass_cx (da_cons (de_var 0) da_nil) (alenS alen0)) (de_one (de_chain opd_le opd_lt op_le op_lt de_int (de_var 0) (de_var 1))))))
theorem ok_is_below {a_is_below : Addr} {fd_is_below : FuncData} (F : Fun K "is_below" "is_below" s_is_below a_is_below fd_is_below)
    {a_is_number : Addr} {fd_is_number : FuncData} (F_is_number : FnOk P w K mg base (L2.CX P w) 1 a_is_number fd_is_number ["thing"] (spD K mg 1 g_is_number)) (e_is_number : mg "is_number" = some (.ref a_is_number)) (k_is_number : PySem.W.keepIn K (.ref a_is_number) = true) (b_is_number : Binds K fd_is_number ["thing"] []) :
    FnOk P w K mg base (L2.CX P w) 2 a_is_below fd_is_below ["thing", "bound"] (spD K mg 2 g_is_below) :=
  fn_d (k := 1) (N := N_is_below) (ps := ["thing", "bound"]) (gs := B_is_below) F S_is_below (by decide) (bd_is_below F_is_number e_is_number k_is_number b_is_number)
theorem bd_is_tuple_of {a_is_tuple_of : Addr}
    (m_isinstance : mg "isinstance" = none)
    (m_len : mg "len" = none)
    (m_tuple : mg "tuple" = none) :
    ∀ (cdv : Value) (A : Around) (outer : List PySem.Env) (s : Shared) (H : Hp) (E : XK), Room 0 (A.deeper (envOfC "is_tuple_of" (defScope s_is_tuple_of) s.heap.objs.size a_is_tuple_of cdv)) → DSs (CxD P w K mg base N_is_tuple_of "is_tuple_of" s_is_tuple_of a_is_tuple_of cdv A outer s H E) (fun cls d _ H => E cls d H) (defBody s_is_tuple_of) B_is_tuple_of := fun cdv A outer s H E hr =>
  (dss_one (ds_ret (de_and (de_isi1 "tuple" (by decide) m_isinstance m_tuple bt_tuple (de_var 0)) (de_one (de_eq (hu64 hr) (de_len (da_cons (de_var 0) da_nil) m_len) (de_var 1))))))
theorem ok_is_tuple_of {a_is_tuple_of : Addr} {fd_is_tuple_of : FuncData} (F : Fun K "is_tuple_of" "is_tuple_of" s_is_tuple_of a_is_tuple_of fd_is_tuple_of)
    (m_isinstance : mg "isinstance" = none)
    (m_len : mg "len" = none)
    (m_tuple : mg "tuple" = none) :
    FnOk P w K mg base (L2.CX P w) 1 a_is_tuple_of fd_is_tuple_of ["thing", "many"] (spD K mg 2 g_is_tuple_of) :=
  fn_d (k := 0) (N := N_is_tuple_of) (ps := ["thing", "many"]) (gs := B_is_tuple_of) F S_is_tuple_of (by decide) (bd_is_tuple_of m_isinstance m_len m_tuple)
theorem bd_is_row {a_is_row : Addr}
    {a_is_below : Addr} {fd_is_below : FuncData} (F_is_below : FnOk P w K mg base (L2.CX P w) 2 a_is_below fd_is_below ["thing", "bound"] (spD K mg 2 g_is_below)) (e_is_below : mg "is_below" = some (.ref a_is_below)) (k_is_below : PySem.W.keepIn K (.ref a_is_below) = true) (b_is_below : Binds K fd_is_below ["thing", "bound"] [])
    {a_is_tuple_of : Addr} {fd_is_tuple_of : FuncData} (F_is_tuple_of : FnOk P w K mg base (L2.CX P w) 1 a_is_tuple_of fd_is_tuple_of ["thing", "many"] (spD K mg 2 g_is_tuple_of)) (e_is_tuple_of : mg "is_tuple_of" = some (.ref a_is_tuple_of)) (k_is_tuple_of : PySem.W.keepIn K (.ref a_is_tuple_of) = true) (b_is_tuple_of : Binds K fd_is_tuple_of ["thing", "many"] [])
    (m_all : mg "all" = none) :
    ∀ (cdv : Value) (A : Around) (outer : List PySem.Env) (s : Shared) (H : Hp) (E : XK), Room 2 (A.deeper (envOfC "is_row" (defScope s_is_row) s.heap.objs.size a_is_row cdv)) → DSs (CxD P w K mg base N_is_row "is_row" s_is_row a_is_row cdv A outer s H E) (fun cls d _ H => E cls d H) (defBody s_is_row) B_is_row := fun cdv A outer s H E hr =>
  (dss_one (ds_ret (de_and (de_call F_is_tuple_of (hr.mono (by decide)) e_is_tuple_of k_is_tuple_of b_is_tuple_of pass_cx (da_cons (de_var 0) (da_cons (de_var 2) da_nil)) (alenS (alenS alen0))) (de_one (de_all (da_cons (de_df (df_lc (own := [("own", 3)]) rfl S_is_row.nd (di_seq (de_var 0)) (blkOk_by (N := N_is_row) (sc := defScope s_is_row) (own := [("own", 3)]) (by decide +kernel)) (fun _ _ _ _ _ => (dgc_name (i := 3) S_is_row.nd (by decide))) (fun _ _ _ _ _ => dts_nil) (fun _ _ _ _ _ => (de_call F_is_below (hr.mono (by decide)) e_is_below k_is_below b_is_below pass0 (da_cons (de_var 3) (da_cons (de_var 1) da_nil)) (alenS (alenS alen0)))))) da_nil) m_all)))))
theorem ok_is_row {a_is_row : Addr} {fd_is_row : FuncData} (F : Fun K "is_row" "is_row" s_is_row a_is_row fd_is_row)
    {a_is_below : Addr} {fd_is_below : FuncData} (F_is_below : FnOk P w K mg base (L2.CX P w) 2 a_is_below fd_is_below ["thing", "bound"] (spD K mg 2 g_is_below)) (e_is_below : mg "is_below" = some (.ref a_is_below)) (k_is_below : PySem.W.keepIn K (.ref a_is_below) = true) (b_is_below : Binds K fd_is_below ["thing", "bound"] [])
    {a_is_tuple_of : Addr} {fd_is_tuple_of : FuncData} (F_is_tuple_of : FnOk P w K mg base (L2.CX P w) 1 a_is_tuple_of fd_is_tuple_of ["thing", "many"] (spD K mg 2 g_is_tuple_of)) (e_is_tuple_of : mg "is_tuple_of" = some (.ref a_is_tuple_of)) (k_is_tuple_of : PySem.W.keepIn K (.ref a_is_tuple_of) = true) (b_is_tuple_of : Binds K fd_is_tuple_of ["thing", "many"] [])
    (m_all : mg "all" = none) :
    FnOk P w K mg base (L2.CX P w) 3 a_is_row fd_is_row ["thing", "prime", "length"] (spD K mg 3 g_is_row) :=
  fn_d (k := 2) (N := N_is_row) (ps := ["thing", "prime", "length"]) (gs := B_is_row) F S_is_row (by decide) (bd_is_row F_is_below e_is_below k_is_below b_is_below F_is_tuple_of e_is_tuple_of k_is_tuple_of b_is_tuple_of m_all)
theorem bd_inverse {a_inverse : Addr}
    (m_range : mg "range" = none)
    {C_Unfit : Addr} {B_Unfit n_Unfit i_Unfit : String} {bm_Unfit : List Value} (X_Unfit : ExcT K mg "Unfit" C_Unfit B_Unfit n_Unfit i_Unfit bm_Unfit) :
    ∀ (cdv : Value) (A : Around) (outer : List PySem.Env) (s : Shared) (H : Hp) (E : XK), Room 0 (A.deeper (envOfC "inverse" (defScope s_inverse) s.heap.objs.size a_inverse cdv)) → DSs (CxD P w K mg base N_inverse "inverse" s_inverse a_inverse cdv A outer s H E) (fun cls d _ H => E cls d H) (defBody s_inverse) B_inverse := fun cdv A outer s H E hr =>
  (dss_cons (ds_for own_cx rfl (di_range1 m_range (da_cons (de_var 0) da_nil)) (dg_name (i := 2) S_inverse.nd) (dss_one (ds_if (dt_eq (hu64 hr) (de_mod (de_mul (de_var 2) (de_var 1)) (de_var 0)) de_int) (dss_one (ds_ret (de_var 2))) dss_nil)))
  (dss_one (ds_raise0 (x := "Unfit") X_Unfit rfl (takes_of rfl rfl rfl rfl))))
theorem ok_inverse {a_inverse : Addr} {fd_inverse : FuncData} (F : Fun K "inverse" "inverse" s_inverse a_inverse fd_inverse)
    (m_range : mg "range" = none)
    {C_Unfit : Addr} {B_Unfit n_Unfit i_Unfit : String} {bm_Unfit : List Value} (X_Unfit : ExcT K mg "Unfit" C_Unfit B_Unfit n_Unfit i_Unfit bm_Unfit) :
    FnOk P w K mg base (L2.CX P w) 1 a_inverse fd_inverse ["prime", "residue"] (spD K mg 2 g_inverse) :=
  fn_d (k := 0) (N := N_inverse) (ps := ["prime", "residue"]) (gs := B_inverse) F S_inverse (by decide) (bd_inverse m_range X_Unfit)
theorem bd_row_by {a_row_by : Addr}
    (m_tuple : mg "tuple" = none)
    (m_zip : mg "zip" = none) :
    ∀ (cdv : Value) (A : Around) (outer : List PySem.Env) (s : Shared) (H : Hp) (E : XK), Room 0 (A.deeper (envOfC "row_by" (defScope s_row_by) s.heap.objs.size a_row_by cdv)) → DSs (CxD P w K mg base N_row_by "row_by" s_row_by a_row_by cdv A outer s H E) (fun cls d _ H => E cls d H) (defBody s_row_by) B_row_by := fun cdv A outer s H E hr =>
  (dss_cons (ds_set (i := 4) S_row_by.nd (de_df (df_rep (df_lst (da_cons de_int da_nil)) (de_var 3))))
  (dss_cons (ds_for own_cx rfl (di_zip m_zip (da_cons (de_var 1) (da_cons (de_var 2) da_nil))) (dg_tup rfl (dgs_cons (dg_name (i := 5) S_row_by.nd) (dgs_cons (dg_name (i := 6) S_row_by.nd) dgs_nil))) (dss_one (ds_if (dt_tru (de_var 6)) (dss_one (ds_setLcF (i := 4) (own := [("own", 7), ("more", 8)]) rfl S_row_by.nd (di_zip m_zip (da_cons (de_var 4) (da_cons (de_var 5) da_nil))) (blkOk_by (N := N_row_by) (sc := defScope s_row_by) (own := [("own", 7), ("more", 8)]) (by decide +kernel)) (fun _ _ _ _ _ => (dgc_tup rfl (dgsc_cons (dgc_name (i := 7) S_row_by.nd (by decide)) (dgsc_cons (dgc_name (i := 8) S_row_by.nd (by decide)) dgsc_nil)))) (fun _ _ _ _ _ => dts_nil) (fun _ _ _ _ _ => (de_mod (de_add (de_var 7) (de_mul (de_var 6) (de_var 8))) (de_var 0))) (sw_true rfl rfl rfl (by decide +kernel)))) dss_nil)))
  (dss_one (ds_ret (de_tuplec (da_cons (de_var 4) da_nil) m_tuple)))))
theorem ok_row_by {a_row_by : Addr} {fd_row_by : FuncData} (F : Fun K "row_by" "row_by" s_row_by a_row_by fd_row_by)
    (m_tuple : mg "tuple" = none)
    (m_zip : mg "zip" = none) :
    FnOk P w K mg base (L2.CX P w) 1 a_row_by fd_row_by ["prime", "rows", "factors", "length"] (spD K mg 4 g_row_by) :=
  fn_d (k := 0) (N := N_row_by) (ps := ["prime", "rows", "factors", "length"]) (gs := B_row_by) F S_row_by (by decide) (bd_row_by m_tuple m_zip)
theorem bd_product {a_product : Addr}
    (m_sum : mg "sum" = none)
    (m_zip : mg "zip" = none) :
    ∀ (cdv : Value) (A : Around) (outer : List PySem.Env) (s : Shared) (H : Hp) (E : XK), Room 0 (A.deeper (envOfC "product" (defScope s_product) s.heap.objs.size a_product cdv)) → DSs (CxD P w K mg base N_product "product" s_product a_product cdv A outer s H E) (fun cls d _ H => E cls d H) (defBody s_product) B_product := fun cdv A outer s H E hr =>
  (dss_one (ds_ret (de_mod (de_sum (da_cons (de_df (df_lc (own := [("own", 3), ("more", 4)]) rfl S_product.nd (di_zip m_zip (da_cons (de_var 1) (da_cons (de_var 2) da_nil))) (blkOk_by (N := N_product) (sc := defScope s_product) (own := [("own", 3), ("more", 4)]) (by decide +kernel)) (fun _ _ _ _ _ => (dgc_tup rfl (dgsc_cons (dgc_name (i := 3) S_product.nd (by decide)) (dgsc_cons (dgc_name (i := 4) S_product.nd (by decide)) dgsc_nil)))) (fun _ _ _ _ _ => dts_nil) (fun _ _ _ _ _ => (de_mul (de_var 3) (de_var 4))))) da_nil) m_sum) (de_var 0))))
theorem ok_product {a_product : Addr} {fd_product : FuncData} (F : Fun K "product" "product" s_product a_product fd_product)
    (m_sum : mg "sum" = none)
    (m_zip : mg "zip" = none) :
    FnOk P w K mg base (L2.CX P w) 1 a_product fd_product ["prime", "row", "other"] (spD K mg 3 g_product) :=
  fn_d (k := 0) (N := N_product) (ps := ["prime", "row", "other"]) (gs := B_product) F S_product (by decide) (bd_product m_sum m_zip)
theorem bd__law_box {a__law_box : Addr}
    (m_abs : mg "abs" = none)
    (m_int : mg "int" = none)
    (m_len : mg "len" = none) :
    ∀ (cdv : Value) (A : Around) (outer : List PySem.Env) (s : Shared) (H : Hp) (E : XK), Room 0 (A.deeper (envOfC "_law_box" (defScope s__law_box) s.heap.objs.size a__law_box cdv)) → DSs (CxD P w K mg base N__law_box "_law_box" s__law_box a__law_box cdv A outer s H E) (fun cls d _ H => E cls d H) (defBody s__law_box) B__law_box := fun cdv A outer s H E hr =>
  (dss_cons (ds_set (i := 2) S__law_box.nd (de_if (dt_lt (de_var 1) (de_len (da_cons (de_var 0) da_nil) m_len)) (de_ix (fun _ _ => rfl) (de_var 0) (de_var 1)) de_int))
  (dss_one (ds_retF (df_lst (da_cons (de_mul (de_abs (da_cons (de_var 2) da_nil) m_abs) (de_intc (da_cons (de_ge (de_abs (da_cons (de_var 2) da_nil) m_abs) (de_pow de_int de_int)) da_nil) m_int)) (da_cons (de_add (de_add (de_mod (de_intc (da_cons (de_var 2) da_nil) m_int) de_int) (de_mul de_int (de_var 1))) de_int) (da_cons de_int da_nil)))))))
theorem ok__law_box {a__law_box : Addr} {fd__law_box : FuncData} (F : Fun K "_law_box" "_law_box" s__law_box a__law_box fd__law_box)
    (m_abs : mg "abs" = none)
    (m_int : mg "int" = none)
    (m_len : mg "len" = none) :
    FnOk P w K mg base (L2.CX P w) 1 a__law_box fd__law_box ["script", "k"] (spF K mg 2 g__law_box) :=
  fn_f (k := 0) (N := N__law_box) (ps := ["script", "k"]) (gs := B__law_box) F S__law_box (by decide) (bd__law_box m_abs m_int m_len)
theorem bd__law_take {a__law_take : Addr}
    (m_int : mg "int" = none) :
    ∀ (cdv : Value) (A : Around) (outer : List PySem.Env) (s : Shared) (H : Hp) (E : XK), Room 0 (A.deeper (envOfC "_law_take" (defScope s__law_take) s.heap.objs.size a__law_take cdv)) → DSs (CxD P w K mg base N__law_take "_law_take" s__law_take a__law_take cdv A outer s H E) (fun cls d _ H => E cls d H) (defBody s__law_take) B__law_take := fun cdv A outer s H E hr =>
  (dss_cons (ds_if (dt_gt (de_ixo (i := 0) (fun _ _ => rfl) de_int) de_int) (dss_cons (ds_set (i := 2) S__law_take.nd (de_mod (de_intc (da_cons (de_ixo (i := 0) (fun _ _ => rfl) de_int) da_nil) m_int) (de_var 1)))
  (dss_cons (ds_sub (i := 0) (de_fdiv (de_ixo (i := 0) (fun _ _ => rfl) de_int) (de_var 1)) de_int)
  (dss_one (ds_ret (de_var 2))))) dss_nil)
  (dss_cons (ds_sub (i := 0) (de_add (de_ixo (i := 0) (fun _ _ => rfl) de_int) de_int) de_int)
  (dss_cons (ds_set (i := 3) S__law_take.nd (de_mod (de_intc (da_cons (de_mul (de_add (de_ixo (i := 0) (fun _ _ => rfl) de_int) (de_mul de_int (de_ixo (i := 0) (fun _ _ => rfl) de_int))) (de_add de_int (de_ixo (i := 0) (fun _ _ => rfl) de_int))) da_nil) m_int) de_int))
  (dss_cons (ds_set (i := 4) S__law_take.nd (de_add (de_mod (de_intc (da_cons (de_var 3) da_nil) m_int) de_int) de_int))
  (dss_cons (ds_set (i := 5) S__law_take.nd (de_mod (de_intc (da_cons (de_mul (de_add (de_add (de_var 3) (de_ixo (i := 0) (fun _ _ => rfl) de_int)) (de_fdiv (de_ixo (i := 0) (fun _ _ => rfl) de_int) de_int)) (de_var 4)) da_nil) m_int) de_int))
  (dss_one (ds_ret (de_mod (de_intc (da_cons (de_fdiv (de_mod (de_intc (da_cons (de_add (de_mul (de_var 5) de_int) (de_var 3)) da_nil) m_int) de_int) de_int) da_nil) m_int) (de_var 1)))))))))
theorem ok__law_take {a__law_take : Addr} {fd__law_take : FuncData} (F : Fun K "_law_take" "_law_take" s__law_take a__law_take fd__law_take)
    (m_int : mg "int" = none) :
    FnOk P w K mg base (L2.CX P w) 1 a__law_take fd__law_take ["tin", "below_so"] (spD K mg 2 g__law_take) :=
  fn_d (k := 0) (N := N__law_take) (ps := ["tin", "below_so"]) (gs := B__law_take) F S__law_take (by decide) (bd__law_take m_int)
theorem bd__law_cells {a__law_cells : Addr}
    (m_enumerate : mg "enumerate" = none)
    (m_int : mg "int" = none)
    (m_list : mg "list" = none) :
    ∀ (cdv : Value) (A : Around) (outer : List PySem.Env) (s : Shared) (H : Hp) (E : XK), Room 0 (A.deeper (envOfC "_law_cells" (defScope s__law_cells) s.heap.objs.size a__law_cells cdv)) → DSs (CxD P w K mg base N__law_cells "_law_cells" s__law_cells a__law_cells cdv A outer s H E) (fun cls d _ H => E cls d H) (defBody s__law_cells) B__law_cells := fun cdv A outer s H E hr =>
  (dss_cons (ds_own (i := 2) S__law_cells.nd (df_or (df_list (da_cons (de_slice (de_var 0) do_none (do_some (de_var 1))) da_nil) m_list) (df_one (df_lst (da_cons de_int da_nil)))))
  (dss_cons (ds_for own_cx rfl (di_enum m_enumerate (da_cons (de_slice (de_var 0) (do_some (de_var 1)) (do_some de_int)) da_nil)) (dg_tup rfl (dgs_cons (dg_name (i := 3) S__law_cells.nd) (dgs_cons (dg_name (i := 4) S__law_cells.nd) dgs_nil))) (dss_cons (ds_set (i := 5) S__law_cells.nd (de_mod (de_intc (da_cons (de_var 3) da_nil) m_int) (de_var 1)))
  (dss_one (ds_sub (i := 2) (de_add (de_ixo (i := 2) (fun _ _ => rfl) (de_var 5)) (de_mul (de_var 4) (de_add (de_var 3) de_int))) (de_var 5)))))
  (dss_one (ds_ret (de_var 2)))))
theorem ok__law_cells {a__law_cells : Addr} {fd__law_cells : FuncData} (F : Fun K "_law_cells" "_law_cells" s__law_cells a__law_cells fd__law_cells)
    (m_enumerate : mg "enumerate" = none)
    (m_int : mg "int" = none)
    (m_list : mg "list" = none) :
    FnOk P w K mg base (L2.CX P w) 1 a__law_cells fd__law_cells ["script", "most_so"] (spD K mg 2 g__law_cells) :=
  fn_d (k := 0) (N := N__law_cells) (ps := ["script", "most_so"]) (gs := B__law_cells) F S__law_cells (by decide) (bd__law_cells m_enumerate m_int m_list)
theorem bd__law_of {a__law_of : Addr}
    {a__law_take : Addr} {fd__law_take : FuncData} (F__law_take : FnOk P w K mg base (L2.CX P w) 1 a__law_take fd__law_take ["tin", "below_so"] (spD K mg 2 g__law_take)) (e__law_take : mg "_law_take" = some (.ref a__law_take)) (k__law_take : PySem.W.keepIn K (.ref a__law_take) = true) (b__law_take : Binds K fd__law_take ["tin", "below_so"] [])
    (m_len : mg "len" = none) :
    ∀ (cdv : Value) (A : Around) (outer : List PySem.Env) (s : Shared) (H : Hp) (E : XK), Room 1 (A.deeper (envOfC "_law_of" (defScope s__law_of) s.heap.objs.size a__law_of cdv)) → DSs (CxD P w K mg base N__law_of "_law_of" s__law_of a__law_of cdv A outer s H E) (fun cls d _ H => E cls d H) (defBody s__law_of) B__law_of := fun cdv A outer s H E hr =>
  (dss_one (ds_ret (de_ix (fun _ _ => rfl) (de_var 1) (de_callO (i := 0) F__law_take (hr.mono (by decide)) e__law_take k__law_take b__law_take pass_cx (da_cons (de_len (da_cons (de_var 1) da_nil) m_len) da_nil) (alenO (alenS alen0))))))
theorem ok__law_of {a__law_of : Addr} {fd__law_of : FuncData} (F : Fun K "_law_of" "_law_of" s__law_of a__law_of fd__law_of)
    {a__law_take : Addr} {fd__law_take : FuncData} (F__law_take : FnOk P w K mg base (L2.CX P w) 1 a__law_take fd__law_take ["tin", "below_so"] (spD K mg 2 g__law_take)) (e__law_take : mg "_law_take" = some (.ref a__law_take)) (k__law_take : PySem.W.keepIn K (.ref a__law_take) = true) (b__law_take : Binds K fd__law_take ["tin", "below_so"] [])
    (m_len : mg "len" = none) :
    FnOk P w K mg base (L2.CX P w) 2 a__law_of fd__law_of ["tin", "goods_so"] (spD K mg 2 g__law_of) :=
  fn_d (k := 1) (N := N__law_of) (ps := ["tin", "goods_so"]) (gs := B__law_of) F S__law_of (by decide) (bd__law_of F__law_take e__law_take k__law_take b__law_take m_len)
theorem bd__law_of2 {a__law_of : Addr}
    {a__law_take : Addr} {fd__law_take : FuncData} (F__law_take : FnOk P w K mg base (L2.CX P w) 1 a__law_take fd__law_take ["tin", "below_so"] (spD K mg 2 g__law_take)) (e__law_take : mg "_law_take" = some (.ref a__law_take)) (k__law_take : PySem.W.keepIn K (.ref a__law_take) = true) (b__law_take : Binds K fd__law_take ["tin", "below_so"] [])
    (m_len : mg "len" = none) :
    ∀ (cdv : Value) (A : Around) (outer : List PySem.Env) (s : Shared) (H : Hp) (E : XK), Room 1 (A.deeper (envOfC "_law_of" (defScope s__law_of) s.heap.objs.size a__law_of cdv)) → DSs (CxD P w K mg base N__law_of "_law_of" s__law_of a__law_of cdv A outer s H E) (fun cls d _ H => E cls d H) (defBody s__law_of) B__law_of2 := fun cdv A outer s H E hr =>
  (dss_one (ds_ret (de_ixo (i := 1) (fun _ _ => rfl) (de_callO (i := 0) F__law_take (hr.mono (by decide)) e__law_take k__law_take b__law_take pass_cx (da_cons (de_leno (i := 1) m_len) da_nil) (alenO (alenS alen0))))))
theorem ok__law_of2 {a__law_of : Addr} {fd__law_of : FuncData} (F : Fun K "_law_of" "_law_of" s__law_of a__law_of fd__law_of)
    {a__law_take : Addr} {fd__law_take : FuncData} (F__law_take : FnOk P w K mg base (L2.CX P w) 1 a__law_take fd__law_take ["tin", "below_so"] (spD K mg 2 g__law_take)) (e__law_take : mg "_law_take" = some (.ref a__law_take)) (k__law_take : PySem.W.keepIn K (.ref a__law_take) = true) (b__law_take : Binds K fd__law_take ["tin", "below_so"] [])
    (m_len : mg "len" = none) :
    FnOk P w K mg base (L2.CX P w) 2 a__law_of fd__law_of ["tin", "goods_so"] (spD K mg 2 g__law_of2) :=
  fn_d (k := 1) (N := N__law_of) (ps := ["tin", "goods_so"]) (gs := B__law_of2) F S__law_of (by decide) (bd__law_of2 F__law_take e__law_take k__law_take b__law_take m_len)
theorem st__law_lists {a__law_lists : Addr} {fd__law_lists : FuncData} (F : Fun K "_law_lists" "_law_lists" s__law_lists a__law_lists fd__law_lists) {n : Nat} (F__law_lists : FnOk P w K mg base (L2.CX P w) n a__law_lists fd__law_lists ["matter"] (spD K mg 1 (gr__law_lists n))) (e__law_lists : mg "_law_lists" = some (.ref a__law_lists)) (k__law_lists : PySem.W.keepIn K (.ref a__law_lists) = true) (b__law_lists : Binds K fd__law_lists ["matter"] [])
    (m_isinstance : mg "isinstance" = none)
    (m_list : mg "list" = none)
    (m_tuple : mg "tuple" = none) :
    FnOk P w K mg base (L2.CX P w) (n + 0 + 1) a__law_lists fd__law_lists ["matter"] (spD K mg 1 (gr__law_lists (n + 1))) :=
  fn_d F S__law_lists (by decide) fun cdv A outer s H E hr =>
  (dss_one (ds_ret (de_if (dt_tru (de_isi2 "list" "tuple" (by decide) (by decide) m_isinstance m_list bt_list m_tuple bt_tuple (de_var 0))) (de_df (df_lc (own := [("bit", 1)]) rfl S__law_lists.nd (di_seq (de_var 0)) (blkOk_by (N := N__law_lists) (sc := defScope s__law_lists) (own := [("bit", 1)]) (by decide +kernel)) (fun _ _ _ _ _ => (dgc_name (i := 1) S__law_lists.nd (by decide))) (fun _ _ _ _ _ => dts_nil) (fun _ _ _ _ _ => (de_call F__law_lists (hr.mono (Nat.le_refl _)) e__law_lists k__law_lists b__law_lists pass0 (da_cons (de_var 1) da_nil) (alenS alen0))))) (de_var 0))))
theorem ok__law_lists {a__law_lists : Addr} {fd__law_lists : FuncData} (F : Fun K "_law_lists" "_law_lists" s__law_lists a__law_lists fd__law_lists) (e__law_lists : mg "_law_lists" = some (.ref a__law_lists)) (k__law_lists : PySem.W.keepIn K (.ref a__law_lists) = true) (b__law_lists : Binds K fd__law_lists ["matter"] [])
    (m_isinstance : mg "isinstance" = none)
    (m_list : mg "list" = none)
    (m_tuple : mg "tuple" = none) :
    FnOk P w K mg base (L2.CX P w) 8 a__law_lists fd__law_lists ["matter"] (spD K mg 1 g__law_lists) := by
  have go : ∀ n, FnOk P w K mg base (L2.CX P w) n a__law_lists fd__law_lists ["matter"] (spD K mg 1 (gr__law_lists n)) := fun n => by
    induction n with
    | zero => exact fn_none
    | succ n ih => exact st__law_lists F ih e__law_lists k__law_lists b__law_lists m_isinstance m_list m_tuple
  exact go 8
theorem st__law_same {a__law_same : Addr} {fd__law_same : FuncData} (F : Fun K "_law_same" "_law_same" s__law_same a__law_same fd__law_same) {n : Nat} (F__law_same : FnOk P w K mg base (L2.CX P w) n a__law_same fd__law_same ["got", "due"] (spD K mg 2 (gr__law_same n))) (e__law_same : mg "_law_same" = some (.ref a__law_same)) (k__law_same : PySem.W.keepIn K (.ref a__law_same) = true) (b__law_same : Binds K fd__law_same ["got", "due"] [])
    (m_all : mg "all" = none)
    (m_bool : mg "bool" = none)
    (m_int : mg "int" = none)
    (m_isinstance : mg "isinstance" = none)
    (m_len : mg "len" = none)
    (m_list : mg "list" = none)
    (m_str : mg "str" = none)
    (m_tuple : mg "tuple" = none)
    (m_zip : mg "zip" = none) :
    FnOk P w K mg base (L2.CX P w) (n + 0 + 1) a__law_same fd__law_same ["got", "due"] (spD K mg 2 (gr__law_same (n + 1))) :=
  fn_d F S__law_same (by decide) fun cdv A outer s H E hr =>
  (dss_cons (ds_if (dt_tru (de_isi2 "list" "tuple" (by decide) (by decide) m_isinstance m_list bt_list m_tuple bt_tuple (de_var 1))) (dss_cons (ds_if (dt_w (dw_or (dt_ne (hu64 hr) (de_isi1 "list" (by decide) m_isinstance m_list bt_list (de_var 0)) (de_isi1 "list" (by decide) m_isinstance m_list bt_list (de_var 1))) (dw_or1 (dt_ne (hu64 hr) (de_isi1 "tuple" (by decide) m_isinstance m_tuple bt_tuple (de_var 0)) (de_isi1 "tuple" (by decide) m_isinstance m_tuple bt_tuple (de_var 1)))))) (dss_one (ds_ret de_bl)) dss_nil)
  (dss_one (ds_ret (de_and (de_eq (hu64 hr) (de_len (da_cons (de_var 0) da_nil) m_len) (de_len (da_cons (de_var 1) da_nil) m_len)) (de_one (de_all (da_cons (de_df (df_lc (own := [("mine", 2), ("its", 3)]) rfl S__law_same.nd (di_zip m_zip (da_cons (de_var 0) (da_cons (de_var 1) da_nil))) (blkOk_by (N := N__law_same) (sc := defScope s__law_same) (own := [("mine", 2), ("its", 3)]) (by decide +kernel)) (fun _ _ _ _ _ => (dgc_tup rfl (dgsc_cons (dgc_name (i := 2) S__law_same.nd (by decide)) (dgsc_cons (dgc_name (i := 3) S__law_same.nd (by decide)) dgsc_nil)))) (fun _ _ _ _ _ => dts_nil) (fun _ _ _ _ _ => (de_call F__law_same (hr.mono (Nat.le_refl _)) e__law_same k__law_same b__law_same pass0 (da_cons (de_var 2) (da_cons (de_var 3) da_nil)) (alenS (alenS alen0)))))) da_nil) m_all)))))) dss_nil)
  (dss_cons (ds_if (dt_w (dw_or (dt_is (de_var 1) de_non) (dw_or1 (dt_tru (de_isi2 "bool" "str" (by decide) (by decide) m_isinstance m_bool bt_bool m_str bt_str (de_var 1)))))) (dss_one (ds_ret (de_and (de_eq (hu64 hr) (de_var 0) (de_var 1)) (de_and (de_eq (hu64 hr) (de_isi1 "bool" (by decide) m_isinstance m_bool bt_bool (de_var 0)) (de_isi1 "bool" (by decide) m_isinstance m_bool bt_bool (de_var 1))) (de_one (de_eq (hu64 hr) (de_is (de_var 0) de_non) (de_is (de_var 1) de_non))))))) dss_nil)
  (dss_one (ds_ret (de_and (de_isi1 "int" (by decide) m_isinstance m_int bt_int (de_var 0)) (de_and (de_not (de_isi1 "bool" (by decide) m_isinstance m_bool bt_bool (de_var 0))) (de_one (de_eq (hu64 hr) (de_var 0) (de_var 1)))))))))
theorem ok__law_same {a__law_same : Addr} {fd__law_same : FuncData} (F : Fun K "_law_same" "_law_same" s__law_same a__law_same fd__law_same) (e__law_same : mg "_law_same" = some (.ref a__law_same)) (k__law_same : PySem.W.keepIn K (.ref a__law_same) = true) (b__law_same : Binds K fd__law_same ["got", "due"] [])
    (m_all : mg "all" = none)
    (m_bool : mg "bool" = none)
    (m_int : mg "int" = none)
    (m_isinstance : mg "isinstance" = none)
    (m_len : mg "len" = none)
    (m_list : mg "list" = none)
    (m_str : mg "str" = none)
    (m_tuple : mg "tuple" = none)
    (m_zip : mg "zip" = none) :
    FnOk P w K mg base (L2.CX P w) 8 a__law_same fd__law_same ["got", "due"] (spD K mg 2 g__law_same) := by
  have go : ∀ n, FnOk P w K mg base (L2.CX P w) n a__law_same fd__law_same ["got", "due"] (spD K mg 2 (gr__law_same n)) := fun n => by
    induction n with
    | zero => exact fn_none
    | succ n ih => exact st__law_same F ih e__law_same k__law_same b__law_same m_all m_bool m_int m_isinstance m_len m_list m_str m_tuple m_zip
  exact go 8
theorem bd__law_plus {a__law_plus : Addr}
    (m_int : mg "int" = none)
    (m_tuple : mg "tuple" = none)
    (m_zip : mg "zip" = none) :
    ∀ (cdv : Value) (A : Around) (outer : List PySem.Env) (s : Shared) (H : Hp) (E : XK), Room 0 (A.deeper (envOfC "_law_plus" (defScope s__law_plus) s.heap.objs.size a__law_plus cdv)) → DSs (CxD P w K mg base N__law_plus "_law_plus" s__law_plus a__law_plus cdv A outer s H E) (fun cls d _ H => E cls d H) (defBody s__law_plus) B__law_plus := fun cdv A outer s H E hr =>
  (dss_one (ds_ret (de_tuplec (da_cons (de_df (df_lc (own := [("own", 4), ("its", 5)]) rfl S__law_plus.nd (di_zip m_zip (da_cons (de_var 1) (da_cons (de_var 2) da_nil))) (blkOk_by (N := N__law_plus) (sc := defScope s__law_plus) (own := [("own", 4), ("its", 5)]) (by decide +kernel)) (fun _ _ _ _ _ => (dgc_tup rfl (dgsc_cons (dgc_name (i := 4) S__law_plus.nd (by decide)) (dgsc_cons (dgc_name (i := 5) S__law_plus.nd (by decide)) dgsc_nil)))) (fun _ _ _ _ _ => dts_nil) (fun _ _ _ _ _ => (de_mod (de_intc (da_cons (de_add (de_var 4) (de_mul (de_var 3) (de_var 5))) da_nil) m_int) (de_var 0))))) da_nil) m_tuple)))
theorem ok__law_plus {a__law_plus : Addr} {fd__law_plus : FuncData} (F : Fun K "_law_plus" "_law_plus" s__law_plus a__law_plus fd__law_plus)
    (m_int : mg "int" = none)
    (m_tuple : mg "tuple" = none)
    (m_zip : mg "zip" = none) :
    FnOk P w K mg base (L2.CX P w) 1 a__law_plus fd__law_plus ["p", "one_so", "two_so", "factor_so"] (spD K mg 4 g__law_plus) :=
  fn_d (k := 0) (N := N__law_plus) (ps := ["p", "one_so", "two_so", "factor_so"]) (gs := B__law_plus) F S__law_plus (by decide) (bd__law_plus m_int m_tuple m_zip)
theorem bd__law_mixed {a__law_mixed : Addr}
    {a__law_plus : Addr} {fd__law_plus : FuncData} (F__law_plus : FnOk P w K mg base (L2.CX P w) 1 a__law_plus fd__law_plus ["p", "one_so", "two_so", "factor_so"] (spD K mg 4 g__law_plus)) (e__law_plus : mg "_law_plus" = some (.ref a__law_plus)) (k__law_plus : PySem.W.keepIn K (.ref a__law_plus) = true) (b__law_plus : Binds K fd__law_plus ["p", "one_so", "two_so", "factor_so"] [])
    (m_zip : mg "zip" = none) :
    ∀ (cdv : Value) (A : Around) (outer : List PySem.Env) (s : Shared) (H : Hp) (E : XK), Room 1 (A.deeper (envOfC "_law_mixed" (defScope s__law_mixed) s.heap.objs.size a__law_mixed cdv)) → DSs (CxD P w K mg base N__law_mixed "_law_mixed" s__law_mixed a__law_mixed cdv A outer s H E) (fun cls d _ H => E cls d H) (defBody s__law_mixed) B__law_mixed := fun cdv A outer s H E hr =>
  (dss_cons (ds_set (i := 4) S__law_mixed.nd (de_mul (de_tup (da_cons de_int da_nil)) (de_var 3)))
  (dss_cons (ds_for own_cx rfl (di_zip m_zip (da_cons (de_var 1) (da_cons (de_var 2) da_nil))) (dg_tup rfl (dgs_cons (dg_name (i := 5) S__law_mixed.nd) (dgs_cons (dg_name (i := 6) S__law_mixed.nd) dgs_nil))) (dss_one (ds_set (i := 4) S__law_mixed.nd (de_call F__law_plus (hr.mono (by decide)) e__law_plus k__law_plus b__law_plus pass_cx (da_cons (de_var 0) (da_cons (de_var 4) (da_cons (de_var 5) (da_cons (de_var 6) da_nil)))) (alenS (alenS (alenS (alenS alen0))))))))
  (dss_one (ds_ret (de_var 4)))))
theorem ok__law_mixed {a__law_mixed : Addr} {fd__law_mixed : FuncData} (F : Fun K "_law_mixed" "_law_mixed" s__law_mixed a__law_mixed fd__law_mixed)
    {a__law_plus : Addr} {fd__law_plus : FuncData} (F__law_plus : FnOk P w K mg base (L2.CX P w) 1 a__law_plus fd__law_plus ["p", "one_so", "two_so", "factor_so"] (spD K mg 4 g__law_plus)) (e__law_plus : mg "_law_plus" = some (.ref a__law_plus)) (k__law_plus : PySem.W.keepIn K (.ref a__law_plus) = true) (b__law_plus : Binds K fd__law_plus ["p", "one_so", "two_so", "factor_so"] [])
    (m_zip : mg "zip" = none) :
    FnOk P w K mg base (L2.CX P w) 2 a__law_mixed fd__law_mixed ["p", "vectors_so", "factors_so", "wide_so"] (spD K mg 4 g__law_mixed) :=
  fn_d (k := 1) (N := N__law_mixed) (ps := ["p", "vectors_so", "factors_so", "wide_so"]) (gs := B__law_mixed) F S__law_mixed (by decide) (bd__law_mixed F__law_plus e__law_plus k__law_plus b__law_plus m_zip)
theorem bd__law_times {a__law_times : Addr}
    (m_int : mg "int" = none)
    (m_sum : mg "sum" = none)
    (m_zip : mg "zip" = none) :
    ∀ (cdv : Value) (A : Around) (outer : List PySem.Env) (s : Shared) (H : Hp) (E : XK), Room 0 (A.deeper (envOfC "_law_times" (defScope s__law_times) s.heap.objs.size a__law_times cdv)) → DSs (CxD P w K mg base N__law_times "_law_times" s__law_times a__law_times cdv A outer s H E) (fun cls d _ H => E cls d H) (defBody s__law_times) B__law_times := fun cdv A outer s H E hr =>
  (dss_one (ds_ret (de_mod (de_intc (da_cons (de_sum (da_cons (de_df (df_lc (own := [("own", 3), ("its", 4)]) rfl S__law_times.nd (di_zip m_zip (da_cons (de_var 1) (da_cons (de_var 2) da_nil))) (blkOk_by (N := N__law_times) (sc := defScope s__law_times) (own := [("own", 3), ("its", 4)]) (by decide +kernel)) (fun _ _ _ _ _ => (dgc_tup rfl (dgsc_cons (dgc_name (i := 3) S__law_times.nd (by decide)) (dgsc_cons (dgc_name (i := 4) S__law_times.nd (by decide)) dgsc_nil)))) (fun _ _ _ _ _ => dts_nil) (fun _ _ _ _ _ => (de_mul (de_var 3) (de_var 4))))) da_nil) m_sum) da_nil) m_int) (de_var 0))))
theorem ok__law_times {a__law_times : Addr} {fd__law_times : FuncData} (F : Fun K "_law_times" "_law_times" s__law_times a__law_times fd__law_times)
    (m_int : mg "int" = none)
    (m_sum : mg "sum" = none)
    (m_zip : mg "zip" = none) :
    FnOk P w K mg base (L2.CX P w) 1 a__law_times fd__law_times ["p", "one_so", "two_so"] (spD K mg 3 g__law_times) :=
  fn_d (k := 0) (N := N__law_times) (ps := ["p", "one_so", "two_so"]) (gs := B__law_times) F S__law_times (by decide) (bd__law_times m_int m_sum m_zip)
theorem bd__law_drawn_vectors {a__law_drawn_vectors : Addr}
    {a__law_of : Addr} {fd__law_of : FuncData} (F__law_of : FnOk P w K mg base (L2.CX P w) 2 a__law_of fd__law_of ["tin", "goods_so"] (spD K mg 2 g__law_of)) (e__law_of : mg "_law_of" = some (.ref a__law_of)) (k__law_of : PySem.W.keepIn K (.ref a__law_of) = true) (b__law_of : Binds K fd__law_of ["tin", "goods_so"] []) (F__law_of2 : FnOk P w K mg base (L2.CX P w) 2 a__law_of fd__law_of ["tin", "goods_so"] (spD K mg 2 g__law_of2))
    {a__law_plus : Addr} {fd__law_plus : FuncData} (F__law_plus : FnOk P w K mg base (L2.CX P w) 1 a__law_plus fd__law_plus ["p", "one_so", "two_so", "factor_so"] (spD K mg 4 g__law_plus)) (e__law_plus : mg "_law_plus" = some (.ref a__law_plus)) (k__law_plus : PySem.W.keepIn K (.ref a__law_plus) = true) (b__law_plus : Binds K fd__law_plus ["p", "one_so", "two_so", "factor_so"] [])
    {a__law_take : Addr} {fd__law_take : FuncData} (F__law_take : FnOk P w K mg base (L2.CX P w) 1 a__law_take fd__law_take ["tin", "below_so"] (spD K mg 2 g__law_take)) (e__law_take : mg "_law_take" = some (.ref a__law_take)) (k__law_take : PySem.W.keepIn K (.ref a__law_take) = true) (b__law_take : Binds K fd__law_take ["tin", "below_so"] [])
    (m_range : mg "range" = none)
    (m_tuple : mg "tuple" = none) :
    ∀ (cdv : Value) (A : Around) (outer : List PySem.Env) (s : Shared) (H : Hp) (E : XK), Room 2 (A.deeper (envOfC "_law_drawn_vectors" (defScope s__law_drawn_vectors) s.heap.objs.size a__law_drawn_vectors cdv)) → DSs (CxD P w K mg base N__law_drawn_vectors "_law_drawn_vectors" s__law_drawn_vectors a__law_drawn_vectors cdv A outer s H E) (fun cls d _ H => E cls d H) (defBody s__law_drawn_vectors) B__law_drawn_vectors := fun cdv A outer s H E hr =>
  (dss_cons (ds_own (i := 4) S__law_drawn_vectors.nd (df_lst da_nil))
  (dss_cons (ds_for own_cx rfl (di_range1 m_range (da_cons (de_var 2) da_nil)) (dg_name (i := 5) S__law_drawn_vectors.nd) (dss_cons (ds_set (i := 6) S__law_drawn_vectors.nd (de_callO (i := 0) F__law_take (hr.mono (by decide)) e__law_take k__law_take b__law_take pass_cx (da_cons de_int da_nil) (alenO (alenS alen0))))
  (dss_one (ds_if (dt_eq (hu64 hr) (de_var 6) de_int) (dss_one (ds_app (i := 4) (de_mul (de_tup (da_cons de_int da_nil)) (de_var 3)))) (dss_one (ds_if (dt_w (dw_and (dt_eq (hu64 hr) (de_var 6) de_int) (dw_and1 (dt_cmpo (i := 4) opd_ne (op_neD (hu64 hr)) (nomark _) (de_df (df_lst da_nil)))))) (dss_one (ds_app (i := 4) (de_call F__law_plus (hr.mono (by decide)) e__law_plus k__law_plus b__law_plus pass_cx (da_cons (de_var 1) (da_cons (de_mul (de_tup (da_cons de_int da_nil)) (de_var 3)) (da_cons (de_call2 (i := 0) (j := 4) F__law_of2 (hr.mono (by decide)) e__law_of k__law_of b__law_of pass_cx) (da_cons (de_callO (i := 0) F__law_take (hr.mono (by decide)) e__law_take k__law_take b__law_take pass_cx (da_cons (de_var 1) da_nil) (alenO (alenS alen0))) da_nil)))) (alenS (alenS (alenS (alenS alen0))))))) (dss_one (ds_app (i := 4) (de_tuplec (da_cons (de_df (df_lc (own := [("k", 7)]) rfl S__law_drawn_vectors.nd (di_range1 m_range (da_cons (de_var 3) da_nil)) (blkOk_by (N := N__law_drawn_vectors) (sc := defScope s__law_drawn_vectors) (own := [("k", 7)]) (by decide +kernel)) (fun _ _ _ _ _ => (dgc_name (i := 7) S__law_drawn_vectors.nd (by decide))) (fun _ _ _ _ _ => dts_nil) (fun _ _ _ _ _ => (de_callO (i := 0) F__law_take (hr.mono (by decide)) e__law_take k__law_take b__law_take pass0 (da_cons (de_var 1) da_nil) (alenO (alenS alen0)))))) da_nil) m_tuple)))))))))
  (dss_one (ds_ret (de_tuplec (da_cons (de_var 4) da_nil) m_tuple)))))
theorem ok__law_drawn_vectors {a__law_drawn_vectors : Addr} {fd__law_drawn_vectors : FuncData} (F : Fun K "_law_drawn_vectors" "_law_drawn_vectors" s__law_drawn_vectors a__law_drawn_vectors fd__law_drawn_vectors)
    {a__law_of : Addr} {fd__law_of : FuncData} (F__law_of : FnOk P w K mg base (L2.CX P w) 2 a__law_of fd__law_of ["tin", "goods_so"] (spD K mg 2 g__law_of)) (e__law_of : mg "_law_of" = some (.ref a__law_of)) (k__law_of : PySem.W.keepIn K (.ref a__law_of) = true) (b__law_of : Binds K fd__law_of ["tin", "goods_so"] []) (F__law_of2 : FnOk P w K mg base (L2.CX P w) 2 a__law_of fd__law_of ["tin", "goods_so"] (spD K mg 2 g__law_of2))
    {a__law_plus : Addr} {fd__law_plus : FuncData} (F__law_plus : FnOk P w K mg base (L2.CX P w) 1 a__law_plus fd__law_plus ["p", "one_so", "two_so", "factor_so"] (spD K mg 4 g__law_plus)) (e__law_plus : mg "_law_plus" = some (.ref a__law_plus)) (k__law_plus : PySem.W.keepIn K (.ref a__law_plus) = true) (b__law_plus : Binds K fd__law_plus ["p", "one_so", "two_so", "factor_so"] [])
    {a__law_take : Addr} {fd__law_take : FuncData} (F__law_take : FnOk P w K mg base (L2.CX P w) 1 a__law_take fd__law_take ["tin", "below_so"] (spD K mg 2 g__law_take)) (e__law_take : mg "_law_take" = some (.ref a__law_take)) (k__law_take : PySem.W.keepIn K (.ref a__law_take) = true) (b__law_take : Binds K fd__law_take ["tin", "below_so"] [])
    (m_range : mg "range" = none)
    (m_tuple : mg "tuple" = none) :
    FnOk P w K mg base (L2.CX P w) 3 a__law_drawn_vectors fd__law_drawn_vectors ["tin", "p", "count_so", "wide_so"] (spD K mg 4 g__law_drawn_vectors) :=
  fn_d (k := 2) (N := N__law_drawn_vectors) (ps := ["tin", "p", "count_so", "wide_so"]) (gs := B__law_drawn_vectors) F S__law_drawn_vectors (by decide) (bd__law_drawn_vectors F__law_of e__law_of k__law_of b__law_of F__law_of2 F__law_plus e__law_plus k__law_plus b__law_plus F__law_take e__law_take k__law_take b__law_take m_range m_tuple)
theorem bd__law_heard {a__law_heard : Addr}
    {a_inverse : Addr} {fd_inverse : FuncData} (F_inverse : FnOk P w K mg base (L2.CX P w) 1 a_inverse fd_inverse ["prime", "residue"] (spD K mg 2 g_inverse)) (e_inverse : mg "inverse" = some (.ref a_inverse)) (k_inverse : PySem.W.keepIn K (.ref a_inverse) = true) (b_inverse : Binds K fd_inverse ["prime", "residue"] [])
    (m_ValueError : mg "ValueError" = none)
    (m_isinstance : mg "isinstance" = none)
    {C_Unfit : Addr} {B_Unfit n_Unfit i_Unfit : String} {bm_Unfit : List Value} (X_Unfit : ExcT K mg "Unfit" C_Unfit B_Unfit n_Unfit i_Unfit bm_Unfit)
    (Xc_Unfit : ExcC K C_Unfit) (Xs_Unfit : PySem.W.exmOne K (.ref C_Unfit) (.ref C_Unfit) = some true) (Xk_Unfit : PySem.W.kitOne K (.ref C_Unfit) (.type "ValueError") = some true) :
    ∀ (cdv : Value) (A : Around) (outer : List PySem.Env) (s : Shared) (H : Hp) (E : XK), Room 1 (A.deeper (envOfC "_law_heard" (defScope s__law_heard) s.heap.objs.size a__law_heard cdv)) → DSs (CxD P w K mg base N__law_heard "_law_heard" s__law_heard a__law_heard cdv A outer s H E) (fun cls d _ H => E cls d H) (defBody s__law_heard) B__law_heard := fun cdv A outer s H E hr =>
  (dss_cons (ds_asg (de_tup (da_cons de_non (da_cons de_non da_nil))) (dg_tup rfl (dgs_cons (dg_name (i := 2) S__law_heard.nd) (dgs_cons (dg_name (i := 3) S__law_heard.nd) dgs_nil))))
  (dss_cons (ds_try_set (i := 4) (j := 2) (C := C_Unfit) rfl rfl S__law_heard.nd (takes_of rfl rfl rfl rfl) ⟨rfl, by decide, .inl X_Unfit.g⟩ X_Unfit.g Xs_Unfit
    (fun W' pn xe tk' => (dss_one (ds_set (i := 3) S__law_heard.nd (de_call F_inverse (hr.mono (by decide)) e_inverse k_inverse b_inverse (fun σ => passAt tk' σ) (da_cons (de_var 0) (da_cons (de_var 1) da_nil)) (alenS (alenS alen0))))))
    (dx_str (dx_isi "ValueError" (fun C h => by cases X_Unfit.g.symm.trans h; exact ⟨Xc_Unfit, Xk_Unfit⟩) m_isinstance m_ValueError (ExcClass.boot excClass_ValueError) dx_nil)))
  (dss_one (ds_ret (de_if (dt_is (de_var 2) de_non) (de_var 3) (de_var 2))))))
theorem ok__law_heard {a__law_heard : Addr} {fd__law_heard : FuncData} (F : Fun K "_law_heard" "_law_heard" s__law_heard a__law_heard fd__law_heard)
    {a_inverse : Addr} {fd_inverse : FuncData} (F_inverse : FnOk P w K mg base (L2.CX P w) 1 a_inverse fd_inverse ["prime", "residue"] (spD K mg 2 g_inverse)) (e_inverse : mg "inverse" = some (.ref a_inverse)) (k_inverse : PySem.W.keepIn K (.ref a_inverse) = true) (b_inverse : Binds K fd_inverse ["prime", "residue"] [])
    (m_ValueError : mg "ValueError" = none)
    (m_isinstance : mg "isinstance" = none)
    {C_Unfit : Addr} {B_Unfit n_Unfit i_Unfit : String} {bm_Unfit : List Value} (X_Unfit : ExcT K mg "Unfit" C_Unfit B_Unfit n_Unfit i_Unfit bm_Unfit)
    (Xc_Unfit : ExcC K C_Unfit) (Xs_Unfit : PySem.W.exmOne K (.ref C_Unfit) (.ref C_Unfit) = some true) (Xk_Unfit : PySem.W.kitOne K (.ref C_Unfit) (.type "ValueError") = some true) :
    FnOk P w K mg base (L2.CX P w) 2 a__law_heard fd__law_heard ["p", "n"] (spD K mg 2 g__law_heard) :=
  fn_d (k := 1) (N := N__law_heard) (ps := ["p", "n"]) (gs := B__law_heard) F S__law_heard (by decide) (bd__law_heard F_inverse e_inverse k_inverse b_inverse m_ValueError m_isinstance X_Unfit Xc_Unfit Xs_Unfit Xk_Unfit)
theorem bd__law_by_hand_right {a__law_by_hand_right : Addr}
    {a__law_heard : Addr} {fd__law_heard : FuncData} (F__law_heard : FnOk P w K mg base (L2.CX P w) 2 a__law_heard fd__law_heard ["p", "n"] (spD K mg 2 g__law_heard)) (e__law_heard : mg "_law_heard" = some (.ref a__law_heard)) (k__law_heard : PySem.W.keepIn K (.ref a__law_heard) = true) (b__law_heard : Binds K fd__law_heard ["p", "n"] [])
    {a__law_same : Addr} {fd__law_same : FuncData} (F__law_same : FnOk P w K mg base (L2.CX P w) 8 a__law_same fd__law_same ["got", "due"] (spD K mg 2 g__law_same)) (e__law_same : mg "_law_same" = some (.ref a__law_same)) (k__law_same : PySem.W.keepIn K (.ref a__law_same) = true) (b__law_same : Binds K fd__law_same ["got", "due"] [])
    {a_inverse : Addr} {fd_inverse : FuncData} (F_inverse : FnOk P w K mg base (L2.CX P w) 1 a_inverse fd_inverse ["prime", "residue"] (spD K mg 2 g_inverse)) (e_inverse : mg "inverse" = some (.ref a_inverse)) (k_inverse : PySem.W.keepIn K (.ref a_inverse) = true) (b_inverse : Binds K fd_inverse ["prime", "residue"] []) (kb_inverse_10 : ∀ ws : List Value, ws.length = 2 → bindArgs fd_inverse ⟨[], List.zip (["residue", "prime"] : List Str) ws⟩ = (pure (List.zip (["prime", "residue"] : List Str) (pick [1, 0] ws)) : Sem (List (Str × Value))))
    {a_is_row : Addr} {fd_is_row : FuncData} (F_is_row : FnOk P w K mg base (L2.CX P w) 3 a_is_row fd_is_row ["thing", "prime", "length"] (spD K mg 3 g_is_row)) (e_is_row : mg "is_row" = some (.ref a_is_row)) (k_is_row : PySem.W.keepIn K (.ref a_is_row) = true) (b_is_row : Binds K fd_is_row ["thing", "prime", "length"] []) (kb_is_row_210 : ∀ ws : List Value, ws.length = 3 → bindArgs fd_is_row ⟨[], List.zip (["length", "prime", "thing"] : List Str) ws⟩ = (pure (List.zip (["thing", "prime", "length"] : List Str) (pick [2, 1, 0] ws)) : Sem (List (Str × Value))))
    {a_product : Addr} {fd_product : FuncData} (F_product : FnOk P w K mg base (L2.CX P w) 1 a_product fd_product ["prime", "row", "other"] (spD K mg 3 g_product)) (e_product : mg "product" = some (.ref a_product)) (k_product : PySem.W.keepIn K (.ref a_product) = true) (b_product : Binds K fd_product ["prime", "row", "other"] []) (kb_product_210 : ∀ ws : List Value, ws.length = 3 → bindArgs fd_product ⟨[], List.zip (["other", "row", "prime"] : List Str) ws⟩ = (pure (List.zip (["prime", "row", "other"] : List Str) (pick [2, 1, 0] ws)) : Sem (List (Str × Value))))
    {a_row_by : Addr} {fd_row_by : FuncData} (F_row_by : FnOk P w K mg base (L2.CX P w) 1 a_row_by fd_row_by ["prime", "rows", "factors", "length"] (spD K mg 4 g_row_by)) (e_row_by : mg "row_by" = some (.ref a_row_by)) (k_row_by : PySem.W.keepIn K (.ref a_row_by) = true) (b_row_by : Binds K fd_row_by ["prime", "rows", "factors", "length"] []) (kb_row_by_3210 : ∀ ws : List Value, ws.length = 4 → bindArgs fd_row_by ⟨[], List.zip (["length", "factors", "rows", "prime"] : List Str) ws⟩ = (pure (List.zip (["prime", "rows", "factors", "length"] : List Str) (pick [3, 2, 1, 0] ws)) : Sem (List (Str × Value))))
    (m_int : mg "int" = none)
    (m_len : mg "len" = none)
    (m_range : mg "range" = none)
    (m_tuple : mg "tuple" = none) :
    ∀ (cdv : Value) (A : Around) (outer : List PySem.Env) (s : Shared) (H : Hp) (E : XK), Room 8 (A.deeper (envOfC "_law_by_hand_right" (defScope s__law_by_hand_right) s.heap.objs.size a__law_by_hand_right cdv)) → DSs (CxD P w K mg base N__law_by_hand_right "_law_by_hand_right" s__law_by_hand_right a__law_by_hand_right cdv A outer s H E) (fun cls d _ H => E cls d H) (defBody s__law_by_hand_right) B__law_by_hand_right := fun cdv A outer s H E hr =>
  (dss_cons (ds_setLcF (i := 0) (own := [("p", 6)]) rfl S__law_by_hand_right.nd (di_seq (de_tup (da_cons de_int (da_cons de_int (da_cons de_int da_nil))))) (blkOk_by (N := N__law_by_hand_right) (sc := defScope s__law_by_hand_right) (own := [("p", 6)]) (by decide +kernel)) (fun _ _ _ _ _ => (dgc_name (i := 6) S__law_by_hand_right.nd (by decide))) (fun _ _ _ _ _ => dts_nil) (fun _ _ _ _ _ => (de_df (df_lc (own := [("n", 5)]) rfl S__law_by_hand_right.nd (di_range1 m_range (da_cons (de_var 6) da_nil)) (blkOk_by (by kernel_rfl)) (fun _ _ _ _ _ => (dgc_name (i := 5) S__law_by_hand_right.nd (by decide))) (fun _ _ _ _ _ => dts_nil) (fun _ _ _ _ _ => (de_call F__law_heard (hr.mono (by decide)) e__law_heard k__law_heard b__law_heard pass0 (da_cons (de_var 6) (da_cons (de_var 5) da_nil)) (alenS (alenS alen0))))))) (sw_true rfl rfl rfl (by decide +kernel)))
  (dss_cons (ds_set (i := 1) S__law_by_hand_right.nd (de_df (df_lst (da_cons (de_df (df_lst (da_cons (de_df (df_lst (da_cons de_str (da_cons de_bl da_nil)))) (da_cons de_int da_nil)))) (da_cons (de_df (df_lst (da_cons (de_df (df_lst (da_cons de_str (da_cons de_bl da_nil)))) (da_cons de_int (da_cons de_int da_nil))))) (da_cons (de_df (df_lst (da_cons (de_df (df_lst (da_cons de_str (da_cons de_bl da_nil)))) (da_cons de_int (da_cons de_int (da_cons de_int (da_cons de_int da_nil))))))) da_nil))))))
  (dss_cons (ds_set (i := 0) S__law_by_hand_right.nd (de_df (df_cat (de_var 0) (de_df (df_lst (da_cons (de_callK0 (perm := [1, 0]) F_inverse (hr.mono (by decide)) e_inverse k_inverse kb_inverse_10 pass_cx (dk_cons de_int (dk_cons de_int dk_nil)) (fun ds hl => match ds, hl with | [_, _], _ => rfl)) (da_cons (de_call F_product (hr.mono (by decide)) e_product k_product b_product pass_cx (da_cons de_int (da_cons (de_tup (da_cons de_int (da_cons de_int da_nil))) (da_cons (de_tup (da_cons de_int (da_cons de_int da_nil))) da_nil))) (alenS (alenS (alenS alen0)))) (da_cons (de_call F_product (hr.mono (by decide)) e_product k_product b_product pass_cx (da_cons de_int (da_cons (de_tup da_nil) (da_cons (de_tup da_nil) da_nil))) (alenS (alenS (alenS alen0)))) (da_cons (de_callK0 (perm := [2, 1, 0]) F_product (hr.mono (by decide)) e_product k_product kb_product_210 pass_cx (dk_cons (de_df (df_lst (da_cons de_int (da_cons de_int da_nil)))) (dk_cons (de_df (df_lst (da_cons de_int (da_cons de_int da_nil)))) (dk_cons de_int dk_nil))) (fun ds hl => match ds, hl with | [_, _, _], _ => rfl)) da_nil)))))))))
  (dss_cons (ds_set (i := 1) S__law_by_hand_right.nd (de_df (df_cat (de_var 1) (de_df (df_lst (da_cons de_int (da_cons de_int (da_cons de_int (da_cons de_int da_nil)))))))))
  (dss_cons (ds_set (i := 0) S__law_by_hand_right.nd (de_df (df_cat (de_var 0) (de_df (df_lst (da_cons (de_call F_row_by (hr.mono (by decide)) e_row_by k_row_by b_row_by pass_cx (da_cons de_int (da_cons (de_tup (da_cons (de_tup (da_cons de_int (da_cons de_int (da_cons de_int da_nil)))) (da_cons (de_tup (da_cons de_int (da_cons de_int (da_cons de_int da_nil)))) (da_cons (de_tup (da_cons de_int (da_cons de_int (da_cons de_int da_nil)))) da_nil)))) (da_cons (de_tup (da_cons de_int (da_cons de_int (da_cons de_int da_nil)))) (da_cons de_int da_nil)))) (alenS (alenS (alenS (alenS alen0))))) (da_cons (de_call F_row_by (hr.mono (by decide)) e_row_by k_row_by b_row_by pass_cx (da_cons de_int (da_cons (de_tup da_nil) (da_cons (de_tup da_nil) (da_cons de_int da_nil)))) (alenS (alenS (alenS (alenS alen0))))) (da_cons (de_call F_row_by (hr.mono (by decide)) e_row_by k_row_by b_row_by pass_cx (da_cons de_int (da_cons (de_tup (da_cons (de_tup da_nil) (da_cons (de_tup da_nil) da_nil))) (da_cons (de_tup (da_cons de_int (da_cons de_int da_nil))) (da_cons de_int da_nil)))) (alenS (alenS (alenS (alenS alen0))))) da_nil))))))))
  (dss_cons (ds_set (i := 1) S__law_by_hand_right.nd (de_df (df_cat (de_var 1) (de_df (df_lst (da_cons (de_tup (da_cons de_int (da_cons de_int (da_cons de_int da_nil)))) (da_cons (de_tup (da_cons de_int (da_cons de_int (da_cons de_int (da_cons de_int da_nil))))) (da_cons (de_tup da_nil) da_nil))))))))
  (dss_cons (ds_set (i := 0) S__law_by_hand_right.nd (de_df (df_cat (de_var 0) (de_df (df_lst (da_cons (de_callK0 (perm := [3, 2, 1, 0]) F_row_by (hr.mono (by decide)) e_row_by k_row_by kb_row_by_3210 pass_cx (dk_cons de_int (dk_cons (de_df (df_lst (da_cons de_int (da_cons de_int da_nil)))) (dk_cons (de_df (df_lst (da_cons (de_df (df_lst (da_cons de_int (da_cons de_int da_nil)))) (da_cons (de_df (df_lst (da_cons de_int (da_cons de_int da_nil)))) da_nil)))) (dk_cons de_int dk_nil)))) (fun ds hl => match ds, hl with | [_, _, _, _], _ => rfl)) (da_cons (de_call F_row_by (hr.mono (by decide)) e_row_by k_row_by b_row_by pass_cx (da_cons de_int (da_cons (de_tup (da_cons (de_tup (da_cons de_int (da_cons de_int da_nil))) (da_cons (de_tup (da_cons de_int (da_cons de_int da_nil))) (da_cons (de_tup (da_cons de_int (da_cons de_int da_nil))) da_nil)))) (da_cons (de_tup (da_cons de_int (da_cons de_int (da_cons de_int da_nil)))) (da_cons de_int da_nil)))) (alenS (alenS (alenS (alenS alen0))))) da_nil)))))))
  (dss_cons (ds_set (i := 1) S__law_by_hand_right.nd (de_df (df_cat (de_var 1) (de_df (df_lst (da_cons (de_tup (da_cons de_int (da_cons de_int da_nil))) (da_cons (de_tup (da_cons de_int (da_cons de_int da_nil))) da_nil)))))))
  (dss_cons (ds_set (i := 2) S__law_by_hand_right.nd (de_tuplec (da_cons (de_df (df_lc (own := [("k", 7)]) rfl S__law_by_hand_right.nd (di_range1 m_range (da_cons de_int da_nil)) (blkOk_by (N := N__law_by_hand_right) (sc := defScope s__law_by_hand_right) (own := [("k", 7)]) (by decide +kernel)) (fun _ _ _ _ _ => (dgc_name (i := 7) S__law_by_hand_right.nd (by decide))) (fun _ _ _ _ _ => dts_nil) (fun _ _ _ _ _ => (de_mod (de_intc (da_cons (de_var 7) da_nil) m_int) de_int)))) da_nil) m_tuple))
  (dss_cons (ds_set (i := 0) S__law_by_hand_right.nd (de_df (df_cat (de_var 0) (de_df (df_lst (da_cons (de_call F_row_by (hr.mono (by decide)) e_row_by k_row_by b_row_by pass_cx (da_cons de_int (da_cons (de_mul (de_tup (da_cons (de_var 2) da_nil)) de_int) (da_cons (de_mul (de_tup (da_cons de_int da_nil)) de_int) (da_cons de_int da_nil)))) (alenS (alenS (alenS (alenS alen0))))) (da_cons (de_call F_product (hr.mono (by decide)) e_product k_product b_product pass_cx (da_cons de_int (da_cons (de_var 2) (da_cons (de_var 2) da_nil))) (alenS (alenS (alenS alen0)))) da_nil)))))))
  (dss_cons (ds_set (i := 1) S__law_by_hand_right.nd (de_df (df_cat (de_var 1) (de_df (df_lst (da_cons (de_mul (de_tup (da_cons de_int da_nil)) de_int) (da_cons de_int da_nil)))))))
  (dss_cons (ds_set (i := 3) S__law_by_hand_right.nd (de_df (df_lst (da_cons (de_tup (da_cons (de_tup da_nil) (da_cons de_int (da_cons de_int da_nil)))) (da_cons (de_tup (da_cons (de_tup (da_cons de_int (da_cons de_int da_nil))) (da_cons de_int (da_cons de_int da_nil)))) (da_cons (de_tup (da_cons (de_tup (da_cons de_int (da_cons de_int (da_cons de_int da_nil)))) (da_cons de_int (da_cons de_int da_nil)))) (da_cons (de_tup (da_cons (de_tup (da_cons de_int da_nil)) (da_cons de_int (da_cons de_int da_nil)))) da_nil)))))))
  (dss_cons (ds_set (i := 4) S__law_by_hand_right.nd (de_df (df_lst (da_cons (de_tup (da_cons (de_tup (da_cons de_int da_nil)) (da_cons de_int (da_cons de_int da_nil)))) (da_cons (de_tup (da_cons (de_tup (da_cons de_int (da_cons de_int da_nil))) (da_cons de_int (da_cons de_int da_nil)))) (da_cons (de_tup (da_cons (de_tup (da_cons (de_neg de_int) da_nil)) (da_cons de_int (da_cons de_int da_nil)))) (da_cons (de_tup (da_cons (de_tup (da_cons de_int (da_cons de_int da_nil))) (da_cons de_int (da_cons de_int da_nil)))) (da_cons (de_tup (da_cons (de_tup (da_cons de_int (da_cons de_int da_nil))) (da_cons de_int (da_cons de_int da_nil)))) (da_cons (de_tup (da_cons (de_df (df_lst (da_cons de_int (da_cons de_int da_nil)))) (da_cons de_int (da_cons de_int da_nil)))) (da_cons (de_tup (da_cons (de_tup (da_cons de_bl (da_cons de_int da_nil))) (da_cons de_int (da_cons de_int da_nil)))) (da_cons (de_tup (da_cons de_non (da_cons de_int (da_cons de_int da_nil)))) da_nil)))))))))))
  (dss_cons (ds_set (i := 4) S__law_by_hand_right.nd (de_df (df_cat (de_var 4) (de_df (df_lst (da_cons (de_tup (da_cons (de_tup (da_cons de_str da_nil)) (da_cons de_int (da_cons de_int da_nil)))) (da_cons (de_tup (da_cons (de_tup (da_cons (de_tup (da_cons de_int da_nil)) da_nil)) (da_cons de_int (da_cons de_int da_nil)))) (da_cons (de_tup (da_cons (de_tup (da_cons de_int (da_cons de_non da_nil))) (da_cons de_int (da_cons de_int da_nil)))) (da_cons (de_tup (da_cons de_int (da_cons de_int (da_cons de_int da_nil)))) (da_cons (de_tup (da_cons (de_tup (da_cons de_bl da_nil)) (da_cons de_int (da_cons de_int da_nil)))) (da_cons (de_tup (da_cons de_str (da_cons de_int (da_cons de_int da_nil)))) da_nil)))))))))))
  (dss_cons (ds_set (i := 0) S__law_by_hand_right.nd (de_df (df_cat (de_df (df_cat (de_var 0) (de_df (df_lc (own := [("own", 8)]) rfl S__law_by_hand_right.nd (di_seq (de_var 3)) (blkOk_by (N := N__law_by_hand_right) (sc := defScope s__law_by_hand_right) (own := [("own", 8)]) (by decide +kernel)) (fun _ _ _ _ _ => (dgc_name (i := 8) S__law_by_hand_right.nd (by decide))) (fun _ _ _ _ _ => dts_nil) (fun _ _ _ _ _ => (de_call F_is_row (hr.mono (by decide)) e_is_row k_is_row b_is_row pass0 (da_cons (de_ix (fun _ _ => rfl) (de_var 8) de_int) (da_cons (de_ix (fun _ _ => rfl) (de_var 8) de_int) (da_cons (de_ix (fun _ _ => rfl) (de_var 8) de_int) da_nil))) (alenS (alenS (alenS alen0))))))))) (de_df (df_lc (own := [("own", 8)]) rfl S__law_by_hand_right.nd (di_seq (de_var 4)) (blkOk_by (N := N__law_by_hand_right) (sc := defScope s__law_by_hand_right) (own := [("own", 8)]) (by decide +kernel)) (fun _ _ _ _ _ => (dgc_name (i := 8) S__law_by_hand_right.nd (by decide))) (fun _ _ _ _ _ => dts_nil) (fun _ _ _ _ _ => (de_callK0 (perm := [2, 1, 0]) F_is_row (hr.mono (by decide)) e_is_row k_is_row kb_is_row_210 pass0 (dk_cons (de_ix (fun _ _ => rfl) (de_var 8) de_int) (dk_cons (de_ix (fun _ _ => rfl) (de_var 8) de_int) (dk_cons (de_ix (fun _ _ => rfl) (de_var 8) de_int) dk_nil))) (fun ds hl => match ds, hl with | [_, _, _], _ => rfl))))))))
  (dss_one (ds_ret (de_call F__law_same (hr.mono (by decide)) e__law_same k__law_same b__law_same pass_cx (da_cons (de_var 0) (da_cons (de_df (df_cat (de_df (df_cat (de_var 1) (de_df (df_rep (df_lst (da_cons de_bl da_nil)) (de_len (da_cons (de_var 3) da_nil) m_len))))) (de_df (df_rep (df_lst (da_cons de_bl da_nil)) (de_len (da_cons (de_var 4) da_nil) m_len))))) da_nil)) (alenS (alenS alen0))))))))))))))))))))
theorem ok__law_by_hand_right {a__law_by_hand_right : Addr} {fd__law_by_hand_right : FuncData} (F : Fun K "_law_by_hand_right" "_law_by_hand_right" s__law_by_hand_right a__law_by_hand_right fd__law_by_hand_right)
    {a__law_heard : Addr} {fd__law_heard : FuncData} (F__law_heard : FnOk P w K mg base (L2.CX P w) 2 a__law_heard fd__law_heard ["p", "n"] (spD K mg 2 g__law_heard)) (e__law_heard : mg "_law_heard" = some (.ref a__law_heard)) (k__law_heard : PySem.W.keepIn K (.ref a__law_heard) = true) (b__law_heard : Binds K fd__law_heard ["p", "n"] [])
    {a__law_same : Addr} {fd__law_same : FuncData} (F__law_same : FnOk P w K mg base (L2.CX P w) 8 a__law_same fd__law_same ["got", "due"] (spD K mg 2 g__law_same)) (e__law_same : mg "_law_same" = some (.ref a__law_same)) (k__law_same : PySem.W.keepIn K (.ref a__law_same) = true) (b__law_same : Binds K fd__law_same ["got", "due"] [])
    {a_inverse : Addr} {fd_inverse : FuncData} (F_inverse : FnOk P w K mg base (L2.CX P w) 1 a_inverse fd_inverse ["prime", "residue"] (spD K mg 2 g_inverse)) (e_inverse : mg "inverse" = some (.ref a_inverse)) (k_inverse : PySem.W.keepIn K (.ref a_inverse) = true) (b_inverse : Binds K fd_inverse ["prime", "residue"] []) (kb_inverse_10 : ∀ ws : List Value, ws.length = 2 → bindArgs fd_inverse ⟨[], List.zip (["residue", "prime"] : List Str) ws⟩ = (pure (List.zip (["prime", "residue"] : List Str) (pick [1, 0] ws)) : Sem (List (Str × Value))))
    {a_is_row : Addr} {fd_is_row : FuncData} (F_is_row : FnOk P w K mg base (L2.CX P w) 3 a_is_row fd_is_row ["thing", "prime", "length"] (spD K mg 3 g_is_row)) (e_is_row : mg "is_row" = some (.ref a_is_row)) (k_is_row : PySem.W.keepIn K (.ref a_is_row) = true) (b_is_row : Binds K fd_is_row ["thing", "prime", "length"] []) (kb_is_row_210 : ∀ ws : List Value, ws.length = 3 → bindArgs fd_is_row ⟨[], List.zip (["length", "prime", "thing"] : List Str) ws⟩ = (pure (List.zip (["thing", "prime", "length"] : List Str) (pick [2, 1, 0] ws)) : Sem (List (Str × Value))))
    {a_product : Addr} {fd_product : FuncData} (F_product : FnOk P w K mg base (L2.CX P w) 1 a_product fd_product ["prime", "row", "other"] (spD K mg 3 g_product)) (e_product : mg "product" = some (.ref a_product)) (k_product : PySem.W.keepIn K (.ref a_product) = true) (b_product : Binds K fd_product ["prime", "row", "other"] []) (kb_product_210 : ∀ ws : List Value, ws.length = 3 → bindArgs fd_product ⟨[], List.zip (["other", "row", "prime"] : List Str) ws⟩ = (pure (List.zip (["prime", "row", "other"] : List Str) (pick [2, 1, 0] ws)) : Sem (List (Str × Value))))
    {a_row_by : Addr} {fd_row_by : FuncData} (F_row_by : FnOk P w K mg base (L2.CX P w) 1 a_row_by fd_row_by ["prime", "rows", "factors", "length"] (spD K mg 4 g_row_by)) (e_row_by : mg "row_by" = some (.ref a_row_by)) (k_row_by : PySem.W.keepIn K (.ref a_row_by) = true) (b_row_by : Binds K fd_row_by ["prime", "rows", "factors", "length"] []) (kb_row_by_3210 : ∀ ws : List Value, ws.length = 4 → bindArgs fd_row_by ⟨[], List.zip (["length", "factors", "rows", "prime"] : List Str) ws⟩ = (pure (List.zip (["prime", "rows", "factors", "length"] : List Str) (pick [3, 2, 1, 0] ws)) : Sem (List (Str × Value))))
    (m_int : mg "int" = none)
    (m_len : mg "len" = none)
    (m_range : mg "range" = none)
    (m_tuple : mg "tuple" = none) :
    FnOk P w K mg base (L2.CX P w) 9 a__law_by_hand_right fd__law_by_hand_right [] (spD K mg 0 g__law_by_hand_right) :=
  fn_d (k := 8) (N := N__law_by_hand_right) (ps := []) (gs := B__law_by_hand_right) F S__law_by_hand_right (by decide) (bd__law_by_hand_right F__law_heard e__law_heard k__law_heard b__law_heard F__law_same e__law_same k__law_same b__law_same F_inverse e_inverse k_inverse b_inverse kb_inverse_10 F_is_row e_is_row k_is_row b_is_row kb_is_row_210 F_product e_product k_product b_product kb_product_210 F_row_by e_row_by k_row_by b_row_by kb_row_by_3210 m_int m_len m_range m_tuple)
theorem bd__law_right {a__law_right : Addr}
    {a__law_drawn_vectors : Addr} {fd__law_drawn_vectors : FuncData} (F__law_drawn_vectors : FnOk P w K mg base (L2.CX P w) 3 a__law_drawn_vectors fd__law_drawn_vectors ["tin", "p", "count_so", "wide_so"] (spD K mg 4 g__law_drawn_vectors)) (e__law_drawn_vectors : mg "_law_drawn_vectors" = some (.ref a__law_drawn_vectors)) (k__law_drawn_vectors : PySem.W.keepIn K (.ref a__law_drawn_vectors) = true) (b__law_drawn_vectors : Binds K fd__law_drawn_vectors ["tin", "p", "count_so", "wide_so"] [])
    {a__law_lists : Addr} {fd__law_lists : FuncData} (F__law_lists : FnOk P w K mg base (L2.CX P w) 8 a__law_lists fd__law_lists ["matter"] (spD K mg 1 g__law_lists)) (e__law_lists : mg "_law_lists" = some (.ref a__law_lists)) (k__law_lists : PySem.W.keepIn K (.ref a__law_lists) = true) (b__law_lists : Binds K fd__law_lists ["matter"] [])
    {a__law_mixed : Addr} {fd__law_mixed : FuncData} (F__law_mixed : FnOk P w K mg base (L2.CX P w) 2 a__law_mixed fd__law_mixed ["p", "vectors_so", "factors_so", "wide_so"] (spD K mg 4 g__law_mixed)) (e__law_mixed : mg "_law_mixed" = some (.ref a__law_mixed)) (k__law_mixed : PySem.W.keepIn K (.ref a__law_mixed) = true) (b__law_mixed : Binds K fd__law_mixed ["p", "vectors_so", "factors_so", "wide_so"] [])
    {a__law_of : Addr} {fd__law_of : FuncData} (F__law_of : FnOk P w K mg base (L2.CX P w) 2 a__law_of fd__law_of ["tin", "goods_so"] (spD K mg 2 g__law_of)) (e__law_of : mg "_law_of" = some (.ref a__law_of)) (k__law_of : PySem.W.keepIn K (.ref a__law_of) = true) (b__law_of : Binds K fd__law_of ["tin", "goods_so"] [])
    {a__law_same : Addr} {fd__law_same : FuncData} (F__law_same : FnOk P w K mg base (L2.CX P w) 8 a__law_same fd__law_same ["got", "due"] (spD K mg 2 g__law_same)) (e__law_same : mg "_law_same" = some (.ref a__law_same)) (k__law_same : PySem.W.keepIn K (.ref a__law_same) = true) (b__law_same : Binds K fd__law_same ["got", "due"] [])
    {a__law_take : Addr} {fd__law_take : FuncData} (F__law_take : FnOk P w K mg base (L2.CX P w) 1 a__law_take fd__law_take ["tin", "below_so"] (spD K mg 2 g__law_take)) (e__law_take : mg "_law_take" = some (.ref a__law_take)) (k__law_take : PySem.W.keepIn K (.ref a__law_take) = true) (b__law_take : Binds K fd__law_take ["tin", "below_so"] [])
    {a__law_times : Addr} {fd__law_times : FuncData} (F__law_times : FnOk P w K mg base (L2.CX P w) 1 a__law_times fd__law_times ["p", "one_so", "two_so"] (spD K mg 3 g__law_times)) (e__law_times : mg "_law_times" = some (.ref a__law_times)) (k__law_times : PySem.W.keepIn K (.ref a__law_times) = true) (b__law_times : Binds K fd__law_times ["p", "one_so", "two_so"] [])
    {a_is_row : Addr} {fd_is_row : FuncData} (F_is_row : FnOk P w K mg base (L2.CX P w) 3 a_is_row fd_is_row ["thing", "prime", "length"] (spD K mg 3 g_is_row)) (e_is_row : mg "is_row" = some (.ref a_is_row)) (k_is_row : PySem.W.keepIn K (.ref a_is_row) = true) (b_is_row : Binds K fd_is_row ["thing", "prime", "length"] [])
    {a_product : Addr} {fd_product : FuncData} (F_product : FnOk P w K mg base (L2.CX P w) 1 a_product fd_product ["prime", "row", "other"] (spD K mg 3 g_product)) (e_product : mg "product" = some (.ref a_product)) (k_product : PySem.W.keepIn K (.ref a_product) = true) (b_product : Binds K fd_product ["prime", "row", "other"] [])
    {a_row_by : Addr} {fd_row_by : FuncData} (F_row_by : FnOk P w K mg base (L2.CX P w) 1 a_row_by fd_row_by ["prime", "rows", "factors", "length"] (spD K mg 4 g_row_by)) (e_row_by : mg "row_by" = some (.ref a_row_by)) (k_row_by : PySem.W.keepIn K (.ref a_row_by) = true) (b_row_by : Binds K fd_row_by ["prime", "rows", "factors", "length"] [])
    (m_bool : mg "bool" = none)
    (m_int : mg "int" = none)
    (m_isinstance : mg "isinstance" = none)
    (m_list : mg "list" = none)
    (m_range : mg "range" = none)
    (m_tuple : mg "tuple" = none) :
    ∀ (cdv : Value) (A : Around) (outer : List PySem.Env) (s : Shared) (H : Hp) (E : XK), Room 8 (A.deeper (envOfC "_law_right" (defScope s__law_right) s.heap.objs.size a__law_right cdv)) → DSs (CxD P w K mg base N__law_right "_law_right" s__law_right a__law_right cdv A outer s H E) (fun cls d _ H => E cls d H) (defBody s__law_right) B__law_right := fun cdv A outer s H E hr =>
  (dss_cons (ds_asg (de_tup (da_cons (de_callO (i := 0) F__law_of (hr.mono (by decide)) e__law_of k__law_of b__law_of pass_cx (da_cons (de_df (df_lst (da_cons de_int (da_cons de_int (da_cons de_int da_nil))))) da_nil) (alenO (alenS alen0))) (da_cons (de_callO (i := 0) F__law_take (hr.mono (by decide)) e__law_take k__law_take b__law_take pass_cx (da_cons de_int da_nil) (alenO (alenS alen0))) (da_cons (de_callO (i := 0) F__law_take (hr.mono (by decide)) e__law_take k__law_take b__law_take pass_cx (da_cons de_int da_nil) (alenO (alenS alen0))) da_nil)))) (dg_tup rfl (dgs_cons (dg_name (i := 1) S__law_right.nd) (dgs_cons (dg_name (i := 2) S__law_right.nd) (dgs_cons (dg_name (i := 3) S__law_right.nd) dgs_nil)))))
  (dss_cons (ds_set (i := 4) S__law_right.nd (de_callO (i := 0) F__law_drawn_vectors (hr.mono (by decide)) e__law_drawn_vectors k__law_drawn_vectors b__law_drawn_vectors pass_cx (da_cons (de_var 1) (da_cons (de_var 2) (da_cons (de_var 3) da_nil))) (alenO (alenS (alenS (alenS alen0))))))
  (dss_cons (ds_set (i := 5) S__law_right.nd (de_tuplec (da_cons (de_df (df_lc (own := [("k", 13)]) rfl S__law_right.nd (di_range1 m_range (da_cons (de_var 2) da_nil)) (blkOk_by (N := N__law_right) (sc := defScope s__law_right) (own := [("k", 13)]) (by decide +kernel)) (fun _ _ _ _ _ => (dgc_name (i := 13) S__law_right.nd (by decide))) (fun _ _ _ _ _ => dts_nil) (fun _ _ _ _ _ => (de_callO (i := 0) F__law_take (hr.mono (by decide)) e__law_take k__law_take b__law_take pass0 (da_cons (de_var 1) da_nil) (alenO (alenS alen0)))))) da_nil) m_tuple))
  (dss_cons (ds_set (i := 6) S__law_right.nd (de_call F__law_mixed (hr.mono (by decide)) e__law_mixed k__law_mixed b__law_mixed pass_cx (da_cons (de_var 1) (da_cons (de_var 4) (da_cons (de_var 5) (da_cons (de_var 3) da_nil)))) (alenS (alenS (alenS (alenS alen0))))))
  (dss_cons (ds_own (i := 7) S__law_right.nd (df_lst (da_cons (de_call F_row_by (hr.mono (by decide)) e_row_by k_row_by b_row_by pass_cx (da_cons (de_var 1) (da_cons (de_var 4) (da_cons (de_var 5) (da_cons (de_var 3) da_nil)))) (alenS (alenS (alenS (alenS alen0))))) (da_cons (de_call F_row_by (hr.mono (by decide)) e_row_by k_row_by b_row_by pass_cx (da_cons (de_var 1) (da_cons (de_call F__law_lists (hr.mono (by decide)) e__law_lists k__law_lists b__law_lists pass_cx (da_cons (de_var 4) da_nil) (alenS alen0)) (da_cons (de_df (df_list (da_cons (de_var 5) da_nil) m_list)) (da_cons (de_var 3) da_nil)))) (alenS (alenS (alenS (alenS alen0))))) da_nil))))
  (dss_cons (ds_own (i := 8) S__law_right.nd (df_lst (da_cons (de_var 6) (da_cons (de_var 6) da_nil))))
  (dss_cons (ds_for own_cx rfl (di_seq (de_var 4)) (dg_name (i := 9) S__law_right.nd) (dss_cons (ds_app (i := 7) (de_call F_product (hr.mono (by decide)) e_product k_product b_product pass_cx (da_cons (de_var 1) (da_cons (de_var 9) (da_cons (de_var 6) da_nil))) (alenS (alenS (alenS alen0)))))
  (dss_one (ds_app (i := 8) (de_call F__law_times (hr.mono (by decide)) e__law_times k__law_times b__law_times pass_cx (da_cons (de_var 1) (da_cons (de_var 9) (da_cons (de_var 6) da_nil))) (alenS (alenS (alenS alen0))))))))
  (dss_cons (ds_own (i := 10) S__law_right.nd (df_list (da_cons (de_var 6) da_nil) m_list))
  (dss_cons (ds_if (dt_cmpo (i := 10) opd_ne (op_neD (hu64 hr)) (nomark _) (de_df (df_lst da_nil))) (dss_one (ds_sub (i := 10) (de_callO (i := 0) F__law_of (hr.mono (by decide)) e__law_of k__law_of b__law_of pass_cx (da_cons (de_df (df_lst (da_cons (de_var 1) (da_cons (de_neg de_int) (da_cons de_non (da_cons de_bl (da_cons de_str (da_cons de_int (da_cons (de_sub (de_var 1) de_int) (da_cons (de_tup (da_cons de_int da_nil)) (da_cons (de_add (de_var 1) de_int) da_nil))))))))))) da_nil) (alenO (alenS alen0))) (de_callO (i := 0) F__law_take (hr.mono (by decide)) e__law_take k__law_take b__law_take pass_cx (da_cons (de_var 3) da_nil) (alenO (alenS alen0))))) dss_nil)
  (dss_cons (ds_set (i := 11) S__law_right.nd (de_tuplec (da_cons (de_var 10) da_nil) m_tuple))
  (dss_cons (ds_set (i := 12) S__law_right.nd (de_eq (hu64 hr) (de_df (df_lc (own := [("n", 14)]) rfl S__law_right.nd (di_seq (de_var 11)) (blkOk_by (N := N__law_right) (sc := defScope s__law_right) (own := [("n", 14)]) (by decide +kernel)) (fun _ _ _ _ _ => (dgc_name (i := 14) S__law_right.nd (by decide))) (fun _ _ _ _ _ => (dts_one (dt_w (dw_or (dt_tru (de_isi1 "bool" (by decide) m_isinstance m_bool bt_bool (de_var 14))) (dw_or (dt_not (dt_tru (de_isi1 "int" (by decide) m_isinstance m_int bt_int (de_var 14)))) (dw_or1 (dt_not (dt_chain opd_le opd_lt op_le op_lt de_int (de_var 14) (de_var 1))))))))) (fun _ _ _ _ _ => (de_var 14)))) (de_df (df_lst da_nil))))
  (dss_cons (ds_own (i := 7) S__law_right.nd (df_cat (de_var 7) (de_df (df_lst (da_cons (de_call F_is_row (hr.mono (by decide)) e_is_row k_is_row b_is_row pass_cx (da_cons (de_var 6) (da_cons (de_var 1) (da_cons (de_var 3) da_nil))) (alenS (alenS (alenS alen0)))) (da_cons (de_call F_is_row (hr.mono (by decide)) e_is_row k_is_row b_is_row pass_cx (da_cons (de_var 6) (da_cons (de_var 1) (da_cons (de_add (de_var 3) de_int) da_nil))) (alenS (alenS (alenS alen0)))) (da_cons (de_call F_is_row (hr.mono (by decide)) e_is_row k_is_row b_is_row pass_cx (da_cons (de_df (df_list (da_cons (de_var 6) da_nil) m_list)) (da_cons (de_var 1) (da_cons (de_var 3) da_nil))) (alenS (alenS (alenS alen0)))) (da_cons (de_call F_is_row (hr.mono (by decide)) e_is_row k_is_row b_is_row pass_cx (da_cons (de_var 11) (da_cons (de_var 1) (da_cons (de_var 3) da_nil))) (alenS (alenS (alenS alen0)))) da_nil))))))))
  (dss_one (ds_ret (de_call F__law_same (hr.mono (by decide)) e__law_same k__law_same b__law_same pass_cx (da_cons (de_var 7) (da_cons (de_df (df_cat (de_var 8) (de_df (df_lst (da_cons de_bl (da_cons de_bl (da_cons de_bl (da_cons (de_var 12) da_nil)))))))) da_nil)) (alenS (alenS alen0)))))))))))))))))
theorem ok__law_right {a__law_right : Addr} {fd__law_right : FuncData} (F : Fun K "_law_right" "_law_right" s__law_right a__law_right fd__law_right)
    {a__law_drawn_vectors : Addr} {fd__law_drawn_vectors : FuncData} (F__law_drawn_vectors : FnOk P w K mg base (L2.CX P w) 3 a__law_drawn_vectors fd__law_drawn_vectors ["tin", "p", "count_so", "wide_so"] (spD K mg 4 g__law_drawn_vectors)) (e__law_drawn_vectors : mg "_law_drawn_vectors" = some (.ref a__law_drawn_vectors)) (k__law_drawn_vectors : PySem.W.keepIn K (.ref a__law_drawn_vectors) = true) (b__law_drawn_vectors : Binds K fd__law_drawn_vectors ["tin", "p", "count_so", "wide_so"] [])
    {a__law_lists : Addr} {fd__law_lists : FuncData} (F__law_lists : FnOk P w K mg base (L2.CX P w) 8 a__law_lists fd__law_lists ["matter"] (spD K mg 1 g__law_lists)) (e__law_lists : mg "_law_lists" = some (.ref a__law_lists)) (k__law_lists : PySem.W.keepIn K (.ref a__law_lists) = true) (b__law_lists : Binds K fd__law_lists ["matter"] [])
    {a__law_mixed : Addr} {fd__law_mixed : FuncData} (F__law_mixed : FnOk P w K mg base (L2.CX P w) 2 a__law_mixed fd__law_mixed ["p", "vectors_so", "factors_so", "wide_so"] (spD K mg 4 g__law_mixed)) (e__law_mixed : mg "_law_mixed" = some (.ref a__law_mixed)) (k__law_mixed : PySem.W.keepIn K (.ref a__law_mixed) = true) (b__law_mixed : Binds K fd__law_mixed ["p", "vectors_so", "factors_so", "wide_so"] [])
    {a__law_of : Addr} {fd__law_of : FuncData} (F__law_of : FnOk P w K mg base (L2.CX P w) 2 a__law_of fd__law_of ["tin", "goods_so"] (spD K mg 2 g__law_of)) (e__law_of : mg "_law_of" = some (.ref a__law_of)) (k__law_of : PySem.W.keepIn K (.ref a__law_of) = true) (b__law_of : Binds K fd__law_of ["tin", "goods_so"] [])
    {a__law_same : Addr} {fd__law_same : FuncData} (F__law_same : FnOk P w K mg base (L2.CX P w) 8 a__law_same fd__law_same ["got", "due"] (spD K mg 2 g__law_same)) (e__law_same : mg "_law_same" = some (.ref a__law_same)) (k__law_same : PySem.W.keepIn K (.ref a__law_same) = true) (b__law_same : Binds K fd__law_same ["got", "due"] [])
    {a__law_take : Addr} {fd__law_take : FuncData} (F__law_take : FnOk P w K mg base (L2.CX P w) 1 a__law_take fd__law_take ["tin", "below_so"] (spD K mg 2 g__law_take)) (e__law_take : mg "_law_take" = some (.ref a__law_take)) (k__law_take : PySem.W.keepIn K (.ref a__law_take) = true) (b__law_take : Binds K fd__law_take ["tin", "below_so"] [])
    {a__law_times : Addr} {fd__law_times : FuncData} (F__law_times : FnOk P w K mg base (L2.CX P w) 1 a__law_times fd__law_times ["p", "one_so", "two_so"] (spD K mg 3 g__law_times)) (e__law_times : mg "_law_times" = some (.ref a__law_times)) (k__law_times : PySem.W.keepIn K (.ref a__law_times) = true) (b__law_times : Binds K fd__law_times ["p", "one_so", "two_so"] [])
    {a_is_row : Addr} {fd_is_row : FuncData} (F_is_row : FnOk P w K mg base (L2.CX P w) 3 a_is_row fd_is_row ["thing", "prime", "length"] (spD K mg 3 g_is_row)) (e_is_row : mg "is_row" = some (.ref a_is_row)) (k_is_row : PySem.W.keepIn K (.ref a_is_row) = true) (b_is_row : Binds K fd_is_row ["thing", "prime", "length"] [])
    {a_product : Addr} {fd_product : FuncData} (F_product : FnOk P w K mg base (L2.CX P w) 1 a_product fd_product ["prime", "row", "other"] (spD K mg 3 g_product)) (e_product : mg "product" = some (.ref a_product)) (k_product : PySem.W.keepIn K (.ref a_product) = true) (b_product : Binds K fd_product ["prime", "row", "other"] [])
    {a_row_by : Addr} {fd_row_by : FuncData} (F_row_by : FnOk P w K mg base (L2.CX P w) 1 a_row_by fd_row_by ["prime", "rows", "factors", "length"] (spD K mg 4 g_row_by)) (e_row_by : mg "row_by" = some (.ref a_row_by)) (k_row_by : PySem.W.keepIn K (.ref a_row_by) = true) (b_row_by : Binds K fd_row_by ["prime", "rows", "factors", "length"] [])
    (m_bool : mg "bool" = none)
    (m_int : mg "int" = none)
    (m_isinstance : mg "isinstance" = none)
    (m_list : mg "list" = none)
    (m_range : mg "range" = none)
    (m_tuple : mg "tuple" = none) :
    FnOk P w K mg base (L2.CX P w) 9 a__law_right fd__law_right ["tin"] (spD K mg 1 g__law_right) :=
  fn_d (k := 8) (N := N__law_right) (ps := ["tin"]) (gs := B__law_right) F S__law_right (by decide) (bd__law_right F__law_drawn_vectors e__law_drawn_vectors k__law_drawn_vectors b__law_drawn_vectors F__law_lists e__law_lists k__law_lists b__law_lists F__law_mixed e__law_mixed k__law_mixed b__law_mixed F__law_of e__law_of k__law_of b__law_of F__law_same e__law_same k__law_same b__law_same F__law_take e__law_take k__law_take b__law_take F__law_times e__law_times k__law_times b__law_times F_is_row e_is_row k_is_row b_is_row F_product e_product k_product b_product F_row_by e_row_by k_row_by b_row_by m_bool m_int m_isinstance m_list m_range m_tuple)
theorem bd_law {a_law : Addr}
    {a__law_box : Addr} {fd__law_box : FuncData} (F__law_box : FnOk P w K mg base (L2.CX P w) 1 a__law_box fd__law_box ["script", "k"] (spF K mg 2 g__law_box)) (e__law_box : mg "_law_box" = some (.ref a__law_box)) (k__law_box : PySem.W.keepIn K (.ref a__law_box) = true) (b__law_box : Binds K fd__law_box ["script", "k"] [])
    {a__law_by_hand_right : Addr} {fd__law_by_hand_right : FuncData} (F__law_by_hand_right : FnOk P w K mg base (L2.CX P w) 9 a__law_by_hand_right fd__law_by_hand_right [] (spD K mg 0 g__law_by_hand_right)) (e__law_by_hand_right : mg "_law_by_hand_right" = some (.ref a__law_by_hand_right)) (k__law_by_hand_right : PySem.W.keepIn K (.ref a__law_by_hand_right) = true) (b__law_by_hand_right : Binds K fd__law_by_hand_right [] [])
    {a__law_cells : Addr} {fd__law_cells : FuncData} (F__law_cells : FnOk P w K mg base (L2.CX P w) 1 a__law_cells fd__law_cells ["script", "most_so"] (spD K mg 2 g__law_cells)) (e__law_cells : mg "_law_cells" = some (.ref a__law_cells)) (k__law_cells : PySem.W.keepIn K (.ref a__law_cells) = true) (b__law_cells : Binds K fd__law_cells ["script", "most_so"] [])
    {a__law_right : Addr} {fd__law_right : FuncData} (F__law_right : FnOk P w K mg base (L2.CX P w) 9 a__law_right fd__law_right ["tin"] (spD K mg 1 g__law_right)) (e__law_right : mg "_law_right" = some (.ref a__law_right)) (k__law_right : PySem.W.keepIn K (.ref a__law_right) = true) (b__law_right : Binds K fd__law_right ["tin"] [])
    (m_all : mg "all" = none)
    (m_len : mg "len" = none)
    (m_range : mg "range" = none) :
    ∀ (cdv : Value) (A : Around) (outer : List PySem.Env) (s : Shared) (H : Hp) (E : XK), Room 9 (A.deeper (envOfC "law" (defScope s_law) s.heap.objs.size a_law cdv)) → DSs (CxD P w K mg base N_law "law" s_law a_law cdv A outer s H E) (fun cls d _ H => E cls d H) (defBody s_law) B_law := fun cdv A outer s H E hr =>
  (dss_cons (ds_if (dt_not (dt_tru (de_call0 F__law_by_hand_right (hr.mono (by decide)) e__law_by_hand_right k__law_by_hand_right b__law_by_hand_right pass_cx))) (dss_one (ds_ret de_bl)) dss_nil)
  (dss_cons (ds_set (i := 1) S_law.nd (de_call F__law_cells (hr.mono (by decide)) e__law_cells k__law_cells b__law_cells pass_cx (da_cons (de_var 0) (da_cons de_int da_nil)) (alenS (alenS alen0))))
  (dss_one (ds_ret (de_all (da_cons (de_df (df_lc (own := [("k", 2)]) rfl S_law.nd (di_range1 m_range (da_cons (de_len (da_cons (de_var 1) da_nil) m_len) da_nil)) (blkOk_by (N := N_law) (sc := defScope s_law) (own := [("k", 2)]) (by decide +kernel)) (fun _ _ _ _ _ => (dgc_name (i := 2) S_law.nd (by decide))) (fun _ _ _ _ _ => dts_nil) (fun _ _ _ _ _ => (de_callT F__law_right (hr.mono (by decide)) e__law_right k__law_right b__law_right pass0 (df_call F__law_box (hr.mono (by decide)) e__law_box k__law_box b__law_box pass0 (da_cons (de_var 1) (da_cons (de_var 2) da_nil)) (alenS (alenS alen0))))))) da_nil) m_all)))))
theorem ok_law {a_law : Addr} {fd_law : FuncData} (F : Fun K "law" "law" s_law a_law fd_law)
    {a__law_box : Addr} {fd__law_box : FuncData} (F__law_box : FnOk P w K mg base (L2.CX P w) 1 a__law_box fd__law_box ["script", "k"] (spF K mg 2 g__law_box)) (e__law_box : mg "_law_box" = some (.ref a__law_box)) (k__law_box : PySem.W.keepIn K (.ref a__law_box) = true) (b__law_box : Binds K fd__law_box ["script", "k"] [])
    {a__law_by_hand_right : Addr} {fd__law_by_hand_right : FuncData} (F__law_by_hand_right : FnOk P w K mg base (L2.CX P w) 9 a__law_by_hand_right fd__law_by_hand_right [] (spD K mg 0 g__law_by_hand_right)) (e__law_by_hand_right : mg "_law_by_hand_right" = some (.ref a__law_by_hand_right)) (k__law_by_hand_right : PySem.W.keepIn K (.ref a__law_by_hand_right) = true) (b__law_by_hand_right : Binds K fd__law_by_hand_right [] [])
    {a__law_cells : Addr} {fd__law_cells : FuncData} (F__law_cells : FnOk P w K mg base (L2.CX P w) 1 a__law_cells fd__law_cells ["script", "most_so"] (spD K mg 2 g__law_cells)) (e__law_cells : mg "_law_cells" = some (.ref a__law_cells)) (k__law_cells : PySem.W.keepIn K (.ref a__law_cells) = true) (b__law_cells : Binds K fd__law_cells ["script", "most_so"] [])
    {a__law_right : Addr} {fd__law_right : FuncData} (F__law_right : FnOk P w K mg base (L2.CX P w) 9 a__law_right fd__law_right ["tin"] (spD K mg 1 g__law_right)) (e__law_right : mg "_law_right" = some (.ref a__law_right)) (k__law_right : PySem.W.keepIn K (.ref a__law_right) = true) (b__law_right : Binds K fd__law_right ["tin"] [])
    (m_all : mg "all" = none)
    (m_len : mg "len" = none)
    (m_range : mg "range" = none) :
    FnOk P w K mg base (L2.CX P w) 10 a_law fd_law ["script"] (spD K mg 1 g_law) :=
  fn_d (k := 9) (N := N_law) (ps := ["script"]) (gs := B_law) F S_law (by decide) (bd_law F__law_box e__law_box k__law_box b__law_box F__law_by_hand_right e__law_by_hand_right k__law_by_hand_right b__law_by_hand_right F__law_cells e__law_cells k__law_cells b__law_cells F__law_right e__law_right k__law_right b__law_right m_all m_len m_range)
end K02
end

section
set_option linter.all false
set_option maxRecDepth 100000
namespace K02
open PySem PD
def okT : Option (Ans PyData × Sg) → Bool | some (.ok (.bool true), _) => true | _ => false
theorem hand_true : okT (g__law_by_hand_right []) = true := by decide +kernel
end K02
end

section
set_option linter.all false
set_option maxRecDepth 100000
set_option maxHeartbeats 4000000
namespace K02
open PySem PySem.Spec PyProof.Rows L2 PD
theorem fn_weak {P : Program} {w : World} {K : PySem.W.Frag} {mg : Str → Option Value} {base : Heap} {k : Nat} {f : Addr} {fd : FuncData} {ps : List Str} {sp sp2 : Sp} {CX : CXT} (F : FnOk P w K mg base CX k f fd ps sp) (h : ∀ vs H Q E, sp2 vs H Q E → sp vs H Q E) : FnOk P w K mg base CX k f fd ps sp2 :=
  ⟨fun vs H Q E q => F.1 vs H Q E (h _ _ _ _ q), fun A outer s H args us vs Q E a b c d q => F.2 A outer s H args us vs Q E a b c d (h _ _ _ _ q)⟩
theorem kit_exc {K : PySem.W.Frag} {C : Addr} {T : String} {b : Bool} (hm : PySem.W.kitMeta T = true) (hs : PySem.W.subIn K (.ref C) (.type T) = some b) : PySem.W.kitOne K (.ref C) (.type T) = some b := by
  unfold PySem.W.kitOne PySem.W.kitCls
  rw [if_neg (by simp)]
  show (if PySem.W.kitMeta T = true then PySem.W.subIn K (.ref C) (.type T) else none) = some b
  rw [if_pos hm]
  exact hs
theorem ints_dq {K : PySem.W.Frag} {H : Hp} : ∀ ns : List Int, DqAll K H (ns.map V.int) (ns.map PyData.int)
  | [] => .nil
  | n :: r => .cons (.int n) (ints_dq r)
/-- the promise of the law, whatever the names stand for -/
def spL (K : PySem.W.Frag) : Sp := fun vs H Q E => ∀ mg, spD K mg 1 g_law vs H Q E
theorem law_start {K : PySem.W.Frag} {H : Hp} {a : Addr} {ns : List Int} (hS : SqL K H a (ns.map V.int)) (hm : ∃ c, g_law [.fz (.list (ns.map .int))] = some (.ok (.bool true), c)) :
    spL K [.ref a] H (fun v _ => v = .bl true) fun _ _ _ => False := by
  intro mg
  obtain ⟨c, hm⟩ := hm
  have e : hid ⟨fun _ => False, fun _ => none⟩ (fun _ => none) H = H := by
    funext b
    unfold hid Hid
    simp
  refine ⟨rfl, ⟨fun _ => False, fun _ => none⟩, [.fz (.list (ns.map .int))], _, c, ⟨rfl, fun i d q => ?_, fun i b ds q => ?_, fun i a q => (by cases q), fun i j a q => (by cases q), fun b q => q.elim, fun i a q => (by cases q)⟩, hm, fun d ed v H' _ _ dv => ?_, fun c fs z => by cases z⟩
  · match i, q with
    | 0, q =>
      cases q
      refine ⟨.ref a, rfl, ?_⟩
      rw [e]
      exact .lst hS (ints_dq ns)
  · match i, q with
    | 0, q => cases q
  · cases ed
    cases dv with
    | bl b => rfl
set_option maxHeartbeats 0 in
theorem all_mk {l : PySem.W.OpenLaw} {w : World} {K : PySem.W.Frag} {h : Heap} {mg : Str → Option Value} {fa : Addr} {f_is_number f_is_below f_is_tuple_of f_is_row f_inverse f_row_by f_product f__law_box f__law_take f__law_cells f__law_of f__law_lists f__law_same f__law_plus f__law_mixed f__law_times f__law_drawn_vectors f__law_heard f__law_by_hand_right f__law_right f_law : Addr} {od_is_number an_is_number od_is_below an_is_below od_is_tuple_of an_is_tuple_of od_is_row an_is_row od_inverse an_inverse od_row_by an_row_by od_product an_product od__law_box an__law_box od__law_take an__law_take od__law_cells an__law_cells od__law_of an__law_of od__law_lists an__law_lists od__law_same an__law_same od__law_plus an__law_plus od__law_mixed an__law_mixed od__law_times an__law_times od__law_drawn_vectors an__law_drawn_vectors od__law_heard an__law_heard od__law_by_hand_right an__law_by_hand_right od__law_right an__law_right od_law an_law : Option Addr} {sl_is_number sl_is_below sl_is_tuple_of sl_is_row sl_inverse sl_row_by sl_product sl__law_box sl__law_take sl__law_cells sl__law_of sl__law_lists sl__law_same sl__law_plus sl__law_mixed sl__law_times sl__law_drawn_vectors sl__law_heard sl__law_by_hand_right sl__law_right sl_law : Array (Option Value)} {oc_is_number kV_is_number dc_is_number pm_is_number cd_is_number ct_is_number oc_is_below kV_is_below dc_is_below pm_is_below cd_is_below ct_is_below oc_is_tuple_of kV_is_tuple_of dc_is_tuple_of pm_is_tuple_of cd_is_tuple_of ct_is_tuple_of oc_is_row kV_is_row dc_is_row pm_is_row cd_is_row ct_is_row oc_inverse kV_inverse dc_inverse pm_inverse cd_inverse ct_inverse oc_row_by kV_row_by dc_row_by pm_row_by cd_row_by ct_row_by oc_product kV_product dc_product pm_product cd_product ct_product oc__law_box kV__law_box dc__law_box pm__law_box cd__law_box ct__law_box oc__law_take kV__law_take dc__law_take pm__law_take cd__law_take ct__law_take oc__law_cells kV__law_cells dc__law_cells pm__law_cells cd__law_cells ct__law_cells oc__law_of kV__law_of dc__law_of pm__law_of cd__law_of ct__law_of oc__law_lists kV__law_lists dc__law_lists pm__law_lists cd__law_lists ct__law_lists oc__law_same kV__law_same dc__law_same pm__law_same cd__law_same ct__law_same oc__law_plus kV__law_plus dc__law_plus pm__law_plus cd__law_plus ct__law_plus oc__law_mixed kV__law_mixed dc__law_mixed pm__law_mixed cd__law_mixed ct__law_mixed oc__law_times kV__law_times dc__law_times pm__law_times cd__law_times ct__law_times oc__law_drawn_vectors kV__law_drawn_vectors dc__law_drawn_vectors pm__law_drawn_vectors cd__law_drawn_vectors ct__law_drawn_vectors oc__law_heard kV__law_heard dc__law_heard pm__law_heard cd__law_heard ct__law_heard oc__law_by_hand_right kV__law_by_hand_right dc__law_by_hand_right pm__law_by_hand_right cd__law_by_hand_right ct__law_by_hand_right oc__law_right kV__law_right dc__law_right pm__law_right cd__law_right ct__law_right oc_law kV_law dc_law pm_law cd_law ct_law : Value} {C_Unfit : Addr} (X : K.In h) (G : h.Ns mainGlobals mg) (hfa : mg "law" = some (.ref fa))
    (a_is_number : PySem.W.nsIn K mainGlobals "is_number" = some (some (.ref f_is_number))) (l_is_number : K.lookup f_is_number = some ⟨oc_is_number, od_is_number, .func (PySem.W.fnOf "is_number" "is_number" (defArgs s_is_number) (defBody s_is_number) (defScope s_is_number) .none kV_is_number dc_is_number pm_is_number an_is_number cd_is_number ct_is_number), sl_is_number⟩) (c_is_number : PySem.W.codeIn K cd_is_number "is_number" = true) (k_is_number : PySem.W.keepIn K (.ref f_is_number) = true)
    (a_is_below : PySem.W.nsIn K mainGlobals "is_below" = some (some (.ref f_is_below))) (l_is_below : K.lookup f_is_below = some ⟨oc_is_below, od_is_below, .func (PySem.W.fnOf "is_below" "is_below" (defArgs s_is_below) (defBody s_is_below) (defScope s_is_below) .none kV_is_below dc_is_below pm_is_below an_is_below cd_is_below ct_is_below), sl_is_below⟩) (c_is_below : PySem.W.codeIn K cd_is_below "is_below" = true) (k_is_below : PySem.W.keepIn K (.ref f_is_below) = true)
    (a_is_tuple_of : PySem.W.nsIn K mainGlobals "is_tuple_of" = some (some (.ref f_is_tuple_of))) (l_is_tuple_of : K.lookup f_is_tuple_of = some ⟨oc_is_tuple_of, od_is_tuple_of, .func (PySem.W.fnOf "is_tuple_of" "is_tuple_of" (defArgs s_is_tuple_of) (defBody s_is_tuple_of) (defScope s_is_tuple_of) .none kV_is_tuple_of dc_is_tuple_of pm_is_tuple_of an_is_tuple_of cd_is_tuple_of ct_is_tuple_of), sl_is_tuple_of⟩) (c_is_tuple_of : PySem.W.codeIn K cd_is_tuple_of "is_tuple_of" = true) (k_is_tuple_of : PySem.W.keepIn K (.ref f_is_tuple_of) = true)
    (a_is_row : PySem.W.nsIn K mainGlobals "is_row" = some (some (.ref f_is_row))) (l_is_row : K.lookup f_is_row = some ⟨oc_is_row, od_is_row, .func (PySem.W.fnOf "is_row" "is_row" (defArgs s_is_row) (defBody s_is_row) (defScope s_is_row) .none kV_is_row dc_is_row pm_is_row an_is_row cd_is_row ct_is_row), sl_is_row⟩) (c_is_row : PySem.W.codeIn K cd_is_row "is_row" = true) (k_is_row : PySem.W.keepIn K (.ref f_is_row) = true)
    (a_inverse : PySem.W.nsIn K mainGlobals "inverse" = some (some (.ref f_inverse))) (l_inverse : K.lookup f_inverse = some ⟨oc_inverse, od_inverse, .func (PySem.W.fnOf "inverse" "inverse" (defArgs s_inverse) (defBody s_inverse) (defScope s_inverse) .none kV_inverse dc_inverse pm_inverse an_inverse cd_inverse ct_inverse), sl_inverse⟩) (c_inverse : PySem.W.codeIn K cd_inverse "inverse" = true) (k_inverse : PySem.W.keepIn K (.ref f_inverse) = true)
    (a_row_by : PySem.W.nsIn K mainGlobals "row_by" = some (some (.ref f_row_by))) (l_row_by : K.lookup f_row_by = some ⟨oc_row_by, od_row_by, .func (PySem.W.fnOf "row_by" "row_by" (defArgs s_row_by) (defBody s_row_by) (defScope s_row_by) .none kV_row_by dc_row_by pm_row_by an_row_by cd_row_by ct_row_by), sl_row_by⟩) (c_row_by : PySem.W.codeIn K cd_row_by "row_by" = true) (k_row_by : PySem.W.keepIn K (.ref f_row_by) = true)
    (a_product : PySem.W.nsIn K mainGlobals "product" = some (some (.ref f_product))) (l_product : K.lookup f_product = some ⟨oc_product, od_product, .func (PySem.W.fnOf "product" "product" (defArgs s_product) (defBody s_product) (defScope s_product) .none kV_product dc_product pm_product an_product cd_product ct_product), sl_product⟩) (c_product : PySem.W.codeIn K cd_product "product" = true) (k_product : PySem.W.keepIn K (.ref f_product) = true)
    (a__law_box : PySem.W.nsIn K mainGlobals "_law_box" = some (some (.ref f__law_box))) (l__law_box : K.lookup f__law_box = some ⟨oc__law_box, od__law_box, .func (PySem.W.fnOf "_law_box" "_law_box" (defArgs s__law_box) (defBody s__law_box) (defScope s__law_box) .none kV__law_box dc__law_box pm__law_box an__law_box cd__law_box ct__law_box), sl__law_box⟩) (c__law_box : PySem.W.codeIn K cd__law_box "_law_box" = true) (k__law_box : PySem.W.keepIn K (.ref f__law_box) = true)
    (a__law_take : PySem.W.nsIn K mainGlobals "_law_take" = some (some (.ref f__law_take))) (l__law_take : K.lookup f__law_take = some ⟨oc__law_take, od__law_take, .func (PySem.W.fnOf "_law_take" "_law_take" (defArgs s__law_take) (defBody s__law_take) (defScope s__law_take) .none kV__law_take dc__law_take pm__law_take an__law_take cd__law_take ct__law_take), sl__law_take⟩) (c__law_take : PySem.W.codeIn K cd__law_take "_law_take" = true) (k__law_take : PySem.W.keepIn K (.ref f__law_take) = true)
    (a__law_cells : PySem.W.nsIn K mainGlobals "_law_cells" = some (some (.ref f__law_cells))) (l__law_cells : K.lookup f__law_cells = some ⟨oc__law_cells, od__law_cells, .func (PySem.W.fnOf "_law_cells" "_law_cells" (defArgs s__law_cells) (defBody s__law_cells) (defScope s__law_cells) .none kV__law_cells dc__law_cells pm__law_cells an__law_cells cd__law_cells ct__law_cells), sl__law_cells⟩) (c__law_cells : PySem.W.codeIn K cd__law_cells "_law_cells" = true) (k__law_cells : PySem.W.keepIn K (.ref f__law_cells) = true)
    (a__law_of : PySem.W.nsIn K mainGlobals "_law_of" = some (some (.ref f__law_of))) (l__law_of : K.lookup f__law_of = some ⟨oc__law_of, od__law_of, .func (PySem.W.fnOf "_law_of" "_law_of" (defArgs s__law_of) (defBody s__law_of) (defScope s__law_of) .none kV__law_of dc__law_of pm__law_of an__law_of cd__law_of ct__law_of), sl__law_of⟩) (c__law_of : PySem.W.codeIn K cd__law_of "_law_of" = true) (k__law_of : PySem.W.keepIn K (.ref f__law_of) = true)
    (a__law_lists : PySem.W.nsIn K mainGlobals "_law_lists" = some (some (.ref f__law_lists))) (l__law_lists : K.lookup f__law_lists = some ⟨oc__law_lists, od__law_lists, .func (PySem.W.fnOf "_law_lists" "_law_lists" (defArgs s__law_lists) (defBody s__law_lists) (defScope s__law_lists) .none kV__law_lists dc__law_lists pm__law_lists an__law_lists cd__law_lists ct__law_lists), sl__law_lists⟩) (c__law_lists : PySem.W.codeIn K cd__law_lists "_law_lists" = true) (k__law_lists : PySem.W.keepIn K (.ref f__law_lists) = true)
    (a__law_same : PySem.W.nsIn K mainGlobals "_law_same" = some (some (.ref f__law_same))) (l__law_same : K.lookup f__law_same = some ⟨oc__law_same, od__law_same, .func (PySem.W.fnOf "_law_same" "_law_same" (defArgs s__law_same) (defBody s__law_same) (defScope s__law_same) .none kV__law_same dc__law_same pm__law_same an__law_same cd__law_same ct__law_same), sl__law_same⟩) (c__law_same : PySem.W.codeIn K cd__law_same "_law_same" = true) (k__law_same : PySem.W.keepIn K (.ref f__law_same) = true)
    (a__law_plus : PySem.W.nsIn K mainGlobals "_law_plus" = some (some (.ref f__law_plus))) (l__law_plus : K.lookup f__law_plus = some ⟨oc__law_plus, od__law_plus, .func (PySem.W.fnOf "_law_plus" "_law_plus" (defArgs s__law_plus) (defBody s__law_plus) (defScope s__law_plus) .none kV__law_plus dc__law_plus pm__law_plus an__law_plus cd__law_plus ct__law_plus), sl__law_plus⟩) (c__law_plus : PySem.W.codeIn K cd__law_plus "_law_plus" = true) (k__law_plus : PySem.W.keepIn K (.ref f__law_plus) = true)
    (a__law_mixed : PySem.W.nsIn K mainGlobals "_law_mixed" = some (some (.ref f__law_mixed))) (l__law_mixed : K.lookup f__law_mixed = some ⟨oc__law_mixed, od__law_mixed, .func (PySem.W.fnOf "_law_mixed" "_law_mixed" (defArgs s__law_mixed) (defBody s__law_mixed) (defScope s__law_mixed) .none kV__law_mixed dc__law_mixed pm__law_mixed an__law_mixed cd__law_mixed ct__law_mixed), sl__law_mixed⟩) (c__law_mixed : PySem.W.codeIn K cd__law_mixed "_law_mixed" = true) (k__law_mixed : PySem.W.keepIn K (.ref f__law_mixed) = true)
    (a__law_times : PySem.W.nsIn K mainGlobals "_law_times" = some (some (.ref f__law_times))) (l__law_times : K.lookup f__law_times = some ⟨oc__law_times, od__law_times, .func (PySem.W.fnOf "_law_times" "_law_times" (defArgs s__law_times) (defBody s__law_times) (defScope s__law_times) .none kV__law_times dc__law_times pm__law_times an__law_times cd__law_times ct__law_times), sl__law_times⟩) (c__law_times : PySem.W.codeIn K cd__law_times "_law_times" = true) (k__law_times : PySem.W.keepIn K (.ref f__law_times) = true)
    (a__law_drawn_vectors : PySem.W.nsIn K mainGlobals "_law_drawn_vectors" = some (some (.ref f__law_drawn_vectors))) (l__law_drawn_vectors : K.lookup f__law_drawn_vectors = some ⟨oc__law_drawn_vectors, od__law_drawn_vectors, .func (PySem.W.fnOf "_law_drawn_vectors" "_law_drawn_vectors" (defArgs s__law_drawn_vectors) (defBody s__law_drawn_vectors) (defScope s__law_drawn_vectors) .none kV__law_drawn_vectors dc__law_drawn_vectors pm__law_drawn_vectors an__law_drawn_vectors cd__law_drawn_vectors ct__law_drawn_vectors), sl__law_drawn_vectors⟩) (c__law_drawn_vectors : PySem.W.codeIn K cd__law_drawn_vectors "_law_drawn_vectors" = true) (k__law_drawn_vectors : PySem.W.keepIn K (.ref f__law_drawn_vectors) = true)
    (a__law_heard : PySem.W.nsIn K mainGlobals "_law_heard" = some (some (.ref f__law_heard))) (l__law_heard : K.lookup f__law_heard = some ⟨oc__law_heard, od__law_heard, .func (PySem.W.fnOf "_law_heard" "_law_heard" (defArgs s__law_heard) (defBody s__law_heard) (defScope s__law_heard) .none kV__law_heard dc__law_heard pm__law_heard an__law_heard cd__law_heard ct__law_heard), sl__law_heard⟩) (c__law_heard : PySem.W.codeIn K cd__law_heard "_law_heard" = true) (k__law_heard : PySem.W.keepIn K (.ref f__law_heard) = true)
    (a__law_by_hand_right : PySem.W.nsIn K mainGlobals "_law_by_hand_right" = some (some (.ref f__law_by_hand_right))) (l__law_by_hand_right : K.lookup f__law_by_hand_right = some ⟨oc__law_by_hand_right, od__law_by_hand_right, .func (PySem.W.fnOf "_law_by_hand_right" "_law_by_hand_right" (defArgs s__law_by_hand_right) (defBody s__law_by_hand_right) (defScope s__law_by_hand_right) .none kV__law_by_hand_right dc__law_by_hand_right pm__law_by_hand_right an__law_by_hand_right cd__law_by_hand_right ct__law_by_hand_right), sl__law_by_hand_right⟩) (c__law_by_hand_right : PySem.W.codeIn K cd__law_by_hand_right "_law_by_hand_right" = true) (k__law_by_hand_right : PySem.W.keepIn K (.ref f__law_by_hand_right) = true)
    (a__law_right : PySem.W.nsIn K mainGlobals "_law_right" = some (some (.ref f__law_right))) (l__law_right : K.lookup f__law_right = some ⟨oc__law_right, od__law_right, .func (PySem.W.fnOf "_law_right" "_law_right" (defArgs s__law_right) (defBody s__law_right) (defScope s__law_right) .none kV__law_right dc__law_right pm__law_right an__law_right cd__law_right ct__law_right), sl__law_right⟩) (c__law_right : PySem.W.codeIn K cd__law_right "_law_right" = true) (k__law_right : PySem.W.keepIn K (.ref f__law_right) = true)
    (a_law : PySem.W.nsIn K mainGlobals "law" = some (some (.ref f_law))) (l_law : K.lookup f_law = some ⟨oc_law, od_law, .func (PySem.W.fnOf "law" "law" (defArgs s_law) (defBody s_law) (defScope s_law) .none kV_law dc_law pm_law an_law cd_law ct_law), sl_law⟩) (c_law : PySem.W.codeIn K cd_law "law" = true) (k_law : PySem.W.keepIn K (.ref f_law) = true)
    (xg_Unfit : PySem.W.nsIn K mainGlobals "Unfit" = some (some (.ref C_Unfit))) (xq_Unfit : PySem.W.excIn K C_Unfit [.type "ValueError", .type "Exception", .type "BaseException", .type "object"] "ValueError.__new__" = true) (xk_Unfit : PySem.W.keepIn K (.ref C_Unfit) = true) (xb_Unfit : PySem.W.subIn K (.ref C_Unfit) (.type "BaseException") = some true) (xt_Unfit : PySem.W.typeIn K (.ref C_Unfit) = some (.type "type"))
    (xc1_Unfit : PySem.W.findIn K (.ref C_Unfit) "__getattribute__" = some (some (.builtin "BaseException.__getattribute__"))) (xc2_Unfit : PySem.W.findIn K (.ref C_Unfit) "__getattr__" = some none) (xc3_Unfit : PySem.W.hasDictIn K C_Unfit = true) (xc4_Unfit : PySem.W.findIn K (.ref C_Unfit) "__class__" = some (some (.builtin "object.__class__"))) (xc5_Unfit : PySem.W.specialIn K (.builtin "object.__class__") "__get__" = some (some (.builtin "getset_descriptor.__get__"))) (xc6_Unfit : PySem.W.takesIn K (.builtin "object.__class__") = some true) (xc7_Unfit : PySem.W.mroIn K C_Unfit (.type "object") = some true) (xs_Unfit : PySem.W.subIn K (.ref C_Unfit) (.ref C_Unfit) = some true) (xv_Unfit : PySem.W.subIn K (.ref C_Unfit) (.type "ValueError") = some true)
    (z_ValueError : PySem.W.nsIn K mainGlobals "ValueError" = some none) (z_abs : PySem.W.nsIn K mainGlobals "abs" = some none) (z_all : PySem.W.nsIn K mainGlobals "all" = some none) (z_bool : PySem.W.nsIn K mainGlobals "bool" = some none) (z_enumerate : PySem.W.nsIn K mainGlobals "enumerate" = some none) (z_int : PySem.W.nsIn K mainGlobals "int" = some none) (z_isinstance : PySem.W.nsIn K mainGlobals "isinstance" = some none) (z_len : PySem.W.nsIn K mainGlobals "len" = some none) (z_list : PySem.W.nsIn K mainGlobals "list" = some none) (z_range : PySem.W.nsIn K mainGlobals "range" = some none) (z_str : PySem.W.nsIn K mainGlobals "str" = some none) (z_sum : PySem.W.nsIn K mainGlobals "sum" = some none) (z_tuple : PySem.W.nsIn K mainGlobals "tuple" = some none) (z_zip : PySem.W.nsIn K mainGlobals "zip" = some none) :
    ∃ fd : FuncData, (∀ (s : Shared) (v : Value), BindsTo s fd ⟨[v], []⟩ [("script", v)]) ∧ ∀ base : Heap, K.In base → base.Ns mainGlobals mg → FnOk l.prog w K mg base (L2.CX l.prog w) 10 fa fd ["script"] (spL K) := by
  have e := hfa.symm.trans (PySem.W.mg_of X G a_law)
  cases e
  have F_is_number := fun_mk (st := s_is_number) l_is_number c_is_number k_is_number
  have b_is_number := F_is_number.binds (ps := ["thing"]) fun _ _ _ _ _ _ us hl => match us, hl with | [_], _ => rfl
  have e_is_number := PySem.W.mg_of X G a_is_number
  have F_is_below := fun_mk (st := s_is_below) l_is_below c_is_below k_is_below
  have b_is_below := F_is_below.binds (ps := ["thing", "bound"]) fun _ _ _ _ _ _ us hl => match us, hl with | [_, _], _ => rfl
  have e_is_below := PySem.W.mg_of X G a_is_below
  have F_is_tuple_of := fun_mk (st := s_is_tuple_of) l_is_tuple_of c_is_tuple_of k_is_tuple_of
  have b_is_tuple_of := F_is_tuple_of.binds (ps := ["thing", "many"]) fun _ _ _ _ _ _ us hl => match us, hl with | [_, _], _ => rfl
  have e_is_tuple_of := PySem.W.mg_of X G a_is_tuple_of
  have F_is_row := fun_mk (st := s_is_row) l_is_row c_is_row k_is_row
  have b_is_row := F_is_row.binds (ps := ["thing", "prime", "length"]) fun _ _ _ _ _ _ us hl => match us, hl with | [_, _, _], _ => rfl
  have e_is_row := PySem.W.mg_of X G a_is_row
  have F_inverse := fun_mk (st := s_inverse) l_inverse c_inverse k_inverse
  have b_inverse := F_inverse.binds (ps := ["prime", "residue"]) fun _ _ _ _ _ _ us hl => match us, hl with | [_, _], _ => rfl
  have e_inverse := PySem.W.mg_of X G a_inverse
  have F_row_by := fun_mk (st := s_row_by) l_row_by c_row_by k_row_by
  have b_row_by := F_row_by.binds (ps := ["prime", "rows", "factors", "length"]) fun _ _ _ _ _ _ us hl => match us, hl with | [_, _, _, _], _ => rfl
  have e_row_by := PySem.W.mg_of X G a_row_by
  have F_product := fun_mk (st := s_product) l_product c_product k_product
  have b_product := F_product.binds (ps := ["prime", "row", "other"]) fun _ _ _ _ _ _ us hl => match us, hl with | [_, _, _], _ => rfl
  have e_product := PySem.W.mg_of X G a_product
  have F__law_box := fun_mk (st := s__law_box) l__law_box c__law_box k__law_box
  have b__law_box := F__law_box.binds (ps := ["script", "k"]) fun _ _ _ _ _ _ us hl => match us, hl with | [_, _], _ => rfl
  have e__law_box := PySem.W.mg_of X G a__law_box
  have F__law_take := fun_mk (st := s__law_take) l__law_take c__law_take k__law_take
  have b__law_take := F__law_take.binds (ps := ["tin", "below_so"]) fun _ _ _ _ _ _ us hl => match us, hl with | [_, _], _ => rfl
  have e__law_take := PySem.W.mg_of X G a__law_take
  have F__law_cells := fun_mk (st := s__law_cells) l__law_cells c__law_cells k__law_cells
  have b__law_cells := F__law_cells.binds (ps := ["script", "most_so"]) fun _ _ _ _ _ _ us hl => match us, hl with | [_, _], _ => rfl
  have e__law_cells := PySem.W.mg_of X G a__law_cells
  have F__law_of := fun_mk (st := s__law_of) l__law_of c__law_of k__law_of
  have b__law_of := F__law_of.binds (ps := ["tin", "goods_so"]) fun _ _ _ _ _ _ us hl => match us, hl with | [_, _], _ => rfl
  have e__law_of := PySem.W.mg_of X G a__law_of
  have F__law_lists := fun_mk (st := s__law_lists) l__law_lists c__law_lists k__law_lists
  have b__law_lists := F__law_lists.binds (ps := ["matter"]) fun _ _ _ _ _ _ us hl => match us, hl with | [_], _ => rfl
  have e__law_lists := PySem.W.mg_of X G a__law_lists
  have F__law_same := fun_mk (st := s__law_same) l__law_same c__law_same k__law_same
  have b__law_same := F__law_same.binds (ps := ["got", "due"]) fun _ _ _ _ _ _ us hl => match us, hl with | [_, _], _ => rfl
  have e__law_same := PySem.W.mg_of X G a__law_same
  have F__law_plus := fun_mk (st := s__law_plus) l__law_plus c__law_plus k__law_plus
  have b__law_plus := F__law_plus.binds (ps := ["p", "one_so", "two_so", "factor_so"]) fun _ _ _ _ _ _ us hl => match us, hl with | [_, _, _, _], _ => rfl
  have e__law_plus := PySem.W.mg_of X G a__law_plus
  have F__law_mixed := fun_mk (st := s__law_mixed) l__law_mixed c__law_mixed k__law_mixed
  have b__law_mixed := F__law_mixed.binds (ps := ["p", "vectors_so", "factors_so", "wide_so"]) fun _ _ _ _ _ _ us hl => match us, hl with | [_, _, _, _], _ => rfl
  have e__law_mixed := PySem.W.mg_of X G a__law_mixed
  have F__law_times := fun_mk (st := s__law_times) l__law_times c__law_times k__law_times
  have b__law_times := F__law_times.binds (ps := ["p", "one_so", "two_so"]) fun _ _ _ _ _ _ us hl => match us, hl with | [_, _, _], _ => rfl
  have e__law_times := PySem.W.mg_of X G a__law_times
  have F__law_drawn_vectors := fun_mk (st := s__law_drawn_vectors) l__law_drawn_vectors c__law_drawn_vectors k__law_drawn_vectors
  have b__law_drawn_vectors := F__law_drawn_vectors.binds (ps := ["tin", "p", "count_so", "wide_so"]) fun _ _ _ _ _ _ us hl => match us, hl with | [_, _, _, _], _ => rfl
  have e__law_drawn_vectors := PySem.W.mg_of X G a__law_drawn_vectors
  have F__law_heard := fun_mk (st := s__law_heard) l__law_heard c__law_heard k__law_heard
  have b__law_heard := F__law_heard.binds (ps := ["p", "n"]) fun _ _ _ _ _ _ us hl => match us, hl with | [_, _], _ => rfl
  have e__law_heard := PySem.W.mg_of X G a__law_heard
  have F__law_by_hand_right := fun_mk (st := s__law_by_hand_right) l__law_by_hand_right c__law_by_hand_right k__law_by_hand_right
  have b__law_by_hand_right := F__law_by_hand_right.binds (ps := []) fun _ _ _ _ _ _ us hl => match us, hl with | [], _ => rfl
  have e__law_by_hand_right := PySem.W.mg_of X G a__law_by_hand_right
  have F__law_right := fun_mk (st := s__law_right) l__law_right c__law_right k__law_right
  have b__law_right := F__law_right.binds (ps := ["tin"]) fun _ _ _ _ _ _ us hl => match us, hl with | [_], _ => rfl
  have e__law_right := PySem.W.mg_of X G a__law_right
  have F_law := fun_mk (st := s_law) l_law c_law k_law
  have e_law := PySem.W.mg_of X G a_law
  have m_ValueError := PySem.W.mg_none_of X G z_ValueError
  have m_abs := PySem.W.mg_none_of X G z_abs
  have m_all := PySem.W.mg_none_of X G z_all
  have m_bool := PySem.W.mg_none_of X G z_bool
  have m_enumerate := PySem.W.mg_none_of X G z_enumerate
  have m_int := PySem.W.mg_none_of X G z_int
  have m_isinstance := PySem.W.mg_none_of X G z_isinstance
  have m_len := PySem.W.mg_none_of X G z_len
  have m_list := PySem.W.mg_none_of X G z_list
  have m_range := PySem.W.mg_none_of X G z_range
  have m_str := PySem.W.mg_none_of X G z_str
  have m_sum := PySem.W.mg_none_of X G z_sum
  have m_tuple := PySem.W.mg_none_of X G z_tuple
  have m_zip := PySem.W.mg_none_of X G z_zip
  have X_Unfit : ExcT K mg "Unfit" C_Unfit _ _ _ _ := ⟨PySem.F.excBase_ValueError, xq_Unfit, PySem.W.mg_of X G xg_Unfit, xk_Unfit, xb_Unfit, xt_Unfit⟩
  have Xc_Unfit : ExcC K C_Unfit := ⟨xc1_Unfit, xc2_Unfit, xb_Unfit, xc3_Unfit, xc4_Unfit, xc5_Unfit, xc6_Unfit, xc7_Unfit⟩
  have Xs_Unfit := PySem.W.exm_ref xb_Unfit xc3_Unfit xt_Unfit xs_Unfit
  have Xk_Unfit := kit_exc (K := K) (C := C_Unfit) (T := "ValueError") (by decide +kernel) xv_Unfit
  refine ⟨PySem.W.fnOf "law" "law" (defArgs s_law) (defBody s_law) (defScope s_law) .none kV_law dc_law pm_law an_law cd_law ct_law, fun s v => .of_eq rfl, fun base _ _ => ?_⟩
  have O_is_number := ok_is_number (P := l.prog) (w := w) (base := base) F_is_number m_bool m_int m_isinstance
  have O_is_below := ok_is_below (P := l.prog) (w := w) (base := base) F_is_below O_is_number e_is_number k_is_number b_is_number
  have O_is_tuple_of := ok_is_tuple_of (P := l.prog) (w := w) (base := base) F_is_tuple_of m_isinstance m_len m_tuple
  have O_is_row := ok_is_row (P := l.prog) (w := w) (base := base) F_is_row O_is_below e_is_below k_is_below b_is_below O_is_tuple_of e_is_tuple_of k_is_tuple_of b_is_tuple_of m_all
  have O_inverse := ok_inverse (P := l.prog) (w := w) (base := base) F_inverse m_range X_Unfit
  have O_row_by := ok_row_by (P := l.prog) (w := w) (base := base) F_row_by m_tuple m_zip
  have O_product := ok_product (P := l.prog) (w := w) (base := base) F_product m_sum m_zip
  have O__law_box := ok__law_box (P := l.prog) (w := w) (base := base) F__law_box m_abs m_int m_len
  have O__law_take := ok__law_take (P := l.prog) (w := w) (base := base) F__law_take m_int
  have O__law_cells := ok__law_cells (P := l.prog) (w := w) (base := base) F__law_cells m_enumerate m_int m_list
  have O__law_of := ok__law_of (P := l.prog) (w := w) (base := base) F__law_of O__law_take e__law_take k__law_take b__law_take m_len
  have O__law_of2 := ok__law_of2 (P := l.prog) (w := w) (base := base) F__law_of O__law_take e__law_take k__law_take b__law_take m_len
  have O__law_lists := ok__law_lists (P := l.prog) (w := w) (base := base) F__law_lists e__law_lists k__law_lists b__law_lists m_isinstance m_list m_tuple
  have O__law_same := ok__law_same (P := l.prog) (w := w) (base := base) F__law_same e__law_same k__law_same b__law_same m_all m_bool m_int m_isinstance m_len m_list m_str m_tuple m_zip
  have O__law_plus := ok__law_plus (P := l.prog) (w := w) (base := base) F__law_plus m_int m_tuple m_zip
  have O__law_mixed := ok__law_mixed (P := l.prog) (w := w) (base := base) F__law_mixed O__law_plus e__law_plus k__law_plus b__law_plus m_zip
  have O__law_times := ok__law_times (P := l.prog) (w := w) (base := base) F__law_times m_int m_sum m_zip
  have O__law_drawn_vectors := ok__law_drawn_vectors (P := l.prog) (w := w) (base := base) F__law_drawn_vectors O__law_of e__law_of k__law_of b__law_of O__law_of2 O__law_plus e__law_plus k__law_plus b__law_plus O__law_take e__law_take k__law_take b__law_take m_range m_tuple
  have O__law_heard := ok__law_heard (P := l.prog) (w := w) (base := base) F__law_heard O_inverse e_inverse k_inverse b_inverse m_ValueError m_isinstance X_Unfit Xc_Unfit Xs_Unfit Xk_Unfit
  have O__law_by_hand_right := ok__law_by_hand_right (P := l.prog) (w := w) (base := base) F__law_by_hand_right O__law_heard e__law_heard k__law_heard b__law_heard O__law_same e__law_same k__law_same b__law_same O_inverse e_inverse k_inverse b_inverse (fun ws hl => match ws, hl with | [_, _], _ => rfl) O_is_row e_is_row k_is_row b_is_row (fun ws hl => match ws, hl with | [_, _, _], _ => rfl) O_product e_product k_product b_product (fun ws hl => match ws, hl with | [_, _, _], _ => rfl) O_row_by e_row_by k_row_by b_row_by (fun ws hl => match ws, hl with | [_, _, _, _], _ => rfl) m_int m_len m_range m_tuple
  have O__law_right := ok__law_right (P := l.prog) (w := w) (base := base) F__law_right O__law_drawn_vectors e__law_drawn_vectors k__law_drawn_vectors b__law_drawn_vectors O__law_lists e__law_lists k__law_lists b__law_lists O__law_mixed e__law_mixed k__law_mixed b__law_mixed O__law_of e__law_of k__law_of b__law_of O__law_same e__law_same k__law_same b__law_same O__law_take e__law_take k__law_take b__law_take O__law_times e__law_times k__law_times b__law_times O_is_row e_is_row k_is_row b_is_row O_product e_product k_product b_product O_row_by e_row_by k_row_by b_row_by m_bool m_int m_isinstance m_list m_range m_tuple
  have O_law := ok_law (P := l.prog) (w := w) (base := base) F_law O__law_box e__law_box k__law_box b__law_box O__law_by_hand_right e__law_by_hand_right k__law_by_hand_right b__law_by_hand_right O__law_cells e__law_cells k__law_cells b__law_cells O__law_right e__law_right k__law_right b__law_right m_all m_len m_range
  exact fn_weak O_law fun vs H Q E q => q mg
end K02
end

section
set_option linter.all false
set_option maxRecDepth 100000
set_option maxHeartbeats 1000000
namespace K02
open PySem PD
/-- what a take leaves: a number below k, and a tin again -/
theorem take_pos (x y z k : Int) (hk : 0 < k) (hd : divOk k = true) (hx : 0 < x) : g__law_take [.ow true [.int x, .int y, .int z], .fz (.int k)] = some (.ok (.int (x.fmod k)), [.ow true [.int (x.fdiv k), .int y, .int z], .fz (.int k)]) := by
  have h0 : k ≠ 0 := by omega
  simp [g__law_take, runD, B__law_take, sSeq, sIf, bnd, PD.ret, lif, xBool, xBin, xIxO, xCall, sAsg, sSub, sRet, sSkip, gtD, intsD, ixD, L2.atI, L2.ixN, boolD, modD, fdivD, intD, xVar, sName, keepO, keepD, Cell.free, hx, h0, hd]

theorem sm_mod (w : Int) : small64 (w.fmod 40009 + 7) = true := by
  have h1 := Int.fmod_nonneg_of_pos w (b := 40009) (by decide)
  have h2 := Int.fmod_lt_of_pos w (b := 40009) (by decide)
  unfold small64
  simp only [Bool.and_eq_true, decide_eq_true_eq]
  omega
theorem sm_z {z : Int} (h1 : 0 ≤ z) (h2 : z < 1000000) : small64 (39373 + (z + 1)) = true := by
  unfold small64
  simp only [Bool.and_eq_true, decide_eq_true_eq]
  omega
theorem take_neg (x y z k : Int) (hk : 0 < k) (hd : divOk k = true) (hx : ¬ 0 < x) (z0 : 0 ≤ z) (z1 : z < 1000000) : ∃ v : Int, g__law_take [.ow true [.int x, .int y, .int z], .fz (.int k)] = some (.ok (.int (v.fmod k)), [.ow true [.int x, .int y, .int (z + 1)], .fz (.int k)]) := by
  have h0 : k ≠ 0 := by omega
  have d1 : divOk 1000003 = true := by decide
  have d2 : divOk 64 = true := by decide
  have s1 : small64 48271 = true := by decide
  have s2 := sm_z z0 z1
  refine ⟨?v, ?h⟩
  case h =>
   simp [g__law_take, runD, B__law_take, sSeq, sIf, bnd, PD.ret, lif, xBool, xBin, xIxO, xCall, sAsg, sSub, sRet, sSkip, gtD, intsD, ixD, L2.atI, L2.ixN, boolD, modD, fdivD, intD, addD, addI, mulD, mulI, mulOk, xVar, sName, keepO, keepD, Cell.free, hx, h0, d1, d2, s1, s2, sm_mod]
   rfl
theorem take_any (x y z k : Int) (hk : 0 < k) (hd : divOk k = true) (z0 : 0 ≤ z) (z1 : z < 1000000) : ∃ v x' z' : Int, g__law_take [.ow true [.int x, .int y, .int z], .fz (.int k)] = some (.ok (.int v), [.ow true [.int x', .int y, .int z'], .fz (.int k)]) ∧ 0 ≤ v ∧ v < k ∧ 0 ≤ z' ∧ z' ≤ z + 1 := by
  by_cases hx : 0 < x
  · exact ⟨_, _, _, take_pos x y z k hk hd hx, Int.fmod_nonneg_of_pos _ hk, Int.fmod_lt_of_pos _ hk, z0, by omega⟩
  · obtain ⟨v, h⟩ := take_neg x y z k hk hd hx z0 z1
    exact ⟨_, _, _, h, Int.fmod_nonneg_of_pos _ hk, Int.fmod_lt_of_pos _ hk, by omega, by omega⟩
end K02
end

section
set_option linter.all false
set_option maxRecDepth 100000
set_option maxHeartbeats 1000000
namespace K02
open PySem PD
theorem ints_map (l : List Int) : ints? (l.map .int) = some l := by
  induction l with
  | nil => rfl
  | cons x l ih => simp [ints?, ih]
theorem comp_mul {p : Int} {a b : PyData} {l m : List Int} (hl : l.length ≤ 1000) (hs : ∀ x ∈ l, small64 x = true) :
    compD [3, 4] (sTup 2 (sCons (sName 3) (sCons (sName 4) sNil))) (PD.ret true) (xBin mulD (xVar 3) (xVar 4)) (pairL (l.map .int) (m.map .int)) [] [.fz (.int p), .fz a, .fz b, .un, .un] = some ((List.zipWith (· * ·) l m).map .int, [.fz (.int p), .fz a, .fz b, .un, .un]) := by
  have q := comp_map (is := [3, 4]) (set := sTup 2 (sCons (sName 3) (sCons (sName 4) sNil))) (el := xBin mulD (xVar 3) (xVar 4)) (ds := pairL (l.map .int) (m.map .int)) (acc := []) (δ := [.fz (.int p), .fz a, .fz b, .un, .un])
    (fun d => match d with | .tuple [.int x, .int y] => .int (x * y) | _ => .none) (by rw [pairL_length]; simp; omega) (fun d hd => by
      rw [pairL_ints] at hd
      obtain ⟨x, y, hx, hd⟩ : ∃ x y, x ∈ l ∧ d = .tuple [.int x, .int y] := by
        obtain ⟨j, hj, e⟩ := List.getElem_of_mem hd
        rw [List.getElem_zipWith] at e
        exact ⟨_, _, List.getElem_mem _, e.symm⟩
      subst hd
      have h1 := hs x hx
      refine ⟨_, _, by simp [sTup, sCons, sName, sNil, Cell.free]; rfl, by simp [xBin, xVar, bnd, lif, mulD, mulI, intsD, mulOk, h1]; rfl, by simp [noOw], by simp [wipeD]⟩)
  rw [q, pairL_ints, List.map_zipWith, List.map_zipWith]
  rfl
theorem product_eq {p : Int} {a b : PyData} {l m : List Int} (hp : p ≠ 0) (ha : seqD a = some (l.map .int)) (hb : seqD b = some (m.map .int)) (hl : l.length ≤ 1000) (hs : ∀ x ∈ l, small64 x = true) :
    g_product [.fz (.int p), .fz a, .fz b] = some (.ok (.int ((List.zipWith (· * ·) l m).sum.fmod p)), [.fz (.int p), .fz a, .fz b]) := by
  have hc := comp_mul (p := p) (a := a) (b := b) (m := m) hl hs
  simp [g_product, runD, B_product, sRet, xBin, xCall, xCallF', xComp, bnd, PD.ret, lif, xVar, zipD, ha, hb, noOw, wipeD, backD, sumD, ints_map, modD, intsD, hp, keepO, keepD]
  unfold PD.ret at hc
  simp only [xBin, bnd, lif, xVar] at hc
  simp [hc, ints_map, backD, hp, keepD, -List.map_zipWith]
theorem times_eq {p : Int} {a b : PyData} {l m : List Int} (hp : p ≠ 0) (ha : seqD a = some (l.map .int)) (hb : seqD b = some (m.map .int)) (hl : l.length ≤ 1000) (hs : ∀ x ∈ l, small64 x = true) :
    g__law_times [.fz (.int p), .fz a, .fz b] = some (.ok (.int ((List.zipWith (· * ·) l m).sum.fmod p)), [.fz (.int p), .fz a, .fz b]) := by
  have hc := comp_mul (p := p) (a := a) (b := b) (m := m) hl hs
  simp [g__law_times, runD, B__law_times, sRet, xBin, xCall, xCallF', xComp, bnd, PD.ret, lif, xVar, zipD, ha, hb, noOw, wipeD, backD, sumD, ints_map, modD, intsD, hp, keepO, keepD]
  unfold PD.ret at hc
  simp only [xBin, bnd, lif, xVar] at hc
  simp [hc, ints_map, backD, hp, keepD, intD, -List.map_zipWith]
end K02
end

section
set_option linter.all false
set_option maxRecDepth 100000
set_option maxHeartbeats 1000000
namespace K02
open PySem PD
/-- a row more -/
def lin (p : Int) (l m : List Int) (f : Int) : List Int := List.zipWith (fun o s => (o + f * s).fmod p) l m
theorem lin_map {p f : Int} {l m : List Int} : (pairL (l.map .int) (m.map .int)).map (fun d => match d with | .tuple [.int x, .int y] => PyData.int ((x + f * y).fmod p) | _ => .none) = (lin p l m f).map .int := by
  rw [pairL_ints, List.map_zipWith, lin, List.map_zipWith]
theorem pair_mem {l m : List Int} {d : PyData} (hd : d ∈ pairL (l.map .int) (m.map .int)) : ∃ x y : Int, d = .tuple [.int x, .int y] := by
  rw [pairL_ints] at hd
  obtain ⟨j, hj, e⟩ := List.getElem_of_mem hd
  rw [List.getElem_zipWith] at e
  exact ⟨_, _, e.symm⟩
theorem comp_lin {p f : Int} {a b : PyData} {l m : List Int} (hp : p ≠ 0) (hl : l.length ≤ 1000) (hf : small64 f = true) :
    compD [4, 5] (sTup 2 (sCons (sName 4) (sCons (sName 5) sNil))) (PD.ret true) (xBin modD (xCall intD (bnd (xBin addD (xVar 4) (xBin mulD (xVar 3) (xVar 5))) fun d => bnd (PD.ret []) fun ds => PD.ret (d :: ds))) (xVar 0)) (pairL (l.map .int) (m.map .int)) [] [.fz (.int p), .fz a, .fz b, .fz (.int f), .un, .un]
      = some ((lin p l m f).map .int, [.fz (.int p), .fz a, .fz b, .fz (.int f), .un, .un]) := by
  have q := PD.comp_map (is := [4, 5]) (set := sTup 2 (sCons (sName 4) (sCons (sName 5) sNil))) (el := xBin modD (xCall intD (bnd (xBin addD (xVar 4) (xBin mulD (xVar 3) (xVar 5))) fun d => bnd (PD.ret []) fun ds => PD.ret (d :: ds))) (xVar 0)) (ds := pairL (l.map .int) (m.map .int)) (acc := []) (δ := [.fz (.int p), .fz a, .fz b, .fz (.int f), .un, .un])
    (fun d => match d with | PyData.tuple [PyData.int x, PyData.int y] => PyData.int ((x + f * y).fmod p) | _ => PyData.none) (by rw [pairL_length]; simp; omega) (fun d hd => by
      obtain ⟨x, y, rfl⟩ := pair_mem hd
      exact ⟨_, _, by simp [sTup, sCons, sName, sNil, Cell.free]; rfl, by simp [xBin, xVar, xCall, bnd, lif, PD.ret, mulD, mulI, addD, addI, modD, intD, intsD, mulOk, hf, hp]; rfl, by simp [noOw], by simp [wipeD]⟩)
  rw [q, lin_map]
  rfl
theorem plus_eq {p f : Int} {a b : PyData} {l m : List Int} (hp : p ≠ 0) (ha : seqD a = some (l.map .int)) (hb : seqD b = some (m.map .int)) (hl : l.length ≤ 1000) (hf : small64 f = true) :
    g__law_plus [.fz (.int p), .fz a, .fz b, .fz (.int f)] = some (.ok (.tuple ((lin p l m f).map .int)), [.fz (.int p), .fz a, .fz b, .fz (.int f)]) := by
  have hc := comp_lin (p := p) (a := a) (b := b) (m := m) hp hl hf
  simp [g__law_plus, runD, B__law_plus, sRet, xCall, xCallF', xComp, bnd, PD.ret, lif, xVar, zipD, ha, hb, noOw, wipeD, keepO]
  unfold PD.ret at hc
  simp only [xBin, bnd, lif, xVar, xCall] at hc
  simp [xBin, bnd, lif, xVar, hc, backD, keepD, tupleD]
end K02
end

section
set_option linter.all false
set_option maxRecDepth 100000
set_option maxHeartbeats 1000000
namespace K02
open PySem PD
/-- rows by factors, summed up from a line on -/
def comb (p : Int) : List Int → List (List Int) → List Int → List Int
  | line, r :: rows, f :: fs => comb p (lin p line r f) rows fs
  | line, _, _ => line
/-- data that are the rows -/
inductive Rows : List PyData → List (List Int) → Prop
  | nil : Rows [] []
  | cons {v : PyData} {vs : List PyData} {r : List Int} {rows : List (List Int)} : seqD v = some (r.map .int) → Rows vs rows → Rows (v :: vs) (r :: rows)
abbrev mixSet : Tg := sTup 2 (sCons (sName 5) (sCons (sName 6) sNil))
abbrev mixBody : MS := sAsg (xDef g__law_plus (bnd (xVar 0) fun d => bnd (bnd (xVar 4) fun d => bnd (bnd (xVar 5) fun d => bnd (bnd (xVar 6) fun d => bnd (PD.ret []) fun ds => PD.ret (d :: ds)) fun ds => PD.ret (d :: ds)) fun ds => PD.ret (d :: ds)) fun ds => PD.ret (d :: ds))) (sName 4)
theorem lin_len {p f : Int} {l m : List Int} : (lin p l m f).length ≤ l.length := by
  unfold lin
  rw [List.length_zipWith]
  omega
theorem mixed_loop {p : Int} (hp : p ≠ 0) (a b : PyData) (n : Int) : ∀ {vs : List PyData} {rows : List (List Int)}, Rows vs rows → ∀ (fs : List Int), (∀ f ∈ fs, small64 f = true) → ∀ (line : List Int), line.length ≤ 1000 → ∀ c5 c6 : Cell, c5.free = true → c6.free = true →
    ∃ c5' c6', loopD mixSet mixBody (pairL vs (fs.map .int)) [.fz (.int p), .fz a, .fz b, .fz (.int n), .fz (.tuple (line.map .int)), c5, c6] = some (.ok .nx, [.fz (.int p), .fz a, .fz b, .fz (.int n), .fz (.tuple ((comb p line rows fs).map .int)), c5', c6'])
  | _, _, .nil, fs, _, line, _, c5, c6, _, _ => ⟨c5, c6, by simp [pairL, loopD, comb]⟩
  | _, _, .cons _ _, [], _, line, _, c5, c6, _, _ => ⟨c5, c6, by simp [pairL, loopD, comb]⟩
  | _, _, .cons (v := v) (r := r) hv t, f :: fs, hf, line, hl, c5, c6, h5, h6 => by
    obtain ⟨d5, d6, e⟩ := mixed_loop hp a b n t fs (fun g hg => hf g (List.mem_cons_of_mem _ hg)) (lin p line r f) (Nat.le_trans lin_len hl) (.fz v) (.fz (.int f)) rfl rfl
    refine ⟨d5, d6, ?_⟩
    have q := plus_eq (p := p) (f := f) (a := .tuple (line.map .int)) (b := v) (l := line) (m := r) hp rfl hv hl (hf f (List.mem_cons_self ..))
    have h1 : mixSet (.tuple [v, .int f]) [.fz (.int p), .fz a, .fz b, .fz (.int n), .fz (.tuple (line.map .int)), c5, c6] = some [.fz (.int p), .fz a, .fz b, .fz (.int n), .fz (.tuple (line.map .int)), .fz v, .fz (.int f)] := by
      simp [mixSet, sTup, sCons, sName, sNil, h5, h6]
    have h2 : mixBody [.fz (.int p), .fz a, .fz b, .fz (.int n), .fz (.tuple (line.map .int)), .fz v, .fz (.int f)] = some (.ok .nx, [.fz (.int p), .fz a, .fz b, .fz (.int n), .fz (.tuple ((lin p line r f).map .int)), .fz v, .fz (.int f)]) := by
      simp [mixBody, sAsg, xDef, xVar, bnd, PD.ret, q, sName, Cell.free]
    show loopD mixSet mixBody (.tuple [v, .int f] :: pairL _ (fs.map .int)) _ = _
    unfold loopD
    simp only [h1, h2, e]
    rfl
theorem mixed_eq {p : Int} {a b : PyData} {n : Nat} {vs : List PyData} {rows : List (List Int)} {fs : List Int} (hp : p ≠ 0) (ha : seqD a = some vs) (hr : Rows vs rows) (hb : seqD b = some (fs.map .int)) (hf : ∀ f ∈ fs, small64 f = true) (hn : n ≤ 1000) :
    g__law_mixed [.fz (.int p), .fz a, .fz b, .fz (.int n)] = some (.ok (.tuple ((comb p (List.replicate n 0) rows fs).map .int)), [.fz (.int p), .fz a, .fz b, .fz (.int n)]) := by
  obtain ⟨c5, c6, e⟩ := mixed_loop hp a b n hr fs hf (List.replicate n 0) (by simp; exact hn) .un .un rfl rfl
  have hm : mulD (.tuple [.int 0]) (.int (n : Int)) = some (.tuple ((List.replicate n (0 : Int)).map .int)) := by
    simp [mulD, mulI, intsD, repT]
    omega
  have h0 : ((1 : Nat) ≤ sizeLine) := by rw [sizeLine_eq]; omega
  have q : sFor (xCallF' zipD (bnd (xVar 1) fun d => bnd (bnd (xVar 2) fun d => bnd (PD.ret []) fun ds => PD.ret (d :: ds)) fun ds => PD.ret (d :: ds))) mixSet mixBody [.fz (.int p), .fz a, .fz b, .fz (.int n), .fz (.tuple ((List.replicate n (0 : Int)).map .int)), .un, .un] = some (.ok .nx, [.fz (.int p), .fz a, .fz b, .fz (.int n), .fz (.tuple ((comb p (List.replicate n 0) rows fs).map .int)), c5, c6]) := by
    simp only [sFor, xCallF', bnd, PD.ret, lif, xVar, zipD, ha, hb, List.getElem?_cons_succ, List.getElem?_cons_zero]
    exact e
  show runD 7 (sSeq (sAsg (xBin mulD (xTup (bnd (PD.ret (.int 0)) fun d => bnd (PD.ret []) fun ds => PD.ret (d :: ds))) (xVar 3)) (sName 4)) (sSeq (sFor (xCallF' zipD (bnd (xVar 1) fun d => bnd (bnd (xVar 2) fun d => bnd (PD.ret []) fun ds => PD.ret (d :: ds)) fun ds => PD.ret (d :: ds))) mixSet mixBody) (sRet (xVar 4)))) _ = _
  have q0 : sAsg (xBin mulD (xTup (bnd (PD.ret (.int 0)) fun d => bnd (PD.ret []) fun ds => PD.ret (d :: ds))) (xVar 3)) (sName 4) [.fz (.int p), .fz a, .fz b, .fz (.int n), .un, .un, .un] = some (.ok .nx, [.fz (.int p), .fz a, .fz b, .fz (.int n), .fz (.tuple ((List.replicate n (0 : Int)).map .int)), .un, .un]) := by
    simp only [sAsg, xBin, xTup, bnd, PD.ret, lif, xVar, List.getElem?_cons_succ, List.getElem?_cons_zero, List.length_cons, List.length_nil, Nat.zero_add, h0, if_true, hm, sName, Cell.free]
    rfl
  simp only [runD, List.length_cons, List.length_nil]
  show (match sSeq _ _ [.fz (.int p), .fz a, .fz b, .fz (.int n), .un, .un, .un] with | some (.ok (.rt d), δ) => _ | some (.ok (.rf ds), δ) => _ | some (.ok .nx, δ) => _ | some (.ex c fs, δ) => _ | _ => _) = _
  unfold sSeq
  rw [q0]
  dsimp only
  rw [q]
  simp [sRet, bnd, xVar, PD.ret, keepO, keepD]
end K02
end

section
set_option linter.all false
set_option maxRecDepth 100000
set_option maxHeartbeats 1000000
namespace K02
open PySem PD
/-- .. where a factor 0 is passed over -/
def combR (p : Int) : List Int → List (List Int) → List Int → List Int
  | line, r :: rows, f :: fs => combR p (if f = 0 then line else lin p line r f) rows fs
  | line, _, _ => line
def linD (p f : Int) (d : PyData) : PyData := match d with | PyData.tuple [PyData.int x, PyData.int y] => PyData.int ((x + f * y).fmod p) | _ => PyData.none
theorem linD_map {p f : Int} {l m : List Int} : (pairL (l.map .int) (m.map .int)).map (linD p f) = (lin p l m f).map .int := by
  rw [pairL_ints, List.map_zipWith, lin, List.map_zipWith]
  rfl
abbrev rowEl : M PyData := xBin modD (xBin addD (xVar 7) (xBin mulD (xVar 6) (xVar 8))) (xVar 0)
abbrev rowLc : M PyData := bnd (xComp (xCallF' zipD (bnd (xVar 4) fun d => bnd (bnd (xVar 5) fun d => bnd (PD.ret []) fun ds => PD.ret (d :: ds)) fun ds => PD.ret (d :: ds))) [7, 8] (sTup 2 (sCons (sName 7) (sCons (sName 8) sNil))) (PD.ret true) rowEl) fun ds => PD.ret (.list ds)
abbrev rowBody : MS := sIf (xTru (xVar 6)) (sAsg rowLc (sName 4)) sSkip
theorem comp_row {p f : Int} {a b n x y : PyData} {l m : List Int} (hp : p ≠ 0) (hl : l.length ≤ 1000) (hf : small64 f = true) :
    compD [7, 8] (sTup 2 (sCons (sName 7) (sCons (sName 8) sNil))) (PD.ret true) rowEl (pairL (l.map .int) (m.map .int)) [] [.fz (.int p), .fz a, .fz b, .fz n, .fz x, .fz y, .fz (.int f), .un, .un]
      = some ((lin p l m f).map .int, [.fz (.int p), .fz a, .fz b, .fz n, .fz x, .fz y, .fz (.int f), .un, .un]) := by
  have q := PD.comp_map (is := [7, 8]) (set := sTup 2 (sCons (sName 7) (sCons (sName 8) sNil))) (el := rowEl) (ds := pairL (l.map .int) (m.map .int)) (acc := []) (δ := [.fz (.int p), .fz a, .fz b, .fz n, .fz x, .fz y, .fz (.int f), .un, .un])
    (linD p f) (by rw [pairL_length]; simp; omega) (fun d hd => by
      obtain ⟨x, y, rfl⟩ := pair_mem hd
      exact ⟨_, _, by simp [sTup, sCons, sName, sNil, Cell.free]; rfl, by simp [rowEl, xBin, xVar, xCall, bnd, lif, PD.ret, mulD, mulI, addD, addI, modD, intD, intsD, mulOk, hf, hp, linD]; rfl, by simp [noOw], by simp [wipeD]⟩)
  rw [q, linD_map]
  rfl
theorem row_loop {p : Int} (hp : p ≠ 0) (a b n : PyData) : ∀ {vs : List PyData} {rows : List (List Int)}, Rows vs rows → ∀ (fs : List Int), (∀ f ∈ fs, small64 f = true) → ∀ (line : List Int), line.length ≤ 1000 → ∀ c5 c6 : Cell, c5.free = true → c6.free = true →
    ∃ c5' c6', loopD mixSet rowBody (pairL vs (fs.map .int)) [.fz (.int p), .fz a, .fz b, .fz n, .fz (.list (line.map .int)), c5, c6, .un, .un] = some (.ok .nx, [.fz (.int p), .fz a, .fz b, .fz n, .fz (.list ((combR p line rows fs).map .int)), c5', c6', .un, .un])
  | _, _, .nil, fs, _, line, _, c5, c6, _, _ => ⟨c5, c6, by simp [pairL, loopD, combR]⟩
  | _, _, .cons _ _, [], _, line, _, c5, c6, _, _ => ⟨c5, c6, by simp [pairL, loopD, combR]⟩
  | _, _, .cons (v := v) (r := r) hv t, f :: fs, hf, line, hl, c5, c6, h5, h6 => by
    have hl2 : (if f = 0 then line else lin p line r f).length ≤ 1000 := by
      split
      · exact hl
      · exact Nat.le_trans lin_len hl
    obtain ⟨d5, d6, e⟩ := row_loop hp a b n t fs (fun g hg => hf g (List.mem_cons_of_mem _ hg)) (if f = 0 then line else lin p line r f) hl2 (.fz v) (.fz (.int f)) rfl rfl
    refine ⟨d5, d6, ?_⟩
    have q := comp_row (p := p) (f := f) (a := a) (b := b) (n := n) (x := .list (line.map .int)) (y := v) (l := line) (m := r) hp hl (hf f (List.mem_cons_self ..))
    have h1 : mixSet (.tuple [v, .int f]) [.fz (.int p), .fz a, .fz b, .fz n, .fz (.list (line.map .int)), c5, c6, .un, .un] = some [.fz (.int p), .fz a, .fz b, .fz n, .fz (.list (line.map .int)), .fz v, .fz (.int f), .un, .un] := by
      simp [mixSet, sTup, sCons, sName, sNil, h5, h6]
    have hz : xCallF' zipD (bnd (xVar 4) fun d => bnd (bnd (xVar 5) fun d => bnd (PD.ret []) fun ds => PD.ret (d :: ds)) fun ds => PD.ret (d :: ds)) [.fz (.int p), .fz a, .fz b, .fz n, .fz (.list (line.map .int)), .fz v, .fz (.int f), .un, .un] = some (.ok (pairL (line.map .int) (r.map .int)), [.fz (.int p), .fz a, .fz b, .fz n, .fz (.list (line.map .int)), .fz v, .fz (.int f), .un, .un]) := by
      have hs : seqD (.list (line.map .int)) = some (line.map .int) := rfl
      simp [xCallF', bnd, xVar, PD.ret, lif, zipD, hs, hv]
    have hlc : rowLc [.fz (.int p), .fz a, .fz b, .fz n, .fz (.list (line.map .int)), .fz v, .fz (.int f), .un, .un] = some (.ok (.list ((lin p line r f).map .int)), [.fz (.int p), .fz a, .fz b, .fz n, .fz (.list (line.map .int)), .fz v, .fz (.int f), .un, .un]) := by
      have hx := xComp_eq (is := [7, 8]) (set := sTup 2 (sCons (sName 7) (sCons (sName 8) sNil))) hz (by simp [noOw]) q
      unfold rowLc
      rw [bnd_eq hx]
      rfl
    have h2 : rowBody [.fz (.int p), .fz a, .fz b, .fz n, .fz (.list (line.map .int)), .fz v, .fz (.int f), .un, .un] = some (.ok .nx, [.fz (.int p), .fz a, .fz b, .fz n, .fz (.list ((if f = 0 then line else lin p line r f).map .int)), .fz v, .fz (.int f), .un, .un]) := by
      by_cases h : f = 0
      · subst h
        simp [rowBody, sIf, xTru, xVar, bnd, lif, truthD, sSkip, PD.ret]
      · simp only [rowBody, sIf, xTru, xVar, bnd, lif, truthD, PD.ret]
        simp [h, sAsg, bnd, hlc, sName, Cell.free]
    show loopD mixSet rowBody (.tuple [v, .int f] :: pairL _ (fs.map .int)) _ = _
    unfold loopD
    simp only [h1, h2, e]
    rfl
end K02
end

section
set_option linter.all false
set_option maxRecDepth 100000
set_option maxHeartbeats 1000000
namespace K02
open PySem PD
theorem rep_fits {n : Nat} (hn : n ≤ 1000) : 1 * (n : Int).toNat ≤ sizeLine := Nat.le_trans (by simp; exact hn) (Nat.le_trans (by decide : 1000 ≤ 16777216) (Nat.le_of_eq sizeLine_eq.symm))
theorem rep_row {n : Nat} (hn : n ≤ 1000) {f : M (List PyData)} {g : M PyData} {δ : Sg} (hl : f δ = some (.ok [.int 0], δ)) (hv : g δ = some (.ok (.int n), δ)) :
    xRepF f g δ = some (.ok ((List.replicate n (0 : Int)).map .int), δ) := by
  unfold xRepF
  rw [bnd_eq hl, bnd_eq hv]
  dsimp only
  rw [if_pos ⟨by omega, by omega, rep_fits hn⟩]
  simp [lif]
end K02
end

section
set_option linter.all false
set_option maxRecDepth 100000
set_option maxHeartbeats 1000000
namespace K02
open PySem PD
def Tin (N : Int) (os : List PyData) : Prop := ∃ x y z : Int, os = [.int x, .int y, .int z] ∧ 0 ≤ z ∧ z ≤ N
theorem Tin.mono {N N' : Int} {os : List PyData} (h : Tin N os) (l : N ≤ N') : Tin N' os := by
  obtain ⟨x, y, z, e, h0, h1⟩ := h
  exact ⟨x, y, z, e, h0, by omega⟩
theorem take_tin {N k : Int} {os : List PyData} (h : Tin N os) (hN : N < 1000000) (hk : 0 < k) (hd : divOk k = true) :
    ∃ (v : Int) (os' : List PyData), g__law_take [.ow true os, .fz (.int k)] = some (.ok (.int v), [.ow true os', .fz (.int k)]) ∧ 0 ≤ v ∧ v < k ∧ Tin (N + 1) os' := by
  obtain ⟨x, y, z, rfl, z0, z1⟩ := h
  obtain ⟨v, x', z', e, h1, h2, h3, h4⟩ := take_any x y z k hk hd z0 (by omega)
  exact ⟨v, _, e, h1, h2, x', y, z', rfl, h3, by omega⟩
theorem w_take {b : Bool} {os : List PyData} {r : Sg} {N k : Int} {fs : M (List PyData)} {Q : PyData → Sg → Prop} (t : Tin N os) (hN : N < 1000000) (hk : 0 < k) (hd : divOk k = true)
    (f : Gd fs (.ow b os :: r) fun ds δ1 => ds = [.int k] ∧ δ1 = .ow b os :: r) (h : ∀ (v : Int) (os' : List PyData), 0 ≤ v → v < k → Tin (N + 1) os' → Q (.int v) (.ow b os' :: r)) : Gd (xDefO g__law_take 0 fs) (.ow b os :: r) Q := by
  obtain ⟨v, os', e, h1, h2, t'⟩ := take_tin t hN hk hd
  refine w_defO .z (f.imp fun ds δ1 q => ?_)
  obtain ⟨rfl, rfl⟩ := q
  exact ⟨b, os, true, os', .int v, _, _, .z, e, .z, h v os' h1 h2 t'⟩
theorem at_some {xs : List PyData} {v : Int} (h0 : 0 ≤ v) (h1 : v < xs.length) : ∃ d ∈ xs, L2.atI xs v = some d := by
  refine ⟨xs[v.toNat]'(by omega), List.getElem_mem _, ?_⟩
  unfold L2.atI L2.ixN
  rw [if_pos h0, if_pos h1]
  simp
/-- one of a list, by a take -/
theorem of_eq {N : Int} {os xs : List PyData} (t : Tin N os) (hN : N < 1000000) (h0 : 0 < xs.length) (h1 : xs.length < 1000000) :
    ∃ d ∈ xs, ∃ os', g__law_of [.ow true os, .fz (.list xs)] = some (.ok d, [.ow true os', .fz (.list xs)]) ∧ Tin (N + 1) os' := by
  have hd : divOk xs.length = true := by unfold divOk; simp only [Bool.and_eq_true, decide_eq_true_eq]; omega
  obtain ⟨v, os', e, v0, v1, t'⟩ := take_tin (k := xs.length) t hN (by omega) hd
  obtain ⟨d, hm, e2⟩ := at_some v0 v1
  refine ⟨d, hm, os', ?r, t'⟩
  walk_at "w_run"
  unfold B__law_of
  walk_at "wp"
  refine w_defO .z ?_
  walk_at "wp"
  refine w_lif rfl ?_
  walk_at "wp"
  refine ⟨_, _, _, _, _, _, _, .z, e, .z, ?_⟩
  refine w_lif e2 ?_
  exact ⟨rfl, rfl⟩
theorem of2_eq {N : Int} {os xs : List PyData} (t : Tin N os) (hN : N < 1000000) (h0 : 0 < xs.length) (h1 : xs.length < 1000000) :
    ∃ d ∈ xs, ∃ os', g__law_of2 [.ow true os, .ow true xs] = some (.ok d, [.ow true os', .ow true xs]) ∧ Tin (N + 1) os' := by
  have hd : divOk xs.length = true := by unfold divOk; simp only [Bool.and_eq_true, decide_eq_true_eq]; omega
  obtain ⟨v, os', e, v0, v1, t'⟩ := take_tin (k := xs.length) t hN (by omega) hd
  obtain ⟨d, hm, e2⟩ := at_some v0 v1
  refine ⟨d, hm, os', ?r, t'⟩
  walk_at "w_run"
  unfold B__law_of2
  walk_at "wp"
  refine w_ixO (.s .z) ?_
  refine w_defO .z ?_
  walk_at "wp"
  refine w_lenO (.s .z) ?_
  walk_at "wp"
  refine ⟨_, _, _, _, _, _, _, .z, e, .z, _, _, .s .z, ?_⟩
  refine w_lif e2 ?_
  exact ⟨rfl, rfl⟩
end K02
end

section
set_option linter.all false
set_option maxRecDepth 100000
set_option maxHeartbeats 1000000
namespace K02
open PySem PD
theorem row_by_eq {p : Int} {a b : PyData} {n : Nat} {vs : List PyData} {rows : List (List Int)} {fs : List Int} (hp : p ≠ 0) (ha : seqD a = some vs) (hr : Rows vs rows) (hb : seqD b = some (fs.map .int)) (hf : ∀ f ∈ fs, small64 f = true) (hn : n ≤ 1000) :
    g_row_by [.fz (.int p), .fz a, .fz b, .fz (.int n)] = some (.ok (.tuple ((combR p (List.replicate n 0) rows fs).map .int)), [.fz (.int p), .fz a, .fz b, .fz (.int n)]) := by
  obtain ⟨c5, c6, e⟩ := row_loop hp a b (.int n) hr fs hf (List.replicate n 0) (by simp; exact hn) .un .un rfl rfl
  walk_at "w_run"
  unfold B_row_by
  walk_at "wp"
  refine ⟨n, rfl, by simp; omega, by omega, ?_⟩
  walk_at "wp"
  refine w_lif (o_zip ha hb) ?_
  have q : (List.replicate n [PyData.int 0]).flatten = (List.replicate n (0 : Int)).map .int := by simp
  rw [q]
  refine w_eq e ?_
  walk_at "wp"
  refine w_lif rfl ?_
  exact ⟨rfl, rfl⟩
end K02
end

section
set_option linter.all false
set_option maxRecDepth 100000
set_option maxHeartbeats 1000000
namespace K02
open PySem PD
def below (p : Int) : PyData → Bool
  | .int x => decide (0 ≤ x) && decide (x < p)
  | _ => false
def isNum : PyData → Bool
  | .int _ => true
  | _ => false
theorem number_eq (d : PyData) : g_is_number [.fz d] = some (.ok (.bool (isNum d)), [.fz d]) := by
  walk_at "w_run"
  unfold B_is_number
  walk_at "wp"
  refine w_lif rfl ?_
  refine ⟨_, rfl, ?_⟩
  cases d <;> simp [isSub, tyOfD, isNum]
  all_goals walk_at "wp"
  all_goals first | exact ⟨rfl, rfl⟩ | skip
  all_goals refine w_lif rfl ?_
  all_goals refine ⟨_, rfl, ?_⟩
  all_goals exact ⟨by simp [isSub, tyOfD], rfl⟩
theorem below_eq (d : PyData) (p : Int) : g_is_below [.fz d, .fz (.int p)] = some (.ok (.bool (below p d)), [.fz d, .fz (.int p)]) := by
  walk_at "w_run"
  unfold B_is_below
  walk_at "wp"
  refine ⟨_, _, number_eq d, _, rfl, ?_⟩
  cases d <;> simp only [isNum]
  case int x =>
    walk_at "wp"
    refine ⟨_, o_le 0 x, ?_⟩
    by_cases h : 0 ≤ x
    · rw [decide_eq_true h]
      walk_at "wp"
      refine w_lif (o_lt x p) ?_
      exact ⟨by simp [below, h], rfl⟩
    · rw [decide_eq_false h]
      walk_at "wp"
      exact ⟨by simp [below, h], rfl⟩
  all_goals
    walk_at "wp"
    exact ⟨rfl, rfl⟩
theorem tuple_of_eq (d : PyData) (n : Int) : g_is_tuple_of [.fz d, .fz (.int n)] = some (.ok (.bool (match d with | .tuple xs => decide ((xs.length : Int) = n) | _ => false)), [.fz d, .fz (.int n)]) := by
  walk_at "w_run"
  unfold B_is_tuple_of
  walk_at "wp"
  refine w_lif rfl ?_
  refine ⟨_, rfl, ?_⟩
  cases d <;> simp only [isSub, tyOfD, List.any_cons, List.any_nil]
  case tuple xs =>
    simp
    walk_at "wp"
    refine w_lif rfl ?_
    walk_at "wp"
    refine w_lif (o_eqI _ _) ?_
    exact ⟨rfl, rfl⟩
  all_goals
    simp
    walk_at "wp"
    exact ⟨rfl, rfl⟩
def rowOk (p n : Int) : PyData → Bool
  | .tuple xs => decide ((xs.length : Int) = n) && xs.all (below p)
  | _ => false
theorem all_map {f : PyData → Bool} {ds : List PyData} : allD [.list (ds.map fun d => .bool (f d))] = some (.bool (ds.all f)) := by
  have h : (ds.map fun d => PyData.bool (f d)) = (ds.map f).map .bool := by simp
  rw [h, o_all]
  simp
theorem is_row_eq (d : PyData) (p n : Int) (hl : ∀ xs, d = .tuple xs → xs.length ≤ 1000000) : g_is_row [.fz d, .fz (.int p), .fz (.int n)] = some (.ok (.bool (rowOk p n d)), [.fz d, .fz (.int p), .fz (.int n)]) := by
  walk_at "w_run"
  unfold B_is_row
  walk_at "wp"
  refine ⟨_, _, tuple_of_eq d n, _, rfl, ?_⟩
  cases d
  case tuple xs =>
    dsimp only
    by_cases h : (xs.length : Int) = n
    · rw [decide_eq_true h]
      walk_at "wp"
      refine w_lif rfl ?_
      have q := comp_fun (is := [3]) (set := sName 3) (el := xDef g_is_below (bnd (xVar 3) fun d => bnd (bnd (xVar 1) fun d => bnd (PD.ret []) fun ds => PD.ret (d :: ds)) fun ds => PD.ret (d :: ds))) (ds := xs) (δ := [.fz (.tuple xs), .fz (.int p), .fz (.int n), .un]) (fun d => .bool (below p d)) (hl xs rfl) fun d _ => by
        walk_at "wp"
        exact ⟨_, _, below_eq d p, rfl, rfl, rfl⟩
      refine ⟨rfl, _, _, q, ?_⟩
      walk_at "wp"
      refine w_lif all_map ?_
      exact ⟨by simp [rowOk, h], rfl⟩
    · rw [decide_eq_false h]
      walk_at "wp"
      exact ⟨by simp [rowOk, h], rfl⟩
  all_goals
    dsimp only
    walk_at "wp"
    exact ⟨rfl, rfl⟩
end K02
end

section
set_option linter.all false
set_option maxRecDepth 100000
set_option maxHeartbeats 1000000
namespace K02
open PySem PD
inductive Sm : Nat → PyData → Prop
  | int {n : Nat} (i : Int) : Sm n (.int i)
  | bl {n : Nat} (b : Bool) : Sm n (.bool b)
  | tup {n : Nat} {ds : List PyData} (l : ds.length ≤ 1000000) (h : ∀ d ∈ ds, Sm n d) : Sm (n + 1) (.tuple ds)
  | lst {n : Nat} {ds : List PyData} (l : ds.length ≤ 1000000) (h : ∀ d ∈ ds, Sm n d) : Sm (n + 1) (.list ds)
theorem pair_self {ds : List PyData} {d : PyData} (h : d ∈ pairL ds ds) : ∃ x ∈ ds, d = .tuple [x, x] := by
  induction ds with
  | nil => cases h
  | cons y ds ih =>
    rcases List.mem_cons.mp h with rfl | h
    · exact ⟨y, List.mem_cons_self .., rfl⟩
    · obtain ⟨x, hx, e⟩ := ih h
      exact ⟨x, List.mem_cons_of_mem _ hx, e⟩
theorem same_comp {G : Sg → Option (Ans PyData × Sg)} {d : PyData} {ds : List PyData} (l : ds.length ≤ 1000000) (h : ∀ x ∈ ds, G [.fz x, .fz x] = some (.ok (.bool true), [.fz x, .fz x])) :
    compD [2, 3] (sTup 2 (sCons (sName 2) (sCons (sName 3) sNil))) (PD.ret true) (xDef G (bnd (xVar 2) fun d => bnd (bnd (xVar 3) fun d => bnd (PD.ret []) fun ds => PD.ret (d :: ds)) fun ds => PD.ret (d :: ds))) (pairL ds ds) [] [.fz d, .fz d, .un, .un]
      = some ((pairL ds ds).map (fun _ => .bool ((fun _ => true) d)), [.fz d, .fz d, .un, .un]) := by
  refine comp_fun _ (by rw [pairL_length]; omega) fun y hy => ?_
  obtain ⟨x, hx, rfl⟩ := pair_self hy
  walk_at "wp"
  exact ⟨_, _, h x hx, rfl, rfl, rfl⟩
theorem same_seq {G : Sg → Option (Ans PyData × Sg)} {d : PyData} {ds : List PyData} (hd : d = .tuple ds ∨ d = .list ds) (l : ds.length ≤ 1000000) (h : ∀ x ∈ ds, G [.fz x, .fz x] = some (.ok (.bool true), [.fz x, .fz x])) :
    runD 4 (B__law_same G) [.fz d, .fz d] = some (.ok (.bool true), [.fz d, .fz d]) := by
  have q := same_comp (d := d) l h
  have hs : seqD d = some ds := by rcases hd with rfl | rfl <;> rfl
  have hl : lenD [d] = some (.int ds.length) := by rcases hd with rfl | rfl <;> rfl
  have h1 : isiD ["list", "tuple"] d = some (.bool true) := by rcases hd with rfl | rfl <;> rfl
  walk_at "w_run"
  unfold B__law_same
  walk_at "wp"
  refine w_lif h1 ?_
  refine w_lif rfl ?_
  walk_at "wp"
  refine w_lif rfl ?_
  walk_at "wp"
  refine w_lif rfl ?_
  have hn : ∀ b : Bool, neD (.bool b) (.bool b) = some (.bool false) := by intro b; cases b <;> rfl
  refine w_lif (hn _) ?_
  refine w_lif rfl ?_
  walk_at "wp"
  refine w_lif rfl ?_
  walk_at "wp"
  refine w_lif rfl ?_
  refine w_lif (hn _) ?_
  refine w_lif rfl ?_
  walk_at "wp"
  refine w_lif hl ?_
  walk_at "wp"
  refine w_lif hl ?_
  refine w_lif (o_eqI _ _) ?_
  refine ⟨_, rfl, ?_⟩
  rw [decide_eq_true rfl]
  walk_at "wp"
  refine w_lif (o_zip hs hs) ?_
  refine ⟨rfl, _, _, q, ?_⟩
  walk_at "wp"
  refine w_lif (all_map (f := fun _ => true)) ?_
  exact ⟨by simp, rfl⟩
theorem same_eq : ∀ {n : Nat} {d : PyData}, Sm n d → ∀ m, n < m → gr__law_same m [.fz d, .fz d] = some (.ok (.bool true), [.fz d, .fz d])
  | _, _, _, 0, h => absurd h (by omega)
  | _, _, .int i, m + 1, _ => by
    show runD 4 (B__law_same (gr__law_same m)) _ = _
    walk_at "w_run"
    unfold B__law_same
    walk_at "wp"
    refine w_lif (a := .bool false) rfl ?_
    refine w_lif (a := false) rfl ?_
    walk_at "wp"
    refine w_lif (a := .bool false) rfl ?_
    refine w_lif (a := false) rfl ?_
    walk_at "wp"
    refine w_lif (a := .bool false) rfl ?_
    refine w_lif (a := false) rfl ?_
    walk_at "wp"
    refine w_lif (a := .bool true) rfl ?_
    refine ⟨_, rfl, ?_⟩
    walk_at "wp"
    refine w_lif (a := .bool false) rfl ?_
    refine ⟨_, rfl, _, rfl, ?_⟩
    show Gd (cond true _ _) _ _
    walk_at "wp"
    refine w_lif (o_eqI _ _) ?_
    exact ⟨by simp, rfl⟩
  | _, _, .bl b, m + 1, _ => by
    have h : ∀ b : Bool, eqD (.bool b) (.bool b) = some (.bool true) := by intro b; cases b <;> rfl
    show runD 4 (B__law_same (gr__law_same m)) _ = _
    walk_at "w_run"
    unfold B__law_same
    walk_at "wp"
    refine w_lif (a := .bool false) rfl ?_
    refine w_lif (a := false) rfl ?_
    walk_at "wp"
    refine w_lif (a := .bool false) rfl ?_
    refine w_lif (a := false) rfl ?_
    walk_at "wp"
    refine w_lif (a := .bool true) rfl ?_
    refine w_lif (a := true) rfl ?_
    walk_at "wp"
    refine w_lif (h b) ?_
    refine ⟨_, rfl, ?_⟩
    walk_at "wp"
    refine w_lif (a := .bool true) rfl ?_
    walk_at "wp"
    refine w_lif (a := .bool true) rfl ?_
    refine w_lif (h _) ?_
    refine ⟨_, rfl, ?_⟩
    walk_at "wp"
    refine w_lif (a := .bool false) rfl ?_
    walk_at "wp"
    refine w_lif (a := .bool false) rfl ?_
    refine w_lif (h _) ?_
    exact ⟨rfl, rfl⟩
  | _, _, .tup l h, m + 1, hm => same_seq (.inl rfl) l fun x hx => same_eq (h x hx) m (by omega)
  | _, _, .lst l h, m + 1, hm => same_seq (.inr rfl) l fun x hx => same_eq (h x hx) m (by omega)
end K02
end

section
set_option linter.all false
set_option maxRecDepth 100000
set_option maxHeartbeats 1000000
namespace K02
open PySem PD
/-! rows -/
def Res (p : Int) (r : List Int) : Prop := ∀ x ∈ r, 0 ≤ x ∧ x < p
abbrev rowT (r : List Int) : PyData := .tuple (r.map .int)
abbrev rowL (r : List Int) : PyData := .list (r.map .int)
theorem rows_T : ∀ rows : List (List Int), Rows (rows.map rowT) rows
  | [] => .nil
  | r :: rows => .cons rfl (rows_T rows)
theorem rows_L : ∀ rows : List (List Int), Rows (rows.map rowL) rows
  | [] => .nil
  | r :: rows => .cons rfl (rows_L rows)
theorem fmod_id {p x : Int} (h0 : 0 ≤ x) (h1 : x < p) : x.fmod p = x := by rw [Int.fmod_eq_emod_of_nonneg _ (by omega), Int.emod_eq_of_lt h0 h1]
theorem lin_res {p f : Int} {l m : List Int} (hp : 0 < p) : Res p (lin p l m f) := by
  intro x hx
  unfold lin at hx
  obtain ⟨i, hi, rfl⟩ := List.getElem_of_mem hx
  rw [List.getElem_zipWith]
  exact ⟨Int.fmod_nonneg_of_pos _ hp, Int.fmod_lt_of_pos _ hp⟩
theorem lin_length {p f : Int} {l m : List Int} : (lin p l m f).length = min l.length m.length := by
  unfold lin
  rw [List.length_zipWith]
theorem lin_zero {p : Int} {l m : List Int} (h : Res p l) (hl : l.length = m.length) : lin p l m 0 = l := by
  unfold lin
  apply List.ext_getElem
  · rw [List.length_zipWith]
    omega
  · intro i h1 h2
    rw [List.getElem_zipWith]
    obtain ⟨a, b⟩ := h l[i] (List.getElem_mem _)
    rw [Int.zero_mul, Int.add_zero]
    exact fmod_id a b
theorem comb_ok {p : Int} {n : Nat} (hp : 0 < p) : ∀ {rows : List (List Int)} {fs line : List Int}, (∀ r ∈ rows, r.length = n) → line.length = n → Res p line →
    combR p line rows fs = comb p line rows fs ∧ (comb p line rows fs).length = n ∧ Res p (comb p line rows fs)
  | [], fs, line, _, hl, hr => by simp [combR, comb, hl]; exact hr
  | r :: rows, [], line, _, hl, hr => by simp [combR, comb, hl]; exact hr
  | r :: rows, f :: fs, line, h, hl, hr => by
    have hrl : r.length = n := h r (List.mem_cons_self ..)
    have ih := comb_ok (n := n) hp (rows := rows) (fs := fs) (line := lin p line r f) (fun r hr => h r (List.mem_cons_of_mem _ hr)) (by rw [lin_length]; omega) (lin_res hp)
    refine ⟨?_, ih.2⟩
    show combR p (if f = 0 then line else lin p line r f) rows fs = comb p (lin p line r f) rows fs
    split
    · rename_i e
      rw [e] at ih ⊢
      rw [← ih.1, lin_zero hr (by omega)]
    · exact ih.1
theorem res_zero {p : Int} (hp : 0 < p) (n : Nat) : Res p (List.replicate n 0) := by
  intro x hx
  obtain ⟨_, rfl⟩ := List.mem_replicate.mp hx
  omega
/-! lists of lists -/
theorem lists_int (m : Nat) (i : Int) : gr__law_lists (m + 1) [.fz (.int i)] = some (.ok (.int i), [.fz (.int i)]) := by
  show runD 2 (B__law_lists (gr__law_lists m)) _ = _
  walk_at "w_run"
  unfold B__law_lists
  walk_at "wp"
  refine w_lif (a := .bool false) rfl ?_
  refine w_lif (a := false) rfl ?_
  walk_at "wp"
  exact ⟨rfl, rfl⟩
theorem lists_tup {G : Sg → Option (Ans PyData × Sg)} {ds : List PyData} (f : PyData → PyData) (l : ds.length ≤ 1000000) (h : ∀ x ∈ ds, G [.fz x] = some (.ok (f x), [.fz x])) : runD 2 (B__law_lists G) [.fz (.tuple ds)] = some (.ok (.list (ds.map f)), [.fz (.tuple ds)]) := by
  have q : compD [1] (sName 1) (PD.ret true) (xDef G (bnd (xVar 1) fun d => bnd (PD.ret []) fun ds => PD.ret (d :: ds))) ds [] [.fz (.tuple ds), .un] = some (ds.map f, [.fz (.tuple ds), .un]) := by
    refine comp_fun f l fun x hx => ?_
    walk_at "wp"
    exact ⟨_, _, h x hx, rfl, rfl, rfl⟩
  walk_at "w_run"
  unfold B__law_lists
  walk_at "wp"
  refine w_lif (a := .bool true) rfl ?_
  refine w_lif (a := true) rfl ?_
  walk_at "wp"
  refine w_lif rfl ?_
  refine ⟨rfl, _, _, q, ?_⟩
  walk_at "wp"
  exact ⟨rfl, rfl⟩
theorem lists_rows {rows : List (List Int)} (l : rows.length ≤ 1000) (h : ∀ r ∈ rows, r.length ≤ 1000) : g__law_lists [.fz (.tuple (rows.map rowT))] = some (.ok (.list (rows.map rowL)), [.fz (.tuple (rows.map rowT))]) := by
  have q := lists_tup (G := gr__law_lists 7) (ds := rows.map rowT) (fun d => match d with | .tuple xs => .list xs | d => d) (by simp; omega) fun x hx => by
    obtain ⟨r, hr, rfl⟩ := List.mem_map.mp hx
    have q := lists_tup (G := gr__law_lists 6) (ds := r.map .int) id (by have := h r hr; simp; omega) fun y hy => by
      obtain ⟨i, _, rfl⟩ := List.mem_map.mp hy
      exact lists_int 5 i
    rw [List.map_id] at q
    exact q
  rw [List.map_map] at q
  exact q
/-! takes in a comprehension -/
theorem comp_take {b : Bool} {k : Int} {i : Nat} {r : Sg} {fs : M (List PyData)} (rv : PyData → Sg) (hs : ∀ os d, sName i d (.ow b os :: r) = some (.ow b os :: rv d)) (hw : ∀ os d, wipeD (.ow b os :: rv d) [i] = .ow b os :: r) (hn : ∀ os d, noOw (.ow b os :: rv d) [i] = true)
    (he : ∀ os d, Gd fs (.ow b os :: rv d) fun ds δ1 => ds = [.int k] ∧ δ1 = .ow b os :: rv d) (hk : 0 < k) (hd : divOk k = true) {N : Int} {os ds : List PyData} (t : Tin N os) (hN : 0 ≤ N) (hl : N + ds.length < 1000000) :
    ∃ (l : List Int) (os' : List PyData), l.length = ds.length ∧ Res k l ∧ Tin (N + ds.length) os' ∧ compD [i] (sName i) (PD.ret true) (xDefO g__law_take 0 fs) ds [] (.ow b os :: r) = some (l.map .int, .ow b os' :: r) := by
  obtain ⟨acc, δ', e, l, os', rfl, hj, hr, t', rfl⟩ := comp_inv (is := [i]) (set := sName i) (el := xDefO g__law_take 0 fs) (ds := ds) (acc := []) (δ := .ow b os :: r)
    (fun j acc δ => ∃ (l : List Int) (os' : List PyData), acc = l.map .int ∧ l.length = j ∧ Res k l ∧ Tin (N + j) os' ∧ δ = .ow b os' :: r)
    ⟨[], os, rfl, rfl, (fun x h => absurd h (List.not_mem_nil)), by simpa using t, rfl⟩ (by simp; omega) fun j d hj acc δ ⟨l, os', ea, el, hr, t', ed⟩ => by
      subst ea ed
      have hj' : j < ds.length := by
        obtain ⟨h, _⟩ := List.getElem?_eq_some_iff.mp hj
        exact h
      obtain ⟨y, δ3, e, v, os'', rfl, rfl, h0, h1, t''⟩ := w_take (b := b) (r := rv d) (Q := fun y δ3 => ∃ (v : Int) (os'' : List PyData), y = .int v ∧ δ3 = .ow b os'' :: rv d ∧ 0 ≤ v ∧ v < k ∧ Tin (N + j + 1) os'') t' (by omega) hk hd (he os' d)
        fun v os'' h0 h1 t'' => ⟨v, os'', rfl, rfl, h0, h1, t''⟩
      refine ⟨_, _, _, hs os' d, e, hn _ _, l ++ [v], os'', by simp, by simp [el], ?_, by rw [Int.natCast_add]; simpa [Int.add_assoc] using t'', hw _ _⟩
      intro x hx
      rcases List.mem_append.mp hx with hx | hx
      · exact hr x hx
      · rw [List.mem_singleton.mp hx]
        exact ⟨h0, h1⟩
  exact ⟨l, os', hj, hr, t', e⟩
end K02
end

section
set_option linter.all false
set_option maxRecDepth 100000
set_option maxHeartbeats 1000000
namespace K02
open PySem PD
/-- data that stand in few levels -/
def Flat (n : Nat) (d : PyData) : Prop := d.canLay0 = true ∧ d.depth ≤ n
theorem flat_all {n : Nat} : ∀ {ds : List PyData}, (∀ d ∈ ds, Flat n d) → PyData.canLayAll0 ds = true ∧ PyData.depthAll ds ≤ n
  | [], _ => by simp [PyData.canLayAll0, PyData.depthAll]
  | d :: ds, h => by
    have h1 := h d (List.mem_cons_self ..)
    have h2 := flat_all fun x hx => h x (List.mem_cons_of_mem _ hx)
    rw [PyData.canLayAll0.eq_2, PyData.depthAll.eq_2]
    simp only [h1.1, h2.1, Bool.and_self, true_and]
    have := h1.2
    have := h2.2
    omega
theorem flat_int {n : Nat} (i : Int) : Flat n (.int i) := by simp [Flat, PyData.canLay0, PyData.depth]
theorem flat_tup {n : Nat} {ds : List PyData} (h : ∀ d ∈ ds, Flat n d) : Flat (n + 1) (.tuple ds) := by
  have := flat_all h
  simp [Flat, PyData.canLay0, PyData.depth, this.1]
  omega
theorem flat_lst {n : Nat} {ds : List PyData} (h : ∀ d ∈ ds, Flat n d) : Flat (n + 1) (.list ds) := by
  have := flat_all h
  simp [Flat, PyData.canLay0, PyData.depth, this.1]
  omega
theorem flat_row {r : List Int} : Flat 1 (rowT r) := flat_tup fun d hd => by
  obtain ⟨i, _, rfl⟩ := List.mem_map.mp hd
  exact flat_int i
theorem flat_rows {rows : List (List Int)} : Flat 2 (.list (rows.map rowT)) := flat_lst fun d hd => by
  obtain ⟨i, _, rfl⟩ := List.mem_map.mp hd
  exact flat_row
theorem Flat.shaped {n : Nat} {d : PyData} (h : Flat n d) (hn : n ≤ 64) : SeqAt.shaped d = true := by
  unfold SeqAt.shaped
  rw [h.1, decide_eq_true (Nat.le_trans h.2 hn)]
  rfl
theorem neD_nil {ds : List PyData} {n : Nat} (h : Flat n (.list ds)) (hn : n ≤ 64) : neD (.list ds) (.list []) = some (.bool (!ds.isEmpty)) := by
  have h2 : SeqAt.shaped (.list []) = true := rfl
  unfold neD
  rw [if_pos ⟨h.shaped hn, h2⟩]
  cases ds <;> simp [PyData.eqv, PyData.eqvAll]
theorem eqD_nil {ds : List PyData} {n : Nat} (h : Flat n (.list ds)) (hn : n ≤ 64) : eqD (.list ds) (.list []) = some (.bool ds.isEmpty) := by
  have h2 : SeqAt.shaped (.list []) = true := rfl
  unfold eqD
  rw [if_pos ⟨h.shaped hn, h2⟩]
  cases ds <;> simp [PyData.eqv, PyData.eqvAll]
structure Rw (p : Int) (n : Nat) (r : List Int) : Prop where
  len : r.length = n
  res : Res p r
/-- what a turn of the loop leaves -/
def VI (p : Int) (m : PyData) (n : Nat) (N : Int) (j : Nat) (δ : Sg) : Prop := ∃ (rows : List (List Int)) (os : List PyData) (c5 c6 : Cell), δ = [.ow true os, .fz (.int p), .fz m, .fz (.int n), .ow false (rows.map rowT), c5, c6, .un] ∧ c5.free = true ∧ c6.free = true ∧ rows.length = j ∧ (∀ r ∈ rows, Rw p n r) ∧ Tin (N + 8 * j) os
abbrev vBody : MS := (sSeq (sAsg (xDefO g__law_take 0 (bnd (PD.ret (.int 6)) fun d => bnd (PD.ret []) fun ds => PD.ret (d :: ds))) (sName 6))
  (sIf (xBool (xBin eqD (xVar 6) (PD.ret (.int 0)))) (sApp 4 (xBin mulD (xTup (bnd (PD.ret (.int 0)) fun d => bnd (PD.ret []) fun ds => PD.ret (d :: ds))) (xVar 3))) (sIf (xAndT (xBool (xBin eqD (xVar 6) (PD.ret (.int 1)))) (xBool (xCmpO neD 4 (bnd (xLst (PD.ret [])) fun ds => PD.ret (.list ds))))) (sApp 4 (xDef g__law_plus (bnd (xVar 1) fun d => bnd (bnd (xBin mulD (xTup (bnd (PD.ret (.int 0)) fun d => bnd (PD.ret []) fun ds => PD.ret (d :: ds))) (xVar 3)) fun d => bnd (bnd (xDef2 g__law_of2 0 4) fun d => bnd (bnd (xDefO g__law_take 0 (bnd (xVar 1) fun d => bnd (PD.ret []) fun ds => PD.ret (d :: ds))) fun d => bnd (PD.ret []) fun ds => PD.ret (d :: ds)) fun ds => PD.ret (d :: ds)) fun ds => PD.ret (d :: ds)) fun ds => PD.ret (d :: ds)))) (sApp 4 (xCall tupleD (bnd (bnd (xComp (xCallF' range1D (bnd (xVar 3) fun d => bnd (PD.ret []) fun ds => PD.ret (d :: ds))) [7] (sName 7) (PD.ret true) (xDefO g__law_take 0 (bnd (xVar 1) fun d => bnd (PD.ret []) fun ds => PD.ret (d :: ds)))) fun ds => PD.ret (.list ds)) fun d => bnd (PD.ret []) fun ds => PD.ret (d :: ds)))))))
theorem VI.more {p : Int} {m : PyData} {n : Nat} {N : Int} {j : Nat} {rows : List (List Int)} {os : List PyData} {c5 c6 : Cell} {r : List Int} (f5 : c5.free = true) (f6 : c6.free = true) (hj : rows.length = j) (hr : ∀ r ∈ rows, Rw p n r) (h : Rw p n r) (t : Tin (N + 8 * (j + 1)) os) :
    VI p m n N (j + 1) [.ow true os, .fz (.int p), .fz m, .fz (.int n), .ow false (rows.map rowT ++ [rowT r]), c5, c6, .un] :=
  ⟨rows ++ [r], os, c5, c6, by simp, f5, f6, by simp [hj], fun x hx => by
    rcases List.mem_append.mp hx with hx | hx
    · exact hr x hx
    · rw [List.mem_singleton.mp hx]; exact h, by simpa using t⟩
theorem range_take {j : Int} (h0 : 0 ≤ j) (h : j < 1000000) : range1D [.int j] = some (rangeL 0 j.toNat) := by
  unfold range1D fit62
  dsimp only
  rw [if_pos]
  simp only [Bool.and_eq_true, decide_eq_true_eq]
  omega
theorem rangeL_length (lo : Int) (n : Nat) : (rangeL lo n).length = n := by simp [rangeL]
theorem v_step {p : Int} {m : PyData} {n j : Nat} {N : Int} (hp : 0 < p) (hp2 : p < 1000) (hn : n ≤ 6) (hN : 0 ≤ N) (hj : N + 8 * j < 900000) {δ : Sg} (h : VI p m n N j δ) (d : PyData) :
    Gs (sName 5) d δ fun δ1 => Gd vBody δ1 fun fl δ2 => fl = .nx ∧ VI p m n N (j + 1) δ2 := by
  obtain ⟨rows, os, c5, c6, rfl, f5, f6, hl, hr, t⟩ := h
  have hdp : divOk p = true := by unfold divOk; simp only [Bool.and_eq_true, decide_eq_true_eq]; omega
  walk_at "wp"
  refine w_take (k := 6) t (by omega) (by decide) (by decide) (by walk_at "wp"; exact ⟨rfl, rfl⟩) fun v os' v0 v1 t' => ?_
  walk_at "wp"
  refine w_lif (o_eqI _ _) ?_
  refine w_lif rfl ?_
  refine w_by (fun h => ?_) fun h => ?_
  · refine w_app (.s (.s (.s (.s .z)))) ?_
    walk_at "wp"
    refine w_lif (o_tup0 n (by omega)) ?_
    refine ⟨_, _, _, .s (.s (.s (.s .z))), by simp; omega, .s (.s (.s (.s .z))), rfl, ?_⟩
    exact VI.more rfl rfl hl hr ⟨by simp, res_zero hp n⟩ (t'.mono (by omega))
  · walk_at "wp"
    refine w_lif (o_eqI _ _) ?_
    refine w_lif rfl ?_
    refine Gd.imp (Q := fun b δ => (b = true → rows ≠ []) ∧ δ = [.ow true os', .fz (.int p), .fz m, .fz (.int n), .ow false (rows.map rowT), .fz d, .fz (.int v), .un]) ?_ ?_
    · refine w_by (fun h => ?_) fun h => ?_
      · walk_at "wp"
        refine w_cmpO (.s (.s (.s (.s .z)))) ?_
        walk_at "wp"
        refine ⟨_, _, _, .s (.s (.s (.s .z))), neD_nil flat_rows (by omega), ?_⟩
        refine w_lif rfl ?_
        exact ⟨by simp, rfl⟩
      · walk_at "wp"
        exact ⟨by simp, rfl⟩
    · rintro b _ ⟨hb, rfl⟩
      refine w_by (fun h => ?_) fun h => ?_
      · have hne := hb h
        have hl0 : 0 < rows.length := List.length_pos_iff.mpr hne
        refine w_app (.s (.s (.s (.s .z)))) ?_
        obtain ⟨x, hx, os2, e2, t2⟩ := of2_eq (xs := rows.map rowT) t' (by omega) (by simpa using hl0) (by simp; omega)
        obtain ⟨r, hrm, rfl⟩ := List.mem_map.mp hx
        walk_at "wp"
        refine w_lif (o_tup0 n (by omega)) ?_
        walk_at "wp"
        refine w_def2 .z (.s (.s (.s (.s .z)))) (by decide) e2 .z (.s (.s (.s (.s .z)))) ?_
        walk_at "wp"
        refine w_take t2 (by omega) hp hdp (by walk_at "wp"; exact ⟨rfl, rfl⟩) fun w os3 w0 w1 t3 => ?_
        walk_at "wp"
        refine ⟨_, _, plus_eq (l := List.replicate n 0) (m := r) (by omega) rfl rfl (by simp; omega) (by unfold small64; simp only [Bool.and_eq_true, decide_eq_true_eq]; omega), ?_⟩
        refine ⟨_, _, _, .s (.s (.s (.s .z))), by simp; omega, .s (.s (.s (.s .z))), rfl, ?_⟩
        exact VI.more rfl rfl hl hr ⟨by rw [lin_length, (hr r hrm).len]; simp, lin_res hp⟩ (t3.mono (by omega))
      · refine w_app (.s (.s (.s (.s .z)))) ?_
        walk_at "wp"
        refine w_lif (range_take (by omega) (by omega)) ?_
        obtain ⟨l, os2, e1, e2, t2, e3⟩ := comp_take (b := true) (k := p) (i := 7) (r := [.fz (.int p), .fz m, .fz (.int n), .ow false (rows.map rowT), .fz d, .fz (.int v), .un]) (fs := bnd (xVar 1) fun d => bnd (PD.ret []) fun ds => PD.ret (d :: ds))
          (fun y => [.fz (.int p), .fz m, .fz (.int n), .ow false (rows.map rowT), .fz d, .fz (.int v), .fz y]) (fun _ _ => rfl) (fun _ _ => rfl) (fun _ _ => rfl) (fun _ _ => by walk_at "wp"; exact ⟨rfl, rfl⟩) hp hdp t' (by omega) (ds := rangeL 0 (n : Int).toNat) (by rw [rangeL_length]; omega)
        rw [rangeL_length] at e1 t2
        refine ⟨rfl, _, _, e3, ?_⟩
        walk_at "wp"
        refine w_lif rfl ?_
        refine ⟨_, _, _, .s (.s (.s (.s .z))), by simp; omega, .s (.s (.s (.s .z))), rfl, ?_⟩
        exact VI.more rfl rfl hl hr ⟨by simpa using e1, e2⟩ (t2.mono (by omega))
theorem vectors_eq {p : Int} {m n : Nat} {N : Int} {os : List PyData} (hp : 0 < p) (hp2 : p < 1000) (hm : m ≤ 100) (hn : n ≤ 6) (hN : 0 ≤ N) (hN2 : N ≤ 100000) (t : Tin N os) :
    ∃ (rows : List (List Int)) (os' : List PyData), rows.length = m ∧ (∀ r ∈ rows, Rw p n r) ∧ Tin (N + 8 * m) os' ∧ g__law_drawn_vectors [.ow true os, .fz (.int p), .fz (.int m), .fz (.int n)] = some (.ok (.tuple (rows.map rowT)), [.ow true os', .fz (.int p), .fz (.int m), .fz (.int n)]) := by
  have hl := loop_inv (set := sName 5) (b := vBody) (ds := rangeL 0 (m : Int).toNat) (δ := [.ow true os, .fz (.int p), .fz (.int m), .fz (.int n), .ow false [], .un, .un, .un]) (VI p (.int m) n N) ⟨[], os, .un, .un, rfl, rfl, rfl, rfl, fun r h => absurd h List.not_mem_nil, by simpa using t⟩ fun j d hj δ hv => by
    have hj' : j < m := by
      obtain ⟨h, _⟩ := List.getElem?_eq_some_iff.mp hj
      rw [rangeL_length] at h
      omega
    obtain ⟨δ1, e1, fl, δ2, e2, rfl, h⟩ := v_step hp hp2 hn hN (by omega) hv d
    exact ⟨δ1, δ2, e1, e2, h⟩
  obtain ⟨δ', e, rows, os', c5, c6, rfl, _, _, h1, h2, h3⟩ := hl
  rw [rangeL_length] at h1 h3
  refine ⟨rows, os', by simpa using h1, h2, by simpa using h3, ?_⟩
  walk_at "w_run"
  unfold B__law_drawn_vectors
  walk_at "wp"
  refine ⟨_, _, .s (.s (.s (.s .z))), rfl, .s (.s (.s (.s .z))), ?_⟩
  walk_at "wp"
  refine w_lif (range_take (by omega) (by omega)) ?_
  refine w_eq e ?_
  walk_at "wp"
  refine w_varO (.s (.s (.s (.s .z)))) (.s (.s (.s (.s .z)))) ?_
  walk_at "wp"
  refine w_lif rfl ?_
  exact ⟨rfl, rfl⟩
end K02
end

section
set_option linter.all false
set_option maxRecDepth 100000
set_option maxHeartbeats 1000000
namespace K02
open PySem PD
theorem comp_filter {is : List Nat} {set : Tg} {t : M Bool} {el : M PyData} {δ : Sg} (f : PyData → Bool) : ∀ {ds acc : List PyData}, acc.length + ds.length ≤ 1000000 →
    (∀ d ∈ ds, Gs set d δ fun δ1 => Gd t δ1 fun b δ2 => b = f d ∧ (b = true → Gd el δ2 fun y δ3 => y = d ∧ noOw δ3 is = true ∧ wipeD δ3 is = δ) ∧ (b = false → noOw δ2 is = true ∧ wipeD δ2 is = δ)) →
    compD is set t el ds acc δ = some (acc ++ ds.filter f, δ)
  | [], acc, _, _ => by simp [compD]
  | d :: ds, acc, hl, h => by
    obtain ⟨δ1, e1, b, δ2, e2, hb, h1, h2⟩ := h d (List.mem_cons_self ..)
    have hs : acc.length < sizeLine := by rw [sizeLine_eq]; simp at hl; omega
    cases b with
    | true =>
      obtain ⟨y, δ3, e3, rfl, n, w⟩ := h1 rfl
      have q := comp_filter (is := is) (set := set) (t := t) (el := el) (δ := δ) f (ds := ds) (acc := acc ++ [y]) (by simp at hl ⊢; omega) fun d' hd => h d' (List.mem_cons_of_mem _ hd)
      unfold compD
      simp only [e1, e2, e3, hs, n, and_self, if_true, w, q, List.filter_cons, ← hb]
      simp
    | false =>
      obtain ⟨n, w⟩ := h2 rfl
      have q := comp_filter (is := is) (set := set) (t := t) (el := el) (δ := δ) f (ds := ds) (acc := acc) (by simp at hl ⊢; omega) fun d' hd => h d' (List.mem_cons_of_mem _ hd)
      unfold compD
      simp only [e1, e2, n, if_true, w, q, List.filter_cons, ← hb]
      simp
theorem o_list {xs : List PyData} (h : xs.length ≤ 1000000) : listD [.tuple xs] = some xs := by
  unfold listD
  dsimp only
  rw [if_pos (Nat.le_trans h (by rw [sizeLine_eq]; decide))]
theorem o_listL {xs : List PyData} (h : xs.length ≤ 1000000) : listD [.list xs] = some xs := by
  unfold listD
  dsimp only
  rw [if_pos (Nat.le_trans h (by rw [sizeLine_eq]; decide))]
theorem o_cat {xs ys : List PyData} (h : xs.length + ys.length ≤ 1000000) : catL (.list xs) (.list ys) = some (xs ++ ys) := by
  unfold catL
  dsimp only
  rw [if_pos (Nat.le_trans h (by rw [sizeLine_eq]; decide))]
/-- the test of what is no residue -/
abbrev badT : M Bool := (xOrT (xTru (xUn (isiD ["bool"]) (xVar 14))) (xOrT (xNotT (xTru (xUn (isiD ["int"]) (xVar 14)))) (xNotT (xBool (xChain leD ltD (PD.ret (.int 0)) (xVar 14) (xVar 1))))))
theorem bad_eq {p : Int} {d c0 c2 c3 c4 c5 c6 c7 c8 c9 c10 c11 c12 c13 : _} {Q : Bool → Sg → Prop} (h : Q (!below p d) [c0, .fz (.int p), c2, c3, c4, c5, c6, c7, c8, c9, c10, c11, c12, c13, .fz d]) : Gd badT [c0, .fz (.int p), c2, c3, c4, c5, c6, c7, c8, c9, c10, c11, c12, c13, .fz d] Q := by
  cases d
  case int x =>
    walk_at "wp"
    refine w_lif (a := .bool false) rfl ?_
    refine w_lif (a := false) rfl ?_
    walk_at "wp"
    refine w_lif (a := .bool true) rfl ?_
    refine w_lif (a := true) rfl ?_
    show Gd (cond false _ _) _ _
    walk_at "wp"
    refine ⟨_, o_le 0 x, ?_⟩
    refine w_by (fun h0 => ?_) fun h0 => ?_
    · walk_at "wp"
      refine w_lif (o_lt x p) ?_
      refine w_lif rfl ?_
      simpa [below, h0] using h
    · walk_at "wp"
      refine w_lif rfl ?_
      simpa [below, h0] using h
  case bool b =>
    walk_at "wp"
    refine w_lif (a := .bool true) rfl ?_
    refine w_lif (a := true) rfl ?_
    walk_at "wp"
    exact h
  all_goals
    walk_at "wp"
    refine w_lif (a := .bool false) rfl ?_
    refine w_lif (a := false) rfl ?_
    walk_at "wp"
    refine w_lif (a := .bool false) rfl ?_
    refine w_lif (a := false) rfl ?_
    show Gd (cond true _ _) _ _
    walk_at "wp"
    exact h
/-- what the loop over the rows leaves -/
def RI (p : Int) (n : Nat) (m f : PyData) (rows : List (List Int)) (line : List Int) (os : List PyData) (j : Nat) (δ : Sg) : Prop := ∃ (vs : List Int) (c9 : Cell), c9.free = true ∧ vs.length = j ∧
  δ = [.ow true os, .fz (.int p), .fz m, .fz (.int n), .fz (.tuple (rows.map rowT)), .fz f, .fz (rowT line), .ow false ([rowT line, rowT line] ++ vs.map .int), .ow false ([rowT line, rowT line] ++ vs.map .int), c9, .un, .un, .un, .un, .un]
abbrev rBody : MS := (sSeq (sApp 7 (xDef g_product (bnd (xVar 1) fun d => bnd (bnd (xVar 9) fun d => bnd (bnd (xVar 6) fun d => bnd (PD.ret []) fun ds => PD.ret (d :: ds)) fun ds => PD.ret (d :: ds)) fun ds => PD.ret (d :: ds))))
  (sApp 8 (xDef g__law_times (bnd (xVar 1) fun d => bnd (bnd (xVar 9) fun d => bnd (bnd (xVar 6) fun d => bnd (PD.ret []) fun ds => PD.ret (d :: ds)) fun ds => PD.ret (d :: ds)) fun ds => PD.ret (d :: ds)))))
theorem res_small {p : Int} {r : List Int} (hp2 : p < 1000) (h : Res p r) : ∀ x ∈ r, small64 x = true := fun x hx => by
  have := h x hx
  unfold small64
  simp only [Bool.and_eq_true, decide_eq_true_eq]
  omega
theorem r_step {p : Int} {n : Nat} {m f : PyData} {rows : List (List Int)} {line : List Int} {os : List PyData} {j : Nat} (hp : 0 < p) (hp2 : p < 1000) (hn : n ≤ 6) (hj : j < 1000) (hr : ∀ r ∈ rows, Rw p n r) {δ : Sg} (h : RI p n m f rows line os j δ) {r : List Int} (hm : r ∈ rows) :
    Gs (sName 9) (rowT r) δ fun δ1 => Gd rBody δ1 fun fl δ2 => fl = .nx ∧ RI p n m f rows line os (j + 1) δ2 := by
  obtain ⟨vs, c9, f9, hl, rfl⟩ := h
  have hw := hr r hm
  have q1 := product_eq (p := p) (a := rowT r) (b := rowT line) (l := r) (m := line) (by omega) rfl rfl (by rw [hw.len]; omega) (res_small hp2 hw.res)
  have q2 := times_eq (p := p) (a := rowT r) (b := rowT line) (l := r) (m := line) (by omega) rfl rfl (by rw [hw.len]; omega) (res_small hp2 hw.res)
  walk_at "wp"
  refine w_app (.s (.s (.s (.s (.s (.s (.s .z))))))) ?_
  walk_at "wp"
  refine ⟨_, _, q1, ?_⟩
  refine ⟨_, _, _, (.s (.s (.s (.s (.s (.s (.s .z))))))), by simp; omega, (.s (.s (.s (.s (.s (.s (.s .z))))))), ?_⟩
  walk_at "wp"
  refine w_app (.s (.s (.s (.s (.s (.s (.s (.s .z)))))))) ?_
  walk_at "wp"
  refine ⟨_, _, q2, ?_⟩
  refine ⟨_, _, _, (.s (.s (.s (.s (.s (.s (.s (.s .z)))))))), by simp; omega, (.s (.s (.s (.s (.s (.s (.s (.s .z)))))))), rfl, ?_⟩
  exact ⟨vs ++ [(List.zipWith (· * ·) r line).sum.fmod p], .fz (rowT r), rfl, by simp [hl], by simp⟩
end K02
end

section
set_option linter.all false
set_option maxRecDepth 100000
set_option maxHeartbeats 1000000
namespace K02
open PySem PD
theorem flat_none {n : Nat} : Flat n .none := by simp [Flat, PyData.canLay0, PyData.depth]
theorem flat_bool {n : Nat} (b : Bool) : Flat n (.bool b) := by simp [Flat, PyData.canLay0, PyData.depth]
theorem flat_str0 {n : Nat} : Flat n (.str (PySem.Str.ofString "0")) := ⟨by decide +kernel, by simp [PyData.depth]⟩
theorem Flat.mono {n k : Nat} {d : PyData} (h : Flat n d) (l : n ≤ k) : Flat k d := ⟨h.1, Nat.le_trans h.2 l⟩
theorem flat_bad {p : Int} : ∀ d ∈ ([.int p, .int (-1), .none, .bool true, .str (PySem.Str.ofString "0"), .int 0, .int (p - 1), .tuple [.int 0], .int (p + 3)] : List PyData), Flat 2 d := by
  intro d hd
  simp only [List.mem_cons, List.not_mem_nil, or_false] at hd
  rcases hd with rfl | rfl | rfl | rfl | rfl | rfl | rfl | rfl | rfl
  · exact flat_int _
  · exact flat_int _
  · exact flat_none
  · exact flat_bool _
  · exact flat_str0
  · exact flat_int _
  · exact flat_int _
  · exact flat_tup fun d hd => by rw [List.mem_singleton.mp hd]; exact flat_int _
  · exact flat_int _
theorem range_mem {x : PyData} {lo : Int} {n : Nat} (h : x ∈ rangeL lo n) : ∃ i, x = .int i := by
  unfold rangeL at h
  obtain ⟨i, _, rfl⟩ := List.mem_map.mp h
  exact ⟨_, rfl⟩
theorem below_res {p : Int} {r : List Int} (h : Res p r) : (r.map PyData.int).all (below p) = true := by
  rw [List.all_eq_true]
  intro d hd
  obtain ⟨x, hx, rfl⟩ := List.mem_map.mp hd
  have := h x hx
  simp [below, this]
theorem filter_not {ds : List PyData} {f : PyData → Bool} : (ds.filter fun d => !f d).isEmpty = ds.all f := by
  induction ds with
  | nil => rfl
  | cons d ds ih =>
    rw [List.filter_cons, List.all_cons]
    cases f d <;> simp [ih]
theorem w_runE {m : Nat} {g : MS} {cells : Sg} {d : PyData} (h : Gd g (cells ++ List.replicate (m - cells.length) .un) fun fl δ' => fl = .rt d ∧ cells.length ≤ δ'.length) : ∃ o, runD m g cells = some (.ok d, o) := by
  obtain ⟨fl, δ', e, rfl, k⟩ := h
  unfold runD keepO
  rw [e]
  dsimp only
  rw [if_pos k]
  exact ⟨_, rfl⟩
theorem right_eq {os : List PyData} {N : Int} (t : Tin N os) (h0 : 0 ≤ N) (h1 : N < 1000) : ∃ o, g__law_right [.ow true os] = some (.ok (.bool true), o) := by
  obtain ⟨dp, hdp, os1, e1, t1⟩ := of_eq (xs := [.int 2, .int 3, .int 5]) t (by omega) (by simp) (by simp)
  obtain ⟨p, rfl, hp, hp2⟩ : ∃ p : Int, dp = .int p ∧ 0 < p ∧ p < 1000 := by
    simp only [List.mem_cons, List.not_mem_nil, or_false] at hdp
    rcases hdp with rfl | rfl | rfl
    · exact ⟨2, rfl, by omega, by omega⟩
    · exact ⟨3, rfl, by omega, by omega⟩
    · exact ⟨5, rfl, by omega, by omega⟩
  have hdp : divOk p = true := by unfold divOk; simp only [Bool.and_eq_true, decide_eq_true_eq]; omega
  refine w_runE ?_
  simp only [List.length_cons, List.length_nil, List.replicate, List.cons_append, List.nil_append, Nat.reduceAdd, Nat.reduceSub]
  unfold B__law_right
  walk_at "wp"
  refine w_defO .z ?_
  walk_at "wp"
  refine ⟨_, _, _, _, _, _, _, .z, e1, .z, ?_⟩
  walk_at "wp"
  refine w_take (k := 7) t1 (by omega) (by decide) (by decide) (by walk_at "wp"; exact ⟨rfl, rfl⟩) fun m os2 m0 m1 t2 => ?_
  walk_at "wp"
  refine w_take (k := 7) t2 (by omega) (by decide) (by decide) (by walk_at "wp"; exact ⟨rfl, rfl⟩) fun n os3 n0 n1 t3 => ?_
  obtain ⟨m, rfl⟩ := Int.eq_ofNat_of_zero_le m0
  obtain ⟨n, rfl⟩ := Int.eq_ofNat_of_zero_le n0
  walk_at "wp"
  obtain ⟨rows, os4, l4, h4, t4, e4⟩ := vectors_eq (p := p) (m := m) (n := n) hp hp2 (by omega) (by omega) (by omega) (by omega) t3
  refine w_defO .z ?_
  walk_at "wp"
  refine ⟨_, _, _, _, _, _, _, .z, e4, .z, ?_⟩
  walk_at "wp"
  refine w_lif (range_take (by omega) (by omega)) ?_
  obtain ⟨fs, os5, l5, h5, t5, e5⟩ := comp_take (b := true) (k := p) (i := 13) (r := [.fz (.int p), .fz (.int m), .fz (.int n), .fz (.tuple (rows.map rowT)), .un, .un, .un, .un, .un, .un, .un, .un, .un, .un]) (fs := bnd (xVar 1) fun d => bnd (PD.ret []) fun ds => PD.ret (d :: ds))
    (fun y => [.fz (.int p), .fz (.int m), .fz (.int n), .fz (.tuple (rows.map rowT)), .un, .un, .un, .un, .un, .un, .un, .un, .fz y, .un]) (fun _ _ => rfl) (fun _ _ => rfl) (fun _ _ => rfl) (fun _ _ => by walk_at "wp"; exact ⟨rfl, rfl⟩) hp hdp t4 (by omega) (ds := rangeL 0 (m : Int).toNat) (by rw [rangeL_length]; omega)
  rw [rangeL_length] at l5 t5
  refine ⟨rfl, _, _, e5, ?_⟩
  show Gd _ [.ow true os5, .fz (.int p), .fz (.int m), .fz (.int n), .fz (.tuple (rows.map rowT)), .un, .un, .un, .un, .un, .un, .un, .un, .un, .un] _
  walk_at "wp"
  refine w_lif rfl ?_
  walk_at "wp"
  have hr : ∀ r ∈ rows, r.length = n := fun r h => (h4 r h).len
  obtain ⟨c1, c2, c3⟩ := comb_ok (p := p) (n := n) (rows := rows) (fs := fs) (line := List.replicate n 0) hp hr (by simp) (res_zero hp n)
  have hf := res_small hp2 h5
  refine ⟨_, _, mixed_eq (a := .tuple (rows.map rowT)) (b := .tuple (fs.map .int)) (n := n) (by omega) rfl (rows_T rows) rfl hf (by omega), ?_⟩
  generalize comb p (List.replicate n 0) rows fs = line at c1 c2 c3
  walk_at "wp"
  refine ⟨_, _, row_by_eq (a := .tuple (rows.map rowT)) (b := .tuple (fs.map .int)) (n := n) (by omega) rfl (rows_T rows) rfl hf (by omega), ?_⟩
  rw [c1]
  walk_at "wp"
  refine ⟨_, _, lists_rows (rows := rows) (by omega) (fun r h => by rw [hr r h]; omega), ?_⟩
  walk_at "wp"
  refine w_lif (o_list (by simp; omega)) ?_
  walk_at "wp"
  refine ⟨_, _, row_by_eq (a := .list (rows.map rowL)) (b := .list (fs.map .int)) (n := n) (by omega) rfl (rows_L rows) rfl hf (by omega), ?_⟩
  rw [c1]
  walk_at "wp"
  refine ⟨_, _, .s (.s (.s (.s (.s (.s (.s .z)))))), rfl, .s (.s (.s (.s (.s (.s (.s .z)))))), ?_⟩
  walk_at "wp"
  refine ⟨_, _, .s (.s (.s (.s (.s (.s (.s (.s .z))))))), rfl, .s (.s (.s (.s (.s (.s (.s (.s .z))))))), ?_⟩
  walk_at "wp"
  refine w_lif rfl ?_
  refine w_loop (RI p n (.int m) (.tuple (fs.map .int)) rows line os5) ⟨[], .un, rfl, rfl, by simp⟩ (fun j d hj δ hi => ?_) ?_
  · obtain ⟨hj1, hj2⟩ := List.getElem?_eq_some_iff.mp hj
    have hj3 : j < rows.length := by simpa using hj1
    obtain ⟨r, hm, rfl⟩ : ∃ r ∈ rows, rowT r = d := List.mem_map.mp (hj2 ▸ List.getElem_mem _)
    exact r_step hp hp2 (by omega) (by omega) h4 hi hm
  rintro δ ⟨vs, c9, f9, l9, rfl⟩
  have l9' : vs.length = m := by simpa [l4] using l9
  walk_at "wp"
  refine w_lif (o_list (by simp; omega)) ?_
  refine ⟨_, _, .s (.s (.s (.s (.s (.s (.s (.s (.s (.s .z))))))))), rfl, .s (.s (.s (.s (.s (.s (.s (.s (.s (.s .z))))))))), ?_⟩
  refine nx_nx (w_seq ?_)
  refine Gd.imp (Q := fun fl δ => fl = .nx ∧ ∃ (os6 bs : List PyData) (c9 : Cell), bs.length = n ∧ (∀ d ∈ bs, Flat 2 d) ∧
    δ = [.ow true os6, .fz (.int p), .fz (.int m), .fz (.int n), .fz (.tuple (rows.map rowT)), .fz (.tuple (fs.map .int)), .fz (rowT line), .ow false ([rowT line, rowT line] ++ vs.map .int), .ow false ([rowT line, rowT line] ++ vs.map .int), c9, .ow false bs, .un, .un, .un, .un]) ?_ ?_
  · walk_at "wp"
    refine w_cmpO (.s (.s (.s (.s (.s (.s (.s (.s (.s (.s .z)))))))))) ?_
    walk_at "wp"
    refine ⟨_, _, _, .s (.s (.s (.s (.s (.s (.s (.s (.s (.s .z))))))))), neD_nil (n := 1) (flat_lst fun d hd => by
      obtain ⟨i, _, rfl⟩ := List.mem_map.mp hd
      exact flat_int i) (by omega), ?_⟩
    refine w_lif rfl ?_
    have hline : ∀ d ∈ line.map PyData.int, Flat 2 d := fun d hd => by
      obtain ⟨i, _, rfl⟩ := List.mem_map.mp hd
      exact flat_int i
    refine w_by (fun h => ?_) fun h => ?_
    · have hn : 0 < n := by
        rw [← c2]
        refine List.length_pos_iff.mpr fun e => ?_
        rw [e] at h
        simp at h
      obtain ⟨x, hx, os6, e6, t6⟩ := of_eq (xs := [.int p, .int (-1), .none, .bool true, .str (PySem.Str.ofString "0"), .int 0, .int (p - 1), .tuple [.int 0], .int (p + 3)]) t5 (by omega) (by simp) (by simp)
      refine w_sub ?_
      refine w_defO .z ?_
      walk_at "wp"
      refine w_lif rfl ?_
      walk_at "wp"
      refine w_lif rfl ?_
      walk_at "wp"
      refine w_lif rfl ?_
      walk_at "wp"
      refine ⟨_, _, _, _, _, _, _, .z, e6, .z, ?_⟩
      refine ⟨_, _, .s (.s (.s (.s (.s (.s (.s (.s (.s (.s .z))))))))), ?_⟩
      refine w_take (k := n) t6 (by omega) (by omega) (by unfold divOk; simp only [Bool.and_eq_true, decide_eq_true_eq]; omega) (by walk_at "wp"; exact ⟨rfl, rfl⟩) fun v os7 v0 v1 t7 => ?_
      refine ⟨_, _, v, v.toNat, _, rfl, .s (.s (.s (.s (.s (.s (.s (.s (.s (.s .z))))))))), ?_, .s (.s (.s (.s (.s (.s (.s (.s (.s (.s .z))))))))), rfl, ?_⟩
      · unfold L2.ixN
        rw [if_pos v0, if_pos (by simp [c2]; omega)]
      · exact ⟨os7, _, _, by simp [c2], fun d hd => by
          rcases List.mem_or_eq_of_mem_set hd with hd | rfl
          · exact hline d hd
          · exact flat_bad _ hx, rfl⟩
    · walk_at "wp"
      exact ⟨rfl, _, _, _, by simp [c2], hline, rfl⟩
  rintro _ _ ⟨rfl, os6, bs, c9', lb, fb, rfl⟩
  walk_at "wp"
  refine w_varO (.s (.s (.s (.s (.s (.s (.s (.s (.s (.s .z)))))))))) (.s (.s (.s (.s (.s (.s (.s (.s (.s (.s .z)))))))))) ?_
  walk_at "wp"
  refine w_lif rfl ?_
  walk_at "wp"
  refine w_lif rfl ?_
  have qf := comp_filter (is := [14]) (set := sName 14) (t := badT) (el := xVar 14) (δ := [.ow true os6, .fz (.int p), .fz (.int m), .fz (.int n), .fz (.tuple (rows.map rowT)), .fz (.tuple (fs.map .int)), .fz (rowT line), .ow false ([rowT line, rowT line] ++ vs.map .int), .ow false ([rowT line, rowT line] ++ vs.map .int), c9', .fz (.list bs), .fz (.tuple bs), .un, .un, .un]) (fun d => !below p d) (ds := bs) (acc := []) (by simp [lb]; omega) fun d hd => by
    refine w_name (c := .un) (by walk_at "w_at") rfl (by walk_at "w_put") (bad_eq ?_)
    refine ⟨rfl, fun _ => ?_, fun _ => ⟨rfl, rfl⟩⟩
    walk_at "wp"
    exact ⟨rfl, rfl, rfl⟩
  refine ⟨rfl, _, _, qf, ?_⟩
  walk_at "wp"
  rw [List.nil_append]
  refine w_lif (eqD_nil (n := 3) (flat_lst fun d hd => fb d ((List.mem_filter.mp hd).1)) (by omega)) ?_
  rw [filter_not]
  show Gs (sName 12) _ [.ow true os6, .fz (.int p), .fz (.int m), .fz (.int n), .fz (.tuple (rows.map rowT)), .fz (.tuple (fs.map .int)), .fz (rowT line), .ow false ([rowT line, rowT line] ++ vs.map .int), .ow false ([rowT line, rowT line] ++ vs.map .int), c9', .fz (.list bs), .fz (.tuple bs), .un, .un, .un] _
  walk_at "wp"
  refine w_varO (.s (.s (.s (.s (.s (.s (.s .z))))))) (.s (.s (.s (.s (.s (.s (.s .z))))))) ?_
  walk_at "wp"
  refine ⟨_, _, is_row_eq (rowT line) p n (by rintro xs e; cases e; simp; omega), ?_⟩
  walk_at "wp"
  refine w_lif (o_add n 1) ?_
  walk_at "wp"
  refine ⟨_, _, is_row_eq (rowT line) p (n + 1) (by rintro xs e; cases e; simp; omega), ?_⟩
  walk_at "wp"
  refine w_lif (o_list (by simp; omega)) ?_
  walk_at "wp"
  refine ⟨_, _, is_row_eq (.list (line.map .int)) p n (by rintro xs e; cases e), ?_⟩
  walk_at "wp"
  refine ⟨_, _, is_row_eq (.tuple bs) p n (by rintro xs e; cases e; omega), ?_⟩
  walk_at "wp"
  refine w_lif (o_cat (by simp; omega)) ?_
  refine ⟨_, _, .s (.s (.s (.s (.s (.s (.s .z)))))), rfl, .s (.s (.s (.s (.s (.s (.s .z)))))), ?_⟩
  walk_at "wp"
  refine w_varO (.s (.s (.s (.s (.s (.s (.s .z))))))) (.s (.s (.s (.s (.s (.s (.s .z))))))) ?_
  walk_at "wp"
  refine w_varO (.s (.s (.s (.s (.s (.s (.s (.s .z)))))))) (.s (.s (.s (.s (.s (.s (.s (.s .z)))))))) ?_
  walk_at "wp"
  refine w_lif (o_cat (by simp; omega)) ?_
  walk_at "wp"
  have r1 : rowOk p n (rowT line) = true := by
    simp only [rowOk, below_res c3, List.length_map, c2, decide_true, Bool.and_self]
  have r2 : rowOk p (n + 1) (rowT line) = false := by
    simp only [rowOk, below_res c3, List.length_map, c2, Bool.and_true, decide_eq_false_iff_not]
    omega
  have r3 : rowOk p n (.list (line.map .int)) = false := rfl
  have r4 : rowOk p n (.tuple bs) = bs.all (below p) := by
    simp only [rowOk, lb, decide_true, Bool.true_and]
  rw [r1, r2, r3, r4]
  have hs : Sm 2 (.list ([rowT line, rowT line] ++ vs.map .int ++ [.bool true, .bool false, .bool false, .bool (bs.all (below p))])) := by
    refine .lst (by simp; omega) fun d hd => ?_
    simp only [List.mem_append, List.mem_cons, List.not_mem_nil, or_false, List.mem_map] at hd
    rcases hd with ((rfl | rfl) | ⟨i, _, rfl⟩) | rfl | rfl | rfl | rfl
    · refine .tup (by simp; omega) fun d hd => ?_
      obtain ⟨i, _, rfl⟩ := List.mem_map.mp hd
      exact .int i
    · refine .tup (by simp; omega) fun d hd => ?_
      obtain ⟨i, _, rfl⟩ := List.mem_map.mp hd
      exact .int i
    · exact .int i
    · exact .bl _
    · exact .bl _
    · exact .bl _
    · exact .bl _
  refine ⟨_, _, same_eq hs 8 (by omega), rfl, ?_⟩
  simp
end K02
end

section
set_option linter.all false
set_option maxRecDepth 100000
set_option maxHeartbeats 1000000
namespace K02
open PySem PD
theorem cut_take {ns : List Int} : cutD (ns.map PyData.int) none (some 2) = (ns.take 2).map .int := by
  unfold cutD HT.sIx
  simp [List.map_take]
theorem cut_drop {ns : List Int} : ∃ zs : List Int, cutD (ns.map PyData.int) (some 2) (some 63) = zs.map .int ∧ zs.length ≤ 63 ∧ (ns.length ≤ 2 → zs = []) := by
  refine ⟨(ns.drop (min 2 ns.length)).take (min 63 ns.length - min 2 ns.length), ?_, ?_, fun h => ?_⟩
  · unfold cutD HT.sIx
    simp [List.map_take]
  · simp
    omega
  · simp
    omega
theorem w_runFE {m : Nat} {g : MS} {cells : Sg} {P : List PyData → Prop} (h : Gd g (cells ++ List.replicate (m - cells.length) .un) fun fl δ' => ∃ ds, fl = .rf ds ∧ P ds ∧ cells.length ≤ δ'.length) : ∃ ds o, runF m g cells = some (.ok ds, o) ∧ P ds := by
  obtain ⟨fl, δ', e, ds, rfl, p, k⟩ := h
  unfold runF keepO
  rw [e]
  dsimp only
  rw [if_pos k]
  exact ⟨_, _, rfl, p⟩
theorem box_eq (cs : List Int) (i : Nat) (hi : i < cs.length) (h2 : cs.length ≤ 2) : ∃ os o, g__law_box [.fz (.list (cs.map .int)), .fz (.int i)] = some (.ok os, o) ∧ Tin 0 os := by
  have hx : ixD (.list (cs.map .int)) (.int i) = some (.int cs[i]) := by
    show L2.atI (cs.map PyData.int) (i : Int) = _
    unfold L2.atI L2.ixN
    rw [if_pos (by omega), if_pos (by simp; omega)]
    simp [hi]
  have hp : powD (.int 10) (.int 18) = some (.int 1000000000000000000) := by
    unfold powD intsD powOk
    simp
  have hs : ∀ b : Bool, small64 (if b = true then 1 else 0) = true := by decide
  refine w_runFE (P := Tin 0) ?_
  simp only [List.length_cons, List.length_nil, List.replicate, List.cons_append, List.nil_append, Nat.reduceAdd, Nat.reduceSub]
  unfold B__law_box
  walk_at "wp"
  refine w_lif rfl ?_
  walk_at "wp"
  refine w_lif (o_lt _ _) ?_
  refine w_lif rfl ?_
  rw [decide_eq_true (by simp; omega)]
  walk_at "wp"
  refine w_lif hx ?_
  walk_at "wp"
  refine w_lif rfl ?_
  walk_at "wp"
  refine w_lif rfl ?_
  walk_at "wp"
  refine w_lif hp ?_
  refine w_lif (o_ge _ _) ?_
  walk_at "wp"
  refine w_lif rfl ?_
  refine w_lif (o_mul ?_) ?_
  · unfold mulOk
    rw [hs, Bool.or_true]
  walk_at "wp"
  refine w_lif rfl ?_
  walk_at "wp"
  refine w_lif (o_mod (by decide)) ?_
  walk_at "wp"
  refine w_lif (o_mul ?_) ?_
  · unfold mulOk
    rw [show small64 39373 = true by decide]
    rfl
  refine w_lif (o_add _ _) ?_
  walk_at "wp"
  refine w_lif (o_add _ _) ?_
  walk_at "wp"
  exact ⟨_, rfl, ⟨_, _, 0, rfl, by omega, by omega⟩, by simp⟩
/-- what a turn of the loop over the rest leaves -/
def CI (s : PyData) (δ : Sg) : Prop := ∃ (cs : List Int) (c3 c4 c5 : Cell), cs.length = 2 ∧ c3.free = true ∧ c4.free = true ∧ c5.free = true ∧ δ = [.fz s, .fz (.int 2), .ow false (cs.map .int), c3, c4, c5]
theorem cells_eq (ns : List Int) (h : ns.length ≤ 63) : ∃ (cs : List Int), 0 < cs.length ∧ cs.length ≤ 2 ∧ ∃ o, g__law_cells [.fz (.list (ns.map .int)), .fz (.int 2)] = some (.ok (.list (cs.map .int)), o) := by
  obtain ⟨zs, hz1, hz2, hz3⟩ := cut_drop (ns := ns)
  suffices H : ∃ cs : List Int, 0 < cs.length ∧ cs.length ≤ 2 ∧ Gd B__law_cells [.fz (.list (ns.map .int)), .fz (.int 2), .un, .un, .un, .un] (fun fl δ' => fl = .rt (.list (cs.map .int)) ∧ 2 ≤ δ'.length) by
    obtain ⟨cs, h1, h2, H⟩ := H
    exact ⟨cs, h1, h2, w_runE H⟩
  by_cases hn : ns.length < 2
  · have hz : zs = [] := hz3 (by omega)
    refine ⟨if ns = [] then [0] else ns, ?_, ?_, ?_⟩
    · split
      · simp
      · rename_i e; exact List.length_pos_iff.mpr e
    · split
      · simp
      · omega
    · unfold B__law_cells
      walk_at "wp"
      refine ⟨_, rfl, ?_⟩
      refine w_lif rfl ?_
      walk_at "wp"
      rw [cut_take]
      refine w_lif (o_listL (by simp; omega)) ?_
      have ht : ns.take 2 = ns := List.take_of_length_le (by omega)
      rw [ht]
      refine Gd.imp (Q := fun ds δ => ds = (if ns = [] then [0] else ns).map PyData.int ∧ δ = [.fz (.list (ns.map .int)), .fz (.int 2), .un, .un, .un, .un]) ?_ ?_
      · refine w_by (fun h => ?_) fun h => ?_
        · walk_at "wp"
          have : ns = [] := by simpa using h
          simp [this]
        · walk_at "wp"
          have : ns ≠ [] := by rintro rfl; simp at h
          simp [this]
      rintro _ _ ⟨rfl, rfl⟩
      refine ⟨_, _, .s (.s .z), rfl, .s (.s .z), ?_⟩
      walk_at "wp"
      refine ⟨_, rfl, ?_⟩
      walk_at "wp"
      refine ⟨_, rfl, ?_⟩
      refine w_lif rfl ?_
      walk_at "wp"
      rw [hz1, hz]
      refine w_lif rfl ?_
      refine w_eq rfl ?_
      walk_at "wp"
      refine w_varO (.s (.s .z)) (.s (.s .z)) ?_
      exact ⟨rfl, by simp⟩
  · suffices H : Gd B__law_cells [.fz (.list (ns.map .int)), .fz (.int 2), .un, .un, .un, .un] (fun fl δ' => ∃ cs : List Int, cs.length = 2 ∧ fl = .rt (.list (cs.map .int)) ∧ 2 ≤ δ'.length) by
      obtain ⟨fl, δ', e, cs, h1, h2, h3⟩ := H
      exact ⟨cs, by omega, by omega, fl, δ', e, h2, h3⟩
    unfold B__law_cells
    walk_at "wp"
    refine ⟨_, rfl, ?_⟩
    refine w_lif rfl ?_
    walk_at "wp"
    rw [cut_take]
    refine w_lif (o_listL (by simp; omega)) ?_
    have hl : (ns.take 2).length = 2 := by simp; omega
    have he : ((ns.take 2).map PyData.int).isEmpty = false := by
      cases e : ns.take 2 with
      | nil => rw [e] at hl; cases hl
      | cons => rfl
    rw [he]
    walk_at "wp"
    refine ⟨_, _, .s (.s .z), rfl, .s (.s .z), ?_⟩
    walk_at "wp"
    refine ⟨_, rfl, ?_⟩
    walk_at "wp"
    refine ⟨_, rfl, ?_⟩
    refine w_lif rfl ?_
    walk_at "wp"
    rw [hz1]
    refine w_lif rfl ?_
    refine w_loop (fun _ δ => CI (.list (ns.map .int)) δ) ⟨ns.take 2, .un, .un, .un, hl, rfl, rfl, rfl, rfl⟩ (fun j d hj δ hi => ?_) ?_
    · obtain ⟨cs, c3, c4, c5, hc, f3, f4, f5, rfl⟩ := hi
      obtain ⟨v, rfl⟩ : ∃ v : Int, d = .tuple [.int (j : Nat), .int v] := by
        unfold enumL at hj
        rw [List.getElem?_map, List.getElem?_zipIdx, List.getElem?_map] at hj
        cases e : zs[j]? with
        | none => rw [e] at hj; cases hj
        | some v => rw [e] at hj; cases hj; exact ⟨v, by simp⟩
      have hjl : j < 63 := by
        obtain ⟨h, _⟩ := List.getElem?_eq_some_iff.mp hj
        simp [enumL] at h
        omega
      have b0 : 0 ≤ (j : Int).fmod 2 := Int.fmod_nonneg_of_pos _ (by omega)
      have b1 : (j : Int).fmod 2 < 2 := Int.fmod_lt_of_pos _ (by omega)
      have hix : ixD (.list (cs.map .int)) (.int ((j : Int).fmod 2)) = some (.int (cs[((j : Int).fmod 2).toNat]'(by omega))) := by
        show L2.atI (cs.map PyData.int) _ = _
        unfold L2.atI L2.ixN
        rw [if_pos b0, if_pos (by simp; omega)]
        have : ((j : Int).fmod 2).toNat < cs.length := by omega
        simp [this]
      walk_at "wp"
      refine w_lif rfl ?_
      walk_at "wp"
      refine w_lif (o_mod (by decide)) ?_
      walk_at "wp"
      refine w_sub ?_
      walk_at "wp"
      refine w_ixO (.s (.s .z)) ?_
      walk_at "wp"
      refine ⟨_, _, .s (.s .z), ?_⟩
      refine w_lif hix ?_
      walk_at "wp"
      refine w_lif (o_add _ _) ?_
      refine w_lif (o_mul ?_) ?_
      · unfold mulOk small64
        simp only [Bool.or_eq_true, Bool.and_eq_true, decide_eq_true_eq]
        right
        omega
      refine w_lif (o_add _ _) ?_
      refine ⟨_, _, .s (.s .z), ?_⟩
      walk_at "wp"
      refine ⟨_, _, (j : Int).fmod 2, ((j : Int).fmod 2).toNat, _, rfl, .s (.s .z), ?_, .s (.s .z), rfl, ?_⟩
      · unfold L2.ixN
        rw [if_pos b0, if_pos (by simp; omega)]
      · rw [← List.map_set]
        exact ⟨_, _, _, _, by simpa using hc, rfl, rfl, rfl, rfl⟩
    · rintro δ ⟨cs, c3, c4, c5, hc, f3, f4, f5, rfl⟩
      walk_at "wp"
      refine w_varO (.s (.s .z)) (.s (.s .z)) ?_
      exact ⟨cs, hc, rfl, by simp⟩
theorem hand_eq : ∃ o, g__law_by_hand_right [] = some (.ok (.bool true), o) := by
  have h := hand_true
  unfold okT at h
  split at h
  · rename_i o e
    exact ⟨o, e⟩
  · cases h
theorem law_true : ∀ ns : List Int, ns.length ≤ 63 → ∃ c, g_law [.fz (.list (ns.map .int))] = some (.ok (.bool true), c) := by
  intro ns h
  obtain ⟨cs, h1, h2, o, e⟩ := cells_eq ns h
  obtain ⟨oh, eh⟩ := hand_eq
  refine w_runE ?_
  simp only [List.length_cons, List.length_nil, List.replicate, List.cons_append, List.nil_append, Nat.reduceAdd, Nat.reduceSub]
  unfold B_law
  walk_at "wp"
  refine ⟨_, _, eh, ?_⟩
  refine w_lif rfl ?_
  show Gd (cond false _ _) _ _
  walk_at "wp"
  refine ⟨_, _, e, ?_⟩
  walk_at "wp"
  refine w_lif rfl ?_
  walk_at "wp"
  refine w_lif (range_take (by omega) (by simp; omega)) ?_
  have q := comp_fun (is := [2]) (set := sName 2) (el := xDefT g__law_right (xDefF g__law_box (bnd (xVar 1) fun d => bnd (bnd (xVar 2) fun d => bnd (PD.ret []) fun ds => PD.ret (d :: ds)) fun ds => PD.ret (d :: ds)))) (ds := rangeL 0 (((cs.map PyData.int).length : Nat) : Int).toNat)
    (δ := [.fz (.list (ns.map .int)), .fz (.list (cs.map .int)), .un]) (fun _ => .bool ((fun _ => true) PyData.none)) (by rw [rangeL_length]; simp; omega) fun d hd => by
    obtain ⟨i, hi, rfl⟩ : ∃ i : Nat, i < cs.length ∧ d = .int i := by
      unfold rangeL at hd
      obtain ⟨i, hi, rfl⟩ := List.mem_map.mp hd
      have := List.mem_range.mp hi
      exact ⟨i, by simpa using this, by simp⟩
    obtain ⟨os, ob, eb, tb⟩ := box_eq cs i hi h2
    obtain ⟨orr, er⟩ := right_eq tb (by omega) (by omega)
    walk_at "wp"
    refine ⟨_, _, eb, ?_⟩
    exact ⟨_, _, er, rfl, rfl, rfl⟩
  refine ⟨rfl, _, _, q, ?_⟩
  walk_at "wp"
  refine w_lif (all_map (f := fun _ => true)) ?_
  exact ⟨by simp, by simp [backD]⟩
end K02
end

section
set_option linter.all false
set_option maxRecDepth 100000
open PySem PySem.W PyProof.Rows
set_option maxHeartbeats 0 in
theorem PySem.Challenge.cw_anydlooks_k02_rows_sums_and_inverses_holds : PySem.Challenge.rw_anydlooks_k02_rows_sums_and_inverses.Holds := by
  w_on; o_law; k_head; (case hw => w_witness2)
  k_fill
  refine L2.walk_of (l := PySem.Challenge.rw_anydlooks_k02_rows_sums_and_inverses) (n := 63) (k := 10) (x := "script") (CX := fun w => L2.CX PySem.Challenge.rw_anydlooks_k02_rows_sums_and_inverses.prog w) (sp := ?sp) rfl (by decide) rfl ⟨rfl, by decide, by decide⟩ (fun w h Y => PySem.W.kIn_of Y) ?F ?S ?C
  case F =>
    intro w mg fa h KX G hmg
    refine' K02.all_mk KX G hmg ?a_is_number ?l_is_number ?c_is_number ?k_is_number ?a_is_below ?l_is_below ?c_is_below ?k_is_below ?a_is_tuple_of ?l_is_tuple_of ?c_is_tuple_of ?k_is_tuple_of ?a_is_row ?l_is_row ?c_is_row ?k_is_row ?a_inverse ?l_inverse ?c_inverse ?k_inverse ?a_row_by ?l_row_by ?c_row_by ?k_row_by ?a_product ?l_product ?c_product ?k_product ?a__law_box ?l__law_box ?c__law_box ?k__law_box ?a__law_take ?l__law_take ?c__law_take ?k__law_take ?a__law_cells ?l__law_cells ?c__law_cells ?k__law_cells ?a__law_of ?l__law_of ?c__law_of ?k__law_of ?a__law_lists ?l__law_lists ?c__law_lists ?k__law_lists ?a__law_same ?l__law_same ?c__law_same ?k__law_same ?a__law_plus ?l__law_plus ?c__law_plus ?k__law_plus ?a__law_mixed ?l__law_mixed ?c__law_mixed ?k__law_mixed ?a__law_times ?l__law_times ?c__law_times ?k__law_times ?a__law_drawn_vectors ?l__law_drawn_vectors ?c__law_drawn_vectors ?k__law_drawn_vectors ?a__law_heard ?l__law_heard ?c__law_heard ?k__law_heard ?a__law_by_hand_right ?l__law_by_hand_right ?c__law_by_hand_right ?k__law_by_hand_right ?a__law_right ?l__law_right ?c__law_right ?k__law_right ?a_law ?l_law ?c_law ?k_law ?xg_Unfit ?xq_Unfit ?xk_Unfit ?xb_Unfit ?xt_Unfit ?xc1_Unfit ?xc2_Unfit ?xc3_Unfit ?xc4_Unfit ?xc5_Unfit ?xc6_Unfit ?xc7_Unfit ?xs_Unfit ?xv_Unfit ?z_ValueError ?z_abs ?z_all ?z_bool ?z_enumerate ?z_int ?z_isinstance ?z_len ?z_list ?z_range ?z_str ?z_sum ?z_tuple ?z_zip
    (case a_is_number => k_is)
    (case l_is_number => k_is)
    (case c_is_number => k_is)
    (case k_is_number => k_is)
    (case a_is_below => k_is)
    (case l_is_below => k_is)
    (case c_is_below => k_is)
    (case k_is_below => k_is)
    (case a_is_tuple_of => k_is)
    (case l_is_tuple_of => k_is)
    (case c_is_tuple_of => k_is)
    (case k_is_tuple_of => k_is)
    (case a_is_row => k_is)
    (case l_is_row => k_is)
    (case c_is_row => k_is)
    (case k_is_row => k_is)
    (case a_inverse => k_is)
    (case l_inverse => k_is)
    (case c_inverse => k_is)
    (case k_inverse => k_is)
    (case a_row_by => k_is)
    (case l_row_by => k_is)
    (case c_row_by => k_is)
    (case k_row_by => k_is)
    (case a_product => k_is)
    (case l_product => k_is)
    (case c_product => k_is)
    (case k_product => k_is)
    (case a__law_box => k_is)
    (case l__law_box => k_is)
    (case c__law_box => k_is)
    (case k__law_box => k_is)
    (case a__law_take => k_is)
    (case l__law_take => k_is)
    (case c__law_take => k_is)
    (case k__law_take => k_is)
    (case a__law_cells => k_is)
    (case l__law_cells => k_is)
    (case c__law_cells => k_is)
    (case k__law_cells => k_is)
    (case a__law_of => k_is)
    (case l__law_of => k_is)
    (case c__law_of => k_is)
    (case k__law_of => k_is)
    (case a__law_lists => k_is)
    (case l__law_lists => k_is)
    (case c__law_lists => k_is)
    (case k__law_lists => k_is)
    (case a__law_same => k_is)
    (case l__law_same => k_is)
    (case c__law_same => k_is)
    (case k__law_same => k_is)
    (case a__law_plus => k_is)
    (case l__law_plus => k_is)
    (case c__law_plus => k_is)
    (case k__law_plus => k_is)
    (case a__law_mixed => k_is)
    (case l__law_mixed => k_is)
    (case c__law_mixed => k_is)
    (case k__law_mixed => k_is)
    (case a__law_times => k_is)
    (case l__law_times => k_is)
    (case c__law_times => k_is)
    (case k__law_times => k_is)
    (case a__law_drawn_vectors => k_is)
    (case l__law_drawn_vectors => k_is)
    (case c__law_drawn_vectors => k_is)
    (case k__law_drawn_vectors => k_is)
    (case a__law_heard => k_is)
    (case l__law_heard => k_is)
    (case c__law_heard => k_is)
    (case k__law_heard => k_is)
    (case a__law_by_hand_right => k_is)
    (case l__law_by_hand_right => k_is)
    (case c__law_by_hand_right => k_is)
    (case k__law_by_hand_right => k_is)
    (case a__law_right => k_is)
    (case l__law_right => k_is)
    (case c__law_right => k_is)
    (case k__law_right => k_is)
    (case a_law => k_is)
    (case l_law => k_is)
    (case c_law => k_is)
    (case k_law => k_is)
    (case xg_Unfit => k_is)
    (case xq_Unfit => k_exc)
    (case xk_Unfit => k_is)
    (case xb_Unfit => k_is)
    (case xt_Unfit => k_is)
    (case xc1_Unfit => k_is)
    (case xc2_Unfit => k_is)
    (case xc3_Unfit => k_is)
    (case xc4_Unfit => k_is)
    (case xc5_Unfit => k_is)
    (case xc6_Unfit => k_is)
    (case xc7_Unfit => k_is)
    (case xs_Unfit => first | rfl | k_is)
    (case xv_Unfit => k_is)
    (case z_ValueError => k_is)
    (case z_abs => k_is)
    (case z_all => k_is)
    (case z_bool => k_is)
    (case z_enumerate => k_is)
    (case z_int => k_is)
    (case z_isinstance => k_is)
    (case z_len => k_is)
    (case z_list => k_is)
    (case z_range => k_is)
    (case z_str => k_is)
    (case z_sum => k_is)
    (case z_tuple => k_is)
    (case z_zip => k_is)
  case S => exact fun w H a ns hl _ hS => K02.law_start hS (K02.law_true ns hl)
  case C =>
    intro _ _ _ _ _ h
    obtain ⟨_, _, _, _, _, _, _, _, _, _, _, _, z⟩ := h
    exact z
end
