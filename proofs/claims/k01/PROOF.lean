import PyProof.Rows.All
import Wide.All
import OpenK.AllK
import Wide.FinOn
import HandS.ForMost
import HandS.Exc
import HandS.ExcOwn
import HandS.WordsExc
import HandS.Lambda
import HandS.TryMany
import HandS.CallLocal
import HandS.TupAny
import HandS.TupMul
import HandS.TupLe
import HandS.Deep
import HandS.IsInst
import HandS.Flow
import HandS.Zip
import PyProof.ListStr
import HandS.More
import HandS.Style
import HandS.EndTab
import KE.KNestM
import PyProof.ExcBaseAll.ValueError
import PySem.Challenge.RW_chainpapers_k01_rows_and_seals
import PySem.Challenge.RW_chainpapers_k01_rows_and_seals
set_option Elab.async false
set_option maxRecDepth 100000
set_option linter.all false
set_option maxHeartbeats 4000000
namespace Z
open PySem L2

/-! ### data, store, state -/
inductive U where
  | non | bl (b : Bool) | int (i : Int) | str (x : Str) | tup (xs : List U) | lst (xs : List U) | frz (xs : List U) | hdl (n : Nat) | fn (x : Str)
inductive Cell where
  | lst (xs : List U)
  | ins (c : Str) (fs : List (Str × U))
abbrev Store := List Cell
structure MH where
  at_ : Nat → Option Addr
  own : Addr → Prop
structure GC where
  K : PySem.W.Frag
  mg : Str → Option Value
  T : List (Addr × Str)
/-- the tables of code objects of a law -/
class TB where
  T : List (Addr × Str)
abbrev gc [TB] (X : Cx) : GC := ⟨X.K, X.mg, TB.T⟩

def TupK (K : PySem.W.Frag) (a : Addr) (xs : List V) : Prop :=
  ∃ (o : Obj) (its : Array Value) (n : Nat), K.lookup a = some o ∧ o.cls = .type "tuple" ∧ o.data = .seq its n ∧ its.size ≤ sizeLine ∧ Vals xs its.toList
def LstK (K : PySem.W.Frag) (a : Addr) (xs : List V) : Prop :=
  ∃ (o : Obj) (its : Array Value) (n : Nat), K.lookup a = some o ∧ o.cls = .type "list" ∧ o.dict = none ∧ o.data = .seq its n ∧ its.size ≤ sizeLine ∧ Vals xs its.toList

mutual
inductive Rep (G : GC) (m : MH) (H : Hp) : U → V → Prop
  | non : Rep G m H .non .non
  | bl (b : Bool) : Rep G m H (.bl b) (.bl b)
  | int (i : Int) : Rep G m H (.int i) (.int i)
  | str (x : Str) : PyData.strOk x = true → Rep G m H (.str x) (.str x)
  | tup {a : Addr} {vs : List V} {us : List U} : H a = some (.tup vs) → ¬ m.own a → Reps G m H us vs → Rep G m H (.tup us) (.ref a)
  | tupK {a : Addr} {vs : List V} {us : List U} : TupK G.K a vs → Reps G m H us vs → Rep G m H (.tup us) (.ref a)
  | lst {a : Addr} {vs : List V} {us : List U} : H a = some (.lst vs) → ¬ m.own a → Reps G m H us vs → Rep G m H (.lst us) (.ref a)
  | frz {a : Addr} {o : Obj} {vs : List V} {us : List U} : H a = some (.frz o (.lst vs)) → ¬ m.own a → Reps G m H us vs → Rep G m H (.frz us) (.ref a)
  | frzK {a : Addr} {vs : List V} {us : List U} : LstK G.K a vs → Reps G m H us vs → Rep G m H (.frz us) (.ref a)
  | hdl {n : Nat} {a : Addr} : m.at_ n = some a → Rep G m H (.hdl n) (.ref a)
  | fn {x : Str} {a : Addr} : G.mg x = some (.ref a) → Rep G m H (.fn x) (.ref a)
inductive Reps (G : GC) (m : MH) (H : Hp) : List U → List V → Prop
  | nil : Reps G m H [] []
  | cons {u : U} {us : List U} {v : V} {vs : List V} : Rep G m H u v → Reps G m H us vs → Reps G m H (u :: us) (v :: vs)
end

inductive Flds (G : GC) (m : MH) (H : Hp) : List (Str × U) → List (Str × V) → Prop
  | nil : Flds G m H [] []
  | cons {f : Str} {u : U} {us : List (Str × U)} {v : V} {vs : List (Str × V)} : Rep G m H u v → Flds G m H us vs → Flds G m H ((f, u) :: us) ((f, v) :: vs)

def CellOk (G : GC) (m : MH) (H : Hp) (a : Addr) : Cell → Prop
  | .lst xs => ∃ vs, H a = some (.lst vs) ∧ Reps G m H xs vs
  | .ins c fs => ∃ C dx gs, G.mg c = some (.ref C) ∧ H a = some (.ins C dx gs) ∧ Flds G m H fs gs

/-- what may be new: nothing, or a table -/
def Off (H : Hp) (a : Addr) : Prop := H a = none ∨ ∃ ps, H a = some (.tbl ps)
abbrev NT (o : HO) : Prop := ∀ ps, o ≠ .tbl ps
theorem Off.no {H : Hp} {a : Addr} {o : HO} (h : Off H a) (e : H a = some o) (n : NT o) : False := by
  rcases h with q | ⟨ps, q⟩ <;> rw [e] at q <;> cases q
  exact n _ rfl
structure Sim (G : GC) (m : MH) (H : Hp) (st : Store) : Prop where
  dom : ∀ n, n < st.length → ∃ a, m.at_ n = some a
  lt : ∀ n a, m.at_ n = some a → n < st.length
  inj : ∀ n k a, m.at_ n = some a → m.at_ k = some a → n = k
  own : ∀ n a, m.at_ n = some a → m.own a
  live : ∀ a, m.own a → ∃ o, H a = some o ∧ NT o
  cell : ∀ n c a, st[n]? = some c → m.at_ n = some a → CellOk G m H a c
  tabs : LamX.Tabs G.T H

structure Le (m : MH) (H : Hp) (m' : MH) (H' : Hp) : Prop where
  sub : ∀ n a, m.at_ n = some a → m'.at_ n = some a
  new : ∀ n a, m'.at_ n = some a → m.at_ n = some a ∨ Off H a
  grow : ∀ a, m.own a → m'.own a
  fresh : ∀ a, m'.own a → m.own a ∨ Off H a
  keep : ∀ a o, H a = some o → (∀ n, m.at_ n ≠ some a) → NT o → H' a = some o
  live : ∀ a, Off H' a → Off H a

theorem Le.refl {m : MH} {H : Hp} : Le m H m H := ⟨fun _ _ h => h, fun _ _ h => .inl h, fun _ h => h, fun _ h => .inl h, fun _ _ h _ _ => h, fun _ h => h⟩
theorem Le.off {m m' : MH} {H H' : Hp} (l : Le m H m' H') {a : Addr} {o : HO} (h : H a = some o) (n : ∀ n, m.at_ n ≠ some a) (nt : NT o := by intro _ z; cases z) : ∀ n, m'.at_ n ≠ some a := fun k e => by
  rcases l.new k a e with q | q
  · exact n k q
  · exact q.no h nt
theorem Le.offO {m m' : MH} {H H' : Hp} (l : Le m H m' H') {a : Addr} {o : HO} (h : H a = some o) (n : ¬ m.own a) (nt : NT o := by intro _ z; cases z) : ¬ m'.own a := fun e => by
  rcases l.fresh a e with q | q
  · exact n q
  · exact q.no h nt
theorem Le.trans {m m1 m2 : MH} {H H1 H2 : Hp} (a : Le m H m1 H1) (b : Le m1 H1 m2 H2) : Le m H m2 H2 :=
  ⟨fun n x h => b.sub n x (a.sub n x h), fun n x h => by
    rcases b.new n x h with q | q
    · exact a.new n x q
    · exact .inr (a.live x q), fun x h => b.grow x (a.grow x h), fun x h => by
    rcases b.fresh x h with q | q
    · exact a.fresh x q
    · exact .inr (a.live x q), fun x o h n t => b.keep x o (a.keep x o h n t) (a.off h n t) t, fun x h => a.live x (b.live x h)⟩

section
variable {G : GC} {m m' : MH} {H H' : Hp}
/-- what a value needs of the step -/
structure Stays (m : MH) (H : Hp) (m' : MH) (H' : Hp) : Prop where
  sub : ∀ n a, m.at_ n = some a → m'.at_ n = some a
  keep : ∀ a o, H a = some o → ¬ m.own a → NT o → H' a = some o ∧ ¬ m'.own a
mutual
theorem Rep.stay (l : Stays m H m' H') : ∀ {u : U} {v : V}, Rep G m H u v → Rep G m' H' u v
  | _, _, .non => .non
  | _, _, .bl b => .bl b
  | _, _, .int i => .int i
  | _, _, .str x h => .str x h
  | _, _, .tup h n r => .tup (l.keep _ _ h n nofun).1 (l.keep _ _ h n nofun).2 (Reps.stay l r)
  | _, _, .tupK h r => .tupK h (Reps.stay l r)
  | _, _, .lst h n r => .lst (l.keep _ _ h n nofun).1 (l.keep _ _ h n nofun).2 (Reps.stay l r)
  | _, _, .frz h n r => .frz (l.keep _ _ h n nofun).1 (l.keep _ _ h n nofun).2 (Reps.stay l r)
  | _, _, .frzK h r => .frzK h (Reps.stay l r)
  | _, _, .hdl h => .hdl (l.sub _ _ h)
  | _, _, .fn h => .fn h
theorem Reps.stay (l : Stays m H m' H') : ∀ {us : List U} {vs : List V}, Reps G m H us vs → Reps G m' H' us vs
  | _, _, .nil => .nil
  | _, _, .cons r t => .cons (Rep.stay l r) (Reps.stay l t)
end
theorem Flds.stay (l : Stays m H m' H') {us : List (Str × U)} {vs : List (Str × V)} (h : Flds G m H us vs) : Flds G m' H' us vs := by
  induction h with
  | nil => exact .nil
  | cons r _ ih => exact .cons (r.stay l) ih
theorem CellOk.live {a : Addr} {c : Cell} (h : CellOk G m H a c) : ∃ o, H a = some o ∧ Mut (some o) := by
  cases c with
  | lst xs => obtain ⟨vs, e, _⟩ := h; exact ⟨_, e, trivial⟩
  | ins c fs => obtain ⟨C, dx, gs, _, e, _⟩ := h; exact ⟨_, e, trivial⟩
theorem CellOk.stay {a : Addr} {c : Cell} (l : Stays m H m' H') (e : H' a = H a) (h : CellOk G m H a c) : CellOk G m' H' a c := by
  cases c with
  | lst xs => obtain ⟨vs, e1, r⟩ := h; exact ⟨vs, e.trans e1, r.stay l⟩
  | ins c fs => obtain ⟨C, dx, gs, e1, e2, r⟩ := h; exact ⟨C, dx, gs, e1, e.trans e2, r.stay l⟩
theorem Sim.atlive {st : Store} (S : Sim G m H st) {n : Nat} {a : Addr} (h : m.at_ n = some a) : ∃ o, H a = some o := let ⟨o, e, _⟩ := S.live a (S.own n a h); ⟨o, e⟩
theorem Sim.off {st : Store} (S : Sim G m H st) {p : Addr} (h : H p = none) : ¬ m.own p := fun e => by
  obtain ⟨o, e1, _⟩ := S.live p e
  rw [h] at e1; cases e1
/-- the step keeps values, where the first state is a state -/
theorem Le.stays {st : Store} (l : Le m H m' H') (S : Sim G m H st) : Stays m H m' H' :=
  ⟨l.sub, fun a o h n t => ⟨l.keep a o h (fun k e => n (S.own k a e)) t, l.offO h n t⟩⟩
theorem Rep.mono {st : Store} (S : Sim G m H st) (l : Le m H m' H') {u : U} {v : V} (h : Rep G m H u v) : Rep G m' H' u v := h.stay (l.stays S)
theorem Reps.mono {st : Store} (S : Sim G m H st) (l : Le m H m' H') {u : List U} {v : List V} (h : Reps G m H u v) : Reps G m' H' u v := h.stay (l.stays S)
/-- a new untracked object -/
theorem le_new {p : Addr} {o : HO} (h : H p = none) : Le m H m (upd H p o) :=
  ⟨fun _ _ h => h, fun _ _ h => .inl h, fun _ h => h, fun _ h => .inl h, fun a o' e _ _ => by rw [upd_ne (ne_of_none e h)]; exact e, fun a e => by
    by_cases q : a = p
    · subst q; exact .inl h
    · unfold Off at e ⊢; rw [upd_ne q] at e; exact e⟩
theorem tabs_new {p : Addr} {o : HO} (t : LamX.Tabs G.T H) (h : H p = none) : LamX.Tabs G.T (upd H p o) := t.ext fun b o' e => by rw [upd_ne (ne_of_none e h)]; exact e
theorem tabs_upd {D : Addr} {ws : List V} {o : HO} (t : LamX.Tabs G.T H) (h : H D = some (.lst ws)) : LamX.Tabs G.T (upd H D o) := fun p hp => by
  obtain ⟨ps, h1, h2, h3⟩ := t p hp
  refine ⟨ps, by rw [upd_ne (fun q => by rw [q, h] at h1; cases h1)]; exact h1, h2, fun pos cv hc => ?_⟩
  obtain ⟨c, ec, hcc⟩ := h3 pos cv hc
  exact ⟨c, ec, by rw [upd_ne (fun q => by rw [q, h] at hcc; cases hcc)]; exact hcc⟩
theorem Sim.new {st : Store} (S : Sim G m H st) {p : Addr} {o : HO} (h : H p = none) : Sim G m (upd H p o) st :=
  ⟨S.dom, S.lt, S.inj, S.own, fun a e => by
    obtain ⟨o', e1, nt⟩ := S.live a e
    exact ⟨o', by rw [upd_ne (ne_of_none e1 h)]; exact e1, nt⟩, fun n c a e1 e2 => (S.cell n c a e1 e2).stay ((le_new h).stays S) (by
    obtain ⟨o', e3⟩ := S.atlive e2
    exact upd_ne (ne_of_none e3 h)), tabs_new S.tabs h⟩
/-- a new cell -/
def mput (m : MH) (n : Nat) (p : Addr) : MH := ⟨fun k => if k = n then some p else m.at_ k, fun a => a = p ∨ m.own a⟩
theorem le_alloc {st : Store} (S : Sim G m H st) {p : Addr} {o : HO} (h : H p = none) : Le m H (mput m st.length p) (upd H p o) :=
  ⟨fun n a e => by
    unfold mput
    have := S.lt n a e
    show (if n = st.length then some p else m.at_ n) = some a
    rw [if_neg (by omega)]; exact e, fun n a e => by
    have e : (if n = st.length then some p else m.at_ n) = some a := e
    split at e
    · cases e; exact .inr (.inl h)
    · exact .inl e, fun _ h => .inr h, fun a e => by
    rcases e with rfl | e
    · exact .inr (.inl h)
    · exact .inl e, fun a o' e _ _ => by rw [upd_ne (ne_of_none e h)]; exact e, (le_new (m := m) h).live⟩
theorem Sim.alloc {st : Store} (S : Sim G m H st) {p : Addr} {o : HO} {c : Cell} (h : H p = none) (hc : CellOk G (mput m st.length p) (upd H p o) p c) : Sim G (mput m st.length p) (upd H p o) (st ++ [c]) := by
  have L : Le m H (mput m st.length p) (upd H p o) := le_alloc S h
  have put : ∀ n a, (mput m st.length p).at_ n = some a → (n = st.length ∧ a = p) ∨ (n ≠ st.length ∧ m.at_ n = some a) := fun n a e => by
    have e : (if n = st.length then some p else m.at_ n) = some a := e
    split at e
    · rename_i q; exact .inl ⟨q, (Option.some.inj e).symm⟩
    · rename_i q; exact .inr ⟨q, e⟩
  refine ⟨fun n hn => ?_, fun n a e => ?_, fun n k a e1 e2 => ?_, fun n a e => ?_, fun a e => ?_, fun n c' a e1 e2 => ?_, tabs_new S.tabs h⟩
  · by_cases q : n = st.length
    · exact ⟨p, if_pos q⟩
    · rw [List.length_append, List.length_singleton] at hn
      obtain ⟨a, e⟩ := S.dom n (by omega)
      exact ⟨a, L.sub n a e⟩
  · rw [List.length_append, List.length_singleton]
    rcases put n a e with ⟨q, _⟩ | ⟨_, q⟩
    · omega
    · have := S.lt n a q; omega
  · rcases put n a e1 with ⟨q1, z1⟩ | ⟨q1, z1⟩
    · rcases put k a e2 with ⟨q2, z2⟩ | ⟨q2, z2⟩
      · omega
      · subst z1; exact absurd (S.own k _ z2) (S.off h)
    · rcases put k a e2 with ⟨q2, z2⟩ | ⟨q2, z2⟩
      · subst z2; exact absurd (S.own n _ z1) (S.off h)
      · exact S.inj n k a z1 z2
  · rcases put n a e with ⟨_, q⟩ | ⟨_, q⟩
    · exact .inl q
    · exact .inr (S.own n a q)
  · rcases e with rfl | e
    · exact ⟨_, upd_same, by
        obtain ⟨o2, e2, mu⟩ := hc.live
        rw [upd_same] at e2; cases e2
        intro ps z; subst z; exact mu⟩
    · obtain ⟨o', e1, nt⟩ := S.live a e
      exact ⟨o', by rw [upd_ne (ne_of_none e1 h)]; exact e1, nt⟩
  · rcases put n a e2 with ⟨q, z⟩ | ⟨q, z⟩
    · subst q z
      rw [List.getElem?_append_right (Nat.le_refl _)] at e1
      simp at e1
      subst e1
      exact hc
    · have hn := S.lt n a z
      rw [List.getElem?_append_left hn] at e1
      obtain ⟨o', e3⟩ := S.atlive z
      exact (S.cell n c' a e1 z).stay (L.stays S) (upd_ne (ne_of_none e3 h))
/-- a cell is changed -/
theorem le_write {st : Store} (S : Sim G m H st) {n : Nat} {a : Addr} {o : HO} (h : m.at_ n = some a) (nt : NT o := by intro _ z; cases z) : Le m H m (upd H a o) :=
  ⟨fun _ _ h => h, fun _ _ h => .inl h, fun _ h => h, fun _ h => .inl h, fun b o' e nb _ => by
    have : b ≠ a := fun q => nb n (q ▸ h)
    rw [upd_ne this]; exact e, fun b e => by
    by_cases q : b = a
    · subst q; exact (e.no upd_same nt).elim
    · unfold Off at e ⊢; rw [upd_ne q] at e; exact e⟩
theorem Sim.write {st : Store} (S : Sim G m H st) {n : Nat} {a : Addr} {o : HO} {c : Cell} (h : m.at_ n = some a) (hc : CellOk G m (upd H a o) a c) : Sim G m (upd H a o) (st.set n c) := by
  have nt : NT o := by
    obtain ⟨o2, e2, mu⟩ := hc.live
    rw [upd_same] at e2; cases e2
    intro ps z; subst z; exact mu
  obtain ⟨c0, hc0⟩ : ∃ c0, st[n]? = some c0 := ⟨_, List.getElem?_eq_getElem (S.lt n a h)⟩
  obtain ⟨o0, e0, mu0⟩ : ∃ o0, H a = some o0 ∧ ((∃ vs, o0 = .lst vs) ∨ ∃ C dx gs, o0 = .ins C dx gs) := by
    have := S.cell n c0 a hc0 h
    cases c0 with
    | lst xs => obtain ⟨vs, e, _⟩ := this; exact ⟨_, e, .inl ⟨_, rfl⟩⟩
    | ins c fs => obtain ⟨C, dx, gs, _, e, _⟩ := this; exact ⟨_, e, .inr ⟨_, _, _, rfl⟩⟩
  have tb : LamX.Tabs G.T (upd H a o) := fun p hp => by
    obtain ⟨ps, h1, h2, h3⟩ := S.tabs p hp
    have np : p.1 ≠ a := fun q => by
      rw [q, e0] at h1; cases h1
      rcases mu0 with ⟨_, z⟩ | ⟨_, _, _, z⟩ <;> cases z
    refine ⟨ps, by rw [upd_ne np]; exact h1, h2, fun pos cv hc => ?_⟩
    obtain ⟨c, ec, hcc⟩ := h3 pos cv hc
    refine ⟨c, ec, ?_⟩
    have nc : c ≠ a := fun q => by
      rw [q, e0] at hcc
      rcases mu0 with ⟨_, rfl⟩ | ⟨_, _, _, rfl⟩ <;> cases hcc
    rw [upd_ne nc]; exact hcc
  refine ⟨fun k hk => S.dom k (by simpa using hk), fun k b e => by simpa using S.lt k b e, S.inj, S.own, fun b e => ?_, fun k c' b e1 e2 => ?_, tb⟩
  · by_cases q : b = a
    · subst q; exact ⟨_, upd_same, nt⟩
    · obtain ⟨o', e1, nt⟩ := S.live b e
      exact ⟨o', by rw [upd_ne q]; exact e1, nt⟩
  · by_cases q : k = n
    · subst q
      rw [List.getElem?_set_self (S.lt k _ h)] at e1
      cases e1
      rw [h] at e2; cases e2
      exact hc
    · rw [List.getElem?_set_ne (Ne.symm q)] at e1
      refine (S.cell k c' b e1 e2).stay ((le_write S h nt).stays S) (upd_ne fun z => q ?_)
      subst z
      exact S.inj _ _ _ e2 h
end

theorem Reps.length {G : GC} {m : MH} {H : Hp} : ∀ {us : List U} {vs : List V}, Reps G m H us vs → us.length = vs.length
  | _, _, .nil => rfl
  | _, _, .cons _ t => by simp [Reps.length t]
theorem Reps.get {G : GC} {m : MH} {H : Hp} : ∀ {us : List U} {vs : List V} {i : Nat} {v : V}, Reps G m H us vs → vs[i]? = some v → ∃ u, us[i]? = some u ∧ Rep G m H u v
  | _, _, _, _, .nil, e => by simp at e
  | _, _, 0, _, .cons r _, e => by simp at e; subst e; exact ⟨_, rfl, r⟩
  | _, _, i + 1, v, .cons _ t, e => by
    obtain ⟨u, h1, h2⟩ := Reps.get (i := i) (v := v) t (by simpa using e)
    exact ⟨u, by simpa using h1, h2⟩
theorem Reps.getU {G : GC} {m : MH} {H : Hp} : ∀ {us : List U} {vs : List V} {i : Nat} {u : U}, Reps G m H us vs → us[i]? = some u → ∃ v, vs[i]? = some v ∧ Rep G m H u v
  | _, _, _, _, .nil, e => by simp at e
  | _, _, 0, _, .cons r _, e => by simp at e; subst e; exact ⟨_, rfl, r⟩
  | _, _, i + 1, v, .cons _ t, e => by
    obtain ⟨u, h1, h2⟩ := Reps.getU (i := i) (u := v) t (by simpa using e)
    exact ⟨u, by simpa using h1, h2⟩
theorem Reps.append {G : GC} {m : MH} {H : Hp} : ∀ {us ws : List U} {vs zs : List V}, Reps G m H us vs → Reps G m H ws zs → Reps G m H (us ++ ws) (vs ++ zs)
  | _, _, _, _, .nil, h => h
  | _, _, _, _, .cons r t, h => .cons r (Reps.append t h)
theorem Reps.take {G : GC} {m : MH} {H : Hp} : ∀ {us : List U} {vs : List V} (n : Nat), Reps G m H us vs → Reps G m H (us.take n) (vs.take n)
  | _, _, 0, _ => by simp; exact .nil
  | _, _, _ + 1, .nil => by simp; exact .nil
  | _, _, n + 1, .cons r t => by simp; exact .cons r (Reps.take n t)
theorem Reps.drop {G : GC} {m : MH} {H : Hp} : ∀ {us : List U} {vs : List V} (n : Nat), Reps G m H us vs → Reps G m H (us.drop n) (vs.drop n)
  | _, _, 0, h => by simpa using h
  | _, _, _ + 1, .nil => by simp; exact .nil
  | _, _, n + 1, .cons r t => by simp; exact Reps.drop n t

/-! ### results -/
structure Ex where
  cls : Str
  fld : Option (Str × U) := none
inductive R (α : Type) where
  | ok (a : α) (st : Store)
  | exc (e : Ex) (st : Store)
  | stuck
def R.bind {α β : Type} (r : R α) (k : α → Store → R β) : R β := match r with
  | .ok a st => k a st
  | .exc e st => .exc e st
  | .stuck => .stuck
@[simp] theorem R.bind_ok {α β : Type} (a : α) (st : Store) (k : α → Store → R β) : (R.ok a st).bind k = k a st := rfl
@[simp] theorem R.bind_exc {α β : Type} (e : Ex) (st : Store) (k : α → Store → R β) : (R.exc e st : R α).bind k = .exc e st := rfl
@[simp] theorem R.bind_stuck {α β : Type} (k : α → Store → R β) : (R.stuck : R α).bind k = .stuck := rfl

abbrev UEnv := List (Option U)
structure REnv (G : GC) (m : MH) (H : Hp) (ρ : UEnv) (σ : St) : Prop where
  len : ρ.length = σ.length
  at_ : ∀ (i : Nat) (u : U), ρ[i]? = some (some u) → ∃ v, σ[i]? = some (some v) ∧ Rep G m H u v
theorem REnv.mono {G : GC} {m m' : MH} {H H' : Hp} {ρ : UEnv} {σ : St} {st : Store} (S : Sim G m H st) (l : Le m H m' H') (h : REnv G m H ρ σ) : REnv G m' H' ρ σ :=
  ⟨h.len, fun i u e => let ⟨v, e1, r⟩ := h.at_ i u e; ⟨v, e1, r.mono S l⟩⟩
theorem REnv.set {G : GC} {m : MH} {H : Hp} {ρ : UEnv} {σ : St} {u : U} {v : V} (h : REnv G m H ρ σ) (i : Nat) (r : Rep G m H u v) : REnv G m H (ρ.set i (some u)) (σ.set i (some v)) :=
  ⟨by simpa using h.len, fun j w e => by
    by_cases q : i = j
    · subst q
      by_cases hi : i < ρ.length
      · rw [List.getElem?_set_self hi] at e
        cases e
        exact ⟨v, by rw [List.getElem?_set_self (h.len ▸ hi)], r⟩
      · rw [List.set_eq_of_length_le (by omega), List.getElem?_eq_none (by omega)] at e
        cases e
    · rw [List.getElem?_set_ne q] at e
      obtain ⟨v', e1, r'⟩ := h.at_ j w e
      exact ⟨v', by rw [List.getElem?_set_ne q]; exact e1, r'⟩⟩

def RepEx (G : GC) (m : MH) (H : Hp) (e : Ex) (cls : Value) (d : Option Addr) : Prop :=
  ∃ C, G.mg e.cls = some (.ref C) ∧ cls = .ref C ∧ match e.fld with
    | none => d = none
    | some (f, u) => ∃ dd v, d = some dd ∧ H dd = some (.xd [(f, v)]) ∧ Rep G m H u v

/-- what is to follow a result -/
def Post {α β : Type} (G : GC) (m : MH) (H : Hp) (rel : MH → Hp → α → β → Prop) (EW : XK) (Q : β → Hp → Prop) : R α → Prop
  | .ok u st => ∀ v m' H', Le m H m' H' → Sim G m' H' st → rel m' H' u v → Q v H'
  | .exc e st => ∀ cls d m' H', Le m H m' H' → Sim G m' H' st → RepEx G m' H' e cls d → EW cls d H'
  | .stuck => False
section
variable {α β γ δ : Type} {G : GC} {m m' : MH} {H H' : Hp} {rel : MH → Hp → α → β → Prop} {rel2 : MH → Hp → γ → δ → Prop} {EW : XK} {Q Q' : β → Hp → Prop} {r : R α}
theorem Post.mono (l : Le m H m' H') (h : Post G m H rel EW Q r) : Post G m' H' rel EW Q r := by
  cases r with
  | ok u st => exact fun v m2 H2 l2 => h v m2 H2 (l.trans l2)
  | exc e st => exact fun c d m2 H2 l2 => h c d m2 H2 (l.trans l2)
  | stuck => exact h
theorem Post.bind {k : α → Store → R γ} {Q2 : δ → Hp → Prop} (h : Post G m H rel2 EW Q2 (r.bind k))
    (hq : ∀ u st1 v m1 H1, r = .ok u st1 → Le m H m1 H1 → Sim G m1 H1 st1 → rel m1 H1 u v → Post G m1 H1 rel2 EW Q2 (k u st1) → Q v H1) : Post G m H rel EW Q r := by
  cases r with
  | ok u st => exact fun v m1 H1 l S rr => hq u st v m1 H1 rfl l S rr (Post.mono l h)
  | exc e st => exact h
  | stuck => exact h
theorem Post.imp (h : Post G m H rel EW Q r) (hq : ∀ v H, Q v H → Q' v H) : Post G m H rel EW Q' r := by
  cases r with
  | ok u st => exact fun v m1 H1 l S rr => hq _ _ (h v m1 H1 l S rr)
  | exc e st => exact h
  | stuck => exact h
end
def relB : MH → Hp → Bool → Bool → Prop := fun _ _ a b => a = b

abbrev WE2 (W : WX) (σ : St) : XK := fun c d H => W c d σ H
def tZ (G : GC) (W : WX) (f : UEnv → Store → R U) : TE := fun σ H Q => ∃ ρ st m, Sim G m H st ∧ REnv G m H ρ σ ∧ Post G m H (Rep G) (WE2 W σ) Q (f ρ st)
def tZT (G : GC) (W : WX) (f : UEnv → Store → R Bool) : TT := fun σ H Q => ∃ ρ st m, Sim G m H st ∧ REnv G m H ρ σ ∧ Post G m H relB (WE2 W σ) Q (f ρ st)
def tZA (G : GC) (W : WX) (f : UEnv → Store → R (List U)) : TA := fun σ H Q => ∃ ρ st m, Sim G m H st ∧ REnv G m H ρ σ ∧ Post G m H (Reps G) (WE2 W σ) Q (f ρ st)

inductive Fl where
  | nx (ρ : UEnv) | rt (u : U) | bk (ρ : UEnv) | ct (ρ : UEnv)
def PostS (G : GC) (m : MH) (H : Hp) (W : WX) (D : Ends) : R Fl → Prop
  | .ok (.nx ρ) st => ∀ σ m' H', Le m H m' H' → Sim G m' H' st → REnv G m' H' ρ σ → D.nx σ H'
  | .ok (.bk ρ) st => ∀ σ m' H', Le m H m' H' → Sim G m' H' st → REnv G m' H' ρ σ → D.bk σ H'
  | .ok (.ct ρ) st => ∀ σ m' H', Le m H m' H' → Sim G m' H' st → REnv G m' H' ρ σ → D.ct σ H'
  | .ok (.rt u) st => ∀ v m' H', Le m H m' H' → Sim G m' H' st → Rep G m' H' u v → D.rt v H'
  | .exc e st => ∀ cls d σ m' H', Le m H m' H' → Sim G m' H' st → RepEx G m' H' e cls d → W cls d σ H'
  | .stuck => False
def tZS (G : GC) (W : WX) (f : UEnv → Store → R Fl) : TS := fun D σ H => ∃ ρ st m, Sim G m H st ∧ REnv G m H ρ σ ∧ PostS G m H W D (f ρ st)

structure XG (X : Cx) (W : WX) : Prop where
  tk : Takes X W
  po : PassesOwn (model X.prog X.w) X.A X.env X.xe
def ZE [TB] (X : Cx) (e : Expr) (f : UEnv → Store → R U) : Prop := ∀ W, XG X W → PE X e (tZ (gc X) W f)
def ZT [TB] (X : Cx) (e : Expr) (f : UEnv → Store → R Bool) : Prop := ∀ W, XG X W → PT X e (tZT (gc X) W f)
def ZA [TB] (X : Cx) (es : List Expr) (f : UEnv → Store → R (List U)) : Prop := ∀ W, XG X W → PA X es (tZA (gc X) W f)
def ZS [TB] (X : Cx) (s : Stmt) (f : UEnv → Store → R Fl) : Prop := ∀ W, XG X W → PS X s (tZS (gc X) W f)
def ZB [TB] (X : Cx) (s : List Stmt) (f : UEnv → Store → R Fl) : Prop := ∀ W, XG X W → PSs X s (tZS (gc X) W f)

theorem PE.imp {X : Cx} {e : Expr} {t t' : TE} (h : PE X e t) (hi : ∀ σ H Q, t' σ H Q → t σ H Q) : PE X e t' := ⟨fun pins s σ H Q I hw => h.run pins s σ H Q I (hi σ H Q hw)⟩
theorem PT.imp {X : Cx} {e : Expr} {t t' : TT} (h : PT X e t) (hi : ∀ σ H Q, t' σ H Q → t σ H Q) : PT X e t' := ⟨fun pins s σ H Q I hw => h.run pins s σ H Q I (hi σ H Q hw)⟩
theorem PA.imp {X : Cx} {e : List Expr} {t t' : TA} (h : PA X e t) (hi : ∀ σ H Q, t' σ H Q → t σ H Q) : PA X e t' := ⟨fun pos pins s σ H Q I hw => h.run pos pins s σ H Q I (hi σ H Q hw)⟩
theorem PS.imp {X : Cx} {e : Stmt} {t t' : TS} (h : PS X e t) (hi : ∀ D σ H, t' D σ H → t D σ H) : PS X e t' := ⟨fun pins s σ H D I hw => h.run pins s σ H D I (hi D σ H hw)⟩
theorem PSs.imp {X : Cx} {e : List Stmt} {t t' : TS} (h : PSs X e t) (hi : ∀ D σ H, t' D σ H → t D σ H) : PSs X e t' := ⟨fun pins s σ H D I hw => h.run pins s σ H D I (hi D σ H hw)⟩

/-- chaining two readings -/
theorem tz_seq [TB] {X : Cx} {W : WX} {fa : UEnv → Store → R U} {σ : St} {H : Hp} {α β : Type} {rel2 : MH → Hp → α → β → Prop} {Q2 : β → Hp → Prop} {k : UEnv → U → Store → R α} {Q : VK} {ρ : UEnv} {st : Store} {m : MH}
    (S : Sim (gc X) m H st) (E : REnv (gc X) m H ρ σ) (P : Post (gc X) m H rel2 (WE2 W σ) Q2 ((fa ρ st).bind (k ρ)))
    (hq : ∀ u st1 v m1 H1, Sim (gc X) m1 H1 st1 → REnv (gc X) m1 H1 ρ σ → Rep (gc X) m1 H1 u v → Le m H m1 H1 → Post (gc X) m1 H1 rel2 (WE2 W σ) Q2 (k ρ u st1) → Q v H1) : tZ (gc X) W fa σ H Q :=
  ⟨ρ, st, m, S, E, P.bind fun u st1 v m1 H1 _ l S1 r p => hq u st1 v m1 H1 S1 (E.mono S l) r l p⟩
end Z

namespace Z
open PySem L2

theorem line_eq : sizeLine = 16777216 := sizeLine_eq
/-! ### reading values -/
def deref (st : Store) : U → U
  | .hdl n => match st[n]? with
    | some (.lst xs) => .lst xs
    | _ => .hdl n
  | u => u
section
variable {G : GC} {m : MH} {H : Hp} {st : Store} {u : U} {v : V} {xs : List U}
theorem rep_lst (S : Sim G m H st) (r : Rep G m H u v) (e : deref st u = .lst xs) : ∃ a vs, v = .ref a ∧ H a = some (.lst vs) ∧ Reps G m H xs vs := by
  cases r with
  | lst h n r => cases e; exact ⟨_, _, rfl, h, r⟩
  | @hdl n a h =>
    unfold deref at e
    simp only at e
    split at e
    · rename_i ys q
      cases e
      obtain ⟨vs, e1, r⟩ := S.cell n _ a q h
      exact ⟨_, _, rfl, e1, r⟩
    · cases e
  | _ => cases e
theorem rep_seqL {K : PySem.W.Frag} (S : Sim G m H st) (r : Rep G m H u v) (e : deref st u = .lst xs ∨ u = .frz xs) (hK : G.K = K) : ∃ a vs, v = .ref a ∧ SqL K H a vs ∧ Reps G m H xs vs := by
  subst hK
  rcases e with e | e
  · obtain ⟨a, vs, e1, e2, r⟩ := rep_lst S r e
    exact ⟨a, vs, e1, SqL.of e2, r⟩
  · subst e
    cases r with
    | frz h n r => exact ⟨_, _, rfl, .inl (.inr ⟨_, h⟩), r⟩
    | frzK h r => exact ⟨_, _, rfl, .inr h, r⟩
theorem rep_tup {K : PySem.W.Frag} (r : Rep G m H (.tup xs) v) (hK : G.K = K) : ∃ a vs, v = .ref a ∧ SqT K H a vs ∧ Reps G m H xs vs := by
  subst hK
  cases r with
  | tup h n r => exact ⟨_, _, rfl, SqT.of h, r⟩
  | tupK h r => exact ⟨_, _, rfl, .inr h, r⟩
theorem rep_int {i : Int} (r : Rep G m H (.int i) v) : v = .int i := by cases r; rfl
theorem rep_bl {i : Bool} (r : Rep G m H (.bl i) v) : v = .bl i := by cases r; rfl
theorem rep_str {i : Str} (r : Rep G m H (.str i) v) : v = .str i ∧ PyData.strOk i = true := by cases r with | str _ h => exact ⟨rfl, h⟩
theorem rep_non (r : Rep G m H .non v) : v = .non := by cases r; rfl
end
/-- one view for operators -/
inductive View (st : Store) : U → U → Prop
  | mk (u : U) : View st u (deref st u)
theorem deref_int {st : Store} {u : U} {i : Int} (h : deref st u = .int i) : u = .int i := by
  cases u with
  | hdl n => unfold deref at h; simp only at h; split at h <;> cases h
  | _ => exact h
theorem deref_bl {st : Store} {u : U} {i : Bool} (h : deref st u = .bl i) : u = .bl i := by
  cases u with
  | hdl n => unfold deref at h; simp only at h; split at h <;> cases h
  | _ => exact h
theorem deref_str {st : Store} {u : U} {i : Str} (h : deref st u = .str i) : u = .str i := by
  cases u with
  | hdl n => unfold deref at h; simp only at h; split at h <;> cases h
  | _ => exact h
theorem deref_tup {st : Store} {u : U} {i : List U} (h : deref st u = .tup i) : u = .tup i := by
  cases u with
  | hdl n => unfold deref at h; simp only at h; split at h <;> cases h
  | _ => exact h
theorem deref_frz {st : Store} {u : U} {i : List U} (h : deref st u = .frz i) : u = .frz i := by
  cases u with
  | hdl n => unfold deref at h; simp only at h; split at h <;> cases h
  | _ => exact h
theorem deref_non {st : Store} {u : U} (h : deref st u = .non) : u = .non := by
  cases u with
  | hdl n => unfold deref at h; simp only at h; split at h <;> cases h
  | _ => exact h

/-! ### data for == -/
mutual
def dat : U → Option PyData
  | .non => some .none
  | .bl b => some (.bool b)
  | .int i => some (.int i)
  | .str x => some (.str x)
  | .tup xs => (dats xs).map .tuple
  | .lst xs => (dats xs).map .list
  | .frz xs => (dats xs).map .list
  | .hdl _ => none
  | .fn _ => none
def dats : List U → Option (List PyData)
  | [] => some []
  | x :: xs => (dat x).bind fun d => (dats xs).map (d :: ·)
end
section
variable {G : GC} {m : MH} {H : Hp}
mutual
theorem rep_dp : ∀ {u : U} {v : V} {d : PyData}, Rep G m H u v → dat u = some d → Dp G.K H v d ∧ d.canLay0 = true
  | _, _, _, .non, e => by simp [dat] at e; subst e; exact ⟨.non, by simp [PyData.canLay0]⟩
  | _, _, _, .bl b, e => by simp [dat] at e; subst e; exact ⟨.bl b, by simp [PyData.canLay0]⟩
  | _, _, _, .int i, e => by simp [dat] at e; subst e; exact ⟨.int i, by simp [PyData.canLay0]⟩
  | _, _, _, .str x h, e => by simp [dat] at e; subst e; exact ⟨.str x, by simpa [PyData.canLay0] using h⟩
  | _, _, _, .tup h n r, e => by
    simp only [dat, Option.map_eq_some_iff] at e
    obtain ⟨ds, e1, rfl⟩ := e
    obtain ⟨h1, h2⟩ := rep_dps r e1
    exact ⟨.tup (SqT.of h) h1, by simpa [PyData.canLay0] using h2⟩
  | _, _, _, .tupK h r, e => by
    simp only [dat, Option.map_eq_some_iff] at e
    obtain ⟨ds, e1, rfl⟩ := e
    obtain ⟨h1, h2⟩ := rep_dps r e1
    exact ⟨.tup (.inr h) h1, by simpa [PyData.canLay0] using h2⟩
  | _, _, _, .lst h n r, e => by
    simp only [dat, Option.map_eq_some_iff] at e
    obtain ⟨ds, e1, rfl⟩ := e
    obtain ⟨h1, h2⟩ := rep_dps r e1
    exact ⟨.lst (SqL.of h) h1, by simpa [PyData.canLay0] using h2⟩
  | _, _, _, .frz h n r, e => by
    simp only [dat, Option.map_eq_some_iff] at e
    obtain ⟨ds, e1, rfl⟩ := e
    obtain ⟨h1, h2⟩ := rep_dps r e1
    exact ⟨.lst (.inl (.inr ⟨_, h⟩)) h1, by simpa [PyData.canLay0] using h2⟩
  | _, _, _, .frzK h r, e => by
    simp only [dat, Option.map_eq_some_iff] at e
    obtain ⟨ds, e1, rfl⟩ := e
    obtain ⟨h1, h2⟩ := rep_dps r e1
    exact ⟨.lst (.inr h) h1, by simpa [PyData.canLay0] using h2⟩
  | _, _, _, .hdl _, e => by simp [dat] at e
  | _, _, _, .fn _, e => by simp [dat] at e
theorem rep_dps : ∀ {us : List U} {vs : List V} {ds : List PyData}, Reps G m H us vs → dats us = some ds → DpAll G.K H vs ds ∧ PyData.canLayAll0 ds = true
  | _, _, _, .nil, e => by simp [dats] at e; subst e; exact ⟨.nil, by simp [PyData.canLayAll0]⟩
  | _, _, _, .cons r t, e => by
    simp only [dats, Option.bind_eq_some_iff, Option.map_eq_some_iff] at e
    obtain ⟨d, e1, ds, e2, rfl⟩ := e
    obtain ⟨h1, h2⟩ := rep_dp r e1
    obtain ⟨h3, h4⟩ := rep_dps t e2
    exact ⟨.cons h1 h3, by simp [PyData.canLayAll0, h2, h4]⟩
end
theorem rep_dpD {st : Store} {u : U} {v : V} {d : PyData} (S : Sim G m H st) (r : Rep G m H u v) (e : dat (deref st u) = some d) : Dp G.K H v d ∧ d.canLay0 = true := by
  cases r with
  | @hdl n a h =>
    unfold deref at e
    simp only at e
    split at e
    · rename_i ys q
      simp only [dat, Option.map_eq_some_iff] at e
      obtain ⟨ds, e1, rfl⟩ := e
      obtain ⟨vs, e2, r⟩ := S.cell n _ a q h
      obtain ⟨h1, h2⟩ := rep_dps r e1
      exact ⟨.lst (SqL.of e2) h1, by simpa [PyData.canLay0] using h2⟩
    · simp [dat] at e
  | non => exact rep_dp (m := m) .non e
  | bl b => exact rep_dp (m := m) (.bl b) e
  | int b => exact rep_dp (m := m) (.int b) e
  | str b h => exact rep_dp (m := m) (.str b h) e
  | tup h n r => exact rep_dp (.tup h n r) e
  | tupK h r => exact rep_dp (.tupK h r) e
  | lst h n r => exact rep_dp (.lst h n r) e
  | frz h n r => exact rep_dp (.frz h n r) e
  | frzK h r => exact rep_dp (.frzK h r) e
  | fn h => exact rep_dp (m := m) (.fn h) e
end
def eqU (st : Store) (a b : U) : Option Bool := match dat (deref st a), dat (deref st b) with
  | some d, some e => if d.depth ≤ 64 ∧ e.depth ≤ 64 then some (PyData.eqv d e) else none
  | _, _ => none
theorem shaped_of {d : PyData} (h : d.canLay0 = true) (h2 : d.depth ≤ 64) : SeqAt.shaped d = true := by
  unfold SeqAt.shaped; rw [h, decide_eq_true h2]; rfl

/-! ### operators on values -/
def PostO (G : GC) (m : MH) (H : Hp) (st : Store) (Q : VK) : Option U → Prop
  | some u => ∀ v m' H', Le m H m' H' → Sim G m' H' st → Rep G m' H' u v → Q v H'
  | none => False
abbrev Op2 := Store → U → U → Option U
abbrev Op1 := Store → U → Option U
def rZ (G : GC) (g : Op2) : R2 := fun x y H Q => ∃ m st a b, Sim G m H st ∧ Rep G m H a x ∧ Rep G m H b y ∧ PostO G m H st Q (g st a b)
def rZ1 (G : GC) (g : Op1) : V → Hp → VK → Prop := fun x H Q => ∃ m st a, Sim G m H st ∧ Rep G m H a x ∧ PostO G m H st Q (g st a)
def OpZ [TB] (X : Cx) (f : Value → Value → Sem Value) (g : Op2) : Prop := OpR X f (rZ (gc X) g)
def R.ofO {α : Type} (st : Store) : Option α → R α
  | some u => .ok u st
  | none => .stuck
@[simp] theorem R.ofO_some {α : Type} (st : Store) (u : α) : R.ofO st (some u) = .ok u st := rfl
@[simp] theorem R.ofO_none {α : Type} (st : Store) : R.ofO st (none : Option α) = .stuck := rfl
theorem PostO.of {G : GC} {m : MH} {H : Hp} {st : Store} {EW : XK} {Q : VK} {o : Option U} (h : Post G m H (Rep G) EW Q (R.ofO st o)) : PostO G m H st Q o := by
  cases o with
  | some u => exact h
  | none => exact h
/-- the same state, a value at hand -/
theorem PostO.here {G : GC} {m : MH} {H : Hp} {st : Store} {Q : VK} {u : U} {v : V} (h : PostO G m H st Q (some u)) (S : Sim G m H st) (r : Rep G m H u v) : Q v H := h v m H Le.refl S r
/-- a new object -/
theorem PostO.lst {G : GC} {m : MH} {H : Hp} {st : Store} {Q : VK} {us : List U} {vs : List V} (h : PostO G m H st Q (some (.lst us))) (S : Sim G m H st) (r : Reps G m H us vs) (p : Addr) (hp : H p = none) : Q (.ref p) (upd H p (.lst vs)) :=
  h _ m _ (le_new hp) (S.new hp) (.lst upd_same (S.off hp) (r.mono S (le_new hp)))
theorem PostO.tup {G : GC} {m : MH} {H : Hp} {st : Store} {Q : VK} {us : List U} {vs : List V} (h : PostO G m H st Q (some (.tup us))) (S : Sim G m H st) (r : Reps G m H us vs) (p : Addr) (hp : H p = none) : Q (.ref p) (upd H p (.tup vs)) :=
  h _ m _ (le_new hp) (S.new hp) (.tup upd_same (S.off hp) (r.mono S (le_new hp)))

def mulOk (i j : Int) : Bool := decide ((-(2 ^ 64) < i ∧ i < 2 ^ 64) ∨ (-(2 ^ 64) < j ∧ j < 2 ^ 64))
theorem mulOk_c {i j : Int} (h : mulOk i j = true) : CMul i j := by
  unfold mulOk at h
  have := of_decide_eq_true h
  exact this
def oAdd : Op2 := fun st a b => match deref st a, deref st b with
  | .int i, .int j => some (.int (i + j))
  | .str x, .str y => if x.length + y.length ≤ 16777216 then some (.str (x ++ y)) else none
  | .lst xs, .lst ys => if xs.length + ys.length ≤ 16777216 then some (.lst (xs ++ ys)) else none
  | .tup xs, .tup ys => if xs.length + ys.length ≤ 16777216 then some (.tup (xs ++ ys)) else none
  | _, _ => none
def oSub : Op2 := fun _ a b => match a, b with
  | .int i, .int j => some (.int (i - j))
  | _, _ => none
def oMul : Op2 := fun st a b => match deref st a, deref st b with
  | .int i, .int j => if mulOk i j = true then some (.int (i * j)) else none
  | .lst xs, .int k => if 0 ≤ k ∧ k ≤ 1000000 ∧ xs.length * k.toNat ≤ 16777216 then some (.lst (List.replicate k.toNat xs).flatten) else none
  | .tup xs, .int k => if 2 ≤ k ∧ k ≤ 16777216 ∧ xs.length * k.toNat ≤ 16777216 ∧ xs ≠ [] then some (.tup (List.replicate k.toNat xs).flatten) else none
  | _, _ => none
def oDiv : Op2 := fun _ a b => match a, b with
  | .int i, .int j => if 0 < j ∧ j < 1073741824 then some (.int (i / j)) else none
  | _, _ => none
def oMod : Op2 := fun _ a b => match a, b with
  | .int i, .int j => if 0 < j then some (.int (i % j)) else none
  | _, _ => none
def oPow : Op2 := fun _ a b => match a, b with
  | .int i, .int j => if 0 ≤ j ∧ j ≤ 1000000 ∧ i.natAbs < 2 ^ 64 then some (.int (i ^ j.toNat)) else none
  | _, _ => none

theorem strOk_append {x y : Str} (h1 : PyData.strOk x = true) (h2 : PyData.strOk y = true) : PyData.strOk (x ++ y) = true := by
  have e : (x ++ y) = (⟨x.cps ++ y.cps⟩ : Str) := rfl
  rw [e]
  unfold PyData.strOk at *
  simp only [Array.all_append, h1, h2, Bool.and_self]
theorem reps_ne {G : GC} {m : MH} {H : Hp} {us : List U} {vs : List V} (r : Reps G m H us vs) : us = [] ↔ vs = [] := by
  cases r <;> simp
theorem reps_rep {G : GC} {m : MH} {H : Hp} {us : List U} {vs : List V} (r : Reps G m H us vs) : ∀ n, Reps G m H (List.replicate n us).flatten (List.replicate n vs).flatten
  | 0 => by simp; exact .nil
  | n + 1 => by simp only [List.replicate_succ, List.flatten_cons]; exact r.append (reps_rep r n)
section
variable {X : Cx}
theorem z_add [TB] : OpZ X (binaryOp .Add) oAdd := by
  intro pins s σ H x y v u Q I rx ry ⟨m, st, a, b, S, ra, rb, P⟩
  unfold oAdd at P
  split at P
  · rename_i i j e1 e2
    rw [deref_int e1] at ra; rw [deref_int e2] at rb
    exact op_add pins s σ H x y v u Q I rx ry ⟨i, j, rep_int ra, rep_int rb, P.here S (.int _)⟩
  · rename_i i j e1 e2
    rw [deref_str e1] at ra; rw [deref_str e2] at rb
    obtain ⟨h1, h2⟩ := rep_str ra
    obtain ⟨h3, h4⟩ := rep_str rb
    split at P
    · rename_i hl
      exact op_add_str pins s σ H x y v u Q I rx ry ⟨i, j, h1, h3, by rw [line_eq]; exact hl, P.here S (.str _ (strOk_append h2 h4))⟩
    · exact P.elim
  · rename_i i j e1 e2
    obtain ⟨p, vs, rfl, h1, r1⟩ := rep_lst S ra e1
    obtain ⟨q, ws, rfl, h2, r2⟩ := rep_lst S rb e2
    split at P
    · rename_i hl
      exact op_cat pins s σ H _ _ v u Q I rx ry ⟨p, q, vs, ws, rfl, rfl, h1, h2, by rw [line_eq, ← r1.length, ← r2.length]; exact hl, P.lst S (r1.append r2)⟩
    · exact P.elim
  · rename_i i j e1 e2
    rw [deref_tup e1] at ra; rw [deref_tup e2] at rb
    have ra' := ra
    have rb' := rb
    obtain ⟨p, vs, rfl, h1, r1⟩ := rep_tup (K := X.K) ra rfl
    obtain ⟨q, ws, rfl, h2, r2⟩ := rep_tup (K := X.K) rb rfl
    split at P
    · rename_i hl
      refine op_catA pins s σ H _ _ v u Q I rx ry ⟨p, q, vs, ws, rfl, rfl, h1, h2, by rw [line_eq, ← r1.length, ← r2.length]; exact hl, fun z => ?_, fun _ z => ?_, fun _ _ => P.tup S (r1.append r2)⟩
      · have := (reps_ne r1).mpr z
        subst this
        exact P.here S rb'
      · have := (reps_ne r2).mpr z
        subst this
        rw [List.append_nil] at P
        exact P.here S ra'
    · exact P.elim
  · exact P.elim
theorem z_sub [TB] : OpZ X (binaryOp .Sub) oSub := by
  intro pins s σ H x y v u Q I rx ry ⟨m, st, a, b, S, ra, rb, P⟩
  unfold oSub at P
  split at P
  · rename_i i j
    exact op_sub pins s σ H x y v u Q I rx ry ⟨i, j, rep_int ra, rep_int rb, P.here S (.int _)⟩
  · exact P.elim
/-- a tuple many times, as long as a line of memory holds it -/
theorem op_repW {X : Cx} : OpR X (binaryOp .Mult) (fun x y H Q => ∃ l k xs, x = .ref l ∧ y = .int k ∧ SqT X.K H l xs ∧ xs ≠ [] ∧ 2 ≤ k ∧ k ≤ 16777216 ∧ xs.length * k.toNat ≤ 16777216 ∧ ∀ p, H p = none → Q (.ref p) (upd H p (.tup (List.replicate k.toNat xs).flatten))) := by
  intro pins s σ H x y v u Q I rx ry ⟨l, k, xs, ex, ey, sq, ne, k1, k2, k3, q⟩
  subst ex ey
  cases rx
  obtain ⟨tk, rfl⟩ := ry
  obtain ⟨vs, rv, ⟨⟨oc, od, dt, osl⟩, hget, hcls, nn, hdat⟩, _⟩ := I.tuple sq
  simp only at hcls hdat
  subst hcls hdat
  have len : vs.length = xs.length := rv.length.symm
  have pos : 0 < xs.length := List.length_pos_iff.mpr ne
  have prod : ((vs.toArray.size : Nat) : Int) * k = ((xs.length * k.toNat : Nat) : Int) := by
    rw [List.size_toArray, len, Int.natCast_mul, Int.toNat_of_nonneg (by omega)]
  have flat : (List.replicate k.toNat vs).flatten.length = xs.length * k.toNat := by rw [PyProof.Rows.lm_len_rep_flat, len, Nat.mul_comm]
  have flat2 : (List.replicate k.toNat xs).flatten.length = xs.length * k.toNat := by rw [PyProof.Rows.lm_len_rep_flat, Nat.mul_comm]
  have emp : vs.toArray.isEmpty = false := by
    cases vs with
    | nil => simp at len; omega
    | cons a b => rfl
  have line := line_eq
  have b0 : (decide (k < -(2 ^ 63)) || decide (k ≥ 2 ^ 63)) = false := by rw [decide_eq_false (by omega), decide_eq_false (by omega)]; rfl
  have b1 : (vs.toArray.isEmpty || k == 1) = false := by rw [emp, Bool.false_or]; exact beq_eq_false_iff_ne.mpr (by omega)
  have b2 : (decide (k ≤ 0) || vs.toArray.isEmpty) = false := by rw [emp, Bool.or_false]; exact decide_eq_false (by omega)
  have b4 : Builtin.Tuple.tupleTooMany (((vs.toArray.size : Nat) : Int) * k) = false := by
    rw [prod]
    exact decide_eq_false (by rw [line]; omega)
  have obj : s.heap.get? l = some { cls := .type "tuple", dict := od, data := .seq vs.toArray nn, slots := osl } := hget
  refine wpAny_binaryOp_repeat_ref (T := "tuple") (U := "int") (by decide) ⟨_, obj, rfl⟩ (fun s2 => typeIs_int s2 k tk) noFill_tuple_mul F.fills_int_mul F.slot_int_rmul repeat_tuple F.slot_int_index.lookup ?_
  refine call_meets F.slot_int_rmul (typeIs_int s k tk) F.entry_int_rmul (F.args_int_rmul_2 _ _) (int_rmul_tuple k tk l vs.toArray nn od osl) ⟨obj, rfl, ⟨_, obj, rfl⟩, ?_⟩
  refine call_meets F.slot_tuple_mul ⟨_, obj, rfl⟩ F.entry_tuple_mul (F.args_tuple_mul_2 _ _) (tuple_mulW l vs.toArray nn od osl k tk b0 b1 b2 (by rw [prod]; omega) b4 (by rw [size_rep, List.size_toArray, flat, line]; exact k3)) ⟨obj, ?_⟩
  rw [size_rep]
  refine ⟨.ref s.heap.objs.size, _, I.laid (t' := s.toks) (o := .tup (List.replicate k.toNat xs).flatten) (fun b ob e => Heap.get?_push_of_some _ e) (Nat.le_refl _) ⟨by rw [flat2, line]; exact k3, _, rv.rep k.toNat, PyProof.Rows.IsTup.new _ _⟩, rfl, q _ (I.hok.fresh (Nat.le_refl _))⟩
theorem z_mul [TB] : OpZ X (binaryOp .Mult) oMul := by
  intro pins s σ H x y v u Q I rx ry ⟨m, st, a, b, S, ra, rb, P⟩
  unfold oMul at P
  split at P
  · rename_i i j e1 e2
    rw [deref_int e1] at ra; rw [deref_int e2] at rb
    split at P
    · rename_i hl
      exact op_mul pins s σ H x y v u Q I rx ry ⟨i, j, rep_int ra, rep_int rb, mulOk_c hl, P.here S (.int _)⟩
    · exact P.elim
  · rename_i xs k e1 e2
    obtain ⟨p, vs, rfl, h1, r1⟩ := rep_lst S ra e1
    rw [deref_int e2] at rb
    split at P
    · rename_i hl
      exact op_rep pins s σ H _ _ v u Q I rx ry ⟨p, k, vs, rfl, rep_int rb, h1, by omega, by omega, by rw [line_eq, ← r1.length]; exact hl.2.2, P.lst S (reps_rep r1 _)⟩
    · exact P.elim
  · rename_i xs k e1 e2
    rw [deref_tup e1] at ra
    obtain ⟨p, vs, rfl, h1, r1⟩ := rep_tup (K := X.K) ra rfl
    rw [deref_int e2] at rb
    split at P
    · rename_i hl
      exact op_repW pins s σ H _ _ v u Q I rx ry ⟨p, k, vs, rfl, rep_int rb, h1, fun z => hl.2.2.2 ((reps_ne r1).mpr z), hl.1, hl.2.1, by rw [← r1.length]; exact hl.2.2.1, P.tup S (reps_rep r1 _)⟩
    · exact P.elim
  · exact P.elim
theorem z_div [TB] : OpZ X (binaryOp .FloorDiv) oDiv := by
  intro pins s σ H x y v u Q I rx ry ⟨m, st, a, b, S, ra, rb, P⟩
  unfold oDiv at P
  split at P
  · rename_i i j
    split at P
    · rename_i hl
      exact op_fdiv pins s σ H x y v u Q I rx ry ⟨i, j, rep_int ra, rep_int rb, hl, P.here S (.int _)⟩
    · exact P.elim
  · exact P.elim
theorem z_mod [TB] : OpZ X (binaryOp .Mod) oMod := by
  intro pins s σ H x y v u Q I rx ry ⟨m, st, a, b, S, ra, rb, P⟩
  unfold oMod at P
  split at P
  · rename_i i j
    split at P
    · rename_i hl
      exact op_mod pins s σ H x y v u Q I rx ry ⟨i, j, rep_int ra, rep_int rb, hl, P.here S (.int _)⟩
    · exact P.elim
  · exact P.elim
theorem z_pow [TB] : OpZ X (binaryOp .Pow) oPow := by
  intro pins s σ H x y v u Q I rx ry ⟨m, st, a, b, S, ra, rb, P⟩
  unfold oPow at P
  split at P
  · rename_i i j
    split at P
    · rename_i hl
      exact op_pow pins s σ H x y v u Q I rx ry ⟨i, j, rep_int ra, rep_int rb, hl, P.here S (.int _)⟩
    · exact P.elim
  · exact P.elim

/-! ### comparisons -/
def oEq : Op2 := fun st a b => (eqU st a b).map .bl
def oNe : Op2 := fun st a b => (eqU st a b).map fun k => .bl (!k)
theorem z_eq [TB] (hu : X.A.units + 64 < cLine) : OpZ X (compareOp .Eq) oEq := by
  intro pins s σ H x y v u Q I rx ry ⟨m, st, a, b, S, ra, rb, P⟩
  unfold oEq eqU at P
  split at P
  · rename_i d e e1 e2
    split at P
    · rename_i hd
      obtain ⟨h1, h2⟩ := rep_dpD S ra e1
      obtain ⟨h3, h4⟩ := rep_dpD S rb e2
      exact op_eqD hu pins s σ H x y v u Q I rx ry ⟨d, e, h1, h3, shaped_of h2 hd.1, shaped_of h4 hd.2, P.here S (.bl _)⟩
    · exact P.elim
  · exact P.elim
theorem z_ne [TB] (hu : X.A.units + 64 < cLine) : OpZ X (compareOp .NotEq) oNe := by
  intro pins s σ H x y v u Q I rx ry ⟨m, st, a, b, S, ra, rb, P⟩
  unfold oNe eqU at P
  split at P
  · rename_i d e e1 e2
    split at P
    · rename_i hd
      obtain ⟨h1, h2⟩ := rep_dpD S ra e1
      obtain ⟨h3, h4⟩ := rep_dpD S rb e2
      exact op_neD hu pins s σ H x y v u Q I rx ry ⟨d, e, h1, h3, shaped_of h2 hd.1, shaped_of h4 hd.2, P.here S (.bl _)⟩
    · exact P.elim
  · exact P.elim
def oLt : Op2 := fun _ a b => match a, b with
  | .int i, .int j => some (.bl (decide (i < j)))
  | .str x, .str y => some (.bl (decide (x.cps.toList < y.cps.toList)))
  | _, _ => none
def oLe : Op2 := fun _ a b => match a, b with
  | .int i, .int j => some (.bl (decide (i ≤ j)))
  | _, _ => none
def oGt : Op2 := fun _ a b => match a, b with
  | .int i, .int j => some (.bl (decide (j < i)))
  | _, _ => none
def oGe : Op2 := fun _ a b => match a, b with
  | .int i, .int j => some (.bl (decide (j ≤ i)))
  | _, _ => none
theorem z_lt [TB] : OpZ X (compareOp .Lt) oLt := by
  intro pins s σ H x y v u Q I rx ry ⟨m, st, a, b, S, ra, rb, P⟩
  unfold oLt at P
  split at P
  · exact op_lt pins s σ H x y v u Q I rx ry ⟨_, _, rep_int ra, rep_int rb, P.here S (.bl _)⟩
  · exact op_lt_str pins s σ H x y v u Q I rx ry ⟨_, _, (rep_str ra).1, (rep_str rb).1, P.here S (.bl _)⟩
  · exact P.elim
theorem z_le [TB] : OpZ X (compareOp .LtE) oLe := by
  intro pins s σ H x y v u Q I rx ry ⟨m, st, a, b, S, ra, rb, P⟩
  unfold oLe at P
  split at P
  · exact op_le pins s σ H x y v u Q I rx ry ⟨_, _, rep_int ra, rep_int rb, P.here S (.bl _)⟩
  · exact P.elim
theorem z_gt [TB] : OpZ X (compareOp .Gt) oGt := by
  intro pins s σ H x y v u Q I rx ry ⟨m, st, a, b, S, ra, rb, P⟩
  unfold oGt at P
  split at P
  · exact op_gt pins s σ H x y v u Q I rx ry ⟨_, _, rep_int ra, rep_int rb, P.here S (.bl _)⟩
  · exact P.elim
theorem z_ge [TB] : OpZ X (compareOp .GtE) oGe := by
  intro pins s σ H x y v u Q I rx ry ⟨m, st, a, b, S, ra, rb, P⟩
  unfold oGe at P
  split at P
  · exact op_ge pins s σ H x y v u Q I rx ry ⟨_, _, rep_int ra, rep_int rb, P.here S (.bl _)⟩
  · exact P.elim
/-- is None; is of two bools -/
def isU : U → U → Option Bool
  | .bl a, .bl b => some (decide (a = b))
  | .non, .non => some true
  | _, .non => some false
  | _, _ => none
def oIs : Op2 := fun _ a b => (isU a b).map .bl
def oIsNot : Op2 := fun _ a b => (isU a b).map fun k => .bl (!k)
theorem isU_non {G : GC} {m : MH} {H : Hp} {a : U} {x : V} (r : Rep G m H a x) : isU a .non = some (decide (x = .non)) := by
  cases r <;> simp [isU]
theorem isU_cases {a b : U} {k : Bool} (h : isU a b = some k) : b = .non ∨ ∃ i j, a = .bl i ∧ b = .bl j ∧ k = decide (i = j) := by
  unfold isU at h
  split at h
  · right; exact ⟨_, _, rfl, rfl, (Option.some.inj h).symm⟩
  · left; rfl
  · left; rfl
  · cases h
theorem z_is [TB] : OpZ X (compareOp .Is) oIs := by
  intro pins s σ H x y v u Q I rx ry ⟨m, st, a, b, S, ra, rb, P⟩
  unfold oIs at P
  cases e : isU a b with
  | none => rw [e] at P; exact P.elim
  | some k =>
    rw [e] at P
    rcases isU_cases e with rfl | ⟨i, j, rfl, rfl, rfl⟩
    · rw [isU_non ra] at e; cases e
      exact op_isN pins s σ H x y v u Q I rx ry ⟨rep_non rb, P.here S (.bl _)⟩
    · exact op_is_bl pins s σ H x y v u Q I rx ry ⟨i, j, rep_bl ra, rep_bl rb, P.here S (.bl _)⟩
theorem z_isnot [TB] : OpZ X (compareOp .IsNot) oIsNot := by
  intro pins s σ H x y v u Q I rx ry ⟨m, st, a, b, S, ra, rb, P⟩
  unfold oIsNot at P
  cases e : isU a b with
  | none => rw [e] at P; exact P.elim
  | some k =>
    rw [e] at P
    rcases isU_cases e with rfl | ⟨i, j, rfl, rfl, rfl⟩
    · rw [isU_non ra] at e; cases e
      exact op_notN pins s σ H x y v u Q I rx ry ⟨rep_non rb, P.here S (.bl _)⟩
    · exact op_isnot_bl pins s σ H x y v u Q I rx ry ⟨i, j, rep_bl ra, rep_bl rb, P.here S (.bl _)⟩
end
end Z

namespace Z
open PySem L2

/-! ### expressions -/
@[simp] def dName (i : Nat) : UEnv → Store → R U := fun ρ st => match ρ[i]? with
  | some (some u) => .ok u st
  | _ => .stuck
@[simp] def dC (u : U) : UEnv → Store → R U := fun _ st => .ok u st
@[simp] def dBin (g : Op2) (fa fb : UEnv → Store → R U) : UEnv → Store → R U := fun ρ st => (fa ρ st).bind fun a st1 => (fb ρ st1).bind fun b st2 => R.ofO st2 (g st2 a b)
@[simp] def dUn (g : Op1) (fa : UEnv → Store → R U) : UEnv → Store → R U := fun ρ st => (fa ρ st).bind fun a st1 => R.ofO st1 (g st1 a)
def asB : U → Option Bool
  | .bl b => some b
  | _ => none
@[simp] theorem asB_bl (b : Bool) : asB (.bl b) = some b := rfl
def truth (st : Store) (u : U) : Option Bool := match deref st u with
  | .non => some false
  | .bl b => some b
  | .int i => some (i != 0)
  | .str x => if x.length ≤ 16777216 then some ((x.length : Int) != 0) else none
  | .tup xs => some !xs.isEmpty
  | .lst xs => some !xs.isEmpty
  | .frz xs => some !xs.isEmpty
  | _ => none
@[simp] def dTest (fa : UEnv → Store → R U) : UEnv → Store → R Bool := fun ρ st => (fa ρ st).bind fun a st1 => R.ofO st1 (asB a)
@[simp] def dTru (fa : UEnv → Store → R U) : UEnv → Store → R Bool := fun ρ st => (fa ρ st).bind fun a st1 => R.ofO st1 (truth st1 a)
@[simp] def tAndZ (fa fb : UEnv → Store → R Bool) : UEnv → Store → R Bool := fun ρ st => (fa ρ st).bind fun a st1 => if a = true then fb ρ st1 else .ok false st1
@[simp] def tOrZ (fa fb : UEnv → Store → R Bool) : UEnv → Store → R Bool := fun ρ st => (fa ρ st).bind fun a st1 => if a = true then .ok true st1 else fb ρ st1
@[simp] def tNotZ (fa : UEnv → Store → R Bool) : UEnv → Store → R Bool := fun ρ st => (fa ρ st).bind fun a st1 => .ok (!a) st1
@[simp] def dAnd (fa fb : UEnv → Store → R U) : UEnv → Store → R U := fun ρ st => (fa ρ st).bind fun a st1 => (R.ofO st1 (truth st1 a)).bind fun k st2 => if k = true then fb ρ st2 else .ok a st2
@[simp] def dOr (fa fb : UEnv → Store → R U) : UEnv → Store → R U := fun ρ st => (fa ρ st).bind fun a st1 => (R.ofO st1 (truth st1 a)).bind fun k st2 => if k = true then .ok a st2 else fb ρ st2
@[simp] def dNot (fa : UEnv → Store → R U) : UEnv → Store → R U := fun ρ st => (fa ρ st).bind fun a st1 => (R.ofO st1 (truth st1 a)).bind fun k st2 => .ok (.bl (!k)) st2
@[simp] def dIf (c : UEnv → Store → R Bool) (fa fb : UEnv → Store → R U) : UEnv → Store → R U := fun ρ st => (c ρ st).bind fun k st1 => if k = true then fa ρ st1 else fb ρ st1
@[simp] def dChain (g g' : Op2) (fa fb fc : UEnv → Store → R U) : UEnv → Store → R U := fun ρ st => (fa ρ st).bind fun a st1 => (fb ρ st1).bind fun b st2 => (R.ofO st2 (g st2 a b)).bind fun z st3 =>
  (R.ofO st3 (asB z)).bind fun k st4 => if k = true then (fc ρ st4).bind fun c st5 => R.ofO st5 (g' st5 b c) else .ok (.bl false) st4
@[simp] def dNil : UEnv → Store → R (List U) := fun _ st => .ok [] st
@[simp] def dCons (fa : UEnv → Store → R U) (fr : UEnv → Store → R (List U)) : UEnv → Store → R (List U) := fun ρ st => (fa ρ st).bind fun a st1 => (fr ρ st1).bind fun as st2 => .ok (a :: as) st2
@[simp] def dTup (f : UEnv → Store → R (List U)) : UEnv → Store → R U := fun ρ st => (f ρ st).bind fun as st1 => if as.length ≤ 16777216 then .ok (.tup as) st1 else .stuck
@[simp] def dLst (f : UEnv → Store → R (List U)) : UEnv → Store → R U := fun ρ st => (f ρ st).bind fun as st1 => if as.length ≤ 16777216 then .ok (.lst as) st1 else .stuck
/-- a list that will be changed -/
@[simp] def dNew (f : UEnv → Store → R (List U)) : UEnv → Store → R U := fun ρ st => (f ρ st).bind fun as st1 => if as.length ≤ 16777216 then .ok (.hdl st1.length) (st1 ++ [.lst as]) else .stuck
abbrev FnZ := List U → Store → R U
@[simp] def dCall (F : FnZ) (f : UEnv → Store → R (List U)) : UEnv → Store → R U := fun ρ st => (f ρ st).bind fun us st1 => F us st1

section
variable {X : Cx} {a b c e : Expr} {es rest : List Expr} {pos : Pos} {fa fb fc : UEnv → Store → R U} {f : UEnv → Store → R (List U)} {ta tb : UEnv → Store → R Bool} {g g' : Op2}

theorem post_ok {α β : Type} {G : GC} {m : MH} {H : Hp} {rel : MH → Hp → α → β → Prop} {EW : XK} {Q : β → Hp → Prop} {u : α} {st : Store} {v : β} (h : Post G m H rel EW Q (.ok u st)) (S : Sim G m H st) (r : rel m H u v) : Q v H := h v m H Le.refl S r

theorem ze_name [TB] {i : Nat} {x : Str} (hN : X.N[i]? = some x := by rfl) (hv : Vis X.env.scope x := by first | exact Or.inl rfl | exact Or.inr (Or.inl rfl) | exact Or.inr (Or.inr rfl)) (hd : (x == ("__debug__" : Str)) = false := by decide)
    (hcd : (x == ("__classdict__" : Str)) = false := by decide) : ZE X (.Name x pos) (dName i) := fun W xg => PE.imp (pe_var hN hv hd hcd) fun σ H Q ⟨ρ, st, m, S, E, P⟩ => by
  unfold dName at P
  split at P
  · rename_i u e
    obtain ⟨v, e1, r⟩ := E.at_ i u e
    exact ⟨v, e1, post_ok P S r⟩
  · exact P.elim
theorem ze_int [TB] {i : Int} {j} : ZE X (.Constant (.int i) j pos) (dC (.int i)) := fun W xg => PE.imp pe_int fun σ H Q ⟨ρ, st, m, S, E, P⟩ => post_ok P S (.int i)
theorem ze_bl [TB] {i : Bool} {j} : ZE X (.Constant (.bool i) j pos) (dC (.bl i)) := fun W xg => PE.imp pe_bl fun σ H Q ⟨ρ, st, m, S, E, P⟩ => post_ok P S (.bl i)
theorem ze_non [TB] {j} : ZE X (.Constant .none j pos) (dC .non) := fun W xg => PE.imp pe_non fun σ H Q ⟨ρ, st, m, S, E, P⟩ => post_ok P S .non
theorem ze_str [TB] {x : Str} {j} (h : PyData.strOk x = true := by decide +kernel) : ZE X (.Constant (.str x) j pos) (dC (.str x)) := fun W xg => PE.imp pe_str fun σ H Q ⟨ρ, st, m, S, E, P⟩ => post_ok P S (.str x h)
/-- a constant of the module -/
def GlobU (G : GC) (x : Str) (u : U) : Prop := ∃ w v, G.mg x = some w ∧ RelV v w ∧ ∀ m H, Rep G m H u v
theorem ze_glob [TB] {x : Str} {u : U} (h : GlobU (gc X) x u) (hg : Gl X x := by rfl) (hd : (x == ("__debug__" : Str)) = false := by decide) : ZE X (.Name x pos) (dC u) := fun W xg => by
  obtain ⟨w, v, h1, h2, h3⟩ := h
  exact PE.imp (pe_glob hg h1 h2 hd) fun σ H Q ⟨ρ, st, m, S, E, P⟩ => post_ok P S (h3 m H)

theorem ze_bin [TB] {op : Operator} (ho : OpZ X (binaryOp op) g) (ha : ZE X a fa) (hb : ZE X b fb) : ZE X (.BinOp a op b pos) (dBin g fa fb) := fun W xg =>
  PE.imp (pe_op ho (ha W xg) (hb W xg)) fun σ H Q ⟨ρ, st, m, S, E, P⟩ =>
    tz_seq (X := X) (k := fun ρ a st1 => (fb ρ st1).bind fun b st2 => R.ofO st2 (g st2 a b)) S E P fun u st1 v m1 H1 S1 E1 r1 l1 P1 => tz_seq (X := X) (k := fun ρ b st2 => R.ofO st2 (g st2 u b)) S1 E1 P1 fun u2 st2 v2 m2 H2 S2 E2 r2 l2 P2 => ⟨m2, st2, u, u2, S2, r1.mono S1 l2, r2, .of P2⟩
theorem cmp_core [TB] {op : CmpOp} (ho : OpZ X (compareOp op) g) {W : WX} (xg : XG X W) (ha : ZE X a fa) (hb : ZE X b fb) {σ : St} {H : Hp} {Q : VK} (h : tZ (gc X) W (dBin g fa fb) σ H Q) : tOp (rZ (gc X) g) (tZ (gc X) W fa) (tZ (gc X) W fb) σ H Q := by
  obtain ⟨ρ, st, m, S, E, P⟩ := h
  exact tz_seq (X := X) (k := fun ρ a st1 => (fb ρ st1).bind fun b st2 => R.ofO st2 (g st2 a b)) S E P fun u st1 v m1 H1 S1 E1 r1 l1 P1 => tz_seq (X := X) (k := fun ρ b st2 => R.ofO st2 (g st2 u b)) S1 E1 P1 fun u2 st2 v2 m2 H2 S2 E2 r2 l2 P2 => ⟨m2, st2, u, u2, S2, r1.mono S1 l2, r2, .of P2⟩
theorem ze_cmp [TB] {op : CmpOp} (ho : OpZ X (compareOp op) g) (ha : ZE X a fa) (hb : ZE X b fb) (hm : behindInMarks op b = false := by first | exact nomark _ | with_unfolding_all rfl) : ZE X (.Compare a [op] [b] pos) (dBin g fa fb) := fun W xg =>
  PE.imp (pe_cmpR ho (ha W xg) (hb W xg) hm) fun σ H Q h => cmp_core ho xg ha hb h
theorem zt_cmp [TB] {op : CmpOp} (ho : OpZ X (compareOp op) g) (ha : ZE X a fa) (hb : ZE X b fb) (hm : behindInMarks op b = false := by first | exact nomark _ | with_unfolding_all rfl) : ZT X (.Compare a [op] [b] pos) (dTest (dBin g fa fb)) := fun W xg =>
  PT.imp (pt_cmpR ho (ha W xg) (hb W xg) hm) fun σ H Q ⟨ρ, st, m, S, E, P⟩ => cmp_core ho xg ha hb (tz_seq (X := X) (k := fun _ a st1 => R.ofO st1 (asB a)) S E P fun u st1 v m1 H1 S1 E1 r1 l1 P1 => by
    cases r1 with
    | bl k => exact ⟨k, rfl, post_ok P1 S1 rfl⟩
    | _ => exact P1.elim)
theorem chain_core [TB] {op op' : CmpOp} (ho : OpZ X (compareOp op) g) (ho' : OpZ X (compareOp op') g') {W : WX} (xg : XG X W) (ha : ZE X a fa) (hb : ZE X b fb) (hc : ZE X c fc) {σ : St} {H : Hp} {Q : VK} (h : tZ (gc X) W (dChain g g' fa fb fc) σ H Q) :
    tChain (rZ (gc X) g) (rZ (gc X) g') (tZ (gc X) W fa) (tZ (gc X) W fb) (tZ (gc X) W fc) σ H Q := by
  obtain ⟨ρ, st, m, S, E, P⟩ := h
  refine tz_seq (X := X) (k := fun ρ a st1 => (fb ρ st1).bind fun b st2 => (R.ofO st2 (g st2 a b)).bind fun z st3 => (R.ofO st3 (asB z)).bind fun k st4 => if k = true then (fc ρ st4).bind fun c st5 => R.ofO st5 (g' st5 b c) else .ok (.bl false) st4) S E P fun u st1 v m1 H1 S1 E1 r1 l1 P1 => ?_
  refine tz_seq (X := X) (k := fun ρ b st2 => (R.ofO st2 (g st2 u b)).bind fun z st3 => (R.ofO st3 (asB z)).bind fun k st4 => if k = true then (fc ρ st4).bind fun c st5 => R.ofO st5 (g' st5 b c) else .ok (.bl false) st4) S1 E1 P1 fun u2 st2 v2 m2 H2 S2 E2 r2 l2 P2 => ?_
  refine ⟨m2, st2, u, u2, S2, r1.mono S1 l2, r2, ?_⟩
  cases e : g st2 u u2 with
  | none => rw [e] at P2; exact P2.elim
  | some z =>
    rw [e] at P2
    intro v3 m3 H3 l3 S3 r3
    have P3 := Post.mono l3 P2
    cases r3 with
    | bl k =>
      refine ⟨k, rfl, ?_⟩
      cases k with
      | false => exact post_ok P3 S3 (.bl false)
      | true =>
        show tZ (gc X) W fc σ H3 _
        have E3 := E2.mono S2 l3
        refine tz_seq (X := X) (k := fun _ c st5 => R.ofO st5 (g' st5 u2 c)) S3 E3 P3 fun u4 st4 v4 m4 H4 S4 E4 r4 l4 P4 => ⟨m4, st4, u2, u4, S4, r2.mono S2 (l3.trans l4), r4, .of P4⟩
    | _ => exact P3.elim
theorem ze_chain [TB] {op op' : CmpOp} (ho : OpZ X (compareOp op) g) (ho' : OpZ X (compareOp op') g') (ha : ZE X a fa) (hb : ZE X b fb) (hc : ZE X c fc) (hm : lastMarks [op, op'] [b, c] = false := by with_unfolding_all rfl) : ZE X (.Compare a [op, op'] [b, c] pos) (dChain g g' fa fb fc) := fun W xg =>
  PE.imp (pe_chain ho ho' (ha W xg) (hb W xg) (hc W xg) hm) fun σ H Q h => chain_core ho ho' xg ha hb hc h
theorem zt_chain [TB] {op op' : CmpOp} (ho : OpZ X (compareOp op) g) (ho' : OpZ X (compareOp op') g') (ha : ZE X a fa) (hb : ZE X b fb) (hc : ZE X c fc) (hm : lastMarks [op, op'] [b, c] = false := by with_unfolding_all rfl) : ZT X (.Compare a [op, op'] [b, c] pos) (dTest (dChain g g' fa fb fc)) := fun W xg =>
  PT.imp (pt_chain ho ho' (ha W xg) (hb W xg) (hc W xg) hm) fun σ H Q ⟨ρ, st, m, S, E, P⟩ => chain_core ho ho' xg ha hb hc (tz_seq (X := X) (k := fun _ a st1 => R.ofO st1 (asB a)) S E P fun u st1 v m1 H1 S1 E1 r1 l1 P1 => by
    cases r1 with
    | bl k => exact ⟨k, rfl, post_ok P1 S1 rfl⟩
    | _ => exact P1.elim)

/-! ### truth -/
theorem rep_truth {G : GC} {m : MH} {H : Hp} {st : Store} {u : U} {v : V} {k : Bool} {K : PySem.W.Frag} (S : Sim G m H st) (r : Rep G m H u v) (h : truth st u = some k) (hK : G.K = K) : TruV K v H k := by
  have lnil : ∀ {xs : List U} {vs : List V}, Reps G m H xs vs → (!xs.isEmpty) = !vs.isEmpty := fun r => by cases r <;> rfl
  unfold truth at h
  split at h
  · rename_i e; rw [deref_non e] at r; cases r; exact (Option.some.inj h).symm
  · rename_i e; rw [deref_bl e] at r; cases r; exact (Option.some.inj h).symm
  · rename_i e; rw [deref_int e] at r; cases r; exact (Option.some.inj h).symm
  · rename_i e
    rw [deref_str e] at r
    split at h
    · rename_i hl
      cases r
      exact ⟨by rw [line_eq]; exact hl, (Option.some.inj h).symm⟩
    · cases h
  · rename_i e
    rw [deref_tup e] at r
    obtain ⟨a, vs, rfl, h1, r1⟩ := rep_tup (K := K) r hK
    exact .inr (.inl ⟨vs, h1, by rw [← lnil r1]; exact (Option.some.inj h).symm⟩)
  · rename_i e
    obtain ⟨a, vs, rfl, h1, r1⟩ := rep_seqL (K := K) S r (.inl e) hK
    exact .inl ⟨vs, h1, by rw [← lnil r1]; exact (Option.some.inj h).symm⟩
  · rename_i e
    rw [deref_frz e] at r
    obtain ⟨a, vs, rfl, h1, r1⟩ := rep_seqL (K := K) (st := st) S r (.inr rfl) hK
    exact .inl ⟨vs, h1, by rw [← lnil r1]; exact (Option.some.inj h).symm⟩
  · cases h
theorem zt_truth [TB] (ha : ZE X a fa) (he : ∀ whole, isTrue a X.env whole = (do let v ← whole; standAt a.pos; holding [v] (truthy v)) := by intro _; rfl) : ZT X a (dTru fa) := fun W xg =>
  PT.imp (pt_truth (ha W xg) he) fun σ H Q ⟨ρ, st, m, S, E, P⟩ => tz_seq (X := X) (k := fun _ a st1 => R.ofO st1 (truth st1 a)) S E P fun u st1 v m1 H1 S1 E1 r1 l1 P1 => by
    cases e : truth st1 u with
    | none => rw [e] at P1; exact P1.elim
    | some k =>
      rw [e] at P1
      exact ⟨k, rep_truth S1 r1 e rfl, post_ok P1 S1 rfl⟩
theorem ze_or [TB] (ha : ZE X a fa) (hb : ZE X (.BoolOp .Or (b :: rest) pos) fb) : ZE X (.BoolOp .Or (a :: b :: rest) pos) (dOr fa fb) := fun W xg =>
  PE.imp (pe_orT (ha W xg) (hb W xg)) fun σ H Q ⟨ρ, st, m, S, E, P⟩ => tz_seq (X := X) (k := fun ρ a st1 => (R.ofO st1 (truth st1 a)).bind fun k st2 => if k = true then .ok a st2 else fb ρ st2) S E P fun u st1 v m1 H1 S1 E1 r1 l1 P1 => by
    cases e : truth st1 u with
    | none => rw [e] at P1; exact P1.elim
    | some k =>
      rw [e] at P1
      refine ⟨k, rep_truth S1 r1 e rfl, ?_⟩
      cases k with
      | true => exact post_ok P1 S1 r1
      | false => exact ⟨ρ, st1, m1, S1, E1, P1⟩
theorem ze_and [TB] (ha : ZE X a fa) (hb : ZE X (.BoolOp .And (b :: rest) pos) fb) : ZE X (.BoolOp .And (a :: b :: rest) pos) (dAnd fa fb) := fun W xg =>
  PE.imp (pe_andT (ha W xg) (hb W xg)) fun σ H Q ⟨ρ, st, m, S, E, P⟩ => tz_seq (X := X) (k := fun ρ a st1 => (R.ofO st1 (truth st1 a)).bind fun k st2 => if k = true then fb ρ st2 else .ok a st2) S E P fun u st1 v m1 H1 S1 E1 r1 l1 P1 => by
    cases e : truth st1 u with
    | none => rw [e] at P1; exact P1.elim
    | some k =>
      rw [e] at P1
      refine ⟨k, rep_truth S1 r1 e rfl, ?_⟩
      cases k with
      | false => exact post_ok P1 S1 r1
      | true => exact ⟨ρ, st1, m1, S1, E1, P1⟩
theorem ze_one [TB] {op} (ha : ZE X a fa) : ZE X (.BoolOp op [a] pos) fa := fun W xg => pe_one (ha W xg)
theorem ze_not [TB] (ha : ZE X a fa) : ZE X (.UnaryOp .Not a pos) (dNot fa) := fun W xg =>
  PE.imp (pe_notT (ha W xg)) fun σ H Q ⟨ρ, st, m, S, E, P⟩ => tz_seq (X := X) (k := fun _ a st1 => (R.ofO st1 (truth st1 a)).bind fun k st2 => (R.ok (U.bl (!k)) st2 : R U)) S E P fun u st1 v m1 H1 S1 E1 r1 l1 P1 => by
    cases e : truth st1 u with
    | none => rw [e] at P1; exact P1.elim
    | some k =>
      rw [e] at P1
      exact ⟨k, rep_truth S1 r1 e rfl, post_ok P1 S1 (.bl _)⟩
/-! ### tests -/
def ZW [TB] (X : Cx) (e : Expr) (f : UEnv → Store → R Bool) : Prop := ∀ W, XG X W → PW X e (tZT (gc X) W f)
theorem PW.imp {X : Cx} {e : Expr} {t t' : TT} (h : PW X e t) (hi : ∀ σ H Q, t' σ H Q → t σ H Q) : PW X e t' := ⟨fun wh pins s σ H Q I hw => h.run wh pins s σ H Q I (hi σ H Q hw)⟩
theorem ZW.zt [TB] {e : Expr} (h : ZW X e ta) : ZT X e ta := fun W xg => (h W xg).pt
theorem tzt_seq [TB] {X : Cx} {W : WX} {fa : UEnv → Store → R Bool} {σ : St} {H : Hp} {α β : Type} {rel2 : MH → Hp → α → β → Prop} {Q2 : β → Hp → Prop} {k : UEnv → Bool → Store → R α} {Q : Bool → Hp → Prop} {ρ : UEnv} {st : Store} {m : MH}
    (S : Sim (gc X) m H st) (E : REnv (gc X) m H ρ σ) (P : Post (gc X) m H rel2 (WE2 W σ) Q2 ((fa ρ st).bind (k ρ)))
    (hq : ∀ u st1 m1 H1, Sim (gc X) m1 H1 st1 → REnv (gc X) m1 H1 ρ σ → Le m H m1 H1 → Post (gc X) m1 H1 rel2 (WE2 W σ) Q2 (k ρ u st1) → Q u H1) : tZT (gc X) W fa σ H Q :=
  ⟨ρ, st, m, S, E, P.bind fun u st1 v m1 H1 _ l S1 r p => by
    have r : u = v := r
    subst r
    exact hq u st1 m1 H1 S1 (E.mono S l) l p⟩
theorem zw_and1 [TB] (ha : ZT X a ta) : ZW X (.BoolOp .And [a] pos) ta := fun W xg => pw_and1 (ha W xg)
theorem zw_or1 [TB] (ha : ZT X a ta) : ZW X (.BoolOp .Or [a] pos) ta := fun W xg => pw_or1 (ha W xg)
theorem zw_and [TB] (ha : ZT X a ta) (hb : ZW X (.BoolOp .And (b :: rest) pos) tb) : ZW X (.BoolOp .And (a :: b :: rest) pos) (tAndZ ta tb) := fun W xg =>
  PW.imp (pw_and (ha W xg) (hb W xg)) fun σ H Q ⟨ρ, st, m, S, E, P⟩ => tzt_seq (X := X) (k := fun ρ a st1 => if a = true then tb ρ st1 else .ok false st1) S E P fun k st1 m1 H1 S1 E1 l1 P1 => by
    cases k with
    | true => exact ⟨ρ, st1, m1, S1, E1, P1⟩
    | false => exact post_ok P1 S1 rfl
theorem zw_or [TB] (ha : ZT X a ta) (hb : ZW X (.BoolOp .Or (b :: rest) pos) tb) : ZW X (.BoolOp .Or (a :: b :: rest) pos) (tOrZ ta tb) := fun W xg =>
  PW.imp (pw_or (ha W xg) (hb W xg)) fun σ H Q ⟨ρ, st, m, S, E, P⟩ => tzt_seq (X := X) (k := fun ρ a st1 => if a = true then .ok true st1 else tb ρ st1) S E P fun k st1 m1 H1 S1 E1 l1 P1 => by
    cases k with
    | false => exact ⟨ρ, st1, m1, S1, E1, P1⟩
    | true => exact post_ok P1 S1 rfl
theorem zt_not [TB] (ha : ZT X a ta) : ZT X (.UnaryOp .Not a pos) (tNotZ ta) := fun W xg =>
  PT.imp (pt_not (ha W xg)) fun σ H Q ⟨ρ, st, m, S, E, P⟩ => tzt_seq (X := X) (k := fun _ a st1 => .ok (!a) st1) S E P fun k st1 m1 H1 S1 E1 l1 P1 => post_ok P1 S1 rfl
theorem ze_if [TB] (hc : ZT X c ta) (ha : ZE X a fa) (hb : ZE X b fb) : ZE X (.IfExp c a b pos) (dIf ta fa fb) := fun W xg =>
  PE.imp (pe_ifExp (hc W xg) (ha W xg) (hb W xg)) fun σ H Q ⟨ρ, st, m, S, E, P⟩ => tzt_seq (X := X) (k := fun ρ k st1 => if k = true then fa ρ st1 else fb ρ st1) S E P fun k st1 m1 H1 S1 E1 l1 P1 => by
    cases k with
    | false => exact ⟨ρ, st1, m1, S1, E1, P1⟩
    | true => exact ⟨ρ, st1, m1, S1, E1, P1⟩

/-! ### arguments, displays -/
structure ZAL [TB] (X : Cx) (es : List Expr) (f : UEnv → Store → R (List U)) : Prop where
  za : ZA X es f
  len : ∀ ρ st us st', f ρ st = .ok us st' → us.length = es.length
theorem za_nil [TB] : ZAL X [] dNil := ⟨fun W xg => PA.imp pa_nil fun σ H Q ⟨ρ, st, m, S, E, P⟩ => post_ok P S .nil, fun ρ st us st' h => by cases h; rfl⟩
theorem za_cons [TB] (ha : ZE X e fa) (hr : ZAL X es f) (hs : starEach (e :: es) X.env = (false, eval e X.env) :: starEach es X.env := by rfl) : ZAL X (e :: es) (dCons fa f) :=
  ⟨fun W xg => PA.imp (pa_cons (ha W xg) (hr.za W xg) hs) fun σ H Q ⟨ρ, st, m, S, E, P⟩ => tz_seq (X := X) (k := fun ρ a st1 => (f ρ st1).bind fun as st2 => .ok (a :: as) st2) S E P fun u st1 v m1 H1 S1 E1 r1 l1 P1 =>
    ⟨ρ, st1, m1, S1, E1, P1.bind fun us st2 vs m2 H2 _ l2 S2 r2 P2 => post_ok P2 S2 (.cons (r1.mono S1 l2) r2)⟩, fun ρ st us st' h => by
    simp only [dCons] at h
    cases e1 : fa ρ st with
    | ok u st1 =>
      rw [e1] at h
      simp only [R.bind_ok] at h
      cases e2 : f ρ st1 with
      | ok us2 st2 =>
        rw [e2] at h
        simp only [R.bind_ok] at h
        cases h
        simp [hr.len _ _ _ _ e2]
      | exc _ _ => rw [e2] at h; cases h
      | stuck => rw [e2] at h; cases h
    | exc _ _ => rw [e1] at h; cases h
    | stuck => rw [e1] at h; cases h⟩
theorem ze_tup [TB] {k} (h : ZAL X es f) : ZE X (.Tuple es k pos) (dTup f) := fun W xg =>
  PE.imp (pe_tup (h.za W xg)) fun σ H Q ⟨ρ, st, m, S, E, P⟩ => ⟨ρ, st, m, S, E, P.bind fun us st1 vs m1 H1 _ l S1 r p => by
    split at p
    · rename_i hl
      exact ⟨by rw [line_eq, ← r.length]; exact hl, fun q hq => p _ m1 _ (le_new hq) (S1.new hq) (.tup upd_same (S1.off hq) (r.mono S1 (le_new hq)))⟩
    · exact p.elim⟩
theorem ze_lst [TB] (h : ZAL X es f) : ZE X (.List es pos) (dLst f) := fun W xg =>
  PE.imp (pe_lst (h.za W xg)) fun σ H Q ⟨ρ, st, m, S, E, P⟩ => ⟨ρ, st, m, S, E, P.bind fun us st1 vs m1 H1 _ l S1 r p => by
    split at p
    · rename_i hl
      exact ⟨by rw [line_eq, ← r.length]; exact hl, fun q hq => p _ m1 _ (le_new hq) (S1.new hq) (.lst upd_same (S1.off hq) (r.mono S1 (le_new hq)))⟩
    · exact p.elim⟩
theorem ze_new [TB] (h : ZAL X es f) : ZE X (.List es pos) (dNew f) := fun W xg =>
  PE.imp (pe_lst (h.za W xg)) fun σ H Q ⟨ρ, st, m, S, E, P⟩ => ⟨ρ, st, m, S, E, P.bind fun us st1 vs m1 H1 _ l S1 r p => by
    split at p
    · rename_i hl
      refine ⟨by rw [line_eq, ← r.length]; exact hl, fun q hq => p _ (mput m1 st1.length q) _ (le_alloc S1 hq) (S1.alloc hq ⟨vs, upd_same, r.mono S1 (le_alloc S1 hq)⟩) (.hdl ?_)⟩
      exact if_pos rfl
    · exact p.elim⟩

/-! ### defs -/
def spZ (G : GC) (n : Nat) (F : FnZ) : Sp := fun vs H Q E => ∃ us st m, vs.length = n ∧ Sim G m H st ∧ Reps G m H us vs ∧ Post G m H (Rep G) E Q (F us st)
structure CalZ [TB] (P : Program) (w : World) (K : PySem.W.Frag) (mg : Str → Option Value) (base : Heap) (k : Nat) (x : Str) (n : Nat) (F : FnZ) : Prop where
  ex : ∃ (f : Addr) (fd : FuncData) (ps : List Str), FnOk P w K mg base (L2.CX P w) k f fd ps (spZ ⟨K, mg, TB.T⟩ n F) ∧ mg x = some (.ref f) ∧ PySem.W.keepIn K (.ref f) = true ∧ Binds K fd ps []
theorem CalZ.mono [TB] {P : Program} {w : World} {K : PySem.W.Frag} {mg : Str → Option Value} {base : Heap} {j k : Nat} {x : Str} {n : Nat} {F : FnZ} (c : CalZ P w K mg base j x n F) (h : j ≤ k) : CalZ P w K mg base k x n F := by
  obtain ⟨f, fd, ps, h1, h2, h3, h4⟩ := c.ex
  exact ⟨f, fd, ps, h1.mono h, h2, h3, h4⟩
theorem ze_call [TB] {k j n : Nat} {x : Str} {F : FnZ} {p : Pos} (cal : CalZ X.prog X.w X.K X.mg X.base k x n F) (hr : Room j X.A) (ha : ZAL X (e :: es) f) (hk : k ≤ j := by decide) (hn : (e :: es).length = n := by rfl) (hg : Gl X x := by rfl)
    (hdb : (x == ("__debug__" : Str)) = false := by decide) (he : starEach (e :: es) X.env = (false, eval e X.env) :: starEach es X.env := by rfl) (hpl : (backTo pos (starEach es X.env)).any (·.1) = false := by rfl) :
    ZE X (.Call (.Name x p) (e :: es) [] pos) (dCall F f) := fun W xg => by
  obtain ⟨fa, fd, ps, h1, h2, h3, h4⟩ := cal.ex
  refine PE.imp (pe_callS (E := WE W) h1 (hr.mono hk) hg h2 h3 h4 (passAt xg.tk) (ha.za W xg) hdb he hpl) fun σ H Q ⟨ρ, st, m, S, E, P⟩ => ?_
  refine ⟨ρ, st, m, S, E, P.bind fun us st1 vs m1 H1 e1 l S1 r p => ⟨us, st1, m1, ?_, S1, r, p⟩⟩
  rw [← r.length, ha.len _ _ _ _ e1, hn]
theorem pe_callS0 {CX : CXT} {k : Nat} {f : Addr} {fd : FuncData} {ps : List Str} {sp : Sp} {E : St → XK} {x : Str} {p pos : Pos} (F : FnOk X.prog X.w X.K X.mg X.base CX k f fd ps sp) (hr : Room k X.A) (hg : Gl X x) (hm : X.mg x = some (.ref f)) (hk : PySem.W.keepIn X.K (.ref f) = true) (hb : Binds X.K fd ps []) (hx : ∀ σ, PassesAt CX X σ (E σ))
    (hdb : (x == ("__debug__" : Str)) = false := by decide) : PE X (.Call (.Name x p) [] [] pos) (tCallS sp E L2.tNil) := by
  refine ⟨fun pins s σ H Q I h => ?_⟩
  refine wpAny_Call_Name_kw (ld_glob I hg hm ?_ hdb)
  exact PySem.W.callWith_K0 I.kIn hk (run_fnS (us := []) F hr hb (hx σ) I .nil h)
theorem ze_call0 [TB] {k j : Nat} {x : Str} {F : FnZ} {p : Pos} (cal : CalZ X.prog X.w X.K X.mg X.base k x 0 F) (hr : Room j X.A) (hk : k ≤ j := by decide) (hg : Gl X x := by rfl)
    (hdb : (x == ("__debug__" : Str)) = false := by decide) : ZE X (.Call (.Name x p) [] [] pos) (dCall F dNil) := fun W xg => by
  obtain ⟨fa, fd, ps, h1, h2, h3, h4⟩ := cal.ex
  refine PE.imp (pe_callS0 (E := WE W) h1 (hr.mono hk) hg h2 h3 h4 (passAt xg.tk) hdb) fun σ H Q ⟨ρ, st, m, S, E, P⟩ => ?_
  exact ⟨[], st, m, rfl, S, .nil, P⟩
end
end Z

namespace Z
open PySem PySem.Spec PyProof.Rows L2

def oAddI : Op2 := fun _ a b => match a, b with
  | .int i, .int j => some (.int (i + j))
  | _, _ => none
/-! ### statements -/
@[simp] def sNext : UEnv → Store → R Fl := fun ρ st => .ok (.nx ρ) st
@[simp] def sSeq (f g : UEnv → Store → R Fl) : UEnv → Store → R Fl := fun ρ st => (f ρ st).bind fun r st1 => match r with
  | .nx ρ1 => g ρ1 st1
  | .rt u => .ok (.rt u) st1
  | .bk ρ1 => .ok (.bk ρ1) st1
  | .ct ρ1 => .ok (.ct ρ1) st1
@[simp] def sRet (f : UEnv → Store → R U) : UEnv → Store → R Fl := fun ρ st => (f ρ st).bind fun u st1 => .ok (.rt u) st1
@[simp] def sRetN : UEnv → Store → R Fl := fun _ st => .ok (.rt .non) st
@[simp] def sExpr (f : UEnv → Store → R U) : UEnv → Store → R Fl := fun ρ st => (f ρ st).bind fun _ st1 => .ok (.nx ρ) st1
@[simp] def sIf (c : UEnv → Store → R Bool) (f g : UEnv → Store → R Fl) : UEnv → Store → R Fl := fun ρ st => (c ρ st).bind fun k st1 => if k = true then f ρ st1 else g ρ st1
@[simp] def sSet (i : Nat) (f : UEnv → Store → R U) : UEnv → Store → R Fl := fun ρ st => (f ρ st).bind fun u st1 => .ok (.nx (ρ.set i (some u))) st1
abbrev Asg := U → UEnv → Store → R UEnv
@[simp] def sAsg (f : UEnv → Store → R U) (g : Asg) : UEnv → Store → R Fl := fun ρ st => (f ρ st).bind fun u st1 => (g u ρ st1).bind fun ρ1 st2 => .ok (.nx ρ1) st2
@[simp] def sAug (i : Nat) (g : Op2) (f : UEnv → Store → R U) : UEnv → Store → R Fl := fun ρ st => (dName i ρ st).bind fun a st0 => (f ρ st0).bind fun u st1 => (R.ofO st1 (g st1 a u)).bind fun z st2 => .ok (.nx (ρ.set i (some z))) st2
@[simp] def sPass : UEnv → Store → R Fl := fun ρ st => .ok (.nx ρ) st
@[simp] def sBreak : UEnv → Store → R Fl := fun ρ st => .ok (.bk ρ) st
@[simp] def sCont : UEnv → Store → R Fl := fun ρ st => .ok (.ct ρ) st

theorem PostS.mono {G : GC} {m m' : MH} {H H' : Hp} {W : WX} {D : Ends} {r : R Fl} (l : Le m H m' H') (h : PostS G m H W D r) : PostS G m' H' W D r := by
  cases r with
  | ok fl st => cases fl with
    | nx ρ => exact fun σ m2 H2 l2 => h σ m2 H2 (l.trans l2)
    | bk ρ => exact fun σ m2 H2 l2 => h σ m2 H2 (l.trans l2)
    | ct ρ => exact fun σ m2 H2 l2 => h σ m2 H2 (l.trans l2)
    | rt u => exact fun v m2 H2 l2 => h v m2 H2 (l.trans l2)
  | exc e st => exact fun c d σ m2 H2 l2 => h c d σ m2 H2 (l.trans l2)
  | stuck => exact h
/-- an expression ahead of what follows -/
theorem PostS.bind {α β : Type} {G : GC} {m : MH} {H : Hp} {rel : MH → Hp → α → β → Prop} {W : WX} {D : Ends} {Q : β → Hp → Prop} {r : R α} {k : α → Store → R Fl} {σ : L2.St} (h : PostS G m H W D (r.bind k))
    (hq : ∀ u st1 v m1 H1, r = .ok u st1 → Le m H m1 H1 → Sim G m1 H1 st1 → rel m1 H1 u v → PostS G m1 H1 W D (k u st1) → Q v H1) : Post G m H rel (WE2 W σ) Q r := by
  cases r with
  | ok u st => exact fun v m1 H1 l S rr => hq u st v m1 H1 rfl l S rr (PostS.mono l h)
  | exc e st => exact fun c d m1 H1 l S re => h c d σ m1 H1 l S re
  | stuck => exact h
/-- .. at any slots -/
theorem PostS.bindA {α β : Type} {G : GC} {m : MH} {H : Hp} {rel : MH → Hp → α → β → Prop} {W : WX} {D : Ends} {Q : β → Hp → Prop} {r : R α} {k : α → Store → R Fl} (h : PostS G m H W D (r.bind k))
    (hq : ∀ u st1 v m1 H1, r = .ok u st1 → Le m H m1 H1 → Sim G m1 H1 st1 → rel m1 H1 u v → PostS G m1 H1 W D (k u st1) → Q v H1) : Post G m H rel (fun c d H => ∀ σ, W c d σ H) Q r := by
  cases r with
  | ok u st => exact fun v m1 H1 l S rr => hq u st v m1 H1 rfl l S rr (PostS.mono l h)
  | exc e st => exact fun c d m1 H1 l S re σ => h c d σ m1 H1 l S re
  | stuck => exact h

section
variable {X : Cx} {a b c e : Expr} {s : Stmt} {rest body orelse : List Stmt} {pos : Pos} {fa fb : UEnv → Store → R U} {f g h : UEnv → Store → R Fl} {tc : UEnv → Store → R Bool}
theorem zb_nil [TB] : ZB X [] sNext := fun W xg => PSs.imp pss_nil fun D σ H ⟨ρ, st, m, S, E, P⟩ => P σ m H Le.refl S E
theorem zb_one [TB] (h1 : ZS X s f) : ZB X [s] f := fun W xg => pss_one (h1 W xg)
theorem seq_core {G : GC} {W : WX} {D : Ends} {σ : L2.St} {H : Hp} (hh : tZS G W (sSeq f g) D σ H) : tZS G W f { D with nx := tZS G W g D } σ H := by
  obtain ⟨ρ, st, m, S, E, P⟩ := hh
  refine ⟨ρ, st, m, S, E, ?_⟩
  unfold sSeq at P
  cases e : f ρ st with
  | ok fl st1 =>
    rw [e] at P
    cases fl with
    | nx ρ1 => exact fun σ1 m1 H1 l1 S1 E1 => ⟨ρ1, st1, m1, S1, E1, PostS.mono l1 P⟩
    | rt u => exact P
    | bk ρ1 => exact P
    | ct ρ1 => exact P
  | exc _ _ => rw [e] at P; exact P
  | stuck => rw [e] at P; exact P
theorem zb_cons [TB] (h1 : ZS X s f) (h2 : ZB X rest g) : ZB X (s :: rest) (sSeq f g) := fun W xg => PSs.imp (pss_cons (h1 W xg) (h2 W xg)) fun D σ H hh => seq_core hh
theorem zs_pass [TB] : ZS X (.Pass pos) sPass := fun W xg => PS.imp ps_pass fun D σ H ⟨ρ, st, m, S, E, P⟩ => P σ m H Le.refl S E
theorem zs_break [TB] : ZS X (.Break pos) sBreak := fun W xg => PS.imp ps_break fun D σ H ⟨ρ, st, m, S, E, P⟩ => P σ m H Le.refl S E
theorem zs_cont [TB] : ZS X (.Continue pos) sCont := fun W xg => PS.imp ps_continue fun D σ H ⟨ρ, st, m, S, E, P⟩ => P σ m H Le.refl S E
theorem zs_ret [TB] (he : ZE X e fa) : ZS X (.Return (some e) pos) (sRet fa) := fun W xg => PS.imp (ps_ret (he W xg)) fun D σ H ⟨ρ, st, m, S, E, P⟩ =>
  ⟨ρ, st, m, S, E, PostS.bind (k := fun u st1 => .ok (.rt u) st1) P fun u st1 v m1 H1 _ l S1 r p => p v m1 H1 Le.refl S1 r⟩
theorem zs_retN [TB] : ZS X (.Return none pos) sRetN := fun W xg => PS.imp ps_retN fun D σ H ⟨ρ, st, m, S, E, P⟩ => P .non m H Le.refl S .non
theorem zs_expr [TB] (he : ZE X e fa) (hs : swapsWith e none pos.line X.env = pure false := by rfl) : ZS X (.Expr e pos) (sExpr fa) := fun W xg => PS.imp (ps_expr (he W xg) hs) fun D σ H ⟨ρ, st, m, S, E, P⟩ =>
  ⟨ρ, st, m, S, E, PostS.bind (k := fun u st1 => .ok (.nx ρ) st1) P fun u st1 v m1 H1 _ l S1 r p => p σ m1 H1 Le.refl S1 (E.mono S l)⟩
theorem zs_if [TB] (hc : ZT X c tc) (ha : ZB X body f) (hb : ZB X orelse g) : ZS X (.If c body orelse pos) (sIf tc f g) := fun W xg => PS.imp (ps_if (hc W xg) (ha W xg) (hb W xg)) fun D σ H ⟨ρ, st, m, S, E, P⟩ =>
  ⟨ρ, st, m, S, E, PostS.bind (k := fun k st1 => if k = true then f ρ st1 else g ρ st1) P fun u st1 v m1 H1 _ l S1 r p => by
    have r : u = v := r
    subst r
    cases u with
    | true => exact ⟨ρ, st1, m1, S1, E.mono S l, p⟩
    | false => exact ⟨ρ, st1, m1, S1, E.mono S l, p⟩⟩
theorem zs_set [TB] {i : Nat} {x : Str} {pos' : Pos} (hN : X.N.Nodup) (he : ZE X e fa) (hi : X.N[i]? = some x := by rfl) (hx : Loc X.env.scope x := by first | exact Or.inl rfl | exact Or.inr rfl) (hs : swapsWith e (some (.Name x pos')) pos.line X.env = pure false := by rfl)
    (hf : X.fn x = true ∨ X.env.scope.names.lookup x = some .local := by first | exact .inl rfl | exact .inr rfl) : ZS X (.Assign [.Name x pos'] e pos) (sSet i fa) := fun W xg => PS.imp (ps_set hN hi hx (he W xg) hs hf) fun D σ H ⟨ρ, st, m, S, E, P⟩ =>
  ⟨ρ, st, m, S, E, PostS.bind (k := fun u st1 => .ok (.nx (ρ.set i (some u))) st1) P fun u st1 v m1 H1 _ l S1 r p => p _ m1 H1 Le.refl S1 ((E.mono S l).set i r)⟩

/-! ### targets -/
def tZG (G : GC) (W : WX) (f : Asg) : TG := fun v σ H Q => ∃ ρ st m u, Sim G m H st ∧ REnv G m H ρ σ ∧ Rep G m H u v ∧ Post G m H (REnv G) (fun c d H => ∀ σ, W c d σ H) Q (f u ρ st)
def ZG [TB] (X : Cx) (t : Expr) (f : Asg) : Prop := ∀ W, XG X W → PG X t (tZG (gc X) W f)
theorem PG.imp {X : Cx} {e : Expr} {t t' : TG} (h : PG X e t) (hi : ∀ v σ H Q, t' v σ H Q → t v σ H Q) : PG X e t' := ⟨fun pins s σ H v u Q I r hw => h.run pins s σ H v u Q I r (hi v σ H Q hw)⟩
@[simp] def gNm (i : Nat) : Asg := fun u ρ st => .ok (ρ.set i (some u)) st
theorem zg_name [TB] {i : Nat} {x : Str} (hN : X.N.Nodup) (hi : X.N[i]? = some x := by rfl) (hx : Loc X.env.scope x := by first | exact Or.inl rfl | exact Or.inr rfl) (hf : X.fn x = true ∨ X.env.scope.names.lookup x = some .local := by first | exact .inl rfl | exact .inr rfl) : ZG X (.Name x pos) (gNm i) := fun W xg =>
  PG.imp (pg_name hN hi hx hf) fun v σ H Q ⟨ρ, st, m, u, S, E, r, P⟩ => P _ m H Le.refl S (E.set i r)
/-- names of a tuple -/
abbrev Asgs := List U → UEnv → Store → R UEnv
def tZGs (G : GC) (W : WX) (f : Asgs) : TGs := fun v σ H Q => ∃ ρ st m u, Sim G m H st ∧ REnv G m H ρ σ ∧ Reps G m H u v ∧ Post G m H (REnv G) (fun c d H => ∀ σ, W c d σ H) Q (f u ρ st)
def ZGs [TB] (X : Cx) (t : List Expr) (f : Asgs) : Prop := ∀ W, XG X W → PGs X t (tZGs (gc X) W f)
theorem PGs.imp {X : Cx} {e : List Expr} {t t' : TGs} (h : PGs X e t) (hi : ∀ v σ H Q, t' v σ H Q → t v σ H Q) : PGs X e t' := ⟨fun pins s σ H v u Q I r hw => h.run pins s σ H v u Q I r (hi v σ H Q hw)⟩
@[simp] def gsNil : Asgs := fun us ρ st => match us with
  | [] => .ok ρ st
  | _ => .stuck
@[simp] def gsCons (g : Asg) (gs : Asgs) : Asgs := fun us ρ st => match us with
  | u :: us => (g u ρ st).bind fun ρ1 st1 => gs us ρ1 st1
  | [] => .stuck
theorem zgs_nil [TB] : ZGs X [] gsNil := fun W xg => PGs.imp pgs_nil fun vs σ H Q ⟨ρ, st, m, us, S, E, r, P⟩ => by
  cases r with
  | nil => exact ⟨rfl, P σ m H Le.refl S E⟩
  | cons r t => exact P.elim
theorem zgs_cons [TB] {es : List Expr} {g : Asg} {gs : Asgs} (h1 : ZG X e g) (h2 : ZGs X es gs) (hs : (assignEach (e :: es) X.env).map (·.2) = assign e X.env :: (assignEach es X.env).map (·.2) := by rfl) : ZGs X (e :: es) (gsCons g gs) := fun W xg =>
  PGs.imp (pgs_cons (h1 W xg) (h2 W xg) hs) fun vs σ H Q ⟨ρ, st, m, us, S, E, r, P⟩ => by
    cases r with
    | nil => exact P.elim
    | cons r t => exact ⟨_, _, rfl, ρ, st, m, _, S, E, r, Post.bind P fun ρ1 st1 σ1 m1 H1 _ l S1 E1 p => ⟨ρ1, st1, m1, _, S1, E1, t.mono S l, p⟩⟩
@[simp] def gTp (n : Nat) (gs : Asgs) : Asg := fun u ρ st => match u with
  | .tup us => if us.length = n then gs us ρ st else .stuck
  | _ => .stuck
theorem zg_tup [TB] {es : List Expr} {k n : Nat} {gs : Asgs} (hc : X.calm = true) (h : ZGs X es gs) (hn : (assignEach es X.env).length = n := by rfl) (hst : (assignEach es X.env).findIdx? (·.1) = none := by rfl) : ZG X (.Tuple es k pos) (gTp n gs) := fun W xg =>
  PG.imp (pg_tup hc (h W xg) hn hst) fun v σ H Q ⟨ρ, st, m, u, S, E, r, P⟩ => by
    cases u with
    | tup us =>
      obtain ⟨a, vs, rfl, h1, r1⟩ := rep_tup (K := X.K) r rfl
      simp only [gTp] at P
      split at P
      · rename_i hl
        exact ⟨a, vs, rfl, h1, by rw [← r1.length, hl], ρ, st, m, us, S, E, r1, P⟩
      · exact P.elim
    | _ => exact P.elim
theorem zs_asg [TB] {tg : Expr} {g : Asg} (he : ZE X e fa) (hg : ZG X tg g) (hs : swapsWithSole [tg] e pos.line X.env = pure false := by rfl) (hw : swappedStores [tg] e X.env = pure none := by rfl)
    (h1 : (assignEach [tg] X.env).map (·.2) = [assign tg X.env] := by rfl) : ZS X (.Assign [tg] e pos) (sAsg fa g) := fun W xg => PS.imp (ps_asg (he W xg) (hg W xg) hs hw h1) fun D σ H ⟨ρ, st, m, S, E, P⟩ =>
  ⟨ρ, st, m, S, E, PostS.bind (k := fun u st1 => (g u ρ st1).bind fun ρ1 st2 => .ok (.nx ρ1) st2) P fun u st1 v m1 H1 _ l S1 r p =>
    ⟨ρ, st1, m1, u, S1, E.mono S l, r, PostS.bindA (k := fun ρ1 st2 => .ok (.nx ρ1) st2) p fun ρ1 st2 σ2 m2 H2 _ l2 S2 E2 p2 => p2 σ2 m2 H2 Le.refl S2 E2⟩⟩
/-- o[i] = v of a list that is held -/
def setAt (st : Store) (o i v : U) : Option Store := match o, i with
  | .hdl n, .int k => match st[n]? with
    | some (.lst xs) => (ixN xs.length k).map fun j => st.set n (.lst (xs.set j v))
    | _ => none
  | _, _ => none
@[simp] def gSubL (fo fi : UEnv → Store → R U) : Asg := fun v ρ st => (fo ρ st).bind fun o st1 => (fi ρ st1).bind fun i st2 => match setAt st2 o i v with
  | some st3 => .ok ρ st3
  | none => .stuck
theorem Reps.setAt {G : GC} {m : MH} {H : Hp} {u : U} {v : V} (r : Rep G m H u v) : ∀ {us : List U} {vs : List V} (i : Nat), Reps G m H us vs → Reps G m H (us.set i u) (vs.set i v)
  | _, _, _, .nil => .nil
  | _, _, 0, .cons _ t => .cons r t
  | _, _, i + 1, .cons q t => .cons q (Reps.setAt r i t)
theorem tz_seqA [TB] {W : WX} {fa : UEnv → Store → R U} {σ : L2.St} {H : Hp} {α β : Type} {rel2 : MH → Hp → α → β → Prop} {Q2 : β → Hp → Prop} {k : UEnv → U → Store → R α} {Q : VK} {ρ : UEnv} {st : Store} {m : MH}
    (S : Sim (gc X) m H st) (E : REnv (gc X) m H ρ σ) (P : Post (gc X) m H rel2 (fun c d H => ∀ σ, W c d σ H) Q2 ((fa ρ st).bind (k ρ)))
    (hq : ∀ u st1 v m1 H1, Sim (gc X) m1 H1 st1 → REnv (gc X) m1 H1 ρ σ → Rep (gc X) m1 H1 u v → Le m H m1 H1 → Post (gc X) m1 H1 rel2 (fun c d H => ∀ σ, W c d σ H) Q2 (k ρ u st1) → Q v H1) : tZ (gc X) W fa σ H Q := by
  refine ⟨ρ, st, m, S, E, ?_⟩
  cases e : fa ρ st with
  | ok u st1 => rw [e] at P; exact fun v m1 H1 l S1 r => hq u st1 v m1 H1 S1 (E.mono S l) r l (Post.mono l P)
  | exc x st1 => rw [e] at P; exact fun c d m1 H1 l S1 r => P c d m1 H1 l S1 r σ
  | stuck => rw [e] at P; exact P
theorem zg_sub [TB] {o i : Expr} {fo fi : UEnv → Store → R U} (ho : ZE X o fo) (hi : ZE X i fi) (ha : ∀ v, assign (.Subscript o i pos) X.env v = (do
      let ov ← holding [v] (eval o X.env)
      let iv ← holding [v, ov] (eval i X.env)
      standAt pos
      holding [v, ov, iv] (setItem ov iv v)
      release [v, ov, iv] []) := by intro _; rfl) : ZG X (.Subscript o i pos) (gSubL fo fi) := fun W xg =>
  PG.imp (pg_sub (ho W xg) (hi W xg) set_list ha) fun v σ H Q ⟨ρ, st, m, u, S, E, r, P⟩ => by
    refine tz_seqA (k := fun ρ o st1 => (fi ρ st1).bind fun i st2 => match setAt st2 o i u with
      | some st3 => .ok ρ st3
      | none => .stuck) S E P fun o1 st1 v1 m1 H1 S1 E1 r1 l1 P1 => ?_
    refine tz_seqA (k := fun ρ i st2 => match setAt st2 o1 i u with
      | some st3 => .ok ρ st3
      | none => .stuck) S1 E1 P1 fun o2 st2 v2 m2 H2 S2 E2 r2 l2 P2 => ?_
    cases e : setAt st2 o1 o2 u with
    | none => simp only [e] at P2; exact P2.elim
    | some st3 =>
      simp only [e] at P2
      unfold setAt at e
      split at e
      · rename_i n k
        split at e
        · rename_i xs hx
          rw [Option.map_eq_some_iff] at e
          obtain ⟨j, ej, rfl⟩ := e
          have ro := r1.mono S1 l2
          cases ro with
          | @hdl n a hm =>
            obtain ⟨vs, e3, rv⟩ := S2.cell n _ a hx hm
            refine ⟨a, vs, k, j, rfl, rep_int r2, e3, by rw [← rv.length]; exact ej, ?_⟩
            have ru := (r.mono S l1).mono S1 l2
            exact P2 σ m2 _ (le_write S2 hm) (S2.write hm ⟨_, upd_same, (Reps.setAt ru j rv).mono S2 (le_write S2 hm)⟩) (E2.mono S2 (le_write S2 hm))
        · cases e
      · cases e
theorem zs_aug [TB] {i : Nat} {x : Str} {pos' : Pos} {op : Operator} {g : Op2} (hN : X.N.Nodup) (ho : PIp X op (rZ (gc X) g)) (he : ZE X e fa) (hi : X.N[i]? = some x := by rfl) (hx : Loc X.env.scope x := by first | exact Or.inl rfl | exact Or.inr rfl)
    (hf : X.fn x = true ∨ X.env.scope.names.lookup x = some .local := by first | exact .inl rfl | exact .inr rfl) : ZS X (.AugAssign (.Name x pos') op e pos) (sAug i g fa) := fun W xg => PS.imp (ps_aug hN hi hx (he W xg) ho hf) fun D σ H ⟨ρ, st, m, S, E, P⟩ => by
  unfold sAug dName at P
  cases e1 : ρ[i]? with
  | none => rw [e1] at P; exact P.elim
  | some o =>
    cases o with
    | none => rw [e1] at P; exact P.elim
    | some u0 =>
      rw [e1] at P
      obtain ⟨v0, e2, r0⟩ := E.at_ i u0 e1
      refine ⟨v0, e2, ρ, st, m, S, E, PostS.bind (k := fun u st1 => (R.ofO st1 (g st1 u0 u)).bind fun z st2 => .ok (.nx (ρ.set i (some z))) st2) P fun u st1 v m1 H1 _ l S1 r p => ?_⟩
      refine ⟨m1, st1, u0, u, S1, r0.mono S l, r, ?_⟩
      cases e3 : g st1 u0 u with
      | none => rw [e3] at p; exact p.elim
      | some z =>
        rw [e3] at p
        exact fun v2 m2 H2 l2 S2 r2 => p _ m2 H2 l2 S2 ((E.mono S (l.trans l2)).set i r2)
theorem ip_addZ [TB] : PIp X .Add (rZ (gc X) oAddI) := by
  intro pins s σ H x y v u Q I rx ry ⟨m, st, a, b, S, ra, rb, P⟩
  unfold oAddI at P
  split at P
  · exact ip_add pins s σ H x y v u Q I rx ry ⟨_, _, rep_int ra, rep_int rb, P.here S (.int _)⟩
  · exact P.elim
end
end Z

namespace Z
open PySem PySem.Spec PyProof.Rows L2

/-! ### what is walked -/
structure WalksU (G : GC) (J : It) (us : List U) (m0 : MH) (H0 : Hp) : Prop where
  go : ∀ i m H, i < us.length → Le m0 H0 m H → J.go i H
  stop : ∀ m H, Le m0 H0 m H → J.stop us.length H
  yld : ∀ i m H x H' st u, us[i]? = some u → Le m0 H0 m H → Sim G m H st → J.yld i H x H' → ∃ m', Le m H m' H' ∧ Sim G m' H' st ∧ Rep G m' H' u x
abbrev relI (G : GC) : MH → Hp → List U → It → Prop := fun m H us J => WalksU G J us m H
def tZI (G : GC) (W : WX) (f : UEnv → Store → R (List U)) : TI := fun σ H R => ∃ ρ st m, Sim G m H st ∧ REnv G m H ρ σ ∧ Post G m H (relI G) (WE2 W σ) R (f ρ st)
def ZI [TB] (X : Cx) (tg iter : Expr) (f : UEnv → Store → R (List U)) : Prop := ∀ W, XG X W → PI X tg iter (tZI (gc X) W f)
theorem PI.imp {X : Cx} {tg e : Expr} {t t' : TI} (h : PI X tg e t) (hi : ∀ σ H R, t' σ H R → t σ H R) : PI X tg e t' := ⟨fun pins s σ H R I hw => h.run pins s σ H R I (hi σ H R hw)⟩

def signsOf (x : Str) : List U := x.cps.toList.map fun c => .str ⟨#[c]⟩
def itemsOf : U → Option (List U)
  | .tup xs => some xs
  | .lst xs => some xs
  | .frz xs => some xs
  | .str x => some (signsOf x)
  | _ => none
@[simp] def dIter (f : UEnv → Store → R U) : UEnv → Store → R (List U) := fun ρ st => (f ρ st).bind fun u st1 => R.ofO st1 (itemsOf u)

def iAny (K : PySem.W.Frag) (tl : TE) : TI := fun σ H R => tl σ H fun x H1 => (∃ a, x = .ref a ∧ (∃ xs, SqL K H1 a xs) ∧ R (Itl K a) H1) ∨ (∃ a, x = .ref a ∧ (∃ xs, SqT K H1 a xs) ∧ R (Itt K a) H1) ∨ ∃ z, x = .str z ∧ R (Its z) H1
theorem pi_any {X : Cx} {tg l : Expr} {tl : TE} (hl : PE X l tl) : PI X tg l (iAny X.K tl) := by
  refine ⟨fun pins s σ H R I h => ?_⟩
  refine thn (hl.run pins s σ H _ I h) fun v s1 ⟨x, H1, I1, r1, q1⟩ => ?_
  rcases q1 with ⟨a, e, ⟨xs, hq⟩, q⟩ | ⟨a, e, ⟨xs, hq⟩, q⟩ | ⟨z, e, q⟩
  · subst e
    cases r1
    obtain ⟨its, rv, p, hz⟩ := I1.list hq
    refine wpAny_pyIter_list p.isList ?_
    refine ⟨s1.heap.objs.size, [s1.heap.objs.size], _, _, H1, rfl, I1.kept (t' := s1.toks) fun b o e => Heap.get?_push_of_some _ e, turn_list a _, ⟨_, Heap.get?_push_size _ rfl, rfl, rfl⟩, fun b hb => ?_, q⟩
    have e : b = s1.heap.objs.size := by simpa using hb
    subst e
    exact I1.fpOk (Nat.le_refl _) (I1.hok.fresh (Nat.le_refl _))
  · subst e
    cases r1
    obtain ⟨its, rv, p, hz⟩ := I1.tuple hq
    refine wpAny_pyIter_tuple (show s1.heap.IsTuple a its.toArray from p) ?_
    refine ⟨s1.heap.objs.size, [s1.heap.objs.size], _, _, H1, rfl, I1.kept (t' := s1.toks) fun b o e => Heap.get?_push_of_some _ e, turn_tuple a _, ⟨_, Heap.get?_push_size _ rfl, rfl, rfl⟩, fun b hb => ?_, q⟩
    have e : b = s1.heap.objs.size := by simpa using hb
    subst e
    exact I1.fpOk (Nat.le_refl _) (I1.hok.fresh (Nat.le_refl _))
  · subst e
    obtain ⟨t, rfl⟩ := r1
    cases ha : z.cps.all (· < 128)
    · exact wpAny_pyIter_wide ha (pi_one (tk := s1.toks) I1 _ (turn_str _ z t "str_iterator" (.inr rfl)) ⟨_, Heap.get?_push_size _ rfl, rfl, rfl⟩ q)
    · exact wpAny_pyIter_ascii ha (pi_one (tk := s1.toks) I1 _ (turn_str _ z t "str_ascii_iterator" (.inl rfl)) ⟨_, Heap.get?_push_size _ rfl, rfl, rfl⟩ q)

/-- what is read stays -/
theorem seqL_stay {G : GC} {m0 : MH} {H0 : Hp} {st0 : Store} {u : U} {us : List U} {v : V} (S0 : Sim G m0 H0 st0) (r : Rep G m0 H0 u v) (hu : u = .lst us ∨ u = .frz us) : ∃ a vs, v = .ref a ∧ SqL G.K H0 a vs ∧ Reps G m0 H0 us vs ∧ ∀ m H, Le m0 H0 m H → SqL G.K H a vs := by
  cases r with
  | lst h n r => rcases hu with e | e <;> cases e; exact ⟨_, _, rfl, .inl (.inl h), r, fun m H l => .inl (.inl ((l.stays S0).keep _ _ h n nofun).1)⟩
  | frz h n r => rcases hu with e | e <;> cases e; exact ⟨_, _, rfl, .inl (.inr ⟨_, h⟩), r, fun m H l => .inl (.inr ⟨_, ((l.stays S0).keep _ _ h n nofun).1⟩)⟩
  | frzK h r => rcases hu with e | e <;> cases e; exact ⟨_, _, rfl, .inr h, r, fun m H l => .inr h⟩
  | _ => rcases hu with e | e <;> cases e
theorem seqT_stay {G : GC} {m0 : MH} {H0 : Hp} {st0 : Store} {us : List U} {v : V} (S0 : Sim G m0 H0 st0) (r : Rep G m0 H0 (.tup us) v) : ∃ a vs, v = .ref a ∧ SqT G.K H0 a vs ∧ Reps G m0 H0 us vs ∧ ∀ m H, Le m0 H0 m H → SqT G.K H a vs := by
  cases r with
  | tup h n r => exact ⟨_, _, rfl, .inl (.inl h), r, fun m H l => .inl (.inl ((l.stays S0).keep _ _ h n nofun).1)⟩
  | tupK h r => exact ⟨_, _, rfl, .inr h, r, fun m H l => .inr h⟩
theorem walks_list {G : GC} {m0 : MH} {H0 : Hp} {st0 : Store} {us : List U} {a : Addr} {vs : List V} (S0 : Sim G m0 H0 st0) (r : Reps G m0 H0 us vs) (hs : ∀ m H, Le m0 H0 m H → SqL G.K H a vs) : WalksU G (Itl G.K a) us m0 H0 where
  go := fun i m H hi l => ⟨vs, vs[i]'(by rw [← r.length]; exact hi), hs m H l, by simp [r.length ▸ hi]⟩
  stop := fun m H l => ⟨vs, hs m H l, by rw [← r.length]; exact Nat.le_refl _⟩
  yld := fun i m H x H' st u hu l S y => by
    obtain ⟨e, y⟩ := y
    subst e
    obtain ⟨v, e1, rr⟩ := (r.mono S0 l).getU hu
    have e2 := y vs (hs m _ l)
    rw [e1] at e2; cases e2
    exact ⟨m, Le.refl, S, rr⟩
theorem walks_tup {G : GC} {m0 : MH} {H0 : Hp} {st0 : Store} {us : List U} {a : Addr} {vs : List V} (S0 : Sim G m0 H0 st0) (r : Reps G m0 H0 us vs) (hs : ∀ m H, Le m0 H0 m H → SqT G.K H a vs) : WalksU G (Itt G.K a) us m0 H0 where
  go := fun i m H hi l => ⟨vs, vs[i]'(by rw [← r.length]; exact hi), hs m H l, by simp [r.length ▸ hi]⟩
  stop := fun m H l => ⟨vs, hs m H l, by rw [← r.length]; exact Nat.le_refl _⟩
  yld := fun i m H x H' st u hu l S y => by
    obtain ⟨e, y⟩ := y
    subst e
    obtain ⟨v, e1, rr⟩ := (r.mono S0 l).getU hu
    have e2 := y vs (hs m _ l)
    rw [e1] at e2; cases e2
    exact ⟨m, Le.refl, S, rr⟩
theorem sign_ok {x : Str} {i c : Nat} (h : PyData.strOk x = true) (e : x.cps[i]? = some c) : PyData.strOk ⟨#[c]⟩ = true := by
  unfold PyData.strOk at *
  obtain ⟨hi, e1⟩ := Array.getElem?_eq_some_iff.mp e
  have := Array.all_eq_true.mp h i hi
  rw [e1] at this
  simpa using this
theorem walks_str {G : GC} {m0 : MH} {H0 : Hp} {x : Str} (h : PyData.strOk x = true) : WalksU G (Its x) (signsOf x) m0 H0 where
  go := fun i m H hi l => by
    show i < x.cps.size
    simpa [signsOf] using hi
  stop := fun m H l => by simp [signsOf, Its]
  yld := fun i m H v H' st u hu l S y => by
    obtain ⟨e, c, e1, e2⟩ := y
    subst e e2
    have : u = .str ⟨#[c]⟩ := by
      unfold signsOf at hu
      rw [List.getElem?_map] at hu
      have e3 : x.cps.toList[i]? = some c := by simpa using e1
      rw [e3] at hu
      exact (Option.some.inj hu).symm
    subst this
    exact ⟨m, Le.refl, S, .str _ (sign_ok h e1)⟩
theorem walks_range {G : GC} {m0 : MH} {H0 : Hp} {lo : Int} {n : Nat} : WalksU G (Itr lo n) ((List.range n).map fun (i : Nat) => U.int (lo + (i : Int))) m0 H0 where
  go := fun i m H hi l => by
    show i < n
    simpa using hi
  stop := fun m H l => by simp [Itr]
  yld := fun i m H v H' st u hu l S y => by
    obtain ⟨e, e2⟩ := y
    subst e e2
    rw [List.getElem?_map] at hu
    cases e3 : (List.range n)[i]? with
    | none => rw [e3] at hu; cases hu
    | some j =>
      rw [e3] at hu
      have : j = i := by
        obtain ⟨hi, e4⟩ := List.getElem?_eq_some_iff.mp e3
        simpa using e4.symm
      subst this
      cases hu
      exact ⟨m, Le.refl, S, .int _⟩

section
variable {X : Cx} {tg e e2 : Expr} {fa fb : UEnv → Store → R U} {fl : UEnv → Store → R (List U)}
theorem zi_any [TB] (h : ZE X e fa) : ZI X tg e (dIter fa) := fun W xg => PI.imp (pi_any (h W xg)) fun σ H RR ⟨ρ, st, m, S, E, P⟩ => tz_seq (X := X) (k := fun _ u st1 => R.ofO st1 (itemsOf u)) S E P fun u st1 v m1 H1 S1 E1 r1 l1 P1 => by
  cases u with
  | tup xs =>
    obtain ⟨a, vs, rfl, h1, r2, hs⟩ := seqT_stay S1 r1
    exact .inr (.inl ⟨a, rfl, ⟨vs, h1⟩, post_ok P1 S1 (walks_tup S1 r2 hs)⟩)
  | lst xs =>
    obtain ⟨a, vs, rfl, h1, r2, hs⟩ := seqL_stay S1 r1 (.inl rfl)
    exact .inl ⟨a, rfl, ⟨vs, h1⟩, post_ok P1 S1 (walks_list S1 r2 hs)⟩
  | frz xs =>
    obtain ⟨a, vs, rfl, h1, r2, hs⟩ := seqL_stay S1 r1 (.inr rfl)
    exact .inl ⟨a, rfl, ⟨vs, h1⟩, post_ok P1 S1 (walks_list S1 r2 hs)⟩
  | str x =>
    obtain ⟨rfl, hk⟩ := rep_str r1
    exact .inr (.inr ⟨x, rfl, post_ok P1 S1 (walks_str hk)⟩)
  | _ => exact P1.elim
def rangeU (lo hi : Int) : List U := (List.range (hi - lo).toNat).map fun (i : Nat) => U.int (lo + (i : Int))
def rgOk (i : Int) : Prop := -(2 ^ 62) ≤ i ∧ i < 2 ^ 62
instance (i : Int) : Decidable (rgOk i) := by unfold rgOk; exact inferInstance
@[simp] def dRange1 (f : UEnv → Store → R U) : UEnv → Store → R (List U) := fun ρ st => (f ρ st).bind fun u st1 => match u with
  | .int j => if rgOk j then .ok (rangeU 0 j) st1 else .stuck
  | _ => .stuck
@[simp] def dRange2 (f g : UEnv → Store → R U) : UEnv → Store → R (List U) := fun ρ st => (f ρ st).bind fun u st1 => (g ρ st1).bind fun w st2 => match u, w with
  | .int i, .int j => if rgOk i ∧ rgOk j then .ok (rangeU i j) st2 else .stuck
  | _, _ => .stuck
theorem zi_range1 [TB] {p pos : Pos} (hm : X.mg "range" = none) (h : ZE X e fa) (hg : Gl X "range" := by rfl) (hs : starEach [e] X.env = [(false, eval e X.env)] := by rfl) : ZI X tg (.Call (.Name "range" p) [e] [] pos) (dRange1 fa) := fun W xg =>
  PI.imp (pi_range1 hg hm (pa_cons (h W xg) pa_nil (by rw [hs]; rfl)) hs) fun σ H RR ⟨ρ, st, m, S, E, P⟩ => tz_seq (X := X) (k := fun _ u st1 => match u with
    | .int j => if rgOk j then .ok (rangeU 0 j) st1 else .stuck
    | _ => .stuck) S E P fun u st1 v m1 H1 S1 E1 r1 l1 P1 => by
    cases u with
    | int j =>
      have := rep_int r1; subst this
      simp only at P1
      split at P1
      · rename_i hj
        refine ⟨j, rfl, hj.1, hj.2, post_ok P1 S1 ?_⟩
        have := walks_range (G := gc X) (m0 := m1) (H0 := H1) (lo := 0) (n := j.toNat)
        unfold relI rangeU
        rw [show j - 0 = j by omega]
        exact this
      · exact P1.elim
    | _ => exact P1.elim
theorem zi_range2 [TB] {p pos : Pos} (hm : X.mg "range" = none) (h : ZE X e fa) (h2 : ZE X e2 fb) (hg : Gl X "range" := by rfl) (hs : starEach [e, e2] X.env = [(false, eval e X.env), (false, eval e2 X.env)] := by rfl) (hs2 : starEach [e2] X.env = [(false, eval e2 X.env)] := by rfl) : ZI X tg (.Call (.Name "range" p) [e, e2] [] pos) (dRange2 fa fb) := fun W xg =>
  PI.imp (pi_range2 hg hm (pa_cons (h W xg) (pa_cons (h2 W xg) pa_nil (by rw [hs2]; rfl)) (by rw [hs, hs2])) hs hs2) fun σ H RR ⟨ρ, st, m, S, E, P⟩ => tz_seq (X := X) (k := fun ρ u st1 => (fb ρ st1).bind fun w st2 => match u, w with
    | .int i, .int j => if rgOk i ∧ rgOk j then .ok (rangeU i j) st2 else .stuck
    | _, _ => .stuck) S E P fun u st1 v m1 H1 S1 E1 r1 l1 P1 => tz_seq (X := X) (k := fun ρ w st2 => match u, w with
    | .int i, .int j => if rgOk i ∧ rgOk j then .ok (rangeU i j) st2 else .stuck
    | _, _ => .stuck) S1 E1 P1 fun w st2 v2 m2 H2 S2 E2 r2 l2 P2 => by
    split at P2
    · rename_i i j
      have := rep_int r1; subst this
      have := rep_int r2; subst this
      split at P2
      · rename_i hj
        exact ⟨i, j, rfl, ⟨hj.1.1, hj.1.2, hj.2.1, hj.2.2⟩, post_ok P2 S2 walks_range⟩
      · exact P2.elim
    · exact P2.elim
end

/-! ### for -/
def forU (g : Asg) (f : UEnv → Store → R Fl) : List U → UEnv → Store → R Fl
  | [], ρ, st => .ok (.nx ρ) st
  | x :: xs, ρ, st => (g x ρ st).bind fun ρ1 st1 => (f ρ1 st1).bind fun r st2 => match r with
    | .nx ρ2 => forU g f xs ρ2 st2
    | .ct ρ2 => forU g f xs ρ2 st2
    | .bk ρ2 => .ok (.nx ρ2) st2
    | .rt u => .ok (.rt u) st2
@[simp] def sFor (fi : UEnv → Store → R (List U)) (g : Asg) (f : UEnv → Store → R Fl) : UEnv → Store → R Fl := fun ρ st => (fi ρ st).bind fun us st1 => forU g f us ρ st1
theorem for_core {G : GC} {W : WX} {g : Asg} {f : UEnv → Store → R Fl} {us : List U} {J : It} {D : Ends} {σ : L2.St} {H : Hp} {ρ : UEnv} {st : Store} {m : MH} (Wk : WalksU G J us m H) (S : Sim G m H st) (E : REnv G m H ρ σ) (P : PostS G m H W D (forU g f us ρ st)) :
    ∃ Wf : Nat → Nat → L2.St → Hp → Prop, (∃ k, Wf 0 k σ H) ∧ ∀ i k σ H, Wf i k σ H →
      (J.stop i H ∧ D.nx σ H) ∨ (J.go i H ∧ ∃ N : L2.St → Hp → Prop, (∀ σ' H', N σ' H' → ∃ k', k' < k ∧ Wf (i + 1) k' σ' H') ∧ ∀ x H', J.yld i H x H' → tZG G W g x σ H' fun σ2 H2 => tZS G W f { D with nx := N, ct := N, bk := D.nx } σ2 H2) := by
  let Wf : Nat → Nat → L2.St → Hp → Prop := fun i k σ' H' => k = us.length - i ∧ i ≤ us.length ∧ ∃ ρ' st' m', Le m H m' H' ∧ Sim G m' H' st' ∧ REnv G m' H' ρ' σ' ∧ PostS G m' H' W D (forU g f (us.drop i) ρ' st')
  refine ⟨Wf, ⟨us.length, by simp, Nat.zero_le _, ρ, st, m, Le.refl, S, E, P⟩, ?_⟩
  rintro i k σ1 H1 ⟨rfl, hi, ρ1, st1, m1, l1, S1, E1, P1⟩
  by_cases hlt : i < us.length
  · refine .inr ⟨Wk.go i m1 H1 hlt l1, fun σ' H' => Wf (i + 1) (us.length - (i + 1)) σ' H', fun σ' H' w => ⟨us.length - (i + 1), by omega, w⟩, fun x H' y => ?_⟩
    obtain ⟨m2, l2, S2, r2⟩ := Wk.yld i m1 H1 x H' st1 us[i] (List.getElem?_eq_getElem hlt) l1 S1 y
    rw [List.drop_eq_getElem_cons hlt] at P1
    simp only [forU] at P1
    have P2 := PostS.mono l2 P1
    refine ⟨ρ1, st1, m2, us[i], S2, E1.mono S1 l2, r2, PostS.bindA P2 fun ρ3 st3 σ3 m3 H3 _ l3 S3 E3 P3 => ⟨ρ3, st3, m3, S3, E3, ?_⟩⟩
    have L3 : Le m H m3 H3 := l1.trans (l2.trans l3)
    cases e : f ρ3 st3 with
    | ok r st4 =>
      rw [e] at P3
      cases r with
      | nx ρ4 => exact fun σ4 m4 H4 l4 S4 E4 => ⟨rfl, hlt, ρ4, st4, m4, L3.trans l4, S4, E4, PostS.mono l4 P3⟩
      | ct ρ4 => exact fun σ4 m4 H4 l4 S4 E4 => ⟨rfl, hlt, ρ4, st4, m4, L3.trans l4, S4, E4, PostS.mono l4 P3⟩
      | bk ρ4 => exact P3
      | rt u => exact P3
    | exc x st4 => rw [e] at P3; exact P3
    | stuck => rw [e] at P3; exact P3
  · have e : i = us.length := by omega
    subst e
    rw [List.drop_length] at P1
    exact .inl ⟨Wk.stop m1 H1 l1, P1 σ1 m1 H1 Le.refl S1 E1⟩
theorem zs_for [TB] {X : Cx} {tg iter : Expr} {body : List Stmt} {pos : Pos} {fi : UEnv → Store → R (List U)} {g : Asg} {f : UEnv → Store → R Fl} (hc : X.calm = true) (hi : ZI X tg iter fi) (hg : ZG X tg g) (hb : ZB X body f)
    (hs : ∀ x, foldedSetIterable iter X.env x = pure x := by intro _; rfl) : ZS X (.For tg iter body [] pos) (sFor fi g f) := fun W xg =>
  PS.imp (ps_for xg.po hc (hi W xg) (hg W xg) (hb W xg) hs) fun D σ H ⟨ρ, st, m, S, E, P⟩ =>
    ⟨ρ, st, m, S, E, PostS.bind (k := fun us st1 => forU g f us ρ st1) P fun us st1 J m1 H1 _ l S1 Wk p => for_core Wk S1 (E.mono S l) p⟩

/-! ### while -/
def whU (c : UEnv → Store → R Bool) (f : UEnv → Store → R Fl) : Nat → UEnv → Store → R Fl
  | 0, _, _ => .stuck
  | n + 1, ρ, st => (c ρ st).bind fun k st1 => if k = true then (f ρ st1).bind fun r st2 => match r with
    | .nx ρ2 => whU c f n ρ2 st2
    | .ct ρ2 => whU c f n ρ2 st2
    | .bk ρ2 => .ok (.nx ρ2) st2
    | .rt u => .ok (.rt u) st2
    else .ok (.nx ρ) st1
@[simp] def sWhile (n : Nat) (c : UEnv → Store → R Bool) (f : UEnv → Store → R Fl) : UEnv → Store → R Fl := fun ρ st => whU c f n ρ st
theorem zs_while [TB] {X : Cx} {n : Nat} {c : Expr} {body : List Stmt} {pos : Pos} {tc : UEnv → Store → R Bool} {f : UEnv → Store → R Fl} (hc : ZT X c tc) (hb : ZB X body f) : ZS X (.While c body [] pos) (sWhile n tc f) := fun W xg =>
  PS.imp (ps_while xg.po (hc W xg) (hb W xg)) fun D σ H ⟨ρ, st, m, S, E, P⟩ => by
    let Wf : Nat → L2.St → Hp → Prop := fun k σ' H' => ∃ ρ' st' m', Le m H m' H' ∧ Sim (gc X) m' H' st' ∧ REnv (gc X) m' H' ρ' σ' ∧ PostS (gc X) m' H' W D (whU tc f k ρ' st')
    refine ⟨Wf, ⟨n, ρ, st, m, Le.refl, S, E, P⟩, ?_⟩
    rintro k σ1 H1 ⟨ρ1, st1, m1, l1, S1, E1, P1⟩
    cases k with
    | zero => exact P1.elim
    | succ k =>
      simp only [whU] at P1
      refine ⟨ρ1, st1, m1, S1, E1, PostS.bind P1 fun b st2 b' m2 H2 _ l2 S2 r2 P2 => ?_⟩
      have r2 : b = b' := r2
      subst r2
      cases b with
      | false => exact P2 σ1 m2 H2 Le.refl S2 (E1.mono S1 l2)
      | true =>
        refine ⟨fun σ' H' => Wf k σ' H', fun σ' H' w => ⟨k, Nat.lt_succ_self _, w⟩, ρ1, st2, m2, S2, E1.mono S1 l2, ?_⟩
        simp only [if_true] at P2
        have L2 : Le m H m2 H2 := l1.trans l2
        cases e : f ρ1 st2 with
        | ok r st4 =>
          rw [e] at P2
          cases r with
          | nx ρ4 => exact fun σ4 m4 H4 l4 S4 E4 => ⟨ρ4, st4, m4, L2.trans l4, S4, E4, PostS.mono l4 P2⟩
          | ct ρ4 => exact fun σ4 m4 H4 l4 S4 E4 => ⟨ρ4, st4, m4, L2.trans l4, S4, E4, PostS.mono l4 P2⟩
          | bk ρ4 => exact P2
          | rt u => exact P2
        | exc x st4 => rw [e] at P2; exact P2
        | stuck => rw [e] at P2; exact P2

/-! ### a def by its body -/
def runB (n : Nat) (g : UEnv → Store → R Fl) : FnZ := fun us st => (g (us.map some ++ List.replicate (n - us.length) none) st).bind fun r st' => match r with
  | .rt u => .ok u st'
  | .nx _ => .ok .non st'
  | _ => .stuck
theorem renv_start {G : GC} {m : MH} {H : Hp} {us : List U} {vs : List V} (r : Reps G m H us vs) (N : List Str) (hl : vs.length ≤ N.length) : REnv G m H (us.map some ++ List.replicate (N.length - us.length) none) (L2.start N vs) := by
  have hlen := r.length
  refine ⟨by simp [L2.start, hlen], fun i u e => ?_⟩
  by_cases hi : i < us.length
  · rw [List.getElem?_append_left (by simpa using hi), List.getElem?_map] at e
    cases e2 : us[i]? with
    | none => rw [e2] at e; cases e
    | some w =>
      rw [e2] at e
      cases e
      obtain ⟨v, e3, rr⟩ := r.getU e2
      refine ⟨v, ?_, rr⟩
      unfold L2.start
      rw [List.getElem?_append_left (by simpa using hlen ▸ hi), List.getElem?_map, e3]
      rfl
  · rw [List.getElem?_append_right (by simpa using hi), List.getElem?_replicate] at e
    split at e <;> cases e
theorem fnZ [TB] {P : Program} {w : World} {K : PySem.W.Frag} {mg : Str → Option Value} {base : Heap} {x qual : Str} {st : Stmt} {f : Addr} {fd : FuncData} {N ps : List Str} {k : Nat} {g : UEnv → Store → R Fl} (F : Fun K x qual st f fd) (S : FnScope N ps (defScope st))
    (hb : ∀ (cdv : Value) (A : Around) (outer : List Env) (s : Shared) (H : Hp) (E : XK), Room k (A.deeper (envOfC qual (defScope st) s.heap.objs.size f cdv)) → ZB (cxOf (L2.CX P w) P w K mg base N qual (defScope st) f cdv A outer s H E) (defBody st) g) :
    FnOk P w K mg base (L2.CX P w) (k + 1) f fd ps (spZ ⟨K, mg, TB.T⟩ ps.length (runB N.length g)) := by
  refine F.okX S (fun vs H Q E h => ?_) (fun cdv A outer s H vs Q E hr h => ?_)
  · obtain ⟨us, st', m, hl, _⟩ := h
    exact hl
  · obtain ⟨us, st', m, hl, S', r, Pt⟩ := h
    refine ⟨_, hb cdv A outer s H E hr (fun cls d _ H => E cls d H) ⟨takes_of rfl rfl rfl rfl, passes_of rfl⟩, ?_⟩
    have hpl : ps.length ≤ N.length := by have := congrArg List.length S.pre; rw [List.length_take] at this; omega
    refine ⟨_, st', m, S', renv_start r N (by rw [hl]; exact hpl), ?_⟩
    unfold runB at Pt
    cases e : g (us.map some ++ List.replicate (N.length - us.length) none) st' with
    | ok r1 st1 =>
      rw [e] at Pt
      cases r1 with
      | nx ρ => exact fun σ m1 H1 l S1 E1 => Pt .non m1 H1 l S1 .non
      | rt u => exact Pt
      | bk ρ => exact Pt.elim
      | ct ρ => exact Pt.elim
    | exc x st1 => rw [e] at Pt; exact fun c d σ m1 H1 l S1 r1 => Pt c d m1 H1 l S1 r1
    | stuck => rw [e] at Pt; exact Pt
theorem calZ [TB] {P : Program} {w : World} {K : PySem.W.Frag} {mg : Str → Option Value} {base : Heap} {x : Str} {st : Stmt} {f : Addr} {fd : FuncData} {N ps : List Str} {k n : Nat} {g : UEnv → Store → R Fl} {F : FnZ} (Fn : Fun K x x st f fd) (hm : mg x = some (.ref f)) (bd : Binds K fd ps []) (S : FnScope N ps (defScope st))
    (hb : ∀ (cdv : Value) (A : Around) (outer : List Env) (s : Shared) (H : Hp) (E : XK), Room k (A.deeper (envOfC x (defScope st) s.heap.objs.size f cdv)) → ZB (cxOf (L2.CX P w) P w K mg base N x (defScope st) f cdv A outer s H E) (defBody st) g)
    (hF : F = runB N.length g := by rfl) (hn : ps.length = n := by rfl) : CalZ P w K mg base (k + 1) x n F := by
  subst hF hn
  exact ⟨f, fd, ps, fnZ Fn S hb, hm, Fn.kp, bd⟩
end Z

namespace Z
open PySem PySem.Spec PyProof.Rows L2

/-! ### comprehensions -/
def R.noexc {α : Type} : R α → R α
  | .ok a st => .ok a st
  | _ => .stuck
@[simp] theorem R.noexc_ok {α : Type} (a : α) (st : Store) : (R.ok a st).noexc = .ok a st := rfl
@[simp] theorem R.noexc_exc {α : Type} (e : Ex) (st : Store) : (R.exc e st : R α).noexc = .stuck := rfl
@[simp] theorem R.noexc_stuck {α : Type} : (R.stuck : R α).noexc = .stuck := rfl
abbrev Ct := U → UEnv → Option UEnv
@[simp] def ctName (i : Nat) : Ct := fun u ρ => some (ρ.set i (some u))
@[simp] def ctPair (i j : Nat) : Ct := fun u ρ => match u with
  | .tup [a, b] => some ((ρ.set i (some a)).set j (some b))
  | _ => none
def lcU (g : Ct) (c : UEnv → Store → R Bool) (f : UEnv → Store → R U) : List U → UEnv → Store → R (List U)
  | [], _, st => .ok [] st
  | x :: xs, ρ, st => match g x ρ with
    | some ρ1 => (c ρ1 st).bind fun b st2 => if b = true then (f ρ1 st2).bind fun y st3 => (lcU g c f xs ρ st3).bind fun ys st4 => .ok (y :: ys) st4 else lcU g c f xs ρ st2
    | none => .stuck
def wipeU (ρ : UEnv) : List Nat → UEnv
  | [] => ρ
  | v :: vs => (wipeU ρ vs).set v none
@[simp] def cYes : UEnv → Store → R Bool := fun _ st => .ok true st
@[simp] def dComp (vs : List Nat) (fi : UEnv → Store → R (List U)) (g : Ct) (c : UEnv → Store → R Bool) (f : UEnv → Store → R U) : UEnv → Store → R U := fun ρ st =>
  (fi ρ st).bind fun us st1 => if us.length ≤ 16777216 then ((lcU g c f us (wipeU ρ vs) st1).noexc).bind fun ys st2 => .ok (.lst ys) st2 else .stuck

theorem wipe_get (σ : L2.St) : ∀ (vs : List Nat) (j : Nat), (wipe σ vs)[j]? = if j ∈ vs ∧ j < σ.length then some none else σ[j]?
  | [], j => by simp [wipe]
  | v :: vs, j => by
    unfold wipe
    by_cases q : v = j
    · subst q
      by_cases hj : v < σ.length
      · rw [List.getElem?_set_self (by rw [wipe_length]; exact hj), if_pos ⟨by simp, hj⟩]
      · rw [List.getElem?_eq_none (by rw [List.length_set, wipe_length]; omega), if_neg (fun z => hj z.2), List.getElem?_eq_none (by omega)]
    · rw [List.getElem?_set_ne q, wipe_get σ vs j]
      have : (j ∈ v :: vs) ↔ j ∈ vs := by simp [Ne.symm q]
      simp only [this]
theorem wipe_set {σ : L2.St} {vs : List Nat} {i : Nat} {x : Option V} (h : i ∈ vs) : wipe (σ.set i x) vs = wipe σ vs := by
  apply List.ext_getElem?
  intro j
  rw [wipe_get, wipe_get, List.length_set]
  by_cases q : i = j
  · subst q
    by_cases hl : i < σ.length
    · rw [if_pos ⟨h, hl⟩, if_pos ⟨h, hl⟩]
    · rw [if_neg (fun z => hl z.2), if_neg (fun z => hl z.2), List.getElem?_eq_none (by rw [List.length_set]; omega), List.getElem?_eq_none (by omega)]
  · rw [List.getElem?_set_ne q]
theorem wipe_wipe {σ : L2.St} {vs : List Nat} : wipe (wipe σ vs) vs = wipe σ vs := by
  apply List.ext_getElem?
  intro j
  rw [wipe_get, wipe_get, wipe_length]
  split
  · rfl
  · rfl
theorem renv_wipe {G : GC} {m : MH} {H : Hp} {ρ : UEnv} {σ : L2.St} (E : REnv G m H ρ σ) : ∀ vs, REnv G m H (wipeU ρ vs) (wipe σ vs)
  | [] => E
  | v :: vs => by
    have ih := renv_wipe E vs
    unfold wipeU wipe
    refine ⟨by simpa using ih.len, fun i u e => ?_⟩
    by_cases q : v = i
    · subst q
      by_cases hv : v < (wipeU ρ vs).length
      · rw [List.getElem?_set_self hv] at e; cases e
      · rw [List.getElem?_eq_none (by simpa using hv)] at e; cases e
    · rw [List.getElem?_set_ne q] at e
      obtain ⟨v', e1, r⟩ := ih.at_ i u e
      exact ⟨v', by rw [List.getElem?_set_ne q]; exact e1, r⟩

/-- a comprehension's target -/
def CtOk (G : GC) (g : TG) (ct : Ct) (vs : List Nat) : Prop := ∀ (v : V) (u : U) (σ : L2.St) (H : Hp) (K : L2.St → Hp → Prop) (ρ ρ1 : UEnv) (m : MH), REnv G m H ρ σ → Rep G m H u v → ct u ρ = some ρ1 → (∀ σ2, REnv G m H ρ1 σ2 → wipe σ2 vs = wipe σ vs → K σ2 H) → g v σ H K
theorem ct_name {G : GC} {i : Nat} {vs : List Nat} (h : i ∈ vs) : CtOk G (gName i) (ctName i) vs := fun v u σ H K ρ ρ1 m E r e k => by
  cases e
  exact k _ (E.set i r) (wipe_set h)
theorem ct_pair {G : GC} {i j : Nat} {vs : List Nat} (hi : i ∈ vs) (hj : j ∈ vs) : CtOk G (gTup G.K 2 (gCons (gName i) (gCons (gName j) gNil))) (ctPair i j) vs := fun v u σ H K ρ ρ1 m E r e k => by
  unfold ctPair at e
  split at e
  · rename_i a b
    cases e
    obtain ⟨p, xs, rfl, h1, r1⟩ := rep_tup (K := G.K) r rfl
    cases r1 with
    | cons ra t => cases t with
      | cons rb t => cases t with
        | nil => exact ⟨p, _, rfl, h1, rfl, _, _, rfl, _, _, rfl, rfl, k _ ((E.set i ra).set j rb) (by rw [wipe_set hj, wipe_set hi])⟩
  · cases e

def tZT0 (G : GC) (f : UEnv → Store → R Bool) : TT := tZT G (fun _ _ _ _ => False) f
theorem lc_post {G : GC} {ct : Ct} {c : UEnv → Store → R Bool} {f : UEnv → Store → R U} {us : List U} {J : It} {g : TG} {tt : TT} {te : TE} {vs : List Nat} {σ : L2.St} {H1 : Hp} {m1 : MH} {ρ : UEnv} {st1 : Store} {EW : XK} {Q : VK}
    (hct : CtOk G g ct vs) (htt : ∀ σ H Q, tZT G (fun _ _ _ _ => False) c σ H Q → tt σ H Q) (hte : ∀ σ H Q, tZ G (fun _ _ _ _ => False) f σ H Q → te σ H Q)
    (Wk : WalksU G J us m1 H1) (S1 : Sim G m1 H1 st1) (E : REnv G m1 H1 ρ σ) (hl : us.length ≤ 16777216)
    (P : Post G m1 H1 (Rep G) EW Q (((lcU ct c f us (wipeU ρ vs) st1).noexc).bind fun ys st2 => .ok (.lst ys) st2)) (D : Addr) (hD : H1 D = none) :
    ∃ W : Nat → Nat → Hp → Prop, (∃ m, W 0 m (upd H1 D (.lst []))) ∧ ∀ i m H, W i m H →
      (J.stop i H ∧ Q (.ref D) H) ∨ (J.go i H ∧ ∃ Nx : Hp → Prop, (∀ H', Nx H' → ∃ m', m' < m ∧ W (i + 1) m' H') ∧ ∀ x H', J.yld i H x H' → g x (wipe σ vs) H' fun σ2 H2 => wipe σ2 vs = wipe σ vs ∧ tt σ2 H2 fun b H3 =>
        if b = true then te σ2 H3 fun y H4 => ∃ acc, H4 D = some (.lst acc) ∧ acc.length < sizeLine ∧ Nx (upd H4 D (.lst (acc ++ [y]))) else Nx H3) := by
  have hDo : ¬ m1.own D := S1.off hD
  have hDa : ∀ n, m1.at_ n ≠ some D := fun n e => hDo (S1.own n D e)
  let Wf : Nat → Nat → Hp → Prop := fun i k H' => k = us.length - i ∧ i ≤ us.length ∧ ∃ (st' : Store) (m' : MH) (acc : List U) (ws : List V), Le m1 H1 m' H' ∧ m'.own D ∧ (∀ n, m'.at_ n ≠ some D) ∧ H' D = some (.lst ws) ∧ Sim G m' H' st' ∧ Reps G m' H' acc ws ∧ acc.length ≤ i ∧
    Post G m1 H1 (Rep G) EW Q (((lcU ct c f (us.drop i) (wipeU ρ vs) st').noexc).bind fun ys st2 => .ok (.lst (acc ++ ys)) st2)
  refine ⟨Wf, ⟨us.length, by simp, Nat.zero_le _, st1, ⟨m1.at_, fun a => a = D ∨ m1.own a⟩, [], [], ?_, .inl rfl, hDa, upd_same, ?_, .nil, Nat.zero_le _, P⟩, ?_⟩
  · exact ⟨fun _ _ h => h, fun _ _ h => .inl h, fun _ h => .inr h, fun a h => by
      rcases h with rfl | h
      · exact .inr (.inl hD)
      · exact .inl h, fun a o e _ _ => by rw [upd_ne (ne_of_none e hD)]; exact e, (le_new (m := m1) hD).live⟩
  · have st : Stays m1 H1 ⟨m1.at_, fun a => a = D ∨ m1.own a⟩ (upd H1 D (.lst [])) := ⟨fun _ _ h => h, fun a o e n _ => ⟨by rw [upd_ne (ne_of_none e hD)]; exact e, fun z => by
      rcases z with rfl | z
      · rw [hD] at e; cases e
      · exact n z⟩⟩
    refine ⟨S1.dom, S1.lt, S1.inj, fun n a e => .inr (S1.own n a e), fun a e => ?_, fun n c a e1 e2 => ?_, tabs_new S1.tabs hD⟩
    · rcases e with rfl | e
      · exact ⟨_, upd_same, nofun⟩
      · obtain ⟨o, e1, nt⟩ := S1.live a e
        exact ⟨o, by rw [upd_ne (ne_of_none e1 hD)]; exact e1, nt⟩
    · obtain ⟨o, e3⟩ := S1.atlive e2
      exact (S1.cell n c a e1 e2).stay st (upd_ne (ne_of_none e3 hD))
  · rintro i k H' ⟨rfl, hi, st', m', acc, ws, L, hO, hA, hW, S', Ra, hal, P'⟩
    by_cases hlt : i < us.length
    · refine .inr ⟨Wk.go i m' H' hlt L, fun H2 => Wf (i + 1) (us.length - (i + 1)) H2, fun H2 w => ⟨us.length - (i + 1), by omega, w⟩, fun x H2 y => ?_⟩
      obtain ⟨m2, l2, S2, r2⟩ := Wk.yld i m' H' x H2 st' us[i] (List.getElem?_eq_getElem hlt) L S' y
      have L2 : Le m1 H1 m2 H2 := L.trans l2
      rw [List.drop_eq_getElem_cons hlt] at P'
      simp only [lcU] at P'
      have E2 : REnv G m2 H2 (wipeU ρ vs) (wipe σ vs) := (renv_wipe E vs).mono S1 L2
      cases e0 : ct us[i] (wipeU ρ vs) with
      | none => simp only [e0] at P'; exact P'.elim
      | some ρ1 =>
        simp only [e0] at P'
        refine hct x us[i] _ H2 _ _ ρ1 m2 E2 r2 e0 fun σ2 E3 hw => ⟨hw.trans wipe_wipe, ?_⟩
        have stayD : ∀ {m3 : MH} {H3 : Hp}, Le m' H' m3 H3 → m3.own D ∧ (∀ n, m3.at_ n ≠ some D) ∧ H3 D = some (.lst ws) := fun {m3 H3} l => ⟨l.grow D hO, l.off hW hA, l.keep D _ hW hA nofun⟩
        refine htt _ _ _ ⟨ρ1, st', m2, S2, E3, ?_⟩
        cases e1 : c ρ1 st' with
        | exc _ _ => rw [e1] at P'; exact P'.elim
        | stuck => rw [e1] at P'; exact P'.elim
        | ok b st2 =>
          rw [e1] at P'
          simp only [R.bind_ok] at P'
          intro b' m3 H3 l3 S3 eb
          have eb : b = b' := eb
          subst eb
          have L3 : Le m' H' m3 H3 := l2.trans l3
          cases b with
          | false =>
            rw [if_neg Bool.false_ne_true]
            simp only [Bool.false_eq_true, if_false] at P'
            obtain ⟨d1, d2, d3⟩ := stayD L3
            exact ⟨rfl, hlt, st2, m3, acc, ws, L.trans L3, d1, d2, d3, S3, Ra.mono S' L3, by omega, P'⟩
          | true =>
            rw [if_pos rfl]
            simp only [if_true] at P'
            refine hte _ _ _ ⟨ρ1, st2, m3, S3, E3.mono S2 l3, ?_⟩
            cases e2 : f ρ1 st2 with
            | exc _ _ => rw [e2] at P'; exact P'.elim
            | stuck => rw [e2] at P'; exact P'.elim
            | ok y st3 =>
              rw [e2] at P'
              simp only [R.bind_ok] at P'
              intro v m4 H4 l4 S4 ry
              have L4 : Le m' H' m4 H4 := L3.trans l4
              obtain ⟨d1, d2, d3⟩ := stayD L4
              have LB : Le m1 H1 m4 H4 := L.trans L4
              have hlen := Ra.length
              have sz := line_eq
              refine ⟨ws, d3, by omega, rfl, hlt, st3, m4, acc ++ [y], ws ++ [v], ?_, d1, d2, upd_same, ?_, ?_, by rw [List.length_append, List.length_singleton]; omega, ?_⟩
              · exact ⟨LB.sub, LB.new, LB.grow, LB.fresh, fun a o e n t => by rw [upd_ne (ne_of_none e hD)]; exact LB.keep a o e n t, fun a e => by
                  by_cases q : a = D
                  · subst q; exact (e.no upd_same nofun).elim
                  · unfold Off at e; rw [upd_ne q] at e; exact LB.live a e⟩
              · have st5 : Stays m4 H4 m4 (upd H4 D (.lst (ws ++ [v]))) := ⟨fun _ _ h => h, fun a o e n _ => ⟨by rw [upd_ne (fun q => n (by rw [q]; exact d1))]; exact e, n⟩⟩
                refine ⟨S4.dom, S4.lt, S4.inj, S4.own, fun a e => ?_, fun n c a e1 e2 => ?_, tabs_upd S4.tabs d3⟩
                · by_cases q : a = D
                  · exact ⟨.lst (ws ++ [v]), by rw [q]; exact upd_same, nofun⟩
                  · obtain ⟨o, e1, nt⟩ := S4.live a e
                    exact ⟨o, by rw [upd_ne q]; exact e1, nt⟩
                · exact (S4.cell n c a e1 e2).stay st5 (upd_ne fun q => d2 n (q ▸ e2))
              · have st5 : Stays m4 H4 m4 (upd H4 D (.lst (ws ++ [v]))) := ⟨fun _ _ h => h, fun a o e n _ => ⟨by rw [upd_ne (fun q => n (by rw [q]; exact d1))]; exact e, n⟩⟩
                exact ((Ra.mono S' L4).append (.cons ry .nil)).stay st5
              · cases e3 : lcU ct c f (us.drop (i + 1)) (wipeU ρ vs) st3 with
                | ok ys st4 =>
                  rw [e3] at P'
                  simpa using P'
                | exc _ _ => rw [e3] at P'; exact P'.elim
                | stuck => rw [e3] at P'; exact P'.elim
    · have e : i = us.length := by omega
      subst e
      rw [List.drop_length] at P'
      simp only [lcU, R.noexc_ok, R.bind_ok, List.append_nil] at P'
      refine .inl ⟨Wk.stop m' H' L, P' (.ref D) ⟨m'.at_, fun a => m'.own a ∧ a ≠ D⟩ H' ?_ ?_ ?_⟩
      · exact ⟨L.sub, L.new, fun a h => ⟨L.grow a h, fun q => hDo (q ▸ h)⟩, fun a h => L.fresh a h.1, L.keep, L.live⟩
      · have st5 : Stays m' H' ⟨m'.at_, fun a => m'.own a ∧ a ≠ D⟩ H' := ⟨fun _ _ h => h, fun a o e n _ => ⟨e, fun z => n z.1⟩⟩
        exact ⟨S'.dom, S'.lt, S'.inj, fun n a e => ⟨S'.own n a e, fun q => hA n (q ▸ e)⟩, fun a e => S'.live a e.1, fun n c a e1 e2 => (S'.cell n c a e1 e2).stay st5 rfl, S'.tabs⟩
      · have st5 : Stays m' H' ⟨m'.at_, fun a => m'.own a ∧ a ≠ D⟩ H' := ⟨fun _ _ h => h, fun a o e n _ => ⟨e, fun z => n z.1⟩⟩
        exact .lst hW (fun z => z.2 rfl) (Ra.stay st5)

section
variable {X : Cx} {elt tg iter cnd : Expr} {scope : Scope} {own : List (Str × Nat)} {pos : Pos} {fi : UEnv → Store → R (List U)} {ct : Ct} {c : UEnv → Store → R Bool} {f : UEnv → Store → R U} {g : TG}
theorem xg_blk {s : Shared} {H : Hp} {scope : Scope} {cenv : Env} {fp : List Addr} : XG (X.blk s H scope cenv fp) (fun _ _ _ _ => False) := ⟨takes0, PassesOwn.never⟩
theorem lc_use {G : GC} {W : WX} {σ : L2.St} {H : Hp} {Q : VK} {vs : List Nat} {tt : TT} {te : TE} (hct : CtOk G g ct vs) (htt : ∀ σ H Q, tZT G (fun _ _ _ _ => False) c σ H Q → tt σ H Q) (hte : ∀ σ H Q, tZ G (fun _ _ _ _ => False) f σ H Q → te σ H Q)
    (h : tZ G W (dComp vs fi ct c f) σ H Q) : tLc (tZI G W fi) g tt te vs σ H Q := by
  obtain ⟨ρ, st, m, S, E, P⟩ := h
  refine ⟨ρ, st, m, S, E, Post.bind (γ := U) (k := fun us st1 => if us.length ≤ 16777216 then ((lcU ct c f us (wipeU ρ vs) st1).noexc).bind fun ys st2 => .ok (U.lst ys) st2 else .stuck) P fun us st1 J m1 H1 _ l S1 Wk p => ?_⟩
  intro D hD
  split at p
  · rename_i hl
    exact lc_post hct htt hte Wk S1 (E.mono S l) hl p D hD
  · exact p.elim
theorem ze_lc [TB] (hc : X.calm = true) (hN : X.N.Nodup) (hi : ZI X tg iter fi) (hct : CtOk (gc X) g ct (own.map (·.2)))
    (hg : ∀ (s : Shared) (H : Hp) (C : Addr) (cl : List (Str × Addr)) (fp : List Addr), PG (X.blk s H scope (compEnvC scope cl C X.env) fp) tg g)
    (he : ∀ (s : Shared) (H : Hp) (C : Addr) (cl : List (Str × Addr)) (fp : List Addr), ZE (X.blk s H scope (compEnvC scope cl C X.env) fp) elt f)
    (ok : blkC X.N X.env.scope scope own = true := by decide +kernel) (hs : ∀ x, foldedSetIterable iter X.env x = pure x := by intro _; rfl) : ZE X (.ListComp elt [⟨tg, iter, [], 0⟩] scope pos) (dComp (own.map (·.2)) fi ct cYes f) := fun W xg =>
  PE.imp (pe_lc hc hN (hi W xg) (blkOk_by ok) hg (fun _ _ _ _ _ => pts_nil) (fun s H C cl fp => he s H C cl fp _ xg_blk) hs) fun σ H Q h =>
    lc_use hct (fun σ H Q ⟨ρ, st, m, S, E, P⟩ => post_ok P S rfl) (fun _ _ _ h => h) h
theorem ze_lcIf [TB] (hc : X.calm = true) (hN : X.N.Nodup) (hi : ZI X tg iter fi) (hct : CtOk (gc X) g ct (own.map (·.2)))
    (hg : ∀ (s : Shared) (H : Hp) (C : Addr) (cl : List (Str × Addr)) (fp : List Addr), PG (X.blk s H scope (compEnvC scope cl C X.env) fp) tg g)
    (ht : ∀ (s : Shared) (H : Hp) (C : Addr) (cl : List (Str × Addr)) (fp : List Addr), ZT (X.blk s H scope (compEnvC scope cl C X.env) fp) cnd c)
    (he : ∀ (s : Shared) (H : Hp) (C : Addr) (cl : List (Str × Addr)) (fp : List Addr), ZE (X.blk s H scope (compEnvC scope cl C X.env) fp) elt f)
    (ok : blkC X.N X.env.scope scope own = true := by decide +kernel) (hs : ∀ x, foldedSetIterable iter X.env x = pure x := by intro _; rfl) : ZE X (.ListComp elt [⟨tg, iter, [cnd], 0⟩] scope pos) (dComp (own.map (·.2)) fi ct c f) := fun W xg =>
  PE.imp (pe_lc hc hN (hi W xg) (blkOk_by ok) hg (fun s H C cl fp => pts_one (ht s H C cl fp _ xg_blk)) (fun s H C cl fp => he s H C cl fp _ xg_blk) hs) fun σ H Q h =>
    lc_use hct (fun _ _ _ h => h) (fun _ _ _ h => h) h
/-- name = [..] -/
theorem zs_setLc [TB] {i : Nat} {y : Str} {py : Pos} {spos : Pos} (hc : X.calm = true) (hN : X.N.Nodup) (hi : ZI X tg iter fi) (hct : CtOk (gc X) g ct (own.map (·.2)))
    (hg : ∀ (s : Shared) (H : Hp) (C : Addr) (cl : List (Str × Addr)) (fp : List Addr), PG (X.blk s H scope (compEnvC scope cl C X.env) fp) tg g)
    (he : ∀ (s : Shared) (H : Hp) (C : Addr) (cl : List (Str × Addr)) (fp : List Addr), ZE (X.blk s H scope (compEnvC scope cl C X.env) fp) elt f)
    (hsw : swapsWith (.ListComp elt [⟨tg, iter, [], 0⟩] scope pos) (some (.Name y py)) spos.line X.env = pure true) (hy : X.N[i]? = some y := by rfl) (hyl : X.env.scope.names.lookup y = some .local := by rfl)
    (ok : blkC X.N X.env.scope scope own = true := by decide +kernel) (hs : ∀ x, foldedSetIterable iter X.env x = pure x := by intro _; rfl) : ZS X (.Assign [.Name y py] (.ListComp elt [⟨tg, iter, [], 0⟩] scope pos) spos) (sSet i (dComp (own.map (·.2)) fi ct cYes f)) := fun W xg =>
  PS.imp (ps_setLc hc hN hy hyl hsw (hi W xg) (blkOk_by ok) hg (fun _ _ _ _ _ => pts_nil) (fun s H C cl fp => he s H C cl fp _ xg_blk) hs) fun D σ H ⟨ρ, st, m, S, E, P⟩ =>
    lc_use hct (fun σ H Q ⟨ρ, st, m, S, E, P⟩ => post_ok P S rfl) (fun _ _ _ h => h) ⟨ρ, st, m, S, E, PostS.bind (k := fun u st1 => .ok (.nx (ρ.set i (some u))) st1) P fun u st1 v m1 H1 _ l S1 r p => p _ m1 H1 Le.refl S1 ((E.mono S l).set i r)⟩
theorem zs_setLcIf [TB] {i : Nat} {y : Str} {py : Pos} {spos : Pos} (hc : X.calm = true) (hN : X.N.Nodup) (hi : ZI X tg iter fi) (hct : CtOk (gc X) g ct (own.map (·.2)))
    (hg : ∀ (s : Shared) (H : Hp) (C : Addr) (cl : List (Str × Addr)) (fp : List Addr), PG (X.blk s H scope (compEnvC scope cl C X.env) fp) tg g)
    (ht : ∀ (s : Shared) (H : Hp) (C : Addr) (cl : List (Str × Addr)) (fp : List Addr), ZT (X.blk s H scope (compEnvC scope cl C X.env) fp) cnd c)
    (he : ∀ (s : Shared) (H : Hp) (C : Addr) (cl : List (Str × Addr)) (fp : List Addr), ZE (X.blk s H scope (compEnvC scope cl C X.env) fp) elt f)
    (hsw : swapsWith (.ListComp elt [⟨tg, iter, [cnd], 0⟩] scope pos) (some (.Name y py)) spos.line X.env = pure true) (hy : X.N[i]? = some y := by rfl) (hyl : X.env.scope.names.lookup y = some .local := by rfl)
    (ok : blkC X.N X.env.scope scope own = true := by decide +kernel) (hs : ∀ x, foldedSetIterable iter X.env x = pure x := by intro _; rfl) : ZS X (.Assign [.Name y py] (.ListComp elt [⟨tg, iter, [cnd], 0⟩] scope pos) spos) (sSet i (dComp (own.map (·.2)) fi ct c f)) := fun W xg =>
  PS.imp (ps_setLc hc hN hy hyl hsw (hi W xg) (blkOk_by ok) hg (fun s H C cl fp => pts_one (ht s H C cl fp _ xg_blk)) (fun s H C cl fp => he s H C cl fp _ xg_blk) hs) fun D σ H ⟨ρ, st, m, S, E, P⟩ =>
    lc_use hct (fun _ _ _ h => h) (fun _ _ _ h => h) ⟨ρ, st, m, S, E, PostS.bind (k := fun u st1 => .ok (.nx (ρ.set i (some u))) st1) P fun u st1 v m1 H1 _ l S1 r p => p _ m1 H1 Le.refl S1 ((E.mono S l).set i r)⟩
end
end Z

namespace Z
open PySem PySem.Spec PyProof.Rows L2

/-! ### in -/
def inU (st : Store) (a c : U) : Option Bool := match deref st c with
  | .str z => match a with
    | .str x => match x.cps.toList with
      | [k] => some (decide (k ∈ z.cps.toList))
      | _ => none
    | _ => none
  | .tup xs => match dat (deref st a), dats xs with
    | some d, some ds => if d.depth ≤ 64 then some (ds.any fun y => PyData.eqv y d) else none
    | _, _ => none
  | .lst xs => match dat (deref st a), dats xs with
    | some d, some ds => if d.depth ≤ 64 then some (ds.any fun y => PyData.eqv y d) else none
    | _, _ => none
  | .frz xs => match dat (deref st a), dats xs with
    | some d, some ds => if d.depth ≤ 64 then some (ds.any fun y => PyData.eqv y d) else none
    | _, _ => none
  | _ => none
def oIn : Op2 := fun st a b => (inU st a b).map .bl
def oNotIn : Op2 := fun st a b => (inU st a b).map fun k => .bl (!k)
section
variable {X : Cx}
theorem in_room {d : PyData} {ds : List PyData} {A : Around} (h : d.depth ≤ 64) (hu : A.units + 65 < cLine) : A.units + 1 + min (PyData.depthAll ds) d.depth < cLine := by
  have : min (PyData.depthAll ds) d.depth ≤ 64 := Nat.le_trans (Nat.min_le_right _ _) h
  omega
theorem one_sign {x : Str} {k : Nat} (h : x.cps.toList = [k]) : x = ⟨#[k]⟩ := by
  obtain ⟨a⟩ := x
  have h : a.toList = [k] := h
  have : a = #[k] := by
    apply Array.ext'
    simpa using h
  rw [this]
theorem in_core [TB] {neg : Bool} (hu : X.A.units + 65 < cLine) (pins : List (Addr × Obj)) (s : Shared) (σ : L2.St) (H : Hp) (x y : V) (v u : Value) (Q : VK) (I : Inv X pins σ H s) (rx : RelV x v) (ry : RelV y u) {m : MH} {st : Store} {a b : U} (S : Sim (gc X) m H st) (ra : Rep (gc X) m H a x) (rb : Rep (gc X) m H b y) {k : Bool} (e : inU st a b = some k)
    (q : Q (.bl (if neg then !k else k)) H) : wpAny (model X.prog X.w) X.A (compareOp (if neg then .NotIn else .In) v u) (EP X pins σ Q) X.xe s := by
  unfold inU at e
  split at e
  · rename_i z e1
    rw [deref_str e1] at rb
    split at e
    · rename_i w
      split at e
      · rename_i c e2
        have hx := one_sign e2
        subst hx
        have e3 : decide (c ∈ z.cps.toList) = k := Option.some.inj e
        rw [← e3] at q
        cases neg with
        | false => exact op_in_sign pins s σ H x y v u Q I rx ry ⟨c, z, (rep_str ra).1, (rep_str rb).1, q⟩
        | true => exact op_notIn_sign pins s σ H x y v u Q I rx ry ⟨c, z, (rep_str ra).1, (rep_str rb).1, q⟩
      · cases e
    · cases e
  · rename_i xs e1
    rw [deref_tup e1] at rb
    split at e
    · rename_i d ds e2 e3
      split at e
      · rename_i hd
        have e4 : (ds.any fun y => PyData.eqv y d) = k := Option.some.inj e
        rw [← e4] at q
        obtain ⟨h1, h2⟩ := rep_dpD S ra e2
        obtain ⟨p, vs, rfl, h3, r3⟩ := rep_tup (K := X.K) rb rfl
        obtain ⟨h4, h5⟩ := rep_dps r3 e3
        obtain ⟨as, q1⟩ := Dp.reads I d x v h1 rx
        obtain ⟨bs, q2⟩ := Dp.reads I (.tuple ds) _ u (.tup h3 h4) ry
        cases neg with
        | false => exact SeqAt.in_tuple_reads q2 q1 h5 h2 (in_room hd hu) ⟨.bl _, H, I, rfl, q⟩
        | true => exact SeqAt.notIn_tuple_reads q2 q1 h5 h2 (in_room hd hu) ⟨.bl _, H, I, rfl, q⟩
      · cases e
    · cases e
  · rename_i xs e1
    split at e
    · rename_i d ds e2 e3
      split at e
      · rename_i hd
        have e4 : (ds.any fun y => PyData.eqv y d) = k := Option.some.inj e
        rw [← e4] at q
        obtain ⟨h1, h2⟩ := rep_dpD S ra e2
        obtain ⟨p, vs, rfl, h3, r3⟩ := rep_seqL (K := X.K) S rb (.inl e1) rfl
        obtain ⟨h4, h5⟩ := rep_dps r3 e3
        obtain ⟨as, q1⟩ := Dp.reads I d x v h1 rx
        obtain ⟨bs, q2⟩ := Dp.reads I (.list ds) _ u (.lst h3 h4) ry
        cases neg with
        | false => exact SeqAt.in_list_reads q2 q1 h5 h2 (in_room hd hu) ⟨.bl _, H, I, rfl, q⟩
        | true => exact SeqAt.notIn_list_reads q2 q1 h5 h2 (in_room hd hu) ⟨.bl _, H, I, rfl, q⟩
      · cases e
    · cases e
  · rename_i xs e1
    split at e
    · rename_i d ds e2 e3
      split at e
      · rename_i hd
        have e4 : (ds.any fun y => PyData.eqv y d) = k := Option.some.inj e
        rw [← e4] at q
        obtain ⟨h1, h2⟩ := rep_dpD S ra e2
        obtain ⟨p, vs, rfl, h3, r3⟩ := rep_seqL (K := X.K) S rb (.inr (deref_frz e1)) rfl
        obtain ⟨h4, h5⟩ := rep_dps r3 e3
        obtain ⟨as, q1⟩ := Dp.reads I d x v h1 rx
        obtain ⟨bs, q2⟩ := Dp.reads I (.list ds) _ u (.lst h3 h4) ry
        cases neg with
        | false => exact SeqAt.in_list_reads q2 q1 h5 h2 (in_room hd hu) ⟨.bl _, H, I, rfl, q⟩
        | true => exact SeqAt.notIn_list_reads q2 q1 h5 h2 (in_room hd hu) ⟨.bl _, H, I, rfl, q⟩
      · cases e
    · cases e
  · cases e
theorem z_in [TB] (hu : X.A.units + 65 < cLine) : OpZ X (compareOp .In) oIn := by
  intro pins s σ H x y v u Q I rx ry ⟨m, st, a, b, S, ra, rb, P⟩
  unfold oIn at P
  cases e : inU st a b with
  | none => rw [e] at P; exact P.elim
  | some k => rw [e] at P; exact in_core (neg := false) hu pins s σ H x y v u Q I rx ry S ra rb e (P.here S (.bl _))
theorem z_notin [TB] (hu : X.A.units + 65 < cLine) : OpZ X (compareOp .NotIn) oNotIn := by
  intro pins s σ H x y v u Q I rx ry ⟨m, st, a, b, S, ra, rb, P⟩
  unfold oNotIn at P
  cases e : inU st a b with
  | none => rw [e] at P; exact P.elim
  | some k => rw [e] at P; exact in_core (neg := true) hu pins s σ H x y v u Q I rx ry S ra rb e (P.here S (.bl _))
end

/-! ### types -/
def tyU (st : Store) (u : U) : Option String := match deref st u with
  | .non => some "NoneType"
  | .bl _ => some "bool"
  | .int _ => some "int"
  | .str _ => some "str"
  | .tup _ => some "tuple"
  | .lst _ => some "list"
  | .frz _ => some "list"
  | _ => none
theorem rep_ty {G : GC} {m : MH} {H : Hp} {st : Store} {u : U} {v : V} {t : String} {K : PySem.W.Frag} (S : Sim G m H st) (r : Rep G m H u v) (h : tyU st u = some t) (hK : G.K = K) : TyX K H v (.type t) := by
  subst hK
  unfold tyU at h
  split at h
  · rename_i e; rw [deref_non e] at r; cases r; cases h; exact .base .non
  · rename_i e; rw [deref_bl e] at r; cases r; cases h; exact .base (.bl _)
  · rename_i e; rw [deref_int e] at r; cases r; cases h; exact .base (.int _)
  · rename_i e; rw [deref_str e] at r; cases r; cases h; exact .base (.str _)
  · rename_i e
    rw [deref_tup e] at r
    cases h
    cases r with
    | tup h n r => exact .base (.tup h)
    | tupK h r => obtain ⟨o, its, n, h1, h2, _⟩ := h; exact .kTuple h1 h2
  · rename_i e
    cases h
    obtain ⟨a, vs, rfl, h1, r1⟩ := rep_lst S r e
    exact .base (.lst h1)
  · rename_i e
    rw [deref_frz e] at r
    cases h
    cases r with
    | frz h n r => exact .base (.frz h)
    | frzK h r => obtain ⟨o, its, n, h1, h2, _⟩ := h; exact .kList h1 h2
  · cases h
def isiU (t T : String) : Bool := t == T || (t == "bool" && T == "int")
@[simp] def dIsi (T : String) (fa : UEnv → Store → R U) : UEnv → Store → R U := fun ρ st => (fa ρ st).bind fun u st1 => match tyU st1 u with
  | some t => .ok (.bl (isiU t T)) st1
  | none => .stuck
def tyNames : List String := ["NoneType", "bool", "int", "str", "tuple", "list"]
theorem tyU_mem {st : Store} {u : U} {t : String} (h : tyU st u = some t) : t ∈ tyNames := by
  unfold tyU at h
  split at h <;> first | (cases h; decide) | cases h
def IsiOk (T : String) : Prop := ∀ t ∈ tyNames, kitB t T = some (isiU t T)
theorem isi_int : IsiOk "int" := by unfold IsiOk tyNames; decide +kernel
theorem isi_bool : IsiOk "bool" := by unfold IsiOk tyNames; decide +kernel
theorem isi_str : IsiOk "str" := by unfold IsiOk tyNames; decide +kernel
theorem isi_tuple : IsiOk "tuple" := by unfold IsiOk tyNames; decide +kernel
theorem isi_list : IsiOk "list" := by unfold IsiOk tyNames; decide +kernel
section
variable {X : Cx} {a b c e : Expr} {es : List Expr} {pos p q : Pos} {fa fb fc : UEnv → Store → R U} {f : UEnv → Store → R (List U)}
theorem ze_isi [TB] {T : String} {Ts : Str} (hok : IsiOk T) (hm : X.mg "isinstance" = none) (hT : X.mg Ts = none) (ha : ZE X a fa) (hv : bootBuiltins Ts = some (.type T) := by decide +kernel) (hn : Ts ≠ "__name__" := by decide +kernel) (hd : (Ts == ("__debug__" : Str)) = false := by decide +kernel) (hg : Gl X "isinstance" := by rfl) (hgT : Gl X Ts := by rfl)
    (h1 : starEach [a, .Name Ts q] X.env = (false, eval a X.env) :: starEach [.Name Ts q] X.env := by rfl) (h2 : starEach [.Name Ts q] X.env = (false, eval (.Name Ts q) X.env) :: starEach [] X.env := by rfl) (h3 : (backTo pos (starEach [.Name Ts q] X.env)).any (·.1) = false := by rfl) :
    ZE X (.Call (.Name "isinstance" p) [a, .Name Ts q] [] pos) (dIsi T fa) := fun W xg =>
  PE.imp (pe_callB call_isi hg hm boot_isinstance (pa_cons (ha W xg) (pa_cons (pe_bltn (v := .ty T) hgT hT hv rfl hn hd) pa_nil h2) h1) (by decide) (by decide) h1 h3) fun σ H Q ⟨ρ, st, m, S, E, P⟩ =>
    tz_seq (X := X) (k := fun _ u st1 => match tyU st1 u with
      | some t => .ok (U.bl (isiU t T)) st1
      | none => .stuck) S E P fun u st1 v m1 H1 S1 E1 r1 l1 P1 => by
      cases e : tyU st1 u with
      | none => simp only [e] at P1; exact P1.elim
      | some t =>
        simp only [e] at P1
        exact ⟨v, .ty T, .type t, .type T, isiU t T, rfl, .ty T, rep_ty S1 r1 e rfl, kit_ty (hok t (tyU_mem e)), post_ok P1 S1 (.bl _)⟩

/-! ### subscripts -/
def ixU (st : Store) (u i : U) : Option U := match i with
  | .int k => match deref st u with
    | .tup xs => atI xs k
    | .lst xs => atI xs k
    | .frz xs => atI xs k
    | .str z => if z.length ≤ 16777216 then (atI z.cps.toList k).map fun c => .str ⟨#[c]⟩ else none
    | _ => none
  | _ => none
theorem reps_at {G : GC} {m : MH} {H : Hp} {us : List U} {vs : List V} {k : Int} {u : U} (r : Reps G m H us vs) (e : atI us k = some u) : ∃ v, atI vs k = some v ∧ Rep G m H u v := by
  unfold atI at e ⊢
  rw [← r.length]
  cases h : ixN us.length k with
  | none => rw [h] at e; cases e
  | some j => rw [h] at e; exact r.getU e
theorem ix_all [TB] : IxR X (rZ (gc X) ixU) := by
  intro value slice pins s σ H x y v u Q I rx ry ⟨m, st, a, b, S, ra, rb, P⟩ hs
  unfold ixU at P
  split at P
  · rename_i k
    have hy := rep_int rb
    split at P
    · rename_i xs e
      rw [deref_tup e] at ra
      obtain ⟨p, vs, rfl, h1, r1⟩ := rep_tup (K := X.K) ra rfl
      cases e1 : atI xs k with
      | none => rw [e1] at P; exact P.elim
      | some w =>
        rw [e1] at P
        obtain ⟨z, e2, r2⟩ := reps_at r1 e1
        exact ix_tup value slice pins s σ H _ y v u Q I rx ry ⟨p, vs, k, z, rfl, hy, h1, e2, P.here S r2⟩ hs
    · rename_i xs e
      obtain ⟨p, vs, rfl, h1, r1⟩ := rep_seqL (K := X.K) S ra (.inl e) rfl
      cases e1 : atI xs k with
      | none => rw [e1] at P; exact P.elim
      | some w =>
        rw [e1] at P
        obtain ⟨z, e2, r2⟩ := reps_at r1 e1
        exact ix_list value slice pins s σ H _ y v u Q I rx ry ⟨p, vs, k, z, rfl, hy, h1, e2, P.here S r2⟩ hs
    · rename_i xs e
      obtain ⟨p, vs, rfl, h1, r1⟩ := rep_seqL (K := X.K) S ra (.inr (deref_frz e)) rfl
      cases e1 : atI xs k with
      | none => rw [e1] at P; exact P.elim
      | some w =>
        rw [e1] at P
        obtain ⟨z, e2, r2⟩ := reps_at r1 e1
        exact ix_list value slice pins s σ H _ y v u Q I rx ry ⟨p, vs, k, z, rfl, hy, h1, e2, P.here S r2⟩ hs
    · rename_i z e
      rw [deref_str e] at ra
      split at P
      · rename_i hl
        cases e1 : atI z.cps.toList k with
        | none => rw [e1] at P; exact P.elim
        | some c =>
          rw [e1] at P
          obtain ⟨rfl, hk⟩ := rep_str ra
          refine ix_str value slice pins s σ H _ y v u Q I rx ry ⟨z, k, c, rfl, hy, by rw [line_eq]; exact hl, e1, P.here S (.str _ ?_)⟩ hs
          unfold atI at e1
          cases h : ixN z.cps.toList.length k with
          | none => rw [h] at e1; cases e1
          | some j =>
            rw [h] at e1
            exact sign_ok hk (by simpa using e1)
      · exact P.elim
    · exact P.elim
  · exact P.elim
theorem ze_ix [TB] (ha : ZE X a fa) (hb : ZE X b fb) (hs : PlainIx b := by exact fun _ _ => rfl) : ZE X (.Subscript a b pos) (dBin ixU fa fb) := fun W xg =>
  PE.imp (pe_ix ix_all (ha W xg) (hb W xg) hs) fun σ H Q ⟨ρ, st, m, S, E, P⟩ =>
    tz_seq (X := X) (k := fun ρ a st1 => (fb ρ st1).bind fun b st2 => R.ofO st2 (ixU st2 a b)) S E P fun u st1 v m1 H1 S1 E1 r1 l1 P1 => tz_seq (X := X) (k := fun ρ b st2 => R.ofO st2 (ixU st2 u b)) S1 E1 P1 fun u2 st2 v2 m2 H2 S2 E2 r2 l2 P2 => ⟨m2, st2, u, u2, S2, r1.mono S1 l2, r2, .of P2⟩

/-! ### slices -/
def cutU {α : Type} (xs : List α) (lo hi : Option Int) : List α := (xs.drop (HT.sIx xs.length 0 lo)).take (HT.sIx xs.length xs.length hi - HT.sIx xs.length 0 lo)
def slU (st : Store) (u : U) (lo hi : Option Int) : Option U := match deref st u with
  | .tup xs => some (.tup (cutU xs lo hi))
  | .lst xs => some (.lst (cutU xs lo hi))
  | .frz xs => some (.lst (cutU xs lo hi))
  | .str z => if z.length ≤ 16777216 then some (.str (cutS z lo hi)) else none
  | _ => none
abbrev OptZ := UEnv → Store → R (Option Int)
@[simp] def pNone : OptZ := fun _ st => .ok none st
@[simp] def pSome (f : UEnv → Store → R U) : OptZ := fun ρ st => (f ρ st).bind fun u st1 => match u with
  | .int i => .ok (some i) st1
  | _ => .stuck
@[simp] def dSlice (fa : UEnv → Store → R U) (fl fh : OptZ) : UEnv → Store → R U := fun ρ st => (fa ρ st).bind fun u st1 => (fl ρ st1).bind fun l st2 => (fh ρ st2).bind fun h st3 => R.ofO st3 (slU st3 u l h)
abbrev relO : MH → Hp → Option Int → Option Int → Prop := fun _ _ a b => a = b
def tZO (G : GC) (W : WX) (f : OptZ) : TO := fun σ H Q => ∃ ρ st m, Sim G m H st ∧ REnv G m H ρ σ ∧ Post G m H relO (WE2 W σ) Q (f ρ st)
def ZO [TB] (X : Cx) (e : Option Expr) (f : OptZ) : Prop := ∀ W, XG X W → PO X e (tZO (gc X) W f)
theorem PO.imp {e : Option Expr} {t t' : TO} (h : PO X e t) (hi : ∀ σ H Q, t' σ H Q → t σ H Q) : PO X e t' := ⟨fun pins s σ H Q I hw => h.run pins s σ H Q I (hi σ H Q hw)⟩
theorem zo_none [TB] : ZO X none pNone := fun W xg => PO.imp po_none fun σ H Q ⟨ρ, st, m, S, E, P⟩ => post_ok P S rfl
theorem zo_some [TB] (ha : ZE X a fa) : ZO X (some a) (pSome fa) := fun W xg => PO.imp (po_some (ha W xg)) fun σ H Q ⟨ρ, st, m, S, E, P⟩ => tz_seq (X := X) (k := fun _ u st1 => match u with
  | .int i => .ok (some i) st1
  | _ => .stuck) S E P fun u st1 v m1 H1 S1 E1 r1 l1 P1 => by
    cases u with
    | int i => exact ⟨i, rep_int r1, post_ok P1 S1 rfl⟩
    | _ => exact P1.elim
theorem strOk_cut {z : Str} (h : PyData.strOk z = true) (lo hi : Option Int) : PyData.strOk (cutS z lo hi) = true := by
  have key : ∀ c ∈ (cutS z lo hi).cps.toList, c ∈ z.cps.toList := by
    intro c hc
    unfold cutS at hc
    exact List.mem_of_mem_drop (List.mem_of_mem_take (by simpa using hc))
  unfold PyData.strOk at *
  rw [Array.all_eq_true'] at *
  intro c hc
  exact h c (by have := key c (by simpa using hc); simpa using this)
theorem cutU_whole {α : Type} {xs : List α} {lo hi : Option Int} (h : HT.sIx xs.length 0 lo = 0 ∧ HT.sIx xs.length xs.length hi = xs.length) : cutU xs lo hi = xs := by
  unfold cutU
  rw [h.1, h.2]
  simp
theorem reps_cut {G : GC} {m : MH} {H : Hp} {us : List U} {vs : List V} (r : Reps G m H us vs) (lo hi : Option Int) : Reps G m H (cutU us lo hi) (cutV vs lo hi) := by
  unfold cutU cutV
  rw [r.length]
  exact (r.drop _).take _
theorem sl_all [TB] : SlR X (fun x lo hi H Q => ∃ m st a, Sim (gc X) m H st ∧ Rep (gc X) m H a x ∧ PostO (gc X) m H st Q (slU st a lo hi)) := by
  intro pins s σ H x v vl vu lo hi sl Q I rx hs pl pu ⟨m, st, a, S, ra, P⟩
  unfold slU at P
  split at P
  · rename_i xs e
    rw [deref_tup e] at ra
    have ra' := ra
    obtain ⟨p, vs, rfl, h1, r1⟩ := rep_tup (K := X.K) ra rfl
    refine sl_tupA pins s σ H _ v vl vu lo hi sl Q I rx hs pl pu ⟨p, vs, rfl, h1, fun w => ?_, fun _ => P.tup S (reps_cut r1 lo hi)⟩
    rw [cutU_whole (by rw [r1.length]; exact w)] at P
    exact P.here S ra'
  · rename_i xs e
    obtain ⟨p, vs, rfl, h1, r1⟩ := rep_seqL (K := X.K) S ra (.inl e) rfl
    exact sl_list pins s σ H _ v vl vu lo hi sl Q I rx hs pl pu ⟨p, vs, rfl, h1, P.lst S (reps_cut r1 lo hi)⟩
  · rename_i xs e
    obtain ⟨p, vs, rfl, h1, r1⟩ := rep_seqL (K := X.K) S ra (.inr (deref_frz e)) rfl
    exact sl_list pins s σ H _ v vl vu lo hi sl Q I rx hs pl pu ⟨p, vs, rfl, h1, P.lst S (reps_cut r1 lo hi)⟩
  · rename_i z e
    rw [deref_str e] at ra
    obtain ⟨rfl, hk⟩ := rep_str ra
    split at P
    · rename_i hl
      exact sl_str pins s σ H _ v vl vu lo hi sl Q I rx hs pl pu ⟨z, rfl, by rw [line_eq]; exact hl, P.here S (.str _ (strOk_cut hk lo hi))⟩
    · exact P.elim
  · exact P.elim
theorem ze_slice [TB] {lo hi : Option Expr} {fl fh : OptZ} {p2 : Pos} (ha : ZE X a fa) (hl : ZO X lo fl) (hh : ZO X hi fh) : ZE X (.Subscript a (.Slice lo hi none p2) pos) (dSlice fa fl fh) := fun W xg =>
  PE.imp (pe_slice sl_all (ha W xg) (hl W xg) (hh W xg)) fun σ H Q ⟨ρ, st, m, S, E, P⟩ =>
    tz_seq (X := X) (k := fun ρ u st1 => (fl ρ st1).bind fun l st2 => (fh ρ st2).bind fun h st3 => R.ofO st3 (slU st3 u l h)) S E P fun u st1 v m1 H1 S1 E1 r1 l1 P1 =>
      ⟨ρ, st1, m1, S1, E1, P1.bind fun o st2 o' m2 H2 _ l2 S2 eo P2 => by
        have eo : o = o' := eo
        subst eo
        exact ⟨ρ, st2, m2, S2, E1.mono S1 l2, P2.bind fun o2 st3 o2' m3 H3 _ l3 S3 eo2 P3 => by
          have eo2 : o2 = o2' := eo2
          subst eo2
          exact ⟨m3, st3, u, S3, r1.mono S1 (l2.trans l3), .of P3⟩⟩⟩

/-! ### built-ins of values -/
def rB1 (G : GC) (g : Op1) : List V → Hp → VK → Prop := fun xs H Q => ∃ m st u x, xs = [x] ∧ Sim G m H st ∧ Rep G m H u x ∧ PostO G m H st Q (g st u)
def rB2 (G : GC) (g : Op2) : List V → Hp → VK → Prop := fun xs H Q => ∃ m st u w x y, xs = [x, y] ∧ Sim G m H st ∧ Rep G m H u x ∧ Rep G m H w y ∧ PostO G m H st Q (g st u w)
def BZ1 [TB] (X : Cx) (f : Value) (g : Op1) : Prop := CallR X f (rB1 (gc X) g)
def BZ2 [TB] (X : Cx) (f : Value) (g : Op2) : Prop := CallR X f (rB2 (gc X) g)
theorem ze_b1 [TB] {x : Str} {id : String} {g : Op1} (hc : BZ1 X (.builtin id) g) (hm : X.mg x = none) (ha : ZE X a fa) (hv : bootBuiltins x = some (.builtin id) := by decide +kernel) (hn : x ≠ "__name__" := by decide +kernel) (hd : (x == ("__debug__" : Str)) = false := by decide +kernel) (hg : Gl X x := by rfl)
    (h1 : starEach [a] X.env = (false, eval a X.env) :: starEach [] X.env := by rfl) (h3 : (backTo pos (starEach [] X.env)).any (·.1) = false := by rfl) : ZE X (.Call (.Name x p) [a] [] pos) (dUn g fa) := fun W xg =>
  PE.imp (pe_callB hc hg hm hv (pa_cons (ha W xg) pa_nil h1) hn hd h1 h3) fun σ H Q ⟨ρ, st, m, S, E, P⟩ =>
    tz_seq (X := X) (k := fun _ u st1 => R.ofO st1 (g st1 u)) S E P fun u st1 v m1 H1 S1 E1 r1 l1 P1 => ⟨m1, st1, u, v, rfl, S1, r1, .of P1⟩
theorem ze_ty1 [TB] {x : Str} {id : String} {g : Op1} (hc : BZ1 X (.type id) g) (hm : X.mg x = none) (ha : ZE X a fa) (hv : bootBuiltins x = some (.type id) := by decide +kernel) (hn : x ≠ "__name__" := by decide +kernel) (hd : (x == ("__debug__" : Str)) = false := by decide +kernel) (hg : Gl X x := by rfl)
    (h1 : starEach [a] X.env = (false, eval a X.env) :: starEach [] X.env := by rfl) (h3 : (backTo pos (starEach [] X.env)).any (·.1) = false := by rfl) : ZE X (.Call (.Name x p) [a] [] pos) (dUn g fa) := fun W xg =>
  PE.imp (pe_callTy hc hg hm hv (pa_cons (ha W xg) pa_nil h1) hn hd h1 h3) fun σ H Q ⟨ρ, st, m, S, E, P⟩ =>
    tz_seq (X := X) (k := fun _ u st1 => R.ofO st1 (g st1 u)) S E P fun u st1 v m1 H1 S1 E1 r1 l1 P1 => ⟨m1, st1, u, v, rfl, S1, r1, .of P1⟩
theorem ze_b2 [TB] {x : Str} {id : String} {g : Op2} (hc : BZ2 X (.builtin id) g) (hm : X.mg x = none) (ha : ZE X a fa) (hb : ZE X b fb) (hv : bootBuiltins x = some (.builtin id) := by decide +kernel) (hn : x ≠ "__name__" := by decide +kernel) (hd : (x == ("__debug__" : Str)) = false := by decide +kernel) (hg : Gl X x := by rfl)
    (h1 : starEach [a, b] X.env = (false, eval a X.env) :: starEach [b] X.env := by rfl) (h2 : starEach [b] X.env = (false, eval b X.env) :: starEach [] X.env := by rfl) (h3 : (backTo pos (starEach [b] X.env)).any (·.1) = false := by rfl) : ZE X (.Call (.Name x p) [a, b] [] pos) (dBin g fa fb) := fun W xg =>
  PE.imp (pe_callB hc hg hm hv (pa_cons (ha W xg) (pa_cons (hb W xg) pa_nil h2) h1) hn hd h1 h3) fun σ H Q ⟨ρ, st, m, S, E, P⟩ =>
    tz_seq (X := X) (k := fun ρ a st1 => (fb ρ st1).bind fun b st2 => R.ofO st2 (g st2 a b)) S E P fun u st1 v m1 H1 S1 E1 r1 l1 P1 => tz_seq (X := X) (k := fun ρ b st2 => R.ofO st2 (g st2 u b)) S1 E1 P1 fun u2 st2 v2 m2 H2 S2 E2 r2 l2 P2 => ⟨m2, st2, u, u2, v, v2, rfl, S2, r1.mono S1 l2, r2, .of P2⟩
def oLen : Op1 := fun st u => match deref st u with
  | .tup xs => some (.int xs.length)
  | .lst xs => some (.int xs.length)
  | .frz xs => some (.int xs.length)
  | .str z => if z.length ≤ 16777216 then some (.int z.length) else none
  | _ => none
theorem b_len [TB] : BZ1 X (.builtin "len") oLen := by
  intro pins s σ H xs us Q I r h
  obtain ⟨m, st, u, x, rfl, S, ru, P⟩ := h
  unfold oLen at P
  split at P
  · rename_i ys e
    rw [deref_tup e] at ru
    obtain ⟨p, vs, rfl, h1, r1⟩ := rep_tup (K := X.K) ru rfl
    exact call_len_seq pins s σ H _ us Q I r ⟨p, vs, rfl, .inr h1, by rw [← r1.length]; exact P.here S (.int _)⟩
  · rename_i ys e
    obtain ⟨p, vs, rfl, h1, r1⟩ := rep_seqL (K := X.K) S ru (.inl e) rfl
    exact call_len_seq pins s σ H _ us Q I r ⟨p, vs, rfl, .inl h1, by rw [← r1.length]; exact P.here S (.int _)⟩
  · rename_i ys e
    obtain ⟨p, vs, rfl, h1, r1⟩ := rep_seqL (K := X.K) S ru (.inr (deref_frz e)) rfl
    exact call_len_seq pins s σ H _ us Q I r ⟨p, vs, rfl, .inl h1, by rw [← r1.length]; exact P.here S (.int _)⟩
  · rename_i z e
    rw [deref_str e] at ru
    obtain ⟨rfl, hk⟩ := rep_str ru
    split at P
    · rename_i hl
      exact call_len_str pins s σ H _ us Q I r ⟨z, rfl, by rw [line_eq]; exact hl, P.here S (.int _)⟩
    · exact P.elim
  · exact P.elim
def oAbs : Op1 := fun _ u => match u with
  | .int i => some (.int (if i < 0 then -i else i))
  | _ => none
theorem b_abs [TB] : BZ1 X (.builtin "abs") oAbs := by
  intro pins s σ H xs us Q I r h
  obtain ⟨m, st, u, x, rfl, S, ru, P⟩ := h
  unfold oAbs at P
  split at P
  · exact call_abs pins s σ H _ us Q I r ⟨_, by rw [rep_int ru], P.here S (.int _)⟩
  · exact P.elim
def oInt : Op1 := fun _ u => match u with
  | .int i => some (.int i)
  | .bl k => some (.int (if k then 1 else 0))
  | _ => none
theorem b_int [TB] : BZ1 X (.type "int") oInt := by
  intro pins s σ H xs us Q I r h
  obtain ⟨m, st, u, x, rfl, S, ru, P⟩ := h
  unfold oInt at P
  split at P
  · exact call_int1 pins s σ H _ us Q I r (.inl ⟨_, by rw [rep_int ru], P.here S (.int _)⟩)
  · exact call_int1 pins s σ H _ us Q I r (.inr ⟨_, by rw [rep_bl ru], P.here S (.int _)⟩)
  · exact P.elim
def oList : Op1 := fun st u => match deref st u with
  | .tup xs => some (.lst xs)
  | .lst xs => some (.lst xs)
  | .frz xs => some (.lst xs)
  | .str z => if z.length ≤ 16777216 then some (.lst (signsOf z)) else none
  | _ => none
theorem call_list_signs (hc : X.calm = true) : CallR X (.type "list") (fun xs H Q => ∃ z, xs = [.str z] ∧ z.length ≤ sizeLine ∧ ∀ l, H l = none → Q (.ref l) (upd H l (.lst (z.cps.toList.map fun c => V.str ⟨#[c]⟩)))) := by
  intro pins s σ H xs us Q I r h
  obtain ⟨z, rfl, hz, q⟩ := h
  obtain ⟨u, rfl, t, rfl⟩ := vals1 r
  refine call_list_str (I.ok.hd hc) z t (fun h' tk acc' c' hk hS' hacc => ?_) (by exact hz)
  refine ⟨.ref s.heap.objs.size, _, I.laid (t' := tk) hk (Nat.le_refl _) (show ObjOk X.prog X.w _ h' _ (.lst (z.cps.toList.map fun c => V.str ⟨#[c]⟩)) from ⟨?_, acc'.toList, c', ?_, by simpa using hS'⟩), rfl, q _ (I.hok.fresh (Nat.le_refl _))⟩
  · rw [List.length_map, Array.length_toList]; exact hz
  · refine vals_of_idx _ _ (by simp [hacc.1]) fun j u hj => ?_
    obtain ⟨c, t', hc', rfl⟩ := hacc.2 j u (by simpa using hj)
    refine ⟨.str ⟨#[c]⟩, ?_, ⟨t', rfl⟩⟩
    rw [List.getElem?_map]
    have : z.cps.toList[j]? = some c := by simpa using hc'
    rw [this]
    rfl
theorem reps_signs {G : GC} {m : MH} {H : Hp} {z : Str} (h : PyData.strOk z = true) : Reps G m H (signsOf z) (z.cps.toList.map fun c => V.str ⟨#[c]⟩) := by
  have key : ∀ l : List Nat, (∀ c ∈ l, PyData.strOk ⟨#[c]⟩ = true) → Reps G m H (l.map fun c => U.str ⟨#[c]⟩) (l.map fun c => V.str ⟨#[c]⟩) := by
    intro l
    induction l with
    | nil => intro _; exact .nil
    | cons c l ih => intro hl; exact .cons (.str _ (hl c (by simp))) (ih fun d hd => hl d (by simp [hd]))
  refine key _ fun c hc => ?_
  obtain ⟨i, hi, e⟩ := List.mem_iff_getElem.mp hc
  exact sign_ok (i := i) h (by rw [← Array.getElem?_toList, List.getElem?_eq_getElem hi, e])
theorem b_list [TB] (hc : X.calm = true) : BZ1 X (.type "list") oList := by
  intro pins s σ H xs us Q I r h
  obtain ⟨m, st, u, x, rfl, S, ru, P⟩ := h
  unfold oList at P
  split at P
  · rename_i ys e
    rw [deref_tup e] at ru
    obtain ⟨p, vs, rfl, h1, r1⟩ := rep_tup (K := X.K) ru rfl
    exact call_list_of pins s σ H _ us Q I r ⟨p, vs, rfl, .inr h1, P.lst S r1⟩
  · rename_i ys e
    obtain ⟨p, vs, rfl, h1, r1⟩ := rep_seqL (K := X.K) S ru (.inl e) rfl
    exact call_list_of pins s σ H _ us Q I r ⟨p, vs, rfl, .inl h1, P.lst S r1⟩
  · rename_i ys e
    obtain ⟨p, vs, rfl, h1, r1⟩ := rep_seqL (K := X.K) S ru (.inr (deref_frz e)) rfl
    exact call_list_of pins s σ H _ us Q I r ⟨p, vs, rfl, .inl h1, P.lst S r1⟩
  · rename_i z e
    rw [deref_str e] at ru
    obtain ⟨rfl, hk⟩ := rep_str ru
    split at P
    · rename_i hl
      exact call_list_signs hc pins s σ H _ us Q I r ⟨z, rfl, by rw [line_eq]; exact hl, P.lst S (reps_signs hk)⟩
    · exact P.elim
  · exact P.elim
def oTuple : Op1 := fun st u => match deref st u with
  | .tup xs => some (.tup xs)
  | .lst xs => some (.tup xs)
  | .frz xs => some (.tup xs)
  | _ => none
theorem b_tuple [TB] : BZ1 X (.type "tuple") oTuple := by
  intro pins s σ H xs us Q I r h
  obtain ⟨m, st, u, x, rfl, S, ru, P⟩ := h
  unfold oTuple at P
  split at P
  · rename_i ys e
    rw [deref_tup e] at ru
    have ru' := ru
    obtain ⟨p, vs, rfl, h1, r1⟩ := rep_tup (K := X.K) ru rfl
    exact call_tuple_of pins s σ H _ us Q I r ⟨p, vs, rfl, .inr ⟨h1, P.here S ru'⟩⟩
  · rename_i ys e
    obtain ⟨p, vs, rfl, h1, r1⟩ := rep_seqL (K := X.K) S ru (.inl e) rfl
    exact call_tuple_of pins s σ H _ us Q I r ⟨p, vs, rfl, .inl ⟨h1, P.tup S r1⟩⟩
  · rename_i ys e
    obtain ⟨p, vs, rfl, h1, r1⟩ := rep_seqL (K := X.K) S ru (.inr (deref_frz e)) rfl
    exact call_tuple_of pins s σ H _ us Q I r ⟨p, vs, rfl, .inl ⟨h1, P.tup S r1⟩⟩
  · exact P.elim
def oNeg : Op1 := fun _ u => match u with
  | .int i => some (.int (-i))
  | _ => none
theorem ze_neg [TB] (ha : ZE X a fa) : ZE X (.UnaryOp .USub a pos) (dUn oNeg fa) := fun W xg =>
  PE.imp (pe_un un_neg (ha W xg)) fun σ H Q ⟨ρ, st, m, S, E, P⟩ =>
    tz_seq (X := X) (k := fun _ u st1 => R.ofO st1 (oNeg st1 u)) S E P fun u st1 v m1 H1 S1 E1 r1 l1 P1 => by
      cases u with
      | int i => exact ⟨i, rep_int r1, post_ok P1 S1 (.int _)⟩
      | _ => exact P1.elim
/-! ### a name that holds a def -/
abbrev Tab := List (Str × FnZ)
def tabL (T : Tab) : U → Option FnZ
  | .fn x => T.lookup x
  | _ => none
@[simp] def dCallV (T : Tab) (i : Nat) (f : UEnv → Store → R (List U)) : UEnv → Store → R U := fun ρ st => (dName i ρ st).bind fun u st0 => match tabL T u with
  | some F => (f ρ st0).bind fun us st1 => F us st1
  | none => .stuck
theorem ze_callV [TB] {k n i : Nat} {x : Str} {T : Tab} (cal : ∀ y ∈ T, CalZ X.prog X.w X.K X.mg X.base k y.1 n y.2) (hr : Room k X.A) (ha : ZAL X (e :: es) f) (hN : X.N[i]? = some x := by rfl) (hv : Vis X.env.scope x := by first | exact Or.inl rfl | exact Or.inr (Or.inl rfl) | exact Or.inr (Or.inr rfl)) (hn : (e :: es).length = n := by rfl)
    (hdb : (x == ("__debug__" : Str)) = false := by decide) (hcd : (x == ("__classdict__" : Str)) = false := by decide) (he : starEach (e :: es) X.env = (false, eval e X.env) :: starEach es X.env := by rfl) (hpl : (backTo pos (starEach es X.env)).any (·.1) = false := by rfl) :
    ZE X (.Call (.Name x p) (e :: es) [] pos) (dCallV T i f) := fun W xg => by
  refine ⟨fun pins s σ H Q I ⟨ρ, st, m, S, E, P⟩ => ?_⟩
  unfold dCallV dName at P
  cases e0 : ρ[i]? with
  | none => rw [e0] at P; exact P.elim
  | some o => cases o with
    | none => rw [e0] at P; exact P.elim
    | some u =>
      rw [e0] at P
      simp only [R.bind_ok] at P
      obtain ⟨v0, e1, r0⟩ := E.at_ i u e0
      cases et : tabL T u with
      | none => simp only [et] at P; exact P.elim
      | some F =>
        simp only [et] at P
        cases u with
        | fn y =>
          cases r0 with
          | @fn _ a hy =>
            refine wpAny_Call_Name_kw (thn ((pe_var (pos := p) hN hv hdb hcd).run pins s σ H (fun v H1 => v = .ref a ∧ H1 = H) I ⟨_, e1, rfl, rfl⟩) fun w s1 ⟨v, H1, I1, rw1, q1⟩ => ?_)
            obtain ⟨rfl, rfl⟩ := q1
            cases rw1
            obtain ⟨fa, fd, ps, h1, h2, h3, h4⟩ := (cal (y, F) (PySem.mem_of_lookup et)).ex
            have : fa = a := by
              have z := h2.symm.trans hy
              cases z; rfl
            subst this
            refine PySem.W.callWith_K (h₀ := X.base) I.ok.mod.kin h3 (thn ((ha.za W xg).run pos pins s1 σ _ (fun vs H2 => spZ (gc X) n F vs H2 Q (WE W σ)) I1 ⟨ρ, st, m, S, E, P.bind fun us st1 vs m1 H1 e1 l S1 r p => ⟨us, st1, m1, ?_, S1, r, p⟩⟩) fun us s2 ⟨vs, H2, I2, r, q⟩ => ⟨I2.kIn, ?_⟩) he hpl
            · rw [← r.length, ha.len _ _ _ _ e1, hn]
            · exact run_fnS h1 hr h4 (passAt xg.tk σ) I2 r q
        | _ => cases et
end
end Z

namespace Z
open PySem PySem.Spec PyProof.Rows L2

theorem room65 {k : Nat} {A : Around} (hr : Room k A) : A.units + 65 < cLine := by have := hr.un; omega
/-! ### a, b = x, y -/
@[simp] def sPar (is : List Nat) (f : UEnv → Store → R (List U)) : UEnv → Store → R Fl := fun ρ st => (f ρ st).bind fun us st1 => .ok (.nx ((is.zip us).foldl (fun ρ p => ρ.set p.1 (some p.2)) ρ)) st1
theorem zs_par [TB] {X : Cx} {i j : Nat} {x y : Str} {a b : Expr} {f : UEnv → Store → R (List U)} {px py pt pos : Pos} {kt k2 pt2} (hc : X.calm = true) (hN : X.N.Nodup) (ha : ZAL X [a, b] f) (hi : X.N[i]? = some x := by rfl) (hj : X.N[j]? = some y := by rfl) (hij : i ≠ j := by decide)
    (hx : X.env.scope.names.lookup x = some .local := by rfl) (hy : X.env.scope.names.lookup y = some .local := by rfl)
    (hw : swappedStores [.Tuple [.Name x px, .Name y py] kt pt] (.Tuple [a, b] k2 pt2) X.env = pure (some [x, y]) := by rfl)
    (hs : swapsWithSole [.Tuple [.Name x px, .Name y py] kt pt] (.Tuple [a, b] k2 pt2) pos.line X.env = pure false := by rfl) : ZS X (.Assign [.Tuple [.Name x px, .Name y py] kt pt] (.Tuple [a, b] k2 pt2) pos) (sPar [i, j] f) := fun W xg =>
  PS.imp (ps_par hc hN hi hj hij hx hy (ha.za W xg) hw hs) fun D σ H ⟨ρ, st, m, S, E, P⟩ =>
    ⟨ρ, st, m, S, E, PostS.bind (k := fun us st1 => .ok (.nx (([i, j].zip us).foldl (fun ρ p => ρ.set p.1 (some p.2)) ρ)) st1) P fun us st1 vs m1 H1 e l S1 r p => by
      have hl := ha.len _ _ _ _ e
      cases r with
      | nil => simp at hl
      | cons r1 t => cases t with
        | nil => simp at hl
        | cons r2 t => cases t with
          | cons r3 t => simp at hl
          | nil => exact ⟨_, _, rfl, p _ m1 H1 Le.refl S1 (((E.mono S l).set i r1).set j r2)⟩⟩

/-! ### the program's facts -/
structure DefZ (K : PySem.W.Frag) (mg : Str → Option Value) (x : Str) (st : Stmt) (ps : List Str) : Prop where
  ex : ∃ f fd, Fun K x x st f fd ∧ mg x = some (.ref f) ∧ Binds K fd ps []
theorem def_mk {K : PySem.W.Frag} {h : Heap} {mg : Str → Option Value} {x : Str} {st : Stmt} {ps : List Str} {f : Addr} {oc : Value} {od an : Option Addr} {osl : Array (Option Value)} {kV doc pm cdv ct : Value} (X : K.In h) (G : h.Ns mainGlobals mg)
    (a : PySem.W.nsIn K mainGlobals x = some (some (.ref f))) (l : K.lookup f = some ⟨oc, od, .func (PySem.W.fnOf x x (defArgs st) (defBody st) (defScope st) .none kV doc pm an cdv ct), osl⟩)
    (c : PySem.W.codeIn K cdv x = true) (k : PySem.W.keepIn K (.ref f) = true)
    (hb : ∀ (kV doc pm : Value) (an : Option Addr) (cdv ct : Value) (us : List Value), us.length = ps.length → bindArgs (PySem.W.fnOf x x (defArgs st) (defBody st) (defScope st) .none kV doc pm an cdv ct) ⟨us, []⟩ = pure (ps.zip us)) : DefZ K mg x st ps :=
  ⟨f, _, fun_mk l c k, PySem.W.mg_of X G a, (fun_mk (st := st) l c k).binds hb⟩
theorem DefZ.glob [TB] {K : PySem.W.Frag} {mg : Str → Option Value} {x : Str} {st : Stmt} {ps : List Str} (d : DefZ K mg x st ps) : GlobU ⟨K, mg, TB.T⟩ x (.fn x) := by
  obtain ⟨f, fd, _, hm, _⟩ := d.ex
  exact ⟨.ref f, .ref f, hm, rfl, fun m H => .fn hm⟩
theorem DefZ.cal [TB] {P : Program} {w : World} {K : PySem.W.Frag} {mg : Str → Option Value} {base : Heap} {x : Str} {st : Stmt} {N ps : List Str} {k n : Nat} {g : UEnv → Store → R Fl} {F : FnZ} (d : DefZ K mg x st ps) (S : FnScope N ps (defScope st))
    (hb : ∀ (f : Addr) (cdv : Value) (A : Around) (outer : List Env) (s : Shared) (H : Hp) (E : XK), Room k (A.deeper (envOfC x (defScope st) s.heap.objs.size f cdv)) → ZB (cxOf (L2.CX P w) P w K mg base N x (defScope st) f cdv A outer s H E) (defBody st) g)
    (hF : F = runB N.length g := by rfl) (hn : ps.length = n := by rfl) : CalZ P w K mg base (k + 1) x n F := by
  obtain ⟨f, fd, Fn, hm, bd⟩ := d.ex
  exact calZ Fn hm bd S (fun cdv A outer s H E hr => hb f cdv A outer s H E hr) hF hn
/-- a def about which nothing is said -/
theorem DefZ.stuck [TB] {P : Program} {w : World} {K : PySem.W.Frag} {mg : Str → Option Value} {base : Heap} {x : Str} {st : Stmt} {ps : List Str} (k n : Nat) (d : DefZ K mg x st ps) : CalZ P w K mg base k x n (fun _ _ => .stuck) := by
  obtain ⟨f, fd, Fn, hm, bd⟩ := d.ex
  exact ⟨f, fd, ps, ⟨fun vs H Q E ⟨_, _, _, _, _, _, z⟩ => z.elim, fun A outer s H args us vs Q E hr he hb hv ⟨_, _, _, _, _, _, z⟩ => z.elim⟩, hm, Fn.kp, bd⟩
theorem glob_int [TB] {K : PySem.W.Frag} {h : Heap} {mg : Str → Option Value} {x : Str} {i : Int} {t : Tok} (X : K.In h) (G : h.Ns mainGlobals mg) (a : PySem.W.nsIn K mainGlobals x = some (some (.int i t))) : GlobU ⟨K, mg, TB.T⟩ x (.int i) :=
  ⟨.int i t, .int i, PySem.W.mg_of X G a, ⟨t, rfl⟩, fun m H => .int i⟩
theorem glob_str [TB] {K : PySem.W.Frag} {h : Heap} {mg : Str → Option Value} {x y : Str} {t : Tok} (X : K.In h) (G : h.Ns mainGlobals mg) (a : PySem.W.nsIn K mainGlobals x = some (some (.str y t))) (hy : PyData.strOk y = true := by decide +kernel) : GlobU ⟨K, mg, TB.T⟩ x (.str y) :=
  ⟨.str y t, .str y, PySem.W.mg_of X G a, ⟨t, rfl⟩, fun m H => .str y hy⟩
theorem glob_none {K : PySem.W.Frag} {h : Heap} {mg : Str → Option Value} {x : Str} (X : K.In h) (G : h.Ns mainGlobals mg) (a : PySem.W.nsIn K mainGlobals x = some none) : mg x = none := PySem.W.mg_none_of X G a

instance (priority := low) noTB : TB := ⟨[]⟩
/-! ### the law's end -/
def spLaw (K : PySem.W.Frag) : Sp := fun vs H Q _ => ∃ (a : Addr) (ns : List Int), vs = [.ref a] ∧ ((∃ o, H a = some (.frz o (.lst (ns.map V.int)))) ∨ LstK K a (ns.map V.int)) ∧ ns.length ≤ 63 ∧ ∀ H', Q (.bl true) H'
theorem reps_ints {G : GC} {m : MH} {H : Hp} : ∀ ns : List Int, Reps G m H (ns.map U.int) (ns.map V.int)
  | [] => .nil
  | n :: ns => .cons (.int n) (reps_ints ns)
theorem law_imp {G : GC} {F : FnZ} (h : ∀ ns : List Int, ns.length ≤ 63 → ∃ st, F [.frz (ns.map .int)] [] = .ok (.bl true) st) (vs : List V) (H : Hp) (Q : VK) (E : XK) (hT : LamX.Tabs G.T H) (q : spLaw G.K vs H Q E) : spZ G 1 F vs H Q E := by
  obtain ⟨a, ns, rfl, hs, hl, k⟩ := q
  obtain ⟨st, e⟩ := h ns hl
  refine ⟨[.frz (ns.map .int)], [], ⟨fun _ => none, fun _ => False⟩, rfl, ⟨fun n h => absurd h (Nat.not_lt_zero n), fun n a h => (nomatch h), fun n k a h => (nomatch h), fun n a h => (nomatch h), fun a h => (show False from h).elim, fun n c a h => by simp at h, hT⟩, .cons ?_ .nil, ?_⟩
  · rcases hs with ⟨o, hs⟩ | hs
    · exact .frz hs (fun z => z) (reps_ints ns)
    · exact .frzK hs (reps_ints ns)
  · rw [e]
    intro v m' H' l S r
    cases r
    exact k H'
theorem walkZ {l : PySem.W.OpenLaw} {q : Program} {loose : List Str} {XP : (Str → Option Value) → Heap → Prop} {YP : World → Heap → Prop} {d : DefRec} {K : Params → PySem.W.Frag} {k : Nat} {F : FnZ} {x : Str} (hn : l.most = some 63) (hdf : d.params.defaults = []) (hr : Room k callerA)
    (hY : ∀ (w : World) (h : Heap), YP w h → (K w.params).In h) (hlaw : ∀ ns : List Int, ns.length ≤ 63 → ∃ st, F [.frz (ns.map .int)] [] = .ok (.bl true) st)
    (hF : ∀ (w : World) (mg : Str → Option Value) (fa : Addr) (h : Heap), (K w.params).In h → h.Ns mainGlobals mg → mg d.name = some (.ref fa) →
      ∃ fd : FuncData, (∀ (s : Shared) (u : Value), BindsTo s fd ⟨[u], []⟩ [(x, u)]) ∧ ∀ base : Heap, FnOk l.prog w (K w.params) mg base (L2.CX l.prog w) k fa fd [x] (spZ ⟨K w.params, mg, []⟩ 1 F)) :
    PySem.W.WalkO q loose XP YP l.row.toRowW d [] (fun f vs => PySem.call f vs) :=
  L2.walk_of (n := 63) (k := k) (x := x) (CX := fun w => L2.CX l.prog w) (sp := fun w => spLaw (K w.params)) hn (by decide) hdf hr hY
    (fun w mg fa h X G hm => by
      obtain ⟨fd, hb, hf⟩ := hF w mg fa h X G hm
      exact ⟨fd, hb, fun base _ _ => (hf base).imp fun vs H Q E q => law_imp (G := ⟨K w.params, mg, []⟩) hlaw vs H Q E (fun p hp => nomatch hp) q⟩)
    (fun w H a ns hl hO hS => ⟨a, ns, rfl, by
      rcases hS with (h | h) | h
      · rcases hO a with z | ⟨o, xs, z⟩
        · rw [z] at h; cases h
        · rw [z] at h; cases h
      · exact .inl h
      · exact .inr h, hl, fun _ => rfl⟩)
    fun w H s e s' z => by
      obtain ⟨_, _, _, _, _, _, _, _, _, _, _, _, z⟩ := z
      exact z
end Z

namespace Z
open PySem PySem.Spec PyProof.Rows L2

/-! ### exceptions: raise -/
structure ExcZ (K : PySem.W.Frag) (mg : Str → Option Value) (x : Str) : Prop where
  ex : ∃ (C : Addr) (bmB : List Value) (B newId initId : String), ExcBaseFacts B newId initId bmB ∧ mg x = some (.ref C) ∧ PySem.W.excIn K C bmB newId = true ∧ PySem.W.keepIn K (.ref C) = true ∧ PySem.W.subIn K (.ref C) (.type "BaseException") = some true ∧ PySem.W.typeIn K (.ref C) = some (.type "type")
@[simp] def sRaise (x : Str) : UEnv → Store → R Fl := fun _ st => .exc ⟨x, none⟩ st
theorem zs_raise [TB] {X : Cx} {x m : Str} {j : Nat} {p p2 pos pos2 : Pos} (e : ExcZ X.K X.mg x) (hc : X.calm = true := by rfl) (hg : Gl X x := by rfl) (hdb : (x == ("__debug__" : Str)) = false := by decide) :
    ZS X (.Raise (some (.Call (.Name x p) [.Constant (.str m) j p2] [] pos)) none pos2) (sRaise x) := fun W xg => by
  obtain ⟨C, bmB, B, newId, initId, F, gC, q, kC, h1, h2⟩ := e.ex
  exact PS.imp (ps_raise hc xg.tk (pmk_own F q gC kC (raises_own h1 h2) hg hdb)) fun D σ H ⟨ρ, st, m', S, E, P⟩ => P (.ref C) none σ m' H Le.refl S ⟨C, gC, rfl, rfl⟩

/-! ### except clauses -/
/-- is the class x one of c? -/
structure ExmZ (K : PySem.W.Frag) (mg : Str → Option Value) (x c : Str) (b : Bool) : Prop where
  ex : ∃ C D : Addr, mg x = some (.ref C) ∧ mg c = some (.ref D) ∧ PySem.W.exmOne K (.ref C) (.ref D) = some b
abbrev SubT := List (Str × Str × Bool)
def subOf : SubT → Str → Str → Option Bool
  | [], _, _ => none
  | (x, c, b) :: r, y, d => if x = y ∧ c = d then some b else subOf r y d
theorem subOf_mem : ∀ {l : SubT} {x c : Str} {b : Bool}, subOf l x c = some b → (x, c, b) ∈ l
  | (x, c, b) :: r, y, d, k, h => by
    unfold subOf at h
    split at h
    · rename_i q
      obtain ⟨rfl, rfl⟩ := q
      cases h
      exact List.mem_cons_self
    · exact List.mem_cons_of_mem _ (subOf_mem h)
/-- the clauses: class and word -/
def tellX (t : SubT) : List (Str × Str) → Ex → Store → R U
  | [], _, _ => .stuck
  | (c, w) :: r, e, st => match subOf t e.cls c with
    | some true => .ok (.str w) st
    | some false => tellX t r e st
    | none => .stuck
def tellU (t : SubT) (l : List (Str × Str)) : R U → R U
  | .ok _ st => .ok (.str "") st
  | .exc e st => tellX t l e st
  | .stuck => .stuck
@[simp] theorem tellU_ok (t : SubT) (l : List (Str × Str)) (u : U) (st : Store) : tellU t l (.ok u st) = .ok (.str "") st := rfl
@[simp] theorem tellU_exc (t : SubT) (l : List (Str × Str)) (e : Ex) (st : Store) : tellU t l (.exc e st) = tellX t l e st := rfl
@[simp] def dTell (t : SubT) (l : List (Str × Str)) (f : UEnv → Store → R U) : UEnv → Store → R U := fun ρ st => tellU t l (f ρ st)

def wTell (K : PySem.W.Frag) (Q : VK) : List (Value × Str) → XK
  | [] => fun _ _ _ => False
  | (c, w) :: r => fun cls d H => ∃ b, PySem.W.exmOne K cls c = some b ∧ (b = true → Q (.str w) H) ∧ (b = false → wTell K Q r cls d H)
def TTell (K : PySem.W.Frag) (l : List (Value × Str)) : (XK → Hp → VK → Prop) → Hp → VK → Prop := fun tl H Q => tl (wTell K Q l) H fun _ H' => Q (.str "") H'
inductive HdsT (X : Cx) : List ExceptHandler → List (Value × Str) → Prop
  | nil : HdsT X [] []
  | cons {x w : Str} {c : Value} {np p1 p2 p3 : Pos} {j : Nat} {hds : List ExceptHandler} {l : List (Value × Str)} (hc : Names X x c) (r : HdsT X hds l) :
      HdsT X (.ExceptHandler (some (.Name x np)) none [.Return (some (.Constant (.str w) j p1)) p2] p3 :: hds) ((c, w) :: l)
theorem HdsT.ok {X : Cx} {hds : List ExceptHandler} {l : List (Value × Str)} (h : HdsT X hds l) : HdsOk X hds (l.map fun p => (p.1, fun _ _ _ D _ H => D.rt (.str p.2) H)) := by
  induction h with
  | nil => exact .nil
  | cons hc r ih => exact .cons hc (fun a oe cls d pn _ _ => pss_one (ps_ret pe_str)) ih
theorem many_tell {K : PySem.W.Frag} {D : Ends} : ∀ {l : List (Value × Str)} {cls : Value} {d : Option Addr} {σ : L2.St} {H : Hp}, wTell K D.rt l cls d H → wMany K (fun _ _ _ _ => False) D (l.map fun p => (p.1, fun _ _ _ D _ H => D.rt (.str p.2) H)) cls d σ H
  | [], _, _, _, _, h => h
  | (c, w) :: r, cls, d, σ, H, ⟨b, e, h1, h2⟩ => ⟨b, e, fun hb a _ => h1 hb, fun hb => many_tell (h2 hb)⟩
section
variable {X : Cx}
/-- try: a() / except ..: return .. / return '' -/
theorem tell_gives {Ng : List Str} {x a q : Str} {sg : Scope} {g : Addr} {cdg : Value} {j : Nat} {h₀ : ExceptHandler} {hds : List ExceptHandler} {l : List (Value × Str)} {p1 p2 p3 p4 p5 p6 : Pos}
    (hh : ∀ (A : Around) (s : Shared) (H : Hp), HdsT (cxOf C8.CX0 X.prog X.w X.K X.mg X.base Ng x sg g cdg A X.stack s H C8.E0).nox (h₀ :: hds) l) (h0 : ∀ f : Addr, (L2.start Ng [V.ref f])[0]? = some (some (V.ref f))) :
    LamX.GivesTo X Ng x sg g cdg [.Try [.Expr (.Call (.Name a p1) [] [] p2) p3] (h₀ :: hds) [] [] p4, .Return (some (.Constant (.str "") j p5)) p6] a q (TTell X.K l) := by
  intro f c' s H Q tl act hc h
  refine ⟨_, pss_cons (ps_try_many (X := (cxOf C8.CX0 X.prog X.w X.K X.mg X.base Ng x sg g cdg X.A X.stack s H C8.E0).nox)
      (tb := fun W D σ H => ∃ Ech : XK, (∀ cls d σ' H', Ech cls d H' → W cls d σ' H') ∧ σ[0]? = some (some (.ref f)) ∧ H c' = some (LamX.CodeO c' q) ∧ tl Ech H fun _ H' => D.nx σ H')
      rfl rfl LamX.takes0 (fun W pn xe tk _ => ?_) (hh X.A s H).ok) (pss_one (ps_ret pe_str)), ?_⟩
  · refine ⟨fun pins s' σ H' D I h' => ?_⟩
    obtain ⟨Ech, hW, h1, h2, h3⟩ := h'
    have hp := act W pn xe Ech p1 p2 tk hW
    exact (pss_one (ps_expr (pos := p3) hp)).run pins s' σ H' D I ⟨h1, h2, h3⟩
  · exact ⟨wTell X.K Q l, fun cls d σ' H' w => many_tell w, h0 f, hc, h⟩
end
/-- the code object of the def that makes lambdas, and its table -/
structure LamZ [TB] (X : Cx) : Prop where
  ex : ∃ c P : Addr, LamX.TabB X.base X.mg c P ∧ X.env.code = .ref c ∧ (P, X.env.qual ++ "<lambda>") ∈ TB.T ∧ ∀ p ∈ TB.T, p.1 = P → p.2 = X.env.qual ++ "<lambda>"
abbrev lvs (mg : Str → Option Value) (l : List (Str × Str)) : List (Value × Str) := l.map fun p => ((mg p.1).getD .none, p.2)
theorem post_tell {G : GC} {t : SubT} {Q : VK} {EW : XK} {m m' : MH} {H H' : Hp} {e : Ex} {st : Store} {cls : Value} {d : Option Addr} (hs : ∀ p ∈ t, ExmZ G.K G.mg p.1 p.2.1 p.2.2) (r : RepEx G m' H' e cls d) (lq : Le m H m' H') (S : Sim G m' H' st) :
    ∀ {l : List (Str × Str)}, (∀ p ∈ l, PyData.strOk p.2 = true) → Post G m H (Rep G) EW Q (tellX t l e st) → wTell G.K Q (lvs G.mg l) cls d H'
  | [], _, P => P.elim
  | (c, w) :: l, hw, P => by
    unfold tellX at P
    cases h : subOf t e.cls c with
    | none => rw [h] at P; exact P.elim
    | some b =>
      rw [h] at P
      obtain ⟨C, D, e1, e2, e3⟩ := (hs _ (subOf_mem h)).ex
      obtain ⟨C', f1, f2, _⟩ := id r
      rw [f1] at e1; cases e1
      have e2 : G.mg c = some (.ref D) := e2
      show ∃ b, PySem.W.exmOne G.K cls ((G.mg c).getD .none) = some b ∧ _ ∧ _
      rw [e2, f2]
      refine ⟨b, e3, fun hb => ?_, fun hb => ?_⟩
      · subst hb
        exact P (.str w) m' H' lq S (.str w (hw (c, w) List.mem_cons_self))
      · subst hb
        rw [← f2]
        exact post_tell hs r lq S (fun p hp => hw p (List.mem_cons_of_mem _ hp)) P
theorem Le.ofN {m : MH} {H H1 : Hp} (e : LamX.ExtN H H1) : Le m H m H1 :=
  ⟨fun _ _ h => h, fun _ _ h => .inl h, fun _ h => h, fun _ h => .inl h, fun a o h _ nt => e a o h nt, fun a h => by
    cases q : H a with
    | none => exact .inl q
    | some o =>
      by_cases z : NT o
      · exact (h.no (e a o q z) z).elim
      · have : ∃ ps, o = .tbl ps := Classical.byContradiction fun n => z fun ps k => n ⟨ps, k⟩
        obtain ⟨ps, rfl⟩ := this
        exact .inr ⟨ps, q⟩⟩
theorem Sim.ofN {G : GC} {m : MH} {H H1 : Hp} {st : Store} (S : Sim G m H st) (e : LamX.ExtN H H1) (t : LamX.Tabs G.T H1) : Sim G m H1 st :=
  ⟨S.dom, S.lt, S.inj, S.own, fun a h => by
    obtain ⟨o, q, nt⟩ := S.live a h
    exact ⟨o, e a o q nt, nt⟩, fun n c a e1 e2 => (S.cell n c a e1 e2).stay ((Le.ofN e).stays S) (by
    obtain ⟨o, q, nt⟩ := S.live a (S.own n a e2)
    rw [q, e a o q nt]), t⟩
theorem ze_tell [TB] {X : Cx} {x a : Str} {st : Stmt} {Ng : List Str} {params : Arguments} {body : Expr} {scope : Scope} {p lpos pos : Pos} {k : Nat} {fb : UEnv → Store → R U} {t : SubT} {l : List (Str × Str)} (d : DefZ X.K X.mg x st [a]) (lz : LamZ X) (hr : Room (k + 2) X.A)
    (Sg : FnScope Ng [a] (defScope st)) (hva : Vis (defScope st) a) (hG : ∀ (g : Addr) (cdv : Value), LamX.GivesTo X Ng x (defScope st) g cdv (defBody st) a (X.env.qual ++ "<lambda>") (TTell X.K (lvs X.mg l)))
    (hs : ∀ p ∈ t, ExmZ X.K X.mg p.1 p.2.1 p.2.2) (hw : ∀ p ∈ l, PyData.strOk p.2 = true)
    (hbody : ∀ (A : Around) (outer : List Env) (s : Shared) (H : Hp) (E : XK) (f c' : Addr), Room k (A.deeper (LamX.lamEnv X scope s.heap.objs.size f c')) → ZE (LamX.lamCx X A outer s H E scope f c') body fb)
    (hg : Gl X x := by rfl) (hNg : Ng[0]? = some a := by rfl) (L : LamX.LamS X.env.scope scope := by exact LamX.lamS_by rfl) (hdef : defaultsOf params X.env = ([], []) := by rfl)
    (hbind : ∀ (q : Str) (cl : List (Str × Addr)) (pm cv ctv : Value), bindArgs (PySem.W.kla_fn "<lambda>" q params body scope cl pm cv ctv) ⟨[], []⟩ = pure [] := by intros; rfl)
    (hdb : (x == ("__debug__" : Str)) = false := by decide) (hd : (a == ("__debug__" : Str)) = false := by decide) (hcd : (a == ("__classdict__" : Str)) = false := by decide) :
    ZE X (.Call (.Name x p) [.Lambda params body scope lpos] [] pos) (dTell t l fb) := fun W xg => by
  obtain ⟨g, fd, F, hm, bd⟩ := d.ex
  obtain ⟨oc, od, kV, doc, pm, an, cdv, ct, osl, rfl, lk, hcg⟩ := F.ex
  obtain ⟨c, P, tb, hcode, hmT, hu⟩ := lz.ex
  refine PE.imp (LamX.pe_lamcall (T := TB.T) (TT := TTell X.K (lvs X.mg l)) (t := fun E => tZ (gc X) (fun cls d _ H => E cls d H) fb) hg hm F.kp lk hcg bd Sg hNg hva (hG g cdv) tb hcode hmT hu hr L hdef hbind
    (fun A outer s H E f c' hr => hbody A outer s H E f c' hr (fun cls d _ H => E cls d H) ⟨takes_of rfl rfl rfl rfl, passes_of rfl⟩) hdb hd hcd) fun σ H Q ⟨ρ, st, m, S, E, P⟩ => ⟨S.tabs, fun H1 eN t1 => ?_⟩
  have l1 : Le m H m H1 := Le.ofN eN
  have S1 := S.ofN eN t1
  refine ⟨ρ, st, m, S1, E.mono S l1, ?_⟩
  have P' : Post (gc X) m H (Rep (gc X)) (WE2 W σ) Q (tellU t l (fb ρ st)) := P
  cases e : fb ρ st with
  | ok u st1 =>
    rw [e] at P'
    exact fun v m2 H2 l2 S2 r => P' (.str "") m2 H2 (l1.trans l2) S2 (.str "" (by decide +kernel))
  | exc x st1 =>
    rw [e] at P'
    exact fun cls d m2 H2 l2 S2 r => post_tell (G := gc X) hs r (l1.trans l2) S2 hw P'
  | stuck => rw [e] at P'; exact P'.elim
theorem ExcZ.getD {K : PySem.W.Frag} {mg : Str → Option Value} {x : Str} (e : ExcZ K mg x) : mg x = some ((mg x).getD .none) := by
  obtain ⟨C, _, _, _, _, _, h, _⟩ := e.ex
  rw [h]; rfl
/-! ### a def whose code object is told -/
structure FunC (K : PySem.W.Frag) (x qual : Str) (st : Stmt) (f : Addr) (fd : FuncData) (cdv : Value) : Prop where
  ex : ∃ (oc : Value) (od : Option Addr) (kV doc pm : Value) (an : Option Addr) (ct : Value) (osl : Array (Option Value)),
    fd = PySem.W.fnOf x qual (defArgs st) (defBody st) (defScope st) .none kV doc pm an cdv ct ∧ K.lookup f = some ⟨oc, od, .func fd, osl⟩ ∧ PySem.W.codeIn K cdv qual = true
theorem fnZC [TB] {P : Program} {w : World} {K : PySem.W.Frag} {mg : Str → Option Value} {base : Heap} {x qual : Str} {st : Stmt} {f : Addr} {fd : FuncData} {cdv : Value} {N ps : List Str} {k : Nat} {g : UEnv → Store → R Fl} (F : FunC K x qual st f fd cdv) (S : FnScope N ps (defScope st))
    (hb : ∀ (A : Around) (outer : List Env) (s : Shared) (H : Hp) (E : XK), Room k (A.deeper (envOfC qual (defScope st) s.heap.objs.size f cdv)) → ZB (cxOf (L2.CX P w) P w K mg base N qual (defScope st) f cdv A outer s H E) (defBody st) g) :
    FnOk P w K mg base (L2.CX P w) (k + 1) f fd ps (spZ ⟨K, mg, TB.T⟩ ps.length (runB N.length g)) := by
  obtain ⟨oc, od, kV, doc, pm, an, ct, osl, rfl, lk, hcd⟩ := F.ex
  refine fn_of lk hcd S (fun vs H Q E h => ?_) (fun A outer s H vs Q E hr h => ?_)
  · obtain ⟨us, st', m, hl, _⟩ := h
    exact hl
  · obtain ⟨us, st', m, hl, S', r, Pt⟩ := h
    refine ⟨_, hb A outer s H E hr (fun cls d _ H => E cls d H) ⟨takes_of rfl rfl rfl rfl, passes_of rfl⟩, ?_⟩
    have hpl : ps.length ≤ N.length := by have := congrArg List.length S.pre; rw [List.length_take] at this; omega
    refine ⟨_, st', m, S', renv_start r N (by rw [hl]; exact hpl), ?_⟩
    unfold runB at Pt
    cases e : g (us.map some ++ List.replicate (N.length - us.length) none) st' with
    | ok r1 st1 =>
      rw [e] at Pt
      cases r1 with
      | nx ρ => exact fun σ m1 H1 l S1 E1 => Pt .non m1 H1 l S1 .non
      | rt u => exact Pt
      | bk ρ => exact Pt.elim
      | ct ρ => exact Pt.elim
    | exc x st1 => rw [e] at Pt; exact fun c d σ m1 H1 l S1 r1 => Pt c d m1 H1 l S1 r1
    | stuck => rw [e] at Pt; exact Pt
theorem func_mk {K : PySem.W.Frag} {x qual : Str} {st : Stmt} {f : Addr} {oc : Value} {od an : Option Addr} {osl : Array (Option Value)} {kV doc pm cdv ct : Value} (l : K.lookup f = some ⟨oc, od, .func (PySem.W.fnOf x qual (defArgs st) (defBody st) (defScope st) .none kV doc pm an cdv ct), osl⟩)
    (c : PySem.W.codeIn K cdv qual = true) : FunC K x qual st f (PySem.W.fnOf x qual (defArgs st) (defBody st) (defScope st) .none kV doc pm an cdv ct) cdv := ⟨oc, od, kV, doc, pm, an, ct, osl, rfl, l, c⟩
theorem exc_mk {K : PySem.W.Frag} {h : Heap} {mg : Str → Option Value} {x : Str} {C : Addr} (X : K.In h) (G : h.Ns mainGlobals mg) (a : PySem.W.nsIn K mainGlobals x = some (some (.ref C)))
    (q : PySem.W.excIn K C [.type "ValueError", .type "Exception", .type "BaseException", .type "object"] "ValueError.__new__" = true) (k : PySem.W.keepIn K (.ref C) = true) (s : PySem.W.subIn K (.ref C) (.type "BaseException") = some true) (t : PySem.W.typeIn K (.ref C) = some (.type "type")) : ExcZ K mg x :=
  ⟨C, _, _, _, _, PySem.F.excBase_ValueError, PySem.W.mg_of X G a, q, k, s, t⟩
theorem exm_mk {K : PySem.W.Frag} {h : Heap} {mg : Str → Option Value} {x c : Str} {b : Bool} {C D : Addr} (X : K.In h) (G : h.Ns mainGlobals mg) (a : PySem.W.nsIn K mainGlobals x = some (some (.ref C))) (a2 : PySem.W.nsIn K mainGlobals c = some (some (.ref D)))
    {cd : ClassData} (s2 : PySem.W.subIn K (.ref D) (.type "BaseException") = some true) (k : PySem.W.clsIn K D = some cd) (t : PySem.W.typeIn K (.ref D) = some (.type "type")) (sb : PySem.W.subIn K (.ref C) (.ref D) = some b) : ExmZ K mg x c b :=
  ⟨C, D, PySem.W.mg_of X G a, PySem.W.mg_of X G a2, by
    unfold PySem.W.exmOne
    rw [s2]
    simp [PySem.W.kitCls, k, t, sb]⟩
theorem look_none {P : Addr} : ∀ {K : PySem.W.Frag}, (K.map (·.1)).contains P = false → K.lookup P = none
  | [], _ => rfl
  | (a, o) :: K, h => by
    simp only [List.map_cons, List.contains_cons, Bool.or_eq_false_iff] at h
    simp only [List.lookup, h.1]
    exact look_none h.2
/-- the end of a law whose top def makes lambdas -/
theorem walkZT {l : PySem.W.OpenLaw} {q : Program} {loose : List Str} {XP : (Str → Option Value) → Heap → Prop} {d : DefRec} {K : Params → PySem.W.Frag} {as : List Addr} {e : ∀ P, as = (K P).map (·.1)} {ts : List Addr} {k : Nat} {F : FnZ} {x nm : Str} {c P : Addr}
    (hn : l.most = some 63) (hdf : d.params.defaults = []) (hr : Room k callerA) (hP : P ∈ ts)
    (hlaw : ∀ ns : List Int, ns.length ≤ 63 → ∀ u, u = .frz (ns.map .int) ∨ u = .lst (ns.map .int) → ∃ st, F [u] [] = .ok (.bl true) st)
    (hF : ∀ (w : World) (mg : Str → Option Value) (fa : Addr) (h : Heap), (K w.params).In h → h.Ns mainGlobals mg → mg d.name = some (.ref fa) →
      ∃ fd : FuncData, (∀ (s : Shared) (u : Value), BindsTo s fd ⟨[u], []⟩ [(x, u)]) ∧ ∀ base : Heap, LamX.TabB base mg c P → FnOk l.prog w (K w.params) mg base (L2.CX l.prog w) k fa fd [x] (spZ ⟨K w.params, mg, [(P, nm)]⟩ 1 F))
    (nT : as.contains P = false) (hC : ∀ w : World, PySem.W.codeHdIn (K w.params) c P = true) :
    PySem.W.WalkO q loose XP (PySem.W.kmHook K as e ts).says l.row.toRowW d [] (fun f vs => PySem.call f vs) := by
  refine LamX.walk_ofTs (l := l) (n := 63) (k := k) (x := x) (CX := fun w => L2.CX l.prog w) hn (by decide) hdf hr (fun w h Y => PySem.W.km_in_of Y) (fun w mg fa h Y KX G hm => ?_) (fun w H s e s' z => ?_)
  · obtain ⟨fd, hb, hf⟩ := hF w mg fa h KX G hm
    refine ⟨fd, [(c, P)], spZ ⟨K w.params, mg, [(P, nm)]⟩ 1 F, fun p hp => ?_, fun p hp => ?_, fun p hp => ?_, hb, fun H a ns hl _ hT hS => ?_, fun base _ _ hB => hf base (hB (c, P) (List.mem_singleton.mpr rfl))⟩
    · rw [List.mem_singleton.mp hp]; exact PySem.W.km_tabs_of Y P hP
    · rw [List.mem_singleton.mp hp]; exact look_none (by rw [← e w.params]; exact nT)
    · rw [List.mem_singleton.mp hp]; exact PySem.W.codeHd_of_K KX (hC w)
    · have tb : LamX.Tabs [(P, nm)] H := fun p hp => by
        rw [List.mem_singleton.mp hp]
        exact LamX.TabS.nil (hT (c, P) (List.mem_singleton.mpr rfl))
      have key : ∀ u : U, (u = .frz (ns.map .int) ∨ u = .lst (ns.map .int)) → Rep ⟨K w.params, mg, [(P, nm)]⟩ ⟨fun _ => none, fun _ => False⟩ H u (.ref a) → spZ ⟨K w.params, mg, [(P, nm)]⟩ 1 F [.ref a] H (fun v _ => v = .bl true) fun _ _ _ => False := fun u hu r => by
        obtain ⟨st, e⟩ := hlaw ns hl u hu
        refine ⟨[u], [], ⟨fun _ => none, fun _ => False⟩, rfl, ⟨fun n h => absurd h (Nat.not_lt_zero n), fun n a h => (nomatch h), fun n k a h => (nomatch h), fun n a h => (nomatch h), fun a h => (show False from h).elim, fun n c a h => by simp at h, tb⟩, .cons r .nil, ?_⟩
        rw [e]
        intro v m' H' l S r
        cases r
        rfl
      rcases hS with (h | ⟨o, h⟩) | h
      · exact key _ (.inr rfl) (.lst h (fun z => z) (reps_ints ns))
      · exact key _ (.inl rfl) (.frz h (fun z => z) (reps_ints ns))
      · exact key _ (.inl rfl) (.frzK h (reps_ints ns))
  · obtain ⟨_, _, _, _, _, _, _, _, _, _, _, _, z⟩ := z
    exact z
end Z

namespace Z
open PySem PySem.Spec PyProof.Rows L2

/-! ### what holds of a result -/
def Ok {α : Type} (r : R α) (P : α → Store → Prop) : Prop := ∃ a st, r = .ok a st ∧ P a st
theorem Ok.bind {α β : Type} {r : R α} {k : α → Store → R β} {P : α → Store → Prop} {Q : β → Store → Prop} (h : Ok r P) (hk : ∀ a st, P a st → Ok (k a st) Q) : Ok (r.bind k) Q := by
  obtain ⟨a, st, rfl, p⟩ := h
  exact hk a st p
theorem Ok.imp {α : Type} {r : R α} {P Q : α → Store → Prop} (h : Ok r P) (hk : ∀ a st, P a st → Q a st) : Ok r Q := by
  obtain ⟨a, st, e, p⟩ := h
  exact ⟨a, st, e, hk a st p⟩
theorem Ok.pure {α : Type} {a : α} {st : Store} {P : α → Store → Prop} (h : P a st) : Ok (.ok a st) P := ⟨a, st, rfl, h⟩
theorem Ok.eq {α : Type} {r r' : R α} {P : α → Store → Prop} (e : r = r') (h : Ok r' P) : Ok r P := e ▸ h

/-! ### plain values -/
/-- plain data, d deep at most, every length k at most -/
def VOk (k : Nat) : Nat → U → Prop
  | _, .non => True
  | _, .bl _ => True
  | _, .int _ => True
  | _, .str x => x.length ≤ k
  | 0, .tup _ => False
  | 0, .lst _ => False
  | d + 1, .tup xs => xs.length ≤ k ∧ ∀ x ∈ xs, VOk k d x
  | d + 1, .lst xs => xs.length ≤ k ∧ ∀ x ∈ xs, VOk k d x
  | _, .frz _ => False
  | _, .hdl _ => False
  | _, .fn _ => False
theorem VOk.mono {k k' : Nat} (hk : k ≤ k') : ∀ {d d' : Nat} {u : U}, d ≤ d' → VOk k d u → VOk k' d' u
  | d, d', .non, _, _ => by cases d' <;> trivial
  | d, d', .bl _, _, _ => by cases d' <;> trivial
  | d, d', .int _, _, _ => by cases d' <;> trivial
  | d, d', .str x, _, h => by
    have h : x.length ≤ k := by cases d <;> exact h
    have : x.length ≤ k' := Nat.le_trans h hk
    cases d' <;> exact this
  | 0, _, .tup _, _, h => h.elim
  | 0, _, .lst _, _, h => h.elim
  | d + 1, 0, .tup _, hd, _ => absurd hd (by omega)
  | d + 1, 0, .lst _, hd, _ => absurd hd (by omega)
  | d + 1, d' + 1, .tup xs, hd, h => ⟨Nat.le_trans h.1 hk, fun x hx => VOk.mono hk (Nat.le_of_succ_le_succ hd) (h.2 x hx)⟩
  | d + 1, d' + 1, .lst xs, hd, h => ⟨Nat.le_trans h.1 hk, fun x hx => VOk.mono hk (Nat.le_of_succ_le_succ hd) (h.2 x hx)⟩
  | d, _, .frz _, _, h => by cases d <;> exact h.elim
  | d, _, .hdl _, _, h => by cases d <;> exact h.elim
  | d, _, .fn _, _, h => by cases d <;> exact h.elim
theorem VOk.deref {k d : Nat} {u : U} {st : Store} (h : VOk k d u) : deref st u = u := by
  cases u with
  | hdl n => cases d <;> exact h.elim
  | _ => rfl
theorem dats_of {k d : Nat} (ih : ∀ u, VOk k d u → ∃ D, dat u = some D ∧ D.depth ≤ d) : ∀ xs : List U, (∀ x ∈ xs, VOk k d x) → ∃ Ds, dats xs = some Ds ∧ PyData.depthAll Ds ≤ d
  | [], _ => ⟨[], by simp [dats], by simp [PyData.depthAll]⟩
  | x :: xs, h => by
    obtain ⟨D, e1, h1⟩ := ih x (h x (by simp))
    obtain ⟨Ds, e2, h2⟩ := dats_of ih xs fun y hy => h y (by simp [hy])
    exact ⟨D :: Ds, by simp [dats, e1, e2], by simp [PyData.depthAll]; omega⟩
theorem VOk.dat {k : Nat} : ∀ {d : Nat} {u : U}, VOk k d u → ∃ D, dat u = some D ∧ D.depth ≤ d
  | d, .non, _ => ⟨.none, by simp [Z.dat], by simp [PyData.depth]⟩
  | d, .bl b, _ => ⟨.bool b, by simp [Z.dat], by simp [PyData.depth]⟩
  | d, .int i, _ => ⟨.int i, by simp [Z.dat], by simp [PyData.depth]⟩
  | d, .str x, _ => ⟨.str x, by simp [Z.dat], by simp [PyData.depth]⟩
  | 0, .tup _, h => h.elim
  | 0, .lst _, h => h.elim
  | d + 1, .tup xs, h => by
    obtain ⟨Ds, e, hd⟩ := dats_of (k := k) (d := d) (fun u hu => VOk.dat hu) xs h.2
    exact ⟨.tuple Ds, by simp [Z.dat, e], by simp [PyData.depth]; omega⟩
  | d + 1, .lst xs, h => by
    obtain ⟨Ds, e, hd⟩ := dats_of (k := k) (d := d) (fun u hu => VOk.dat hu) xs h.2
    exact ⟨.list Ds, by simp [Z.dat, e], by simp [PyData.depth]; omega⟩
  | d, .frz _, h => by cases d <;> exact h.elim
  | d, .hdl _, h => by cases d <;> exact h.elim
  | d, .fn _, h => by cases d <;> exact h.elim
/-- == with a text -/
def isS (u : U) (x : Str) : Bool := match u with
  | .str y => y == x
  | _ => false
theorem eqU_str {k d : Nat} {u : U} {x : Str} {st : Store} (h : VOk k d u) (hd : d ≤ 64) : eqU st u (.str x) = some (isS u x) := by
  obtain ⟨D, e, hD⟩ := h.dat
  have e2 : Z.dat (.str x) = some (.str x) := by simp [Z.dat]
  unfold eqU
  rw [h.deref, show deref st (.str x) = .str x from rfl, e, e2]
  simp only
  rw [if_pos ⟨by omega, by simp [PyData.depth]⟩]
  congr 1
  cases u with
  | str y => simp [Z.dat] at e; subst e; simp [PyData.eqv, isS]
  | non => simp [Z.dat] at e; subst e; simp [PyData.eqv, isS]
  | bl b => simp [Z.dat] at e; subst e; simp [PyData.eqv, isS]
  | int b => simp [Z.dat] at e; subst e; simp [PyData.eqv, isS]
  | tup xs => 
    simp only [Z.dat, Option.map_eq_some_iff] at e
    obtain ⟨Ds, _, rfl⟩ := e
    simp [PyData.eqv, isS]
  | lst xs => 
    simp only [Z.dat, Option.map_eq_some_iff] at e
    obtain ⟨Ds, _, rfl⟩ := e
    simp [PyData.eqv, isS]
  | frz xs => cases d <;> exact h.elim
  | hdl n => cases d <;> exact h.elim
  | fn n => cases d <;> exact h.elim
@[simp] theorem eqU_int (st : Store) (i j : Int) : eqU st (.int i) (.int j) = some (i == j) := by
  simp [eqU, deref, dat, PyData.depth, PyData.eqv]
@[simp] theorem eqU_bl (st : Store) (i j : Bool) : eqU st (.bl i) (.bl j) = some (i == j) := by
  simp [eqU, deref, dat, PyData.depth, PyData.eqv]
@[simp] theorem truth_bl (st : Store) (b : Bool) : truth st (.bl b) = some b := rfl
@[simp] theorem deref_S (st : Store) (x : Str) : deref st (.str x) = .str x := rfl
@[simp] theorem deref_T (st : Store) (x : List U) : deref st (.tup x) = .tup x := rfl
@[simp] theorem deref_L (st : Store) (x : List U) : deref st (.lst x) = .lst x := rfl
@[simp] theorem deref_F (st : Store) (x : List U) : deref st (.frz x) = .frz x := rfl
@[simp] theorem deref_I (st : Store) (x : Int) : deref st (.int x) = .int x := rfl
@[simp] theorem deref_B (st : Store) (x : Bool) : deref st (.bl x) = .bl x := rfl
@[simp] theorem deref_N (st : Store) : deref st .non = .non := rfl
section
variable (st : Store)
@[simp] theorem oGt_i (i j : Int) : oGt st (.int i) (.int j) = some (.bl (decide (j < i))) := rfl
@[simp] theorem oGe_i (i j : Int) : oGe st (.int i) (.int j) = some (.bl (decide (j ≤ i))) := rfl
@[simp] theorem oLt_i (i j : Int) : oLt st (.int i) (.int j) = some (.bl (decide (i < j))) := rfl
@[simp] theorem oLe_i (i j : Int) : oLe st (.int i) (.int j) = some (.bl (decide (i ≤ j))) := rfl
@[simp] theorem oAdd_i (i j : Int) : oAdd st (.int i) (.int j) = some (.int (i + j)) := rfl
@[simp] theorem oAddI_i (i j : Int) : oAddI st (.int i) (.int j) = some (.int (i + j)) := rfl
@[simp] theorem oSub_i (i j : Int) : oSub st (.int i) (.int j) = some (.int (i - j)) := rfl
theorem oMul_i (i j : Int) (h : mulOk i j = true) : oMul st (.int i) (.int j) = some (.int (i * j)) := by simp [oMul, h]
theorem oDiv_i (i j : Int) (h : 0 < j) (h2 : j < 1073741824) : oDiv st (.int i) (.int j) = some (.int (i / j)) := by simp [oDiv, h, h2]
theorem oMod_i (i j : Int) (h : 0 < j) : oMod st (.int i) (.int j) = some (.int (i % j)) := by simp [oMod, h]
@[simp] theorem oInt_i (i : Int) : oInt st (.int i) = some (.int i) := rfl
@[simp] theorem oNeg_i (i : Int) : oNeg st (.int i) = some (.int (-i)) := rfl
@[simp] theorem oAbs_i (i : Int) : oAbs st (.int i) = some (.int (if i < 0 then -i else i)) := rfl
@[simp] theorem oLen_t (xs : List U) : oLen st (.tup xs) = some (.int xs.length) := rfl
@[simp] theorem oLen_l (xs : List U) : oLen st (.lst xs) = some (.int xs.length) := rfl
theorem oLen_s (x : Str) (h : x.length ≤ 16777216) : oLen st (.str x) = some (.int x.length) := by simp [oLen, h]
@[simp] theorem isi_S (x : Str) : tyU st (.str x) = some "str" := rfl
@[simp] theorem isi_T (x : List U) : tyU st (.tup x) = some "tuple" := rfl
@[simp] theorem isi_L (x : List U) : tyU st (.lst x) = some "list" := rfl
@[simp] theorem isi_I (x : Int) : tyU st (.int x) = some "int" := rfl
@[simp] theorem isi_B (x : Bool) : tyU st (.bl x) = some "bool" := rfl
@[simp] theorem isi_N : tyU st .non = some "NoneType" := rfl
@[simp] theorem ixU_t (xs : List U) (k : Int) : ixU st (.tup xs) (.int k) = atI xs k := rfl
@[simp] theorem ixU_l (xs : List U) (k : Int) : ixU st (.lst xs) (.int k) = atI xs k := rfl
@[simp] theorem atI_0 {α : Type} (x : α) (xs : List α) : atI (x :: xs) 0 = some x := by
  unfold atI ixN
  simp
theorem atI_n {α : Type} (xs : List α) (n : Nat) (h : n < xs.length) : atI xs (n : Int) = some xs[n] := atI_nat (by simp [h])
@[simp] theorem atI_1 {α : Type} (x y : α) (xs : List α) : atI (x :: y :: xs) 1 = some y := atI_n (x :: y :: xs) 1 (by simp)
@[simp] theorem atI_2 {α : Type} (x y z : α) (xs : List α) : atI (x :: y :: z :: xs) 2 = some z := atI_n (x :: y :: z :: xs) 2 (by simp)
end
/-! ### loops that look, comprehensions that choose -/
theorem forU_all {P : U → Bool} {B : UEnv → Store → R Fl} {i : Nat} {E : Option U → UEnv} {st : Store} {u : U} : ∀ (xs : List U) (o : Option U)
    (_ : ∀ x ∈ xs, ∀ o, (gNm i x (E o) st).bind B = if P x = true then .ok (.nx (E (some x))) st else .ok (.rt u) st), ∃ o', forU (gNm i) B xs (E o) st = if xs.all P = true then .ok (.nx (E o')) st else .ok (.rt u) st
  | [], o, _ => ⟨o, by simp [forU]⟩
  | x :: xs, o, h => by
    have h1 := h x (by simp) o
    simp only [gNm, R.bind_ok] at h1
    obtain ⟨o', ih⟩ := forU_all (B := B) (i := i) (E := E) (P := P) (u := u) xs (some x) fun y hy o => h y (by simp [hy]) o
    cases hp : P x with
    | true =>
      refine ⟨o', ?_⟩
      simp only [forU, gNm, R.bind_ok, h1, hp, if_true, List.all_cons, Bool.true_and]
      exact ih
    | false =>
      refine ⟨o, ?_⟩
      simp [forU, h1, hp]
theorem lcU_sel {P : U → Bool} {F : U → U} {c : UEnv → Store → R Bool} {f : UEnv → Store → R U} {i : Nat} {ρ : UEnv} {st : Store} : ∀ xs : List U, (∀ x ∈ xs, c (ρ.set i (some x)) st = .ok (P x) st) → (∀ x ∈ xs, P x = true → f (ρ.set i (some x)) st = .ok (F x) st) → lcU (ctName i) c f xs ρ st = .ok ((xs.filter P).map F) st
  | [], _, _ => by simp [lcU]
  | x :: xs, h1, h2 => by
    have ih := lcU_sel (P := P) (F := F) (c := c) (f := f) (i := i) (ρ := ρ) (st := st) xs (fun y hy => h1 y (by simp [hy])) (fun y hy => h2 y (by simp [hy]))
    simp only [lcU, ctName, h1 x (by simp), R.bind_ok]
    cases hp : P x with
    | true => simp [h2 x (by simp) hp, ih, hp]
    | false => simp [ih, hp]
theorem eqU_nil {k d : Nat} {ys : List U} {st : Store} (h : ∀ x ∈ ys, VOk k d x) (hd : d < 64) : eqU st (.lst ys) (.lst []) = some ys.isEmpty := by
  obtain ⟨Ds, e, hD⟩ := dats_of (k := k) (d := d) (fun u hu => VOk.dat hu) ys h
  unfold eqU
  simp only [deref_L, dat, e, dats, Option.map_some]
  rw [if_pos ⟨by simp [PyData.depth]; omega, by simp [PyData.depth, PyData.depthAll]⟩]
  cases ys with
  | nil => simp [dats] at e; subst e; simp [PyData.eqv, PyData.eqvAll]
  | cons y ys =>
    cases Ds with
    | nil =>
      simp only [dats, Option.bind_eq_some_iff, Option.map_eq_some_iff] at e
      obtain ⟨_, _, _, _, z⟩ := e
      cases z
    | cons D Ds => simp [PyData.eqv, PyData.eqvAll]
theorem inU_sign (st : Store) (c : Nat) (z : Str) : inU st (.str ⟨#[c]⟩) (.str z) = some (decide (c ∈ z.cps.toList)) := by
  simp [inU]
theorem inU_lst {k d k' d' : Nat} {u : U} {xs : List U} {st : Store} (h : VOk k d u) (hd : d ≤ 64) (hx : ∀ x ∈ xs, VOk k' d' x) : ∃ D Ds, dat u = some D ∧ dats xs = some Ds ∧ inU st u (.lst xs) = some (Ds.any fun y => PyData.eqv y D) := by
  obtain ⟨D, e, hD⟩ := h.dat
  obtain ⟨Ds, e2, hD2⟩ := dats_of (k := k') (d := d') (fun u hu => VOk.dat hu) xs hx
  refine ⟨D, Ds, e, e2, ?_⟩
  unfold inU
  simp only [deref_L, h.deref, e, e2]
  rw [if_pos (by omega)]
@[simp] theorem isiU_NoneType_int : isiU "NoneType" "int" = false := by decide
@[simp] theorem isiU_NoneType_bool : isiU "NoneType" "bool" = false := by decide
@[simp] theorem isiU_NoneType_str : isiU "NoneType" "str" = false := by decide
@[simp] theorem isiU_NoneType_tuple : isiU "NoneType" "tuple" = false := by decide
@[simp] theorem isiU_NoneType_list : isiU "NoneType" "list" = false := by decide
@[simp] theorem isiU_bool_int : isiU "bool" "int" = true := by decide
@[simp] theorem isiU_bool_bool : isiU "bool" "bool" = true := by decide
@[simp] theorem isiU_bool_str : isiU "bool" "str" = false := by decide
@[simp] theorem isiU_bool_tuple : isiU "bool" "tuple" = false := by decide
@[simp] theorem isiU_bool_list : isiU "bool" "list" = false := by decide
@[simp] theorem isiU_int_int : isiU "int" "int" = true := by decide
@[simp] theorem isiU_int_bool : isiU "int" "bool" = false := by decide
@[simp] theorem isiU_int_str : isiU "int" "str" = false := by decide
@[simp] theorem isiU_int_tuple : isiU "int" "tuple" = false := by decide
@[simp] theorem isiU_int_list : isiU "int" "list" = false := by decide
@[simp] theorem isiU_str_int : isiU "str" "int" = false := by decide
@[simp] theorem isiU_str_bool : isiU "str" "bool" = false := by decide
@[simp] theorem isiU_str_str : isiU "str" "str" = true := by decide
@[simp] theorem isiU_str_tuple : isiU "str" "tuple" = false := by decide
@[simp] theorem isiU_str_list : isiU "str" "list" = false := by decide
@[simp] theorem isiU_tuple_int : isiU "tuple" "int" = false := by decide
@[simp] theorem isiU_tuple_bool : isiU "tuple" "bool" = false := by decide
@[simp] theorem isiU_tuple_str : isiU "tuple" "str" = false := by decide
@[simp] theorem isiU_tuple_tuple : isiU "tuple" "tuple" = true := by decide
@[simp] theorem isiU_tuple_list : isiU "tuple" "list" = false := by decide
@[simp] theorem isiU_list_int : isiU "list" "int" = false := by decide
@[simp] theorem isiU_list_bool : isiU "list" "bool" = false := by decide
@[simp] theorem isiU_list_str : isiU "list" "str" = false := by decide
@[simp] theorem isiU_list_tuple : isiU "list" "tuple" = false := by decide
@[simp] theorem isiU_list_list : isiU "list" "list" = true := by decide
theorem eqv_strL {k d : Nat} {u : U} {x : Str} {D : PyData} (h : VOk k d u) (e : dat u = some D) : PyData.eqv (.str x) D = isS u x := by
  cases u with
  | str y => 
    simp [Z.dat] at e; subst e
    simp only [PyData.eqv, isS]
    rw [Bool.eq_iff_iff]
    simp only [beq_iff_eq]
    exact eq_comm
  | non => simp [Z.dat] at e; subst e; simp [PyData.eqv, isS]
  | bl b => simp [Z.dat] at e; subst e; simp [PyData.eqv, isS]
  | int b => simp [Z.dat] at e; subst e; simp [PyData.eqv, isS]
  | tup xs => 
    simp only [Z.dat, Option.map_eq_some_iff] at e
    obtain ⟨Ds, _, rfl⟩ := e
    simp [PyData.eqv, isS]
  | lst xs => 
    simp only [Z.dat, Option.map_eq_some_iff] at e
    obtain ⟨Ds, _, rfl⟩ := e
    simp [PyData.eqv, isS]
  | frz xs => cases d <;> exact h.elim
  | hdl n => cases d <;> exact h.elim
  | fn n => cases d <;> exact h.elim
theorem dats_strs (l : List Str) : dats (l.map U.str) = some (l.map PyData.str) := by
  induction l with
  | nil => simp [dats]
  | cons x l ih => simp [dats, dat, ih]
theorem inU_strsT {k d : Nat} {u : U} {st : Store} (l : List Str) (h : VOk k d u) (hd : d ≤ 64) : inU st u (.tup (l.map U.str)) = some (l.any (isS u ·)) := by
  obtain ⟨D, e, hD⟩ := h.dat
  unfold inU
  simp only [deref_T, h.deref, e, dats_strs]
  rw [if_pos (by omega)]
  congr 1
  rw [List.any_map]
  congr 1
  funext x
  exact eqv_strL h e
theorem inU_strsL {k d : Nat} {u : U} {st : Store} (l : List Str) (h : VOk k d u) (hd : d ≤ 64) : inU st u (.lst (l.map U.str)) = some (l.any (isS u ·)) := by
  obtain ⟨D, e, hD⟩ := h.dat
  unfold inU
  simp only [deref_L, h.deref, e, dats_strs]
  rw [if_pos (by omega)]
  congr 1
  rw [List.any_map]
  congr 1
  funext x
  exact eqv_strL h e
theorem R.bind_bind {α β γ : Type} (r : R α) (k : α → Store → R β) (l : β → Store → R γ) : (r.bind k).bind l = r.bind fun a st => (k a st).bind l := by
  cases r <;> rfl
theorem R.bind_id {α : Type} (r : R α) : (r.bind fun a st => .ok a st) = r := by
  cases r <;> rfl
theorem vok_str {k d : Nat} {x : Str} : VOk k d (.str x) ↔ x.length ≤ k := by cases d <;> exact Iff.rfl
theorem vok_int {k d : Nat} {i : Int} : VOk k d (.int i) ↔ True := by cases d <;> exact Iff.rfl
theorem vok_bl {k d : Nat} {i : Bool} : VOk k d (.bl i) ↔ True := by cases d <;> exact Iff.rfl
theorem vok_non {k d : Nat} : VOk k d .non ↔ True := by cases d <;> exact Iff.rfl
theorem vok_tup {k d : Nat} {xs : List U} : VOk k (d + 1) (.tup xs) ↔ xs.length ≤ k ∧ ∀ x ∈ xs, VOk k d x := Iff.rfl
theorem vok_lst {k d : Nat} {xs : List U} : VOk k (d + 1) (.lst xs) ↔ xs.length ≤ k ∧ ∀ x ∈ xs, VOk k d x := Iff.rfl
theorem Ok.bb {α β γ : Type} {r : R α} {k : α → Store → R β} {l : β → Store → R γ} {Q : γ → Store → Prop} (h : Ok (r.bind fun a st => (k a st).bind l) Q) : Ok ((r.bind k).bind l) Q := by
  rw [R.bind_bind]; exact h
theorem Ok.bi {α : Type} {r : R α} {Q : α → Store → Prop} (h : Ok r Q) : Ok (r.bind fun a st => .ok a st) Q := by
  rw [R.bind_id]; exact h
theorem eqU_nilT {k d : Nat} {ys : List U} {st : Store} (h : ∀ x ∈ ys, VOk k d x) (hd : d < 64) : eqU st (.tup ys) (.tup []) = some ys.isEmpty := by
  obtain ⟨Ds, e, hD⟩ := dats_of (k := k) (d := d) (fun u hu => VOk.dat hu) ys h
  unfold eqU
  simp only [deref_T, dat, e, dats, Option.map_some]
  rw [if_pos ⟨by simp [PyData.depth]; omega, by simp [PyData.depth, PyData.depthAll]⟩]
  cases ys with
  | nil => simp [dats] at e; subst e; simp [PyData.eqv, PyData.eqvAll]
  | cons y ys =>
    cases Ds with
    | nil =>
      simp only [dats, Option.bind_eq_some_iff, Option.map_eq_some_iff] at e
      obtain ⟨_, _, _, _, z⟩ := e
      cases z
    | cons D Ds => simp [PyData.eqv, PyData.eqvAll]
theorem cutU_mem {α : Type} {xs : List α} {lo hi : Option Int} {x : α} (h : x ∈ cutU xs lo hi) : x ∈ xs := List.mem_of_mem_drop (List.mem_of_mem_take h)
theorem cutU_len {α : Type} (xs : List α) (lo hi : Option Int) : (cutU xs lo hi).length ≤ xs.length := by
  unfold cutU
  rw [List.length_take, List.length_drop]
  omega
theorem oAdd_t {st : Store} {xs ys : List U} (h : xs.length + ys.length ≤ 16777216) : oAdd st (.tup xs) (.tup ys) = some (.tup (xs ++ ys)) := by
  simp [oAdd, h]
theorem oAdd_l {st : Store} {xs ys : List U} (h : xs.length + ys.length ≤ 16777216) : oAdd st (.lst xs) (.lst ys) = some (.lst (xs ++ ys)) := by
  simp [oAdd, h]
@[simp] theorem slU_t (st : Store) (xs : List U) (lo hi : Option Int) : slU st (.tup xs) lo hi = some (.tup (cutU xs lo hi)) := rfl
@[simp] theorem slU_l (st : Store) (xs : List U) (lo hi : Option Int) : slU st (.lst xs) lo hi = some (.lst (cutU xs lo hi)) := rfl
end Z

namespace Z
open PySem PySem.Spec PyProof.Rows L2
def topS (i : Nat) : Stmt := PySem.Challenge.pw_chainpapers_k01_rows_and_seals.main.body.getD i (.Pass ⟨0, 0, 0, 0⟩)
abbrev fuel : Nat := 4000000
def u_MOST_OCTETS : U := .int (20000)
def u_MOST_SEAL : U := .int (4294967295)
def u_SEAL_MODULUS : U := .int (4294967291)
def t_sub : SubT := [("InvalidNumber", "ChainError", true), ("InvalidNumber", "InvalidNumber", true), ("InvalidNumber", "InvalidRow", false), ("InvalidRow", "ChainError", true), ("InvalidRow", "InvalidNumber", false), ("InvalidRow", "InvalidRow", true)]
structure Txt [TB] (K : PySem.W.Frag) (mg : Str → Option Value) : Prop where
  b_abs : mg "abs" = none
  b_bool : mg "bool" = none
  b_int : mg "int" = none
  b_isinstance : mg "isinstance" = none
  b_len : mg "len" = none
  b_list : mg "list" = none
  b_range : mg "range" = none
  b_tuple : mg "tuple" = none
  g_MOST_OCTETS : GlobU ⟨K, mg, TB.T⟩ "MOST_OCTETS" u_MOST_OCTETS
  g_MOST_SEAL : GlobU ⟨K, mg, TB.T⟩ "MOST_SEAL" u_MOST_SEAL
  g_SEAL_MODULUS : GlobU ⟨K, mg, TB.T⟩ "SEAL_MODULUS" u_SEAL_MODULUS
  x_ChainError : ExcZ K mg "ChainError"
  x_InvalidNumber : ExcZ K mg "InvalidNumber"
  x_InvalidRow : ExcZ K mg "InvalidRow"
  subs : ∀ p ∈ t_sub, ExmZ K mg p.1 p.2.1 p.2.2
  d__law_error : DefZ K mg "_law_error" (topS 43) ["_law_call"]
  d__law_cup : DefZ K mg "_law_cup" (topS 18) ["_law_script"]
  d__law_roll : DefZ K mg "_law_roll" (topS 19) ["_law_cup_here", "_law_many"]
  d__law_some : DefZ K mg "_law_some" (topS 20) ["_law_cup_here", "_law_things"]
  d_is_integer : DefZ K mg "is_integer" (topS 2) ["value", "low", "high"]
  d_is_key : DefZ K mg "is_key" (topS 4) ["value"]
  d_check_key : DefZ K mg "check_key" (topS 14) ["key"]
  d_is_tuple : DefZ K mg "is_tuple" (topS 3) ["value", "least", "most"]
  d_is_row : DefZ K mg "is_row" (topS 12) ["value"]
  d_check_row : DefZ K mg "check_row" (topS 13) ["row"]
  d_seal_of_octets : DefZ K mg "seal_of_octets" (topS 15) ["key", "octets"]
  d_seal_of : DefZ K mg "seal_of" (topS 16) ["key", "row"]
  d__law_seal : DefZ K mg "_law_seal" (topS 23) ["_law_key", "_law_row_here"]
  d_law : DefZ K mg "law" (topS 44) ["_law_script"]
/-! _law_error -/
abbrev s__law_error : Stmt := topS 43
abbrev N__law_error : List Str := ["_law_call"]
theorem sc__law_error : FnScope N__law_error ["_law_call"] (defScope s__law_error) := ⟨rfl, rfl, rfl, by decide +kernel, rfl, by decide +kernel, by decide +kernel⟩
abbrev l__law_error : List (Str × Str) := [("InvalidNumber", "number"), ("InvalidRow", "row"), ("ChainError", "other")]
theorem tg__law_error [TB] {X : Cx} (T : Txt X.K X.mg) {q : Str} (g : Addr) (cdv : Value) : LamX.GivesTo X N__law_error "_law_error" (defScope s__law_error) g cdv (defBody s__law_error) "_law_call" q (TTell X.K (lvs X.mg l__law_error)) := tell_gives (fun A s H => (.cons ⟨rfl, by decide, .inl T.x_InvalidNumber.getD⟩ (.cons ⟨rfl, by decide, .inl T.x_InvalidRow.getD⟩ (.cons ⟨rfl, by decide, .inl T.x_ChainError.getD⟩ .nil)))) fun f => rfl
/-! _law_cup -/
abbrev s__law_cup : Stmt := topS 18
abbrev N__law_cup : List Str := ["_law_script", "_law_cell"]
theorem sc__law_cup : FnScope N__law_cup ["_law_script"] (defScope s__law_cup) := ⟨rfl, rfl, rfl, by decide +kernel, rfl, by decide +kernel, by decide +kernel⟩
def g__law_cup : UEnv → Store → R Fl := sSeq (sSet 1 (dUn oAbs (dBin ixU (dBin oAdd (dUn oList (dName 0)) (dLst (dCons (dC (.int 0)) (dNil)))) (dC (.int 0))))) (sRet (dNew (dCons (dIf (dTest (dBin oGe (dName 1) (dBin oPow (dC (.int 10)) (dC (.int 18))))) (dBin oDiv (dName 1) (dC (.int 71))) (dC (.int 0))) (dCons (dBin oAdd (dBin oMod (dUn oInt (dBin oAdd (dBin oMul (dName 1) (dC (.int 281))) (dC (.int 2683)))) (dC (.int 2077503161))) (dC (.int 167))) (dNil)))))
def F__law_cup : FnZ := runB 2 g__law_cup
theorem t__law_cup [TB] {P : Program} {w : World} {K : PySem.W.Frag} {mg : Str → Option Value} {base : Heap} (T : Txt K mg)  : CalZ P w K mg base 1 "_law_cup" 1 F__law_cup :=
  T.d__law_cup.cal (k := 0) (N := N__law_cup) sc__law_cup (fun f cdv A outer s H E hr => (zb_cons (zs_set (i := 1) sc__law_cup.nd (ze_b1 b_abs T.b_abs (ze_ix (ze_bin z_add (ze_ty1 (b_list rfl) T.b_list (ze_name (i := 0))) (ze_lst (za_cons ze_int za_nil))) ze_int))) (zb_one (zs_ret (ze_new (za_cons (ze_if (zt_cmp z_ge (ze_name (i := 1)) (ze_bin z_pow ze_int ze_int)) (ze_bin z_div (ze_name (i := 1)) ze_int) ze_int) (za_cons (ze_bin z_add (ze_bin z_mod (ze_ty1 b_int T.b_int (ze_bin z_add (ze_bin z_mul (ze_name (i := 1)) ze_int) ze_int)) ze_int) ze_int) za_nil)))))))
/-! _law_roll -/
abbrev s__law_roll : Stmt := topS 19
abbrev N__law_roll : List Str := ["_law_cup_here", "_law_many", "_law_found", "_law_deep"]
theorem sc__law_roll : FnScope N__law_roll ["_law_cup_here", "_law_many"] (defScope s__law_roll) := ⟨rfl, rfl, rfl, by decide +kernel, rfl, by decide +kernel, by decide +kernel⟩
def g__law_roll : UEnv → Store → R Fl := sSeq (sIf (dTest (dBin oGt (dBin ixU (dName 0) (dC (.int 0))) (dC (.int 0)))) (sSeq (sSet 2 (dBin oMod (dUn oInt (dBin ixU (dName 0) (dC (.int 0)))) (dName 1))) (sSeq (sAsg (dBin oDiv (dBin ixU (dName 0) (dC (.int 0))) (dName 1)) (gSubL (dName 0) (dC (.int 0)))) (sRet (dName 2)))) (sNext)) (sSeq (sAsg (dBin oMod (dUn oInt (dBin oAdd (dBin oMul (dBin ixU (dName 0) (dC (.int 1))) (dC (.int 31051))) (dC (.int 7993)))) (dC (.int 2147483543))) (gSubL (dName 0) (dC (.int 1)))) (sSeq (sSet 3 (dBin oMod (dUn oInt (dBin oMul (dBin ixU (dName 0) (dC (.int 1))) (dBin oAdd (dBin ixU (dName 0) (dC (.int 1))) (dC (.int 233))))) (dC (.int 2147483587)))) (sRet (dBin oMod (dUn oInt (dBin oDiv (dName 3) (dC (.int 823)))) (dName 1)))))
def F__law_roll : FnZ := runB 4 g__law_roll
theorem t__law_roll [TB] {P : Program} {w : World} {K : PySem.W.Frag} {mg : Str → Option Value} {base : Heap} (T : Txt K mg)  : CalZ P w K mg base 1 "_law_roll" 2 F__law_roll :=
  T.d__law_roll.cal (k := 0) (N := N__law_roll) sc__law_roll (fun f cdv A outer s H E hr => (zb_cons (zs_if (zt_cmp z_gt (ze_ix (ze_name (i := 0)) ze_int) ze_int) (zb_cons (zs_set (i := 2) sc__law_roll.nd (ze_bin z_mod (ze_ty1 b_int T.b_int (ze_ix (ze_name (i := 0)) ze_int)) (ze_name (i := 1)))) (zb_cons (zs_asg (ze_bin z_div (ze_ix (ze_name (i := 0)) ze_int) (ze_name (i := 1))) (zg_sub (ze_name (i := 0)) ze_int)) (zb_one (zs_ret (ze_name (i := 2)))))) zb_nil) (zb_cons (zs_asg (ze_bin z_mod (ze_ty1 b_int T.b_int (ze_bin z_add (ze_bin z_mul (ze_ix (ze_name (i := 0)) ze_int) ze_int) ze_int)) ze_int) (zg_sub (ze_name (i := 0)) ze_int)) (zb_cons (zs_set (i := 3) sc__law_roll.nd (ze_bin z_mod (ze_ty1 b_int T.b_int (ze_bin z_mul (ze_ix (ze_name (i := 0)) ze_int) (ze_bin z_add (ze_ix (ze_name (i := 0)) ze_int) ze_int))) ze_int)) (zb_one (zs_ret (ze_bin z_mod (ze_ty1 b_int T.b_int (ze_bin z_div (ze_name (i := 3)) ze_int)) (ze_name (i := 1)))))))))
/-! _law_some -/
abbrev s__law_some : Stmt := topS 20
abbrev N__law_some : List Str := ["_law_cup_here", "_law_things"]
theorem sc__law_some : FnScope N__law_some ["_law_cup_here", "_law_things"] (defScope s__law_some) := ⟨rfl, rfl, rfl, by decide +kernel, rfl, by decide +kernel, by decide +kernel⟩
def g__law_some : UEnv → Store → R Fl := sRet (dBin ixU (dName 1) (dCall F__law_roll (dCons (dName 0) (dCons (dUn oLen (dName 1)) (dNil)))))
def F__law_some : FnZ := runB 2 g__law_some
theorem t__law_some [TB] {P : Program} {w : World} {K : PySem.W.Frag} {mg : Str → Option Value} {base : Heap} (T : Txt K mg) (c__law_roll : CalZ P w K mg base 1 "_law_roll" 2 F__law_roll) : CalZ P w K mg base 2 "_law_some" 2 F__law_some :=
  T.d__law_some.cal (k := 1) (N := N__law_some) sc__law_some (fun f cdv A outer s H E hr => (zb_one (zs_ret (ze_ix (ze_name (i := 1)) (ze_call c__law_roll hr (za_cons (ze_name (i := 0)) (za_cons (ze_b1 b_len T.b_len (ze_name (i := 1))) za_nil)))))))
/-! is_integer -/
abbrev s_is_integer : Stmt := topS 2
abbrev N_is_integer : List Str := ["value", "low", "high"]
theorem sc_is_integer : FnScope N_is_integer ["value", "low", "high"] (defScope s_is_integer) := ⟨rfl, rfl, rfl, by decide +kernel, rfl, by decide +kernel, by decide +kernel⟩
def g_is_integer : UEnv → Store → R Fl := sRet (dAnd (dIsi "int" (dName 0)) (dAnd (dNot (dIsi "bool" (dName 0))) (dChain oLe oLe (dName 1) (dName 0) (dName 2))))
def F_is_integer : FnZ := runB 3 g_is_integer
theorem t_is_integer [TB] {P : Program} {w : World} {K : PySem.W.Frag} {mg : Str → Option Value} {base : Heap} (T : Txt K mg)  : CalZ P w K mg base 1 "is_integer" 3 F_is_integer :=
  T.d_is_integer.cal (k := 0) (N := N_is_integer) sc_is_integer (fun f cdv A outer s H E hr => (zb_one (zs_ret (ze_and (ze_isi isi_int T.b_isinstance T.b_int (ze_name (i := 0))) (ze_and (ze_not (ze_isi isi_bool T.b_isinstance T.b_bool (ze_name (i := 0)))) (ze_one (ze_chain z_le z_le (ze_name (i := 1)) (ze_name (i := 0)) (ze_name (i := 2)))))))))
/-! is_key -/
abbrev s_is_key : Stmt := topS 4
abbrev N_is_key : List Str := ["value"]
theorem sc_is_key : FnScope N_is_key ["value"] (defScope s_is_key) := ⟨rfl, rfl, rfl, by decide +kernel, rfl, by decide +kernel, by decide +kernel⟩
def g_is_key : UEnv → Store → R Fl := sRet (dCall F_is_integer (dCons (dName 0) (dCons (dC (.int 0)) (dCons (dC u_MOST_SEAL) (dNil)))))
def F_is_key : FnZ := runB 1 g_is_key
theorem t_is_key [TB] {P : Program} {w : World} {K : PySem.W.Frag} {mg : Str → Option Value} {base : Heap} (T : Txt K mg) (c_is_integer : CalZ P w K mg base 1 "is_integer" 3 F_is_integer) : CalZ P w K mg base 2 "is_key" 1 F_is_key :=
  T.d_is_key.cal (k := 1) (N := N_is_key) sc_is_key (fun f cdv A outer s H E hr => (zb_one (zs_ret (ze_call c_is_integer hr (za_cons (ze_name (i := 0)) (za_cons ze_int (za_cons (ze_glob T.g_MOST_SEAL) za_nil)))))))
/-! check_key -/
abbrev s_check_key : Stmt := topS 14
abbrev N_check_key : List Str := ["key"]
theorem sc_check_key : FnScope N_check_key ["key"] (defScope s_check_key) := ⟨rfl, rfl, rfl, by decide +kernel, rfl, by decide +kernel, by decide +kernel⟩
def g_check_key : UEnv → Store → R Fl := sIf (tNotZ (dTru (dCall F_is_key (dCons (dName 0) (dNil))))) (sRaise "InvalidNumber") (sNext)
def F_check_key : FnZ := runB 1 g_check_key
theorem t_check_key [TB] {P : Program} {w : World} {K : PySem.W.Frag} {mg : Str → Option Value} {base : Heap} (T : Txt K mg) (c_is_key : CalZ P w K mg base 2 "is_key" 1 F_is_key) : CalZ P w K mg base 3 "check_key" 1 F_check_key :=
  T.d_check_key.cal (k := 2) (N := N_check_key) sc_check_key (fun f cdv A outer s H E hr => (zb_one (zs_if (zt_not (zt_truth (ze_call c_is_key hr (za_cons (ze_name (i := 0)) za_nil)))) (zb_one (zs_raise T.x_InvalidNumber)) zb_nil)))
/-! is_tuple -/
abbrev s_is_tuple : Stmt := topS 3
abbrev N_is_tuple : List Str := ["value", "least", "most"]
theorem sc_is_tuple : FnScope N_is_tuple ["value", "least", "most"] (defScope s_is_tuple) := ⟨rfl, rfl, rfl, by decide +kernel, rfl, by decide +kernel, by decide +kernel⟩
def g_is_tuple : UEnv → Store → R Fl := sRet (dAnd (dIsi "tuple" (dName 0)) (dChain oLe oLe (dName 1) (dUn oLen (dName 0)) (dName 2)))
def F_is_tuple : FnZ := runB 3 g_is_tuple
theorem t_is_tuple [TB] {P : Program} {w : World} {K : PySem.W.Frag} {mg : Str → Option Value} {base : Heap} (T : Txt K mg)  : CalZ P w K mg base 1 "is_tuple" 3 F_is_tuple :=
  T.d_is_tuple.cal (k := 0) (N := N_is_tuple) sc_is_tuple (fun f cdv A outer s H E hr => (zb_one (zs_ret (ze_and (ze_isi isi_tuple T.b_isinstance T.b_tuple (ze_name (i := 0))) (ze_one (ze_chain z_le z_le (ze_name (i := 1)) (ze_b1 b_len T.b_len (ze_name (i := 0))) (ze_name (i := 2))))))))
/-! is_row -/
abbrev s_is_row : Stmt := topS 12
abbrev N_is_row : List Str := ["value", "octet"]
theorem sc_is_row : FnScope N_is_row ["value"] (defScope s_is_row) := ⟨rfl, rfl, rfl, by decide +kernel, rfl, by decide +kernel, by decide +kernel⟩
def g_is_row : UEnv → Store → R Fl := sSeq (sIf (tNotZ (dTru (dCall F_is_tuple (dCons (dName 0) (dCons (dC (.int 0)) (dCons (dC u_MOST_OCTETS) (dNil))))))) (sRet (dC (.bl false))) (sNext)) (sSeq (sFor (dIter (dName 0)) (gNm 1) (sIf (tNotZ (dTru (dCall F_is_integer (dCons (dName 1) (dCons (dC (.int 0)) (dCons (dC (.int 255)) (dNil))))))) (sRet (dC (.bl false))) (sNext))) (sRet (dC (.bl true))))
def F_is_row : FnZ := runB 2 g_is_row
theorem t_is_row [TB] {P : Program} {w : World} {K : PySem.W.Frag} {mg : Str → Option Value} {base : Heap} (T : Txt K mg) (c_is_tuple : CalZ P w K mg base 1 "is_tuple" 3 F_is_tuple) (c_is_integer : CalZ P w K mg base 1 "is_integer" 3 F_is_integer) : CalZ P w K mg base 2 "is_row" 1 F_is_row :=
  T.d_is_row.cal (k := 1) (N := N_is_row) sc_is_row (fun f cdv A outer s H E hr => (zb_cons (zs_if (zt_not (zt_truth (ze_call c_is_tuple hr (za_cons (ze_name (i := 0)) (za_cons ze_int (za_cons (ze_glob T.g_MOST_OCTETS) za_nil)))))) (zb_one (zs_ret ze_bl)) zb_nil) (zb_cons (zs_for rfl (zi_any (ze_name (i := 0))) (zg_name (i := 1) sc_is_row.nd) (zb_one (zs_if (zt_not (zt_truth (ze_call c_is_integer hr (za_cons (ze_name (i := 1)) (za_cons ze_int (za_cons ze_int za_nil)))))) (zb_one (zs_ret ze_bl)) zb_nil))) (zb_one (zs_ret ze_bl)))))
/-! check_row -/
abbrev s_check_row : Stmt := topS 13
abbrev N_check_row : List Str := ["row"]
theorem sc_check_row : FnScope N_check_row ["row"] (defScope s_check_row) := ⟨rfl, rfl, rfl, by decide +kernel, rfl, by decide +kernel, by decide +kernel⟩
def g_check_row : UEnv → Store → R Fl := sIf (tNotZ (dTru (dCall F_is_row (dCons (dName 0) (dNil))))) (sRaise "InvalidRow") (sNext)
def F_check_row : FnZ := runB 1 g_check_row
theorem t_check_row [TB] {P : Program} {w : World} {K : PySem.W.Frag} {mg : Str → Option Value} {base : Heap} (T : Txt K mg) (c_is_row : CalZ P w K mg base 2 "is_row" 1 F_is_row) : CalZ P w K mg base 3 "check_row" 1 F_check_row :=
  T.d_check_row.cal (k := 2) (N := N_check_row) sc_check_row (fun f cdv A outer s H E hr => (zb_one (zs_if (zt_not (zt_truth (ze_call c_is_row hr (za_cons (ze_name (i := 0)) za_nil)))) (zb_one (zs_raise T.x_InvalidRow)) zb_nil)))
/-! seal_of_octets -/
abbrev s_seal_of_octets : Stmt := topS 15
abbrev N_seal_of_octets : List Str := ["key", "octets", "rest", "octet"]
theorem sc_seal_of_octets : FnScope N_seal_of_octets ["key", "octets"] (defScope s_seal_of_octets) := ⟨rfl, rfl, rfl, by decide +kernel, rfl, by decide +kernel, by decide +kernel⟩
def g_seal_of_octets : UEnv → Store → R Fl := sSeq (sSet 2 (dBin oMod (dName 0) (dC u_SEAL_MODULUS))) (sSeq (sFor (dIter (dName 1)) (gNm 3) (sSet 2 (dBin oMod (dBin oAdd (dBin oAdd (dBin oMul (dC (.int 257)) (dName 2)) (dName 3)) (dC (.int 1))) (dC u_SEAL_MODULUS)))) (sRet (dBin oMod (dBin oAdd (dBin oMul (dName 2) (dName 2)) (dName 0)) (dC u_SEAL_MODULUS))))
def F_seal_of_octets : FnZ := runB 4 g_seal_of_octets
theorem t_seal_of_octets [TB] {P : Program} {w : World} {K : PySem.W.Frag} {mg : Str → Option Value} {base : Heap} (T : Txt K mg)  : CalZ P w K mg base 1 "seal_of_octets" 2 F_seal_of_octets :=
  T.d_seal_of_octets.cal (k := 0) (N := N_seal_of_octets) sc_seal_of_octets (fun f cdv A outer s H E hr => (zb_cons (zs_set (i := 2) sc_seal_of_octets.nd (ze_bin z_mod (ze_name (i := 0)) (ze_glob T.g_SEAL_MODULUS))) (zb_cons (zs_for rfl (zi_any (ze_name (i := 1))) (zg_name (i := 3) sc_seal_of_octets.nd) (zb_one (zs_set (i := 2) sc_seal_of_octets.nd (ze_bin z_mod (ze_bin z_add (ze_bin z_add (ze_bin z_mul ze_int (ze_name (i := 2))) (ze_name (i := 3))) ze_int) (ze_glob T.g_SEAL_MODULUS))))) (zb_one (zs_ret (ze_bin z_mod (ze_bin z_add (ze_bin z_mul (ze_name (i := 2)) (ze_name (i := 2))) (ze_name (i := 0))) (ze_glob T.g_SEAL_MODULUS)))))))
/-! seal_of -/
abbrev s_seal_of : Stmt := topS 16
abbrev N_seal_of : List Str := ["key", "row"]
theorem sc_seal_of : FnScope N_seal_of ["key", "row"] (defScope s_seal_of) := ⟨rfl, rfl, rfl, by decide +kernel, rfl, by decide +kernel, by decide +kernel⟩
def g_seal_of : UEnv → Store → R Fl := sSeq (sExpr (dCall F_check_key (dCons (dName 0) (dNil)))) (sSeq (sExpr (dCall F_check_row (dCons (dName 1) (dNil)))) (sRet (dCall F_seal_of_octets (dCons (dName 0) (dCons (dName 1) (dNil))))))
def F_seal_of : FnZ := runB 2 g_seal_of
theorem t_seal_of [TB] {P : Program} {w : World} {K : PySem.W.Frag} {mg : Str → Option Value} {base : Heap} (T : Txt K mg) (c_check_key : CalZ P w K mg base 3 "check_key" 1 F_check_key) (c_check_row : CalZ P w K mg base 3 "check_row" 1 F_check_row) (c_seal_of_octets : CalZ P w K mg base 1 "seal_of_octets" 2 F_seal_of_octets) : CalZ P w K mg base 4 "seal_of" 2 F_seal_of :=
  T.d_seal_of.cal (k := 3) (N := N_seal_of) sc_seal_of (fun f cdv A outer s H E hr => (zb_cons (zs_expr (ze_call c_check_key hr (za_cons (ze_name (i := 0)) za_nil))) (zb_cons (zs_expr (ze_call c_check_row hr (za_cons (ze_name (i := 1)) za_nil))) (zb_one (zs_ret (ze_call c_seal_of_octets hr (za_cons (ze_name (i := 0)) (za_cons (ze_name (i := 1)) za_nil))))))))
/-! _law_seal -/
abbrev s__law_seal : Stmt := topS 23
abbrev N__law_seal : List Str := ["_law_key", "_law_row_here", "_law_found", "_law_octet"]
theorem sc__law_seal : FnScope N__law_seal ["_law_key", "_law_row_here"] (defScope s__law_seal) := ⟨rfl, rfl, rfl, by decide +kernel, rfl, by decide +kernel, by decide +kernel⟩
def g__law_seal : UEnv → Store → R Fl := sSeq (sSet 2 (dBin oMod (dUn oInt (dName 0)) (dC (.int 4294967291)))) (sSeq (sFor (dIter (dName 1)) (gNm 3) (sSet 2 (dBin oMod (dUn oInt (dBin oAdd (dBin oAdd (dBin oMul (dName 2) (dC (.int 257))) (dName 3)) (dC (.int 1)))) (dC (.int 4294967291))))) (sRet (dBin oMod (dUn oInt (dBin oAdd (dBin oMul (dName 2) (dName 2)) (dName 0))) (dC (.int 4294967291)))))
def F__law_seal : FnZ := runB 4 g__law_seal
theorem t__law_seal [TB] {P : Program} {w : World} {K : PySem.W.Frag} {mg : Str → Option Value} {base : Heap} (T : Txt K mg)  : CalZ P w K mg base 1 "_law_seal" 2 F__law_seal :=
  T.d__law_seal.cal (k := 0) (N := N__law_seal) sc__law_seal (fun f cdv A outer s H E hr => (zb_cons (zs_set (i := 2) sc__law_seal.nd (ze_bin z_mod (ze_ty1 b_int T.b_int (ze_name (i := 0))) ze_int)) (zb_cons (zs_for rfl (zi_any (ze_name (i := 1))) (zg_name (i := 3) sc__law_seal.nd) (zb_one (zs_set (i := 2) sc__law_seal.nd (ze_bin z_mod (ze_ty1 b_int T.b_int (ze_bin z_add (ze_bin z_add (ze_bin z_mul (ze_name (i := 2)) ze_int) (ze_name (i := 3))) ze_int)) ze_int)))) (zb_one (zs_ret (ze_bin z_mod (ze_ty1 b_int T.b_int (ze_bin z_add (ze_bin z_mul (ze_name (i := 2)) (ze_name (i := 2))) (ze_name (i := 0)))) ze_int))))))
/-! law -/
abbrev s_law : Stmt := topS 44
abbrev N_law : List Str := ["_law_script", "_law_cup_here", "_law_turn", "_law_row_here", "_law_key", "_law_odds", "_law_words", "_law_at", "_law_odd"]
theorem sc_law : FnScope N_law ["_law_script"] (defScope s_law) := ⟨rfl, rfl, rfl, by decide +kernel, rfl, by decide +kernel, by decide +kernel⟩
def g_law : UEnv → Store → R Fl := sSeq (sSet 1 (dCall F__law_cup (dCons (dName 0) (dNil)))) (sSeq (sFor (dRange1 (dC (.int 6))) (gNm 2) (sSeq (sSet 3 (dUn oTuple (dComp [7] (dRange1 (dCall F__law_some (dCons (dName 1) (dCons (dLst (dCons (dC (.int 0)) (dCons (dC (.int 1)) (dCons (dC (.int 2)) (dCons (dC (.int 9)) (dCons (dC (.int 30)) (dNil))))))) (dNil))))) (ctName 7) cYes (dCall F__law_roll (dCons (dName 1) (dCons (dC (.int 256)) (dNil))))))) (sSeq (sSet 4 (dCall F__law_some (dCons (dName 1) (dCons (dLst (dCons (dC (.int 0)) (dCons (dC (.int 1)) (dCons (dCall F__law_roll (dCons (dName 1) (dCons (dC (.int 100000)) (dNil)))) (dCons (dBin oSub (dBin oPow (dC (.int 2)) (dC (.int 32))) (dC (.int 1))) (dCons (dC (.int 4294967291)) (dCons (dC (.int 4294967292)) (dNil)))))))) (dNil))))) (sSeq (sIf (tOrZ (dTest (dBin oIsNot (dCall F_is_row (dCons (dName 3) (dNil))) (dC (.bl true)))) (dTest (dBin oNe (dCall F_seal_of (dCons (dName 4) (dCons (dName 3) (dNil)))) (dCall F__law_seal (dCons (dName 4) (dCons (dUn oList (dName 3)) (dNil))))))) (sRet (dC (.bl false))) (sNext)) (sIf (tOrZ (dTest (dBin oNe (dCall F_seal_of (dCons (dName 4) (dCons (dBin oAdd (dName 3) (dTup (dCons (dC (.int 0)) (dNil)))) (dNil)))) (dCall F__law_seal (dCons (dName 4) (dCons (dBin oAdd (dUn oList (dName 3)) (dLst (dCons (dC (.int 0)) (dNil)))) (dNil)))))) (dTest (dBin oNe (dCall F_seal_of (dCons (dC (.int 7)) (dCons (dName 3) (dNil)))) (dCall F__law_seal (dCons (dC (.int 7)) (dCons (dUn oList (dName 3)) (dNil))))))) (sRet (dC (.bl false))) (sNext)))))) (sSeq (sIf (dTest (dBin oNe (dLst (dCons (dCall F_seal_of (dCons (dC (.int 5)) (dCons (dTup (dNil)) (dNil)))) (dCons (dCall F_seal_of (dCons (dC (.int 1)) (dCons (dTup (dCons (dC (.int 2)) (dCons (dC (.int 3)) (dNil)))) (dNil)))) (dCons (dCall F_seal_of (dCons (dC (.int 0)) (dCons (dTup (dNil)) (dNil)))) (dCons (dCall F_seal_of (dCons (dC (.int 0)) (dCons (dTup (dCons (dC (.int 255)) (dNil))) (dNil)))) (dCons (dCall F_seal_of (dCons (dC (.int 4294967291)) (dCons (dTup (dNil)) (dNil)))) (dNil))))))) (dLst (dCons (dC (.int 30)) (dCons (dC (.int 170479686)) (dCons (dC (.int 0)) (dCons (dC (.int 65536)) (dCons (dC (.int 0)) (dNil))))))))) (sRet (dC (.bl false))) (sNext)) (sSeq (sSet 5 (dLst (dCons (dC .non) (dCons (dLst (dCons (dC (.int 1)) (dNil))) (dCons (dTup (dCons (dC (.int 256)) (dNil))) (dCons (dTup (dCons (dUn oNeg (dC (.int 1))) (dNil))) (dCons (dTup (dCons (dC (.bl true)) (dNil))) (dCons (dTup (dCons (dC (.str "a")) (dNil))) (dCons (dTup (dCons (dC .non) (dNil))) (dCons (dTup (dCons (dC .non) (dCons (dC (.int 0)) (dNil)))) (dCons (dTup (dCons (dTup (dCons (dC (.int 0)) (dNil))) (dNil))) (dNil)))))))))))) (sSeq (sIf (tOrZ (dTest (dBin oNe (dComp [8] (dIter (dName 5)) (ctName 8) (dTest (dBin oIsNot (dCall F_is_row (dCons (dName 8) (dNil))) (dC (.bl false)))) (dName 8)) (dLst (dNil)))) (tOrZ (dTest (dBin oIsNot (dCall F_is_row (dCons (dBin oMul (dTup (dCons (dC (.int 0)) (dNil))) (dC (.int 20000))) (dNil))) (dC (.bl true)))) (dTest (dBin oIsNot (dCall F_is_row (dCons (dTup (dNil)) (dNil))) (dC (.bl true)))))) (sRet (dC (.bl false))) (sNext)) (sSeq (sSet 6 (dComp [8] (dIter (dTup (dCons (dC .non) (dCons (dUn oNeg (dC (.int 1))) (dCons (dBin oPow (dC (.int 2)) (dC (.int 32))) (dCons (dC (.bl true)) (dCons (dC (.str "1")) (dNil)))))))) (ctName 8) cYes (dTell t_sub l__law_error (dCall F_seal_of (dCons (dName 8) (dCons (dC .non) (dNil))))))) (sSeq (sSet 6 (dBin oAdd (dName 6) (dComp [8] (dIter (dName 5)) (ctName 8) cYes (dTell t_sub l__law_error (dCall F_seal_of (dCons (dC (.int 0)) (dCons (dName 8) (dNil)))))))) (sRet (dBin oEq (dName 6) (dBin oAdd (dBin oMul (dLst (dCons (dC (.str "number")) (dNil))) (dC (.int 5))) (dBin oMul (dLst (dCons (dC (.str "row")) (dNil))) (dC (.int 9))))))))))))
def F_law : FnZ := runB 9 g_law
theorem t_law [TB] {P : Program} {w : World} {K : PySem.W.Frag} {mg : Str → Option Value} {base : Heap} (T : Txt K mg) (c__law_cup : CalZ P w K mg base 1 "_law_cup" 1 F__law_cup) (c__law_some : CalZ P w K mg base 2 "_law_some" 2 F__law_some) (c_seal_of : CalZ P w K mg base 4 "seal_of" 2 F_seal_of) (c_is_row : CalZ P w K mg base 2 "is_row" 1 F_is_row) (c__law_roll : CalZ P w K mg base 1 "_law_roll" 2 F__law_roll) (c__law_seal : CalZ P w K mg base 1 "_law_seal" 2 F__law_seal) : ∀ (f : Addr) (fd : FuncData) (c Pt : Addr), FunC K "law" "law" s_law f fd (.ref c) → LamX.TabB base mg c Pt → (Pt, ("law" : Str) ++ ".<locals>." ++ "<lambda>") ∈ TB.T → (∀ p ∈ TB.T, p.1 = Pt → p.2 = ("law" : Str) ++ ".<locals>." ++ "<lambda>") → FnOk P w K mg base (L2.CX P w) 7 f fd ["_law_script"] (spZ ⟨K, mg, TB.T⟩ 1 F_law) :=
  fun f fd c Pt Fn tb hmT hu => fnZC (k := 6) (N := N_law) (ps := ["_law_script"]) (g := g_law) Fn sc_law (fun A outer s H E hr => (zb_cons (zs_set (i := 1) sc_law.nd (ze_call c__law_cup hr (za_cons (ze_name (i := 0)) za_nil))) (zb_cons (zs_for rfl (zi_range1 T.b_range ze_int) (zg_name (i := 2) sc_law.nd) (zb_cons (zs_set (i := 3) sc_law.nd (ze_ty1 b_tuple T.b_tuple (ze_lc (own := [("_law_at", 7)]) (g := gName 7) rfl sc_law.nd (zi_range1 T.b_range (ze_call c__law_some hr (za_cons (ze_name (i := 1)) (za_cons (ze_lst (za_cons ze_int (za_cons ze_int (za_cons ze_int (za_cons ze_int (za_cons ze_int za_nil)))))) za_nil)))) (ct_name (by decide)) (fun _ _ _ _ _ => pg_name (i := 7) sc_law.nd rfl (by first | exact Or.inl rfl | exact Or.inr rfl)) (fun _ _ _ _ _ => (ze_call c__law_roll hr (za_cons (ze_name (i := 1)) (za_cons ze_int za_nil)))) (ok := show blkC N_law (defScope s_law) _ _ = true by decide +kernel)))) (zb_cons (zs_set (i := 4) sc_law.nd (ze_call c__law_some hr (za_cons (ze_name (i := 1)) (za_cons (ze_lst (za_cons ze_int (za_cons ze_int (za_cons (ze_call c__law_roll hr (za_cons (ze_name (i := 1)) (za_cons ze_int za_nil))) (za_cons (ze_bin z_sub (ze_bin z_pow ze_int ze_int) ze_int) (za_cons ze_int (za_cons ze_int za_nil))))))) za_nil)))) (zb_cons (zs_if (ZW.zt (zw_or (zt_cmp z_isnot (ze_call c_is_row hr (za_cons (ze_name (i := 3)) za_nil)) ze_bl) (zw_or1 (zt_cmp (z_ne hr.units) (ze_call c_seal_of hr (za_cons (ze_name (i := 4)) (za_cons (ze_name (i := 3)) za_nil))) (ze_call c__law_seal hr (za_cons (ze_name (i := 4)) (za_cons (ze_ty1 (b_list rfl) T.b_list (ze_name (i := 3))) za_nil))))))) (zb_one (zs_ret ze_bl)) zb_nil) (zb_one (zs_if (ZW.zt (zw_or (zt_cmp (z_ne hr.units) (ze_call c_seal_of hr (za_cons (ze_name (i := 4)) (za_cons (ze_bin z_add (ze_name (i := 3)) (ze_tup (za_cons ze_int za_nil))) za_nil))) (ze_call c__law_seal hr (za_cons (ze_name (i := 4)) (za_cons (ze_bin z_add (ze_ty1 (b_list rfl) T.b_list (ze_name (i := 3))) (ze_lst (za_cons ze_int za_nil))) za_nil)))) (zw_or1 (zt_cmp (z_ne hr.units) (ze_call c_seal_of hr (za_cons ze_int (za_cons (ze_name (i := 3)) za_nil))) (ze_call c__law_seal hr (za_cons ze_int (za_cons (ze_ty1 (b_list rfl) T.b_list (ze_name (i := 3))) za_nil))))))) (zb_one (zs_ret ze_bl)) zb_nil)))))) (zb_cons (zs_if (zt_cmp (z_ne hr.units) (ze_lst (za_cons (ze_call c_seal_of hr (za_cons ze_int (za_cons (ze_tup za_nil) za_nil))) (za_cons (ze_call c_seal_of hr (za_cons ze_int (za_cons (ze_tup (za_cons ze_int (za_cons ze_int za_nil))) za_nil))) (za_cons (ze_call c_seal_of hr (za_cons ze_int (za_cons (ze_tup za_nil) za_nil))) (za_cons (ze_call c_seal_of hr (za_cons ze_int (za_cons (ze_tup (za_cons ze_int za_nil)) za_nil))) (za_cons (ze_call c_seal_of hr (za_cons ze_int (za_cons (ze_tup za_nil) za_nil))) za_nil)))))) (ze_lst (za_cons ze_int (za_cons ze_int (za_cons ze_int (za_cons ze_int (za_cons ze_int za_nil))))))) (zb_one (zs_ret ze_bl)) zb_nil) (zb_cons (zs_set (i := 5) sc_law.nd (ze_lst (za_cons ze_non (za_cons (ze_lst (za_cons ze_int za_nil)) (za_cons (ze_tup (za_cons ze_int za_nil)) (za_cons (ze_tup (za_cons (ze_neg ze_int) za_nil)) (za_cons (ze_tup (za_cons ze_bl za_nil)) (za_cons (ze_tup (za_cons ze_str za_nil)) (za_cons (ze_tup (za_cons ze_non za_nil)) (za_cons (ze_tup (za_cons ze_non (za_cons ze_int za_nil))) (za_cons (ze_tup (za_cons (ze_tup (za_cons ze_int za_nil)) za_nil)) za_nil))))))))))) (zb_cons (zs_if (ZW.zt (zw_or (zt_cmp (z_ne hr.units) (ze_lcIf (own := [("_law_odd", 8)]) (g := gName 8) rfl sc_law.nd (zi_any (ze_name (i := 5))) (ct_name (by decide)) (fun _ _ _ _ _ => pg_name (i := 8) sc_law.nd rfl (by first | exact Or.inl rfl | exact Or.inr rfl)) (fun _ _ _ _ _ => (zt_cmp z_isnot (ze_call c_is_row hr (za_cons (ze_name (i := 8)) za_nil)) ze_bl)) (fun _ _ _ _ _ => (ze_name (i := 8))) (ok := show blkC N_law (defScope s_law) _ _ = true by decide +kernel)) (ze_lst za_nil)) (zw_or (zt_cmp z_isnot (ze_call c_is_row hr (za_cons (ze_bin z_mul (ze_tup (za_cons ze_int za_nil)) ze_int) za_nil)) ze_bl) (zw_or1 (zt_cmp z_isnot (ze_call c_is_row hr (za_cons (ze_tup za_nil) za_nil)) ze_bl))))) (zb_one (zs_ret ze_bl)) zb_nil) (zb_cons (zs_setLc (i := 6) (own := [("_law_odd", 8)]) (g := gName 8) rfl sc_law.nd (zi_any (ze_tup (za_cons ze_non (za_cons (ze_neg ze_int) (za_cons (ze_bin z_pow ze_int ze_int) (za_cons ze_bl (za_cons ze_str za_nil))))))) (ct_name (by decide)) (fun _ _ _ _ _ => pg_name (i := 8) sc_law.nd rfl (by first | exact Or.inl rfl | exact Or.inr rfl)) (fun _ _ _ _ _ => (ze_tell (k := 4) T.d__law_error ⟨_, _, tb, rfl, hmT, hu⟩ (hr.mono (by decide)) sc__law_error (by first | exact Or.inl rfl | exact Or.inr (Or.inl rfl) | exact Or.inr (Or.inr rfl)) (fun g cdv => tg__law_error T g cdv) T.subs (by decide +kernel) (fun A outer s H E f c1 hr => (ze_call c_seal_of hr (za_cons (ze_name (i := 8)) (za_cons ze_non za_nil)))))) (ok := show blkC N_law (defScope s_law) _ _ = true by decide +kernel) (sw_true rfl rfl rfl (by decide +kernel))) (zb_cons (zs_set (i := 6) sc_law.nd (ze_bin z_add (ze_name (i := 6)) (ze_lc (own := [("_law_odd", 8)]) (g := gName 8) rfl sc_law.nd (zi_any (ze_name (i := 5))) (ct_name (by decide)) (fun _ _ _ _ _ => pg_name (i := 8) sc_law.nd rfl (by first | exact Or.inl rfl | exact Or.inr rfl)) (fun _ _ _ _ _ => (ze_tell (k := 4) T.d__law_error ⟨_, _, tb, rfl, hmT, hu⟩ (hr.mono (by decide)) sc__law_error (by first | exact Or.inl rfl | exact Or.inr (Or.inl rfl) | exact Or.inr (Or.inr rfl)) (fun g cdv => tg__law_error T g cdv) T.subs (by decide +kernel) (fun A outer s H E f c1 hr => (ze_call c_seal_of hr (za_cons ze_int (za_cons (ze_name (i := 8)) za_nil)))))) (ok := show blkC N_law (defScope s_law) _ _ = true by decide +kernel)))) (zb_one (zs_ret (ze_cmp (z_eq hr.units) (ze_name (i := 6)) (ze_bin z_add (ze_bin z_mul (ze_lst (za_cons ze_str za_nil)) ze_int) (ze_bin z_mul (ze_lst (za_cons ze_str za_nil)) ze_int)))))))))))))
end Z

namespace Z
open PySem PySem.Spec PyProof.Rows L2

/-! ### the drawing of numbers -/
def Cup (a b : Int) : Cell := .lst [.int a, .int b]
def CupOk (a b : Int) : Prop := 0 ≤ a ∧ 0 ≤ b ∧ b < 4294967296
/-- the store with the cup at n, whatever it holds -/
def CupAt (n : Nat) (st : Store) : Prop := ∃ a b, st[n]? = some (Cup a b) ∧ CupOk a b
/-- drawn from the cup at n -/
def Drew (n : Nat) (st st' : Store) : Prop := ∃ a b, st' = st.set n (Cup a b) ∧ CupOk a b
theorem CupAt.lt {n : Nat} {st : Store} (h : CupAt n st) : n < st.length := by
  obtain ⟨a, b, e, _⟩ := h
  exact (List.getElem?_eq_some_iff.mp e).1
theorem Drew.cup {n : Nat} {st st' : Store} (d : Drew n st st') (h : CupAt n st) : CupAt n st' := by
  obtain ⟨a, b, rfl, ok⟩ := d
  exact ⟨a, b, by rw [List.getElem?_set_self h.lt], ok⟩
theorem Drew.trans {n : Nat} {st st1 st2 : Store} (d : Drew n st st1) (d2 : Drew n st1 st2) : Drew n st st2 := by
  obtain ⟨a, b, rfl, _⟩ := d
  obtain ⟨a2, b2, rfl, ok⟩ := d2
  exact ⟨a2, b2, by rw [List.set_set], ok⟩
theorem deref_cup {n : Nat} {st : Store} {a b : Int} (e : st[n]? = some (Cup a b)) : deref st (.hdl n) = .lst [.int a, .int b] := by
  unfold deref Cup at *
  simp [e]
theorem ix_cup0 {n : Nat} {st : Store} {a b : Int} (e : st[n]? = some (Cup a b)) : ixU st (.hdl n) (.int 0) = some (.int a) := by
  unfold ixU
  rw [deref_cup e]
  rfl
theorem ix_cup1 {n : Nat} {st : Store} {a b : Int} (e : st[n]? = some (Cup a b)) : ixU st (.hdl n) (.int 1) = some (.int b) := by
  unfold ixU
  rw [deref_cup e]
  rfl
theorem set_cup0 {n : Nat} {st : Store} {a b c : Int} (e : st[n]? = some (Cup a b)) : setAt st (.hdl n) (.int 0) (.int c) = some (st.set n (Cup c b)) := by
  unfold setAt
  simp only [e, Cup]
  rfl
theorem set_cup1 {n : Nat} {st : Store} {a b c : Int} (e : st[n]? = some (Cup a b)) : setAt st (.hdl n) (.int 1) (.int c) = some (st.set n (Cup a c)) := by
  unfold setAt
  simp only [e, Cup]
  rfl
theorem mulOk_r {i j : Int} (h : -(2 ^ 64) < j ∧ j < 2 ^ 64) : mulOk i j = true := by
  unfold mulOk
  exact decide_eq_true (.inr h)
theorem mulOk_l {i j : Int} (h : -(2 ^ 64) < i ∧ i < 2 ^ 64) : mulOk i j = true := by
  unfold mulOk
  exact decide_eq_true (.inl h)
theorem roll_ok {n : Nat} {st : Store} {many : Int} (h : CupAt n st) (h1 : 0 < many) (h2 : many < 1073741824) : Ok (F__law_roll [.hdl n, .int many] st) (fun u st' => ∃ r : Int, u = .int r ∧ 0 ≤ r ∧ r < many ∧ Drew n st st' ∧ CupAt n st') := by
  obtain ⟨a, b, e, ok⟩ := id h
  obtain ⟨ha, hb, hb2⟩ := ok
  unfold F__law_roll runB g__law_roll
  by_cases ha0 : 0 < a
  · refine Ok.eq (r' := .ok (.int (a % many)) (st.set n (Cup (a / many) b))) ?_ (Ok.pure ⟨a % many, rfl, Int.emod_nonneg _ (by omega), Int.emod_lt_of_pos _ h1, ?_, ?_⟩)
    · simp [ix_cup0 e, set_cup0 e, oMod_i, oDiv_i, ha0, h1, h2]
    · exact ⟨_, b, rfl, Int.ediv_nonneg ha (by omega), hb, hb2⟩
    · exact Drew.cup ⟨_, b, rfl, Int.ediv_nonneg ha (by omega), hb, hb2⟩ h
  · have hm : mulOk b 31051 = true := mulOk_r (by omega)
    have hc := Int.emod_nonneg (b * 31051 + 7993) (show (2147483543 : Int) ≠ 0 by decide)
    have hc2 := Int.emod_lt_of_pos (b * 31051 + 7993) (show (0 : Int) < 2147483543 by decide)
    generalize hC : (b * 31051 + 7993) % 2147483543 = c at hc hc2
    have hm2 : mulOk c (c + 233) = true := mulOk_l (by omega)
    have e' : (st.set n (Cup a c))[n]? = some (Cup a c) := by rw [List.getElem?_set_self h.lt]
    refine Ok.eq (r' := .ok (.int (c * (c + 233) % 2147483587 / 823 % many)) (st.set n (Cup a c))) ?_ (Ok.pure ⟨_, rfl, Int.emod_nonneg _ (by omega), Int.emod_lt_of_pos _ h1, ?_, ?_⟩)
    · simp [ix_cup0 e, ix_cup1 e, ix_cup1 e', set_cup1 e, oMod_i, oDiv_i, oMul_i, ha0, h1, h2, hm, hm2, hC]
    · exact ⟨a, c, rfl, ha, hc, by omega⟩
    · exact Drew.cup ⟨a, c, rfl, ha, hc, by omega⟩ h
end Z
namespace Z
open PySem PySem.Spec PyProof.Rows L2
theorem cup_ok (ns : List Int) (h : ns.length ≤ 63) (u : U) (hu : u = .frz (ns.map .int) ∨ u = .lst (ns.map .int)) : ∃ a b, F__law_cup [u] [] = .ok (.hdl 0) [Cup a b] ∧ CupOk a b := by
  have ol : oList [] u = some (.lst (ns.map .int)) := by rcases hu with rfl | rfl <;> rfl
  clear hu
  have key : ∃ c : Int, atI (ns.map U.int ++ [.int 0]) 0 = some (.int c) := by
    cases ns with
    | nil => exact ⟨0, by simp⟩
    | cons n ns => exact ⟨n, by simp⟩
  obtain ⟨c, hc⟩ := key
  have h2 : oAdd [] (.lst (ns.map U.int)) (.lst [.int 0]) = some (.lst (ns.map U.int ++ [.int 0])) := by
    simp only [oAdd, deref]
    rw [if_pos (by simp; omega)]
  generalize hd : (if c < 0 then -c else c) = d
  have hd0 : 0 ≤ d := by
    rw [← hd]
    split <;> omega
  have hm : mulOk d 281 = true := mulOk_r (by omega)
  have hp : oPow [] (.int 10) (.int 18) = some (.int 1000000000000000000) := by
    simp [oPow]
  have q1 := Int.emod_nonneg (d * 281 + 2683) (show (2077503161 : Int) ≠ 0 by decide)
  have q2 := Int.emod_lt_of_pos (d * 281 + 2683) (show (0 : Int) < 2077503161 by decide)
  refine ⟨if 1000000000000000000 ≤ d then d / 71 else 0, (d * 281 + 2683) % 2077503161 + 167, ?_, ?_, by omega, by omega⟩
  · unfold F__law_cup runB g__law_cup
    by_cases hb : 1000000000000000000 ≤ d
    · simp [ol, h2, hc, hd, hp, hb, oMod_i, oDiv_i, oMul_i, hm, Cup]
    · simp [ol, h2, hc, hd, hp, hb, oMod_i, oDiv_i, oMul_i, hm, Cup]
  · split
    · exact Int.ediv_nonneg hd0 (by decide)
    · exact Int.le_refl _
theorem some_ok {n : Nat} {st : Store} {xs : List U} (h : CupAt n st) (h1 : xs ≠ []) (h2 : xs.length < 1073741824) : Ok (F__law_some [.hdl n, .lst xs] st) (fun u st' => u ∈ xs ∧ Drew n st st' ∧ CupAt n st') := by
  have hl : 0 < xs.length := List.length_pos_iff.mpr h1
  unfold F__law_some runB g__law_some
  obtain ⟨u, st', e, r, rfl, r1, r2, d, c⟩ := roll_ok (many := (xs.length : Int)) h (by omega) (by omega)
  have e3 : atI xs r = some (xs[r.toNat]'(by omega)) := by
    have := atI_n xs r.toNat (by omega)
    rwa [Int.toNat_of_nonneg r1] at this
  refine ⟨xs[r.toNat]'(by omega), st', ?_, List.getElem_mem _, d, c⟩
  simp [e, e3]
theorem someT_ok {n : Nat} {st : Store} {xs : List U} (h : CupAt n st) (h1 : xs ≠ []) (h2 : xs.length < 1073741824) : Ok (F__law_some [.hdl n, .tup xs] st) (fun u st' => u ∈ xs ∧ Drew n st st' ∧ CupAt n st') := by
  have hl : 0 < xs.length := List.length_pos_iff.mpr h1
  unfold F__law_some runB g__law_some
  obtain ⟨u, st', e, r, rfl, r1, r2, d, c⟩ := roll_ok (many := (xs.length : Int)) h (by omega) (by omega)
  have e3 : atI xs r = some (xs[r.toNat]'(by omega)) := by
    have := atI_n xs r.toNat (by omega)
    rwa [Int.toNat_of_nonneg r1] at this
  refine ⟨xs[r.toNat]'(by omega), st', ?_, List.getElem_mem _, d, c⟩
  simp [e, e3]
/-- a drawn value -/
def Dp (P : U → Prop) (n : Nat) (st : Store) (u : U) (st' : Store) : Prop := P u ∧ Drew n st st' ∧ CupAt n st'
abbrev Dv (n k d : Nat) (st : Store) (u : U) (st' : Store) : Prop := Dp (VOk k d) n st u st'
theorem some_all {n : Nat} {st : Store} {xs : List U} (P : U → Prop) (h : CupAt n st) (hp : ∀ x ∈ xs, P x) (h1 : xs ≠ []) (h2 : xs.length < 1073741824) : Ok (F__law_some [.hdl n, .lst xs] st) (Dp P n st) :=
  (some_ok h h1 h2).imp fun u st' ⟨hm, d, c⟩ => ⟨hp u hm, d, c⟩
theorem roll_all {n : Nat} {st : Store} {many : Int} (h : CupAt n st) (h1 : 0 < many) (h2 : many < 1073741824) : Ok (F__law_roll [.hdl n, .int many] st) (Dp (fun u => ∃ r : Int, u = .int r ∧ 0 ≤ r ∧ r < many) n st) :=
  (roll_ok h h1 h2).imp fun u st' ⟨r, e, a, b, d, c⟩ => ⟨⟨r, e, a, b⟩, d, c⟩
theorem Dp.then {P P' : U → Prop} {n : Nat} {st st1 st2 : Store} {u w : U} (a : Dp P n st u st1) (b : Dp P' n st1 w st2) : Dp P' n st w st2 := ⟨b.1, a.2.1.trans b.2.1, b.2.2⟩
end Z

namespace Z
open PySem PySem.Spec PyProof.Rows L2
/-- a loop that reckons -/
theorem forU_fold {α : Type} {B : UEnv → Store → R Fl} {i : Nat} {E : Option U → α → UEnv} {st : Store} {g : Int → U} {f : α → Int → α} {J : α → Prop} : ∀ (xs : List Int) (o : Option U) (a : α), J a →
    (∀ x ∈ xs, ∀ o a, J a → (gNm i (g x) (E o a) st).bind B = .ok (.nx (E (some (g x)) (f a x))) st ∧ J (f a x)) → ∃ o', forU (gNm i) B (xs.map g) (E o a) st = .ok (.nx (E o' (xs.foldl f a))) st ∧ J (xs.foldl f a)
  | [], o, a, j, _ => ⟨o, by simp [forU], j⟩
  | x :: xs, o, a, j, h => by
    obtain ⟨h1, j1⟩ := h x (by simp) o a j
    obtain ⟨o', e, j2⟩ := forU_fold (B := B) (i := i) (E := E) (f := f) (g := g) (J := J) (st := st) xs (some (g x)) (f a x) j1 fun y hy => h y (by simp [hy])
    refine ⟨o', ?_, j2⟩
    simp only [gNm, R.bind_ok] at h1
    simp only [List.map_cons, forU, gNm, R.bind_ok, h1, List.foldl_cons]
    exact e
def wholeB (lo hi : Int) : U → Bool
  | .int i => decide (lo ≤ i) && decide (i ≤ hi)
  | _ => false
theorem is_integer_eq {k d : Nat} {v : U} {lo hi : Int} {st : Store} (h : VOk k d v) : F_is_integer [v, .int lo, .int hi] st = .ok (.bl (wholeB lo hi v)) st := by
  unfold F_is_integer runB g_is_integer
  cases v with
  | int i =>
    by_cases h1 : lo ≤ i
    · by_cases h2 : i ≤ hi <;> simp [wholeB, h1, h2]
    · simp [wholeB, h1]
  | hdl n => cases d <;> exact h.elim
  | fn n => cases d <;> exact h.elim
  | frz n => cases d <;> exact h.elim
  | _ => simp [wholeB]
theorem is_key_eq {k d : Nat} {v : U} {st : Store} (h : VOk k d v) : F_is_key [v] st = .ok (.bl (wholeB 0 4294967295 v)) st := by
  unfold F_is_key runB g_is_key
  simp [u_MOST_SEAL, is_integer_eq h]
theorem check_key_eq {k d : Nat} {v : U} {st : Store} (h : VOk k d v) : F_check_key [v] st = if wholeB 0 4294967295 v then .ok .non st else .exc ⟨"InvalidNumber", none⟩ st := by
  unfold F_check_key runB g_check_key
  cases e : wholeB 0 4294967295 v <;> simp [is_key_eq h, e]
def rowB : U → Bool
  | .tup xs => decide (xs.length ≤ 20000) && xs.all (wholeB 0 255)
  | _ => false
theorem is_row_eq {k d : Nat} {v : U} {st : Store} (h : VOk k d v) : F_is_row [v] st = .ok (.bl (rowB v)) st := by
  unfold F_is_row runB g_is_row F_is_tuple runB g_is_tuple
  cases v with
  | tup xs =>
    cases d with
    | zero => exact h.elim
    | succ d =>
      by_cases h2 : xs.length ≤ 20000
      · have h3 : (xs.length : Int) ≤ 20000 := by omega
        obtain ⟨o', e⟩ := forU_all (P := wholeB 0 255) (B := sIf (tNotZ (dTru (dCall F_is_integer (dCons (dName 1) (dCons (dC (.int 0)) (dCons (dC (.int 255)) (dNil))))))) (sRet (dC (.bl false))) (sNext)) (i := 1) (E := fun o => [some (.tup xs), o]) (st := st) (u := .bl false) xs none (by
          intro x hx o
          have h1 := is_integer_eq (lo := 0) (hi := 255) (st := st) (h.2 x hx)
          cases hw : wholeB 0 255 x with
          | true => simp [h1, hw]
          | false => simp [h1, hw])
        cases ha : xs.all (wholeB 0 255) with
        | true =>
          rw [ha] at e
          simp [itemsOf, e, u_MOST_OCTETS, rowB, h2, h3, ha]
        | false =>
          rw [ha] at e
          simp [itemsOf, e, u_MOST_OCTETS, rowB, h2, h3, ha]
      · have h3 : ¬ (xs.length : Int) ≤ 20000 := by omega
        simp [u_MOST_OCTETS, rowB, h2, h3]
  | hdl n => cases d <;> exact h.elim
  | fn n => cases d <;> exact h.elim
  | frz n => cases d <;> exact h.elim
  | _ => simp [rowB]
theorem check_row_eq {k d : Nat} {v : U} {st : Store} (h : VOk k d v) : F_check_row [v] st = if rowB v then .ok .non st else .exc ⟨"InvalidRow", none⟩ st := by
  unfold F_check_row runB g_check_row
  cases e : rowB v <;> simp [is_row_eq h, e]
def sealStep (r o : Int) : Int := (257 * r + o + 1) % 4294967291
def sealF (key : Int) (xs : List Int) : Int :=
  (xs.foldl sealStep (key % 4294967291) * xs.foldl sealStep (key % 4294967291) + key) % 4294967291
def SealJ (r : Int) : Prop := 0 ≤ r ∧ r < 4294967291
theorem sealJ_mod (i : Int) : SealJ (i % 4294967291) := ⟨Int.emod_nonneg _ (by decide), Int.emod_lt_of_pos _ (by decide)⟩
theorem octets_eq {key : Int} {xs : List Int} {st : Store} : F_seal_of_octets [.int key, .tup (xs.map .int)] st = .ok (.int (sealF key xs)) st := by
  unfold F_seal_of_octets runB g_seal_of_octets
  obtain ⟨o', e, j⟩ := forU_fold (B := sSet 2 (dBin oMod (dBin oAdd (dBin oAdd (dBin oMul (dC (.int 257)) (dName 2)) (dName 3)) (dC (.int 1))) (dC u_SEAL_MODULUS))) (i := 3) (g := U.int) (f := sealStep) (J := SealJ) (st := st)
    (E := fun o a => [some (.int key), some (.tup (xs.map .int)), some (.int a), o]) xs none (key % 4294967291) (sealJ_mod _) (by
      intro x hx o a j
      obtain ⟨j1, j2⟩ := j
      refine ⟨?_, sealJ_mod _⟩
      simp [u_SEAL_MODULUS, oMul_i, oMod_i, sealStep, mulOk_r (i := 257) (j := a) (by omega)])
  generalize hr : xs.foldl sealStep (key % 4294967291) = r at *
  obtain ⟨j1, j2⟩ := j
  simp only [u_SEAL_MODULUS] at e
  simp [u_SEAL_MODULUS, oMod_i, itemsOf, e, oMul_i, mulOk_r (i := r) (j := r) (by omega), sealF, hr]
theorem law_seal_core {key : Int} {xs : List Int} {st : Store} {w : U} (hw : w = .lst (xs.map .int)) : F__law_seal [.int key, w] st = .ok (.int (sealF key xs)) st := by
  subst hw
  unfold F__law_seal runB g__law_seal
  obtain ⟨o', e, j⟩ := forU_fold (B := sSet 2 (dBin oMod (dUn oInt (dBin oAdd (dBin oAdd (dBin oMul (dName 2) (dC (.int 257))) (dName 3)) (dC (.int 1)))) (dC (.int 4294967291)))) (i := 3) (g := U.int) (f := sealStep) (J := SealJ) (st := st)
    (E := fun o a => [some (.int key), some (.lst (xs.map .int)), some (.int a), o]) xs none (key % 4294967291) (sealJ_mod _) (by
      intro x hx o a j
      obtain ⟨j1, j2⟩ := j
      refine ⟨?_, sealJ_mod _⟩
      simp [oMul_i, oMod_i, sealStep, mulOk_r (i := a) (j := 257) (by omega), Int.mul_comm])
  generalize hr : xs.foldl sealStep (key % 4294967291) = r at *
  obtain ⟨j1, j2⟩ := j
  simp [oMod_i, itemsOf, e, oMul_i, mulOk_r (i := r) (j := r) (by omega), sealF, hr]
theorem vok_ints {k : Nat} {xs : List Int} (h : xs.length ≤ k) : VOk k 1 (.tup (xs.map .int)) := ⟨by simpa using h, fun x hx => by
  obtain ⟨i, _, rfl⟩ := List.mem_map.mp hx
  trivial⟩
theorem row_ints {xs : List Int} (h3 : xs.length ≤ 20000) (h4 : ∀ x ∈ xs, 0 ≤ x ∧ x ≤ 255) : rowB (.tup (xs.map .int)) = true := by
  simp only [rowB, List.length_map, Bool.and_eq_true, decide_eq_true_eq, List.all_eq_true]
  refine ⟨h3, fun x hx => ?_⟩
  obtain ⟨i, hi, rfl⟩ := List.mem_map.mp hx
  simp [wholeB, h4 i hi]
theorem seal_ok {key : Int} {xs : List Int} {st : Store} (h1 : 0 ≤ key) (h2 : key ≤ 4294967295) (h3 : xs.length ≤ 20000) (h4 : ∀ x ∈ xs, 0 ≤ x ∧ x ≤ 255) : F_seal_of [.int key, .tup (xs.map .int)] st = .ok (.int (sealF key xs)) st := by
  unfold F_seal_of runB g_seal_of
  have r : rowB (.tup (xs.map .int)) = true := by
    simp only [rowB, List.length_map, Bool.and_eq_true, decide_eq_true_eq, List.all_eq_true]
    refine ⟨h3, fun x hx => ?_⟩
    obtain ⟨i, hi, rfl⟩ := List.mem_map.mp hx
    simp [wholeB, h4 i hi]
  have e1 := check_key_eq (k := 0) (d := 0) (v := .int key) (st := st) trivial
  have e2 := check_row_eq (st := st) (vok_ints (xs := xs) h3)
  rw [r] at e2
  simp [wholeB, h1, h2] at e1
  simp [e1, e2, octets_eq]
theorem seal_bad {k d : Nat} {v w : U} {st : Store} (h : VOk k d v) (hk : wholeB 0 4294967295 v = false) : F_seal_of [v, w] st = .exc ⟨"InvalidNumber", none⟩ st := by
  unfold F_seal_of runB g_seal_of
  have e1 := check_key_eq (st := st) h
  simp [hk] at e1
  simp [e1]
theorem seal_badrow {k d : Nat} {w : U} {st : Store} (h : VOk k d w) (hk : rowB w = false) : F_seal_of [.int 0, w] st = .exc ⟨"InvalidRow", none⟩ st := by
  unfold F_seal_of runB g_seal_of
  have e1 := check_key_eq (k := 0) (d := 0) (v := .int 0) (st := st) trivial
  have e2 := check_row_eq (st := st) h
  simp [hk] at e2
  simp [wholeB] at e1
  simp [e1, e2]
end Z

namespace Z
open PySem PySem.Spec PyProof.Rows L2
theorem forU_ok {g : Asg} {f : UEnv → Store → R Fl} {Inv : UEnv → Store → Prop} : ∀ (xs : List U) (ρ : UEnv) (st : Store), Inv ρ st → (∀ x ∈ xs, ∀ ρ st, Inv ρ st → Ok ((g x ρ st).bind f) (fun r st' => ∃ ρ', (r = .nx ρ' ∨ r = .ct ρ') ∧ Inv ρ' st')) → Ok (forU g f xs ρ st) (fun r st' => ∃ ρ', r = .nx ρ' ∧ Inv ρ' st')
  | [], ρ, st, h, _ => ⟨_, _, by simp [forU], ρ, rfl, h⟩
  | x :: xs, ρ, st, h, hb => by
    obtain ⟨r, st1, e, ρ1, hr, h1⟩ := hb x (by simp) ρ st h
    have ih := forU_ok xs ρ1 st1 h1 fun y hy => hb y (by simp [hy])
    simp only [forU]
    rw [← R.bind_bind, e]
    rcases hr with rfl | rfl <;> simpa using ih
theorem lcU_ok {i : Nat} {f : UEnv → Store → R U} {ρ : UEnv} {Inv : Store → Prop} {P : U → Prop} : ∀ (us : List U) (st : Store), Inv st → (∀ x ∈ us, ∀ st, Inv st → Ok (f (ρ.set i (some x)) st) (fun u st' => P u ∧ Inv st')) →
    Ok (lcU (ctName i) cYes f us ρ st) (fun ys st' => ys.length = us.length ∧ (∀ y ∈ ys, P y) ∧ Inv st')
  | [], st, h, _ => ⟨[], st, by simp [lcU], rfl, by simp, h⟩
  | x :: us, st, h, hf => by
    obtain ⟨u, st1, e, pu, h1⟩ := hf x (by simp) st h
    obtain ⟨ys, st2, e2, hl, hp, h2⟩ := lcU_ok us st1 h1 fun y hy => hf y (by simp [hy])
    refine ⟨u :: ys, st2, ?_, by simp [hl], ?_, h2⟩
    · simp [lcU, ctName, e, e2]
    · intro y hy
      rcases List.mem_cons.mp hy with rfl | hy
      · exact pu
      · exact hp y hy
theorem Ok.noexc {α : Type} {r : R α} {P : α → Store → Prop} (h : Ok r P) : Ok r.noexc P := by
  obtain ⟨a, st, rfl, p⟩ := h
  exact ⟨a, st, rfl, p⟩
theorem ints_of {lo hi : Int} : ∀ {ys : List U}, (∀ y ∈ ys, ∃ r : Int, y = .int r ∧ lo ≤ r ∧ r < hi) → ∃ zs : List Int, ys = zs.map .int ∧ ∀ z ∈ zs, lo ≤ z ∧ z < hi
  | [], _ => ⟨[], rfl, by simp⟩
  | y :: ys, h => by
    obtain ⟨r, rfl, h1, h2⟩ := h y (by simp)
    obtain ⟨zs, rfl, hz⟩ := ints_of (ys := ys) fun y hy => h y (by simp [hy])
    refine ⟨r :: zs, rfl, fun z hz' => ?_⟩
    rcases List.mem_cons.mp hz' with rfl | q
    · exact ⟨h1, h2⟩
    · exact hz z q
def Env1 (a : U) (ρ : UEnv) (st : Store) : Prop := ∃ o2 o3 o4, ρ = [some a, some (.hdl 0), o2, o3, o4, none, none, none, none] ∧ CupAt 0 st
abbrev IntIn (lo hi : Int) (u : U) : Prop := ∃ r : Int, u = .int r ∧ lo ≤ r ∧ r < hi
theorem body_ok {a : U} (x : U) (ρ : UEnv) (st : Store) (h : Env1 a ρ st) : Ok ((gNm 2 x ρ st).bind (sSeq (sSet 3 (dUn oTuple (dComp [7] (dRange1 (dCall F__law_some (dCons (dName 1) (dCons (dLst (dCons (dC (.int 0)) (dCons (dC (.int 1)) (dCons (dC (.int 2)) (dCons (dC (.int 9)) (dCons (dC (.int 30)) (dNil))))))) (dNil))))) (ctName 7) cYes (dCall F__law_roll (dCons (dName 1) (dCons (dC (.int 256)) (dNil))))))) (sSeq (sSet 4 (dCall F__law_some (dCons (dName 1) (dCons (dLst (dCons (dC (.int 0)) (dCons (dC (.int 1)) (dCons (dCall F__law_roll (dCons (dName 1) (dCons (dC (.int 100000)) (dNil)))) (dCons (dBin oSub (dBin oPow (dC (.int 2)) (dC (.int 32))) (dC (.int 1))) (dCons (dC (.int 4294967291)) (dCons (dC (.int 4294967292)) (dNil)))))))) (dNil))))) (sSeq (sIf (tOrZ (dTest (dBin oIsNot (dCall F_is_row (dCons (dName 3) (dNil))) (dC (.bl true)))) (dTest (dBin oNe (dCall F_seal_of (dCons (dName 4) (dCons (dName 3) (dNil)))) (dCall F__law_seal (dCons (dName 4) (dCons (dUn oList (dName 3)) (dNil))))))) (sRet (dC (.bl false))) (sNext)) (sIf (tOrZ (dTest (dBin oNe (dCall F_seal_of (dCons (dName 4) (dCons (dBin oAdd (dName 3) (dTup (dCons (dC (.int 0)) (dNil)))) (dNil)))) (dCall F__law_seal (dCons (dName 4) (dCons (dBin oAdd (dUn oList (dName 3)) (dLst (dCons (dC (.int 0)) (dNil)))) (dNil)))))) (dTest (dBin oNe (dCall F_seal_of (dCons (dC (.int 7)) (dCons (dName 3) (dNil)))) (dCall F__law_seal (dCons (dC (.int 7)) (dCons (dUn oList (dName 3)) (dNil))))))) (sRet (dC (.bl false))) (sNext)))))) (fun r st' => ∃ ρ', (r = .nx ρ' ∨ r = .ct ρ') ∧ Env1 a ρ' st') := by
  obtain ⟨o2, o3, o4, rfl, hc⟩ := h
  simp only [gNm, R.bind_ok, List.set]
  rw [sSeq]
  simp
  repeat (with_reducible refine Ok.bb ?_)
  refine Ok.bind (some_all (IntIn 0 31) hc (by simp [IntIn]) (by simp) (by simp)) fun u st1 d1 => ?_
  obtain ⟨n, rfl, n1, n2⟩ := d1.1
  have hn : rgOk n := by unfold rgOk; omega
  have hl : (rangeU 0 n).length ≤ 16777216 := by simp [rangeU]; omega
  simp only [hn, if_true, R.bind_ok, hl]
  repeat (with_reducible refine Ok.bb ?_)
  refine Ok.bind (Ok.noexc (lcU_ok (P := IntIn 0 256) (Inv := CupAt 0) (rangeU 0 n) st1 d1.2.2 fun x _ st hc => ?_)) fun ys st2 ⟨hy, hp, hc2⟩ => ?_
  · simp [wipeU]
    repeat (with_reducible refine Ok.bb ?_)
    exact (roll_all hc (by decide) (by decide)).imp fun u st' d => ⟨d.1, d.2.2⟩
  obtain ⟨zs, rfl, hz⟩ := ints_of hp
  have hzl : zs.length ≤ 30 := by
    have : zs.length = (rangeU 0 n).length := by simpa using hy
    rw [this]; simp [rangeU]; omega
  simp [oTuple]
  repeat (with_reducible refine Ok.bb ?_)
  refine Ok.bind (roll_all hc2 (by decide) (by decide)) fun u st3 d3 => ?_
  obtain ⟨r, rfl, r1, r2⟩ := d3.1
  simp [oPow]
  repeat (with_reducible refine Ok.bb ?_)
  refine Ok.bind (some_all (IntIn 0 4294967296) d3.2.2 (by simp [IntIn]; omega) (by simp) (by simp)) fun u st4 d4 => ?_
  obtain ⟨key, rfl, k1, k2⟩ := d4.1
  have hz2 : ∀ z ∈ zs, 0 ≤ z ∧ z ≤ 255 := fun z h => by have := hz z h; omega
  have f0 : rowB (.tup (zs.map .int)) = true := row_ints (by omega) hz2
  have f1 := is_row_eq (st := st4) (vok_ints (k := 30) hzl)
  rw [f0] at f1
  have f2 := seal_ok (st := st4) (key := key) (xs := zs) k1 (by omega) (by omega) hz2
  have f3 := law_seal_core (key := key) (xs := zs) (st := st4) rfl
  have hz3 : ∀ z ∈ zs ++ [0], 0 ≤ z ∧ z ≤ 255 := fun z h => by
    rcases List.mem_append.mp h with h | h
    · exact hz2 z h
    · rw [List.mem_singleton.mp h]; omega
  have hl3 : (zs ++ [0]).length ≤ 20000 := by rw [List.length_append, List.length_singleton]; omega
  have f4 := seal_ok (st := st4) (key := key) (xs := zs ++ [0]) k1 (by omega) hl3 hz3
  have f5 := law_seal_core (key := key) (xs := zs ++ [0]) (st := st4) rfl
  rw [List.map_append] at f4 f5
  simp only [List.map_cons, List.map_nil] at f4 f5
  have f6 := seal_ok (st := st4) (key := 7) (xs := zs) (by omega) (by omega) (by omega) hz2
  have f7 := law_seal_core (key := 7) (xs := zs) (st := st4) rfl
  have a1 := oAdd_t (st := st4) (xs := zs.map U.int) (ys := [.int 0]) (by simp; omega)
  have a2 := oAdd_l (st := st4) (xs := zs.map U.int) (ys := [.int 0]) (by simp; omega)
  have i1 : oIsNot st4 (.bl true) (.bl true) = some (.bl false) := rfl
  have l1 : ∀ y, oList y (.tup (zs.map U.int)) = some (.lst (zs.map U.int)) := fun _ => rfl
  simp [f1, i1, f2, l1, f3, a1, a2, f4, f5, f6, f7, oNe]
  exact Ok.pure ⟨_, .inl rfl, _, _, _, rfl, d4.2.2⟩
theorem seq_ok {f g : UEnv → Store → R Fl} {ρ ρ1 : UEnv} {st st1 : Store} {β : Type} {k : Fl → Store → R β} {Q : β → Store → Prop} (h : f ρ st = .ok (.nx ρ1) st1) (hq : Ok ((g ρ1 st1).bind k) Q) : Ok ((sSeq f g ρ st).bind k) Q := by
  unfold sSeq
  rw [h]
  exact hq
theorem eqvAll_strs : ∀ l : List Str, PyData.eqvAll (l.map PyData.str) (l.map PyData.str) = true
  | [] => by simp [PyData.eqvAll]
  | x :: l => by simp [PyData.eqvAll, PyData.eqv, eqvAll_strs l]
theorem depthAll_strs : ∀ l : List Str, PyData.depthAll (l.map PyData.str) = 0
  | [] => by simp [PyData.depthAll]
  | x :: l => by simp [PyData.depthAll, PyData.depth, depthAll_strs l]
theorem eqU_strs (st : Store) (l : List Str) : eqU st (.lst (l.map U.str)) (.lst (l.map U.str)) = some true := by
  unfold eqU
  simp only [deref_L, dat, dats_strs, Option.map_some]
  rw [if_pos ⟨by simp [PyData.depth, depthAll_strs], by simp [PyData.depth, depthAll_strs]⟩]
  simp [PyData.eqv, eqvAll_strs]
def odds : List U := [.non, .lst [.int 1], .tup [.int 256], .tup [.int (-1)], .tup [.bl true], .tup [.str "a"], .tup [.non], .tup [.non, .int 0], .tup [.tup [.int 0]]]
def keys : List U := [.non, .int (-1), .int 4294967296, .bl true, .str "1"]
theorem odds_vok : ∀ x ∈ odds, VOk 20 2 x := by simp [odds, vok_tup, vok_lst, vok_int, vok_bl, vok_non, vok_str]; decide +kernel
theorem odds_row : ∀ x ∈ odds, rowB x = false := by simp [odds, rowB, wholeB]
theorem keys_vok : ∀ x ∈ keys, VOk 20 0 x := by simp [keys, vok_int, vok_bl, vok_non, vok_str]; decide +kernel
theorem keys_bad : ∀ x ∈ keys, wholeB 0 4294967295 x = false := by simp [keys, wholeB]
theorem sub_nn : subOf t_sub "InvalidNumber" "InvalidNumber" = some true := by decide +kernel
theorem sub_rn : subOf t_sub "InvalidRow" "InvalidNumber" = some false := by decide +kernel
theorem sub_rr : subOf t_sub "InvalidRow" "InvalidRow" = some true := by decide +kernel
theorem rep_zero (n : Nat) : (List.replicate n [U.int 0]).flatten = (List.replicate n (0 : Int)).map U.int := by
  induction n with
  | zero => rfl
  | succ n ih => simp [List.replicate_succ, ih]
theorem many_row (st : Store) (n : Nat) (hn : n ≤ 20000) : F_is_row [.tup (List.replicate n [U.int 0]).flatten] st = .ok (.bl true) st := by
  rw [rep_zero]
  have hl : (List.replicate n (0 : Int)).length ≤ 20000 := by simpa using hn
  have h := is_row_eq (st := st) (vok_ints hl)
  rw [h, row_ints hl (fun x hx => by rw [(List.mem_replicate.mp hx).2]; omega)]
theorem mul_zero (st : Store) (n : Nat) (h1 : 2 ≤ n) (h2 : n ≤ 20000) : oMul st (.tup [.int 0]) (.int n) = some (.tup (List.replicate n [U.int 0]).flatten) := by
  unfold oMul
  simp only [deref_T, deref_I]
  rw [if_pos ⟨by omega, by omega, by simp; omega, by simp⟩, Int.toNat_natCast]
theorem big_row (st : Store) : ∃ big, oMul st (.tup [.int 0]) (.int 20000) = some (.tup big) ∧ F_is_row [.tup big] st = .ok (.bl true) st := by
  have key : ∀ n : Nat, 2 ≤ n → n ≤ 20000 → ∃ big, oMul st (.tup [.int 0]) (.int n) = some (.tup big) ∧ F_is_row [.tup big] st = .ok (.bl true) st := fun n h1 h2 => ⟨_, mul_zero st n h1 h2, many_row st n h2⟩
  exact key 20000 (by omega) (by omega)
theorem law_true (ns : List Int) (hl : ns.length ≤ 63) (a : U) (ha : a = .frz (ns.map .int) ∨ a = .lst (ns.map .int)) : ∃ st, F_law [a] [] = .ok (.bl true) st := by
  obtain ⟨ca, cb, ec, hc⟩ := cup_ok ns hl a ha
  have h0 : CupAt 0 [Cup ca cb] := ⟨ca, cb, rfl, hc⟩
  clear ha
  suffices h : Ok (F_law [a] []) (fun u _ => u = .bl true) by
    obtain ⟨u, st, e, rfl⟩ := h
    exact ⟨st, e⟩
  unfold F_law runB g_law
  rw [sSeq]
  simp only [sSet, dCall, dCons, dNil, dName, List.map, List.append_eq, List.replicate, List.cons_append, List.nil_append, List.length_cons, List.length_nil, List.getElem?_cons_zero, R.bind_ok, ec, List.set]
  generalize [Cup ca cb] = st0 at *
  rw [sSeq]
  simp only [sFor, dRange1, dC, R.bind_ok]
  rw [if_pos (by decide)]
  simp only [R.bind_ok]
  repeat (with_reducible refine Ok.bb ?_)
  refine Ok.bind (forU_ok (Inv := Env1 a) _ _ st0 ⟨none, none, none, rfl, h0⟩ fun x _ ρ st h => body_ok x ρ st h) fun r st1 ⟨ρ1, hr, o2, o3, o4, hρ, h1⟩ => ?_
  subst hr
  subst hρ
  have s1 := seal_ok (st := st1) (key := 5) (xs := []) (by omega) (by omega) (by simp) (by simp)
  have s2 := seal_ok (st := st1) (key := 1) (xs := [2, 3]) (by omega) (by omega) (by simp) (by simp)
  have s3 := seal_ok (st := st1) (key := 0) (xs := []) (by omega) (by omega) (by simp) (by simp)
  have s4 := seal_ok (st := st1) (key := 0) (xs := [255]) (by omega) (by omega) (by simp) (by simp)
  have s5 := seal_ok (st := st1) (key := 4294967291) (xs := []) (by omega) (by omega) (by simp) (by simp)
  rw [show sealF 5 [] = 30 by decide +kernel] at s1
  rw [show sealF 1 [2, 3] = 170479686 by decide +kernel] at s2
  rw [show sealF 0 [] = 0 by decide +kernel] at s3
  rw [show sealF 0 [255] = 65536 by decide +kernel] at s4
  rw [show sealF 4294967291 [] = 0 by decide +kernel] at s5
  simp only [List.map_cons, List.map_nil] at s1 s2 s3 s4 s5
  have q1 : eqU st1 (.lst [.int 30, .int 170479686, .int 0, .int 65536, .int 0]) (.lst [.int 30, .int 170479686, .int 0, .int 65536, .int 0]) = some true := by
    simp [eqU, dat, dats, PyData.depth, PyData.depthAll, PyData.eqv, PyData.eqvAll]
  simp only [R.bind_ok]
  refine seq_ok (ρ1 := [some a, some (.hdl 0), o2, o3, o4, none, none, none, none]) (st1 := st1) (by simp [s1, s2, s3, s4, s5, oNe, q1]) ?_
  refine seq_ok (ρ1 := [some a, some (.hdl 0), o2, o3, o4, some (.lst odds), none, none, none]) (st1 := st1) (by simp [odds]) ?_
  have lr : lcU (ctName 8) (dTest (dBin oIsNot (dCall F_is_row (dCons (dName 8) (dNil))) (dC (.bl false)))) (dName 8) odds [some a, some (.hdl 0), o2, o3, o4, some (.lst odds), none, none, none] st1 = .ok [] st1 := by
    have h := lcU_sel (P := fun _ => false) (F := id) (i := 8) (c := dTest (dBin oIsNot (dCall F_is_row (dCons (dName 8) (dNil))) (dC (.bl false)))) (f := dName 8) (ρ := [some a, some (.hdl 0), o2, o3, o4, some (.lst odds), none, none, none]) (st := st1) odds (fun x hx => by
      have e := is_row_eq (st := st1) (odds_vok x hx)
      rw [odds_row x hx] at e
      have i1 : oIsNot st1 (.bl false) (.bl false) = some (.bl false) := rfl
      simp [e, i1]) (fun x hx h => by cases h)
    rw [show List.filter (fun _ : U => false) odds = [] from List.filter_eq_nil_iff.mpr (by simp)] at h
    exact h
  have z1 : eqU st1 (.lst []) (.lst []) = some true := by simp [eqU, dat, dats, PyData.depth, PyData.depthAll, PyData.eqv, PyData.eqvAll]
  obtain ⟨big, z2, z3⟩ := big_row st1
  have z4 : F_is_row [.tup []] st1 = .ok (.bl true) st1 := is_row_eq (k := 0) (d := 1) (st := st1) ⟨by simp, by simp⟩
  have i2 : oIsNot st1 (.bl true) (.bl true) = some (.bl false) := rfl
  have ol : odds.length ≤ 16777216 := by simp [odds]
  refine seq_ok (ρ1 := [some a, some (.hdl 0), o2, o3, o4, some (.lst odds), none, none, none]) (st1 := st1) (by
    simp only [sIf, tOrZ, dTest, dBin, dComp, dIter, dName, List.getElem?_cons_succ, List.getElem?_cons_zero, R.bind_ok, itemsOf, R.ofO_some, wipeU, List.set]
    simp [ol, lr, oNe, z1, z2, z3, z4, i2]) ?_
  have l1 : ∀ ρ : UEnv, 8 < ρ.length → lcU (ctName 8) cYes (dTell t_sub l__law_error (dCall F_seal_of (dCons (dName 8) (dCons (dC .non) (dNil))))) keys ρ st1 = .ok (keys.map fun _ => .str "number") st1 := fun ρ hρ => by
    have h := lcU_sel (P := fun _ => true) (F := fun _ => .str "number") (i := 8) (c := cYes) (f := dTell t_sub l__law_error (dCall F_seal_of (dCons (dName 8) (dCons (dC .non) (dNil))))) (ρ := ρ) (st := st1) keys (fun x hx => rfl) (fun x hx _ => by
      have e := seal_bad (w := .non) (st := st1) (keys_vok x hx) (keys_bad x hx)
      simp [hρ, e, tellX, sub_nn])
    rw [show List.filter (fun _ : U => true) keys = keys from List.filter_eq_self.mpr (by simp)] at h
    exact h
  have l2 : ∀ ρ : UEnv, 8 < ρ.length → lcU (ctName 8) cYes (dTell t_sub l__law_error (dCall F_seal_of (dCons (dC (.int 0)) (dCons (dName 8) (dNil))))) odds ρ st1 = .ok (odds.map fun _ => .str "row") st1 := fun ρ hρ => by
    have h := lcU_sel (P := fun _ => true) (F := fun _ => .str "row") (i := 8) (c := cYes) (f := dTell t_sub l__law_error (dCall F_seal_of (dCons (dC (.int 0)) (dCons (dName 8) (dNil))))) (ρ := ρ) (st := st1) odds (fun x hx => rfl) (fun x hx _ => by
      have e := seal_badrow (st := st1) (odds_vok x hx) (odds_row x hx)
      simp [hρ, e, tellX, sub_rn, sub_rr])
    rw [show List.filter (fun _ : U => true) odds = odds from List.filter_eq_self.mpr (by simp)] at h
    exact h
  have kk : itemsOf (.tup [.non, .int (-1), .int 4294967296, .bl true, .str "1"]) = some keys := rfl
  have kl : keys.length ≤ 16777216 := by simp [keys]
  refine seq_ok (ρ1 := [some a, some (.hdl 0), o2, o3, o4, some (.lst odds), some (.lst (keys.map fun _ => .str "number")), none, none]) (st1 := st1) (by
    simp only [sSet, dComp]
    simp [oPow, kk, kl, wipeU, l1]) ?_
  have ad := oAdd_l (st := st1) (xs := keys.map fun _ => .str "number") (ys := odds.map fun _ => .str "row") (by simp [keys, odds])
  refine seq_ok (ρ1 := [some a, some (.hdl 0), o2, o3, o4, some (.lst odds), some (.lst ((keys.map fun _ => .str "number") ++ odds.map fun _ => .str "row")), none, none]) (st1 := st1) (by
    simp only [sSet, dComp]
    simp [itemsOf, ol, wipeU, l2, ad]) ?_
  have m1 : oMul st1 (.lst [.str "number"]) (.int 5) = some (.lst (keys.map fun _ => .str "number")) := rfl
  have m2 : oMul st1 (.lst [.str "row"]) (.int 9) = some (.lst (odds.map fun _ => .str "row")) := rfl
  have fin : eqU st1 (.lst ((keys.map fun _ => .str "number") ++ odds.map fun _ => .str "row")) (.lst ((keys.map fun _ => .str "number") ++ odds.map fun _ => .str "row")) = some true := eqU_strs st1 ["number", "number", "number", "number", "number", "row", "row", "row", "row", "row", "row", "row", "row", "row"]
  generalize (keys.map fun _ => U.str "number") = A at *
  generalize (odds.map fun _ => U.str "row") = B at *
  simp [m1, m2, ad, oEq, fin, Ok]
end Z

namespace Z
open PySem PySem.Spec PyProof.Rows L2
theorem t_top [TB] {P : Program} {w : World} {K : PySem.W.Frag} {mg : Str → Option Value} (T : Txt K mg) {f c Pt : Addr} {fd : FuncData} (Fn : FunC K "law" "law" s_law f fd (.ref c)) (hmT : (Pt, ("law" : Str) ++ ".<locals>." ++ "<lambda>") ∈ TB.T) (hu : ∀ p ∈ TB.T, p.1 = Pt → p.2 = ("law" : Str) ++ ".<locals>." ++ "<lambda>") :
    (∀ (s : Shared) (u : Value), BindsTo s fd ⟨[u], []⟩ [("_law_script", u)]) ∧ ∀ base : Heap, LamX.TabB base mg c Pt → FnOk P w K mg base (L2.CX P w) 7 f fd ["_law_script"] (spZ ⟨K, mg, TB.T⟩ 1 F_law) := by
  refine ⟨?_, fun base tb => ?_⟩
  · obtain ⟨oc, od, kV, doc, pm, an, ct, osl, rfl, _, _⟩ := Fn.ex
    exact fun s u => .of_eq rfl
  have c__law_cup := t__law_cup (P := P) (w := w) (base := base) T 
  have c__law_roll := t__law_roll (P := P) (w := w) (base := base) T 
  have c__law_some := t__law_some (P := P) (w := w) (base := base) T c__law_roll
  have c_is_integer := t_is_integer (P := P) (w := w) (base := base) T 
  have c_is_key := t_is_key (P := P) (w := w) (base := base) T c_is_integer
  have c_check_key := t_check_key (P := P) (w := w) (base := base) T c_is_key
  have c_is_tuple := t_is_tuple (P := P) (w := w) (base := base) T 
  have c_is_row := t_is_row (P := P) (w := w) (base := base) T c_is_tuple c_is_integer
  have c_check_row := t_check_row (P := P) (w := w) (base := base) T c_is_row
  have c_seal_of_octets := t_seal_of_octets (P := P) (w := w) (base := base) T 
  have c_seal_of := t_seal_of (P := P) (w := w) (base := base) T c_check_key c_check_row c_seal_of_octets
  have c__law_seal := t__law_seal (P := P) (w := w) (base := base) T 
  exact t_law T c__law_cup c__law_some c_seal_of c_is_row c__law_roll c__law_seal _ _ _ _ Fn tb hmT hu
end Z
open PySem PySem.W PyProof.Rows in
set_option maxRecDepth 100000 in
set_option maxHeartbeats 0 in
theorem PySem.Challenge.cw_chainpapers_k01_rows_and_seals_holds : PySem.Challenge.rw_chainpapers_k01_rows_and_seals.Holds := by
  w_on; o_law; k_head; (case hw => w_witness2)
  k_fill
  refine Z.walkZT (l := PySem.Challenge.rw_chainpapers_k01_rows_and_seals) (F := Z.F_law) (k := 7) (x := "_law_script") (nm := ("law" : Str) ++ ".<locals>." ++ "<lambda>") (c := ?caddr) rfl rfl ⟨rfl, by decide, by decide⟩ List.mem_cons_self Z.law_true ?F ?nT ?hC
  case F =>
    intro w mg fa h KX G hmg
    have hl := PySem.W.mg_of (n := "law") KX G (by k_is)
    have e := hmg.symm.trans hl
    cases e
    letI : Z.TB := ⟨[(279, ("law" : Str) ++ ".<locals>." ++ "<lambda>")]⟩
    refine' ⟨_, Z.t_top (Z.Txt.mk ?b_abs ?b_bool ?b_int ?b_isinstance ?b_len ?b_list ?b_range ?b_tuple ?g_MOST_OCTETS ?g_MOST_SEAL ?g_SEAL_MODULUS ?x_ChainError ?x_InvalidNumber ?x_InvalidRow ?subs ?d__law_error ?d__law_cup ?d__law_roll ?d__law_some ?d_is_integer ?d_is_key ?d_check_key ?d_is_tuple ?d_is_row ?d_check_row ?d_seal_of_octets ?d_seal_of ?d__law_seal ?d_law) (Z.func_mk ?l ?k) List.mem_cons_self (fun p hp _ => by rw [List.mem_singleton.mp hp])⟩
    case l => k_is
    case k => k_is
    case b_abs => exact Z.glob_none KX G (by k_is)
    case b_bool => exact Z.glob_none KX G (by k_is)
    case b_int => exact Z.glob_none KX G (by k_is)
    case b_isinstance => exact Z.glob_none KX G (by k_is)
    case b_len => exact Z.glob_none KX G (by k_is)
    case b_list => exact Z.glob_none KX G (by k_is)
    case b_range => exact Z.glob_none KX G (by k_is)
    case b_tuple => exact Z.glob_none KX G (by k_is)
    case g_MOST_OCTETS => (refine' Z.glob_int KX G ?a; (case a => k_is))
    case g_MOST_SEAL => (refine' Z.glob_int KX G ?a; (case a => k_is))
    case g_SEAL_MODULUS => (refine' Z.glob_int KX G ?a; (case a => k_is))
    case x_ChainError => (refine' Z.exc_mk KX G ?a ?xq ?k ?s ?t; (case a => k_is); (case xq => k_exc); (case k => k_is); (case s => k_is); (case t => k_is))
    case x_InvalidNumber => (refine' Z.exc_mk KX G ?a ?xq ?k ?s ?t; (case a => k_is); (case xq => k_exc); (case k => k_is); (case s => k_is); (case t => k_is))
    case x_InvalidRow => (refine' Z.exc_mk KX G ?a ?xq ?k ?s ?t; (case a => k_is); (case xq => k_exc); (case k => k_is); (case s => k_is); (case t => k_is))
    case subs =>
      refine' (List.forall_mem_cons.mpr ⟨?m0, List.forall_mem_cons.mpr ⟨?m1, List.forall_mem_cons.mpr ⟨?m2, List.forall_mem_cons.mpr ⟨?m3, List.forall_mem_cons.mpr ⟨?m4, List.forall_mem_cons.mpr ⟨?m5, List.forall_mem_nil _⟩⟩⟩⟩⟩⟩)
      case m0 => (refine' Z.exm_mk KX G ?a ?b ?s2 ?k ?t ?sb; (case a => k_is); (case b => k_is); (case s2 => k_is); (case k => k_is); (case t => k_is); (case sb => k_is))
      case m1 => (refine' Z.exm_mk KX G ?a ?b ?s2 ?k ?t ?sb; (case a => k_is); (case b => k_is); (case s2 => k_is); (case k => k_is); (case t => k_is); (case sb => k_is))
      case m2 => (refine' Z.exm_mk KX G ?a ?b ?s2 ?k ?t ?sb; (case a => k_is); (case b => k_is); (case s2 => k_is); (case k => k_is); (case t => k_is); (case sb => k_is))
      case m3 => (refine' Z.exm_mk KX G ?a ?b ?s2 ?k ?t ?sb; (case a => k_is); (case b => k_is); (case s2 => k_is); (case k => k_is); (case t => k_is); (case sb => k_is))
      case m4 => (refine' Z.exm_mk KX G ?a ?b ?s2 ?k ?t ?sb; (case a => k_is); (case b => k_is); (case s2 => k_is); (case k => k_is); (case t => k_is); (case sb => k_is))
      case m5 => (refine' Z.exm_mk KX G ?a ?b ?s2 ?k ?t ?sb; (case a => k_is); (case b => k_is); (case s2 => k_is); (case k => k_is); (case t => k_is); (case sb => k_is))
    case d__law_error => (refine' Z.def_mk KX G ?a ?l ?c ?k ?b; (case a => k_is); (case l => k_is); (case c => k_is); (case k => k_is); (case b => exact fun _ _ _ _ _ _ us hl => match us, hl with | [_], _ => rfl))
    case d__law_cup => (refine' Z.def_mk KX G ?a ?l ?c ?k ?b; (case a => k_is); (case l => k_is); (case c => k_is); (case k => k_is); (case b => exact fun _ _ _ _ _ _ us hl => match us, hl with | [_], _ => rfl))
    case d__law_roll => (refine' Z.def_mk KX G ?a ?l ?c ?k ?b; (case a => k_is); (case l => k_is); (case c => k_is); (case k => k_is); (case b => exact fun _ _ _ _ _ _ us hl => match us, hl with | [_, _], _ => rfl))
    case d__law_some => (refine' Z.def_mk KX G ?a ?l ?c ?k ?b; (case a => k_is); (case l => k_is); (case c => k_is); (case k => k_is); (case b => exact fun _ _ _ _ _ _ us hl => match us, hl with | [_, _], _ => rfl))
    case d_is_integer => (refine' Z.def_mk KX G ?a ?l ?c ?k ?b; (case a => k_is); (case l => k_is); (case c => k_is); (case k => k_is); (case b => exact fun _ _ _ _ _ _ us hl => match us, hl with | [_, _, _], _ => rfl))
    case d_is_key => (refine' Z.def_mk KX G ?a ?l ?c ?k ?b; (case a => k_is); (case l => k_is); (case c => k_is); (case k => k_is); (case b => exact fun _ _ _ _ _ _ us hl => match us, hl with | [_], _ => rfl))
    case d_check_key => (refine' Z.def_mk KX G ?a ?l ?c ?k ?b; (case a => k_is); (case l => k_is); (case c => k_is); (case k => k_is); (case b => exact fun _ _ _ _ _ _ us hl => match us, hl with | [_], _ => rfl))
    case d_is_tuple => (refine' Z.def_mk KX G ?a ?l ?c ?k ?b; (case a => k_is); (case l => k_is); (case c => k_is); (case k => k_is); (case b => exact fun _ _ _ _ _ _ us hl => match us, hl with | [_, _, _], _ => rfl))
    case d_is_row => (refine' Z.def_mk KX G ?a ?l ?c ?k ?b; (case a => k_is); (case l => k_is); (case c => k_is); (case k => k_is); (case b => exact fun _ _ _ _ _ _ us hl => match us, hl with | [_], _ => rfl))
    case d_check_row => (refine' Z.def_mk KX G ?a ?l ?c ?k ?b; (case a => k_is); (case l => k_is); (case c => k_is); (case k => k_is); (case b => exact fun _ _ _ _ _ _ us hl => match us, hl with | [_], _ => rfl))
    case d_seal_of_octets => (refine' Z.def_mk KX G ?a ?l ?c ?k ?b; (case a => k_is); (case l => k_is); (case c => k_is); (case k => k_is); (case b => exact fun _ _ _ _ _ _ us hl => match us, hl with | [_, _], _ => rfl))
    case d_seal_of => (refine' Z.def_mk KX G ?a ?l ?c ?k ?b; (case a => k_is); (case l => k_is); (case c => k_is); (case k => k_is); (case b => exact fun _ _ _ _ _ _ us hl => match us, hl with | [_, _], _ => rfl))
    case d__law_seal => (refine' Z.def_mk KX G ?a ?l ?c ?k ?b; (case a => k_is); (case l => k_is); (case c => k_is); (case k => k_is); (case b => exact fun _ _ _ _ _ _ us hl => match us, hl with | [_, _], _ => rfl))
    case d_law => (refine' Z.def_mk KX G ?a ?l ?c ?k ?b; (case a => k_is); (case l => k_is); (case c => k_is); (case k => k_is); (case b => exact fun _ _ _ _ _ _ us hl => match us, hl with | [_], _ => rfl))
  case nT => decide +kernel
  case hC => intro w; kernel_rfl

