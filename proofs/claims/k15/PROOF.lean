import PyProof.Rows.All
import Wide.All
import OpenK.AllK
import Wide.FinOn
import HandS.ForMost
import HandS.Exc
import HandS.ExcOwn
import HandS.WordsExc
import HandS.Lambda
import HandS.TryMany
import HandS.CallLocal
import HandS.TupAny
import HandS.TupMul
import HandS.TupLe
import HandS.Deep
import HandS.IsInst
import HandS.Flow
import HandS.Zip
import HandS.More
import HandS.Style
import HandS.Small
import KE.KeyNested
import PyProof.DictKeyH
import KE.SortData
import PyProof.P3Eq
import PyProof.ListStr
import HandS.EndTab
import KE.KNestM
import PyProof.ExcBaseAll.ValueError
import HandS.Dict
import HandS.Head0
import HandS.Head1
import HandS.Head2
import HandS.HeadHook4
import HandS.HeadWalk
import Wide.Once
import KE.KStateDown
import HandS.ExcInit
import HandS.ExcField
import HandS.Codes
import KE.GoesMore
import KE.GoesEnum
import PyProof.Draws
import PyProof.EnumMake
import HandS.Iter
import HandS.TupSets
import HandS.Strs
import HandS.ExcValue
import KE.KDictSum
import KE.KDictCopyH
import HandS.SetFor
import PyProof.StrBlock2
import HandS.Sort
import HandS.Conv
import HandS.Wide
import HandS.FStr
import HandS.Defaults
import PyProof.ReprRoads
import PyProof.Rows.NestShow
import PySem.Challenge.RW_chainpapers_k15_whole_changes_of_values
import KE.KIntText
import PySem.Challenge.RW_chainpapers_k15_whole_changes_of_values
set_option Elab.async false
set_option maxRecDepth 100000
set_option linter.all false
set_option maxHeartbeats 4000000
namespace Z
open PySem L2

/-! ### data, store, state -/
inductive U where
  | non | bl (b : Bool) | int (i : Int) | str (x : Str) | tup (xs : List U) | lst (xs : List U) | frz (xs : List U) | hdl (n : Nat) | fn (x : Str) | dct (ks us : List U) | kdc (xs : List Str) (us : List U)
inductive Cell where
  | lst (xs : List U)
  | dct (ks us : List U)
  | ins (c : Str) (fs : List (Str × U))
  | dtu (ks us : List U)
abbrev Store := List Cell
structure MH where
  at_ : Nat → Option Addr
  own : Addr → Prop
structure GC where
  K : PySem.W.Frag
  mg : Str → Option Value
  T : List (Addr × Str)
  w : World
/-- the tables of code objects of a law -/
class TB where
  T : List (Addr × Str)
abbrev gc [TB] (X : Cx) : GC := ⟨X.K, X.mg, TB.T, X.w⟩

def TupK (K : PySem.W.Frag) (a : Addr) (xs : List V) : Prop :=
  (∃ (o : Obj) (its : Array Value) (n : Nat), K.lookup a = some o ∧ o.cls = .type "tuple" ∧ o.data = .seq its n ∧ its.size ≤ sizeLine ∧ Vals xs its.toList) ∧ ∀ o, K.lookup a = some o → o.dict = none
def LstK (K : PySem.W.Frag) (a : Addr) (xs : List V) : Prop :=
  ∃ (o : Obj) (its : Array Value) (n : Nat), K.lookup a = some o ∧ o.cls = .type "list" ∧ o.dict = none ∧ o.data = .seq its n ∧ its.size ≤ sizeLine ∧ Vals xs its.toList

/-- a written dict with text keys: its texts, its values -/
def lookS : List Str → List V → Str → Option V
  | x :: xs, v :: vs, z => if z = x then some v else lookS xs vs z
  | _, _, _ => none
def KD (K : PySem.W.Frag) (w : World) (a : Addr) (xs : List Str) (vs : List V) : Prop :=
  ∃ (es : Array DictEntry) (n : Nat), KDict K w a es n ∧ ∀ z : Str, ∃ r, PySem.W.nsIn K a z = some r ∧ RelO (lookS xs vs z) r
mutual
inductive Rep (G : GC) (m : MH) (H : Hp) : U → V → Prop
  | non : Rep G m H .non .non
  | bl (b : Bool) : Rep G m H (.bl b) (.bl b)
  | int (i : Int) : Rep G m H (.int i) (.int i)
  | str (x : Str) : PyData.strOk x = true → x.length ≤ 16777216 → Rep G m H (.str x) (.str x)
  | tup {a : Addr} {vs : List V} {us : List U} : H a = some (.tup vs) → ¬ m.own a → Reps G m H us vs → Rep G m H (.tup us) (.ref a)
  | tupK {a : Addr} {vs : List V} {us : List U} : TupK G.K a vs → Reps G m H us vs → Rep G m H (.tup us) (.ref a)
  | lst {a : Addr} {vs : List V} {us : List U} : H a = some (.lst vs) → ¬ m.own a → Reps G m H us vs → Rep G m H (.lst us) (.ref a)
  | frz {a : Addr} {o : Obj} {vs : List V} {us : List U} : H a = some (.frz o (.lst vs)) → ¬ m.own a → Reps G m H us vs → Rep G m H (.frz us) (.ref a)
  | frzK {a : Addr} {vs : List V} {us : List U} : LstK G.K a vs → Reps G m H us vs → Rep G m H (.frz us) (.ref a)
  | hdl {n : Nat} {a : Addr} : m.at_ n = some a → Rep G m H (.hdl n) (.ref a)
  | fn {x : Str} {a : Addr} : G.mg x = some (.ref a) → Rep G m H (.fn x) (.ref a)
  | dct {a : Addr} {kvs : List (L2.Key × V)} {ks us : List U} : H a = some (.dK kvs) → ¬ m.own a → Reps G m H ks (kvs.map fun p => kV p.1) → Reps G m H us (kvs.map (·.2)) → Rep G m H (.dct ks us) (.ref a)
  | kdc {a : Addr} {xs : List Str} {us : List U} {vs : List V} : KD G.K G.w a xs vs → Reps G m H us vs → Rep G m H (.kdc xs us) (.ref a)
inductive Reps (G : GC) (m : MH) (H : Hp) : List U → List V → Prop
  | nil : Reps G m H [] []
  | cons {u : U} {us : List U} {v : V} {vs : List V} : Rep G m H u v → Reps G m H us vs → Reps G m H (u :: us) (v :: vs)
end

inductive Flds (G : GC) (m : MH) (H : Hp) : List (Str × U) → List (Str × V) → Prop
  | nil : Flds G m H [] []
  | cons {f : Str} {u : U} {us : List (Str × U)} {v : V} {vs : List (Str × V)} : Rep G m H u v → Flds G m H us vs → Flds G m H ((f, u) :: us) ((f, v) :: vs)

mutual
def keyU : U → NestedKey
  | .bl b => .num (if b = true then 1 else 0)
  | .int i => .num i
  | .str x => .text x
  | .tup us => .tup (keysU us)
  | _ => .none
def keysU : List U → List NestedKey
  | [] => []
  | u :: us => keyU u :: keysU us
end
/-! ### a dict whose keys are tuples, as an object -/
abbrev KL := List (NestedKey × Addr × V)
def entN (w : World) (x : NestedKey × Addr × Value) : DictEntry := ⟨x.1.hash w, .ref x.2.1, x.2.2⟩
def RL (p : NestedKey × Addr × V) (x : NestedKey × Addr × Value) : Prop := p.1 = x.1 ∧ p.2.1 = x.2.1 ∧ RelV p.2.2 x.2.2
def DT0 (w : World) (h : Heap) (a : Addr) (L : KL) : Prop := ∃ (o : Obj) (es : Array DictEntry) (ep : Nat) (xs : List (NestedKey × Addr × Value)), h.get? a = some o ∧ o.ExactDict ∧ o.data = .dict es ep ∧ es.toList = xs.map (entN w) ∧ Paired RL L xs ∧ (xs.map (·.1)).Nodup ∧ (a == sysModules) = false
def DTO (w : World) (a : Addr) (L : KL) : HO := .ext fun h => DT0 w h a L
/-- it is no code object -/
theorem dto_code {w : World} {a : Addr} {L : KL} {q : Str} : DTO w a L ≠ LamX.CodeO a q := by
  intro e
  unfold DTO LamX.CodeO at e
  injection e with e
  have hz : (Array.replicate a (default : Obj)).size = a := by simp
  let h0 : Heap := { objs := Array.replicate a (default : Obj) }
  have hg : (h0.push { cls := .type "code", data := .fields #[.none, .str q 0] }).get? a = some { cls := .type "code", data := .fields #[.none, .str q 0] } := by
    have := Heap.get?_push_size h0 (o := { cls := .type "code", data := .fields #[.none, .str q 0] }) rfl
    have e2 : h0.objs.size = a := hz
    rw [e2] at this
    exact this
  have c := congrFun e (h0.push { cls := .type "code", data := .fields #[.none, .str q 0] })
  have p : ∃ (oc : Obj) (vs : Array Value) (t : Tok), (h0.push { cls := .type "code", data := .fields #[.none, .str q 0] }).get? a = some oc ∧ oc.data = .fields vs ∧ vs[1]? = some (.str q t) := ⟨_, _, 0, hg, rfl, rfl⟩
  rw [← c] at p
  obtain ⟨o, es, ep, xs, g, _, d, _⟩ := p
  rw [hg] at g
  cases g
  cases d
def CellOk (G : GC) (m : MH) (H : Hp) (a : Addr) : Cell → Prop
  | .lst xs => ∃ vs, H a = some (.lst vs) ∧ Reps G m H xs vs
  | .dct ks us => ∃ kvs : List (L2.Key × V), H a = some (.dK kvs) ∧ Reps G m H ks (kvs.map fun p => kV p.1) ∧ Reps G m H us (kvs.map (·.2))
  | .ins c fs => ∃ C dx gs, G.mg c = some (.ref C) ∧ H a = some (.ins C dx gs) ∧ Flds G m H fs gs
  | .dtu ks us => ∃ L : KL, H a = some (DTO G.w a L) ∧ L.map (·.1) = ks.map keyU ∧ Reps G m H ks (L.map fun x => .ref x.2.1) ∧ Reps G m H us (L.map (·.2.2))

/-- what may be new: nothing, or a table -/
def Off (H : Hp) (a : Addr) : Prop := H a = none ∨ ∃ ps, H a = some (.tbl ps)
abbrev NT (o : HO) : Prop := ∀ ps, o ≠ .tbl ps
theorem Off.no {H : Hp} {a : Addr} {o : HO} (h : Off H a) (e : H a = some o) (n : NT o) : False := by
  rcases h with q | ⟨ps, q⟩ <;> rw [e] at q <;> cases q
  exact n _ rfl
structure Sim (G : GC) (m : MH) (H : Hp) (st : Store) : Prop where
  dom : ∀ n, n < st.length → ∃ a, m.at_ n = some a
  lt : ∀ n a, m.at_ n = some a → n < st.length
  inj : ∀ n k a, m.at_ n = some a → m.at_ k = some a → n = k
  own : ∀ n a, m.at_ n = some a → m.own a
  live : ∀ a, m.own a → ∃ o, H a = some o ∧ NT o
  cell : ∀ n c a, st[n]? = some c → m.at_ n = some a → CellOk G m H a c
  tabs : LamX.Tabs G.T H

structure Le (m : MH) (H : Hp) (m' : MH) (H' : Hp) : Prop where
  sub : ∀ n a, m.at_ n = some a → m'.at_ n = some a
  new : ∀ n a, m'.at_ n = some a → m.at_ n = some a ∨ Off H a
  grow : ∀ a, m.own a → m'.own a
  fresh : ∀ a, m'.own a → m.own a ∨ Off H a
  keep : ∀ a o, H a = some o → (∀ n, m.at_ n ≠ some a) → NT o → H' a = some o
  live : ∀ a, Off H' a → Off H a

theorem Le.refl {m : MH} {H : Hp} : Le m H m H := ⟨fun _ _ h => h, fun _ _ h => .inl h, fun _ h => h, fun _ h => .inl h, fun _ _ h _ _ => h, fun _ h => h⟩
theorem Le.off {m m' : MH} {H H' : Hp} (l : Le m H m' H') {a : Addr} {o : HO} (h : H a = some o) (n : ∀ n, m.at_ n ≠ some a) (nt : NT o := by intro _ z; cases z) : ∀ n, m'.at_ n ≠ some a := fun k e => by
  rcases l.new k a e with q | q
  · exact n k q
  · exact q.no h nt
theorem Le.offO {m m' : MH} {H H' : Hp} (l : Le m H m' H') {a : Addr} {o : HO} (h : H a = some o) (n : ¬ m.own a) (nt : NT o := by intro _ z; cases z) : ¬ m'.own a := fun e => by
  rcases l.fresh a e with q | q
  · exact n q
  · exact q.no h nt
theorem Le.trans {m m1 m2 : MH} {H H1 H2 : Hp} (a : Le m H m1 H1) (b : Le m1 H1 m2 H2) : Le m H m2 H2 :=
  ⟨fun n x h => b.sub n x (a.sub n x h), fun n x h => by
    rcases b.new n x h with q | q
    · exact a.new n x q
    · exact .inr (a.live x q), fun x h => b.grow x (a.grow x h), fun x h => by
    rcases b.fresh x h with q | q
    · exact a.fresh x q
    · exact .inr (a.live x q), fun x o h n t => b.keep x o (a.keep x o h n t) (a.off h n t) t, fun x h => a.live x (b.live x h)⟩

section
variable {G : GC} {m m' : MH} {H H' : Hp}
/-- what a value needs of the step -/
structure Stays (m : MH) (H : Hp) (m' : MH) (H' : Hp) : Prop where
  sub : ∀ n a, m.at_ n = some a → m'.at_ n = some a
  keep : ∀ a o, H a = some o → ¬ m.own a → NT o → H' a = some o ∧ ¬ m'.own a
mutual
theorem Rep.stay (l : Stays m H m' H') : ∀ {u : U} {v : V}, Rep G m H u v → Rep G m' H' u v
  | _, _, .non => .non
  | _, _, .bl b => .bl b
  | _, _, .int i => .int i
  | _, _, .str x h z => .str x h z
  | _, _, .tup h n r => .tup (l.keep _ _ h n nofun).1 (l.keep _ _ h n nofun).2 (Reps.stay l r)
  | _, _, .tupK h r => .tupK h (Reps.stay l r)
  | _, _, .lst h n r => .lst (l.keep _ _ h n nofun).1 (l.keep _ _ h n nofun).2 (Reps.stay l r)
  | _, _, .frz h n r => .frz (l.keep _ _ h n nofun).1 (l.keep _ _ h n nofun).2 (Reps.stay l r)
  | _, _, .frzK h r => .frzK h (Reps.stay l r)
  | _, _, .hdl h => .hdl (l.sub _ _ h)
  | _, _, .fn h => .fn h
  | _, _, .dct h n e r => .dct (l.keep _ _ h n nofun).1 (l.keep _ _ h n nofun).2 (Reps.stay l e) (Reps.stay l r)
  | _, _, .kdc h r => .kdc h (Reps.stay l r)
theorem Reps.stay (l : Stays m H m' H') : ∀ {us : List U} {vs : List V}, Reps G m H us vs → Reps G m' H' us vs
  | _, _, .nil => .nil
  | _, _, .cons r t => .cons (Rep.stay l r) (Reps.stay l t)
end
theorem Flds.stay (l : Stays m H m' H') {us : List (Str × U)} {vs : List (Str × V)} (h : Flds G m H us vs) : Flds G m' H' us vs := by
  induction h with
  | nil => exact .nil
  | cons r _ ih => exact .cons (r.stay l) ih
theorem CellOk.live {a : Addr} {c : Cell} (h : CellOk G m H a c) : ∃ o, H a = some o ∧ Mut (some o) := by
  cases c with
  | lst xs => obtain ⟨vs, e, _⟩ := h; exact ⟨_, e, trivial⟩
  | dct ks us => obtain ⟨kvs, e, _⟩ := h; exact ⟨_, e, trivial⟩
  | ins c fs => obtain ⟨C, dx, gs, _, e, _⟩ := h; exact ⟨_, e, trivial⟩
  | dtu ks us => obtain ⟨L, e, _⟩ := h; exact ⟨_, e, trivial⟩
theorem CellOk.stay {a : Addr} {c : Cell} (l : Stays m H m' H') (e : H' a = H a) (h : CellOk G m H a c) : CellOk G m' H' a c := by
  cases c with
  | lst xs => obtain ⟨vs, e1, r⟩ := h; exact ⟨vs, e.trans e1, r.stay l⟩
  | dct ks us => obtain ⟨kvs, e1, k, r⟩ := h; exact ⟨kvs, e.trans e1, k.stay l, r.stay l⟩
  | ins c fs => obtain ⟨C, dx, gs, e1, e2, r⟩ := h; exact ⟨C, dx, gs, e1, e.trans e2, r.stay l⟩
  | dtu ks us => obtain ⟨L, e1, e2, k, r⟩ := h; exact ⟨L, e.trans e1, e2, k.stay l, r.stay l⟩
theorem Sim.atlive {st : Store} (S : Sim G m H st) {n : Nat} {a : Addr} (h : m.at_ n = some a) : ∃ o, H a = some o := let ⟨o, e, _⟩ := S.live a (S.own n a h); ⟨o, e⟩
theorem Sim.off {st : Store} (S : Sim G m H st) {p : Addr} (h : H p = none) : ¬ m.own p := fun e => by
  obtain ⟨o, e1, _⟩ := S.live p e
  rw [h] at e1; cases e1
/-- the step keeps values, where the first state is a state -/
theorem Le.stays {st : Store} (l : Le m H m' H') (S : Sim G m H st) : Stays m H m' H' :=
  ⟨l.sub, fun a o h n t => ⟨l.keep a o h (fun k e => n (S.own k a e)) t, l.offO h n t⟩⟩
theorem Rep.mono {st : Store} (S : Sim G m H st) (l : Le m H m' H') {u : U} {v : V} (h : Rep G m H u v) : Rep G m' H' u v := h.stay (l.stays S)
theorem Reps.mono {st : Store} (S : Sim G m H st) (l : Le m H m' H') {u : List U} {v : List V} (h : Reps G m H u v) : Reps G m' H' u v := h.stay (l.stays S)
/-- a new untracked object -/
theorem le_new {p : Addr} {o : HO} (h : H p = none) : Le m H m (upd H p o) :=
  ⟨fun _ _ h => h, fun _ _ h => .inl h, fun _ h => h, fun _ h => .inl h, fun a o' e _ _ => by rw [upd_ne (ne_of_none e h)]; exact e, fun a e => by
    by_cases q : a = p
    · subst q; exact .inl h
    · unfold Off at e ⊢; rw [upd_ne q] at e; exact e⟩
theorem tabs_new {p : Addr} {o : HO} (t : LamX.Tabs G.T H) (h : H p = none) : LamX.Tabs G.T (upd H p o) := t.ext fun b o' e => by rw [upd_ne (ne_of_none e h)]; exact e
theorem tabs_upd {D : Addr} {ws : List V} {o : HO} (t : LamX.Tabs G.T H) (h : H D = some (.lst ws)) : LamX.Tabs G.T (upd H D o) := fun p hp => by
  obtain ⟨ps, h1, h2, h3⟩ := t p hp
  refine ⟨ps, by rw [upd_ne (fun q => by rw [q, h] at h1; cases h1)]; exact h1, h2, fun pos cv hc => ?_⟩
  obtain ⟨c, ec, hcc⟩ := h3 pos cv hc
  exact ⟨c, ec, by rw [upd_ne (fun q => by rw [q, h] at hcc; cases hcc)]; exact hcc⟩
theorem Sim.new {st : Store} (S : Sim G m H st) {p : Addr} {o : HO} (h : H p = none) : Sim G m (upd H p o) st :=
  ⟨S.dom, S.lt, S.inj, S.own, fun a e => by
    obtain ⟨o', e1, nt⟩ := S.live a e
    exact ⟨o', by rw [upd_ne (ne_of_none e1 h)]; exact e1, nt⟩, fun n c a e1 e2 => (S.cell n c a e1 e2).stay ((le_new h).stays S) (by
    obtain ⟨o', e3⟩ := S.atlive e2
    exact upd_ne (ne_of_none e3 h)), tabs_new S.tabs h⟩
/-- a new cell -/
def mput (m : MH) (n : Nat) (p : Addr) : MH := ⟨fun k => if k = n then some p else m.at_ k, fun a => a = p ∨ m.own a⟩
theorem le_alloc {st : Store} (S : Sim G m H st) {p : Addr} {o : HO} (h : H p = none) : Le m H (mput m st.length p) (upd H p o) :=
  ⟨fun n a e => by
    unfold mput
    have := S.lt n a e
    show (if n = st.length then some p else m.at_ n) = some a
    rw [if_neg (by omega)]; exact e, fun n a e => by
    have e : (if n = st.length then some p else m.at_ n) = some a := e
    split at e
    · cases e; exact .inr (.inl h)
    · exact .inl e, fun _ h => .inr h, fun a e => by
    rcases e with rfl | e
    · exact .inr (.inl h)
    · exact .inl e, fun a o' e _ _ => by rw [upd_ne (ne_of_none e h)]; exact e, (le_new (m := m) h).live⟩
theorem Sim.alloc {st : Store} (S : Sim G m H st) {p : Addr} {o : HO} {c : Cell} (h : H p = none) (hc : CellOk G (mput m st.length p) (upd H p o) p c) : Sim G (mput m st.length p) (upd H p o) (st ++ [c]) := by
  have L : Le m H (mput m st.length p) (upd H p o) := le_alloc S h
  have put : ∀ n a, (mput m st.length p).at_ n = some a → (n = st.length ∧ a = p) ∨ (n ≠ st.length ∧ m.at_ n = some a) := fun n a e => by
    have e : (if n = st.length then some p else m.at_ n) = some a := e
    split at e
    · rename_i q; exact .inl ⟨q, (Option.some.inj e).symm⟩
    · rename_i q; exact .inr ⟨q, e⟩
  refine ⟨fun n hn => ?_, fun n a e => ?_, fun n k a e1 e2 => ?_, fun n a e => ?_, fun a e => ?_, fun n c' a e1 e2 => ?_, tabs_new S.tabs h⟩
  · by_cases q : n = st.length
    · exact ⟨p, if_pos q⟩
    · rw [List.length_append, List.length_singleton] at hn
      obtain ⟨a, e⟩ := S.dom n (by omega)
      exact ⟨a, L.sub n a e⟩
  · rw [List.length_append, List.length_singleton]
    rcases put n a e with ⟨q, _⟩ | ⟨_, q⟩
    · omega
    · have := S.lt n a q; omega
  · rcases put n a e1 with ⟨q1, z1⟩ | ⟨q1, z1⟩
    · rcases put k a e2 with ⟨q2, z2⟩ | ⟨q2, z2⟩
      · omega
      · subst z1; exact absurd (S.own k _ z2) (S.off h)
    · rcases put k a e2 with ⟨q2, z2⟩ | ⟨q2, z2⟩
      · subst z2; exact absurd (S.own n _ z1) (S.off h)
      · exact S.inj n k a z1 z2
  · rcases put n a e with ⟨_, q⟩ | ⟨_, q⟩
    · exact .inl q
    · exact .inr (S.own n a q)
  · rcases e with rfl | e
    · exact ⟨_, upd_same, by
        obtain ⟨o2, e2, mu⟩ := hc.live
        rw [upd_same] at e2; cases e2
        intro ps z; subst z; exact mu⟩
    · obtain ⟨o', e1, nt⟩ := S.live a e
      exact ⟨o', by rw [upd_ne (ne_of_none e1 h)]; exact e1, nt⟩
  · rcases put n a e2 with ⟨q, z⟩ | ⟨q, z⟩
    · subst q z
      rw [List.getElem?_append_right (Nat.le_refl _)] at e1
      simp at e1
      subst e1
      exact hc
    · have hn := S.lt n a z
      rw [List.getElem?_append_left hn] at e1
      obtain ⟨o', e3⟩ := S.atlive z
      exact (S.cell n c' a e1 z).stay (L.stays S) (upd_ne (ne_of_none e3 h))
/-- a cell is changed -/
theorem le_write {st : Store} (S : Sim G m H st) {n : Nat} {a : Addr} {o : HO} (h : m.at_ n = some a) (nt : NT o := by intro _ z; cases z) : Le m H m (upd H a o) :=
  ⟨fun _ _ h => h, fun _ _ h => .inl h, fun _ h => h, fun _ h => .inl h, fun b o' e nb _ => by
    have : b ≠ a := fun q => nb n (q ▸ h)
    rw [upd_ne this]; exact e, fun b e => by
    by_cases q : b = a
    · subst q; exact (e.no upd_same nt).elim
    · unfold Off at e ⊢; rw [upd_ne q] at e; exact e⟩
theorem Sim.write {st : Store} (S : Sim G m H st) {n : Nat} {a : Addr} {o : HO} {c : Cell} (h : m.at_ n = some a) (hc : CellOk G m (upd H a o) a c) : Sim G m (upd H a o) (st.set n c) := by
  have nt : NT o := by
    obtain ⟨o2, e2, mu⟩ := hc.live
    rw [upd_same] at e2; cases e2
    intro ps z; subst z; exact mu
  obtain ⟨c0, hc0⟩ : ∃ c0, st[n]? = some c0 := ⟨_, List.getElem?_eq_getElem (S.lt n a h)⟩
  obtain ⟨o0, e0, mu0⟩ : ∃ o0, H a = some o0 ∧ ((∃ vs, o0 = .lst vs) ∨ (∃ C dx gs, o0 = .ins C dx gs) ∨ (∃ kvs, o0 = .dK kvs) ∨ ∃ L, o0 = DTO G.w a L) := by
    have := S.cell n c0 a hc0 h
    cases c0 with
    | lst xs => obtain ⟨vs, e, _⟩ := this; exact ⟨_, e, .inl ⟨_, rfl⟩⟩
    | ins c fs => obtain ⟨C, dx, gs, _, e, _⟩ := this; exact ⟨_, e, .inr (.inl ⟨_, _, _, rfl⟩)⟩
    | dct ks us => obtain ⟨kvs, e, _⟩ := this; exact ⟨_, e, .inr (.inr (.inl ⟨_, rfl⟩))⟩
    | dtu ks us => obtain ⟨L, e, _⟩ := this; exact ⟨_, e, .inr (.inr (.inr ⟨_, rfl⟩))⟩
  have tb : LamX.Tabs G.T (upd H a o) := fun p hp => by
    obtain ⟨ps, h1, h2, h3⟩ := S.tabs p hp
    have np : p.1 ≠ a := fun q => by
      rw [q, e0] at h1; cases h1
      rcases mu0 with ⟨_, z⟩ | ⟨_, _, _, z⟩ | ⟨_, z⟩ | ⟨_, z⟩ <;> cases z
    refine ⟨ps, by rw [upd_ne np]; exact h1, h2, fun pos cv hc => ?_⟩
    obtain ⟨c, ec, hcc⟩ := h3 pos cv hc
    refine ⟨c, ec, ?_⟩
    have nc : c ≠ a := fun q => by
      rw [q, e0] at hcc
      rcases mu0 with ⟨_, rfl⟩ | ⟨_, _, _, rfl⟩ | ⟨_, rfl⟩ | ⟨L, rfl⟩
      · cases hcc
      · cases hcc
      · cases hcc
      · injection hcc with hcc
        exact dto_code hcc
    rw [upd_ne nc]; exact hcc
  refine ⟨fun k hk => S.dom k (by simpa using hk), fun k b e => by simpa using S.lt k b e, S.inj, S.own, fun b e => ?_, fun k c' b e1 e2 => ?_, tb⟩
  · by_cases q : b = a
    · subst q; exact ⟨_, upd_same, nt⟩
    · obtain ⟨o', e1, nt⟩ := S.live b e
      exact ⟨o', by rw [upd_ne q]; exact e1, nt⟩
  · by_cases q : k = n
    · subst q
      rw [List.getElem?_set_self (S.lt k _ h)] at e1
      cases e1
      rw [h] at e2; cases e2
      exact hc
    · rw [List.getElem?_set_ne (Ne.symm q)] at e1
      refine (S.cell k c' b e1 e2).stay ((le_write S h nt).stays S) (upd_ne fun z => q ?_)
      subst z
      exact S.inj _ _ _ e2 h
end

theorem Reps.length {G : GC} {m : MH} {H : Hp} : ∀ {us : List U} {vs : List V}, Reps G m H us vs → us.length = vs.length
  | _, _, .nil => rfl
  | _, _, .cons _ t => by simp [Reps.length t]
theorem Reps.get {G : GC} {m : MH} {H : Hp} : ∀ {us : List U} {vs : List V} {i : Nat} {v : V}, Reps G m H us vs → vs[i]? = some v → ∃ u, us[i]? = some u ∧ Rep G m H u v
  | _, _, _, _, .nil, e => by simp at e
  | _, _, 0, _, .cons r _, e => by simp at e; subst e; exact ⟨_, rfl, r⟩
  | _, _, i + 1, v, .cons _ t, e => by
    obtain ⟨u, h1, h2⟩ := Reps.get (i := i) (v := v) t (by simpa using e)
    exact ⟨u, by simpa using h1, h2⟩
theorem Reps.getU {G : GC} {m : MH} {H : Hp} : ∀ {us : List U} {vs : List V} {i : Nat} {u : U}, Reps G m H us vs → us[i]? = some u → ∃ v, vs[i]? = some v ∧ Rep G m H u v
  | _, _, _, _, .nil, e => by simp at e
  | _, _, 0, _, .cons r _, e => by simp at e; subst e; exact ⟨_, rfl, r⟩
  | _, _, i + 1, v, .cons _ t, e => by
    obtain ⟨u, h1, h2⟩ := Reps.getU (i := i) (u := v) t (by simpa using e)
    exact ⟨u, by simpa using h1, h2⟩
theorem Reps.append {G : GC} {m : MH} {H : Hp} : ∀ {us ws : List U} {vs zs : List V}, Reps G m H us vs → Reps G m H ws zs → Reps G m H (us ++ ws) (vs ++ zs)
  | _, _, _, _, .nil, h => h
  | _, _, _, _, .cons r t, h => .cons r (Reps.append t h)
theorem Reps.take {G : GC} {m : MH} {H : Hp} : ∀ {us : List U} {vs : List V} (n : Nat), Reps G m H us vs → Reps G m H (us.take n) (vs.take n)
  | _, _, 0, _ => by simp; exact .nil
  | _, _, _ + 1, .nil => by simp; exact .nil
  | _, _, n + 1, .cons r t => by simp; exact .cons r (Reps.take n t)
theorem Reps.drop {G : GC} {m : MH} {H : Hp} : ∀ {us : List U} {vs : List V} (n : Nat), Reps G m H us vs → Reps G m H (us.drop n) (vs.drop n)
  | _, _, 0, h => by simpa using h
  | _, _, _ + 1, .nil => by simp; exact .nil
  | _, _, n + 1, .cons r t => by simp; exact Reps.drop n t

/-! ### results -/
structure Ex where
  cls : Str
  fld : Option (Str × U) := none
inductive R (α : Type) where
  | ok (a : α) (st : Store)
  | exc (e : Ex) (st : Store)
  | stuck
def R.bind {α β : Type} (r : R α) (k : α → Store → R β) : R β := match r with
  | .ok a st => k a st
  | .exc e st => .exc e st
  | .stuck => .stuck
@[simp] theorem R.bind_ok {α β : Type} (a : α) (st : Store) (k : α → Store → R β) : (R.ok a st).bind k = k a st := rfl
@[simp] theorem R.bind_exc {α β : Type} (e : Ex) (st : Store) (k : α → Store → R β) : (R.exc e st : R α).bind k = .exc e st := rfl
@[simp] theorem R.bind_stuck {α β : Type} (k : α → Store → R β) : (R.stuck : R α).bind k = .stuck := rfl

abbrev UEnv := List (Option U)
structure REnv (G : GC) (m : MH) (H : Hp) (ρ : UEnv) (σ : St) : Prop where
  len : ρ.length = σ.length
  at_ : ∀ (i : Nat) (u : U), ρ[i]? = some (some u) → ∃ v, σ[i]? = some (some v) ∧ Rep G m H u v
theorem REnv.mono {G : GC} {m m' : MH} {H H' : Hp} {ρ : UEnv} {σ : St} {st : Store} (S : Sim G m H st) (l : Le m H m' H') (h : REnv G m H ρ σ) : REnv G m' H' ρ σ :=
  ⟨h.len, fun i u e => let ⟨v, e1, r⟩ := h.at_ i u e; ⟨v, e1, r.mono S l⟩⟩
theorem REnv.set {G : GC} {m : MH} {H : Hp} {ρ : UEnv} {σ : St} {u : U} {v : V} (h : REnv G m H ρ σ) (i : Nat) (r : Rep G m H u v) : REnv G m H (ρ.set i (some u)) (σ.set i (some v)) :=
  ⟨by simpa using h.len, fun j w e => by
    by_cases q : i = j
    · subst q
      by_cases hi : i < ρ.length
      · rw [List.getElem?_set_self hi] at e
        cases e
        exact ⟨v, by rw [List.getElem?_set_self (h.len ▸ hi)], r⟩
      · rw [List.set_eq_of_length_le (by omega), List.getElem?_eq_none (by omega)] at e
        cases e
    · rw [List.getElem?_set_ne q] at e
      obtain ⟨v', e1, r'⟩ := h.at_ j w e
      exact ⟨v', by rw [List.getElem?_set_ne q]; exact e1, r'⟩⟩

def RepEx (G : GC) (m : MH) (H : Hp) (e : Ex) (cls : Value) (d : Option Addr) : Prop :=
  ∃ C, G.mg e.cls = some (.ref C) ∧ cls = .ref C ∧ match e.fld with
    | none => d = none
    | some (f, u) => ∃ dd v, d = some dd ∧ H dd = some (.xd [(f, v)]) ∧ Rep G m H u v

/-- what is to follow a result -/
def Post {α β : Type} (G : GC) (m : MH) (H : Hp) (rel : MH → Hp → α → β → Prop) (EW : XK) (Q : β → Hp → Prop) : R α → Prop
  | .ok u st => ∀ v m' H', Le m H m' H' → Sim G m' H' st → rel m' H' u v → Q v H'
  | .exc e st => ∀ cls d m' H', Le m H m' H' → Sim G m' H' st → RepEx G m' H' e cls d → EW cls d H'
  | .stuck => False
section
variable {α β γ δ : Type} {G : GC} {m m' : MH} {H H' : Hp} {rel : MH → Hp → α → β → Prop} {rel2 : MH → Hp → γ → δ → Prop} {EW : XK} {Q Q' : β → Hp → Prop} {r : R α}
theorem Post.mono (l : Le m H m' H') (h : Post G m H rel EW Q r) : Post G m' H' rel EW Q r := by
  cases r with
  | ok u st => exact fun v m2 H2 l2 => h v m2 H2 (l.trans l2)
  | exc e st => exact fun c d m2 H2 l2 => h c d m2 H2 (l.trans l2)
  | stuck => exact h
theorem Post.bind {k : α → Store → R γ} {Q2 : δ → Hp → Prop} (h : Post G m H rel2 EW Q2 (r.bind k))
    (hq : ∀ u st1 v m1 H1, r = .ok u st1 → Le m H m1 H1 → Sim G m1 H1 st1 → rel m1 H1 u v → Post G m1 H1 rel2 EW Q2 (k u st1) → Q v H1) : Post G m H rel EW Q r := by
  cases r with
  | ok u st => exact fun v m1 H1 l S rr => hq u st v m1 H1 rfl l S rr (Post.mono l h)
  | exc e st => exact h
  | stuck => exact h
theorem Post.imp (h : Post G m H rel EW Q r) (hq : ∀ v H, Q v H → Q' v H) : Post G m H rel EW Q' r := by
  cases r with
  | ok u st => exact fun v m1 H1 l S rr => hq _ _ (h v m1 H1 l S rr)
  | exc e st => exact h
  | stuck => exact h
end
def relB : MH → Hp → Bool → Bool → Prop := fun _ _ a b => a = b

abbrev WE2 (W : WX) (σ : St) : XK := fun c d H => W c d σ H
def tZ (G : GC) (W : WX) (f : UEnv → Store → R U) : TE := fun σ H Q => ∃ ρ st m, Sim G m H st ∧ REnv G m H ρ σ ∧ Post G m H (Rep G) (WE2 W σ) Q (f ρ st)
def tZT (G : GC) (W : WX) (f : UEnv → Store → R Bool) : TT := fun σ H Q => ∃ ρ st m, Sim G m H st ∧ REnv G m H ρ σ ∧ Post G m H relB (WE2 W σ) Q (f ρ st)
def tZA (G : GC) (W : WX) (f : UEnv → Store → R (List U)) : TA := fun σ H Q => ∃ ρ st m, Sim G m H st ∧ REnv G m H ρ σ ∧ Post G m H (Reps G) (WE2 W σ) Q (f ρ st)

inductive Fl where
  | nx (ρ : UEnv) | rt (u : U) | bk (ρ : UEnv) | ct (ρ : UEnv)
def PostS (G : GC) (m : MH) (H : Hp) (W : WX) (D : Ends) : R Fl → Prop
  | .ok (.nx ρ) st => ∀ σ m' H', Le m H m' H' → Sim G m' H' st → REnv G m' H' ρ σ → D.nx σ H'
  | .ok (.bk ρ) st => ∀ σ m' H', Le m H m' H' → Sim G m' H' st → REnv G m' H' ρ σ → D.bk σ H'
  | .ok (.ct ρ) st => ∀ σ m' H', Le m H m' H' → Sim G m' H' st → REnv G m' H' ρ σ → D.ct σ H'
  | .ok (.rt u) st => ∀ v m' H', Le m H m' H' → Sim G m' H' st → Rep G m' H' u v → D.rt v H'
  | .exc e st => ∀ cls d σ m' H', Le m H m' H' → Sim G m' H' st → RepEx G m' H' e cls d → W cls d σ H'
  | .stuck => False
def tZS (G : GC) (W : WX) (f : UEnv → Store → R Fl) : TS := fun D σ H => ∃ ρ st m, Sim G m H st ∧ REnv G m H ρ σ ∧ PostS G m H W D (f ρ st)

structure XG (X : Cx) (W : WX) : Prop where
  tk : Takes X W
  po : PassesOwn (model X.prog X.w) X.A X.env X.xe
def ZE [TB] (X : Cx) (e : Expr) (f : UEnv → Store → R U) : Prop := ∀ W, XG X W → PE X e (tZ (gc X) W f)
def ZT [TB] (X : Cx) (e : Expr) (f : UEnv → Store → R Bool) : Prop := ∀ W, XG X W → PT X e (tZT (gc X) W f)
def ZA [TB] (X : Cx) (es : List Expr) (f : UEnv → Store → R (List U)) : Prop := ∀ W, XG X W → PA X es (tZA (gc X) W f)
def ZS [TB] (X : Cx) (s : Stmt) (f : UEnv → Store → R Fl) : Prop := ∀ W, XG X W → PS X s (tZS (gc X) W f)
def ZB [TB] (X : Cx) (s : List Stmt) (f : UEnv → Store → R Fl) : Prop := ∀ W, XG X W → PSs X s (tZS (gc X) W f)

theorem PE.imp {X : Cx} {e : Expr} {t t' : TE} (h : PE X e t) (hi : ∀ σ H Q, t' σ H Q → t σ H Q) : PE X e t' := ⟨fun pins s σ H Q I hw => h.run pins s σ H Q I (hi σ H Q hw)⟩
theorem PT.imp {X : Cx} {e : Expr} {t t' : TT} (h : PT X e t) (hi : ∀ σ H Q, t' σ H Q → t σ H Q) : PT X e t' := ⟨fun pins s σ H Q I hw => h.run pins s σ H Q I (hi σ H Q hw)⟩
theorem PA.imp {X : Cx} {e : List Expr} {t t' : TA} (h : PA X e t) (hi : ∀ σ H Q, t' σ H Q → t σ H Q) : PA X e t' := ⟨fun pos pins s σ H Q I hw => h.run pos pins s σ H Q I (hi σ H Q hw)⟩
theorem PS.imp {X : Cx} {e : Stmt} {t t' : TS} (h : PS X e t) (hi : ∀ D σ H, t' D σ H → t D σ H) : PS X e t' := ⟨fun pins s σ H D I hw => h.run pins s σ H D I (hi D σ H hw)⟩
theorem PSs.imp {X : Cx} {e : List Stmt} {t t' : TS} (h : PSs X e t) (hi : ∀ D σ H, t' D σ H → t D σ H) : PSs X e t' := ⟨fun pins s σ H D I hw => h.run pins s σ H D I (hi D σ H hw)⟩

/-- chaining two readings -/
theorem tz_seq [TB] {X : Cx} {W : WX} {fa : UEnv → Store → R U} {σ : St} {H : Hp} {α β : Type} {rel2 : MH → Hp → α → β → Prop} {Q2 : β → Hp → Prop} {k : UEnv → U → Store → R α} {Q : VK} {ρ : UEnv} {st : Store} {m : MH}
    (S : Sim (gc X) m H st) (E : REnv (gc X) m H ρ σ) (P : Post (gc X) m H rel2 (WE2 W σ) Q2 ((fa ρ st).bind (k ρ)))
    (hq : ∀ u st1 v m1 H1, Sim (gc X) m1 H1 st1 → REnv (gc X) m1 H1 ρ σ → Rep (gc X) m1 H1 u v → Le m H m1 H1 → Post (gc X) m1 H1 rel2 (WE2 W σ) Q2 (k ρ u st1) → Q v H1) : tZ (gc X) W fa σ H Q :=
  ⟨ρ, st, m, S, E, P.bind fun u st1 v m1 H1 _ l S1 r p => hq u st1 v m1 H1 S1 (E.mono S l) r l p⟩
end Z

namespace Z
open PySem L2

/-! ### == and < of plain values -/
mutual
def eqD : U → U → Bool
  | .non, .non => true
  | .bl a, .bl b => a == b
  | .bl a, .int j => (if a = true then 1 else 0) == j
  | .int i, .bl b => i == (if b = true then 1 else 0)
  | .int i, .int j => i == j
  | .str x, .str y => x == y
  | .tup xs, .tup ys => eqDs xs ys
  | .lst xs, .lst ys => eqDs xs ys
  | _, _ => false
def eqDs : List U → List U → Bool
  | [], [] => true
  | x :: xs, y :: ys => eqD x y && eqDs xs ys
  | _, _ => false
end
mutual
/-- plain (no functions, cells, dicts), d deep at most -/
def pl : Nat → U → Bool
  | _, .non => true
  | _, .bl _ => true
  | _, .int _ => true
  | _, .str _ => true
  | d, .tup xs => match d with
    | 0 => false
    | d + 1 => pls d xs
  | d, .lst xs => match d with
    | 0 => false
    | d + 1 => pls d xs
  | _, .frz _ => false
  | _, .hdl _ => false
  | _, .fn _ => false
  | _, .dct _ _ => false
  | _, .kdc _ _ => false
def pls : Nat → List U → Bool
  | _, [] => true
  | d, x :: xs => pl d x && pls d xs
end
mutual
/-- x < y, as far as it is asked -/
def ltU : U → U → Bool
  | .bl a, .bl b => !a && b
  | .int i, .int j => decide (i < j)
  | .str x, .str y => decide (x.cps.toList < y.cps.toList)
  | .tup xs, .tup ys => ltUs xs ys
  | _, _ => false
def ltUs : List U → List U → Bool
  | [], [] => false
  | [], _ :: _ => true
  | _ :: _, [] => false
  | x :: xs, y :: ys => if eqD x y = true then ltUs xs ys else ltU x y
end
def tyN : U → Nat
  | .non => 0
  | .bl _ => 1
  | .int _ => 2
  | .str _ => 3
  | .tup _ => 4
  | .lst _ => 5
  | .frz _ => 5
  | _ => 9
mutual
/-- x < y can be asked -/
def canLt : U → U → Bool
  | .bl _, .bl _ => true
  | .int _, .int _ => true
  | .str _, .str _ => true
  | .tup xs, .tup ys => canLts xs ys
  | _, _ => false
def canLts : List U → List U → Bool
  | x :: xs, y :: ys => (tyN x == tyN y) && (if eqD x y = true then canLts xs ys else canLt x y)
  | _, _ => true
end
theorem pls_mem {d : Nat} : ∀ {xs : List U}, pls d xs = true ↔ ∀ x ∈ xs, pl d x = true
  | [] => by simp [pls]
  | x :: xs => by simp [pls, pls_mem (xs := xs)]
mutual
theorem pl_mono : ∀ {d d' : Nat} (u : U), d ≤ d' → pl d u = true → pl d' u = true
  | _, _, .non, _, _ => rfl
  | _, _, .bl _, _, _ => rfl
  | _, _, .int _, _, _ => rfl
  | _, _, .str _, _, _ => rfl
  | 0, _, .tup xs, _, h => by simp [pl] at h
  | d + 1, d', .tup xs, hd, h => by
    cases d' with
    | zero => omega
    | succ d' => exact pls_mono xs (Nat.le_of_succ_le_succ hd) h
  | 0, _, .lst xs, _, h => by simp [pl] at h
  | d + 1, d', .lst xs, hd, h => by
    cases d' with
    | zero => omega
    | succ d' => exact pls_mono xs (Nat.le_of_succ_le_succ hd) h
  | _, _, .frz _, _, h => by simp [pl] at h
  | _, _, .hdl _, _, h => by simp [pl] at h
  | _, _, .fn _, _, h => by simp [pl] at h
  | _, _, .dct _ _, _, h => by simp [pl] at h
  | _, _, .kdc _ _, _, h => by simp [pl] at h
theorem pls_mono : ∀ {d d' : Nat} (u : List U), d ≤ d' → pls d u = true → pls d' u = true
  | _, _, [], _, _ => rfl
  | d, d', x :: xs, hd, h => by
    simp only [pls, Bool.and_eq_true] at h ⊢
    exact ⟨pl_mono x hd h.1, pls_mono xs hd h.2⟩
end
end Z

namespace Z
open PySem L2

theorem line_eq : sizeLine = 16777216 := sizeLine_eq
/-! ### reading values -/
def deref (st : Store) : U → U
  | .hdl n => match st[n]? with
    | some (.lst xs) => .lst xs
    | some (.dct ks us) => .dct ks us
    | _ => .hdl n
  | u => u
section
variable {G : GC} {m : MH} {H : Hp} {st : Store} {u : U} {v : V} {xs : List U}
theorem rep_lst (S : Sim G m H st) (r : Rep G m H u v) (e : deref st u = .lst xs) : ∃ a vs, v = .ref a ∧ H a = some (.lst vs) ∧ Reps G m H xs vs := by
  cases r with
  | lst h n r => cases e; exact ⟨_, _, rfl, h, r⟩
  | @hdl n a h =>
    unfold deref at e
    simp only at e
    split at e
    · rename_i ys q
      cases e
      obtain ⟨vs, e1, r⟩ := S.cell n _ a q h
      exact ⟨_, _, rfl, e1, r⟩
    · cases e
    · cases e
  | _ => cases e
theorem rep_dct {ks us : List U} (S : Sim G m H st) (r : Rep G m H u v) (e : deref st u = .dct ks us) : ∃ (a : Addr) (kvs : List (L2.Key × V)), v = .ref a ∧ H a = some (.dK kvs) ∧ Reps G m H ks (kvs.map fun p => kV p.1) ∧ Reps G m H us (kvs.map (·.2)) := by
  cases r with
  | dct h n k r => cases e; exact ⟨_, _, rfl, h, k, r⟩
  | @hdl n a h =>
    unfold deref at e
    simp only at e
    split at e
    · cases e
    · rename_i q
      cases e
      obtain ⟨kvs, e1, k, r⟩ := S.cell n _ a q h
      exact ⟨_, _, rfl, e1, k, r⟩
    · cases e
  | _ => cases e
theorem rep_seqL {K : PySem.W.Frag} (S : Sim G m H st) (r : Rep G m H u v) (e : deref st u = .lst xs ∨ u = .frz xs) (hK : G.K = K) : ∃ a vs, v = .ref a ∧ SqL K H a vs ∧ Reps G m H xs vs := by
  subst hK
  rcases e with e | e
  · obtain ⟨a, vs, e1, e2, r⟩ := rep_lst S r e
    exact ⟨a, vs, e1, SqL.of e2, r⟩
  · subst e
    cases r with
    | frz h n r => exact ⟨_, _, rfl, .inl (.inr ⟨_, h⟩), r⟩
    | frzK h r => exact ⟨_, _, rfl, .inr h, r⟩
theorem rep_tup {K : PySem.W.Frag} (r : Rep G m H (.tup xs) v) (hK : G.K = K) : ∃ a vs, v = .ref a ∧ SqT K H a vs ∧ Reps G m H xs vs := by
  subst hK
  cases r with
  | tup h n r => exact ⟨_, _, rfl, SqT.of h, r⟩
  | tupK h r => exact ⟨_, _, rfl, .inr h.1, r⟩
theorem rep_int {i : Int} (r : Rep G m H (.int i) v) : v = .int i := by cases r; rfl
theorem rep_bl {i : Bool} (r : Rep G m H (.bl i) v) : v = .bl i := by cases r; rfl
theorem rep_str {i : Str} (r : Rep G m H (.str i) v) : v = .str i ∧ PyData.strOk i = true ∧ i.length ≤ 16777216 := by cases r with | str _ h z => exact ⟨rfl, h, z⟩
theorem rep_non (r : Rep G m H .non v) : v = .non := by cases r; rfl
end
/-- one view for operators -/
inductive View (st : Store) : U → U → Prop
  | mk (u : U) : View st u (deref st u)
theorem deref_int {st : Store} {u : U} {i : Int} (h : deref st u = .int i) : u = .int i := by
  cases u with
  | hdl n => unfold deref at h; simp only at h; split at h <;> cases h
  | _ => exact h
theorem deref_bl {st : Store} {u : U} {i : Bool} (h : deref st u = .bl i) : u = .bl i := by
  cases u with
  | hdl n => unfold deref at h; simp only at h; split at h <;> cases h
  | _ => exact h
theorem deref_str {st : Store} {u : U} {i : Str} (h : deref st u = .str i) : u = .str i := by
  cases u with
  | hdl n => unfold deref at h; simp only at h; split at h <;> cases h
  | _ => exact h
theorem deref_tup {st : Store} {u : U} {i : List U} (h : deref st u = .tup i) : u = .tup i := by
  cases u with
  | hdl n => unfold deref at h; simp only at h; split at h <;> cases h
  | _ => exact h
theorem deref_frz {st : Store} {u : U} {i : List U} (h : deref st u = .frz i) : u = .frz i := by
  cases u with
  | hdl n => unfold deref at h; simp only at h; split at h <;> cases h
  | _ => exact h
theorem deref_non {st : Store} {u : U} (h : deref st u = .non) : u = .non := by
  cases u with
  | hdl n => unfold deref at h; simp only at h; split at h <;> cases h
  | _ => exact h

/-! ### data for == -/
mutual
def dat : U → Option PyData
  | .non => some .none
  | .bl b => some (.bool b)
  | .int i => some (.int i)
  | .str x => some (.str x)
  | .tup xs => (dats xs).map .tuple
  | .lst xs => (dats xs).map .list
  | .frz xs => (dats xs).map .list
  | .hdl _ => none
  | .fn _ => none
  | .dct _ _ => none
  | .kdc _ _ => none
def dats : List U → Option (List PyData)
  | [] => some []
  | x :: xs => (dat x).bind fun d => (dats xs).map (d :: ·)
end
section
variable {G : GC} {m : MH} {H : Hp}
mutual
theorem rep_dp : ∀ {u : U} {v : V} {d : PyData}, Rep G m H u v → dat u = some d → Dp G.K H v d ∧ d.canLay0 = true
  | _, _, _, .non, e => by simp [dat] at e; subst e; exact ⟨.non, by simp [PyData.canLay0]⟩
  | _, _, _, .bl b, e => by simp [dat] at e; subst e; exact ⟨.bl b, by simp [PyData.canLay0]⟩
  | _, _, _, .int i, e => by simp [dat] at e; subst e; exact ⟨.int i, by simp [PyData.canLay0]⟩
  | _, _, _, .str x h _, e => by simp [dat] at e; subst e; exact ⟨.str x, by simpa [PyData.canLay0] using h⟩
  | _, _, _, .tup h n r, e => by
    simp only [dat, Option.map_eq_some_iff] at e
    obtain ⟨ds, e1, rfl⟩ := e
    obtain ⟨h1, h2⟩ := rep_dps r e1
    exact ⟨.tup (SqT.of h) h1, by simpa [PyData.canLay0] using h2⟩
  | _, _, _, .tupK h r, e => by
    simp only [dat, Option.map_eq_some_iff] at e
    obtain ⟨ds, e1, rfl⟩ := e
    obtain ⟨h1, h2⟩ := rep_dps r e1
    exact ⟨.tup (.inr h.1) h1, by simpa [PyData.canLay0] using h2⟩
  | _, _, _, .lst h n r, e => by
    simp only [dat, Option.map_eq_some_iff] at e
    obtain ⟨ds, e1, rfl⟩ := e
    obtain ⟨h1, h2⟩ := rep_dps r e1
    exact ⟨.lst (SqL.of h) h1, by simpa [PyData.canLay0] using h2⟩
  | _, _, _, .frz h n r, e => by
    simp only [dat, Option.map_eq_some_iff] at e
    obtain ⟨ds, e1, rfl⟩ := e
    obtain ⟨h1, h2⟩ := rep_dps r e1
    exact ⟨.lst (.inl (.inr ⟨_, h⟩)) h1, by simpa [PyData.canLay0] using h2⟩
  | _, _, _, .frzK h r, e => by
    simp only [dat, Option.map_eq_some_iff] at e
    obtain ⟨ds, e1, rfl⟩ := e
    obtain ⟨h1, h2⟩ := rep_dps r e1
    exact ⟨.lst (.inr h) h1, by simpa [PyData.canLay0] using h2⟩
  | _, _, _, .hdl _, e => by simp [dat] at e
  | _, _, _, .fn _, e => by simp [dat] at e
  | _, _, _, .dct _ _ _ _, e => by simp [dat] at e
  | _, _, _, .kdc _ _, e => by simp [dat] at e
theorem rep_dps : ∀ {us : List U} {vs : List V} {ds : List PyData}, Reps G m H us vs → dats us = some ds → DpAll G.K H vs ds ∧ PyData.canLayAll0 ds = true
  | _, _, _, .nil, e => by simp [dats] at e; subst e; exact ⟨.nil, by simp [PyData.canLayAll0]⟩
  | _, _, _, .cons r t, e => by
    simp only [dats, Option.bind_eq_some_iff, Option.map_eq_some_iff] at e
    obtain ⟨d, e1, ds, e2, rfl⟩ := e
    obtain ⟨h1, h2⟩ := rep_dp r e1
    obtain ⟨h3, h4⟩ := rep_dps t e2
    exact ⟨.cons h1 h3, by simp [PyData.canLayAll0, h2, h4]⟩
end
theorem rep_dpD {st : Store} {u : U} {v : V} {d : PyData} (S : Sim G m H st) (r : Rep G m H u v) (e : dat (deref st u) = some d) : Dp G.K H v d ∧ d.canLay0 = true := by
  cases r with
  | @hdl n a h =>
    unfold deref at e
    simp only at e
    split at e
    · rename_i ys q
      simp only [dat, Option.map_eq_some_iff] at e
      obtain ⟨ds, e1, rfl⟩ := e
      obtain ⟨vs, e2, r⟩ := S.cell n _ a q h
      obtain ⟨h1, h2⟩ := rep_dps r e1
      exact ⟨.lst (SqL.of e2) h1, by simpa [PyData.canLay0] using h2⟩
    · simp [dat] at e
    · simp [dat] at e
  | dct h n k r => simp [deref, dat] at e
  | kdc h r => simp [deref, dat] at e
  | non => exact rep_dp (m := m) .non e
  | bl b => exact rep_dp (m := m) (.bl b) e
  | int b => exact rep_dp (m := m) (.int b) e
  | str b h z => exact rep_dp (m := m) (.str b h z) e
  | tup h n r => exact rep_dp (.tup h n r) e
  | tupK h r => exact rep_dp (.tupK h r) e
  | lst h n r => exact rep_dp (.lst h n r) e
  | frz h n r => exact rep_dp (.frz h n r) e
  | frzK h r => exact rep_dp (.frzK h r) e
  | fn h => exact rep_dp (m := m) (.fn h) e
end
mutual
theorem pl_dat : ∀ {d : Nat} (u : U), pl d u = true → ∃ D, dat u = some D ∧ D.depth ≤ d
  | d, .non, _ => ⟨.none, rfl, Nat.zero_le _⟩
  | d, .bl b, _ => ⟨.bool b, rfl, Nat.zero_le _⟩
  | d, .int i, _ => ⟨.int i, rfl, Nat.zero_le _⟩
  | d, .str x, _ => ⟨.str x, rfl, Nat.zero_le _⟩
  | 0, .tup _, h => by simp [pl] at h
  | d + 1, .tup xs, h => by
    obtain ⟨D, e, k⟩ := pls_dat xs (show pls d xs = true from h)
    exact ⟨.tuple D, by simp [dat, e], by simp only [PyData.depth]; omega⟩
  | 0, .lst _, h => by simp [pl] at h
  | d + 1, .lst xs, h => by
    obtain ⟨D, e, k⟩ := pls_dat xs (show pls d xs = true from h)
    exact ⟨.list D, by simp [dat, e], by simp only [PyData.depth]; omega⟩
  | _, .frz _, h => by simp [pl] at h
  | _, .hdl _, h => by simp [pl] at h
  | _, .fn _, h => by simp [pl] at h
  | _, .dct _ _, h => by simp [pl] at h
  | _, .kdc _ _, h => by simp [pl] at h
theorem pls_dat : ∀ {d : Nat} (u : List U), pls d u = true → ∃ D, dats u = some D ∧ PyData.depthAll D ≤ d
  | d, [], _ => ⟨[], rfl, Nat.zero_le _⟩
  | d, x :: xs, h => by
    simp only [pls, Bool.and_eq_true] at h
    obtain ⟨D, e, k⟩ := pl_dat x h.1
    obtain ⟨Ds, e2, k2⟩ := pls_dat xs h.2
    exact ⟨D :: Ds, by simp [dats, e, e2], by simp only [PyData.depthAll]; omega⟩
end
theorem dat_some {u : U} {D : PyData} (h : dat u = some D) : (u = .non ∧ D = .none) ∨ (∃ b, u = .bl b ∧ D = .bool b) ∨ (∃ i, u = .int i ∧ D = .int i) ∨ (∃ x, u = .str x ∧ D = .str x) ∨ (∃ xs Ds, u = .tup xs ∧ D = .tuple Ds ∧ dats xs = some Ds) ∨ (∃ xs Ds, u = .lst xs ∧ D = .list Ds ∧ dats xs = some Ds) ∨ ∃ xs Ds, u = .frz xs ∧ D = .list Ds ∧ dats xs = some Ds := by
  cases u with
  | non => simp [dat] at h; simp [h]
  | bl b => simp [dat] at h; simp [h]
  | int b => simp [dat] at h; simp [h]
  | str b => simp [dat] at h; simp [h]
  | tup xs => simp only [dat, Option.map_eq_some_iff] at h; obtain ⟨Ds, e, rfl⟩ := h; simp [e]
  | lst xs => simp only [dat, Option.map_eq_some_iff] at h; obtain ⟨Ds, e, rfl⟩ := h; simp [e]
  | frz xs => simp only [dat, Option.map_eq_some_iff] at h; obtain ⟨Ds, e, rfl⟩ := h; simp [e]
  | _ => simp [dat] at h
mutual
theorem eqv_eqD : ∀ {d d' : Nat} (a b : U) {D E : PyData}, pl d a = true → pl d' b = true → dat a = some D → dat b = some E → PyData.eqv D E = eqD a b
  | _, d', .non, b, D, E, _, hb, e1, e2 => by
    simp [dat] at e1; subst e1
    rcases dat_some e2 with ⟨rfl, rfl⟩ | ⟨_, rfl, rfl⟩ | ⟨_, rfl, rfl⟩ | ⟨_, rfl, rfl⟩ | ⟨_, _, rfl, rfl, _⟩ | ⟨_, _, rfl, rfl, _⟩ | ⟨_, _, rfl, rfl, _⟩ <;> simp [PyData.eqv, eqD]
  | _, d', .bl x, b, D, E, _, hb, e1, e2 => by
    simp [dat] at e1; subst e1
    rcases dat_some e2 with ⟨rfl, rfl⟩ | ⟨_, rfl, rfl⟩ | ⟨_, rfl, rfl⟩ | ⟨_, rfl, rfl⟩ | ⟨_, _, rfl, rfl, _⟩ | ⟨_, _, rfl, rfl, _⟩ | ⟨_, _, rfl, rfl, _⟩ <;> simp [PyData.eqv, eqD]
  | _, d', .int x, b, D, E, _, hb, e1, e2 => by
    simp [dat] at e1; subst e1
    rcases dat_some e2 with ⟨rfl, rfl⟩ | ⟨_, rfl, rfl⟩ | ⟨_, rfl, rfl⟩ | ⟨_, rfl, rfl⟩ | ⟨_, _, rfl, rfl, _⟩ | ⟨_, _, rfl, rfl, _⟩ | ⟨_, _, rfl, rfl, _⟩ <;> simp [PyData.eqv, eqD]
  | _, d', .str x, b, D, E, _, hb, e1, e2 => by
    simp [dat] at e1; subst e1
    rcases dat_some e2 with ⟨rfl, rfl⟩ | ⟨_, rfl, rfl⟩ | ⟨_, rfl, rfl⟩ | ⟨_, rfl, rfl⟩ | ⟨_, _, rfl, rfl, _⟩ | ⟨_, _, rfl, rfl, _⟩ | ⟨_, _, rfl, rfl, _⟩ <;> simp [PyData.eqv, eqD]
  | 0, _, .tup _, _, _, _, h, _, _, _ => by simp [pl] at h
  | d + 1, d', .tup xs, b, D, E, ha, hb, e1, e2 => by
    simp only [dat, Option.map_eq_some_iff] at e1
    obtain ⟨Ds, e1, rfl⟩ := e1
    rcases dat_some e2 with ⟨rfl, rfl⟩ | ⟨_, rfl, rfl⟩ | ⟨_, rfl, rfl⟩ | ⟨_, rfl, rfl⟩ | ⟨ys, Es, rfl, rfl, e3⟩ | ⟨_, _, rfl, rfl, _⟩ | ⟨_, _, rfl, rfl, _⟩
    any_goals simp [PyData.eqv, eqD]
    cases d' with
    | zero => simp [pl] at hb
    | succ d' => exact eqvs_eqD xs ys (show pls d xs = true from ha) (show pls d' ys = true from hb) e1 e3
  | 0, _, .lst _, _, _, _, h, _, _, _ => by simp [pl] at h
  | d + 1, d', .lst xs, b, D, E, ha, hb, e1, e2 => by
    simp only [dat, Option.map_eq_some_iff] at e1
    obtain ⟨Ds, e1, rfl⟩ := e1
    rcases dat_some e2 with ⟨rfl, rfl⟩ | ⟨_, rfl, rfl⟩ | ⟨_, rfl, rfl⟩ | ⟨_, rfl, rfl⟩ | ⟨_, _, rfl, rfl, _⟩ | ⟨ys, Es, rfl, rfl, e3⟩ | ⟨_, _, rfl, rfl, _⟩
    any_goals simp [PyData.eqv, eqD]
    · cases d' with
      | zero => simp [pl] at hb
      | succ d' => exact eqvs_eqD xs ys (show pls d xs = true from ha) (show pls d' ys = true from hb) e1 e3
    · simp [pl] at hb
  | _, _, .frz _, _, _, _, h, _, _, _ => by simp [pl] at h
  | _, _, .hdl _, _, _, _, h, _, _, _ => by simp [pl] at h
  | _, _, .fn _, _, _, _, h, _, _, _ => by simp [pl] at h
  | _, _, .dct _ _, _, _, _, h, _, _, _ => by simp [pl] at h
  | _, _, .kdc _ _, _, _, _, h, _, _, _ => by simp [pl] at h
theorem eqvs_eqD : ∀ {d d' : Nat} (a b : List U) {D E : List PyData}, pls d a = true → pls d' b = true → dats a = some D → dats b = some E → PyData.eqvAll D E = eqDs a b
  | _, _, [], [], D, E, _, _, e1, e2 => by simp [dats] at e1 e2; subst e1 e2; simp [PyData.eqvAll, eqDs]
  | _, _, [], y :: ys, D, E, _, _, e1, e2 => by
    simp only [dats, Option.bind_eq_some_iff, Option.map_eq_some_iff] at e2
    obtain ⟨_, _, _, _, rfl⟩ := e2
    simp [dats] at e1; subst e1; simp [PyData.eqvAll, eqDs]
  | _, _, x :: xs, [], D, E, _, _, e1, e2 => by
    simp only [dats, Option.bind_eq_some_iff, Option.map_eq_some_iff] at e1
    obtain ⟨_, _, _, _, rfl⟩ := e1
    simp [dats] at e2; subst e2; simp [PyData.eqvAll, eqDs]
  | _, _, x :: xs, y :: ys, D, E, ha, hb, e1, e2 => by
    simp only [dats, Option.bind_eq_some_iff, Option.map_eq_some_iff] at e1 e2
    obtain ⟨D1, e1, Ds, e1', rfl⟩ := e1
    obtain ⟨E1, e2, Es, e2', rfl⟩ := e2
    simp only [pls, Bool.and_eq_true] at ha hb
    simp only [PyData.eqvAll, eqDs]
    rw [eqv_eqD x y ha.1 hb.1 e1 e2, eqvs_eqD xs ys ha.2 hb.2 e1' e2']
end
def eqU (st : Store) (a b : U) : Option Bool := if (pl 64 (deref st a) && pl 64 (deref st b)) = true then some (eqD (deref st a) (deref st b)) else none
theorem shaped_of {d : PyData} (h : d.canLay0 = true) (h2 : d.depth ≤ 64) : SeqAt.shaped d = true := by
  unfold SeqAt.shaped; rw [h, decide_eq_true h2]; rfl

/-! ### operators on values -/
def PostO (G : GC) (m : MH) (H : Hp) (st : Store) (Q : VK) : Option U → Prop
  | some u => ∀ v m' H', Le m H m' H' → Sim G m' H' st → Rep G m' H' u v → Q v H'
  | none => False
abbrev Op2 := Store → U → U → Option U
abbrev Op1 := Store → U → Option U
def rZ (G : GC) (g : Op2) : R2 := fun x y H Q => ∃ m st a b, Sim G m H st ∧ Rep G m H a x ∧ Rep G m H b y ∧ PostO G m H st Q (g st a b)
def rZ1 (G : GC) (g : Op1) : V → Hp → VK → Prop := fun x H Q => ∃ m st a, Sim G m H st ∧ Rep G m H a x ∧ PostO G m H st Q (g st a)
def OpZ [TB] (X : Cx) (f : Value → Value → Sem Value) (g : Op2) : Prop := OpR X f (rZ (gc X) g)
def R.ofO {α : Type} (st : Store) : Option α → R α
  | some u => .ok u st
  | none => .stuck
@[simp] theorem R.ofO_some {α : Type} (st : Store) (u : α) : R.ofO st (some u) = .ok u st := rfl
@[simp] theorem R.ofO_none {α : Type} (st : Store) : R.ofO st (none : Option α) = .stuck := rfl
theorem PostO.of {G : GC} {m : MH} {H : Hp} {st : Store} {EW : XK} {Q : VK} {o : Option U} (h : Post G m H (Rep G) EW Q (R.ofO st o)) : PostO G m H st Q o := by
  cases o with
  | some u => exact h
  | none => exact h
/-- the same state, a value at hand -/
theorem PostO.here {G : GC} {m : MH} {H : Hp} {st : Store} {Q : VK} {u : U} {v : V} (h : PostO G m H st Q (some u)) (S : Sim G m H st) (r : Rep G m H u v) : Q v H := h v m H Le.refl S r
/-- a new object -/
theorem PostO.lst {G : GC} {m : MH} {H : Hp} {st : Store} {Q : VK} {us : List U} {vs : List V} (h : PostO G m H st Q (some (.lst us))) (S : Sim G m H st) (r : Reps G m H us vs) (p : Addr) (hp : H p = none) : Q (.ref p) (upd H p (.lst vs)) :=
  h _ m _ (le_new hp) (S.new hp) (.lst upd_same (S.off hp) (r.mono S (le_new hp)))
theorem PostO.tup {G : GC} {m : MH} {H : Hp} {st : Store} {Q : VK} {us : List U} {vs : List V} (h : PostO G m H st Q (some (.tup us))) (S : Sim G m H st) (r : Reps G m H us vs) (p : Addr) (hp : H p = none) : Q (.ref p) (upd H p (.tup vs)) :=
  h _ m _ (le_new hp) (S.new hp) (.tup upd_same (S.off hp) (r.mono S (le_new hp)))

def mulOk (i j : Int) : Bool := Nat.ble i.natAbs 18446744073709551615 || Nat.ble j.natAbs 18446744073709551615
theorem mulOk_iff (i j : Int) : mulOk i j = true ↔ (-18446744073709551616 < i ∧ i < 18446744073709551616) ∨ (-18446744073709551616 < j ∧ j < 18446744073709551616) := by
  unfold mulOk
  rw [Bool.or_eq_true, Nat.ble_eq, Nat.ble_eq]
  omega
theorem mulOk_c {i j : Int} (h : mulOk i j = true) : CMul i j := by
  have e : (2 : Int) ^ 64 = 18446744073709551616 := by decide
  have := (mulOk_iff i j).mp h
  show (-(2 ^ 64) < i ∧ i < 2 ^ 64) ∨ (-(2 ^ 64) < j ∧ j < 2 ^ 64)
  rw [e]
  exact this
def oAdd : Op2 := fun st a b => match deref st a, deref st b with
  | .int i, .int j => some (.int (i + j))
  | .str x, .str y => if x.length + y.length ≤ 16777216 then some (.str (x ++ y)) else none
  | .lst xs, .lst ys => if xs.length + ys.length ≤ 16777216 then some (.lst (xs ++ ys)) else none
  | .tup xs, .tup ys => if xs.length + ys.length ≤ 16777216 then some (.tup (xs ++ ys)) else none
  | _, _ => none
def oSub : Op2 := fun _ a b => match a, b with
  | .int i, .int j => some (.int (i - j))
  | _, _ => none
def oMul : Op2 := fun st a b => match deref st a, deref st b with
  | .int i, .int j => if mulOk i j = true then some (.int (i * j)) else none
  | .lst xs, .int k => if 0 ≤ k ∧ k ≤ 1000000 ∧ xs.length * k.toNat ≤ 16777216 then some (.lst (List.replicate k.toNat xs).flatten) else none
  | .tup xs, .int k => if 2 ≤ k ∧ k ≤ 16777216 ∧ xs.length * k.toNat ≤ 16777216 ∧ xs ≠ [] then some (.tup (List.replicate k.toNat xs).flatten) else none
  | _, _ => none
def oDiv : Op2 := fun _ a b => match a, b with
  | .int i, .int j => if 0 < j ∧ j < 1073741824 then some (.int (i / j)) else none
  | _, _ => none
def oMod : Op2 := fun _ a b => match a, b with
  | .int i, .int j => if 0 < j then some (.int (i % j)) else none
  | _, _ => none
def oPow : Op2 := fun _ a b => match a, b with
  | .int i, .int j => if 0 ≤ j ∧ j ≤ 1000000 ∧ i.natAbs < 2 ^ 64 then some (.int (i ^ j.toNat)) else none
  | _, _ => none

theorem strOk_append {x y : Str} (h1 : PyData.strOk x = true) (h2 : PyData.strOk y = true) : PyData.strOk (x ++ y) = true := by
  have e : (x ++ y) = (⟨x.cps ++ y.cps⟩ : Str) := rfl
  rw [e]
  unfold PyData.strOk at *
  simp only [Array.all_append, h1, h2, Bool.and_self]
theorem len_append (x y : Str) : (x ++ y).length = x.length + y.length := by
  show (x.cps ++ y.cps).size = _
  rw [Array.size_append]
  rfl
theorem reps_ne {G : GC} {m : MH} {H : Hp} {us : List U} {vs : List V} (r : Reps G m H us vs) : us = [] ↔ vs = [] := by
  cases r <;> simp
theorem reps_rep {G : GC} {m : MH} {H : Hp} {us : List U} {vs : List V} (r : Reps G m H us vs) : ∀ n, Reps G m H (List.replicate n us).flatten (List.replicate n vs).flatten
  | 0 => by simp; exact .nil
  | n + 1 => by simp only [List.replicate_succ, List.flatten_cons]; exact r.append (reps_rep r n)
section
variable {X : Cx}
theorem z_add [TB] : OpZ X (binaryOp .Add) oAdd := by
  intro pins s σ H x y v u Q I rx ry ⟨m, st, a, b, S, ra, rb, P⟩
  unfold oAdd at P
  split at P
  · rename_i i j e1 e2
    rw [deref_int e1] at ra; rw [deref_int e2] at rb
    exact op_add pins s σ H x y v u Q I rx ry ⟨i, j, rep_int ra, rep_int rb, P.here S (.int _)⟩
  · rename_i i j e1 e2
    rw [deref_str e1] at ra; rw [deref_str e2] at rb
    obtain ⟨h1, h2, _⟩ := rep_str ra
    obtain ⟨h3, h4, _⟩ := rep_str rb
    split at P
    · rename_i hl
      exact op_add_str pins s σ H x y v u Q I rx ry ⟨i, j, h1, h3, by rw [line_eq]; exact hl, P.here S (.str _ (strOk_append h2 h4) (by rw [len_append]; exact hl))⟩
    · exact P.elim
  · rename_i i j e1 e2
    obtain ⟨p, vs, rfl, h1, r1⟩ := rep_lst S ra e1
    obtain ⟨q, ws, rfl, h2, r2⟩ := rep_lst S rb e2
    split at P
    · rename_i hl
      exact op_cat pins s σ H _ _ v u Q I rx ry ⟨p, q, vs, ws, rfl, rfl, h1, h2, by rw [line_eq, ← r1.length, ← r2.length]; exact hl, P.lst S (r1.append r2)⟩
    · exact P.elim
  · rename_i i j e1 e2
    rw [deref_tup e1] at ra; rw [deref_tup e2] at rb
    have ra' := ra
    have rb' := rb
    obtain ⟨p, vs, rfl, h1, r1⟩ := rep_tup (K := X.K) ra rfl
    obtain ⟨q, ws, rfl, h2, r2⟩ := rep_tup (K := X.K) rb rfl
    split at P
    · rename_i hl
      refine op_catA pins s σ H _ _ v u Q I rx ry ⟨p, q, vs, ws, rfl, rfl, h1, h2, by rw [line_eq, ← r1.length, ← r2.length]; exact hl, fun z => ?_, fun _ z => ?_, fun _ _ => P.tup S (r1.append r2)⟩
      · have := (reps_ne r1).mpr z
        subst this
        exact P.here S rb'
      · have := (reps_ne r2).mpr z
        subst this
        rw [List.append_nil] at P
        exact P.here S ra'
    · exact P.elim
  · exact P.elim
theorem z_sub [TB] : OpZ X (binaryOp .Sub) oSub := by
  intro pins s σ H x y v u Q I rx ry ⟨m, st, a, b, S, ra, rb, P⟩
  unfold oSub at P
  split at P
  · rename_i i j
    exact op_sub pins s σ H x y v u Q I rx ry ⟨i, j, rep_int ra, rep_int rb, P.here S (.int _)⟩
  · exact P.elim
/-- a tuple many times, as long as a line of memory holds it -/
theorem op_repW {X : Cx} : OpR X (binaryOp .Mult) (fun x y H Q => ∃ l k xs, x = .ref l ∧ y = .int k ∧ SqT X.K H l xs ∧ xs ≠ [] ∧ 2 ≤ k ∧ k ≤ 16777216 ∧ xs.length * k.toNat ≤ 16777216 ∧ ∀ p, H p = none → Q (.ref p) (upd H p (.tup (List.replicate k.toNat xs).flatten))) := by
  intro pins s σ H x y v u Q I rx ry ⟨l, k, xs, ex, ey, sq, ne, k1, k2, k3, q⟩
  subst ex ey
  cases rx
  obtain ⟨tk, rfl⟩ := ry
  obtain ⟨vs, rv, ⟨⟨oc, od, dt, osl⟩, hget, hcls, nn, hdat⟩, _⟩ := I.tuple sq
  simp only at hcls hdat
  subst hcls hdat
  have len : vs.length = xs.length := rv.length.symm
  have pos : 0 < xs.length := List.length_pos_iff.mpr ne
  have prod : ((vs.toArray.size : Nat) : Int) * k = ((xs.length * k.toNat : Nat) : Int) := by
    rw [List.size_toArray, len, Int.natCast_mul, Int.toNat_of_nonneg (by omega)]
  have flat : (List.replicate k.toNat vs).flatten.length = xs.length * k.toNat := by rw [PyProof.Rows.lm_len_rep_flat, len, Nat.mul_comm]
  have flat2 : (List.replicate k.toNat xs).flatten.length = xs.length * k.toNat := by rw [PyProof.Rows.lm_len_rep_flat, Nat.mul_comm]
  have emp : vs.toArray.isEmpty = false := by
    cases vs with
    | nil => simp at len; omega
    | cons a b => rfl
  have line := line_eq
  have b0 : (decide (k < -(2 ^ 63)) || decide (k ≥ 2 ^ 63)) = false := by rw [decide_eq_false (by omega), decide_eq_false (by omega)]; rfl
  have b1 : (vs.toArray.isEmpty || k == 1) = false := by rw [emp, Bool.false_or]; exact beq_eq_false_iff_ne.mpr (by omega)
  have b2 : (decide (k ≤ 0) || vs.toArray.isEmpty) = false := by rw [emp, Bool.or_false]; exact decide_eq_false (by omega)
  have b4 : Builtin.Tuple.tupleTooMany (((vs.toArray.size : Nat) : Int) * k) = false := by
    rw [prod]
    exact decide_eq_false (by rw [line]; omega)
  have obj : s.heap.get? l = some { cls := .type "tuple", dict := od, data := .seq vs.toArray nn, slots := osl } := hget
  refine wpAny_binaryOp_repeat_ref (T := "tuple") (U := "int") (by decide) ⟨_, obj, rfl⟩ (fun s2 => typeIs_int s2 k tk) noFill_tuple_mul F.fills_int_mul F.slot_int_rmul repeat_tuple F.slot_int_index.lookup ?_
  refine call_meets F.slot_int_rmul (typeIs_int s k tk) F.entry_int_rmul (F.args_int_rmul_2 _ _) (int_rmul_tuple k tk l vs.toArray nn od osl) ⟨obj, rfl, ⟨_, obj, rfl⟩, ?_⟩
  refine call_meets F.slot_tuple_mul ⟨_, obj, rfl⟩ F.entry_tuple_mul (F.args_tuple_mul_2 _ _) (tuple_mulW l vs.toArray nn od osl k tk b0 b1 b2 (by rw [prod]; omega) b4 (by rw [size_rep, List.size_toArray, flat, line]; exact k3)) ⟨obj, ?_⟩
  rw [size_rep]
  refine ⟨.ref s.heap.objs.size, _, I.laid (t' := s.toks) (o := .tup (List.replicate k.toNat xs).flatten) (fun b ob e => Heap.get?_push_of_some _ e) (Nat.le_refl _) ⟨by rw [flat2, line]; exact k3, _, rv.rep k.toNat, PyProof.Rows.IsTup.new _ _⟩, rfl, q _ (I.hok.fresh (Nat.le_refl _))⟩
theorem z_mul [TB] : OpZ X (binaryOp .Mult) oMul := by
  intro pins s σ H x y v u Q I rx ry ⟨m, st, a, b, S, ra, rb, P⟩
  unfold oMul at P
  split at P
  · rename_i i j e1 e2
    rw [deref_int e1] at ra; rw [deref_int e2] at rb
    split at P
    · rename_i hl
      exact op_mul pins s σ H x y v u Q I rx ry ⟨i, j, rep_int ra, rep_int rb, mulOk_c hl, P.here S (.int _)⟩
    · exact P.elim
  · rename_i xs k e1 e2
    obtain ⟨p, vs, rfl, h1, r1⟩ := rep_lst S ra e1
    rw [deref_int e2] at rb
    split at P
    · rename_i hl
      exact op_rep pins s σ H _ _ v u Q I rx ry ⟨p, k, vs, rfl, rep_int rb, h1, by omega, by omega, by rw [line_eq, ← r1.length]; exact hl.2.2, P.lst S (reps_rep r1 _)⟩
    · exact P.elim
  · rename_i xs k e1 e2
    rw [deref_tup e1] at ra
    obtain ⟨p, vs, rfl, h1, r1⟩ := rep_tup (K := X.K) ra rfl
    rw [deref_int e2] at rb
    split at P
    · rename_i hl
      exact op_repW pins s σ H _ _ v u Q I rx ry ⟨p, k, vs, rfl, rep_int rb, h1, fun z => hl.2.2.2 ((reps_ne r1).mpr z), hl.1, hl.2.1, by rw [← r1.length]; exact hl.2.2.1, P.tup S (reps_rep r1 _)⟩
    · exact P.elim
  · exact P.elim
theorem z_div [TB] : OpZ X (binaryOp .FloorDiv) oDiv := by
  intro pins s σ H x y v u Q I rx ry ⟨m, st, a, b, S, ra, rb, P⟩
  unfold oDiv at P
  split at P
  · rename_i i j
    split at P
    · rename_i hl
      exact op_fdiv pins s σ H x y v u Q I rx ry ⟨i, j, rep_int ra, rep_int rb, hl, P.here S (.int _)⟩
    · exact P.elim
  · exact P.elim
theorem z_mod [TB] : OpZ X (binaryOp .Mod) oMod := by
  intro pins s σ H x y v u Q I rx ry ⟨m, st, a, b, S, ra, rb, P⟩
  unfold oMod at P
  split at P
  · rename_i i j
    split at P
    · rename_i hl
      exact op_mod pins s σ H x y v u Q I rx ry ⟨i, j, rep_int ra, rep_int rb, hl, P.here S (.int _)⟩
    · exact P.elim
  · exact P.elim
theorem z_pow [TB] : OpZ X (binaryOp .Pow) oPow := by
  intro pins s σ H x y v u Q I rx ry ⟨m, st, a, b, S, ra, rb, P⟩
  unfold oPow at P
  split at P
  · rename_i i j
    split at P
    · rename_i hl
      exact op_pow pins s σ H x y v u Q I rx ry ⟨i, j, rep_int ra, rep_int rb, hl, P.here S (.int _)⟩
    · exact P.elim
  · exact P.elim

/-! ### comparisons -/
def oEq : Op2 := fun st a b => (eqU st a b).map .bl
def oNe : Op2 := fun st a b => (eqU st a b).map fun k => .bl (!k)
theorem z_eq [TB] (hu : X.A.units + 64 < cLine) : OpZ X (compareOp .Eq) oEq := by
  intro pins s σ H x y v u Q I rx ry ⟨m, st, a, b, S, ra, rb, P⟩
  unfold oEq eqU at P
  split at P
  · rename_i hp
    rw [Bool.and_eq_true] at hp
    obtain ⟨d, e1, hd⟩ := pl_dat _ hp.1
    obtain ⟨e, e2, he⟩ := pl_dat _ hp.2
    rw [← eqv_eqD _ _ hp.1 hp.2 e1 e2] at P
    obtain ⟨h1, h2⟩ := rep_dpD S ra e1
    obtain ⟨h3, h4⟩ := rep_dpD S rb e2
    exact op_eqD hu pins s σ H x y v u Q I rx ry ⟨d, e, h1, h3, shaped_of h2 hd, shaped_of h4 he, P.here S (.bl _)⟩
  · exact P.elim
theorem z_ne [TB] (hu : X.A.units + 64 < cLine) : OpZ X (compareOp .NotEq) oNe := by
  intro pins s σ H x y v u Q I rx ry ⟨m, st, a, b, S, ra, rb, P⟩
  unfold oNe eqU at P
  split at P
  · rename_i hp
    rw [Bool.and_eq_true] at hp
    obtain ⟨d, e1, hd⟩ := pl_dat _ hp.1
    obtain ⟨e, e2, he⟩ := pl_dat _ hp.2
    rw [← eqv_eqD _ _ hp.1 hp.2 e1 e2] at P
    obtain ⟨h1, h2⟩ := rep_dpD S ra e1
    obtain ⟨h3, h4⟩ := rep_dpD S rb e2
    exact op_neD hu pins s σ H x y v u Q I rx ry ⟨d, e, h1, h3, shaped_of h2 hd, shaped_of h4 he, P.here S (.bl _)⟩
  · exact P.elim
def oLe : Op2 := fun _ a b => match a, b with
  | .int i, .int j => some (.bl (decide (i ≤ j)))
  | _, _ => none
def oGt : Op2 := fun _ a b => match a, b with
  | .int i, .int j => some (.bl (decide (j < i)))
  | _, _ => none
def oGe : Op2 := fun _ a b => match a, b with
  | .int i, .int j => some (.bl (decide (j ≤ i)))
  | _, _ => none
theorem z_le [TB] : OpZ X (compareOp .LtE) oLe := by
  intro pins s σ H x y v u Q I rx ry ⟨m, st, a, b, S, ra, rb, P⟩
  unfold oLe at P
  split at P
  · exact op_le pins s σ H x y v u Q I rx ry ⟨_, _, rep_int ra, rep_int rb, P.here S (.bl _)⟩
  · exact P.elim
theorem z_gt [TB] : OpZ X (compareOp .Gt) oGt := by
  intro pins s σ H x y v u Q I rx ry ⟨m, st, a, b, S, ra, rb, P⟩
  unfold oGt at P
  split at P
  · exact op_gt pins s σ H x y v u Q I rx ry ⟨_, _, rep_int ra, rep_int rb, P.here S (.bl _)⟩
  · exact P.elim
theorem z_ge [TB] : OpZ X (compareOp .GtE) oGe := by
  intro pins s σ H x y v u Q I rx ry ⟨m, st, a, b, S, ra, rb, P⟩
  unfold oGe at P
  split at P
  · exact op_ge pins s σ H x y v u Q I rx ry ⟨_, _, rep_int ra, rep_int rb, P.here S (.bl _)⟩
  · exact P.elim
/-- is None; is of two bools -/
def isU : U → U → Option Bool
  | .bl a, .bl b => some (decide (a = b))
  | .non, .non => some true
  | _, .non => some false
  | _, _ => none
def oIs : Op2 := fun _ a b => (isU a b).map .bl
def oIsNot : Op2 := fun _ a b => (isU a b).map fun k => .bl (!k)
theorem isU_non {G : GC} {m : MH} {H : Hp} {a : U} {x : V} (r : Rep G m H a x) : isU a .non = some (decide (x = .non)) := by
  cases r <;> simp [isU]
theorem isU_cases {a b : U} {k : Bool} (h : isU a b = some k) : b = .non ∨ ∃ i j, a = .bl i ∧ b = .bl j ∧ k = decide (i = j) := by
  unfold isU at h
  split at h
  · right; exact ⟨_, _, rfl, rfl, (Option.some.inj h).symm⟩
  · left; rfl
  · left; rfl
  · cases h
theorem z_is [TB] : OpZ X (compareOp .Is) oIs := by
  intro pins s σ H x y v u Q I rx ry ⟨m, st, a, b, S, ra, rb, P⟩
  unfold oIs at P
  cases e : isU a b with
  | none => rw [e] at P; exact P.elim
  | some k =>
    rw [e] at P
    rcases isU_cases e with rfl | ⟨i, j, rfl, rfl, rfl⟩
    · rw [isU_non ra] at e; cases e
      exact op_isN pins s σ H x y v u Q I rx ry ⟨rep_non rb, P.here S (.bl _)⟩
    · exact op_is_bl pins s σ H x y v u Q I rx ry ⟨i, j, rep_bl ra, rep_bl rb, P.here S (.bl _)⟩
theorem z_isnot [TB] : OpZ X (compareOp .IsNot) oIsNot := by
  intro pins s σ H x y v u Q I rx ry ⟨m, st, a, b, S, ra, rb, P⟩
  unfold oIsNot at P
  cases e : isU a b with
  | none => rw [e] at P; exact P.elim
  | some k =>
    rw [e] at P
    rcases isU_cases e with rfl | ⟨i, j, rfl, rfl, rfl⟩
    · rw [isU_non ra] at e; cases e
      exact op_notN pins s σ H x y v u Q I rx ry ⟨rep_non rb, P.here S (.bl _)⟩
    · exact op_isnot_bl pins s σ H x y v u Q I rx ry ⟨i, j, rep_bl ra, rep_bl rb, P.here S (.bl _)⟩
end
end Z

set_option autoImplicit false
namespace Z
open PySem PySem.W PySem.SeqAt PySem.Calls PyProof.Rows
open AutoSeq1 (wpAny_loadPart')

/-! ### data of which < can be asked -/
mutual
def cmpD : PyData → PyData → Bool
  | .bool _, .bool _ => true
  | .int _, .int _ => true
  | .str _, .str _ => true
  | .tuple xs, .tuple ys => cmpDs xs ys
  | _, _ => false
def cmpDs : List PyData → List PyData → Bool
  | x :: xs, y :: ys => decide (dataType x = dataType y) && (if PyData.eqv x y = true then cmpDs xs ys else cmpD x y)
  | _, _ => true
end
theorem cmpDs_cons {x y : PyData} {xs ys : List PyData} (h : cmpDs (x :: xs) (y :: ys) = true) : dataType x = dataType y ∧ (PyData.eqv x y = true → cmpDs xs ys = true) ∧ (PyData.eqv x y = false → cmpD x y = true) := by
  rw [cmpDs, Bool.and_eq_true, decide_eq_true_eq] at h
  refine ⟨h.1, fun e => ?_, fun e => ?_⟩
  · have := h.2; rwa [if_pos e] at this
  · have := h.2; rwa [if_neg (by rw [e]; exact Bool.false_ne_true)] at this
mutual
theorem toks_same : ∀ (x y : PyData), x.canLay0 = true → y.canLay0 = true → PyData.eqv x y = true → keyToks x = keyToks y
  | .none, y, _, _, e => by cases y <;> first | rfl | simp [PyData.eqv] at e
  | .bool a, y, _, _, e => by
    cases y with
    | bool b => simp [PyData.eqv] at e; rw [e]
    | int j => simp only [PyData.eqv, beq_iff_eq] at e; simp only [keyToks, ← e]
    | _ => simp [PyData.eqv] at e
  | .int a, y, _, _, e => by
    cases y with
    | bool b => simp only [PyData.eqv, beq_iff_eq] at e; simp only [keyToks, e]
    | int j => simp [PyData.eqv] at e; rw [e]
    | _ => simp [PyData.eqv] at e
  | .str a, y, _, _, e => by
    cases y with
    | str b => simp [PyData.eqv] at e; rw [e]
    | _ => simp [PyData.eqv] at e
  | .list xs, y, hx, hy, e => by
    cases y with
    | list ys => simp only [keyToks]; exact toksAll_same xs ys (by simpa [PyData.canLay0] using hx) (by simpa [PyData.canLay0] using hy) (by simpa [PyData.eqv] using e)
    | _ => simp [PyData.eqv] at e
  | .tuple xs, y, hx, hy, e => by
    cases y with
    | tuple ys => simp only [keyToks]; exact toksAll_same xs ys (by simpa [PyData.canLay0] using hx) (by simpa [PyData.canLay0] using hy) (by simpa [PyData.eqv] using e)
    | _ => simp [PyData.eqv] at e
  | .dict _, y, hx, _, _ => by simp [PyData.canLay0] at hx
theorem toksAll_same : ∀ (xs ys : List PyData), PyData.canLayAll0 xs = true → PyData.canLayAll0 ys = true → PyData.eqvAll xs ys = true → keyToksAll xs = keyToksAll ys
  | [], [], _, _, _ => rfl
  | [], _ :: _, _, _, e => by simp [PyData.eqvAll] at e
  | _ :: _, [], _, _, e => by simp [PyData.eqvAll] at e
  | x :: xs, y :: ys, hx, hy, e => by
    simp only [PyData.canLayAll0, Bool.and_eq_true] at hx hy
    simp only [PyData.eqvAll, Bool.and_eq_true] at e
    simp only [keyToksAll]
    rw [toks_same x y hx.1 hy.1 e.1, toksAll_same xs ys hx.2 hy.2 e.2]
end
mutual
theorem toks_apart : ∀ (x y : PyData), x.canLay0 = true → y.canLay0 = true → cmpD x y = true → PyData.eqv x y = false → ∀ l m, lexLt itemOrd (keyToks x ++ l) (keyToks y ++ m) = dataLt x y
  | .none, y, _, _, h, _, _, _ => by cases y <;> simp [cmpD] at h
  | .bool a, y, _, _, h, e, l, m => by
    cases y with
    | bool b =>
      unfold dataLt
      simp only [keyToks, List.cons_append, List.nil_append]
      refine lex_atom (fun q => ?_) l m
      have q' := Sum.inl.inj q
      cases a <;> cases b <;> simp_all [PyData.eqv]
    | _ => simp [cmpD] at h
  | .int a, y, _, _, h, e, l, m => by
    cases y with
    | int b =>
      unfold dataLt
      simp only [keyToks, List.cons_append, List.nil_append]
      refine lex_atom (fun q => ?_) l m
      have q' := Sum.inl.inj q
      simp [PyData.eqv, q'] at e
    | _ => simp [cmpD] at h
  | .str a, y, _, _, h, e, l, m => by
    cases y with
    | str b =>
      unfold dataLt
      simp only [keyToks, List.cons_append, List.nil_append]
      refine lex_atom (fun q => ?_) l m
      have q' := str_of_cps (Sum.inr.inj q)
      simp [PyData.eqv, q'] at e
    | _ => simp [cmpD] at h
  | .list _, y, _, _, h, _, _, _ => by cases y <;> simp [cmpD] at h
  | .tuple xs, y, hx, hy, h, e, l, m => by
    cases y with
    | tuple ys =>
      unfold dataLt
      simp only [keyToks]
      have z := fun l m => toksAll_apart xs ys (by simpa [PyData.canLay0] using hx) (by simpa [PyData.canLay0] using hy) (by simpa [cmpD] using h) (by simpa [PyData.eqv] using e) l m
      exact z l m
    | _ => simp [cmpD] at h
  | .dict _, y, hx, _, _, _, _, _ => by simp [PyData.canLay0] at hx
theorem toksAll_apart : ∀ (xs ys : List PyData), PyData.canLayAll0 xs = true → PyData.canLayAll0 ys = true → cmpDs xs ys = true → PyData.eqvAll xs ys = false → ∀ l m, lexLt itemOrd (keyToksAll xs ++ l) (keyToksAll ys ++ m) = lexLt itemOrd (keyToksAll xs) (keyToksAll ys)
  | [], [], _, _, _, e, _, _ => by simp [PyData.eqvAll] at e
  | [], y :: ys, _, _, _, _, l, m => by
    simp only [keyToksAll, List.cons_append, List.nil_append]
    rw [lex_diff (O := itemOrd) (by simp), lex_diff (O := itemOrd) (by simp)]
  | x :: xs, [], _, _, _, _, l, m => by
    simp only [keyToksAll, List.cons_append, List.nil_append]
    rw [lex_diff (O := itemOrd) (by simp), lex_diff (O := itemOrd) (by simp)]
  | x :: xs, y :: ys, hx, hy, h, e, l, m => by
    simp only [PyData.canLayAll0, Bool.and_eq_true] at hx hy
    obtain ⟨_, h1, h2⟩ := cmpDs_cons h
    simp only [keyToksAll, List.cons_append, List.append_assoc]
    rw [lex_self, lex_self]
    cases q : PyData.eqv x y with
    | true =>
      rw [toks_same x y hx.1 hy.1 q, lex_pre, lex_pre]
      exact toksAll_apart xs ys hx.2 hy.2 (h1 q) (by simpa [PyData.eqvAll, q] using e) l m
    | false => rw [toks_apart x y hx.1 hy.1 (h2 q) q, toks_apart x y hx.1 hy.1 (h2 q) q]
end
theorem lexAll_cons {x y : PyData} {xs ys : List PyData} (hx : PyData.canLayAll0 (x :: xs) = true) (hy : PyData.canLayAll0 (y :: ys) = true) (h : cmpDs (x :: xs) (y :: ys) = true) :
    lexLt itemOrd (keyToksAll (x :: xs)) (keyToksAll (y :: ys)) = if PyData.eqv x y = true then lexLt itemOrd (keyToksAll xs) (keyToksAll ys) else dataLt x y := by
  simp only [PyData.canLayAll0, Bool.and_eq_true] at hx hy
  obtain ⟨_, h1, h2⟩ := cmpDs_cons h
  simp only [keyToksAll]
  rw [lex_self]
  cases q : PyData.eqv x y with
  | true => rw [if_pos rfl, toks_same x y hx.1 hy.1 q, lex_pre]
  | false => rw [if_neg Bool.false_ne_true, toks_apart x y hx.1 hy.1 (h2 q) q]
/-- the first place whose items differ tells -/
theorem first_lex : ∀ (xs ys : List PyData), PyData.canLayAll0 xs = true → PyData.canLayAll0 ys = true → cmpDs xs ys = true →
    firstLt (pairEq xs ys) (fun j => dataLt (xs.getD j .none) (ys.getD j .none)) (decide (xs.length < ys.length)) (List.range (min xs.length ys.length)) = lexLt itemOrd (keyToksAll xs) (keyToksAll ys)
  | [], [], _, _, _ => by simp [firstLt, keyToksAll, lex_irrefl]
  | [], y :: ys, _, _, _ => by
    simp only [keyToksAll]
    rw [lex_diff (O := itemOrd) (by simp)]
    simp [firstLt, itemLt]
  | x :: xs, [], _, _, _ => by
    simp only [keyToksAll]
    rw [lex_diff (O := itemOrd) (by simp)]
    simp [firstLt, itemLt]
  | x :: xs, y :: ys, hx, hy, h => by
    have hx' := hx
    have hy' := hy
    simp only [PyData.canLayAll0, Bool.and_eq_true] at hx' hy'
    rw [lexAll_cons hx hy h]
    obtain ⟨_, h1, h2⟩ := cmpDs_cons h
    have em : min (x :: xs).length (y :: ys).length = min xs.length ys.length + 1 := by simp only [List.length_cons]; omega
    have ed : decide ((x :: xs).length < (y :: ys).length) = decide (xs.length < ys.length) := by simp
    rw [em, ed, List.range_succ_eq_map]
    cases q : PyData.eqv x y with
    | true =>
      rw [if_pos rfl, firstLt_yes (show pairEq (x :: xs) (y :: ys) 0 = true from q), firstLt_map, ← first_lex xs ys hx'.2 hy'.2 (h1 q)]
      rfl
    | false =>
      rw [if_neg Bool.false_ne_true, firstLt_no (show pairEq (x :: xs) (y :: ys) 0 = false from q)]
      rfl
/-- at the first place that differs < can be asked -/
theorem cmpDs_at : ∀ (xs ys : List PyData) (j : Nat), cmpDs xs ys = true → j < xs.length → j < ys.length → (∀ i, i < j → pairEq xs ys i = true) → pairEq xs ys j = false → cmpD (xs.getD j .none) (ys.getD j .none) = true
  | [], _, j, _, h, _, _, _ => absurd h (Nat.not_lt_zero _)
  | _ :: _, [], j, _, _, h, _, _ => absurd h (Nat.not_lt_zero _)
  | x :: xs, y :: ys, 0, h, _, _, _, e => (cmpDs_cons h).2.2 e
  | x :: xs, y :: ys, j + 1, h, h1, h2, hb, e => cmpDs_at xs ys j ((cmpDs_cons h).2.1 (hb 0 (Nat.succ_pos _))) (Nat.lt_of_succ_lt_succ h1) (Nat.lt_of_succ_lt_succ h2) (fun i hi => hb (i + 1) (Nat.succ_lt_succ hi)) e
end Z

set_option autoImplicit false
namespace Z
open PySem PySem.W PySem.SeqAt PySem.Calls PyProof.Rows MeetsSeq MeetsSeq2 MeetsSeq3 SeqRoads2
open AutoSeq1 (wpAny_loadPart')
theorem dropped {α : Type} {l : List α} {i : Nat} {x : α} {r : List α} (h : x :: r = l.drop i) : i < l.length := by
  rcases Nat.lt_or_ge i l.length with q | q
  · exact q
  · rw [List.drop_of_length_le q] at h; cases h
theorem tup_lt (l b : Addr) (us ws : Array Value) (n n2 : Nat) (dd dd2 : Option Addr) (sl sl2 : Array (Option Value)) (e r : Nat → Bool) :
    Meets (Builtin.«tuple.__lt__» ⟨[.ref l, .ref b], []⟩) (fun A R s =>
      s.heap.get? l = some { cls := .type "tuple", dict := dd, data := .seq us n, slots := sl } ∧ s.heap.get? b = some { cls := .type "tuple", dict := dd2, data := .seq ws n2, slots := sl2 } ∧
        (∀ j (h1 : j < us.size) (h2 : j < ws.size), EqAt A.in1 s us[j] ws[j] (e j)) ∧
        (∀ j (h1 : j < us.size) (h2 : j < ws.size), (∀ i, i < j → e i = true) → e j = false → RcLt A.in1 s us[j] ws[j] (r j)) ∧
        R (.ok (.ret (.bool (firstLt e r (decide (us.size < ws.size)) (List.range (min us.size ws.size)))))) s) :=
  .of_wp fun prog w A R s h => by
    obtain ⟨hp, g, d, tk, os⟩ := s
    obtain ⟨hl, hb, he, hr, h⟩ := h
    have f2 := AutoSeq1.sub_tuple_tuple
    have hlen : (us.toList.zip ws.toList).length = min us.size ws.size := by simp
    wp_walk using wpAny_loadPart' hl, wpAny_loadPart' hb, wpAny_forIn_list _ (fun rest b s' => b.1 = none ∧ s' = ⟨hp, g, d, tk, os⟩ ∧ ∃ i, rest = (us.toList.zip ws.toList).drop i ∧ (∀ k, k < i → e k = true) ∧
      R (.ok (.ret (.bool (firstLt e r (decide (us.size < ws.size)) ((List.range (min us.size ws.size)).drop i))))) ⟨hp, g, d, tk, os⟩) _
    case turn =>
      rintro ⟨y, x⟩ rest b s' ⟨hb', rfl, i, hz, hall, hR⟩
      have hlt := dropped hz
      have hm : i < min us.size ws.size := hlen ▸ hlt
      have h1 : i < us.size := by omega
      have h2 : i < ws.size := by omega
      rw [List.drop_eq_getElem_cons hlt] at hz
      injection hz with hyx hrest
      have hy : y = us[i] := by simpa using congrArg Prod.fst hyx
      have hx : x = ws[i] := by simpa using congrArg Prod.snd hyx
      subst hy hx
      have hd : (List.range (min us.size ws.size)).drop i = i :: (List.range (min us.size ws.size)).drop (i + 1) := by rw [List.drop_eq_getElem_cons (by simpa using hm)]; simp
      rw [hd] at hR
      refine wpAny_bind (he i h1 h2 prog w _ _ ?_)
      cases q : e i with
      | true =>
        rw [firstLt_yes q] at hR
        wp_walk
        refine ⟨rfl, rfl, i + 1, hrest, fun k hk => ?_, hR⟩
        rcases Nat.lt_or_ge k i with z | z
        · exact hall k z
        · have : k = i := by omega
          rw [this]; exact q
      | false =>
        rw [firstLt_no q] at hR
        have hrr := hr i h1 h2 hall q prog w
        generalize richCompare CmpOp.Lt us[i] ws[i] = rc at hrr ⊢
        wp_walk
        refine hrr _ _ ?_
        wp_walk
        exact ⟨_, rfl, hR⟩
    case fin =>
      rintro ⟨b1, b2⟩ s' ⟨hb', rfl, i, hz, _, hR⟩
      simp only at hb'
      subst hb'
      have hge : min us.size ws.size ≤ i := by
        rcases Nat.lt_or_ge i (us.toList.zip ws.toList).length with q | q
        · rw [List.drop_eq_getElem_cons q] at hz; cases hz
        · exact hlen ▸ q
      rw [List.drop_of_length_le (by simpa using hge)] at hR
      wp_walk
      exact ⟨_, rfl, by simpa [Builtin.Tuple.tupleCompareSizes, firstLt] using hR⟩
    case h => exact ⟨rfl, rfl, 0, rfl, fun k hk => absurd hk (Nat.not_lt_zero _), by simpa using h⟩
section
variable {A : Around} {s : Shared}
theorem rc_tups {l b : Addr} {us ws : Array Value} {e r : Nat → Bool} (hl : s.heap.IsTuple l us) (hb : s.heap.IsTuple b ws) (hu : A.units < cLine)
    (he : ∀ j (h1 : j < us.size) (h2 : j < ws.size), EqAt A.in1 s us[j] ws[j] (e j)) (hr : ∀ j (h1 : j < us.size) (h2 : j < ws.size), (∀ i, i < j → e i = true) → e j = false → RcLt A.in1 s us[j] ws[j] (r j)) :
    RcLt A s (.ref l) (.ref b) (firstLt e r (decide (us.size < ws.size)) (List.range (min us.size ws.size))) := fun prog w E Q h => by
  obtain ⟨⟨c1, d1, t1, s1⟩, o1, k1, n1, z1⟩ := id hl
  obtain ⟨⟨c2, d2, t2, s2⟩, o2, k2, n2, z2⟩ := id hb
  simp only at k1 z1 k2 z2
  subst k1 z1 k2 z2
  exact richCompare_meets_room (op := .Lt) ⟨_, o1, rfl⟩ ⟨_, o2, rfl⟩ F.slot_tuple_lt F.entry_tuple_lt (F.args_tuple_lt_2 _ _) (tup_lt l b us ws n1 n2 d1 d2 s1 s2 e r)
    ⟨o1, o2, he, hr, show Value.bool (firstLt e r (decide (us.size < ws.size)) (List.range (min us.size ws.size))) ≠ Value.notImplemented ∧ Q (.bool (firstLt e r (decide (us.size < ws.size)) (List.range (min us.size ws.size)))) s from ⟨nofun, h⟩⟩ hu
/-- tuple's own __lt__ -/
theorem call_tups {prog : Program} {w : World} {E : Value → Shared → Prop} {Q : Value → Shared → Prop} {l b : Addr} {us ws : Array Value} {e r : Nat → Bool} (hl : s.heap.IsTuple l us) (hb : s.heap.IsTuple b ws)
    (he : ∀ j (h1 : j < us.size) (h2 : j < ws.size), EqAt A.in1 s us[j] ws[j] (e j)) (hr : ∀ j (h1 : j < us.size) (h2 : j < ws.size), (∀ i, i < j → e i = true) → e j = false → RcLt A.in1 s us[j] ws[j] (r j))
    (h : Q (.bool (firstLt e r (decide (us.size < ws.size)) (List.range (min us.size ws.size)))) s) : wpAny (model prog w) A (call (.builtin "tuple.__lt__") [.ref l, .ref b]) Q E s := by
  obtain ⟨⟨c1, d1, t1, s1⟩, o1, k1, n1, z1⟩ := id hl
  obtain ⟨⟨c2, d2, t2, s2⟩, o2, k2, n2, z2⟩ := id hb
  simp only at k1 z1 k2 z2
  subst k1 z1 k2 z2
  exact call_meets F.slot_tuple_lt ⟨_, o1, rfl⟩ F.entry_tuple_lt (F.args_tuple_lt_2 _ _) (tup_lt l b us ws n1 n2 d1 d2 s1 s2 e r) ⟨o1, o2, he, hr, h⟩
end
mutual
theorem rc_cmp : ∀ (da db : PyData) (A : Around) (s : Shared) (a b : Value) (as bs : List Addr), Reads s.heap a da as → Reads s.heap b db bs → da.canLay0 = true → db.canLay0 = true → cmpD da db = true → A.units + min da.depth db.depth < cLine → RcLt A s a b (dataLt da db)
  | .none, db, _, _, _, _, _, _, _, _, _, _, h, _ => by cases db <;> simp [cmpD] at h
  | .list _, db, _, _, _, _, _, _, _, _, _, _, h, _ => by cases db <;> simp [cmpD] at h
  | .dict _, db, _, _, _, _, _, _, _, _, _, _, h, _ => by cases db <;> simp [cmpD] at h
  | .bool x, db, A, s, a, b, as, bs, ra, rb, _, _, h, _ => by
    cases db with
    | bool y =>
      cases ra; cases rb
      intro prog w E Q hq
      rw [dataLt_bool] at hq
      exact lt_bool hq
    | _ => simp [cmpD] at h
  | .int x, db, A, s, a, b, as, bs, ra, rb, _, _, h, _ => by
    cases db with
    | int y =>
      cases ra; cases rb
      intro prog w E Q hq
      rw [dataLt_int] at hq
      exact P.lt_int hq
    | _ => simp [cmpD] at h
  | .str x, db, A, s, a, b, as, bs, ra, rb, _, _, h, _ => by
    cases db with
    | str y =>
      cases ra; cases rb
      intro prog w E Q hq
      rw [dataLt_str] at hq
      exact P.lt_str hq
    | _ => simp [cmpD] at h
  | .tuple xs, db, A, s, a, b, as, bs, ra, rb, hx, hy, h, hu => by
    cases db with
    | tuple ys =>
      have hx' : PyData.canLayAll0 xs = true := by simpa [PyData.canLay0] using hx
      have hy' : PyData.canLayAll0 ys = true := by simpa [PyData.canLay0] using hy
      have hc : cmpDs xs ys = true := by simpa [cmpD] using h
      cases ra with
      | @tuple l o vs n _ as1 h1 h2 h3 h4 => cases rb with
        | @tuple l' o' vs' n' _ bs1 k1 k2 k3 k4 =>
          have n1 : vs.size = xs.length := by simpa using ReadsAll.length _ _ _ h4
          have n2 : vs'.size = ys.length := by simpa using ReadsAll.length _ _ _ k4
          rw [dataLt_tuple, ← first_lex xs ys hx' hy' hc, ← n1, ← n2]
          refine rc_tups ⟨_, h1, h2, _, h3⟩ ⟨_, k1, k2, _, k3⟩ (room_here hu) (fun j j1 j2 => ?_) fun j j1 j2 jb je => ?_
          · have := eqAt_readsAll xs ys A.in1 s vs.toList vs'.toList _ _ h4 k4 hx' hy' (room_in hu) j (by simpa using j1) (by simpa using j2)
            simpa using this
          · have := rc_cmps xs ys A.in1 s vs.toList vs'.toList _ _ h4 k4 hx' hy' (room_in hu) j (by simpa using j1) (by simpa using j2) (cmpDs_at xs ys j hc (by omega) (by omega) jb je)
            simpa using this
    | _ => simp [cmpD] at h
theorem rc_cmps : ∀ (xs ys : List PyData) (A : Around) (s : Shared) (vs ws : List Value) (as bs : List Addr), ReadsAll s.heap vs xs as → ReadsAll s.heap ws ys bs → PyData.canLayAll0 xs = true → PyData.canLayAll0 ys = true →
    A.units + min (PyData.depthAll xs) (PyData.depthAll ys) < cLine → ∀ j (h1 : j < vs.length) (h2 : j < ws.length), cmpD (xs.getD j .none) (ys.getD j .none) = true → RcLt A s vs[j] ws[j] (dataLt (xs.getD j .none) (ys.getD j .none))
  | [], _, _, _, _, _, _, _, ra, _, _, _, _, j, h1, _, _ => by cases ra; exact absurd h1 (Nat.not_lt_zero _)
  | _ :: _, [], _, _, _, _, _, _, _, rb, _, _, _, j, _, h2, _ => by cases rb; exact absurd h2 (Nat.not_lt_zero _)
  | x :: xs, y :: ys, A, s, _, _, _, _, ra, rb, hx, hy, hu, j, h1, h2, hj => by
    simp only [PyData.canLayAll0, Bool.and_eq_true] at hx hy
    cases ra with
    | cons r rs => cases rb with
      | cons r' rs' => cases j with
        | zero => exact rc_cmp x y A s _ _ _ _ r r' hx.1 hy.1 hj (room_head hu)
        | succ j => exact rc_cmps xs ys A s _ _ _ _ rs rs' hx.2 hy.2 (room_tail hu) j (Nat.lt_of_succ_lt_succ h1) (Nat.lt_of_succ_lt_succ h2) hj
end
end Z

namespace Z
open PySem PySem.W PySem.SeqAt PySem.Calls PyProof.Rows L2

/-! ### < of plain tuples -/
theorem ty_dat {a b : U} {D E : PyData} (e1 : dat a = some D) (e2 : dat b = some E) (h : tyN a = tyN b) : dataType D = dataType E := by
  rcases dat_some e1 with ⟨rfl, rfl⟩ | ⟨_, rfl, rfl⟩ | ⟨_, rfl, rfl⟩ | ⟨_, rfl, rfl⟩ | ⟨_, _, rfl, rfl, _⟩ | ⟨_, _, rfl, rfl, _⟩ | ⟨_, _, rfl, rfl, _⟩ <;>
  rcases dat_some e2 with ⟨rfl, rfl⟩ | ⟨_, rfl, rfl⟩ | ⟨_, rfl, rfl⟩ | ⟨_, rfl, rfl⟩ | ⟨_, _, rfl, rfl, _⟩ | ⟨_, _, rfl, rfl, _⟩ | ⟨_, _, rfl, rfl, _⟩ <;> first | rfl | (simp [tyN] at h)
mutual
theorem lt_dat : ∀ {d d' : Nat} (a b : U) {D E : PyData}, pl d a = true → pl d' b = true → dat a = some D → dat b = some E → D.canLay0 = true → E.canLay0 = true → canLt a b = true → cmpD D E = true ∧ dataLt D E = ltU a b
  | _, _, .non, b, _, _, _, _, _, _, _, _, h => by cases b <;> simp [canLt] at h
  | _, _, .bl x, b, D, E, _, _, e1, e2, _, _, h => by
    cases b with
    | bl y => simp [dat] at e1 e2; subst e1 e2; exact ⟨rfl, by rw [dataLt_bool]; cases x <;> cases y <;> rfl⟩
    | _ => simp [canLt] at h
  | _, _, .int x, b, D, E, _, _, e1, e2, _, _, h => by
    cases b with
    | int y => simp [dat] at e1 e2; subst e1 e2; exact ⟨rfl, by rw [dataLt_int]; rfl⟩
    | _ => simp [canLt] at h
  | _, _, .str x, b, D, E, _, _, e1, e2, _, _, h => by
    cases b with
    | str y => simp [dat] at e1 e2; subst e1 e2; exact ⟨rfl, by rw [dataLt_str]; rfl⟩
    | _ => simp [canLt] at h
  | 0, _, .tup _, _, _, _, h, _, _, _, _, _, _ => by simp [pl] at h
  | d + 1, d', .tup xs, b, D, E, ha, hb, e1, e2, l1, l2, h => by
    cases b with
    | tup ys =>
      simp only [dat, Option.map_eq_some_iff] at e1 e2
      obtain ⟨Ds, e1, rfl⟩ := e1
      obtain ⟨Es, e2, rfl⟩ := e2
      cases d' with
      | zero => simp [pl] at hb
      | succ d' =>
        obtain ⟨h1, h2⟩ := lts_dat xs ys (show pls d xs = true from ha) (show pls d' ys = true from hb) e1 e2 (by simpa [PyData.canLay0] using l1) (by simpa [PyData.canLay0] using l2) (show canLts xs ys = true from h)
        exact ⟨by simpa [cmpD] using h1, by rw [dataLt_tuple, h2]; rfl⟩
    | _ => simp [canLt] at h
  | _, _, .lst _, b, _, _, _, _, _, _, _, _, h => by cases b <;> simp [canLt] at h
  | _, _, .frz _, b, _, _, _, _, _, _, _, _, h => by cases b <;> simp [canLt] at h
  | _, _, .hdl _, b, _, _, _, _, _, _, _, _, h => by cases b <;> simp [canLt] at h
  | _, _, .fn _, b, _, _, _, _, _, _, _, _, h => by cases b <;> simp [canLt] at h
  | _, _, .dct _ _, b, _, _, _, _, _, _, _, _, h => by cases b <;> simp [canLt] at h
  | _, _, .kdc _ _, b, _, _, _, _, _, _, _, _, h => by cases b <;> simp [canLt] at h
theorem lts_dat : ∀ {d d' : Nat} (a b : List U) {D E : List PyData}, pls d a = true → pls d' b = true → dats a = some D → dats b = some E → PyData.canLayAll0 D = true → PyData.canLayAll0 E = true → canLts a b = true →
    cmpDs D E = true ∧ lexLt itemOrd (keyToksAll D) (keyToksAll E) = ltUs a b
  | _, _, [], b, D, E, _, _, e1, e2, l1, l2, _ => by
    simp [dats] at e1; subst e1
    have c : cmpDs [] E = true := by cases E <;> rfl
    refine ⟨c, ?_⟩
    rw [← first_lex [] E (by simp [PyData.canLayAll0]) l2 c]
    cases b with
    | nil => simp [dats] at e2; subst e2; simp [firstLt, ltUs]
    | cons y ys =>
      simp only [dats, Option.bind_eq_some_iff, Option.map_eq_some_iff] at e2
      obtain ⟨_, _, _, _, rfl⟩ := e2
      simp [firstLt, ltUs]
  | _, _, x :: xs, [], D, E, _, _, e1, e2, l1, l2, _ => by
    simp [dats] at e2; subst e2
    simp only [dats, Option.bind_eq_some_iff, Option.map_eq_some_iff] at e1
    obtain ⟨D1, _, Ds, _, rfl⟩ := e1
    have c : cmpDs (D1 :: Ds) [] = true := rfl
    refine ⟨c, ?_⟩
    rw [← first_lex (D1 :: Ds) [] l1 (by simp [PyData.canLayAll0]) c]
    simp [firstLt, ltUs]
  | _, _, x :: xs, y :: ys, D, E, ha, hb, e1, e2, l1, l2, h => by
    simp only [dats, Option.bind_eq_some_iff, Option.map_eq_some_iff] at e1 e2
    obtain ⟨D1, e1, Ds, e1', rfl⟩ := e1
    obtain ⟨E1, e2, Es, e2', rfl⟩ := e2
    simp only [pls, Bool.and_eq_true] at ha hb
    have l1' := l1
    have l2' := l2
    simp only [PyData.canLayAll0, Bool.and_eq_true] at l1' l2'
    simp only [canLts, Bool.and_eq_true, beq_iff_eq] at h
    have ee := eqv_eqD x y ha.1 hb.1 e1 e2
    cases q : eqD x y with
    | true =>
      rw [q] at ee
      have h2 := h.2
      rw [if_pos q] at h2
      obtain ⟨k1, k2⟩ := lts_dat xs ys ha.2 hb.2 e1' e2' l1'.2 l2'.2 h2
      have c : cmpDs (D1 :: Ds) (E1 :: Es) = true := by
        rw [cmpDs, if_pos ee, k1, decide_eq_true (ty_dat e1 e2 h.1)]; rfl
      refine ⟨c, ?_⟩
      rw [lexAll_cons l1 l2 c, if_pos ee, k2]
      simp [ltUs, q]
    | false =>
      rw [q] at ee
      have h2 := h.2
      rw [if_neg (by rw [q]; decide)] at h2
      obtain ⟨k1, k2⟩ := lt_dat x y ha.1 hb.1 e1 e2 l1'.1 l2'.1 h2
      have c : cmpDs (D1 :: Ds) (E1 :: Es) = true := by
        rw [cmpDs, if_neg (by rw [ee]; decide), k1, decide_eq_true (ty_dat e1 e2 h.1)]; rfl
      refine ⟨c, ?_⟩
      rw [lexAll_cons l1 l2 c, if_neg (by rw [ee]; decide), k2]
      simp [ltUs, q]
end
def oLt : Op2 := fun _ a b => match a, b with
  | .int i, .int j => some (.bl (decide (i < j)))
  | .str x, .str y => some (.bl (decide (x.cps.toList < y.cps.toList)))
  | .tup xs, .tup ys => if (pls 60 xs && pls 60 ys && canLts xs ys) = true then some (.bl (ltUs xs ys)) else none
  | _, _ => none
theorem z_lt {X : Cx} [TB] (hu : X.A.units + 64 < cLine) : OpZ X (compareOp .Lt) oLt := by
  intro pins s σ H x y v u Q I rx ry ⟨m, st, a, b, S, ra, rb, P⟩
  unfold oLt at P
  split at P
  · exact op_lt pins s σ H x y v u Q I rx ry ⟨_, _, rep_int ra, rep_int rb, P.here S (.bl _)⟩
  · exact op_lt_str pins s σ H x y v u Q I rx ry ⟨_, _, (rep_str ra).1, (rep_str rb).1, P.here S (.bl _)⟩
  · rename_i xs ys
    split at P
    · rename_i hp
      rw [Bool.and_eq_true, Bool.and_eq_true] at hp
      have pa : pl 61 (.tup xs) = true := hp.1.1
      have pb : pl 61 (.tup ys) = true := hp.1.2
      obtain ⟨d, e1, hd⟩ := pl_dat _ pa
      obtain ⟨e, e2, he⟩ := pl_dat _ pb
      obtain ⟨h1, h2⟩ := rep_dp ra e1
      obtain ⟨h3, h4⟩ := rep_dp rb e2
      obtain ⟨k1, k2⟩ := lt_dat _ _ pa pb e1 e2 h2 h4 hp.2
      obtain ⟨as, q1⟩ := Dp.reads I d x v h1 rx
      obtain ⟨bs, q2⟩ := Dp.reads I e y u h3 ry
      have z := rc_cmp d e X.A s v u as bs q1 q2 h2 h4 k1 (by
        have : min d.depth e.depth ≤ d.depth := Nat.min_le_left _ _
        omega)
      have k2 : dataLt d e = ltUs xs ys := k2
      rw [k2] at z
      exact z _ _ _ _ ⟨.bl _, H, I, rfl, P.here S (.bl _)⟩
    · exact P.elim
  · exact P.elim
end Z

namespace Z
open PySem L2

/-! ### dicts by two lists -/
def eqK : U → U → Bool
  | .str x, .str y => decide (x = y)
  | .int i, .int j => decide (i = j)
  | _, _ => false
def isKey : U → Bool
  | .str _ => true
  | .int _ => true
  | _ => false
def dGetU : List U → List U → U → Option U
  | k :: ks, u :: us, x => if eqK k x = true then some u else dGetU ks us x
  | _, _, _ => none
def dRepU : List U → List U → U → U → List U
  | k :: ks, u :: us, x, v => (if eqK k x = true then v else u) :: dRepU ks us x v
  | _, us, _, _ => us
def dHasU (ks : List U) (x : U) : Bool := ks.any (eqK · x)
def dSetK (ks : List U) (x : U) : List U := if dHasU ks x = true then ks else ks ++ [x]
def dSetV (ks us : List U) (x v : U) : List U := if dHasU ks x = true then dRepU ks us x v else us ++ [v]
section
variable {G : GC} {m : MH} {H : Hp}
theorem rep_key {u : U} {k : L2.Key} (r : Rep G m H u (kV k)) : (∃ i, k = .inl i ∧ u = .int i) ∨ ∃ x, k = .inr x ∧ u = .str x := by
  cases k with
  | inl i => left; refine ⟨i, rfl, ?_⟩; cases r; rfl
  | inr x => right; refine ⟨x, rfl, ?_⟩; cases r; rfl
theorem key_of {u : U} {v : V} (r : Rep G m H u v) (h : isKey u = true) : ∃ k : L2.Key, v = kV k := by
  cases r with
  | int i => exact ⟨.inl i, rfl⟩
  | str x _ _ => exact ⟨.inr x, rfl⟩
  | _ => cases h
theorem eqK_rel {u x : U} {k k' : L2.Key} (r : Rep G m H u (kV k)) (s : Rep G m H x (kV k')) : eqK u x = decide (k = k') := by
  rcases rep_key r with ⟨i, rfl, rfl⟩ | ⟨i, rfl, rfl⟩ <;> rcases rep_key s with ⟨j, rfl, rfl⟩ | ⟨j, rfl, rfl⟩ <;> simp [eqK]
theorem get_rel {x : U} {k : L2.Key} (hx : Rep G m H x (kV k)) : ∀ {kvs : List (L2.Key × V)} {ks us : List U}, Reps G m H ks (kvs.map fun p => kV p.1) → Reps G m H us (kvs.map (·.2)) →
    (∃ u v, dGetU ks us x = some u ∧ valV kvs k = some v ∧ Rep G m H u v) ∨ (dGetU ks us x = none ∧ valV kvs k = none)
  | [], ks, us, hk, hu => by
    cases hk; cases hu
    exact .inr ⟨rfl, rfl⟩
  | p :: kvs, ks, us, hk, hu => by
    cases hk with
    | cons k1 k2 => cases hu with
      | cons u1 u2 =>
        have e := eqK_rel k1 hx
        unfold dGetU
        by_cases q : p.1 = k
        · rw [e, decide_eq_true q, if_pos rfl, valV_pos q]
          exact .inl ⟨_, _, rfl, rfl, u1⟩
        · rw [e, decide_eq_false q, if_neg Bool.false_ne_true]
          have z : valV (p :: kvs) k = valV kvs k := by simp [valV, List.find?_cons, q]
          rw [z]
          exact get_rel hx k2 u2
theorem has_rel {x : U} {k : L2.Key} (hx : Rep G m H x (kV k)) : ∀ {kvs : List (L2.Key × V)} {ks : List U}, Reps G m H ks (kvs.map fun p => kV p.1) → dHasU ks x = kvs.any fun p => decide (p.1 = k)
  | [], ks, hk => by cases hk; rfl
  | p :: kvs, ks, hk => by
    cases hk with
    | cons k1 k2 =>
      have ih := has_rel hx k2
      unfold dHasU at ih ⊢
      rw [List.any_cons, List.any_cons, eqK_rel k1 hx, ih]
theorem has_val {kvs : List (L2.Key × V)} {k : L2.Key} : (kvs.any fun p => decide (p.1 = k)) = (valV kvs k).isSome := by
  induction kvs with
  | nil => rfl
  | cons p kvs ih =>
    by_cases q : p.1 = k
    · rw [valV_pos q]; simp [q]
    · have z : valV (p :: kvs) k = valV kvs k := by simp [valV, List.find?_cons, q]
      rw [z, ← ih]; simp [q]
theorem rep_rel {x : U} {k : L2.Key} (hx : Rep G m H x (kV k)) {w : U} {v : V} (hw : Rep G m H w v) : ∀ {kvs : List (L2.Key × V)} {ks us : List U}, Reps G m H ks (kvs.map fun p => kV p.1) → Reps G m H us (kvs.map (·.2)) →
    Reps G m H ks ((kvs.map fun p => if p.1 = k then (p.1, v) else p).map fun p => kV p.1) ∧ Reps G m H (dRepU ks us x w) ((kvs.map fun p => if p.1 = k then (p.1, v) else p).map (·.2))
  | [], ks, us, hk, hu => by cases hk; cases hu; exact ⟨.nil, .nil⟩
  | p :: kvs, ks, us, hk, hu => by
    cases hk with
    | cons k1 k2 => cases hu with
      | cons u1 u2 =>
        obtain ⟨a, b⟩ := rep_rel hx hw k2 u2
        have e := eqK_rel k1 hx
        unfold dRepU
        by_cases q : p.1 = k
        · simp only [List.map_cons, q, if_true]
          rw [e, decide_eq_true q]
          exact ⟨.cons (by rw [← q]; exact k1) a, .cons hw b⟩
        · simp only [List.map_cons, q, if_false]
          rw [e, decide_eq_false q]
          exact ⟨.cons k1 a, .cons u1 b⟩
theorem put_rel {x : U} {k : L2.Key} (hx : Rep G m H x (kV k)) {w : U} {v : V} (hw : Rep G m H w v) {kvs : List (L2.Key × V)} {ks us : List U} (hk : Reps G m H ks (kvs.map fun p => kV p.1)) (hu : Reps G m H us (kvs.map (·.2))) :
    Reps G m H (dSetK ks x) ((putK kvs k v).map fun p => kV p.1) ∧ Reps G m H (dSetV ks us x w) ((putK kvs k v).map (·.2)) := by
  unfold dSetK dSetV putK
  rw [has_rel hx hk]
  split
  · obtain ⟨a, b⟩ := rep_rel hx hw hk hu
    exact ⟨a, b⟩
  · simp only [List.map_append, List.map_cons, List.map_nil]
    exact ⟨hk.append (.cons hx .nil), hu.append (.cons hw .nil)⟩
/-- a written dict -/
def sGetU : List Str → List U → Str → Option U
  | x :: xs, u :: us, z => if z = x then some u else sGetU xs us z
  | _, _, _ => none
theorem sget_rel {z : Str} : ∀ {xs : List Str} {us : List U} {vs : List V}, Reps G m H us vs → (∃ u v, sGetU xs us z = some u ∧ lookS xs vs z = some v ∧ Rep G m H u v) ∨ (sGetU xs us z = none ∧ lookS xs vs z = none)
  | [], us, vs, hu => by unfold sGetU lookS; exact .inr ⟨rfl, rfl⟩
  | x :: xs, _, _, .nil => by unfold sGetU lookS; exact .inr ⟨rfl, rfl⟩
  | x :: xs, _, _, .cons u1 u2 => by
    unfold sGetU lookS
    by_cases q : z = x
    · rw [if_pos q, if_pos q]; exact .inl ⟨_, _, rfl, rfl, u1⟩
    · rw [if_neg q, if_neg q]; exact sget_rel u2
end
end Z

namespace Z
open PySem L2

/-! ### expressions -/
@[simp] def dName (i : Nat) : UEnv → Store → R U := fun ρ st => match ρ[i]? with
  | some (some u) => .ok u st
  | _ => .stuck
@[simp] def dC (u : U) : UEnv → Store → R U := fun _ st => .ok u st
@[simp] def dBin (g : Op2) (fa fb : UEnv → Store → R U) : UEnv → Store → R U := fun ρ st => (fa ρ st).bind fun a st1 => (fb ρ st1).bind fun b st2 => R.ofO st2 (g st2 a b)
@[simp] def dUn (g : Op1) (fa : UEnv → Store → R U) : UEnv → Store → R U := fun ρ st => (fa ρ st).bind fun a st1 => R.ofO st1 (g st1 a)
def asB : U → Option Bool
  | .bl b => some b
  | _ => none
@[simp] theorem asB_bl (b : Bool) : asB (.bl b) = some b := rfl
def truth (st : Store) (u : U) : Option Bool := match deref st u with
  | .non => some false
  | .bl b => some b
  | .int i => some (i != 0)
  | .str x => some ((x.length : Int) != 0)
  | .dct ks _ => some !ks.isEmpty
  | .tup xs => some !xs.isEmpty
  | .lst xs => some !xs.isEmpty
  | .frz xs => some !xs.isEmpty
  | _ => none
@[simp] def dTest (fa : UEnv → Store → R U) : UEnv → Store → R Bool := fun ρ st => (fa ρ st).bind fun a st1 => R.ofO st1 (asB a)
@[simp] def dTru (fa : UEnv → Store → R U) : UEnv → Store → R Bool := fun ρ st => (fa ρ st).bind fun a st1 => R.ofO st1 (truth st1 a)
@[simp] def tAndZ (fa fb : UEnv → Store → R Bool) : UEnv → Store → R Bool := fun ρ st => (fa ρ st).bind fun a st1 => if a = true then fb ρ st1 else .ok false st1
@[simp] def tOrZ (fa fb : UEnv → Store → R Bool) : UEnv → Store → R Bool := fun ρ st => (fa ρ st).bind fun a st1 => if a = true then .ok true st1 else fb ρ st1
@[simp] def tNotZ (fa : UEnv → Store → R Bool) : UEnv → Store → R Bool := fun ρ st => (fa ρ st).bind fun a st1 => .ok (!a) st1
@[simp] def dAnd (fa fb : UEnv → Store → R U) : UEnv → Store → R U := fun ρ st => (fa ρ st).bind fun a st1 => (R.ofO st1 (truth st1 a)).bind fun k st2 => if k = true then fb ρ st2 else .ok a st2
@[simp] def dOr (fa fb : UEnv → Store → R U) : UEnv → Store → R U := fun ρ st => (fa ρ st).bind fun a st1 => (R.ofO st1 (truth st1 a)).bind fun k st2 => if k = true then .ok a st2 else fb ρ st2
@[simp] def dNot (fa : UEnv → Store → R U) : UEnv → Store → R U := fun ρ st => (fa ρ st).bind fun a st1 => (R.ofO st1 (truth st1 a)).bind fun k st2 => .ok (.bl (!k)) st2
@[simp] def dIf (c : UEnv → Store → R Bool) (fa fb : UEnv → Store → R U) : UEnv → Store → R U := fun ρ st => (c ρ st).bind fun k st1 => if k = true then fa ρ st1 else fb ρ st1
@[simp] def dChain (g g' : Op2) (fa fb fc : UEnv → Store → R U) : UEnv → Store → R U := fun ρ st => (fa ρ st).bind fun a st1 => (fb ρ st1).bind fun b st2 => (R.ofO st2 (g st2 a b)).bind fun z st3 =>
  (R.ofO st3 (asB z)).bind fun k st4 => if k = true then (fc ρ st4).bind fun c st5 => R.ofO st5 (g' st5 b c) else .ok (.bl false) st4
@[simp] def dNil : UEnv → Store → R (List U) := fun _ st => .ok [] st
@[simp] def dCons (fa : UEnv → Store → R U) (fr : UEnv → Store → R (List U)) : UEnv → Store → R (List U) := fun ρ st => (fa ρ st).bind fun a st1 => (fr ρ st1).bind fun as st2 => .ok (a :: as) st2
@[simp] def dTup (f : UEnv → Store → R (List U)) : UEnv → Store → R U := fun ρ st => (f ρ st).bind fun as st1 => if as.length ≤ 16777216 then .ok (.tup as) st1 else .stuck
@[simp] def dLst (f : UEnv → Store → R (List U)) : UEnv → Store → R U := fun ρ st => (f ρ st).bind fun as st1 => if as.length ≤ 16777216 then .ok (.lst as) st1 else .stuck
/-- a list that will be changed -/
@[simp] def dNew (f : UEnv → Store → R (List U)) : UEnv → Store → R U := fun ρ st => (f ρ st).bind fun as st1 => if as.length ≤ 16777216 then .ok (.hdl st1.length) (st1 ++ [.lst as]) else .stuck
abbrev FnZ := List U → Store → R U
@[simp] def dCall (F : FnZ) (f : UEnv → Store → R (List U)) : UEnv → Store → R U := fun ρ st => (f ρ st).bind fun us st1 => F us st1

section
variable {X : Cx} {a b c e : Expr} {es rest : List Expr} {pos : Pos} {fa fb fc : UEnv → Store → R U} {f : UEnv → Store → R (List U)} {ta tb : UEnv → Store → R Bool} {g g' : Op2}

theorem post_ok {α β : Type} {G : GC} {m : MH} {H : Hp} {rel : MH → Hp → α → β → Prop} {EW : XK} {Q : β → Hp → Prop} {u : α} {st : Store} {v : β} (h : Post G m H rel EW Q (.ok u st)) (S : Sim G m H st) (r : rel m H u v) : Q v H := h v m H Le.refl S r

theorem ze_name [TB] {i : Nat} {x : Str} (hN : X.N[i]? = some x := by rfl) (hv : Vis X.env.scope x := by first | exact Or.inl rfl | exact Or.inr (Or.inl rfl) | exact Or.inr (Or.inr rfl)) (hd : (x == ("__debug__" : Str)) = false := by decide)
    (hcd : (x == ("__classdict__" : Str)) = false := by decide) : ZE X (.Name x pos) (dName i) := fun W xg => PE.imp (pe_var hN hv hd hcd) fun σ H Q ⟨ρ, st, m, S, E, P⟩ => by
  unfold dName at P
  split at P
  · rename_i u e
    obtain ⟨v, e1, r⟩ := E.at_ i u e
    exact ⟨v, e1, post_ok P S r⟩
  · exact P.elim
theorem ze_int [TB] {i : Int} {j} : ZE X (.Constant (.int i) j pos) (dC (.int i)) := fun W xg => PE.imp pe_int fun σ H Q ⟨ρ, st, m, S, E, P⟩ => post_ok P S (.int i)
theorem ze_bl [TB] {i : Bool} {j} : ZE X (.Constant (.bool i) j pos) (dC (.bl i)) := fun W xg => PE.imp pe_bl fun σ H Q ⟨ρ, st, m, S, E, P⟩ => post_ok P S (.bl i)
theorem ze_non [TB] {j} : ZE X (.Constant .none j pos) (dC .non) := fun W xg => PE.imp pe_non fun σ H Q ⟨ρ, st, m, S, E, P⟩ => post_ok P S .non
theorem ze_str [TB] {x : Str} {j} (h : PyData.strOk x = true := by decide +kernel) (z : x.length ≤ 16777216 := by decide +kernel) : ZE X (.Constant (.str x) j pos) (dC (.str x)) := fun W xg => PE.imp pe_str fun σ H Q ⟨ρ, st, m, S, E, P⟩ => post_ok P S (.str x h z)
/-- a constant of the module -/
def GlobU (G : GC) (x : Str) (u : U) : Prop := ∃ w v, G.mg x = some w ∧ RelV v w ∧ ∀ m H, Rep G m H u v
theorem ze_glob [TB] {x : Str} {u : U} (h : GlobU (gc X) x u) (hg : Gl X x := by rfl) (hd : (x == ("__debug__" : Str)) = false := by decide) : ZE X (.Name x pos) (dC u) := fun W xg => by
  obtain ⟨w, v, h1, h2, h3⟩ := h
  exact PE.imp (pe_glob hg h1 h2 hd) fun σ H Q ⟨ρ, st, m, S, E, P⟩ => post_ok P S (h3 m H)

theorem ze_bin [TB] {op : Operator} (ho : OpZ X (binaryOp op) g) (ha : ZE X a fa) (hb : ZE X b fb) : ZE X (.BinOp a op b pos) (dBin g fa fb) := fun W xg =>
  PE.imp (pe_op ho (ha W xg) (hb W xg)) fun σ H Q ⟨ρ, st, m, S, E, P⟩ =>
    tz_seq (X := X) (k := fun ρ a st1 => (fb ρ st1).bind fun b st2 => R.ofO st2 (g st2 a b)) S E P fun u st1 v m1 H1 S1 E1 r1 l1 P1 => tz_seq (X := X) (k := fun ρ b st2 => R.ofO st2 (g st2 u b)) S1 E1 P1 fun u2 st2 v2 m2 H2 S2 E2 r2 l2 P2 => ⟨m2, st2, u, u2, S2, r1.mono S1 l2, r2, .of P2⟩
theorem cmp_core [TB] {op : CmpOp} (ho : OpZ X (compareOp op) g) {W : WX} (xg : XG X W) (ha : ZE X a fa) (hb : ZE X b fb) {σ : St} {H : Hp} {Q : VK} (h : tZ (gc X) W (dBin g fa fb) σ H Q) : tOp (rZ (gc X) g) (tZ (gc X) W fa) (tZ (gc X) W fb) σ H Q := by
  obtain ⟨ρ, st, m, S, E, P⟩ := h
  exact tz_seq (X := X) (k := fun ρ a st1 => (fb ρ st1).bind fun b st2 => R.ofO st2 (g st2 a b)) S E P fun u st1 v m1 H1 S1 E1 r1 l1 P1 => tz_seq (X := X) (k := fun ρ b st2 => R.ofO st2 (g st2 u b)) S1 E1 P1 fun u2 st2 v2 m2 H2 S2 E2 r2 l2 P2 => ⟨m2, st2, u, u2, S2, r1.mono S1 l2, r2, .of P2⟩
theorem ze_cmp [TB] {op : CmpOp} (ho : OpZ X (compareOp op) g) (ha : ZE X a fa) (hb : ZE X b fb) (hm : behindInMarks op b = false := by first | exact nomark _ | with_unfolding_all rfl) : ZE X (.Compare a [op] [b] pos) (dBin g fa fb) := fun W xg =>
  PE.imp (pe_cmpR ho (ha W xg) (hb W xg) hm) fun σ H Q h => cmp_core ho xg ha hb h
theorem zt_cmp [TB] {op : CmpOp} (ho : OpZ X (compareOp op) g) (ha : ZE X a fa) (hb : ZE X b fb) (hm : behindInMarks op b = false := by first | exact nomark _ | with_unfolding_all rfl) : ZT X (.Compare a [op] [b] pos) (dTest (dBin g fa fb)) := fun W xg =>
  PT.imp (pt_cmpR ho (ha W xg) (hb W xg) hm) fun σ H Q ⟨ρ, st, m, S, E, P⟩ => cmp_core ho xg ha hb (tz_seq (X := X) (k := fun _ a st1 => R.ofO st1 (asB a)) S E P fun u st1 v m1 H1 S1 E1 r1 l1 P1 => by
    cases r1 with
    | bl k => exact ⟨k, rfl, post_ok P1 S1 rfl⟩
    | _ => exact P1.elim)
theorem chain_core [TB] {op op' : CmpOp} (ho : OpZ X (compareOp op) g) (ho' : OpZ X (compareOp op') g') {W : WX} (xg : XG X W) (ha : ZE X a fa) (hb : ZE X b fb) (hc : ZE X c fc) {σ : St} {H : Hp} {Q : VK} (h : tZ (gc X) W (dChain g g' fa fb fc) σ H Q) :
    tChain (rZ (gc X) g) (rZ (gc X) g') (tZ (gc X) W fa) (tZ (gc X) W fb) (tZ (gc X) W fc) σ H Q := by
  obtain ⟨ρ, st, m, S, E, P⟩ := h
  refine tz_seq (X := X) (k := fun ρ a st1 => (fb ρ st1).bind fun b st2 => (R.ofO st2 (g st2 a b)).bind fun z st3 => (R.ofO st3 (asB z)).bind fun k st4 => if k = true then (fc ρ st4).bind fun c st5 => R.ofO st5 (g' st5 b c) else .ok (.bl false) st4) S E P fun u st1 v m1 H1 S1 E1 r1 l1 P1 => ?_
  refine tz_seq (X := X) (k := fun ρ b st2 => (R.ofO st2 (g st2 u b)).bind fun z st3 => (R.ofO st3 (asB z)).bind fun k st4 => if k = true then (fc ρ st4).bind fun c st5 => R.ofO st5 (g' st5 b c) else .ok (.bl false) st4) S1 E1 P1 fun u2 st2 v2 m2 H2 S2 E2 r2 l2 P2 => ?_
  refine ⟨m2, st2, u, u2, S2, r1.mono S1 l2, r2, ?_⟩
  cases e : g st2 u u2 with
  | none => rw [e] at P2; exact P2.elim
  | some z =>
    rw [e] at P2
    intro v3 m3 H3 l3 S3 r3
    have P3 := Post.mono l3 P2
    cases r3 with
    | bl k =>
      refine ⟨k, rfl, ?_⟩
      cases k with
      | false => exact post_ok P3 S3 (.bl false)
      | true =>
        show tZ (gc X) W fc σ H3 _
        have E3 := E2.mono S2 l3
        refine tz_seq (X := X) (k := fun _ c st5 => R.ofO st5 (g' st5 u2 c)) S3 E3 P3 fun u4 st4 v4 m4 H4 S4 E4 r4 l4 P4 => ⟨m4, st4, u2, u4, S4, r2.mono S2 (l3.trans l4), r4, .of P4⟩
    | _ => exact P3.elim
theorem ze_chain [TB] {op op' : CmpOp} (ho : OpZ X (compareOp op) g) (ho' : OpZ X (compareOp op') g') (ha : ZE X a fa) (hb : ZE X b fb) (hc : ZE X c fc) (hm : lastMarks [op, op'] [b, c] = false := by with_unfolding_all rfl) : ZE X (.Compare a [op, op'] [b, c] pos) (dChain g g' fa fb fc) := fun W xg =>
  PE.imp (pe_chain ho ho' (ha W xg) (hb W xg) (hc W xg) hm) fun σ H Q h => chain_core ho ho' xg ha hb hc h
theorem zt_chain [TB] {op op' : CmpOp} (ho : OpZ X (compareOp op) g) (ho' : OpZ X (compareOp op') g') (ha : ZE X a fa) (hb : ZE X b fb) (hc : ZE X c fc) (hm : lastMarks [op, op'] [b, c] = false := by with_unfolding_all rfl) : ZT X (.Compare a [op, op'] [b, c] pos) (dTest (dChain g g' fa fb fc)) := fun W xg =>
  PT.imp (pt_chain ho ho' (ha W xg) (hb W xg) (hc W xg) hm) fun σ H Q ⟨ρ, st, m, S, E, P⟩ => chain_core ho ho' xg ha hb hc (tz_seq (X := X) (k := fun _ a st1 => R.ofO st1 (asB a)) S E P fun u st1 v m1 H1 S1 E1 r1 l1 P1 => by
    cases r1 with
    | bl k => exact ⟨k, rfl, post_ok P1 S1 rfl⟩
    | _ => exact P1.elim)

/-! ### truth -/
theorem rep_truth {G : GC} {m : MH} {H : Hp} {st : Store} {u : U} {v : V} {k : Bool} {K : PySem.W.Frag} (S : Sim G m H st) (r : Rep G m H u v) (h : truth st u = some k) (hK : G.K = K) : TruV K v H k := by
  have lnil : ∀ {xs : List U} {vs : List V}, Reps G m H xs vs → (!xs.isEmpty) = !vs.isEmpty := fun r => by cases r <;> rfl
  unfold truth at h
  split at h
  · rename_i e; rw [deref_non e] at r; cases r; exact (Option.some.inj h).symm
  · rename_i e; rw [deref_bl e] at r; cases r; exact (Option.some.inj h).symm
  · rename_i e; rw [deref_int e] at r; cases r; exact (Option.some.inj h).symm
  · rename_i e
    rw [deref_str e] at r
    cases r with
    | str _ _ z => exact ⟨by rw [line_eq]; exact z, (Option.some.inj h).symm⟩
  · rename_i e
    obtain ⟨a, kvs, rfl, h1, h2, _⟩ := rep_dct S r e
    refine .inr (.inr ⟨kvs, h1, ?_⟩)
    have e2 := lnil h2
    rw [← Option.some.inj h, e2]
    cases kvs <;> rfl
  · rename_i e
    rw [deref_tup e] at r
    obtain ⟨a, vs, rfl, h1, r1⟩ := rep_tup (K := K) r hK
    exact .inr (.inl ⟨vs, h1, by rw [← lnil r1]; exact (Option.some.inj h).symm⟩)
  · rename_i e
    obtain ⟨a, vs, rfl, h1, r1⟩ := rep_seqL (K := K) S r (.inl e) hK
    exact .inl ⟨vs, h1, by rw [← lnil r1]; exact (Option.some.inj h).symm⟩
  · rename_i e
    rw [deref_frz e] at r
    obtain ⟨a, vs, rfl, h1, r1⟩ := rep_seqL (K := K) (st := st) S r (.inr rfl) hK
    exact .inl ⟨vs, h1, by rw [← lnil r1]; exact (Option.some.inj h).symm⟩
  · cases h
theorem zt_truth [TB] (ha : ZE X a fa) (he : ∀ whole, isTrue a X.env whole = (do let v ← whole; standAt a.pos; holding [v] (truthy v)) := by intro _; rfl) : ZT X a (dTru fa) := fun W xg =>
  PT.imp (pt_truth (ha W xg) he) fun σ H Q ⟨ρ, st, m, S, E, P⟩ => tz_seq (X := X) (k := fun _ a st1 => R.ofO st1 (truth st1 a)) S E P fun u st1 v m1 H1 S1 E1 r1 l1 P1 => by
    cases e : truth st1 u with
    | none => rw [e] at P1; exact P1.elim
    | some k =>
      rw [e] at P1
      exact ⟨k, rep_truth S1 r1 e rfl, post_ok P1 S1 rfl⟩
theorem ze_or [TB] (ha : ZE X a fa) (hb : ZE X (.BoolOp .Or (b :: rest) pos) fb) : ZE X (.BoolOp .Or (a :: b :: rest) pos) (dOr fa fb) := fun W xg =>
  PE.imp (pe_orT (ha W xg) (hb W xg)) fun σ H Q ⟨ρ, st, m, S, E, P⟩ => tz_seq (X := X) (k := fun ρ a st1 => (R.ofO st1 (truth st1 a)).bind fun k st2 => if k = true then .ok a st2 else fb ρ st2) S E P fun u st1 v m1 H1 S1 E1 r1 l1 P1 => by
    cases e : truth st1 u with
    | none => rw [e] at P1; exact P1.elim
    | some k =>
      rw [e] at P1
      refine ⟨k, rep_truth S1 r1 e rfl, ?_⟩
      cases k with
      | true => exact post_ok P1 S1 r1
      | false => exact ⟨ρ, st1, m1, S1, E1, P1⟩
theorem ze_and [TB] (ha : ZE X a fa) (hb : ZE X (.BoolOp .And (b :: rest) pos) fb) : ZE X (.BoolOp .And (a :: b :: rest) pos) (dAnd fa fb) := fun W xg =>
  PE.imp (pe_andT (ha W xg) (hb W xg)) fun σ H Q ⟨ρ, st, m, S, E, P⟩ => tz_seq (X := X) (k := fun ρ a st1 => (R.ofO st1 (truth st1 a)).bind fun k st2 => if k = true then fb ρ st2 else .ok a st2) S E P fun u st1 v m1 H1 S1 E1 r1 l1 P1 => by
    cases e : truth st1 u with
    | none => rw [e] at P1; exact P1.elim
    | some k =>
      rw [e] at P1
      refine ⟨k, rep_truth S1 r1 e rfl, ?_⟩
      cases k with
      | false => exact post_ok P1 S1 r1
      | true => exact ⟨ρ, st1, m1, S1, E1, P1⟩
theorem ze_one [TB] {op} (ha : ZE X a fa) : ZE X (.BoolOp op [a] pos) fa := fun W xg => pe_one (ha W xg)
theorem ze_not [TB] (ha : ZE X a fa) : ZE X (.UnaryOp .Not a pos) (dNot fa) := fun W xg =>
  PE.imp (pe_notT (ha W xg)) fun σ H Q ⟨ρ, st, m, S, E, P⟩ => tz_seq (X := X) (k := fun _ a st1 => (R.ofO st1 (truth st1 a)).bind fun k st2 => (R.ok (U.bl (!k)) st2 : R U)) S E P fun u st1 v m1 H1 S1 E1 r1 l1 P1 => by
    cases e : truth st1 u with
    | none => rw [e] at P1; exact P1.elim
    | some k =>
      rw [e] at P1
      exact ⟨k, rep_truth S1 r1 e rfl, post_ok P1 S1 (.bl _)⟩
/-! ### tests -/
def ZW [TB] (X : Cx) (e : Expr) (f : UEnv → Store → R Bool) : Prop := ∀ W, XG X W → PW X e (tZT (gc X) W f)
theorem PW.imp {X : Cx} {e : Expr} {t t' : TT} (h : PW X e t) (hi : ∀ σ H Q, t' σ H Q → t σ H Q) : PW X e t' := ⟨fun wh pins s σ H Q I hw => h.run wh pins s σ H Q I (hi σ H Q hw)⟩
theorem ZW.zt [TB] {e : Expr} (h : ZW X e ta) : ZT X e ta := fun W xg => (h W xg).pt
theorem tzt_seq [TB] {X : Cx} {W : WX} {fa : UEnv → Store → R Bool} {σ : St} {H : Hp} {α β : Type} {rel2 : MH → Hp → α → β → Prop} {Q2 : β → Hp → Prop} {k : UEnv → Bool → Store → R α} {Q : Bool → Hp → Prop} {ρ : UEnv} {st : Store} {m : MH}
    (S : Sim (gc X) m H st) (E : REnv (gc X) m H ρ σ) (P : Post (gc X) m H rel2 (WE2 W σ) Q2 ((fa ρ st).bind (k ρ)))
    (hq : ∀ u st1 m1 H1, Sim (gc X) m1 H1 st1 → REnv (gc X) m1 H1 ρ σ → Le m H m1 H1 → Post (gc X) m1 H1 rel2 (WE2 W σ) Q2 (k ρ u st1) → Q u H1) : tZT (gc X) W fa σ H Q :=
  ⟨ρ, st, m, S, E, P.bind fun u st1 v m1 H1 _ l S1 r p => by
    have r : u = v := r
    subst r
    exact hq u st1 m1 H1 S1 (E.mono S l) l p⟩
theorem zw_and1 [TB] (ha : ZT X a ta) : ZW X (.BoolOp .And [a] pos) ta := fun W xg => pw_and1 (ha W xg)
theorem zw_or1 [TB] (ha : ZT X a ta) : ZW X (.BoolOp .Or [a] pos) ta := fun W xg => pw_or1 (ha W xg)
theorem zw_and [TB] (ha : ZT X a ta) (hb : ZW X (.BoolOp .And (b :: rest) pos) tb) : ZW X (.BoolOp .And (a :: b :: rest) pos) (tAndZ ta tb) := fun W xg =>
  PW.imp (pw_and (ha W xg) (hb W xg)) fun σ H Q ⟨ρ, st, m, S, E, P⟩ => tzt_seq (X := X) (k := fun ρ a st1 => if a = true then tb ρ st1 else .ok false st1) S E P fun k st1 m1 H1 S1 E1 l1 P1 => by
    cases k with
    | true => exact ⟨ρ, st1, m1, S1, E1, P1⟩
    | false => exact post_ok P1 S1 rfl
theorem zw_or [TB] (ha : ZT X a ta) (hb : ZW X (.BoolOp .Or (b :: rest) pos) tb) : ZW X (.BoolOp .Or (a :: b :: rest) pos) (tOrZ ta tb) := fun W xg =>
  PW.imp (pw_or (ha W xg) (hb W xg)) fun σ H Q ⟨ρ, st, m, S, E, P⟩ => tzt_seq (X := X) (k := fun ρ a st1 => if a = true then .ok true st1 else tb ρ st1) S E P fun k st1 m1 H1 S1 E1 l1 P1 => by
    cases k with
    | false => exact ⟨ρ, st1, m1, S1, E1, P1⟩
    | true => exact post_ok P1 S1 rfl
theorem zt_not [TB] (ha : ZT X a ta) : ZT X (.UnaryOp .Not a pos) (tNotZ ta) := fun W xg =>
  PT.imp (pt_not (ha W xg)) fun σ H Q ⟨ρ, st, m, S, E, P⟩ => tzt_seq (X := X) (k := fun _ a st1 => .ok (!a) st1) S E P fun k st1 m1 H1 S1 E1 l1 P1 => post_ok P1 S1 rfl
theorem ze_if [TB] (hc : ZT X c ta) (ha : ZE X a fa) (hb : ZE X b fb) : ZE X (.IfExp c a b pos) (dIf ta fa fb) := fun W xg =>
  PE.imp (pe_ifExp (hc W xg) (ha W xg) (hb W xg)) fun σ H Q ⟨ρ, st, m, S, E, P⟩ => tzt_seq (X := X) (k := fun ρ k st1 => if k = true then fa ρ st1 else fb ρ st1) S E P fun k st1 m1 H1 S1 E1 l1 P1 => by
    cases k with
    | false => exact ⟨ρ, st1, m1, S1, E1, P1⟩
    | true => exact ⟨ρ, st1, m1, S1, E1, P1⟩

/-! ### arguments, displays -/
structure ZAL [TB] (X : Cx) (es : List Expr) (f : UEnv → Store → R (List U)) : Prop where
  za : ZA X es f
  len : ∀ ρ st us st', f ρ st = .ok us st' → us.length = es.length
theorem za_nil [TB] : ZAL X [] dNil := ⟨fun W xg => PA.imp pa_nil fun σ H Q ⟨ρ, st, m, S, E, P⟩ => post_ok P S .nil, fun ρ st us st' h => by cases h; rfl⟩
theorem za_cons [TB] (ha : ZE X e fa) (hr : ZAL X es f) (hs : starEach (e :: es) X.env = (false, eval e X.env) :: starEach es X.env := by rfl) : ZAL X (e :: es) (dCons fa f) :=
  ⟨fun W xg => PA.imp (pa_cons (ha W xg) (hr.za W xg) hs) fun σ H Q ⟨ρ, st, m, S, E, P⟩ => tz_seq (X := X) (k := fun ρ a st1 => (f ρ st1).bind fun as st2 => .ok (a :: as) st2) S E P fun u st1 v m1 H1 S1 E1 r1 l1 P1 =>
    ⟨ρ, st1, m1, S1, E1, P1.bind fun us st2 vs m2 H2 _ l2 S2 r2 P2 => post_ok P2 S2 (.cons (r1.mono S1 l2) r2)⟩, fun ρ st us st' h => by
    simp only [dCons] at h
    cases e1 : fa ρ st with
    | ok u st1 =>
      rw [e1] at h
      simp only [R.bind_ok] at h
      cases e2 : f ρ st1 with
      | ok us2 st2 =>
        rw [e2] at h
        simp only [R.bind_ok] at h
        cases h
        simp [hr.len _ _ _ _ e2]
      | exc _ _ => rw [e2] at h; cases h
      | stuck => rw [e2] at h; cases h
    | exc _ _ => rw [e1] at h; cases h
    | stuck => rw [e1] at h; cases h⟩
theorem ze_tup [TB] {k} (h : ZAL X es f) : ZE X (.Tuple es k pos) (dTup f) := fun W xg =>
  PE.imp (pe_tup (h.za W xg)) fun σ H Q ⟨ρ, st, m, S, E, P⟩ => ⟨ρ, st, m, S, E, P.bind fun us st1 vs m1 H1 _ l S1 r p => by
    split at p
    · rename_i hl
      exact ⟨by rw [line_eq, ← r.length]; exact hl, fun q hq => p _ m1 _ (le_new hq) (S1.new hq) (.tup upd_same (S1.off hq) (r.mono S1 (le_new hq)))⟩
    · exact p.elim⟩
theorem ze_lst [TB] (h : ZAL X es f) : ZE X (.List es pos) (dLst f) := fun W xg =>
  PE.imp (pe_lst (h.za W xg)) fun σ H Q ⟨ρ, st, m, S, E, P⟩ => ⟨ρ, st, m, S, E, P.bind fun us st1 vs m1 H1 _ l S1 r p => by
    split at p
    · rename_i hl
      exact ⟨by rw [line_eq, ← r.length]; exact hl, fun q hq => p _ m1 _ (le_new hq) (S1.new hq) (.lst upd_same (S1.off hq) (r.mono S1 (le_new hq)))⟩
    · exact p.elim⟩
theorem ze_new [TB] (h : ZAL X es f) : ZE X (.List es pos) (dNew f) := fun W xg =>
  PE.imp (pe_lst (h.za W xg)) fun σ H Q ⟨ρ, st, m, S, E, P⟩ => ⟨ρ, st, m, S, E, P.bind fun us st1 vs m1 H1 _ l S1 r p => by
    split at p
    · rename_i hl
      refine ⟨by rw [line_eq, ← r.length]; exact hl, fun q hq => p _ (mput m1 st1.length q) _ (le_alloc S1 hq) (S1.alloc hq ⟨vs, upd_same, r.mono S1 (le_alloc S1 hq)⟩) (.hdl ?_)⟩
      exact if_pos rfl
    · exact p.elim⟩

/-! ### defs -/
def spZ (G : GC) (n : Nat) (F : FnZ) : Sp := fun vs H Q E => ∃ us st m, vs.length = n ∧ Sim G m H st ∧ Reps G m H us vs ∧ Post G m H (Rep G) E Q (F us st)
structure CalZ [TB] (P : Program) (w : World) (K : PySem.W.Frag) (mg : Str → Option Value) (base : Heap) (k : Nat) (x : Str) (n : Nat) (F : FnZ) : Prop where
  ex : ∃ (f : Addr) (fd : FuncData) (ps : List Str), FnOk P w K mg base (L2.CX P w) k f fd ps (spZ ⟨K, mg, TB.T, w⟩ n F) ∧ mg x = some (.ref f) ∧ PySem.W.keepIn K (.ref f) = true ∧ Binds K fd ps []
theorem CalZ.mono [TB] {P : Program} {w : World} {K : PySem.W.Frag} {mg : Str → Option Value} {base : Heap} {j k : Nat} {x : Str} {n : Nat} {F : FnZ} (c : CalZ P w K mg base j x n F) (h : j ≤ k) : CalZ P w K mg base k x n F := by
  obtain ⟨f, fd, ps, h1, h2, h3, h4⟩ := c.ex
  exact ⟨f, fd, ps, h1.mono h, h2, h3, h4⟩
theorem ze_call [TB] {k j n : Nat} {x : Str} {F : FnZ} {p : Pos} (cal : CalZ X.prog X.w X.K X.mg X.base k x n F) (hr : Room j X.A) (ha : ZAL X (e :: es) f) (hk : k ≤ j := by decide) (hn : (e :: es).length = n := by rfl) (hg : Gl X x := by rfl)
    (hdb : (x == ("__debug__" : Str)) = false := by decide) (he : starEach (e :: es) X.env = (false, eval e X.env) :: starEach es X.env := by rfl) (hpl : (backTo pos (starEach es X.env)).any (·.1) = false := by rfl) :
    ZE X (.Call (.Name x p) (e :: es) [] pos) (dCall F f) := fun W xg => by
  obtain ⟨fa, fd, ps, h1, h2, h3, h4⟩ := cal.ex
  refine PE.imp (pe_callS (E := WE W) h1 (hr.mono hk) hg h2 h3 h4 (passAt xg.tk) (ha.za W xg) hdb he hpl) fun σ H Q ⟨ρ, st, m, S, E, P⟩ => ?_
  refine ⟨ρ, st, m, S, E, P.bind fun us st1 vs m1 H1 e1 l S1 r p => ⟨us, st1, m1, ?_, S1, r, p⟩⟩
  rw [← r.length, ha.len _ _ _ _ e1, hn]
theorem pe_callS0 {CX : CXT} {k : Nat} {f : Addr} {fd : FuncData} {ps : List Str} {sp : Sp} {E : St → XK} {x : Str} {p pos : Pos} (F : FnOk X.prog X.w X.K X.mg X.base CX k f fd ps sp) (hr : Room k X.A) (hg : Gl X x) (hm : X.mg x = some (.ref f)) (hk : PySem.W.keepIn X.K (.ref f) = true) (hb : Binds X.K fd ps []) (hx : ∀ σ, PassesAt CX X σ (E σ))
    (hdb : (x == ("__debug__" : Str)) = false := by decide) : PE X (.Call (.Name x p) [] [] pos) (tCallS sp E L2.tNil) := by
  refine ⟨fun pins s σ H Q I h => ?_⟩
  refine wpAny_Call_Name_kw (ld_glob I hg hm ?_ hdb)
  exact PySem.W.callWith_K0 I.kIn hk (run_fnS (us := []) F hr hb (hx σ) I .nil h)
theorem ze_call0 [TB] {k j : Nat} {x : Str} {F : FnZ} {p : Pos} (cal : CalZ X.prog X.w X.K X.mg X.base k x 0 F) (hr : Room j X.A) (hk : k ≤ j := by decide) (hg : Gl X x := by rfl)
    (hdb : (x == ("__debug__" : Str)) = false := by decide) : ZE X (.Call (.Name x p) [] [] pos) (dCall F dNil) := fun W xg => by
  obtain ⟨fa, fd, ps, h1, h2, h3, h4⟩ := cal.ex
  refine PE.imp (pe_callS0 (E := WE W) h1 (hr.mono hk) hg h2 h3 h4 (passAt xg.tk) hdb) fun σ H Q ⟨ρ, st, m, S, E, P⟩ => ?_
  exact ⟨[], st, m, rfl, S, .nil, P⟩
end
end Z

namespace Z
open PySem PySem.Spec PyProof.Rows L2

def oAddI : Op2 := fun _ a b => match a, b with
  | .int i, .int j => some (.int (i + j))
  | _, _ => none
/-! ### statements -/
@[simp] def sNext : UEnv → Store → R Fl := fun ρ st => .ok (.nx ρ) st
@[simp] def sSeq (f g : UEnv → Store → R Fl) : UEnv → Store → R Fl := fun ρ st => (f ρ st).bind fun r st1 => match r with
  | .nx ρ1 => g ρ1 st1
  | .rt u => .ok (.rt u) st1
  | .bk ρ1 => .ok (.bk ρ1) st1
  | .ct ρ1 => .ok (.ct ρ1) st1
@[simp] def sRet (f : UEnv → Store → R U) : UEnv → Store → R Fl := fun ρ st => (f ρ st).bind fun u st1 => .ok (.rt u) st1
@[simp] def sRetN : UEnv → Store → R Fl := fun _ st => .ok (.rt .non) st
@[simp] def sExpr (f : UEnv → Store → R U) : UEnv → Store → R Fl := fun ρ st => (f ρ st).bind fun _ st1 => .ok (.nx ρ) st1
@[simp] def sIf (c : UEnv → Store → R Bool) (f g : UEnv → Store → R Fl) : UEnv → Store → R Fl := fun ρ st => (c ρ st).bind fun k st1 => if k = true then f ρ st1 else g ρ st1
@[simp] def sSet (i : Nat) (f : UEnv → Store → R U) : UEnv → Store → R Fl := fun ρ st => (f ρ st).bind fun u st1 => .ok (.nx (ρ.set i (some u))) st1
abbrev Asg := U → UEnv → Store → R UEnv
@[simp] def sAsg (f : UEnv → Store → R U) (g : Asg) : UEnv → Store → R Fl := fun ρ st => (f ρ st).bind fun u st1 => (g u ρ st1).bind fun ρ1 st2 => .ok (.nx ρ1) st2
@[simp] def sAug (i : Nat) (g : Op2) (f : UEnv → Store → R U) : UEnv → Store → R Fl := fun ρ st => (dName i ρ st).bind fun a st0 => (f ρ st0).bind fun u st1 => (R.ofO st1 (g st1 a u)).bind fun z st2 => .ok (.nx (ρ.set i (some z))) st2
@[simp] def sPass : UEnv → Store → R Fl := fun ρ st => .ok (.nx ρ) st
@[simp] def sBreak : UEnv → Store → R Fl := fun ρ st => .ok (.bk ρ) st
@[simp] def sCont : UEnv → Store → R Fl := fun ρ st => .ok (.ct ρ) st

theorem PostS.mono {G : GC} {m m' : MH} {H H' : Hp} {W : WX} {D : Ends} {r : R Fl} (l : Le m H m' H') (h : PostS G m H W D r) : PostS G m' H' W D r := by
  cases r with
  | ok fl st => cases fl with
    | nx ρ => exact fun σ m2 H2 l2 => h σ m2 H2 (l.trans l2)
    | bk ρ => exact fun σ m2 H2 l2 => h σ m2 H2 (l.trans l2)
    | ct ρ => exact fun σ m2 H2 l2 => h σ m2 H2 (l.trans l2)
    | rt u => exact fun v m2 H2 l2 => h v m2 H2 (l.trans l2)
  | exc e st => exact fun c d σ m2 H2 l2 => h c d σ m2 H2 (l.trans l2)
  | stuck => exact h
/-- an expression ahead of what follows -/
theorem PostS.bind {α β : Type} {G : GC} {m : MH} {H : Hp} {rel : MH → Hp → α → β → Prop} {W : WX} {D : Ends} {Q : β → Hp → Prop} {r : R α} {k : α → Store → R Fl} {σ : L2.St} (h : PostS G m H W D (r.bind k))
    (hq : ∀ u st1 v m1 H1, r = .ok u st1 → Le m H m1 H1 → Sim G m1 H1 st1 → rel m1 H1 u v → PostS G m1 H1 W D (k u st1) → Q v H1) : Post G m H rel (WE2 W σ) Q r := by
  cases r with
  | ok u st => exact fun v m1 H1 l S rr => hq u st v m1 H1 rfl l S rr (PostS.mono l h)
  | exc e st => exact fun c d m1 H1 l S re => h c d σ m1 H1 l S re
  | stuck => exact h
/-- .. at any slots -/
theorem PostS.bindA {α β : Type} {G : GC} {m : MH} {H : Hp} {rel : MH → Hp → α → β → Prop} {W : WX} {D : Ends} {Q : β → Hp → Prop} {r : R α} {k : α → Store → R Fl} (h : PostS G m H W D (r.bind k))
    (hq : ∀ u st1 v m1 H1, r = .ok u st1 → Le m H m1 H1 → Sim G m1 H1 st1 → rel m1 H1 u v → PostS G m1 H1 W D (k u st1) → Q v H1) : Post G m H rel (fun c d H => ∀ σ, W c d σ H) Q r := by
  cases r with
  | ok u st => exact fun v m1 H1 l S rr => hq u st v m1 H1 rfl l S rr (PostS.mono l h)
  | exc e st => exact fun c d m1 H1 l S re σ => h c d σ m1 H1 l S re
  | stuck => exact h

section
variable {X : Cx} {a b c e : Expr} {s : Stmt} {rest body orelse : List Stmt} {pos : Pos} {fa fb : UEnv → Store → R U} {f g h : UEnv → Store → R Fl} {tc : UEnv → Store → R Bool}
theorem zb_nil [TB] : ZB X [] sNext := fun W xg => PSs.imp pss_nil fun D σ H ⟨ρ, st, m, S, E, P⟩ => P σ m H Le.refl S E
theorem zb_one [TB] (h1 : ZS X s f) : ZB X [s] f := fun W xg => pss_one (h1 W xg)
theorem seq_core {G : GC} {W : WX} {D : Ends} {σ : L2.St} {H : Hp} (hh : tZS G W (sSeq f g) D σ H) : tZS G W f { D with nx := tZS G W g D } σ H := by
  obtain ⟨ρ, st, m, S, E, P⟩ := hh
  refine ⟨ρ, st, m, S, E, ?_⟩
  unfold sSeq at P
  cases e : f ρ st with
  | ok fl st1 =>
    rw [e] at P
    cases fl with
    | nx ρ1 => exact fun σ1 m1 H1 l1 S1 E1 => ⟨ρ1, st1, m1, S1, E1, PostS.mono l1 P⟩
    | rt u => exact P
    | bk ρ1 => exact P
    | ct ρ1 => exact P
  | exc _ _ => rw [e] at P; exact P
  | stuck => rw [e] at P; exact P
theorem zb_cons [TB] (h1 : ZS X s f) (h2 : ZB X rest g) : ZB X (s :: rest) (sSeq f g) := fun W xg => PSs.imp (pss_cons (h1 W xg) (h2 W xg)) fun D σ H hh => seq_core hh
theorem zs_pass [TB] : ZS X (.Pass pos) sPass := fun W xg => PS.imp ps_pass fun D σ H ⟨ρ, st, m, S, E, P⟩ => P σ m H Le.refl S E
theorem zs_break [TB] : ZS X (.Break pos) sBreak := fun W xg => PS.imp ps_break fun D σ H ⟨ρ, st, m, S, E, P⟩ => P σ m H Le.refl S E
theorem zs_cont [TB] : ZS X (.Continue pos) sCont := fun W xg => PS.imp ps_continue fun D σ H ⟨ρ, st, m, S, E, P⟩ => P σ m H Le.refl S E
theorem zs_ret [TB] (he : ZE X e fa) : ZS X (.Return (some e) pos) (sRet fa) := fun W xg => PS.imp (ps_ret (he W xg)) fun D σ H ⟨ρ, st, m, S, E, P⟩ =>
  ⟨ρ, st, m, S, E, PostS.bind (k := fun u st1 => .ok (.rt u) st1) P fun u st1 v m1 H1 _ l S1 r p => p v m1 H1 Le.refl S1 r⟩
theorem zs_retN [TB] : ZS X (.Return none pos) sRetN := fun W xg => PS.imp ps_retN fun D σ H ⟨ρ, st, m, S, E, P⟩ => P .non m H Le.refl S .non
theorem zs_expr [TB] (he : ZE X e fa) (hs : swapsWith e none pos.line X.env = pure false := by rfl) : ZS X (.Expr e pos) (sExpr fa) := fun W xg => PS.imp (ps_expr (he W xg) hs) fun D σ H ⟨ρ, st, m, S, E, P⟩ =>
  ⟨ρ, st, m, S, E, PostS.bind (k := fun u st1 => .ok (.nx ρ) st1) P fun u st1 v m1 H1 _ l S1 r p => p σ m1 H1 Le.refl S1 (E.mono S l)⟩
theorem zs_if [TB] (hc : ZT X c tc) (ha : ZB X body f) (hb : ZB X orelse g) : ZS X (.If c body orelse pos) (sIf tc f g) := fun W xg => PS.imp (ps_if (hc W xg) (ha W xg) (hb W xg)) fun D σ H ⟨ρ, st, m, S, E, P⟩ =>
  ⟨ρ, st, m, S, E, PostS.bind (k := fun k st1 => if k = true then f ρ st1 else g ρ st1) P fun u st1 v m1 H1 _ l S1 r p => by
    have r : u = v := r
    subst r
    cases u with
    | true => exact ⟨ρ, st1, m1, S1, E.mono S l, p⟩
    | false => exact ⟨ρ, st1, m1, S1, E.mono S l, p⟩⟩
theorem zs_set [TB] {i : Nat} {x : Str} {pos' : Pos} (hN : X.N.Nodup) (he : ZE X e fa) (hi : X.N[i]? = some x := by rfl) (hx : Loc X.env.scope x := by first | exact Or.inl rfl | exact Or.inr rfl) (hs : swapsWith e (some (.Name x pos')) pos.line X.env = pure false := by rfl)
    (hf : X.fn x = true ∨ X.env.scope.names.lookup x = some .local := by first | exact .inl rfl | exact .inr rfl) : ZS X (.Assign [.Name x pos'] e pos) (sSet i fa) := fun W xg => PS.imp (ps_set hN hi hx (he W xg) hs hf) fun D σ H ⟨ρ, st, m, S, E, P⟩ =>
  ⟨ρ, st, m, S, E, PostS.bind (k := fun u st1 => .ok (.nx (ρ.set i (some u))) st1) P fun u st1 v m1 H1 _ l S1 r p => p _ m1 H1 Le.refl S1 ((E.mono S l).set i r)⟩

/-! ### targets -/
def tZG (G : GC) (W : WX) (f : Asg) : TG := fun v σ H Q => ∃ ρ st m u, Sim G m H st ∧ REnv G m H ρ σ ∧ Rep G m H u v ∧ Post G m H (REnv G) (fun c d H => ∀ σ, W c d σ H) Q (f u ρ st)
def ZG [TB] (X : Cx) (t : Expr) (f : Asg) : Prop := ∀ W, XG X W → PG X t (tZG (gc X) W f)
theorem PG.imp {X : Cx} {e : Expr} {t t' : TG} (h : PG X e t) (hi : ∀ v σ H Q, t' v σ H Q → t v σ H Q) : PG X e t' := ⟨fun pins s σ H v u Q I r hw => h.run pins s σ H v u Q I r (hi v σ H Q hw)⟩
@[simp] def gNm (i : Nat) : Asg := fun u ρ st => .ok (ρ.set i (some u)) st
theorem zg_name [TB] {i : Nat} {x : Str} (hN : X.N.Nodup) (hi : X.N[i]? = some x := by rfl) (hx : Loc X.env.scope x := by first | exact Or.inl rfl | exact Or.inr rfl) (hf : X.fn x = true ∨ X.env.scope.names.lookup x = some .local := by first | exact .inl rfl | exact .inr rfl) : ZG X (.Name x pos) (gNm i) := fun W xg =>
  PG.imp (pg_name hN hi hx hf) fun v σ H Q ⟨ρ, st, m, u, S, E, r, P⟩ => P _ m H Le.refl S (E.set i r)
/-- names of a tuple -/
abbrev Asgs := List U → UEnv → Store → R UEnv
def tZGs (G : GC) (W : WX) (f : Asgs) : TGs := fun v σ H Q => ∃ ρ st m u, Sim G m H st ∧ REnv G m H ρ σ ∧ Reps G m H u v ∧ Post G m H (REnv G) (fun c d H => ∀ σ, W c d σ H) Q (f u ρ st)
def ZGs [TB] (X : Cx) (t : List Expr) (f : Asgs) : Prop := ∀ W, XG X W → PGs X t (tZGs (gc X) W f)
theorem PGs.imp {X : Cx} {e : List Expr} {t t' : TGs} (h : PGs X e t) (hi : ∀ v σ H Q, t' v σ H Q → t v σ H Q) : PGs X e t' := ⟨fun pins s σ H v u Q I r hw => h.run pins s σ H v u Q I r (hi v σ H Q hw)⟩
@[simp] def gsNil : Asgs := fun us ρ st => match us with
  | [] => .ok ρ st
  | _ => .stuck
@[simp] def gsCons (g : Asg) (gs : Asgs) : Asgs := fun us ρ st => match us with
  | u :: us => (g u ρ st).bind fun ρ1 st1 => gs us ρ1 st1
  | [] => .stuck
theorem zgs_nil [TB] : ZGs X [] gsNil := fun W xg => PGs.imp pgs_nil fun vs σ H Q ⟨ρ, st, m, us, S, E, r, P⟩ => by
  cases r with
  | nil => exact ⟨rfl, P σ m H Le.refl S E⟩
  | cons r t => exact P.elim
theorem zgs_cons [TB] {es : List Expr} {g : Asg} {gs : Asgs} (h1 : ZG X e g) (h2 : ZGs X es gs) (hs : (assignEach (e :: es) X.env).map (·.2) = assign e X.env :: (assignEach es X.env).map (·.2) := by rfl) : ZGs X (e :: es) (gsCons g gs) := fun W xg =>
  PGs.imp (pgs_cons (h1 W xg) (h2 W xg) hs) fun vs σ H Q ⟨ρ, st, m, us, S, E, r, P⟩ => by
    cases r with
    | nil => exact P.elim
    | cons r t => exact ⟨_, _, rfl, ρ, st, m, _, S, E, r, Post.bind P fun ρ1 st1 σ1 m1 H1 _ l S1 E1 p => ⟨ρ1, st1, m1, _, S1, E1, t.mono S l, p⟩⟩
@[simp] def gTp (n : Nat) (gs : Asgs) : Asg := fun u ρ st => match u with
  | .tup us => if us.length = n then gs us ρ st else .stuck
  | _ => .stuck
theorem zg_tup [TB] {es : List Expr} {k n : Nat} {gs : Asgs} (hc : X.calm = true) (h : ZGs X es gs) (hn : (assignEach es X.env).length = n := by rfl) (hst : (assignEach es X.env).findIdx? (·.1) = none := by rfl) : ZG X (.Tuple es k pos) (gTp n gs) := fun W xg =>
  PG.imp (pg_tup hc (h W xg) hn hst) fun v σ H Q ⟨ρ, st, m, u, S, E, r, P⟩ => by
    cases u with
    | tup us =>
      obtain ⟨a, vs, rfl, h1, r1⟩ := rep_tup (K := X.K) r rfl
      simp only [gTp] at P
      split at P
      · rename_i hl
        exact ⟨a, vs, rfl, h1, by rw [← r1.length, hl], ρ, st, m, us, S, E, r1, P⟩
      · exact P.elim
    | _ => exact P.elim
theorem zs_asg [TB] {tg : Expr} {g : Asg} (he : ZE X e fa) (hg : ZG X tg g) (hs : swapsWithSole [tg] e pos.line X.env = pure false := by rfl) (hw : swappedStores [tg] e X.env = pure none := by rfl)
    (h1 : (assignEach [tg] X.env).map (·.2) = [assign tg X.env] := by rfl) : ZS X (.Assign [tg] e pos) (sAsg fa g) := fun W xg => PS.imp (ps_asg (he W xg) (hg W xg) hs hw h1) fun D σ H ⟨ρ, st, m, S, E, P⟩ =>
  ⟨ρ, st, m, S, E, PostS.bind (k := fun u st1 => (g u ρ st1).bind fun ρ1 st2 => .ok (.nx ρ1) st2) P fun u st1 v m1 H1 _ l S1 r p =>
    ⟨ρ, st1, m1, u, S1, E.mono S l, r, PostS.bindA (k := fun ρ1 st2 => .ok (.nx ρ1) st2) p fun ρ1 st2 σ2 m2 H2 _ l2 S2 E2 p2 => p2 σ2 m2 H2 Le.refl S2 E2⟩⟩
/-- o[i] = v of a list that is held -/
def setAt (st : Store) (o i v : U) : Option Store := match o with
  | .hdl n => match st[n]? with
    | some (.lst xs) => match i with
      | .int k => (ixN xs.length k).map fun j => st.set n (.lst (xs.set j v))
      | _ => none
    | some (.dct ks us) => if isKey i = true ∧ ks.length < 16777216 then some (st.set n (.dct (dSetK ks i) (dSetV ks us i v))) else none
    | _ => none
  | _ => none
theorem PSet.either {X : Cx} {t t' : TSet} (h : PSet X t) (h' : PSet X t') : PSet X (fun o i v H Q => t o i v H Q ∨ t' o i v H Q) := by
  intro pins s σ H o i v ov iv u Q I ro ri rv q
  rcases q with q | q
  · exact h pins s σ H o i v ov iv u Q I ro ri rv q
  · exact h' pins s σ H o i v ov iv u Q I ro ri rv q
@[simp] def gSubL (fo fi : UEnv → Store → R U) : Asg := fun v ρ st => (fo ρ st).bind fun o st1 => (fi ρ st1).bind fun i st2 => match setAt st2 o i v with
  | some st3 => .ok ρ st3
  | none => .stuck
theorem Reps.setAt {G : GC} {m : MH} {H : Hp} {u : U} {v : V} (r : Rep G m H u v) : ∀ {us : List U} {vs : List V} (i : Nat), Reps G m H us vs → Reps G m H (us.set i u) (vs.set i v)
  | _, _, _, .nil => .nil
  | _, _, 0, .cons _ t => .cons r t
  | _, _, i + 1, .cons q t => .cons q (Reps.setAt r i t)
theorem tz_seqA [TB] {W : WX} {fa : UEnv → Store → R U} {σ : L2.St} {H : Hp} {α β : Type} {rel2 : MH → Hp → α → β → Prop} {Q2 : β → Hp → Prop} {k : UEnv → U → Store → R α} {Q : VK} {ρ : UEnv} {st : Store} {m : MH}
    (S : Sim (gc X) m H st) (E : REnv (gc X) m H ρ σ) (P : Post (gc X) m H rel2 (fun c d H => ∀ σ, W c d σ H) Q2 ((fa ρ st).bind (k ρ)))
    (hq : ∀ u st1 v m1 H1, Sim (gc X) m1 H1 st1 → REnv (gc X) m1 H1 ρ σ → Rep (gc X) m1 H1 u v → Le m H m1 H1 → Post (gc X) m1 H1 rel2 (fun c d H => ∀ σ, W c d σ H) Q2 (k ρ u st1) → Q v H1) : tZ (gc X) W fa σ H Q := by
  refine ⟨ρ, st, m, S, E, ?_⟩
  cases e : fa ρ st with
  | ok u st1 => rw [e] at P; exact fun v m1 H1 l S1 r => hq u st1 v m1 H1 S1 (E.mono S l) r l (Post.mono l P)
  | exc x st1 => rw [e] at P; exact fun c d m1 H1 l S1 r => P c d m1 H1 l S1 r σ
  | stuck => rw [e] at P; exact P
theorem zg_sub [TB] {o i : Expr} {fo fi : UEnv → Store → R U} (hu : X.A.units + 65 < cLine) (ho : ZE X o fo) (hi : ZE X i fi) (ha : ∀ v, assign (.Subscript o i pos) X.env v = (do
      let ov ← holding [v] (eval o X.env)
      let iv ← holding [v, ov] (eval i X.env)
      standAt pos
      holding [v, ov, iv] (setItem ov iv v)
      release [v, ov, iv] []) := by intro _; rfl) : ZG X (.Subscript o i pos) (gSubL fo fi) := fun W xg =>
  PG.imp (pg_sub (ho W xg) (hi W xg) (PSet.either set_list (set_dict (by omega))) ha) fun v σ H Q ⟨ρ, st, m, u, S, E, r, P⟩ => by
    refine tz_seqA (k := fun ρ o st1 => (fi ρ st1).bind fun i st2 => match setAt st2 o i u with
      | some st3 => .ok ρ st3
      | none => .stuck) S E P fun o1 st1 v1 m1 H1 S1 E1 r1 l1 P1 => ?_
    refine tz_seqA (k := fun ρ i st2 => match setAt st2 o1 i u with
      | some st3 => .ok ρ st3
      | none => .stuck) S1 E1 P1 fun o2 st2 v2 m2 H2 S2 E2 r2 l2 P2 => ?_
    cases e : setAt st2 o1 o2 u with
    | none => simp only [e] at P2; exact P2.elim
    | some st3 =>
      simp only [e] at P2
      unfold setAt at e
      split at e
      · rename_i n
        split at e
        · rename_i xs hx
          split at e
          · rename_i k
            rw [Option.map_eq_some_iff] at e
            obtain ⟨j, ej, rfl⟩ := e
            have ro := r1.mono S1 l2
            cases ro with
            | @hdl n a hm =>
              obtain ⟨vs, e3, rv⟩ := S2.cell n _ a hx hm
              refine .inl ⟨a, vs, k, j, rfl, rep_int r2, e3, by rw [← rv.length]; exact ej, ?_⟩
              have ru := (r.mono S l1).mono S1 l2
              exact P2 σ m2 _ (le_write S2 hm) (S2.write hm ⟨_, upd_same, (Reps.setAt ru j rv).mono S2 (le_write S2 hm)⟩) (E2.mono S2 (le_write S2 hm))
          · cases e
        · rename_i ks us hx
          split at e
          · rename_i hc
            cases e
            have ro := r1.mono S1 l2
            cases ro with
            | @hdl n a hm =>
              obtain ⟨kvs, e3, rk, rv⟩ := S2.cell n _ a hx hm
              obtain ⟨k, ek⟩ := key_of r2 hc.1
              subst ek
              have ru := (r.mono S l1).mono S1 l2
              have pr := put_rel r2 ru rk rv
              have hl := rk.length
              rw [List.length_map] at hl
              refine .inr ⟨a, _, rfl, DPut.k e3 (by rw [line_eq, ← hl]; exact hc.2), ?_⟩
              exact P2 σ m2 _ (le_write S2 hm) (S2.write hm ⟨_, upd_same, pr.1.mono S2 (le_write S2 hm), pr.2.mono S2 (le_write S2 hm)⟩) (E2.mono S2 (le_write S2 hm))
          · cases e
        · cases e
      · cases e
theorem zs_aug [TB] {i : Nat} {x : Str} {pos' : Pos} {op : Operator} {g : Op2} (hN : X.N.Nodup) (ho : PIp X op (rZ (gc X) g)) (he : ZE X e fa) (hi : X.N[i]? = some x := by rfl) (hx : Loc X.env.scope x := by first | exact Or.inl rfl | exact Or.inr rfl)
    (hf : X.fn x = true ∨ X.env.scope.names.lookup x = some .local := by first | exact .inl rfl | exact .inr rfl) : ZS X (.AugAssign (.Name x pos') op e pos) (sAug i g fa) := fun W xg => PS.imp (ps_aug hN hi hx (he W xg) ho hf) fun D σ H ⟨ρ, st, m, S, E, P⟩ => by
  unfold sAug dName at P
  cases e1 : ρ[i]? with
  | none => rw [e1] at P; exact P.elim
  | some o =>
    cases o with
    | none => rw [e1] at P; exact P.elim
    | some u0 =>
      rw [e1] at P
      obtain ⟨v0, e2, r0⟩ := E.at_ i u0 e1
      refine ⟨v0, e2, ρ, st, m, S, E, PostS.bind (k := fun u st1 => (R.ofO st1 (g st1 u0 u)).bind fun z st2 => .ok (.nx (ρ.set i (some z))) st2) P fun u st1 v m1 H1 _ l S1 r p => ?_⟩
      refine ⟨m1, st1, u0, u, S1, r0.mono S l, r, ?_⟩
      cases e3 : g st1 u0 u with
      | none => rw [e3] at p; exact p.elim
      | some z =>
        rw [e3] at p
        exact fun v2 m2 H2 l2 S2 r2 => p _ m2 H2 l2 S2 ((E.mono S (l.trans l2)).set i r2)
theorem ip_addZ [TB] : PIp X .Add (rZ (gc X) oAddI) := by
  intro pins s σ H x y v u Q I rx ry ⟨m, st, a, b, S, ra, rb, P⟩
  unfold oAddI at P
  split at P
  · exact ip_add pins s σ H x y v u Q I rx ry ⟨_, _, rep_int ra, rep_int rb, P.here S (.int _)⟩
  · exact P.elim
end
end Z

namespace Z
open PySem PySem.Spec PyProof.Rows L2

/-! ### what is walked -/
structure WalksU (G : GC) (J : It) (us : List U) (m0 : MH) (H0 : Hp) : Prop where
  go : ∀ i m H, i < us.length → Le m0 H0 m H → J.go i H
  stop : ∀ m H, Le m0 H0 m H → J.stop us.length H
  yld : ∀ i m H x H' st u, us[i]? = some u → Le m0 H0 m H → Sim G m H st → J.yld i H x H' → ∃ m', Le m H m' H' ∧ Sim G m' H' st ∧ Rep G m' H' u x
abbrev relI (G : GC) : MH → Hp → List U → It → Prop := fun m H us J => WalksU G J us m H
def tZI (G : GC) (W : WX) (f : UEnv → Store → R (List U)) : TI := fun σ H R => ∃ ρ st m, Sim G m H st ∧ REnv G m H ρ σ ∧ Post G m H (relI G) (WE2 W σ) R (f ρ st)
def ZI [TB] (X : Cx) (tg iter : Expr) (f : UEnv → Store → R (List U)) : Prop := ∀ W, XG X W → PI X tg iter (tZI (gc X) W f)
theorem PI.imp {X : Cx} {tg e : Expr} {t t' : TI} (h : PI X tg e t) (hi : ∀ σ H R, t' σ H R → t σ H R) : PI X tg e t' := ⟨fun pins s σ H R I hw => h.run pins s σ H R I (hi σ H R hw)⟩

def signsOf (x : Str) : List U := x.cps.toList.map fun c => .str ⟨#[c]⟩
def itemsOf : U → Option (List U)
  | .tup xs => some xs
  | .lst xs => some xs
  | .frz xs => some xs
  | .str x => some (signsOf x)
  | _ => none
@[simp] def dIter (f : UEnv → Store → R U) : UEnv → Store → R (List U) := fun ρ st => (f ρ st).bind fun u st1 => R.ofO st1 (itemsOf u)

def iAny (K : PySem.W.Frag) (tl : TE) : TI := fun σ H R => tl σ H fun x H1 => (∃ a, x = .ref a ∧ (∃ xs, SqL K H1 a xs) ∧ R (Itl K a) H1) ∨ (∃ a, x = .ref a ∧ (∃ xs, SqT K H1 a xs) ∧ R (Itt K a) H1) ∨ ∃ z, x = .str z ∧ R (Its z) H1
theorem pi_any {X : Cx} {tg l : Expr} {tl : TE} (hl : PE X l tl) : PI X tg l (iAny X.K tl) := by
  refine ⟨fun pins s σ H R I h => ?_⟩
  refine thn (hl.run pins s σ H _ I h) fun v s1 ⟨x, H1, I1, r1, q1⟩ => ?_
  rcases q1 with ⟨a, e, ⟨xs, hq⟩, q⟩ | ⟨a, e, ⟨xs, hq⟩, q⟩ | ⟨z, e, q⟩
  · subst e
    cases r1
    obtain ⟨its, rv, p, hz⟩ := I1.list hq
    refine wpAny_pyIter_list p.isList ?_
    refine ⟨s1.heap.objs.size, [s1.heap.objs.size], _, _, H1, rfl, I1.kept (t' := s1.toks) fun b o e => Heap.get?_push_of_some _ e, turn_list a _, ⟨_, Heap.get?_push_size _ rfl, rfl, rfl⟩, fun b hb => ?_, q⟩
    have e : b = s1.heap.objs.size := by simpa using hb
    subst e
    exact I1.fpOk (Nat.le_refl _) (I1.hok.fresh (Nat.le_refl _))
  · subst e
    cases r1
    obtain ⟨its, rv, p, hz⟩ := I1.tuple hq
    refine wpAny_pyIter_tuple (show s1.heap.IsTuple a its.toArray from p) ?_
    refine ⟨s1.heap.objs.size, [s1.heap.objs.size], _, _, H1, rfl, I1.kept (t' := s1.toks) fun b o e => Heap.get?_push_of_some _ e, turn_tuple a _, ⟨_, Heap.get?_push_size _ rfl, rfl, rfl⟩, fun b hb => ?_, q⟩
    have e : b = s1.heap.objs.size := by simpa using hb
    subst e
    exact I1.fpOk (Nat.le_refl _) (I1.hok.fresh (Nat.le_refl _))
  · subst e
    obtain ⟨t, rfl⟩ := r1
    cases ha : z.cps.all (· < 128)
    · exact wpAny_pyIter_wide ha (pi_one (tk := s1.toks) I1 _ (turn_str _ z t "str_iterator" (.inr rfl)) ⟨_, Heap.get?_push_size _ rfl, rfl, rfl⟩ q)
    · exact wpAny_pyIter_ascii ha (pi_one (tk := s1.toks) I1 _ (turn_str _ z t "str_ascii_iterator" (.inl rfl)) ⟨_, Heap.get?_push_size _ rfl, rfl, rfl⟩ q)

/-- what is read stays -/
theorem seqL_stay {G : GC} {m0 : MH} {H0 : Hp} {st0 : Store} {u : U} {us : List U} {v : V} (S0 : Sim G m0 H0 st0) (r : Rep G m0 H0 u v) (hu : u = .lst us ∨ u = .frz us) : ∃ a vs, v = .ref a ∧ SqL G.K H0 a vs ∧ Reps G m0 H0 us vs ∧ ∀ m H, Le m0 H0 m H → SqL G.K H a vs := by
  cases r with
  | lst h n r => rcases hu with e | e <;> cases e; exact ⟨_, _, rfl, .inl (.inl h), r, fun m H l => .inl (.inl ((l.stays S0).keep _ _ h n nofun).1)⟩
  | frz h n r => rcases hu with e | e <;> cases e; exact ⟨_, _, rfl, .inl (.inr ⟨_, h⟩), r, fun m H l => .inl (.inr ⟨_, ((l.stays S0).keep _ _ h n nofun).1⟩)⟩
  | frzK h r => rcases hu with e | e <;> cases e; exact ⟨_, _, rfl, .inr h, r, fun m H l => .inr h⟩
  | _ => rcases hu with e | e <;> cases e
theorem seqT_stay {G : GC} {m0 : MH} {H0 : Hp} {st0 : Store} {us : List U} {v : V} (S0 : Sim G m0 H0 st0) (r : Rep G m0 H0 (.tup us) v) : ∃ a vs, v = .ref a ∧ SqT G.K H0 a vs ∧ Reps G m0 H0 us vs ∧ ∀ m H, Le m0 H0 m H → SqT G.K H a vs := by
  cases r with
  | tup h n r => exact ⟨_, _, rfl, .inl (.inl h), r, fun m H l => .inl (.inl ((l.stays S0).keep _ _ h n nofun).1)⟩
  | tupK h r => exact ⟨_, _, rfl, .inr h.1, r, fun m H l => .inr h.1⟩
theorem walks_list {G : GC} {m0 : MH} {H0 : Hp} {st0 : Store} {us : List U} {a : Addr} {vs : List V} (S0 : Sim G m0 H0 st0) (r : Reps G m0 H0 us vs) (hs : ∀ m H, Le m0 H0 m H → SqL G.K H a vs) : WalksU G (Itl G.K a) us m0 H0 where
  go := fun i m H hi l => ⟨vs, vs[i]'(by rw [← r.length]; exact hi), hs m H l, by simp [r.length ▸ hi]⟩
  stop := fun m H l => ⟨vs, hs m H l, by rw [← r.length]; exact Nat.le_refl _⟩
  yld := fun i m H x H' st u hu l S y => by
    obtain ⟨e, y⟩ := y
    subst e
    obtain ⟨v, e1, rr⟩ := (r.mono S0 l).getU hu
    have e2 := y vs (hs m _ l)
    rw [e1] at e2; cases e2
    exact ⟨m, Le.refl, S, rr⟩
theorem walks_tup {G : GC} {m0 : MH} {H0 : Hp} {st0 : Store} {us : List U} {a : Addr} {vs : List V} (S0 : Sim G m0 H0 st0) (r : Reps G m0 H0 us vs) (hs : ∀ m H, Le m0 H0 m H → SqT G.K H a vs) : WalksU G (Itt G.K a) us m0 H0 where
  go := fun i m H hi l => ⟨vs, vs[i]'(by rw [← r.length]; exact hi), hs m H l, by simp [r.length ▸ hi]⟩
  stop := fun m H l => ⟨vs, hs m H l, by rw [← r.length]; exact Nat.le_refl _⟩
  yld := fun i m H x H' st u hu l S y => by
    obtain ⟨e, y⟩ := y
    subst e
    obtain ⟨v, e1, rr⟩ := (r.mono S0 l).getU hu
    have e2 := y vs (hs m _ l)
    rw [e1] at e2; cases e2
    exact ⟨m, Le.refl, S, rr⟩
theorem sign_ok {x : Str} {i c : Nat} (h : PyData.strOk x = true) (e : x.cps[i]? = some c) : PyData.strOk ⟨#[c]⟩ = true := by
  unfold PyData.strOk at *
  obtain ⟨hi, e1⟩ := Array.getElem?_eq_some_iff.mp e
  have := Array.all_eq_true.mp h i hi
  rw [e1] at this
  simpa using this
theorem walks_str {G : GC} {m0 : MH} {H0 : Hp} {x : Str} (h : PyData.strOk x = true) : WalksU G (Its x) (signsOf x) m0 H0 where
  go := fun i m H hi l => by
    show i < x.cps.size
    simpa [signsOf] using hi
  stop := fun m H l => by simp [signsOf, Its]
  yld := fun i m H v H' st u hu l S y => by
    obtain ⟨e, c, e1, e2⟩ := y
    subst e e2
    have : u = .str ⟨#[c]⟩ := by
      unfold signsOf at hu
      rw [List.getElem?_map] at hu
      have e3 : x.cps.toList[i]? = some c := by simpa using e1
      rw [e3] at hu
      exact (Option.some.inj hu).symm
    subst this
    exact ⟨m, Le.refl, S, .str _ (sign_ok h e1) (by show 1 ≤ 16777216; decide)⟩
theorem walks_range {G : GC} {m0 : MH} {H0 : Hp} {lo : Int} {n : Nat} : WalksU G (Itr lo n) ((List.range n).map fun (i : Nat) => U.int (lo + (i : Int))) m0 H0 where
  go := fun i m H hi l => by
    show i < n
    simpa using hi
  stop := fun m H l => by simp [Itr]
  yld := fun i m H v H' st u hu l S y => by
    obtain ⟨e, e2⟩ := y
    subst e e2
    rw [List.getElem?_map] at hu
    cases e3 : (List.range n)[i]? with
    | none => rw [e3] at hu; cases hu
    | some j =>
      rw [e3] at hu
      have : j = i := by
        obtain ⟨hi, e4⟩ := List.getElem?_eq_some_iff.mp e3
        simpa using e4.symm
      subst this
      cases hu
      exact ⟨m, Le.refl, S, .int _⟩

section
variable {X : Cx} {tg e e2 : Expr} {fa fb : UEnv → Store → R U} {fl : UEnv → Store → R (List U)}
theorem zi_any [TB] (h : ZE X e fa) : ZI X tg e (dIter fa) := fun W xg => PI.imp (pi_any (h W xg)) fun σ H RR ⟨ρ, st, m, S, E, P⟩ => tz_seq (X := X) (k := fun _ u st1 => R.ofO st1 (itemsOf u)) S E P fun u st1 v m1 H1 S1 E1 r1 l1 P1 => by
  cases u with
  | tup xs =>
    obtain ⟨a, vs, rfl, h1, r2, hs⟩ := seqT_stay S1 r1
    exact .inr (.inl ⟨a, rfl, ⟨vs, h1⟩, post_ok P1 S1 (walks_tup S1 r2 hs)⟩)
  | lst xs =>
    obtain ⟨a, vs, rfl, h1, r2, hs⟩ := seqL_stay S1 r1 (.inl rfl)
    exact .inl ⟨a, rfl, ⟨vs, h1⟩, post_ok P1 S1 (walks_list S1 r2 hs)⟩
  | frz xs =>
    obtain ⟨a, vs, rfl, h1, r2, hs⟩ := seqL_stay S1 r1 (.inr rfl)
    exact .inl ⟨a, rfl, ⟨vs, h1⟩, post_ok P1 S1 (walks_list S1 r2 hs)⟩
  | str x =>
    obtain ⟨rfl, hk, _⟩ := rep_str r1
    exact .inr (.inr ⟨x, rfl, post_ok P1 S1 (walks_str hk)⟩)
  | _ => exact P1.elim
def rangeU (lo hi : Int) : List U := (List.range (hi - lo).toNat).map fun (i : Nat) => U.int (lo + (i : Int))
def rgOk (i : Int) : Prop := Nat.ble i.natAbs 4611686018427387903 = true
theorem rgOk_iff (i : Int) : rgOk i ↔ -4611686018427387903 ≤ i ∧ i ≤ 4611686018427387903 := by
  unfold rgOk
  rw [Nat.ble_eq]
  omega
theorem rgOk.lo {i : Int} (h : rgOk i) : -(2 ^ 62) ≤ i := by
  have e : (2 : Int) ^ 62 = 4611686018427387904 := by decide
  have := (rgOk_iff i).mp h
  rw [e]; omega
theorem rgOk.hi {i : Int} (h : rgOk i) : i < 2 ^ 62 := by
  have e : (2 : Int) ^ 62 = 4611686018427387904 := by decide
  have := (rgOk_iff i).mp h
  rw [e]; omega
instance (i : Int) : Decidable (rgOk i) := inferInstanceAs (Decidable (Nat.ble i.natAbs 4611686018427387903 = true))
@[simp] def dRange1 (f : UEnv → Store → R U) : UEnv → Store → R (List U) := fun ρ st => (f ρ st).bind fun u st1 => match u with
  | .int j => if rgOk j then .ok (rangeU 0 j) st1 else .stuck
  | _ => .stuck
@[simp] def dRange2 (f g : UEnv → Store → R U) : UEnv → Store → R (List U) := fun ρ st => (f ρ st).bind fun u st1 => (g ρ st1).bind fun w st2 => match u, w with
  | .int i, .int j => if rgOk i ∧ rgOk j then .ok (rangeU i j) st2 else .stuck
  | _, _ => .stuck
theorem zi_range1 [TB] {p pos : Pos} (hm : X.mg "range" = none) (h : ZE X e fa) (hg : Gl X "range" := by rfl) (hs : starEach [e] X.env = [(false, eval e X.env)] := by rfl) : ZI X tg (.Call (.Name "range" p) [e] [] pos) (dRange1 fa) := fun W xg =>
  PI.imp (pi_range1 hg hm (pa_cons (h W xg) pa_nil (by rw [hs]; rfl)) hs) fun σ H RR ⟨ρ, st, m, S, E, P⟩ => tz_seq (X := X) (k := fun _ u st1 => match u with
    | .int j => if rgOk j then .ok (rangeU 0 j) st1 else .stuck
    | _ => .stuck) S E P fun u st1 v m1 H1 S1 E1 r1 l1 P1 => by
    cases u with
    | int j =>
      have := rep_int r1; subst this
      simp only at P1
      split at P1
      · rename_i hj
        refine ⟨j, rfl, hj.lo, hj.hi, post_ok P1 S1 ?_⟩
        have := walks_range (G := gc X) (m0 := m1) (H0 := H1) (lo := 0) (n := j.toNat)
        unfold relI rangeU
        rw [show j - 0 = j by omega]
        exact this
      · exact P1.elim
    | _ => exact P1.elim
theorem zi_range2 [TB] {p pos : Pos} (hm : X.mg "range" = none) (h : ZE X e fa) (h2 : ZE X e2 fb) (hg : Gl X "range" := by rfl) (hs : starEach [e, e2] X.env = [(false, eval e X.env), (false, eval e2 X.env)] := by rfl) (hs2 : starEach [e2] X.env = [(false, eval e2 X.env)] := by rfl) : ZI X tg (.Call (.Name "range" p) [e, e2] [] pos) (dRange2 fa fb) := fun W xg =>
  PI.imp (pi_range2 hg hm (pa_cons (h W xg) (pa_cons (h2 W xg) pa_nil (by rw [hs2]; rfl)) (by rw [hs, hs2])) hs hs2) fun σ H RR ⟨ρ, st, m, S, E, P⟩ => tz_seq (X := X) (k := fun ρ u st1 => (fb ρ st1).bind fun w st2 => match u, w with
    | .int i, .int j => if rgOk i ∧ rgOk j then .ok (rangeU i j) st2 else .stuck
    | _, _ => .stuck) S E P fun u st1 v m1 H1 S1 E1 r1 l1 P1 => tz_seq (X := X) (k := fun ρ w st2 => match u, w with
    | .int i, .int j => if rgOk i ∧ rgOk j then .ok (rangeU i j) st2 else .stuck
    | _, _ => .stuck) S1 E1 P1 fun w st2 v2 m2 H2 S2 E2 r2 l2 P2 => by
    split at P2
    · rename_i i j
      have := rep_int r1; subst this
      have := rep_int r2; subst this
      split at P2
      · rename_i hj
        exact ⟨i, j, rfl, ⟨hj.1.lo, hj.1.hi, hj.2.lo, hj.2.hi⟩, post_ok P2 S2 walks_range⟩
      · exact P2.elim
    · exact P2.elim
end

/-! ### for -/
def forU (g : Asg) (f : UEnv → Store → R Fl) : List U → UEnv → Store → R Fl
  | [], ρ, st => .ok (.nx ρ) st
  | x :: xs, ρ, st => (g x ρ st).bind fun ρ1 st1 => (f ρ1 st1).bind fun r st2 => match r with
    | .nx ρ2 => forU g f xs ρ2 st2
    | .ct ρ2 => forU g f xs ρ2 st2
    | .bk ρ2 => .ok (.nx ρ2) st2
    | .rt u => .ok (.rt u) st2
@[simp] def sFor (fi : UEnv → Store → R (List U)) (g : Asg) (f : UEnv → Store → R Fl) : UEnv → Store → R Fl := fun ρ st => (fi ρ st).bind fun us st1 => forU g f us ρ st1
theorem for_core {G : GC} {W : WX} {g : Asg} {f : UEnv → Store → R Fl} {us : List U} {J : It} {D : Ends} {σ : L2.St} {H : Hp} {ρ : UEnv} {st : Store} {m : MH} (Wk : WalksU G J us m H) (S : Sim G m H st) (E : REnv G m H ρ σ) (P : PostS G m H W D (forU g f us ρ st)) :
    ∃ Wf : Nat → Nat → L2.St → Hp → Prop, (∃ k, Wf 0 k σ H) ∧ ∀ i k σ H, Wf i k σ H →
      (J.stop i H ∧ D.nx σ H) ∨ (J.go i H ∧ ∃ N : L2.St → Hp → Prop, (∀ σ' H', N σ' H' → ∃ k', k' < k ∧ Wf (i + 1) k' σ' H') ∧ ∀ x H', J.yld i H x H' → tZG G W g x σ H' fun σ2 H2 => tZS G W f { D with nx := N, ct := N, bk := D.nx } σ2 H2) := by
  let Wf : Nat → Nat → L2.St → Hp → Prop := fun i k σ' H' => k = us.length - i ∧ i ≤ us.length ∧ ∃ ρ' st' m', Le m H m' H' ∧ Sim G m' H' st' ∧ REnv G m' H' ρ' σ' ∧ PostS G m' H' W D (forU g f (us.drop i) ρ' st')
  refine ⟨Wf, ⟨us.length, by simp, Nat.zero_le _, ρ, st, m, Le.refl, S, E, P⟩, ?_⟩
  rintro i k σ1 H1 ⟨rfl, hi, ρ1, st1, m1, l1, S1, E1, P1⟩
  by_cases hlt : i < us.length
  · refine .inr ⟨Wk.go i m1 H1 hlt l1, fun σ' H' => Wf (i + 1) (us.length - (i + 1)) σ' H', fun σ' H' w => ⟨us.length - (i + 1), by omega, w⟩, fun x H' y => ?_⟩
    obtain ⟨m2, l2, S2, r2⟩ := Wk.yld i m1 H1 x H' st1 us[i] (List.getElem?_eq_getElem hlt) l1 S1 y
    rw [List.drop_eq_getElem_cons hlt] at P1
    simp only [forU] at P1
    have P2 := PostS.mono l2 P1
    refine ⟨ρ1, st1, m2, us[i], S2, E1.mono S1 l2, r2, PostS.bindA P2 fun ρ3 st3 σ3 m3 H3 _ l3 S3 E3 P3 => ⟨ρ3, st3, m3, S3, E3, ?_⟩⟩
    have L3 : Le m H m3 H3 := l1.trans (l2.trans l3)
    cases e : f ρ3 st3 with
    | ok r st4 =>
      rw [e] at P3
      cases r with
      | nx ρ4 => exact fun σ4 m4 H4 l4 S4 E4 => ⟨rfl, hlt, ρ4, st4, m4, L3.trans l4, S4, E4, PostS.mono l4 P3⟩
      | ct ρ4 => exact fun σ4 m4 H4 l4 S4 E4 => ⟨rfl, hlt, ρ4, st4, m4, L3.trans l4, S4, E4, PostS.mono l4 P3⟩
      | bk ρ4 => exact P3
      | rt u => exact P3
    | exc x st4 => rw [e] at P3; exact P3
    | stuck => rw [e] at P3; exact P3
  · have e : i = us.length := by omega
    subst e
    rw [List.drop_length] at P1
    exact .inl ⟨Wk.stop m1 H1 l1, P1 σ1 m1 H1 Le.refl S1 E1⟩
theorem zs_for [TB] {X : Cx} {tg iter : Expr} {body : List Stmt} {pos : Pos} {fi : UEnv → Store → R (List U)} {g : Asg} {f : UEnv → Store → R Fl} (hc : X.calm = true) (hi : ZI X tg iter fi) (hg : ZG X tg g) (hb : ZB X body f)
    (hs : ∀ x, foldedSetIterable iter X.env x = pure x := by intro _; rfl) : ZS X (.For tg iter body [] pos) (sFor fi g f) := fun W xg =>
  PS.imp (ps_for xg.po hc (hi W xg) (hg W xg) (hb W xg) hs) fun D σ H ⟨ρ, st, m, S, E, P⟩ =>
    ⟨ρ, st, m, S, E, PostS.bind (k := fun us st1 => forU g f us ρ st1) P fun us st1 J m1 H1 _ l S1 Wk p => for_core Wk S1 (E.mono S l) p⟩

/-! ### while -/
def whU (c : UEnv → Store → R Bool) (f : UEnv → Store → R Fl) : Nat → UEnv → Store → R Fl
  | 0, _, _ => .stuck
  | n + 1, ρ, st => (c ρ st).bind fun k st1 => if k = true then (f ρ st1).bind fun r st2 => match r with
    | .nx ρ2 => whU c f n ρ2 st2
    | .ct ρ2 => whU c f n ρ2 st2
    | .bk ρ2 => .ok (.nx ρ2) st2
    | .rt u => .ok (.rt u) st2
    else .ok (.nx ρ) st1
@[simp] def sWhile (n : Nat) (c : UEnv → Store → R Bool) (f : UEnv → Store → R Fl) : UEnv → Store → R Fl := fun ρ st => whU c f n ρ st
theorem zs_while [TB] {X : Cx} {n : Nat} {c : Expr} {body : List Stmt} {pos : Pos} {tc : UEnv → Store → R Bool} {f : UEnv → Store → R Fl} (hc : ZT X c tc) (hb : ZB X body f) : ZS X (.While c body [] pos) (sWhile n tc f) := fun W xg =>
  PS.imp (ps_while xg.po (hc W xg) (hb W xg)) fun D σ H ⟨ρ, st, m, S, E, P⟩ => by
    let Wf : Nat → L2.St → Hp → Prop := fun k σ' H' => ∃ ρ' st' m', Le m H m' H' ∧ Sim (gc X) m' H' st' ∧ REnv (gc X) m' H' ρ' σ' ∧ PostS (gc X) m' H' W D (whU tc f k ρ' st')
    refine ⟨Wf, ⟨n, ρ, st, m, Le.refl, S, E, P⟩, ?_⟩
    rintro k σ1 H1 ⟨ρ1, st1, m1, l1, S1, E1, P1⟩
    cases k with
    | zero => exact P1.elim
    | succ k =>
      simp only [whU] at P1
      refine ⟨ρ1, st1, m1, S1, E1, PostS.bind P1 fun b st2 b' m2 H2 _ l2 S2 r2 P2 => ?_⟩
      have r2 : b = b' := r2
      subst r2
      cases b with
      | false => exact P2 σ1 m2 H2 Le.refl S2 (E1.mono S1 l2)
      | true =>
        refine ⟨fun σ' H' => Wf k σ' H', fun σ' H' w => ⟨k, Nat.lt_succ_self _, w⟩, ρ1, st2, m2, S2, E1.mono S1 l2, ?_⟩
        simp only [if_true] at P2
        have L2 : Le m H m2 H2 := l1.trans l2
        cases e : f ρ1 st2 with
        | ok r st4 =>
          rw [e] at P2
          cases r with
          | nx ρ4 => exact fun σ4 m4 H4 l4 S4 E4 => ⟨ρ4, st4, m4, L2.trans l4, S4, E4, PostS.mono l4 P2⟩
          | ct ρ4 => exact fun σ4 m4 H4 l4 S4 E4 => ⟨ρ4, st4, m4, L2.trans l4, S4, E4, PostS.mono l4 P2⟩
          | bk ρ4 => exact P2
          | rt u => exact P2
        | exc x st4 => rw [e] at P2; exact P2
        | stuck => rw [e] at P2; exact P2

/-! ### a def by its body -/
def runB (n : Nat) (g : UEnv → Store → R Fl) : FnZ := fun us st => (g (us.map some ++ List.replicate (n - us.length) none) st).bind fun r st' => match r with
  | .rt u => .ok u st'
  | .nx _ => .ok .non st'
  | _ => .stuck
theorem renv_start {G : GC} {m : MH} {H : Hp} {us : List U} {vs : List V} (r : Reps G m H us vs) (N : List Str) (hl : vs.length ≤ N.length) : REnv G m H (us.map some ++ List.replicate (N.length - us.length) none) (L2.start N vs) := by
  have hlen := r.length
  refine ⟨by simp [L2.start, hlen], fun i u e => ?_⟩
  by_cases hi : i < us.length
  · rw [List.getElem?_append_left (by simpa using hi), List.getElem?_map] at e
    cases e2 : us[i]? with
    | none => rw [e2] at e; cases e
    | some w =>
      rw [e2] at e
      cases e
      obtain ⟨v, e3, rr⟩ := r.getU e2
      refine ⟨v, ?_, rr⟩
      unfold L2.start
      rw [List.getElem?_append_left (by simpa using hlen ▸ hi), List.getElem?_map, e3]
      rfl
  · rw [List.getElem?_append_right (by simpa using hi), List.getElem?_replicate] at e
    split at e <;> cases e
theorem fnZ [TB] {P : Program} {w : World} {K : PySem.W.Frag} {mg : Str → Option Value} {base : Heap} {x qual : Str} {st : Stmt} {f : Addr} {fd : FuncData} {N ps : List Str} {k : Nat} {g : UEnv → Store → R Fl} (F : Fun K x qual st f fd) (S : FnScope N ps (defScope st))
    (hb : ∀ (cdv : Value) (A : Around) (outer : List Env) (s : Shared) (H : Hp) (E : XK), Room k (A.deeper (envOfC qual (defScope st) s.heap.objs.size f cdv)) → ZB (cxOf (L2.CX P w) P w K mg base N qual (defScope st) f cdv A outer s H E) (defBody st) g) :
    FnOk P w K mg base (L2.CX P w) (k + 1) f fd ps (spZ ⟨K, mg, TB.T, w⟩ ps.length (runB N.length g)) := by
  refine F.okX S (fun vs H Q E h => ?_) (fun cdv A outer s H vs Q E hr h => ?_)
  · obtain ⟨us, st', m, hl, _⟩ := h
    exact hl
  · obtain ⟨us, st', m, hl, S', r, Pt⟩ := h
    refine ⟨_, hb cdv A outer s H E hr (fun cls d _ H => E cls d H) ⟨takes_of rfl rfl rfl rfl, passes_of rfl⟩, ?_⟩
    have hpl : ps.length ≤ N.length := by have := congrArg List.length S.pre; rw [List.length_take] at this; omega
    refine ⟨_, st', m, S', renv_start r N (by rw [hl]; exact hpl), ?_⟩
    unfold runB at Pt
    cases e : g (us.map some ++ List.replicate (N.length - us.length) none) st' with
    | ok r1 st1 =>
      rw [e] at Pt
      cases r1 with
      | nx ρ => exact fun σ m1 H1 l S1 E1 => Pt .non m1 H1 l S1 .non
      | rt u => exact Pt
      | bk ρ => exact Pt.elim
      | ct ρ => exact Pt.elim
    | exc x st1 => rw [e] at Pt; exact fun c d σ m1 H1 l S1 r1 => Pt c d m1 H1 l S1 r1
    | stuck => rw [e] at Pt; exact Pt
theorem calZ [TB] {P : Program} {w : World} {K : PySem.W.Frag} {mg : Str → Option Value} {base : Heap} {x : Str} {st : Stmt} {f : Addr} {fd : FuncData} {N ps : List Str} {k n : Nat} {g : UEnv → Store → R Fl} {F : FnZ} (Fn : Fun K x x st f fd) (hm : mg x = some (.ref f)) (bd : Binds K fd ps []) (S : FnScope N ps (defScope st))
    (hb : ∀ (cdv : Value) (A : Around) (outer : List Env) (s : Shared) (H : Hp) (E : XK), Room k (A.deeper (envOfC x (defScope st) s.heap.objs.size f cdv)) → ZB (cxOf (L2.CX P w) P w K mg base N x (defScope st) f cdv A outer s H E) (defBody st) g)
    (hF : F = runB N.length g := by rfl) (hn : ps.length = n := by rfl) : CalZ P w K mg base (k + 1) x n F := by
  subst hF hn
  exact ⟨f, fd, ps, fnZ Fn S hb, hm, Fn.kp, bd⟩
end Z

namespace Z
open PySem PySem.Spec PyProof.Rows L2

/-! ### comprehensions -/
def R.noexc {α : Type} : R α → R α
  | .ok a st => .ok a st
  | _ => .stuck
@[simp] theorem R.noexc_ok {α : Type} (a : α) (st : Store) : (R.ok a st).noexc = .ok a st := rfl
@[simp] theorem R.noexc_exc {α : Type} (e : Ex) (st : Store) : (R.exc e st : R α).noexc = .stuck := rfl
@[simp] theorem R.noexc_stuck {α : Type} : (R.stuck : R α).noexc = .stuck := rfl
abbrev Ct := U → UEnv → Option UEnv
@[simp] def ctName (i : Nat) : Ct := fun u ρ => some (ρ.set i (some u))
@[simp] def ctPair (i j : Nat) : Ct := fun u ρ => match u with
  | .tup [a, b] => some ((ρ.set i (some a)).set j (some b))
  | _ => none
def lcU (g : Ct) (c : UEnv → Store → R Bool) (f : UEnv → Store → R U) : List U → UEnv → Store → R (List U)
  | [], _, st => .ok [] st
  | x :: xs, ρ, st => match g x ρ with
    | some ρ1 => (c ρ1 st).bind fun b st2 => if b = true then (f ρ1 st2).bind fun y st3 => (lcU g c f xs ρ st3).bind fun ys st4 => .ok (y :: ys) st4 else lcU g c f xs ρ st2
    | none => .stuck
def wipeU (ρ : UEnv) : List Nat → UEnv
  | [] => ρ
  | v :: vs => (wipeU ρ vs).set v none
@[simp] def cYes : UEnv → Store → R Bool := fun _ st => .ok true st
@[simp] def dComp (vs : List Nat) (fi : UEnv → Store → R (List U)) (g : Ct) (c : UEnv → Store → R Bool) (f : UEnv → Store → R U) : UEnv → Store → R U := fun ρ st =>
  (fi ρ st).bind fun us st1 => if us.length ≤ 16777216 then ((lcU g c f us (wipeU ρ vs) st1).noexc).bind fun ys st2 => .ok (.lst ys) st2 else .stuck

theorem wipe_get (σ : L2.St) : ∀ (vs : List Nat) (j : Nat), (wipe σ vs)[j]? = if j ∈ vs ∧ j < σ.length then some none else σ[j]?
  | [], j => by simp [wipe]
  | v :: vs, j => by
    unfold wipe
    by_cases q : v = j
    · subst q
      by_cases hj : v < σ.length
      · rw [List.getElem?_set_self (by rw [wipe_length]; exact hj), if_pos ⟨by simp, hj⟩]
      · rw [List.getElem?_eq_none (by rw [List.length_set, wipe_length]; omega), if_neg (fun z => hj z.2), List.getElem?_eq_none (by omega)]
    · rw [List.getElem?_set_ne q, wipe_get σ vs j]
      have : (j ∈ v :: vs) ↔ j ∈ vs := by simp [Ne.symm q]
      simp only [this]
theorem wipe_set {σ : L2.St} {vs : List Nat} {i : Nat} {x : Option V} (h : i ∈ vs) : wipe (σ.set i x) vs = wipe σ vs := by
  apply List.ext_getElem?
  intro j
  rw [wipe_get, wipe_get, List.length_set]
  by_cases q : i = j
  · subst q
    by_cases hl : i < σ.length
    · rw [if_pos ⟨h, hl⟩, if_pos ⟨h, hl⟩]
    · rw [if_neg (fun z => hl z.2), if_neg (fun z => hl z.2), List.getElem?_eq_none (by rw [List.length_set]; omega), List.getElem?_eq_none (by omega)]
  · rw [List.getElem?_set_ne q]
theorem wipe_wipe {σ : L2.St} {vs : List Nat} : wipe (wipe σ vs) vs = wipe σ vs := by
  apply List.ext_getElem?
  intro j
  rw [wipe_get, wipe_get, wipe_length]
  split
  · rfl
  · rfl
theorem renv_wipe {G : GC} {m : MH} {H : Hp} {ρ : UEnv} {σ : L2.St} (E : REnv G m H ρ σ) : ∀ vs, REnv G m H (wipeU ρ vs) (wipe σ vs)
  | [] => E
  | v :: vs => by
    have ih := renv_wipe E vs
    unfold wipeU wipe
    refine ⟨by simpa using ih.len, fun i u e => ?_⟩
    by_cases q : v = i
    · subst q
      by_cases hv : v < (wipeU ρ vs).length
      · rw [List.getElem?_set_self hv] at e; cases e
      · rw [List.getElem?_eq_none (by simpa using hv)] at e; cases e
    · rw [List.getElem?_set_ne q] at e
      obtain ⟨v', e1, r⟩ := ih.at_ i u e
      exact ⟨v', by rw [List.getElem?_set_ne q]; exact e1, r⟩

/-- a comprehension's target -/
def CtOk (G : GC) (g : TG) (ct : Ct) (vs : List Nat) : Prop := ∀ (v : V) (u : U) (σ : L2.St) (H : Hp) (K : L2.St → Hp → Prop) (ρ ρ1 : UEnv) (m : MH), REnv G m H ρ σ → Rep G m H u v → ct u ρ = some ρ1 → (∀ σ2, REnv G m H ρ1 σ2 → wipe σ2 vs = wipe σ vs → K σ2 H) → g v σ H K
theorem ct_name {G : GC} {i : Nat} {vs : List Nat} (h : i ∈ vs) : CtOk G (gName i) (ctName i) vs := fun v u σ H K ρ ρ1 m E r e k => by
  cases e
  exact k _ (E.set i r) (wipe_set h)
theorem ct_pair {G : GC} {i j : Nat} {vs : List Nat} (hi : i ∈ vs) (hj : j ∈ vs) : CtOk G (gTup G.K 2 (gCons (gName i) (gCons (gName j) gNil))) (ctPair i j) vs := fun v u σ H K ρ ρ1 m E r e k => by
  unfold ctPair at e
  split at e
  · rename_i a b
    cases e
    obtain ⟨p, xs, rfl, h1, r1⟩ := rep_tup (K := G.K) r rfl
    cases r1 with
    | cons ra t => cases t with
      | cons rb t => cases t with
        | nil => exact ⟨p, _, rfl, h1, rfl, _, _, rfl, _, _, rfl, rfl, k _ ((E.set i ra).set j rb) (by rw [wipe_set hj, wipe_set hi])⟩
  · cases e

def tZT0 (G : GC) (f : UEnv → Store → R Bool) : TT := tZT G (fun _ _ _ _ => False) f
theorem lc_post {G : GC} {ct : Ct} {c : UEnv → Store → R Bool} {f : UEnv → Store → R U} {us : List U} {J : It} {g : TG} {tt : TT} {te : TE} {vs : List Nat} {σ : L2.St} {H1 : Hp} {m1 : MH} {ρ : UEnv} {st1 : Store} {EW : XK} {Q : VK}
    (hct : CtOk G g ct vs) (htt : ∀ σ H Q, tZT G (fun _ _ _ _ => False) c σ H Q → tt σ H Q) (hte : ∀ σ H Q, tZ G (fun _ _ _ _ => False) f σ H Q → te σ H Q)
    (Wk : WalksU G J us m1 H1) (S1 : Sim G m1 H1 st1) (E : REnv G m1 H1 ρ σ) (hl : us.length ≤ 16777216)
    (P : Post G m1 H1 (Rep G) EW Q (((lcU ct c f us (wipeU ρ vs) st1).noexc).bind fun ys st2 => .ok (.lst ys) st2)) (D : Addr) (hD : H1 D = none) :
    ∃ W : Nat → Nat → Hp → Prop, (∃ m, W 0 m (upd H1 D (.lst []))) ∧ ∀ i m H, W i m H →
      (J.stop i H ∧ Q (.ref D) H) ∨ (J.go i H ∧ ∃ Nx : Hp → Prop, (∀ H', Nx H' → ∃ m', m' < m ∧ W (i + 1) m' H') ∧ ∀ x H', J.yld i H x H' → g x (wipe σ vs) H' fun σ2 H2 => wipe σ2 vs = wipe σ vs ∧ tt σ2 H2 fun b H3 =>
        if b = true then te σ2 H3 fun y H4 => ∃ acc, H4 D = some (.lst acc) ∧ acc.length < sizeLine ∧ Nx (upd H4 D (.lst (acc ++ [y]))) else Nx H3) := by
  have hDo : ¬ m1.own D := S1.off hD
  have hDa : ∀ n, m1.at_ n ≠ some D := fun n e => hDo (S1.own n D e)
  let Wf : Nat → Nat → Hp → Prop := fun i k H' => k = us.length - i ∧ i ≤ us.length ∧ ∃ (st' : Store) (m' : MH) (acc : List U) (ws : List V), Le m1 H1 m' H' ∧ m'.own D ∧ (∀ n, m'.at_ n ≠ some D) ∧ H' D = some (.lst ws) ∧ Sim G m' H' st' ∧ Reps G m' H' acc ws ∧ acc.length ≤ i ∧
    Post G m1 H1 (Rep G) EW Q (((lcU ct c f (us.drop i) (wipeU ρ vs) st').noexc).bind fun ys st2 => .ok (.lst (acc ++ ys)) st2)
  refine ⟨Wf, ⟨us.length, by simp, Nat.zero_le _, st1, ⟨m1.at_, fun a => a = D ∨ m1.own a⟩, [], [], ?_, .inl rfl, hDa, upd_same, ?_, .nil, Nat.zero_le _, P⟩, ?_⟩
  · exact ⟨fun _ _ h => h, fun _ _ h => .inl h, fun _ h => .inr h, fun a h => by
      rcases h with rfl | h
      · exact .inr (.inl hD)
      · exact .inl h, fun a o e _ _ => by rw [upd_ne (ne_of_none e hD)]; exact e, (le_new (m := m1) hD).live⟩
  · have st : Stays m1 H1 ⟨m1.at_, fun a => a = D ∨ m1.own a⟩ (upd H1 D (.lst [])) := ⟨fun _ _ h => h, fun a o e n _ => ⟨by rw [upd_ne (ne_of_none e hD)]; exact e, fun z => by
      rcases z with rfl | z
      · rw [hD] at e; cases e
      · exact n z⟩⟩
    refine ⟨S1.dom, S1.lt, S1.inj, fun n a e => .inr (S1.own n a e), fun a e => ?_, fun n c a e1 e2 => ?_, tabs_new S1.tabs hD⟩
    · rcases e with rfl | e
      · exact ⟨_, upd_same, nofun⟩
      · obtain ⟨o, e1, nt⟩ := S1.live a e
        exact ⟨o, by rw [upd_ne (ne_of_none e1 hD)]; exact e1, nt⟩
    · obtain ⟨o, e3⟩ := S1.atlive e2
      exact (S1.cell n c a e1 e2).stay st (upd_ne (ne_of_none e3 hD))
  · rintro i k H' ⟨rfl, hi, st', m', acc, ws, L, hO, hA, hW, S', Ra, hal, P'⟩
    by_cases hlt : i < us.length
    · refine .inr ⟨Wk.go i m' H' hlt L, fun H2 => Wf (i + 1) (us.length - (i + 1)) H2, fun H2 w => ⟨us.length - (i + 1), by omega, w⟩, fun x H2 y => ?_⟩
      obtain ⟨m2, l2, S2, r2⟩ := Wk.yld i m' H' x H2 st' us[i] (List.getElem?_eq_getElem hlt) L S' y
      have L2 : Le m1 H1 m2 H2 := L.trans l2
      rw [List.drop_eq_getElem_cons hlt] at P'
      simp only [lcU] at P'
      have E2 : REnv G m2 H2 (wipeU ρ vs) (wipe σ vs) := (renv_wipe E vs).mono S1 L2
      cases e0 : ct us[i] (wipeU ρ vs) with
      | none => simp only [e0] at P'; exact P'.elim
      | some ρ1 =>
        simp only [e0] at P'
        refine hct x us[i] _ H2 _ _ ρ1 m2 E2 r2 e0 fun σ2 E3 hw => ⟨hw.trans wipe_wipe, ?_⟩
        have stayD : ∀ {m3 : MH} {H3 : Hp}, Le m' H' m3 H3 → m3.own D ∧ (∀ n, m3.at_ n ≠ some D) ∧ H3 D = some (.lst ws) := fun {m3 H3} l => ⟨l.grow D hO, l.off hW hA, l.keep D _ hW hA nofun⟩
        refine htt _ _ _ ⟨ρ1, st', m2, S2, E3, ?_⟩
        cases e1 : c ρ1 st' with
        | exc _ _ => rw [e1] at P'; exact P'.elim
        | stuck => rw [e1] at P'; exact P'.elim
        | ok b st2 =>
          rw [e1] at P'
          simp only [R.bind_ok] at P'
          intro b' m3 H3 l3 S3 eb
          have eb : b = b' := eb
          subst eb
          have L3 : Le m' H' m3 H3 := l2.trans l3
          cases b with
          | false =>
            rw [if_neg Bool.false_ne_true]
            simp only [Bool.false_eq_true, if_false] at P'
            obtain ⟨d1, d2, d3⟩ := stayD L3
            exact ⟨rfl, hlt, st2, m3, acc, ws, L.trans L3, d1, d2, d3, S3, Ra.mono S' L3, by omega, P'⟩
          | true =>
            rw [if_pos rfl]
            simp only [if_true] at P'
            refine hte _ _ _ ⟨ρ1, st2, m3, S3, E3.mono S2 l3, ?_⟩
            cases e2 : f ρ1 st2 with
            | exc _ _ => rw [e2] at P'; exact P'.elim
            | stuck => rw [e2] at P'; exact P'.elim
            | ok y st3 =>
              rw [e2] at P'
              simp only [R.bind_ok] at P'
              intro v m4 H4 l4 S4 ry
              have L4 : Le m' H' m4 H4 := L3.trans l4
              obtain ⟨d1, d2, d3⟩ := stayD L4
              have LB : Le m1 H1 m4 H4 := L.trans L4
              have hlen := Ra.length
              have sz := line_eq
              refine ⟨ws, d3, by omega, rfl, hlt, st3, m4, acc ++ [y], ws ++ [v], ?_, d1, d2, upd_same, ?_, ?_, by rw [List.length_append, List.length_singleton]; omega, ?_⟩
              · exact ⟨LB.sub, LB.new, LB.grow, LB.fresh, fun a o e n t => by rw [upd_ne (ne_of_none e hD)]; exact LB.keep a o e n t, fun a e => by
                  by_cases q : a = D
                  · subst q; exact (e.no upd_same nofun).elim
                  · unfold Off at e; rw [upd_ne q] at e; exact LB.live a e⟩
              · have st5 : Stays m4 H4 m4 (upd H4 D (.lst (ws ++ [v]))) := ⟨fun _ _ h => h, fun a o e n _ => ⟨by rw [upd_ne (fun q => n (by rw [q]; exact d1))]; exact e, n⟩⟩
                refine ⟨S4.dom, S4.lt, S4.inj, S4.own, fun a e => ?_, fun n c a e1 e2 => ?_, tabs_upd S4.tabs d3⟩
                · by_cases q : a = D
                  · exact ⟨.lst (ws ++ [v]), by rw [q]; exact upd_same, nofun⟩
                  · obtain ⟨o, e1, nt⟩ := S4.live a e
                    exact ⟨o, by rw [upd_ne q]; exact e1, nt⟩
                · exact (S4.cell n c a e1 e2).stay st5 (upd_ne fun q => d2 n (q ▸ e2))
              · have st5 : Stays m4 H4 m4 (upd H4 D (.lst (ws ++ [v]))) := ⟨fun _ _ h => h, fun a o e n _ => ⟨by rw [upd_ne (fun q => n (by rw [q]; exact d1))]; exact e, n⟩⟩
                exact ((Ra.mono S' L4).append (.cons ry .nil)).stay st5
              · cases e3 : lcU ct c f (us.drop (i + 1)) (wipeU ρ vs) st3 with
                | ok ys st4 =>
                  rw [e3] at P'
                  simpa using P'
                | exc _ _ => rw [e3] at P'; exact P'.elim
                | stuck => rw [e3] at P'; exact P'.elim
    · have e : i = us.length := by omega
      subst e
      rw [List.drop_length] at P'
      simp only [lcU, R.noexc_ok, R.bind_ok, List.append_nil] at P'
      refine .inl ⟨Wk.stop m' H' L, P' (.ref D) ⟨m'.at_, fun a => m'.own a ∧ a ≠ D⟩ H' ?_ ?_ ?_⟩
      · exact ⟨L.sub, L.new, fun a h => ⟨L.grow a h, fun q => hDo (q ▸ h)⟩, fun a h => L.fresh a h.1, L.keep, L.live⟩
      · have st5 : Stays m' H' ⟨m'.at_, fun a => m'.own a ∧ a ≠ D⟩ H' := ⟨fun _ _ h => h, fun a o e n _ => ⟨e, fun z => n z.1⟩⟩
        exact ⟨S'.dom, S'.lt, S'.inj, fun n a e => ⟨S'.own n a e, fun q => hA n (q ▸ e)⟩, fun a e => S'.live a e.1, fun n c a e1 e2 => (S'.cell n c a e1 e2).stay st5 rfl, S'.tabs⟩
      · have st5 : Stays m' H' ⟨m'.at_, fun a => m'.own a ∧ a ≠ D⟩ H' := ⟨fun _ _ h => h, fun a o e n _ => ⟨e, fun z => n z.1⟩⟩
        exact .lst hW (fun z => z.2 rfl) (Ra.stay st5)

section
variable {X : Cx} {elt tg iter cnd : Expr} {scope : Scope} {own : List (Str × Nat)} {pos : Pos} {fi : UEnv → Store → R (List U)} {ct : Ct} {c : UEnv → Store → R Bool} {f : UEnv → Store → R U} {g : TG}
theorem xg_blk {s : Shared} {H : Hp} {scope : Scope} {cenv : Env} {fp : List Addr} : XG (X.blk s H scope cenv fp) (fun _ _ _ _ => False) := ⟨takes0, PassesOwn.never⟩
theorem lc_use {G : GC} {W : WX} {σ : L2.St} {H : Hp} {Q : VK} {vs : List Nat} {tt : TT} {te : TE} (hct : CtOk G g ct vs) (htt : ∀ σ H Q, tZT G (fun _ _ _ _ => False) c σ H Q → tt σ H Q) (hte : ∀ σ H Q, tZ G (fun _ _ _ _ => False) f σ H Q → te σ H Q)
    (h : tZ G W (dComp vs fi ct c f) σ H Q) : tLc (tZI G W fi) g tt te vs σ H Q := by
  obtain ⟨ρ, st, m, S, E, P⟩ := h
  refine ⟨ρ, st, m, S, E, Post.bind (γ := U) (k := fun us st1 => if us.length ≤ 16777216 then ((lcU ct c f us (wipeU ρ vs) st1).noexc).bind fun ys st2 => .ok (U.lst ys) st2 else .stuck) P fun us st1 J m1 H1 _ l S1 Wk p => ?_⟩
  intro D hD
  split at p
  · rename_i hl
    exact lc_post hct htt hte Wk S1 (E.mono S l) hl p D hD
  · exact p.elim
theorem ze_lc [TB] (hc : X.calm = true) (hN : X.N.Nodup) (hi : ZI X tg iter fi) (hct : CtOk (gc X) g ct (own.map (·.2)))
    (hg : ∀ (s : Shared) (H : Hp) (C : Addr) (cl : List (Str × Addr)) (fp : List Addr), PG (X.blk s H scope (compEnvC scope cl C X.env) fp) tg g)
    (he : ∀ (s : Shared) (H : Hp) (C : Addr) (cl : List (Str × Addr)) (fp : List Addr), ZE (X.blk s H scope (compEnvC scope cl C X.env) fp) elt f)
    (ok : blkC X.N X.env.scope scope own = true := by decide +kernel) (hs : ∀ x, foldedSetIterable iter X.env x = pure x := by intro _; rfl) : ZE X (.ListComp elt [⟨tg, iter, [], 0⟩] scope pos) (dComp (own.map (·.2)) fi ct cYes f) := fun W xg =>
  PE.imp (pe_lc hc hN (hi W xg) (blkOk_by ok) hg (fun _ _ _ _ _ => pts_nil) (fun s H C cl fp => he s H C cl fp _ xg_blk) hs) fun σ H Q h =>
    lc_use hct (fun σ H Q ⟨ρ, st, m, S, E, P⟩ => post_ok P S rfl) (fun _ _ _ h => h) h
theorem ze_lcIf [TB] (hc : X.calm = true) (hN : X.N.Nodup) (hi : ZI X tg iter fi) (hct : CtOk (gc X) g ct (own.map (·.2)))
    (hg : ∀ (s : Shared) (H : Hp) (C : Addr) (cl : List (Str × Addr)) (fp : List Addr), PG (X.blk s H scope (compEnvC scope cl C X.env) fp) tg g)
    (ht : ∀ (s : Shared) (H : Hp) (C : Addr) (cl : List (Str × Addr)) (fp : List Addr), ZT (X.blk s H scope (compEnvC scope cl C X.env) fp) cnd c)
    (he : ∀ (s : Shared) (H : Hp) (C : Addr) (cl : List (Str × Addr)) (fp : List Addr), ZE (X.blk s H scope (compEnvC scope cl C X.env) fp) elt f)
    (ok : blkC X.N X.env.scope scope own = true := by decide +kernel) (hs : ∀ x, foldedSetIterable iter X.env x = pure x := by intro _; rfl) : ZE X (.ListComp elt [⟨tg, iter, [cnd], 0⟩] scope pos) (dComp (own.map (·.2)) fi ct c f) := fun W xg =>
  PE.imp (pe_lc hc hN (hi W xg) (blkOk_by ok) hg (fun s H C cl fp => pts_one (ht s H C cl fp _ xg_blk)) (fun s H C cl fp => he s H C cl fp _ xg_blk) hs) fun σ H Q h =>
    lc_use hct (fun _ _ _ h => h) (fun _ _ _ h => h) h
/-- name = [..] -/
theorem zs_setLc [TB] {i : Nat} {y : Str} {py : Pos} {spos : Pos} (hc : X.calm = true) (hN : X.N.Nodup) (hi : ZI X tg iter fi) (hct : CtOk (gc X) g ct (own.map (·.2)))
    (hg : ∀ (s : Shared) (H : Hp) (C : Addr) (cl : List (Str × Addr)) (fp : List Addr), PG (X.blk s H scope (compEnvC scope cl C X.env) fp) tg g)
    (he : ∀ (s : Shared) (H : Hp) (C : Addr) (cl : List (Str × Addr)) (fp : List Addr), ZE (X.blk s H scope (compEnvC scope cl C X.env) fp) elt f)
    (hsw : swapsWith (.ListComp elt [⟨tg, iter, [], 0⟩] scope pos) (some (.Name y py)) spos.line X.env = pure true) (hy : X.N[i]? = some y := by rfl) (hyl : X.env.scope.names.lookup y = some .local := by rfl)
    (ok : blkC X.N X.env.scope scope own = true := by decide +kernel) (hs : ∀ x, foldedSetIterable iter X.env x = pure x := by intro _; rfl) : ZS X (.Assign [.Name y py] (.ListComp elt [⟨tg, iter, [], 0⟩] scope pos) spos) (sSet i (dComp (own.map (·.2)) fi ct cYes f)) := fun W xg =>
  PS.imp (ps_setLc hc hN hy hyl hsw (hi W xg) (blkOk_by ok) hg (fun _ _ _ _ _ => pts_nil) (fun s H C cl fp => he s H C cl fp _ xg_blk) hs) fun D σ H ⟨ρ, st, m, S, E, P⟩ =>
    lc_use hct (fun σ H Q ⟨ρ, st, m, S, E, P⟩ => post_ok P S rfl) (fun _ _ _ h => h) ⟨ρ, st, m, S, E, PostS.bind (k := fun u st1 => .ok (.nx (ρ.set i (some u))) st1) P fun u st1 v m1 H1 _ l S1 r p => p _ m1 H1 Le.refl S1 ((E.mono S l).set i r)⟩
theorem zs_setLcIf [TB] {i : Nat} {y : Str} {py : Pos} {spos : Pos} (hc : X.calm = true) (hN : X.N.Nodup) (hi : ZI X tg iter fi) (hct : CtOk (gc X) g ct (own.map (·.2)))
    (hg : ∀ (s : Shared) (H : Hp) (C : Addr) (cl : List (Str × Addr)) (fp : List Addr), PG (X.blk s H scope (compEnvC scope cl C X.env) fp) tg g)
    (ht : ∀ (s : Shared) (H : Hp) (C : Addr) (cl : List (Str × Addr)) (fp : List Addr), ZT (X.blk s H scope (compEnvC scope cl C X.env) fp) cnd c)
    (he : ∀ (s : Shared) (H : Hp) (C : Addr) (cl : List (Str × Addr)) (fp : List Addr), ZE (X.blk s H scope (compEnvC scope cl C X.env) fp) elt f)
    (hsw : swapsWith (.ListComp elt [⟨tg, iter, [cnd], 0⟩] scope pos) (some (.Name y py)) spos.line X.env = pure true) (hy : X.N[i]? = some y := by rfl) (hyl : X.env.scope.names.lookup y = some .local := by rfl)
    (ok : blkC X.N X.env.scope scope own = true := by decide +kernel) (hs : ∀ x, foldedSetIterable iter X.env x = pure x := by intro _; rfl) : ZS X (.Assign [.Name y py] (.ListComp elt [⟨tg, iter, [cnd], 0⟩] scope pos) spos) (sSet i (dComp (own.map (·.2)) fi ct c f)) := fun W xg =>
  PS.imp (ps_setLc hc hN hy hyl hsw (hi W xg) (blkOk_by ok) hg (fun s H C cl fp => pts_one (ht s H C cl fp _ xg_blk)) (fun s H C cl fp => he s H C cl fp _ xg_blk) hs) fun D σ H ⟨ρ, st, m, S, E, P⟩ =>
    lc_use hct (fun _ _ _ h => h) (fun _ _ _ h => h) ⟨ρ, st, m, S, E, PostS.bind (k := fun u st1 => .ok (.nx (ρ.set i (some u))) st1) P fun u st1 v m1 H1 _ l S1 r p => p _ m1 H1 Le.refl S1 ((E.mono S l).set i r)⟩
end
end Z

namespace Z
open PySem PySem.Spec PyProof.Rows L2

/-! ### in -/
def inU (st : Store) (a c : U) : Option Bool := match deref st c with
  | .str z => match a with
    | .str x => match x.cps.toList with
      | [k] => some (decide (k ∈ z.cps.toList))
      | _ => none
    | _ => none
  | .tup xs => if (pl 64 (deref st a) && pls 64 xs) = true then some (xs.any fun y => eqD y (deref st a)) else none
  | .lst xs => if (pl 64 (deref st a) && pls 64 xs) = true then some (xs.any fun y => eqD y (deref st a)) else none
  | .dct ks _ => if isKey a = true then some (dHasU ks a) else none
  | .kdc xs us => match a with
    | .str z => some (sGetU xs us z).isSome
    | _ => none
  | _ => none
def oIn : Op2 := fun st a b => (inU st a b).map .bl
def oNotIn : Op2 := fun st a b => (inU st a b).map fun k => .bl (!k)
section
variable {X : Cx}
theorem deref_kdc {st : Store} {u : U} {xs : List Str} {us : List U} (h : deref st u = .kdc xs us) : u = .kdc xs us := by
  cases u with
  | hdl n => unfold deref at h; simp only at h; split at h <;> cases h
  | _ => exact h
theorem in_room {d : PyData} {ds : List PyData} {A : Around} (h : d.depth ≤ 64) (hu : A.units + 65 < cLine) : A.units + 1 + min (PyData.depthAll ds) d.depth < cLine := by
  have : min (PyData.depthAll ds) d.depth ≤ 64 := Nat.le_trans (Nat.min_le_right _ _) h
  omega
theorem one_sign {x : Str} {k : Nat} (h : x.cps.toList = [k]) : x = ⟨#[k]⟩ := by
  obtain ⟨a⟩ := x
  have h : a.toList = [k] := h
  have : a = #[k] := by
    apply Array.ext'
    simpa using h
  rw [this]
theorem any_eqD {d d' : Nat} {a : U} {D : PyData} (ha : pl d a = true) (e1 : dat a = some D) : ∀ (xs : List U) {Ds : List PyData}, pls d' xs = true → dats xs = some Ds → (Ds.any fun y => PyData.eqv y D) = xs.any fun y => eqD y a
  | [], Ds, _, e => by simp [dats] at e; subst e; rfl
  | x :: xs, Ds, h, e => by
    simp only [dats, Option.bind_eq_some_iff, Option.map_eq_some_iff] at e
    obtain ⟨E, e2, Es, e3, rfl⟩ := e
    simp only [pls, Bool.and_eq_true] at h
    simp only [List.any_cons]
    rw [eqv_eqD x a h.1 ha e2 e1, any_eqD ha e1 xs h.2 e3]
theorem in_core [TB] {neg : Bool} (hu : X.A.units + 65 < cLine) (pins : List (Addr × Obj)) (s : Shared) (σ : L2.St) (H : Hp) (x y : V) (v u : Value) (Q : VK) (I : Inv X pins σ H s) (rx : RelV x v) (ry : RelV y u) {m : MH} {st : Store} {a b : U} (S : Sim (gc X) m H st) (ra : Rep (gc X) m H a x) (rb : Rep (gc X) m H b y) {k : Bool} (e : inU st a b = some k)
    (q : Q (.bl (if neg then !k else k)) H) : wpAny (model X.prog X.w) X.A (compareOp (if neg then .NotIn else .In) v u) (EP X pins σ Q) X.xe s := by
  unfold inU at e
  split at e
  · rename_i z e1
    rw [deref_str e1] at rb
    split at e
    · rename_i w
      split at e
      · rename_i c e2
        have hx := one_sign e2
        subst hx
        have e3 : decide (c ∈ z.cps.toList) = k := Option.some.inj e
        rw [← e3] at q
        cases neg with
        | false => exact op_in_sign pins s σ H x y v u Q I rx ry ⟨c, z, (rep_str ra).1, (rep_str rb).1, q⟩
        | true => exact op_notIn_sign pins s σ H x y v u Q I rx ry ⟨c, z, (rep_str ra).1, (rep_str rb).1, q⟩
      · cases e
    · cases e
  · rename_i xs e1
    rw [deref_tup e1] at rb
    split at e
    · rename_i hp
      rw [Bool.and_eq_true] at hp
      obtain ⟨d, e2, hd⟩ := pl_dat _ hp.1
      obtain ⟨ds, e3, hds⟩ := pls_dat _ hp.2
      · have e4 : (ds.any fun y => PyData.eqv y d) = k := (any_eqD hp.1 e2 xs hp.2 e3).trans (Option.some.inj e)
        rw [← e4] at q
        obtain ⟨h1, h2⟩ := rep_dpD S ra e2
        obtain ⟨p, vs, rfl, h3, r3⟩ := rep_tup (K := X.K) rb rfl
        obtain ⟨h4, h5⟩ := rep_dps r3 e3
        obtain ⟨as, q1⟩ := Dp.reads I d x v h1 rx
        obtain ⟨bs, q2⟩ := Dp.reads I (.tuple ds) _ u (.tup h3 h4) ry
        cases neg with
        | false => exact SeqAt.in_tuple_reads q2 q1 h5 h2 (in_room hd hu) ⟨.bl _, H, I, rfl, q⟩
        | true => exact SeqAt.notIn_tuple_reads q2 q1 h5 h2 (in_room hd hu) ⟨.bl _, H, I, rfl, q⟩
    · cases e
  · rename_i xs e1
    split at e
    · rename_i hp
      rw [Bool.and_eq_true] at hp
      obtain ⟨d, e2, hd⟩ := pl_dat _ hp.1
      obtain ⟨ds, e3, hds⟩ := pls_dat _ hp.2
      · have e4 : (ds.any fun y => PyData.eqv y d) = k := (any_eqD hp.1 e2 xs hp.2 e3).trans (Option.some.inj e)
        rw [← e4] at q
        obtain ⟨h1, h2⟩ := rep_dpD S ra e2
        obtain ⟨p, vs, rfl, h3, r3⟩ := rep_seqL (K := X.K) S rb (.inl e1) rfl
        obtain ⟨h4, h5⟩ := rep_dps r3 e3
        obtain ⟨as, q1⟩ := Dp.reads I d x v h1 rx
        obtain ⟨bs, q2⟩ := Dp.reads I (.list ds) _ u (.lst h3 h4) ry
        cases neg with
        | false => exact SeqAt.in_list_reads q2 q1 h5 h2 (in_room hd hu) ⟨.bl _, H, I, rfl, q⟩
        | true => exact SeqAt.notIn_list_reads q2 q1 h5 h2 (in_room hd hu) ⟨.bl _, H, I, rfl, q⟩
    · cases e
  · rename_i ks us e1
    split at e
    · rename_i hk
      obtain ⟨p, kvs, rfl, h1, h2, h3⟩ := rep_dct S rb e1
      obtain ⟨key, ek⟩ := key_of ra hk
      subst ek
      have e3 : (valV kvs key).isSome = k := by rw [← has_val, ← has_rel ra h2]; exact Option.some.inj e
      rw [← e3] at q
      cases ry
      cases neg with
      | false => exact d_in (by omega) I (DGet.k h1) rx fun s' I' => ⟨.bl _, H, I', rfl, q⟩
      | true => exact d_notIn (by omega) I (DGet.k h1) rx fun s' I' => ⟨.bl _, H, I', rfl, q⟩
    · cases e
  · rename_i xs us e1
    split at e
    · rename_i z
      have e3 : (sGetU xs us z).isSome = k := Option.some.inj e
      rw [deref_kdc e1] at rb
      cases rb with
      | @kdc p _ _ vs hd hr =>
        obtain ⟨es, n, D, hz⟩ := hd
        obtain ⟨r, hr1, hr2⟩ := hz z
        have e4 : r.isSome = k := by
          rcases sget_rel (z := z) hr with ⟨u1, v1, a1, a2, _⟩ | ⟨a1, a2⟩
          · rw [a2] at hr2
            rw [← e3, a1]
            cases r with
            | none => exact hr2.elim
            | some _ => rfl
          · rw [a2] at hr2
            rw [← e3, a1]
            cases r with
            | none => rfl
            | some _ => exact hr2.elim
        rw [← e4] at q
        cases neg with
        | false => exact op_in_kd D pins s σ H x _ v u Q I rx ry ⟨z, r, (rep_str ra).1, rfl, hr1, q⟩
        | true => exact op_notIn_kd D pins s σ H x _ v u Q I rx ry ⟨z, r, (rep_str ra).1, rfl, hr1, q⟩
    · cases e
  · cases e
theorem z_in [TB] (hu : X.A.units + 65 < cLine) : OpZ X (compareOp .In) oIn := by
  intro pins s σ H x y v u Q I rx ry ⟨m, st, a, b, S, ra, rb, P⟩
  unfold oIn at P
  cases e : inU st a b with
  | none => rw [e] at P; exact P.elim
  | some k => rw [e] at P; exact in_core (neg := false) hu pins s σ H x y v u Q I rx ry S ra rb e (P.here S (.bl _))
theorem z_notin [TB] (hu : X.A.units + 65 < cLine) : OpZ X (compareOp .NotIn) oNotIn := by
  intro pins s σ H x y v u Q I rx ry ⟨m, st, a, b, S, ra, rb, P⟩
  unfold oNotIn at P
  cases e : inU st a b with
  | none => rw [e] at P; exact P.elim
  | some k => rw [e] at P; exact in_core (neg := true) hu pins s σ H x y v u Q I rx ry S ra rb e (P.here S (.bl _))
end

/-! ### types -/
def tyU (st : Store) (u : U) : Option String := match deref st u with
  | .non => some "NoneType"
  | .bl _ => some "bool"
  | .int _ => some "int"
  | .str _ => some "str"
  | .tup _ => some "tuple"
  | .lst _ => some "list"
  | .frz _ => some "list"
  | _ => none
theorem rep_ty {G : GC} {m : MH} {H : Hp} {st : Store} {u : U} {v : V} {t : String} {K : PySem.W.Frag} (S : Sim G m H st) (r : Rep G m H u v) (h : tyU st u = some t) (hK : G.K = K) : TyX K H v (.type t) := by
  subst hK
  unfold tyU at h
  split at h
  · rename_i e; rw [deref_non e] at r; cases r; cases h; exact .base .non
  · rename_i e; rw [deref_bl e] at r; cases r; cases h; exact .base (.bl _)
  · rename_i e; rw [deref_int e] at r; cases r; cases h; exact .base (.int _)
  · rename_i e; rw [deref_str e] at r; cases r; cases h; exact .base (.str _)
  · rename_i e
    rw [deref_tup e] at r
    cases h
    cases r with
    | tup h n r => exact .base (.tup h)
    | tupK h r => obtain ⟨⟨o, its, n, h1, h2, _⟩, _⟩ := h; exact .kTuple h1 h2
  · rename_i e
    cases h
    obtain ⟨a, vs, rfl, h1, r1⟩ := rep_lst S r e
    exact .base (.lst h1)
  · rename_i e
    rw [deref_frz e] at r
    cases h
    cases r with
    | frz h n r => exact .base (.frz h)
    | frzK h r => obtain ⟨o, its, n, h1, h2, _⟩ := h; exact .kList h1 h2
  · cases h
def isiU (t T : String) : Bool := t == T || (t == "bool" && T == "int")
@[simp] def dIsi (T : String) (fa : UEnv → Store → R U) : UEnv → Store → R U := fun ρ st => (fa ρ st).bind fun u st1 => match tyU st1 u with
  | some t => .ok (.bl (isiU t T)) st1
  | none => .stuck
def tyNames : List String := ["NoneType", "bool", "int", "str", "tuple", "list"]
theorem tyU_mem {st : Store} {u : U} {t : String} (h : tyU st u = some t) : t ∈ tyNames := by
  unfold tyU at h
  split at h <;> first | (cases h; decide) | cases h
def IsiOk (T : String) : Prop := ∀ t ∈ tyNames, kitB t T = some (isiU t T)
theorem isi_int : IsiOk "int" := by unfold IsiOk tyNames; decide +kernel
theorem isi_bool : IsiOk "bool" := by unfold IsiOk tyNames; decide +kernel
theorem isi_str : IsiOk "str" := by unfold IsiOk tyNames; decide +kernel
theorem isi_tuple : IsiOk "tuple" := by unfold IsiOk tyNames; decide +kernel
theorem isi_list : IsiOk "list" := by unfold IsiOk tyNames; decide +kernel
section
variable {X : Cx} {a b c e : Expr} {es : List Expr} {pos p q : Pos} {fa fb fc : UEnv → Store → R U} {f : UEnv → Store → R (List U)}
theorem ze_isi [TB] {T : String} {Ts : Str} (hok : IsiOk T) (hm : X.mg "isinstance" = none) (hT : X.mg Ts = none) (ha : ZE X a fa) (hv : bootBuiltins Ts = some (.type T) := by decide +kernel) (hn : Ts ≠ "__name__" := by decide +kernel) (hd : (Ts == ("__debug__" : Str)) = false := by decide +kernel) (hg : Gl X "isinstance" := by rfl) (hgT : Gl X Ts := by rfl)
    (h1 : starEach [a, .Name Ts q] X.env = (false, eval a X.env) :: starEach [.Name Ts q] X.env := by rfl) (h2 : starEach [.Name Ts q] X.env = (false, eval (.Name Ts q) X.env) :: starEach [] X.env := by rfl) (h3 : (backTo pos (starEach [.Name Ts q] X.env)).any (·.1) = false := by rfl) :
    ZE X (.Call (.Name "isinstance" p) [a, .Name Ts q] [] pos) (dIsi T fa) := fun W xg =>
  PE.imp (pe_callB call_isi hg hm boot_isinstance (pa_cons (ha W xg) (pa_cons (pe_bltn (v := .ty T) hgT hT hv rfl hn hd) pa_nil h2) h1) (by decide) (by decide) h1 h3) fun σ H Q ⟨ρ, st, m, S, E, P⟩ =>
    tz_seq (X := X) (k := fun _ u st1 => match tyU st1 u with
      | some t => .ok (U.bl (isiU t T)) st1
      | none => .stuck) S E P fun u st1 v m1 H1 S1 E1 r1 l1 P1 => by
      cases e : tyU st1 u with
      | none => simp only [e] at P1; exact P1.elim
      | some t =>
        simp only [e] at P1
        exact ⟨v, .ty T, .type t, .type T, isiU t T, rfl, .ty T, rep_ty S1 r1 e rfl, kit_ty (hok t (tyU_mem e)), post_ok P1 S1 (.bl _)⟩

/-! ### subscripts -/
def ixU (st : Store) (u i : U) : Option U := match deref st u with
  | .tup xs => match i with
    | .int k => atI xs k
    | _ => none
  | .lst xs => match i with
    | .int k => atI xs k
    | _ => none
  | .frz xs => match i with
    | .int k => atI xs k
    | _ => none
  | .str z => match i with
    | .int k => (atI z.cps.toList k).map fun c => .str ⟨#[c]⟩
    | _ => none
  | .dct ks us => if isKey i = true then dGetU ks us i else none
  | .kdc xs us => match i with
    | .str z => sGetU xs us z
    | _ => none
  | _ => none
theorem reps_at {G : GC} {m : MH} {H : Hp} {us : List U} {vs : List V} {k : Int} {u : U} (r : Reps G m H us vs) (e : atI us k = some u) : ∃ v, atI vs k = some v ∧ Rep G m H u v := by
  unfold atI at e ⊢
  rw [← r.length]
  cases h : ixN us.length k with
  | none => rw [h] at e; cases e
  | some j => rw [h] at e; exact r.getU e
theorem ix_dct {X : Cx} (hu : X.A.units + 1 < cLine) : IxR X (fun x y H Q => ∃ a v, x = .ref a ∧ DGet H a y (some v) ∧ Q v H) := by
  intro value slice pins s σ H x y v u Q I rx ry h hs
  obtain ⟨a, w, rfl, g, q⟩ := h
  cases rx
  exact tail_any (dict_typeIs I g) slot_dict_getitem.lookup (d_getItem hu I g ry fun w' s' I' rw' => ⟨_, H, I', rw', q⟩) hs
theorem ix_all [TB] (hu : X.A.units + 65 < cLine) : IxR X (rZ (gc X) ixU) := by
  intro value slice pins s σ H x y v u Q I rx ry ⟨m, st, a, b, S, ra, rb, P⟩ hs
  unfold ixU at P
  split at P
  · rename_i xs e
    rw [deref_tup e] at ra
    obtain ⟨p, vs, rfl, h1, r1⟩ := rep_tup (K := X.K) ra rfl
    split at P
    · rename_i k
      cases e1 : atI xs k with
      | none => rw [e1] at P; exact P.elim
      | some w =>
        rw [e1] at P
        obtain ⟨z, e2, r2⟩ := reps_at r1 e1
        exact ix_tup value slice pins s σ H _ y v u Q I rx ry ⟨p, vs, k, z, rfl, rep_int rb, h1, e2, P.here S r2⟩ hs
    · exact P.elim
  · rename_i xs e
    obtain ⟨p, vs, rfl, h1, r1⟩ := rep_seqL (K := X.K) S ra (.inl e) rfl
    split at P
    · rename_i k
      cases e1 : atI xs k with
      | none => rw [e1] at P; exact P.elim
      | some w =>
        rw [e1] at P
        obtain ⟨z, e2, r2⟩ := reps_at r1 e1
        exact ix_list value slice pins s σ H _ y v u Q I rx ry ⟨p, vs, k, z, rfl, rep_int rb, h1, e2, P.here S r2⟩ hs
    · exact P.elim
  · rename_i xs e
    obtain ⟨p, vs, rfl, h1, r1⟩ := rep_seqL (K := X.K) S ra (.inr (deref_frz e)) rfl
    split at P
    · rename_i k
      cases e1 : atI xs k with
      | none => rw [e1] at P; exact P.elim
      | some w =>
        rw [e1] at P
        obtain ⟨z, e2, r2⟩ := reps_at r1 e1
        exact ix_list value slice pins s σ H _ y v u Q I rx ry ⟨p, vs, k, z, rfl, rep_int rb, h1, e2, P.here S r2⟩ hs
    · exact P.elim
  · rename_i z e
    rw [deref_str e] at ra
    obtain ⟨rfl, hk, hl⟩ := rep_str ra
    split at P
    · rename_i k
      cases e1 : atI z.cps.toList k with
      | none => rw [e1] at P; exact P.elim
      | some c =>
        rw [e1] at P
        refine ix_str value slice pins s σ H _ y v u Q I rx ry ⟨z, k, c, rfl, rep_int rb, by rw [line_eq]; exact hl, e1, P.here S (.str _ ?_ (by show 1 ≤ 16777216; decide))⟩ hs
        unfold atI at e1
        cases h : ixN z.cps.toList.length k with
        | none => rw [h] at e1; cases e1
        | some j =>
          rw [h] at e1
          exact sign_ok hk (by simpa using e1)
    · exact P.elim
  · rename_i ks us e
    obtain ⟨p, kvs, rfl, h1, h2, h3⟩ := rep_dct S ra e
    split at P
    · rename_i hk
      obtain ⟨key, ek⟩ := key_of rb hk
      subst ek
      rcases get_rel rb h2 h3 with ⟨u1, v1, a1, a2, r1⟩ | ⟨a1, a2⟩
      · rw [a1] at P
        exact ix_dct (by omega) value slice pins s σ H _ _ v u Q I rx ry ⟨p, v1, rfl, by rw [← a2]; exact DGet.k h1, P.here S r1⟩ hs
      · rw [a1] at P; exact P.elim
    · exact P.elim
  · rename_i xs us e
    rw [deref_kdc e] at ra
    split at P
    · rename_i z
      cases ra with
      | @kdc p _ _ vs hd hr =>
        obtain ⟨es, n, D, hz⟩ := hd
        obtain ⟨r, hr1, hr2⟩ := hz z
        rcases sget_rel (z := z) hr with ⟨u1, v1, a1, a2, r1⟩ | ⟨a1, a2⟩
        · rw [a1] at P
          rw [a2] at hr2
          cases r with
          | none => exact hr2.elim
          | some u0 => exact ix_kdict value slice pins s σ H _ y v u Q I rx ry ⟨p, z, v1, rfl, (rep_str rb).1, ⟨es, n, u0, D.at_, D.lit, hr1, hr2⟩, P.here S r1⟩ hs
        · rw [a1] at P; exact P.elim
    · exact P.elim
  · exact P.elim
theorem ze_ix [TB] (hu : X.A.units + 65 < cLine) (ha : ZE X a fa) (hb : ZE X b fb) (hs : PlainIx b := by exact fun _ _ => rfl) : ZE X (.Subscript a b pos) (dBin ixU fa fb) := fun W xg =>
  PE.imp (pe_ix (ix_all hu) (ha W xg) (hb W xg) hs) fun σ H Q ⟨ρ, st, m, S, E, P⟩ =>
    tz_seq (X := X) (k := fun ρ a st1 => (fb ρ st1).bind fun b st2 => R.ofO st2 (ixU st2 a b)) S E P fun u st1 v m1 H1 S1 E1 r1 l1 P1 => tz_seq (X := X) (k := fun ρ b st2 => R.ofO st2 (ixU st2 u b)) S1 E1 P1 fun u2 st2 v2 m2 H2 S2 E2 r2 l2 P2 => ⟨m2, st2, u, u2, S2, r1.mono S1 l2, r2, .of P2⟩

/-! ### slices -/
def cutU {α : Type} (xs : List α) (lo hi : Option Int) : List α := (xs.drop (HT.sIx xs.length 0 lo)).take (HT.sIx xs.length xs.length hi - HT.sIx xs.length 0 lo)
def slU (st : Store) (u : U) (lo hi : Option Int) : Option U := match deref st u with
  | .tup xs => some (.tup (cutU xs lo hi))
  | .lst xs => some (.lst (cutU xs lo hi))
  | .frz xs => some (.lst (cutU xs lo hi))
  | .str z => some (.str (cutS z lo hi))
  | _ => none
abbrev OptZ := UEnv → Store → R (Option Int)
@[simp] def pNone : OptZ := fun _ st => .ok none st
@[simp] def pSome (f : UEnv → Store → R U) : OptZ := fun ρ st => (f ρ st).bind fun u st1 => match u with
  | .int i => .ok (some i) st1
  | _ => .stuck
@[simp] def dSlice (fa : UEnv → Store → R U) (fl fh : OptZ) : UEnv → Store → R U := fun ρ st => (fa ρ st).bind fun u st1 => (fl ρ st1).bind fun l st2 => (fh ρ st2).bind fun h st3 => R.ofO st3 (slU st3 u l h)
abbrev relO : MH → Hp → Option Int → Option Int → Prop := fun _ _ a b => a = b
def tZO (G : GC) (W : WX) (f : OptZ) : TO := fun σ H Q => ∃ ρ st m, Sim G m H st ∧ REnv G m H ρ σ ∧ Post G m H relO (WE2 W σ) Q (f ρ st)
def ZO [TB] (X : Cx) (e : Option Expr) (f : OptZ) : Prop := ∀ W, XG X W → PO X e (tZO (gc X) W f)
theorem PO.imp {e : Option Expr} {t t' : TO} (h : PO X e t) (hi : ∀ σ H Q, t' σ H Q → t σ H Q) : PO X e t' := ⟨fun pins s σ H Q I hw => h.run pins s σ H Q I (hi σ H Q hw)⟩
theorem zo_none [TB] : ZO X none pNone := fun W xg => PO.imp po_none fun σ H Q ⟨ρ, st, m, S, E, P⟩ => post_ok P S rfl
theorem zo_some [TB] (ha : ZE X a fa) : ZO X (some a) (pSome fa) := fun W xg => PO.imp (po_some (ha W xg)) fun σ H Q ⟨ρ, st, m, S, E, P⟩ => tz_seq (X := X) (k := fun _ u st1 => match u with
  | .int i => .ok (some i) st1
  | _ => .stuck) S E P fun u st1 v m1 H1 S1 E1 r1 l1 P1 => by
    cases u with
    | int i => exact ⟨i, rep_int r1, post_ok P1 S1 rfl⟩
    | _ => exact P1.elim
theorem strOk_cut {z : Str} (h : PyData.strOk z = true) (lo hi : Option Int) : PyData.strOk (cutS z lo hi) = true := by
  have key : ∀ c ∈ (cutS z lo hi).cps.toList, c ∈ z.cps.toList := by
    intro c hc
    unfold cutS at hc
    exact List.mem_of_mem_drop (List.mem_of_mem_take (by simpa using hc))
  unfold PyData.strOk at *
  rw [Array.all_eq_true'] at *
  intro c hc
  exact h c (by have := key c (by simpa using hc); simpa using this)
theorem len_cut {z : Str} (lo hi : Option Int) : (cutS z lo hi).length ≤ z.length := by
  unfold cutS Str.length
  simp only [List.size_toArray, List.length_take, List.length_drop, Array.length_toList]
  omega
theorem cutU_whole {α : Type} {xs : List α} {lo hi : Option Int} (h : HT.sIx xs.length 0 lo = 0 ∧ HT.sIx xs.length xs.length hi = xs.length) : cutU xs lo hi = xs := by
  unfold cutU
  rw [h.1, h.2]
  simp
theorem reps_cut {G : GC} {m : MH} {H : Hp} {us : List U} {vs : List V} (r : Reps G m H us vs) (lo hi : Option Int) : Reps G m H (cutU us lo hi) (cutV vs lo hi) := by
  unfold cutU cutV
  rw [r.length]
  exact (r.drop _).take _
theorem sl_all [TB] : SlR X (fun x lo hi H Q => ∃ m st a, Sim (gc X) m H st ∧ Rep (gc X) m H a x ∧ PostO (gc X) m H st Q (slU st a lo hi)) := by
  intro pins s σ H x v vl vu lo hi sl Q I rx hs pl pu ⟨m, st, a, S, ra, P⟩
  unfold slU at P
  split at P
  · rename_i xs e
    rw [deref_tup e] at ra
    have ra' := ra
    obtain ⟨p, vs, rfl, h1, r1⟩ := rep_tup (K := X.K) ra rfl
    refine sl_tupA pins s σ H _ v vl vu lo hi sl Q I rx hs pl pu ⟨p, vs, rfl, h1, fun w => ?_, fun _ => P.tup S (reps_cut r1 lo hi)⟩
    rw [cutU_whole (by rw [r1.length]; exact w)] at P
    exact P.here S ra'
  · rename_i xs e
    obtain ⟨p, vs, rfl, h1, r1⟩ := rep_seqL (K := X.K) S ra (.inl e) rfl
    exact sl_list pins s σ H _ v vl vu lo hi sl Q I rx hs pl pu ⟨p, vs, rfl, h1, P.lst S (reps_cut r1 lo hi)⟩
  · rename_i xs e
    obtain ⟨p, vs, rfl, h1, r1⟩ := rep_seqL (K := X.K) S ra (.inr (deref_frz e)) rfl
    exact sl_list pins s σ H _ v vl vu lo hi sl Q I rx hs pl pu ⟨p, vs, rfl, h1, P.lst S (reps_cut r1 lo hi)⟩
  · rename_i z e
    rw [deref_str e] at ra
    obtain ⟨rfl, hk, hl⟩ := rep_str ra
    exact sl_str pins s σ H _ v vl vu lo hi sl Q I rx hs pl pu ⟨z, rfl, by rw [line_eq]; exact hl, P.here S (.str _ (strOk_cut hk lo hi) (Nat.le_trans (len_cut lo hi) hl))⟩
  · exact P.elim
theorem ze_slice [TB] {lo hi : Option Expr} {fl fh : OptZ} {p2 : Pos} (ha : ZE X a fa) (hl : ZO X lo fl) (hh : ZO X hi fh) : ZE X (.Subscript a (.Slice lo hi none p2) pos) (dSlice fa fl fh) := fun W xg =>
  PE.imp (pe_slice sl_all (ha W xg) (hl W xg) (hh W xg)) fun σ H Q ⟨ρ, st, m, S, E, P⟩ =>
    tz_seq (X := X) (k := fun ρ u st1 => (fl ρ st1).bind fun l st2 => (fh ρ st2).bind fun h st3 => R.ofO st3 (slU st3 u l h)) S E P fun u st1 v m1 H1 S1 E1 r1 l1 P1 =>
      ⟨ρ, st1, m1, S1, E1, P1.bind fun o st2 o' m2 H2 _ l2 S2 eo P2 => by
        have eo : o = o' := eo
        subst eo
        exact ⟨ρ, st2, m2, S2, E1.mono S1 l2, P2.bind fun o2 st3 o2' m3 H3 _ l3 S3 eo2 P3 => by
          have eo2 : o2 = o2' := eo2
          subst eo2
          exact ⟨m3, st3, u, S3, r1.mono S1 (l2.trans l3), .of P3⟩⟩⟩

/-! ### built-ins of values -/
def rB1 (G : GC) (g : Op1) : List V → Hp → VK → Prop := fun xs H Q => ∃ m st u x, xs = [x] ∧ Sim G m H st ∧ Rep G m H u x ∧ PostO G m H st Q (g st u)
def rB2 (G : GC) (g : Op2) : List V → Hp → VK → Prop := fun xs H Q => ∃ m st u w x y, xs = [x, y] ∧ Sim G m H st ∧ Rep G m H u x ∧ Rep G m H w y ∧ PostO G m H st Q (g st u w)
def BZ1 [TB] (X : Cx) (f : Value) (g : Op1) : Prop := CallR X f (rB1 (gc X) g)
def BZ2 [TB] (X : Cx) (f : Value) (g : Op2) : Prop := CallR X f (rB2 (gc X) g)
theorem ze_b1 [TB] {x : Str} {id : String} {g : Op1} (hc : BZ1 X (.builtin id) g) (hm : X.mg x = none) (ha : ZE X a fa) (hv : bootBuiltins x = some (.builtin id) := by decide +kernel) (hn : x ≠ "__name__" := by decide +kernel) (hd : (x == ("__debug__" : Str)) = false := by decide +kernel) (hg : Gl X x := by rfl)
    (h1 : starEach [a] X.env = (false, eval a X.env) :: starEach [] X.env := by rfl) (h3 : (backTo pos (starEach [] X.env)).any (·.1) = false := by rfl) : ZE X (.Call (.Name x p) [a] [] pos) (dUn g fa) := fun W xg =>
  PE.imp (pe_callB hc hg hm hv (pa_cons (ha W xg) pa_nil h1) hn hd h1 h3) fun σ H Q ⟨ρ, st, m, S, E, P⟩ =>
    tz_seq (X := X) (k := fun _ u st1 => R.ofO st1 (g st1 u)) S E P fun u st1 v m1 H1 S1 E1 r1 l1 P1 => ⟨m1, st1, u, v, rfl, S1, r1, .of P1⟩
theorem ze_ty1 [TB] {x : Str} {id : String} {g : Op1} (hc : BZ1 X (.type id) g) (hm : X.mg x = none) (ha : ZE X a fa) (hv : bootBuiltins x = some (.type id) := by decide +kernel) (hn : x ≠ "__name__" := by decide +kernel) (hd : (x == ("__debug__" : Str)) = false := by decide +kernel) (hg : Gl X x := by rfl)
    (h1 : starEach [a] X.env = (false, eval a X.env) :: starEach [] X.env := by rfl) (h3 : (backTo pos (starEach [] X.env)).any (·.1) = false := by rfl) : ZE X (.Call (.Name x p) [a] [] pos) (dUn g fa) := fun W xg =>
  PE.imp (pe_callTy hc hg hm hv (pa_cons (ha W xg) pa_nil h1) hn hd h1 h3) fun σ H Q ⟨ρ, st, m, S, E, P⟩ =>
    tz_seq (X := X) (k := fun _ u st1 => R.ofO st1 (g st1 u)) S E P fun u st1 v m1 H1 S1 E1 r1 l1 P1 => ⟨m1, st1, u, v, rfl, S1, r1, .of P1⟩
theorem ze_b2 [TB] {x : Str} {id : String} {g : Op2} (hc : BZ2 X (.builtin id) g) (hm : X.mg x = none) (ha : ZE X a fa) (hb : ZE X b fb) (hv : bootBuiltins x = some (.builtin id) := by decide +kernel) (hn : x ≠ "__name__" := by decide +kernel) (hd : (x == ("__debug__" : Str)) = false := by decide +kernel) (hg : Gl X x := by rfl)
    (h1 : starEach [a, b] X.env = (false, eval a X.env) :: starEach [b] X.env := by rfl) (h2 : starEach [b] X.env = (false, eval b X.env) :: starEach [] X.env := by rfl) (h3 : (backTo pos (starEach [b] X.env)).any (·.1) = false := by rfl) : ZE X (.Call (.Name x p) [a, b] [] pos) (dBin g fa fb) := fun W xg =>
  PE.imp (pe_callB hc hg hm hv (pa_cons (ha W xg) (pa_cons (hb W xg) pa_nil h2) h1) hn hd h1 h3) fun σ H Q ⟨ρ, st, m, S, E, P⟩ =>
    tz_seq (X := X) (k := fun ρ a st1 => (fb ρ st1).bind fun b st2 => R.ofO st2 (g st2 a b)) S E P fun u st1 v m1 H1 S1 E1 r1 l1 P1 => tz_seq (X := X) (k := fun ρ b st2 => R.ofO st2 (g st2 u b)) S1 E1 P1 fun u2 st2 v2 m2 H2 S2 E2 r2 l2 P2 => ⟨m2, st2, u, u2, v, v2, rfl, S2, r1.mono S1 l2, r2, .of P2⟩
def oLen : Op1 := fun st u => match deref st u with
  | .tup xs => some (.int xs.length)
  | .lst xs => some (.int xs.length)
  | .frz xs => some (.int xs.length)
  | .str z => some (.int z.length)
  | .dct ks _ => some (.int ks.length)
  | _ => none
theorem b_len [TB] : BZ1 X (.builtin "len") oLen := by
  intro pins s σ H xs us Q I r h
  obtain ⟨m, st, u, x, rfl, S, ru, P⟩ := h
  unfold oLen at P
  split at P
  · rename_i ys e
    rw [deref_tup e] at ru
    obtain ⟨p, vs, rfl, h1, r1⟩ := rep_tup (K := X.K) ru rfl
    exact call_len_seq pins s σ H _ us Q I r ⟨p, vs, rfl, .inr h1, by rw [← r1.length]; exact P.here S (.int _)⟩
  · rename_i ys e
    obtain ⟨p, vs, rfl, h1, r1⟩ := rep_seqL (K := X.K) S ru (.inl e) rfl
    exact call_len_seq pins s σ H _ us Q I r ⟨p, vs, rfl, .inl h1, by rw [← r1.length]; exact P.here S (.int _)⟩
  · rename_i ys e
    obtain ⟨p, vs, rfl, h1, r1⟩ := rep_seqL (K := X.K) S ru (.inr (deref_frz e)) rfl
    exact call_len_seq pins s σ H _ us Q I r ⟨p, vs, rfl, .inl h1, by rw [← r1.length]; exact P.here S (.int _)⟩
  · rename_i z e
    rw [deref_str e] at ru
    obtain ⟨rfl, hk, hl⟩ := rep_str ru
    exact call_len_str pins s σ H _ us Q I r ⟨z, rfl, by rw [line_eq]; exact hl, P.here S (.int _)⟩
  · rename_i ks us' e
    obtain ⟨p, kvs, rfl, h1, h2, r1⟩ := rep_dct S ru e
    refine call_lenD pins s σ H _ us Q I r ⟨p, kvs, rfl, h1, ?_⟩
    have hl := h2.length
    rw [List.length_map] at hl
    rw [← hl]
    exact P.here S (.int _)
  · exact P.elim
def oAbs : Op1 := fun _ u => match u with
  | .int i => some (.int (if i < 0 then -i else i))
  | _ => none
theorem b_abs [TB] : BZ1 X (.builtin "abs") oAbs := by
  intro pins s σ H xs us Q I r h
  obtain ⟨m, st, u, x, rfl, S, ru, P⟩ := h
  unfold oAbs at P
  split at P
  · exact call_abs pins s σ H _ us Q I r ⟨_, by rw [rep_int ru], P.here S (.int _)⟩
  · exact P.elim
def oInt : Op1 := fun _ u => match u with
  | .int i => some (.int i)
  | .bl k => some (.int (if k then 1 else 0))
  | _ => none
theorem b_int [TB] : BZ1 X (.type "int") oInt := by
  intro pins s σ H xs us Q I r h
  obtain ⟨m, st, u, x, rfl, S, ru, P⟩ := h
  unfold oInt at P
  split at P
  · exact call_int1 pins s σ H _ us Q I r (.inl ⟨_, by rw [rep_int ru], P.here S (.int _)⟩)
  · exact call_int1 pins s σ H _ us Q I r (.inr ⟨_, by rw [rep_bl ru], P.here S (.int _)⟩)
  · exact P.elim
def oList : Op1 := fun st u => match deref st u with
  | .tup xs => some (.lst xs)
  | .lst xs => some (.lst xs)
  | .frz xs => some (.lst xs)
  | .str z => some (.lst (signsOf z))
  | _ => none
theorem call_list_signs (hc : X.calm = true) : CallR X (.type "list") (fun xs H Q => ∃ z, xs = [.str z] ∧ z.length ≤ sizeLine ∧ ∀ l, H l = none → Q (.ref l) (upd H l (.lst (z.cps.toList.map fun c => V.str ⟨#[c]⟩)))) := by
  intro pins s σ H xs us Q I r h
  obtain ⟨z, rfl, hz, q⟩ := h
  obtain ⟨u, rfl, t, rfl⟩ := vals1 r
  refine call_list_str (I.ok.hd hc) z t (fun h' tk acc' c' hk hS' hacc => ?_) (by exact hz)
  refine ⟨.ref s.heap.objs.size, _, I.laid (t' := tk) hk (Nat.le_refl _) (show ObjOk X.prog X.w _ h' _ (.lst (z.cps.toList.map fun c => V.str ⟨#[c]⟩)) from ⟨?_, acc'.toList, c', ?_, by simpa using hS'⟩), rfl, q _ (I.hok.fresh (Nat.le_refl _))⟩
  · rw [List.length_map, Array.length_toList]; exact hz
  · refine vals_of_idx _ _ (by simp [hacc.1]) fun j u hj => ?_
    obtain ⟨c, t', hc', rfl⟩ := hacc.2 j u (by simpa using hj)
    refine ⟨.str ⟨#[c]⟩, ?_, ⟨t', rfl⟩⟩
    rw [List.getElem?_map]
    have : z.cps.toList[j]? = some c := by simpa using hc'
    rw [this]
    rfl
theorem reps_signs {G : GC} {m : MH} {H : Hp} {z : Str} (h : PyData.strOk z = true) : Reps G m H (signsOf z) (z.cps.toList.map fun c => V.str ⟨#[c]⟩) := by
  have key : ∀ l : List Nat, (∀ c ∈ l, PyData.strOk ⟨#[c]⟩ = true) → Reps G m H (l.map fun c => U.str ⟨#[c]⟩) (l.map fun c => V.str ⟨#[c]⟩) := by
    intro l
    induction l with
    | nil => intro _; exact .nil
    | cons c l ih => intro hl; exact .cons (.str _ (hl c (by simp)) (by show 1 ≤ 16777216; decide)) (ih fun d hd => hl d (by simp [hd]))
  refine key _ fun c hc => ?_
  obtain ⟨i, hi, e⟩ := List.mem_iff_getElem.mp hc
  exact sign_ok (i := i) h (by rw [← Array.getElem?_toList, List.getElem?_eq_getElem hi, e])
theorem b_list [TB] (hc : X.calm = true) : BZ1 X (.type "list") oList := by
  intro pins s σ H xs us Q I r h
  obtain ⟨m, st, u, x, rfl, S, ru, P⟩ := h
  unfold oList at P
  split at P
  · rename_i ys e
    rw [deref_tup e] at ru
    obtain ⟨p, vs, rfl, h1, r1⟩ := rep_tup (K := X.K) ru rfl
    exact call_list_of pins s σ H _ us Q I r ⟨p, vs, rfl, .inr h1, P.lst S r1⟩
  · rename_i ys e
    obtain ⟨p, vs, rfl, h1, r1⟩ := rep_seqL (K := X.K) S ru (.inl e) rfl
    exact call_list_of pins s σ H _ us Q I r ⟨p, vs, rfl, .inl h1, P.lst S r1⟩
  · rename_i ys e
    obtain ⟨p, vs, rfl, h1, r1⟩ := rep_seqL (K := X.K) S ru (.inr (deref_frz e)) rfl
    exact call_list_of pins s σ H _ us Q I r ⟨p, vs, rfl, .inl h1, P.lst S r1⟩
  · rename_i z e
    rw [deref_str e] at ru
    obtain ⟨rfl, hk, hl⟩ := rep_str ru
    exact call_list_signs hc pins s σ H _ us Q I r ⟨z, rfl, by rw [line_eq]; exact hl, P.lst S (reps_signs hk)⟩
  · exact P.elim
def oTuple : Op1 := fun st u => match deref st u with
  | .tup xs => some (.tup xs)
  | .lst xs => some (.tup xs)
  | .frz xs => some (.tup xs)
  | _ => none
theorem b_tuple [TB] : BZ1 X (.type "tuple") oTuple := by
  intro pins s σ H xs us Q I r h
  obtain ⟨m, st, u, x, rfl, S, ru, P⟩ := h
  unfold oTuple at P
  split at P
  · rename_i ys e
    rw [deref_tup e] at ru
    have ru' := ru
    obtain ⟨p, vs, rfl, h1, r1⟩ := rep_tup (K := X.K) ru rfl
    exact call_tuple_of pins s σ H _ us Q I r ⟨p, vs, rfl, .inr ⟨h1, P.here S ru'⟩⟩
  · rename_i ys e
    obtain ⟨p, vs, rfl, h1, r1⟩ := rep_seqL (K := X.K) S ru (.inl e) rfl
    exact call_tuple_of pins s σ H _ us Q I r ⟨p, vs, rfl, .inl ⟨h1, P.tup S r1⟩⟩
  · rename_i ys e
    obtain ⟨p, vs, rfl, h1, r1⟩ := rep_seqL (K := X.K) S ru (.inr (deref_frz e)) rfl
    exact call_tuple_of pins s σ H _ us Q I r ⟨p, vs, rfl, .inl ⟨h1, P.tup S r1⟩⟩
  · exact P.elim
def oNeg : Op1 := fun _ u => match u with
  | .int i => some (.int (-i))
  | _ => none
theorem ze_neg [TB] (ha : ZE X a fa) : ZE X (.UnaryOp .USub a pos) (dUn oNeg fa) := fun W xg =>
  PE.imp (pe_un un_neg (ha W xg)) fun σ H Q ⟨ρ, st, m, S, E, P⟩ =>
    tz_seq (X := X) (k := fun _ u st1 => R.ofO st1 (oNeg st1 u)) S E P fun u st1 v m1 H1 S1 E1 r1 l1 P1 => by
      cases u with
      | int i => exact ⟨i, rep_int r1, post_ok P1 S1 (.int _)⟩
      | _ => exact P1.elim
/-! ### a name that holds a def -/
abbrev Tab := List (Str × FnZ)
def tabL (T : Tab) : U → Option FnZ
  | .fn x => T.lookup x
  | _ => none
@[simp] def dCallV (T : Tab) (i : Nat) (f : UEnv → Store → R (List U)) : UEnv → Store → R U := fun ρ st => (dName i ρ st).bind fun u st0 => match tabL T u with
  | some F => (f ρ st0).bind fun us st1 => F us st1
  | none => .stuck
theorem ze_callV [TB] {k n i : Nat} {x : Str} {T : Tab} (cal : ∀ y ∈ T, CalZ X.prog X.w X.K X.mg X.base k y.1 n y.2) (hr : Room k X.A) (ha : ZAL X (e :: es) f) (hN : X.N[i]? = some x := by rfl) (hv : Vis X.env.scope x := by first | exact Or.inl rfl | exact Or.inr (Or.inl rfl) | exact Or.inr (Or.inr rfl)) (hn : (e :: es).length = n := by rfl)
    (hdb : (x == ("__debug__" : Str)) = false := by decide) (hcd : (x == ("__classdict__" : Str)) = false := by decide) (he : starEach (e :: es) X.env = (false, eval e X.env) :: starEach es X.env := by rfl) (hpl : (backTo pos (starEach es X.env)).any (·.1) = false := by rfl) :
    ZE X (.Call (.Name x p) (e :: es) [] pos) (dCallV T i f) := fun W xg => by
  refine ⟨fun pins s σ H Q I ⟨ρ, st, m, S, E, P⟩ => ?_⟩
  unfold dCallV dName at P
  cases e0 : ρ[i]? with
  | none => rw [e0] at P; exact P.elim
  | some o => cases o with
    | none => rw [e0] at P; exact P.elim
    | some u =>
      rw [e0] at P
      simp only [R.bind_ok] at P
      obtain ⟨v0, e1, r0⟩ := E.at_ i u e0
      cases et : tabL T u with
      | none => simp only [et] at P; exact P.elim
      | some F =>
        simp only [et] at P
        cases u with
        | fn y =>
          cases r0 with
          | @fn _ a hy =>
            refine wpAny_Call_Name_kw (thn ((pe_var (pos := p) hN hv hdb hcd).run pins s σ H (fun v H1 => v = .ref a ∧ H1 = H) I ⟨_, e1, rfl, rfl⟩) fun w s1 ⟨v, H1, I1, rw1, q1⟩ => ?_)
            obtain ⟨rfl, rfl⟩ := q1
            cases rw1
            obtain ⟨fa, fd, ps, h1, h2, h3, h4⟩ := (cal (y, F) (PySem.mem_of_lookup et)).ex
            have : fa = a := by
              have z := h2.symm.trans hy
              cases z; rfl
            subst this
            refine PySem.W.callWith_K (h₀ := X.base) I.ok.mod.kin h3 (thn ((ha.za W xg).run pos pins s1 σ _ (fun vs H2 => spZ (gc X) n F vs H2 Q (WE W σ)) I1 ⟨ρ, st, m, S, E, P.bind fun us st1 vs m1 H1 e1 l S1 r p => ⟨us, st1, m1, ?_, S1, r, p⟩⟩) fun us s2 ⟨vs, H2, I2, r, q⟩ => ⟨I2.kIn, ?_⟩) he hpl
            · rw [← r.length, ha.len _ _ _ _ e1, hn]
            · exact run_fnS h1 hr h4 (passAt xg.tk σ) I2 r q
        | _ => cases et
end
end Z

namespace Z
open PySem PySem.Spec PyProof.Rows L2

theorem room65 {k : Nat} {A : Around} (hr : Room k A) : A.units + 65 < cLine := by have := hr.un; omega
/-! ### a, b = x, y -/
@[simp] def sPar (is : List Nat) (f : UEnv → Store → R (List U)) : UEnv → Store → R Fl := fun ρ st => (f ρ st).bind fun us st1 => .ok (.nx ((is.zip us).foldl (fun ρ p => ρ.set p.1 (some p.2)) ρ)) st1
theorem zs_par [TB] {X : Cx} {i j : Nat} {x y : Str} {a b : Expr} {f : UEnv → Store → R (List U)} {px py pt pos : Pos} {kt k2 pt2} (hc : X.calm = true) (hN : X.N.Nodup) (ha : ZAL X [a, b] f) (hi : X.N[i]? = some x := by rfl) (hj : X.N[j]? = some y := by rfl) (hij : i ≠ j := by decide)
    (hx : X.env.scope.names.lookup x = some .local := by rfl) (hy : X.env.scope.names.lookup y = some .local := by rfl)
    (hw : swappedStores [.Tuple [.Name x px, .Name y py] kt pt] (.Tuple [a, b] k2 pt2) X.env = pure (some [x, y]) := by rfl)
    (hs : swapsWithSole [.Tuple [.Name x px, .Name y py] kt pt] (.Tuple [a, b] k2 pt2) pos.line X.env = pure false := by rfl) : ZS X (.Assign [.Tuple [.Name x px, .Name y py] kt pt] (.Tuple [a, b] k2 pt2) pos) (sPar [i, j] f) := fun W xg =>
  PS.imp (ps_par hc hN hi hj hij hx hy (ha.za W xg) hw hs) fun D σ H ⟨ρ, st, m, S, E, P⟩ =>
    ⟨ρ, st, m, S, E, PostS.bind (k := fun us st1 => .ok (.nx (([i, j].zip us).foldl (fun ρ p => ρ.set p.1 (some p.2)) ρ)) st1) P fun us st1 vs m1 H1 e l S1 r p => by
      have hl := ha.len _ _ _ _ e
      cases r with
      | nil => simp at hl
      | cons r1 t => cases t with
        | nil => simp at hl
        | cons r2 t => cases t with
          | cons r3 t => simp at hl
          | nil => exact ⟨_, _, rfl, p _ m1 H1 Le.refl S1 (((E.mono S l).set i r1).set j r2)⟩⟩

/-! ### the program's facts -/
structure DefZ (K : PySem.W.Frag) (mg : Str → Option Value) (x : Str) (st : Stmt) (ps : List Str) : Prop where
  ex : ∃ f fd, Fun K x x st f fd ∧ mg x = some (.ref f) ∧ Binds K fd ps []
theorem def_mk {K : PySem.W.Frag} {h : Heap} {mg : Str → Option Value} {x : Str} {st : Stmt} {ps : List Str} {f : Addr} {oc : Value} {od an : Option Addr} {osl : Array (Option Value)} {kV doc pm cdv ct : Value} (X : K.In h) (G : h.Ns mainGlobals mg)
    (a : PySem.W.nsIn K mainGlobals x = some (some (.ref f))) (l : K.lookup f = some ⟨oc, od, .func (PySem.W.fnOf x x (defArgs st) (defBody st) (defScope st) .none kV doc pm an cdv ct), osl⟩)
    (c : PySem.W.codeIn K cdv x = true) (k : PySem.W.keepIn K (.ref f) = true)
    (hb : ∀ (kV doc pm : Value) (an : Option Addr) (cdv ct : Value) (us : List Value), us.length = ps.length → bindArgs (PySem.W.fnOf x x (defArgs st) (defBody st) (defScope st) .none kV doc pm an cdv ct) ⟨us, []⟩ = pure (ps.zip us)) : DefZ K mg x st ps :=
  ⟨f, _, fun_mk l c k, PySem.W.mg_of X G a, (fun_mk (st := st) l c k).binds hb⟩
theorem DefZ.glob [TB] {w : World} {K : PySem.W.Frag} {mg : Str → Option Value} {x : Str} {st : Stmt} {ps : List Str} (d : DefZ K mg x st ps) : GlobU ⟨K, mg, TB.T, w⟩ x (.fn x) := by
  obtain ⟨f, fd, _, hm, _⟩ := d.ex
  exact ⟨.ref f, .ref f, hm, rfl, fun m H => .fn hm⟩
theorem DefZ.cal [TB] {P : Program} {w : World} {K : PySem.W.Frag} {mg : Str → Option Value} {base : Heap} {x : Str} {st : Stmt} {N ps : List Str} {k n : Nat} {g : UEnv → Store → R Fl} {F : FnZ} (d : DefZ K mg x st ps) (S : FnScope N ps (defScope st))
    (hb : ∀ (f : Addr) (cdv : Value) (A : Around) (outer : List Env) (s : Shared) (H : Hp) (E : XK), Room k (A.deeper (envOfC x (defScope st) s.heap.objs.size f cdv)) → ZB (cxOf (L2.CX P w) P w K mg base N x (defScope st) f cdv A outer s H E) (defBody st) g)
    (hF : F = runB N.length g := by rfl) (hn : ps.length = n := by rfl) : CalZ P w K mg base (k + 1) x n F := by
  obtain ⟨f, fd, Fn, hm, bd⟩ := d.ex
  exact calZ Fn hm bd S (fun cdv A outer s H E hr => hb f cdv A outer s H E hr) hF hn
/-- a def about which nothing is said -/
theorem DefZ.stuck [TB] {P : Program} {w : World} {K : PySem.W.Frag} {mg : Str → Option Value} {base : Heap} {x : Str} {st : Stmt} {ps : List Str} (k n : Nat) (d : DefZ K mg x st ps) : CalZ P w K mg base k x n (fun _ _ => .stuck) := by
  obtain ⟨f, fd, Fn, hm, bd⟩ := d.ex
  exact ⟨f, fd, ps, ⟨fun vs H Q E ⟨_, _, _, _, _, _, z⟩ => z.elim, fun A outer s H args us vs Q E hr he hb hv ⟨_, _, _, _, _, _, z⟩ => z.elim⟩, hm, Fn.kp, bd⟩
theorem glob_int [TB] {w : World} {K : PySem.W.Frag} {h : Heap} {mg : Str → Option Value} {x : Str} {i : Int} {t : Tok} (X : K.In h) (G : h.Ns mainGlobals mg) (a : PySem.W.nsIn K mainGlobals x = some (some (.int i t))) : GlobU ⟨K, mg, TB.T, w⟩ x (.int i) :=
  ⟨.int i t, .int i, PySem.W.mg_of X G a, ⟨t, rfl⟩, fun m H => .int i⟩
theorem glob_str [TB] {w : World} {K : PySem.W.Frag} {h : Heap} {mg : Str → Option Value} {x y : Str} {t : Tok} (X : K.In h) (G : h.Ns mainGlobals mg) (a : PySem.W.nsIn K mainGlobals x = some (some (.str y t))) (hy : PyData.strOk y = true := by decide +kernel) (hz : y.length ≤ 16777216 := by decide +kernel) : GlobU ⟨K, mg, TB.T, w⟩ x (.str y) :=
  ⟨.str y t, .str y, PySem.W.mg_of X G a, ⟨t, rfl⟩, fun m H => .str y hy hz⟩
theorem glob_none {K : PySem.W.Frag} {h : Heap} {mg : Str → Option Value} {x : Str} (X : K.In h) (G : h.Ns mainGlobals mg) (a : PySem.W.nsIn K mainGlobals x = some none) : mg x = none := PySem.W.mg_none_of X G a

instance (priority := low) noTB : TB := ⟨[]⟩
/-! ### the law's end -/
def spLaw (K : PySem.W.Frag) : Sp := fun vs H Q _ => ∃ (a : Addr) (ns : List Int), vs = [.ref a] ∧ ((∃ o, H a = some (.frz o (.lst (ns.map V.int)))) ∨ LstK K a (ns.map V.int)) ∧ ns.length ≤ 63 ∧ ∀ H', Q (.bl true) H'
theorem reps_ints {G : GC} {m : MH} {H : Hp} : ∀ ns : List Int, Reps G m H (ns.map U.int) (ns.map V.int)
  | [] => .nil
  | n :: ns => .cons (.int n) (reps_ints ns)
theorem law_imp {G : GC} {F : FnZ} (h : ∀ ns : List Int, ns.length ≤ 63 → ∃ st, F [.frz (ns.map .int)] [] = .ok (.bl true) st) (vs : List V) (H : Hp) (Q : VK) (E : XK) (hT : LamX.Tabs G.T H) (q : spLaw G.K vs H Q E) : spZ G 1 F vs H Q E := by
  obtain ⟨a, ns, rfl, hs, hl, k⟩ := q
  obtain ⟨st, e⟩ := h ns hl
  refine ⟨[.frz (ns.map .int)], [], ⟨fun _ => none, fun _ => False⟩, rfl, ⟨fun n h => absurd h (Nat.not_lt_zero n), fun n a h => (nomatch h), fun n k a h => (nomatch h), fun n a h => (nomatch h), fun a h => (show False from h).elim, fun n c a h => by simp at h, hT⟩, .cons ?_ .nil, ?_⟩
  · rcases hs with ⟨o, hs⟩ | hs
    · exact .frz hs (fun z => z) (reps_ints ns)
    · exact .frzK hs (reps_ints ns)
  · rw [e]
    intro v m' H' l S r
    cases r
    exact k H'
theorem walkZ {l : PySem.W.OpenLaw} {q : Program} {loose : List Str} {XP : (Str → Option Value) → Heap → Prop} {YP : World → Heap → Prop} {d : DefRec} {K : Params → PySem.W.Frag} {k : Nat} {F : FnZ} {x : Str} (hn : l.most = some 63) (hdf : d.params.defaults = []) (hr : Room k callerA)
    (hY : ∀ (w : World) (h : Heap), YP w h → (K w.params).In h) (hlaw : ∀ ns : List Int, ns.length ≤ 63 → ∃ st, F [.frz (ns.map .int)] [] = .ok (.bl true) st)
    (hF : ∀ (w : World) (mg : Str → Option Value) (fa : Addr) (h : Heap), (K w.params).In h → h.Ns mainGlobals mg → mg d.name = some (.ref fa) →
      ∃ fd : FuncData, (∀ (s : Shared) (u : Value), BindsTo s fd ⟨[u], []⟩ [(x, u)]) ∧ ∀ base : Heap, FnOk l.prog w (K w.params) mg base (L2.CX l.prog w) k fa fd [x] (spZ ⟨K w.params, mg, [], w⟩ 1 F)) :
    PySem.W.WalkO q loose XP YP l.row.toRowW d [] (fun f vs => PySem.call f vs) :=
  L2.walk_of (n := 63) (k := k) (x := x) (CX := fun w => L2.CX l.prog w) (sp := fun w => spLaw (K w.params)) hn (by decide) hdf hr hY
    (fun w mg fa h X G hm => by
      obtain ⟨fd, hb, hf⟩ := hF w mg fa h X G hm
      exact ⟨fd, hb, fun base _ _ => (hf base).imp fun vs H Q E q => law_imp (G := ⟨K w.params, mg, [], w⟩) hlaw vs H Q E (fun p hp => nomatch hp) q⟩)
    (fun w H a ns hl hO hS => ⟨a, ns, rfl, by
      rcases hS with (h | h) | h
      · rcases hO a with z | ⟨o, xs, z⟩
        · rw [z] at h; cases h
        · rw [z] at h; cases h
      · exact .inl h
      · exact .inr h, hl, fun _ => rfl⟩)
    fun w H s e s' z => by
      obtain ⟨_, _, _, _, _, _, _, _, _, _, _, _, z⟩ := z
      exact z
end Z

namespace Z
open PySem PySem.Spec PyProof.Rows L2

/-! ### exceptions: raise -/
structure ExcZ (K : PySem.W.Frag) (mg : Str → Option Value) (x : Str) : Prop where
  ex : ∃ (C : Addr) (bmB : List Value) (B newId initId : String), ExcBaseFacts B newId initId bmB ∧ mg x = some (.ref C) ∧ PySem.W.excIn K C bmB newId = true ∧ PySem.W.keepIn K (.ref C) = true ∧ PySem.W.subIn K (.ref C) (.type "BaseException") = some true ∧ PySem.W.typeIn K (.ref C) = some (.type "type")
@[simp] def sRaise (x : Str) : UEnv → Store → R Fl := fun _ st => .exc ⟨x, none⟩ st
theorem zs_raise [TB] {X : Cx} {x m : Str} {j : Nat} {p p2 pos pos2 : Pos} (e : ExcZ X.K X.mg x) (hc : X.calm = true := by rfl) (hg : Gl X x := by rfl) (hdb : (x == ("__debug__" : Str)) = false := by decide) :
    ZS X (.Raise (some (.Call (.Name x p) [.Constant (.str m) j p2] [] pos)) none pos2) (sRaise x) := fun W xg => by
  obtain ⟨C, bmB, B, newId, initId, F, gC, q, kC, h1, h2⟩ := e.ex
  exact PS.imp (ps_raise hc xg.tk (pmk_own F q gC kC (raises_own h1 h2) hg hdb)) fun D σ H ⟨ρ, st, m', S, E, P⟩ => P (.ref C) none σ m' H Le.refl S ⟨C, gC, rfl, rfl⟩

/-! ### except clauses -/
/-- is the class x one of c? -/
structure ExmZ (K : PySem.W.Frag) (mg : Str → Option Value) (x c : Str) (b : Bool) : Prop where
  ex : ∃ C D : Addr, mg x = some (.ref C) ∧ mg c = some (.ref D) ∧ PySem.W.exmOne K (.ref C) (.ref D) = some b
abbrev SubT := List (Str × Str × Bool)
def subOf : SubT → Str → Str → Option Bool
  | [], _, _ => none
  | (x, c, b) :: r, y, d => if x = y ∧ c = d then some b else subOf r y d
theorem subOf_mem : ∀ {l : SubT} {x c : Str} {b : Bool}, subOf l x c = some b → (x, c, b) ∈ l
  | (x, c, b) :: r, y, d, k, h => by
    unfold subOf at h
    split at h
    · rename_i q
      obtain ⟨rfl, rfl⟩ := q
      cases h
      exact List.mem_cons_self
    · exact List.mem_cons_of_mem _ (subOf_mem h)
/-- the clauses: class and word -/
def tellX (t : SubT) : List (Str × Str) → Ex → Store → R U
  | [], _, _ => .stuck
  | (c, w) :: r, e, st => match subOf t e.cls c with
    | some true => .ok (.str w) st
    | some false => tellX t r e st
    | none => .stuck
def tellU (t : SubT) (l : List (Str × Str)) : R U → R U
  | .ok _ st => .ok (.str "") st
  | .exc e st => tellX t l e st
  | .stuck => .stuck
@[simp] theorem tellU_ok (t : SubT) (l : List (Str × Str)) (u : U) (st : Store) : tellU t l (.ok u st) = .ok (.str "") st := rfl
@[simp] theorem tellU_exc (t : SubT) (l : List (Str × Str)) (e : Ex) (st : Store) : tellU t l (.exc e st) = tellX t l e st := rfl
@[simp] def dTell (t : SubT) (l : List (Str × Str)) (f : UEnv → Store → R U) : UEnv → Store → R U := fun ρ st => tellU t l (f ρ st)

def wTell (K : PySem.W.Frag) (Q : VK) : List (Value × Str) → XK
  | [] => fun _ _ _ => False
  | (c, w) :: r => fun cls d H => ∃ b, PySem.W.exmOne K cls c = some b ∧ (b = true → Q (.str w) H) ∧ (b = false → wTell K Q r cls d H)
def TTell (K : PySem.W.Frag) (l : List (Value × Str)) : (XK → Hp → VK → Prop) → Hp → VK → Prop := fun tl H Q => tl (wTell K Q l) H fun _ H' => Q (.str "") H'
inductive HdsT (X : Cx) : List ExceptHandler → List (Value × Str) → Prop
  | nil : HdsT X [] []
  | cons {x w : Str} {c : Value} {np p1 p2 p3 : Pos} {j : Nat} {hds : List ExceptHandler} {l : List (Value × Str)} (hc : Names X x c) (r : HdsT X hds l) :
      HdsT X (.ExceptHandler (some (.Name x np)) none [.Return (some (.Constant (.str w) j p1)) p2] p3 :: hds) ((c, w) :: l)
theorem HdsT.ok {X : Cx} {hds : List ExceptHandler} {l : List (Value × Str)} (h : HdsT X hds l) : HdsOk X hds (l.map fun p => (p.1, fun _ _ _ D _ H => D.rt (.str p.2) H)) := by
  induction h with
  | nil => exact .nil
  | cons hc r ih => exact .cons hc (fun a oe cls d pn _ _ => pss_one (ps_ret pe_str)) ih
theorem many_tell {K : PySem.W.Frag} {D : Ends} : ∀ {l : List (Value × Str)} {cls : Value} {d : Option Addr} {σ : L2.St} {H : Hp}, wTell K D.rt l cls d H → wMany K (fun _ _ _ _ => False) D (l.map fun p => (p.1, fun _ _ _ D _ H => D.rt (.str p.2) H)) cls d σ H
  | [], _, _, _, _, h => h
  | (c, w) :: r, cls, d, σ, H, ⟨b, e, h1, h2⟩ => ⟨b, e, fun hb a _ => h1 hb, fun hb => many_tell (h2 hb)⟩
section
variable {X : Cx}
/-- try: a() / except ..: return .. / return '' -/
theorem tell_gives {Ng : List Str} {x a q : Str} {sg : Scope} {g : Addr} {cdg : Value} {j : Nat} {h₀ : ExceptHandler} {hds : List ExceptHandler} {l : List (Value × Str)} {p1 p2 p3 p4 p5 p6 : Pos}
    (hh : ∀ (A : Around) (s : Shared) (H : Hp), HdsT (cxOf C8.CX0 X.prog X.w X.K X.mg X.base Ng x sg g cdg A X.stack s H C8.E0).nox (h₀ :: hds) l) (h0 : ∀ f : Addr, (L2.start Ng [V.ref f])[0]? = some (some (V.ref f))) :
    LamX.GivesTo X Ng x sg g cdg [.Try [.Expr (.Call (.Name a p1) [] [] p2) p3] (h₀ :: hds) [] [] p4, .Return (some (.Constant (.str "") j p5)) p6] a q (TTell X.K l) := by
  intro f c' s H Q tl act hc h
  refine ⟨_, pss_cons (ps_try_many (X := (cxOf C8.CX0 X.prog X.w X.K X.mg X.base Ng x sg g cdg X.A X.stack s H C8.E0).nox)
      (tb := fun W D σ H => ∃ Ech : XK, (∀ cls d σ' H', Ech cls d H' → W cls d σ' H') ∧ σ[0]? = some (some (.ref f)) ∧ H c' = some (LamX.CodeO c' q) ∧ tl Ech H fun _ H' => D.nx σ H')
      rfl rfl LamX.takes0 (fun W pn xe tk _ => ?_) (hh X.A s H).ok) (pss_one (ps_ret pe_str)), ?_⟩
  · refine ⟨fun pins s' σ H' D I h' => ?_⟩
    obtain ⟨Ech, hW, h1, h2, h3⟩ := h'
    have hp := act W pn xe Ech p1 p2 tk hW
    exact (pss_one (ps_expr (pos := p3) hp)).run pins s' σ H' D I ⟨h1, h2, h3⟩
  · exact ⟨wTell X.K Q l, fun cls d σ' H' w => many_tell w, h0 f, hc, h⟩
end
/-- the code object of the def that makes lambdas, and its table -/
structure LamZ [TB] (X : Cx) : Prop where
  ex : ∃ c P : Addr, LamX.TabB X.base X.mg c P ∧ X.env.code = .ref c ∧ (P, X.env.qual ++ "<lambda>") ∈ TB.T ∧ ∀ p ∈ TB.T, p.1 = P → p.2 = X.env.qual ++ "<lambda>"
abbrev lvs (mg : Str → Option Value) (l : List (Str × Str)) : List (Value × Str) := l.map fun p => ((mg p.1).getD .none, p.2)
theorem post_tell {G : GC} {t : SubT} {Q : VK} {EW : XK} {m m' : MH} {H H' : Hp} {e : Ex} {st : Store} {cls : Value} {d : Option Addr} (hs : ∀ p ∈ t, ExmZ G.K G.mg p.1 p.2.1 p.2.2) (r : RepEx G m' H' e cls d) (lq : Le m H m' H') (S : Sim G m' H' st) :
    ∀ {l : List (Str × Str)}, (∀ p ∈ l, PyData.strOk p.2 = true ∧ p.2.length ≤ 16777216) → Post G m H (Rep G) EW Q (tellX t l e st) → wTell G.K Q (lvs G.mg l) cls d H'
  | [], _, P => P.elim
  | (c, w) :: l, hw, P => by
    unfold tellX at P
    cases h : subOf t e.cls c with
    | none => rw [h] at P; exact P.elim
    | some b =>
      rw [h] at P
      obtain ⟨C, D, e1, e2, e3⟩ := (hs _ (subOf_mem h)).ex
      obtain ⟨C', f1, f2, _⟩ := id r
      rw [f1] at e1; cases e1
      have e2 : G.mg c = some (.ref D) := e2
      show ∃ b, PySem.W.exmOne G.K cls ((G.mg c).getD .none) = some b ∧ _ ∧ _
      rw [e2, f2]
      refine ⟨b, e3, fun hb => ?_, fun hb => ?_⟩
      · subst hb
        exact P (.str w) m' H' lq S (.str w (hw (c, w) List.mem_cons_self).1 (hw (c, w) List.mem_cons_self).2)
      · subst hb
        rw [← f2]
        exact post_tell hs r lq S (fun p hp => hw p (List.mem_cons_of_mem _ hp)) P
theorem Le.ofN {m : MH} {H H1 : Hp} (e : LamX.ExtN H H1) : Le m H m H1 :=
  ⟨fun _ _ h => h, fun _ _ h => .inl h, fun _ h => h, fun _ h => .inl h, fun a o h _ nt => e a o h nt, fun a h => by
    cases q : H a with
    | none => exact .inl q
    | some o =>
      by_cases z : NT o
      · exact (h.no (e a o q z) z).elim
      · have : ∃ ps, o = .tbl ps := Classical.byContradiction fun n => z fun ps k => n ⟨ps, k⟩
        obtain ⟨ps, rfl⟩ := this
        exact .inr ⟨ps, q⟩⟩
theorem Sim.ofN {G : GC} {m : MH} {H H1 : Hp} {st : Store} (S : Sim G m H st) (e : LamX.ExtN H H1) (t : LamX.Tabs G.T H1) : Sim G m H1 st :=
  ⟨S.dom, S.lt, S.inj, S.own, fun a h => by
    obtain ⟨o, q, nt⟩ := S.live a h
    exact ⟨o, e a o q nt, nt⟩, fun n c a e1 e2 => (S.cell n c a e1 e2).stay ((Le.ofN e).stays S) (by
    obtain ⟨o, q, nt⟩ := S.live a (S.own n a e2)
    rw [q, e a o q nt]), t⟩
theorem ze_tell [TB] {X : Cx} {x a : Str} {st : Stmt} {Ng : List Str} {params : Arguments} {body : Expr} {scope : Scope} {p lpos pos : Pos} {k : Nat} {fb : UEnv → Store → R U} {t : SubT} {l : List (Str × Str)} (d : DefZ X.K X.mg x st [a]) (lz : LamZ X) (hr : Room (k + 2) X.A)
    (Sg : FnScope Ng [a] (defScope st)) (hva : Vis (defScope st) a) (hG : ∀ (g : Addr) (cdv : Value), LamX.GivesTo X Ng x (defScope st) g cdv (defBody st) a (X.env.qual ++ "<lambda>") (TTell X.K (lvs X.mg l)))
    (hs : ∀ p ∈ t, ExmZ X.K X.mg p.1 p.2.1 p.2.2) (hw : ∀ p ∈ l, PyData.strOk p.2 = true ∧ p.2.length ≤ 16777216)
    (hbody : ∀ (A : Around) (outer : List Env) (s : Shared) (H : Hp) (E : XK) (f c' : Addr), Room k (A.deeper (LamX.lamEnv X scope s.heap.objs.size f c')) → ZE (LamX.lamCx X A outer s H E scope f c') body fb)
    (hg : Gl X x := by rfl) (hNg : Ng[0]? = some a := by rfl) (L : LamX.LamS X.env.scope scope := by exact LamX.lamS_by rfl) (hdef : defaultsOf params X.env = ([], []) := by rfl)
    (hbind : ∀ (q : Str) (cl : List (Str × Addr)) (pm cv ctv : Value), bindArgs (PySem.W.kla_fn "<lambda>" q params body scope cl pm cv ctv) ⟨[], []⟩ = pure [] := by intros; rfl)
    (hdb : (x == ("__debug__" : Str)) = false := by decide) (hd : (a == ("__debug__" : Str)) = false := by decide) (hcd : (a == ("__classdict__" : Str)) = false := by decide) :
    ZE X (.Call (.Name x p) [.Lambda params body scope lpos] [] pos) (dTell t l fb) := fun W xg => by
  obtain ⟨g, fd, F, hm, bd⟩ := d.ex
  obtain ⟨oc, od, kV, doc, pm, an, cdv, ct, osl, rfl, lk, hcg⟩ := F.ex
  obtain ⟨c, P, tb, hcode, hmT, hu⟩ := lz.ex
  refine PE.imp (LamX.pe_lamcall (T := TB.T) (TT := TTell X.K (lvs X.mg l)) (t := fun E => tZ (gc X) (fun cls d _ H => E cls d H) fb) hg hm F.kp lk hcg bd Sg hNg hva (hG g cdv) tb hcode hmT hu hr L hdef hbind
    (fun A outer s H E f c' hr => hbody A outer s H E f c' hr (fun cls d _ H => E cls d H) ⟨takes_of rfl rfl rfl rfl, passes_of rfl⟩) hdb hd hcd) fun σ H Q ⟨ρ, st, m, S, E, P⟩ => ⟨S.tabs, fun H1 eN t1 => ?_⟩
  have l1 : Le m H m H1 := Le.ofN eN
  have S1 := S.ofN eN t1
  refine ⟨ρ, st, m, S1, E.mono S l1, ?_⟩
  have P' : Post (gc X) m H (Rep (gc X)) (WE2 W σ) Q (tellU t l (fb ρ st)) := P
  cases e : fb ρ st with
  | ok u st1 =>
    rw [e] at P'
    exact fun v m2 H2 l2 S2 r => P' (.str "") m2 H2 (l1.trans l2) S2 (.str "" (by decide +kernel) (by decide +kernel))
  | exc x st1 =>
    rw [e] at P'
    exact fun cls d m2 H2 l2 S2 r => post_tell (G := gc X) hs r (l1.trans l2) S2 hw P'
  | stuck => rw [e] at P'; exact P'.elim
theorem ExcZ.getD {K : PySem.W.Frag} {mg : Str → Option Value} {x : Str} (e : ExcZ K mg x) : mg x = some ((mg x).getD .none) := by
  obtain ⟨C, _, _, _, _, _, h, _⟩ := e.ex
  rw [h]; rfl
/-! ### a def whose code object is told -/
structure FunC (K : PySem.W.Frag) (x qual : Str) (st : Stmt) (f : Addr) (fd : FuncData) (cdv : Value) : Prop where
  ex : ∃ (oc : Value) (od : Option Addr) (kV doc pm : Value) (an : Option Addr) (ct : Value) (osl : Array (Option Value)),
    fd = PySem.W.fnOf x qual (defArgs st) (defBody st) (defScope st) .none kV doc pm an cdv ct ∧ K.lookup f = some ⟨oc, od, .func fd, osl⟩ ∧ PySem.W.codeIn K cdv qual = true
theorem fnZC [TB] {P : Program} {w : World} {K : PySem.W.Frag} {mg : Str → Option Value} {base : Heap} {x qual : Str} {st : Stmt} {f : Addr} {fd : FuncData} {cdv : Value} {N ps : List Str} {k : Nat} {g : UEnv → Store → R Fl} (F : FunC K x qual st f fd cdv) (S : FnScope N ps (defScope st))
    (hb : ∀ (A : Around) (outer : List Env) (s : Shared) (H : Hp) (E : XK), Room k (A.deeper (envOfC qual (defScope st) s.heap.objs.size f cdv)) → ZB (cxOf (L2.CX P w) P w K mg base N qual (defScope st) f cdv A outer s H E) (defBody st) g) :
    FnOk P w K mg base (L2.CX P w) (k + 1) f fd ps (spZ ⟨K, mg, TB.T, w⟩ ps.length (runB N.length g)) := by
  obtain ⟨oc, od, kV, doc, pm, an, ct, osl, rfl, lk, hcd⟩ := F.ex
  refine fn_of lk hcd S (fun vs H Q E h => ?_) (fun A outer s H vs Q E hr h => ?_)
  · obtain ⟨us, st', m, hl, _⟩ := h
    exact hl
  · obtain ⟨us, st', m, hl, S', r, Pt⟩ := h
    refine ⟨_, hb A outer s H E hr (fun cls d _ H => E cls d H) ⟨takes_of rfl rfl rfl rfl, passes_of rfl⟩, ?_⟩
    have hpl : ps.length ≤ N.length := by have := congrArg List.length S.pre; rw [List.length_take] at this; omega
    refine ⟨_, st', m, S', renv_start r N (by rw [hl]; exact hpl), ?_⟩
    unfold runB at Pt
    cases e : g (us.map some ++ List.replicate (N.length - us.length) none) st' with
    | ok r1 st1 =>
      rw [e] at Pt
      cases r1 with
      | nx ρ => exact fun σ m1 H1 l S1 E1 => Pt .non m1 H1 l S1 .non
      | rt u => exact Pt
      | bk ρ => exact Pt.elim
      | ct ρ => exact Pt.elim
    | exc x st1 => rw [e] at Pt; exact fun c d σ m1 H1 l S1 r1 => Pt c d m1 H1 l S1 r1
    | stuck => rw [e] at Pt; exact Pt
theorem func_mk {K : PySem.W.Frag} {x qual : Str} {st : Stmt} {f : Addr} {oc : Value} {od an : Option Addr} {osl : Array (Option Value)} {kV doc pm cdv ct : Value} (l : K.lookup f = some ⟨oc, od, .func (PySem.W.fnOf x qual (defArgs st) (defBody st) (defScope st) .none kV doc pm an cdv ct), osl⟩)
    (c : PySem.W.codeIn K cdv qual = true) : FunC K x qual st f (PySem.W.fnOf x qual (defArgs st) (defBody st) (defScope st) .none kV doc pm an cdv ct) cdv := ⟨oc, od, kV, doc, pm, an, ct, osl, rfl, l, c⟩
theorem exc_mk {K : PySem.W.Frag} {h : Heap} {mg : Str → Option Value} {x : Str} {C : Addr} (X : K.In h) (G : h.Ns mainGlobals mg) (a : PySem.W.nsIn K mainGlobals x = some (some (.ref C)))
    (q : PySem.W.excIn K C [.type "ValueError", .type "Exception", .type "BaseException", .type "object"] "ValueError.__new__" = true) (k : PySem.W.keepIn K (.ref C) = true) (s : PySem.W.subIn K (.ref C) (.type "BaseException") = some true) (t : PySem.W.typeIn K (.ref C) = some (.type "type")) : ExcZ K mg x :=
  ⟨C, _, _, _, _, PySem.F.excBase_ValueError, PySem.W.mg_of X G a, q, k, s, t⟩
theorem exm_mk {K : PySem.W.Frag} {h : Heap} {mg : Str → Option Value} {x c : Str} {b : Bool} {C D : Addr} (X : K.In h) (G : h.Ns mainGlobals mg) (a : PySem.W.nsIn K mainGlobals x = some (some (.ref C))) (a2 : PySem.W.nsIn K mainGlobals c = some (some (.ref D)))
    {cd : ClassData} (s2 : PySem.W.subIn K (.ref D) (.type "BaseException") = some true) (k : PySem.W.clsIn K D = some cd) (t : PySem.W.typeIn K (.ref D) = some (.type "type")) (sb : PySem.W.subIn K (.ref C) (.ref D) = some b) : ExmZ K mg x c b :=
  ⟨C, D, PySem.W.mg_of X G a, PySem.W.mg_of X G a2, by
    unfold PySem.W.exmOne
    rw [s2]
    simp [PySem.W.kitCls, k, t, sb]⟩
theorem look_none {P : Addr} : ∀ {K : PySem.W.Frag}, (K.map (·.1)).contains P = false → K.lookup P = none
  | [], _ => rfl
  | (a, o) :: K, h => by
    simp only [List.map_cons, List.contains_cons, Bool.or_eq_false_iff] at h
    simp only [List.lookup, h.1]
    exact look_none h.2
/-- the end of a law whose top def makes lambdas -/
theorem walkZT {l : PySem.W.OpenLaw} {q : Program} {loose : List Str} {XP : (Str → Option Value) → Heap → Prop} {d : DefRec} {K : Params → PySem.W.Frag} {as : List Addr} {e : ∀ P, as = (K P).map (·.1)} {ts : List Addr} {k : Nat} {F : FnZ} {x nm : Str} {c P : Addr}
    (hn : l.most = some 63) (hdf : d.params.defaults = []) (hr : Room k callerA) (hP : P ∈ ts)
    (hlaw : ∀ ns : List Int, ns.length ≤ 63 → ∀ u, u = .frz (ns.map .int) ∨ u = .lst (ns.map .int) → ∃ st, F [u] [] = .ok (.bl true) st)
    (hF : ∀ (w : World) (mg : Str → Option Value) (fa : Addr) (h : Heap), (K w.params).In h → h.Ns mainGlobals mg → mg d.name = some (.ref fa) →
      ∃ fd : FuncData, (∀ (s : Shared) (u : Value), BindsTo s fd ⟨[u], []⟩ [(x, u)]) ∧ ∀ base : Heap, LamX.TabB base mg c P → FnOk l.prog w (K w.params) mg base (L2.CX l.prog w) k fa fd [x] (spZ ⟨K w.params, mg, [(P, nm)], w⟩ 1 F))
    (nT : as.contains P = false) (hC : ∀ w : World, PySem.W.codeHdIn (K w.params) c P = true) :
    PySem.W.WalkO q loose XP (PySem.W.kmHook K as e ts).says l.row.toRowW d [] (fun f vs => PySem.call f vs) := by
  refine LamX.walk_ofTs (l := l) (n := 63) (k := k) (x := x) (CX := fun w => L2.CX l.prog w) hn (by decide) hdf hr (fun w h Y => PySem.W.km_in_of Y) (fun w mg fa h Y KX G hm => ?_) (fun w H s e s' z => ?_)
  · obtain ⟨fd, hb, hf⟩ := hF w mg fa h KX G hm
    refine ⟨fd, [(c, P)], spZ ⟨K w.params, mg, [(P, nm)], w⟩ 1 F, fun p hp => ?_, fun p hp => ?_, fun p hp => ?_, hb, fun H a ns hl _ hT hS => ?_, fun base _ _ hB => hf base (hB (c, P) (List.mem_singleton.mpr rfl))⟩
    · rw [List.mem_singleton.mp hp]; exact PySem.W.km_tabs_of Y P hP
    · rw [List.mem_singleton.mp hp]; exact look_none (by rw [← e w.params]; exact nT)
    · rw [List.mem_singleton.mp hp]; exact PySem.W.codeHd_of_K KX (hC w)
    · have tb : LamX.Tabs [(P, nm)] H := fun p hp => by
        rw [List.mem_singleton.mp hp]
        exact LamX.TabS.nil (hT (c, P) (List.mem_singleton.mpr rfl))
      have key : ∀ u : U, (u = .frz (ns.map .int) ∨ u = .lst (ns.map .int)) → Rep ⟨K w.params, mg, [(P, nm)], w⟩ ⟨fun _ => none, fun _ => False⟩ H u (.ref a) → spZ ⟨K w.params, mg, [(P, nm)], w⟩ 1 F [.ref a] H (fun v _ => v = .bl true) fun _ _ _ => False := fun u hu r => by
        obtain ⟨st, e⟩ := hlaw ns hl u hu
        refine ⟨[u], [], ⟨fun _ => none, fun _ => False⟩, rfl, ⟨fun n h => absurd h (Nat.not_lt_zero n), fun n a h => (nomatch h), fun n k a h => (nomatch h), fun n a h => (nomatch h), fun a h => (show False from h).elim, fun n c a h => by simp at h, tb⟩, .cons r .nil, ?_⟩
        rw [e]
        intro v m' H' l S r
        cases r
        rfl
      rcases hS with (h | ⟨o, h⟩) | h
      · exact key _ (.inr rfl) (.lst h (fun z => z) (reps_ints ns))
      · exact key _ (.inl rfl) (.frz h (fun z => z) (reps_ints ns))
      · exact key _ (.inl rfl) (.frzK h (reps_ints ns))
  · obtain ⟨_, _, _, _, _, _, _, _, _, _, _, _, z⟩ := z
    exact z
end Z


namespace Z
open PySem PySem.Spec PyProof.Rows L2

/-! ### own sorting -/
def insU (x : U) : List U → List U
  | [] => [x]
  | y :: ys => if ltU y x = true then y :: insU x ys else x :: y :: ys
def sortU : List U → List U
  | [] => []
  | x :: xs => insU x (sortU xs)
def strsU : List U → Option (List Str)
  | [] => some []
  | .str x :: r => (strsU r).map (x :: ·)
  | _ :: _ => none
theorem strsU_eq : ∀ {us : List U} {xs : List Str}, strsU us = some xs → us = xs.map .str
  | [], xs, h => by cases h; rfl
  | u :: us, xs, h => by
    cases u with
    | str x =>
      simp only [strsU, Option.map_eq_some_iff] at h
      obtain ⟨ys, e, rfl⟩ := h
      rw [strsU_eq e]; rfl
    | _ => cases h
def insS (x : Str) : List Str → List Str
  | [] => [x]
  | y :: ys => if y.cps.toList < x.cps.toList then y :: insS x ys else x :: y :: ys
def sortS : List Str → List Str
  | [] => []
  | x :: xs => insS x (sortS xs)
theorem insU_strs (x : Str) : ∀ ys : List Str, insU (.str x) (ys.map .str) = (insS x ys).map .str
  | [] => rfl
  | y :: ys => by
    simp only [List.map_cons, insU, insS, ltU, decide_eq_true_eq]
    split
    · rw [insU_strs x ys]; rfl
    · rfl
theorem sortU_strs : ∀ ys : List Str, sortU (ys.map .str) = (sortS ys).map .str
  | [] => rfl
  | y :: ys => by
    simp only [List.map_cons, sortU, sortS]
    rw [sortU_strs ys, insU_strs]
theorem insS_perm (x : Str) : ∀ ys, (insS x ys).Perm (x :: ys)
  | [] => .refl _
  | y :: ys => by
    unfold insS
    split
    · exact ((insS_perm x ys).cons y).trans (.swap x y ys)
    · exact .refl _
theorem sortS_perm : ∀ ys, (sortS ys).Perm ys
  | [] => .refl _
  | y :: ys => (insS_perm y (sortS ys)).trans ((sortS_perm ys).cons y)
def LeS (x y : Str) : Prop := ¬ y.cps.toList < x.cps.toList
theorem LeS.anti {x y : Str} (h : LeS x y) (k : LeS y x) : x = y := by
  have : x.cps.toList = y.cps.toList := List.le_antisymm (List.not_lt.mp h) (List.not_lt.mp k)
  obtain ⟨a⟩ := x
  obtain ⟨b⟩ := y
  congr
  exact Array.toList_inj.mp this
theorem LeS.trans {x y z : Str} (h : LeS x y) (k : LeS y z) : LeS x z := fun q => (List.not_lt.mpr (List.le_trans (List.not_lt.mp h) (List.not_lt.mp k))) q
theorem LeS.of_lt {x y : Str} (h : x.cps.toList < y.cps.toList) : LeS x y := fun q => List.lt_irrefl _ (List.lt_trans h q)
theorem insS_sorted (x : Str) : ∀ ys : List Str, ys.Pairwise LeS → (insS x ys).Pairwise LeS
  | [], _ => by simp [insS]
  | y :: ys, h => by
    rw [List.pairwise_cons] at h
    unfold insS
    split
    · rename_i q
      rw [List.pairwise_cons]
      refine ⟨fun z hz => ?_, insS_sorted x ys h.2⟩
      rcases List.mem_cons.mp ((insS_perm x ys).mem_iff.mp hz) with rfl | hz
      · exact LeS.of_lt q
      · exact h.1 z hz
    · rename_i q
      rw [List.pairwise_cons]
      refine ⟨fun z hz => ?_, List.pairwise_cons.mpr h⟩
      rcases List.mem_cons.mp hz with rfl | hz
      · exact q
      · exact LeS.trans q (h.1 z hz)
theorem sortS_sorted : ∀ ys : List Str, (sortS ys).Pairwise LeS
  | [] => by simp [sortS]
  | y :: ys => insS_sorted y _ (sortS_sorted ys)
theorem risingS_pw : ∀ {ys : List Str} {p : Str}, risingS p ys = true → (∀ x ∈ ys, LeS p x) ∧ ys.Pairwise LeS
  | [], p, _ => ⟨fun x h => (nomatch h), List.Pairwise.nil⟩
  | y :: ys, p, h => by
    simp only [risingS, Bool.and_eq_true, Bool.not_eq_true'] at h
    obtain ⟨h1, h2⟩ := h
    rw [ltCps_eq, decide_eq_false_iff_not] at h1
    obtain ⟨a, b⟩ := risingS_pw h2
    refine ⟨fun x hx => ?_, List.pairwise_cons.mpr ⟨a, b⟩⟩
    rcases List.mem_cons.mp hx with rfl | hx
    · exact h1
    · exact LeS.trans h1 (a x hx)
theorem sortedS_pw : ∀ {ys : List Str}, sortedS ys = true → ys.Pairwise LeS
  | [], _ => .nil
  | y :: ys, h => let ⟨a, b⟩ := risingS_pw (show risingS y ys = true from h); List.pairwise_cons.mpr ⟨a, b⟩
theorem sorted_unique : ∀ {xs ys : List Str}, xs.Perm ys → xs.Pairwise LeS → ys.Pairwise LeS → xs = ys
  | xs, ys, h, h1, h2 => h.eq_of_pairwise (fun a b _ _ k l => LeS.anti k l) h1 h2
theorem sortS_of {xs ys : List Str} (h : ys.Perm xs) (h2 : sortedS ys = true) : ys = sortS xs := sorted_unique (h.trans (sortS_perm xs).symm) (sortedS_pw h2) (sortS_sorted xs)

section
variable {X : Cx} {a b c e o f : Expr} {pos apos : Pos} {fa fb fc : UEnv → Store → R U}
/-! ### dicts -/
@[simp] def dNewD : UEnv → Store → R U := fun _ st => .ok (.hdl st.length) (st ++ [.dct [] []])
theorem ze_newD [TB] : ZE X (.Dict [] [] pos) dNewD := fun W xg =>
  PE.imp pe_dnewK fun σ H Q ⟨ρ, st, m, S, E, P⟩ q hq => by
    refine P _ (mput m st.length q) _ (le_alloc S hq) (S.alloc hq ⟨[], upd_same, .nil, .nil⟩) (.hdl ?_)
    exact if_pos rfl
theorem ze_dct0 [TB] : ZE X (.Dict [] [] pos) (dC (.dct [] [])) := fun W xg =>
  PE.imp pe_dnewK fun σ H Q ⟨ρ, st, m, S, E, P⟩ q hq => P _ m _ (le_new hq) (S.new hq) (.dct upd_same (S.off hq) .nil .nil)
def isDct (st : Store) (u : U) : Bool := match deref st u with
  | .dct _ _ => true
  | _ => false
def getU (st : Store) (d k x : U) : Option U := match deref st d with
  | .dct ks us => if isKey k = true then some ((dGetU ks us k).getD x) else none
  | _ => none
@[simp] def dGet (fa fb fc : UEnv → Store → R U) : UEnv → Store → R U := fun ρ st => (fa ρ st).bind fun d st1 => if isDct st1 d = true then (fb ρ st1).bind fun k st2 => (fc ρ st2).bind fun x st3 => R.ofO st3 (getU st3 d k x) else .stuck
theorem isD_of {G : GC} {m : MH} {H : Hp} {st : Store} {u : U} {v : V} (S : Sim G m H st) (r : Rep G m H u v) (e : isDct st u = true) : ∃ a, v = .ref a ∧ IsD H a := by
  unfold isDct at e
  split at e
  · rename_i ks us h
    obtain ⟨a, kvs, rfl, h, _⟩ := rep_dct S r h
    exact ⟨a, rfl, .inl ⟨kvs, .inl h⟩⟩
  · cases e
theorem post_opt {G : GC} {m : MH} {H : Hp} {EW : XK} {Q : VK} {st : Store} {o : Option U} (P : Post G m H (Rep G) EW Q (R.ofO st o)) (S : Sim G m H st) {v : V} (h : ∀ u, o = some u → Rep G m H u v) : Q v H := by
  cases o with
  | none => exact P.elim
  | some u => exact P v m H Le.refl S (h u rfl)
theorem ze_get [TB] (hu : X.A.units + 65 < cLine) (ho : ZE X o fa) (he : ZE X e fb) (hf : ZE X f fc) (m : M2 X o "get" apos e f pos := by exact ⟨rfl, rfl, rfl, rfl⟩) : ZE X (.Call (.Attribute o "get" apos) [e, f] [] pos) (dGet fa fb fc) := fun W xg =>
  PE.imp (pe_dget2 (by omega) (ho W xg) (he W xg) (hf W xg) m) fun σ H Q ⟨ρ, st, m, S, E, P⟩ =>
    tz_seq (X := X) (k := fun ρ d st1 => if isDct st1 d = true then (fb ρ st1).bind fun k st2 => (fc ρ st2).bind fun x st3 => R.ofO st3 (getU st3 d k x) else .stuck) S E P fun d st1 v m1 H1 S1 E1 r1 l1 P1 => by
      split at P1
      · rename_i hd
        obtain ⟨a, rfl, ha⟩ := isD_of S1 r1 hd
        refine ⟨a, rfl, ha, ?_⟩
        refine tz_seq (X := X) (k := fun ρ k st2 => (fc ρ st2).bind fun x st3 => R.ofO st3 (getU st3 d k x)) S1 E1 P1 fun k st2 v2 m2 H2 S2 E2 r2 l2 P2 => ?_
        refine tz_seq (X := X) (k := fun ρ x st3 => R.ofO st3 (getU st3 d k x)) S2 E2 P2 fun x st3 v3 m3 H3 S3 E3 r3 l3 P3 => ?_
        have rd := r1.mono S1 (l2.trans l3)
        have rk := r2.mono S2 l3
        unfold getU at P3
        split at P3
        · rename_i ks us hq
          obtain ⟨a', kvs, ea, h1, h2, h3⟩ := rep_dct S3 rd hq
          cases ea
          split at P3
          · rename_i hk
            obtain ⟨key, ek⟩ := key_of rk hk
            subst ek
            refine ⟨_, DGet.k h1, ?_⟩
            rcases get_rel rk h2 h3 with ⟨u1, v1, a1, a2, q1⟩ | ⟨a1, a2⟩
            · rw [a1] at P3; rw [a2]; exact post_ok P3 S3 q1
            · rw [a1] at P3; rw [a2]; exact post_ok P3 S3 r3
          · exact P3.elim
        · exact P3.elim
      · exact P1.elim
/-! ### dict(pairs) -/
def prsU : List U → Option (List U × List U)
  | [] => some ([], [])
  | .tup [k, v] :: r => if isKey k = true then (prsU r).map fun p => (k :: p.1, v :: p.2) else none
  | _ :: _ => none
def mrgU : List U → List U → List U → List U → List U × List U
  | ks, us, k :: ks2, u :: us2 => mrgU (dSetK ks k) (dSetV ks us k u) ks2 us2
  | ks, us, _, _ => (ks, us)
def oDict : Op1 := fun st u => match deref st u with
  | .lst xs => (prsU xs).map fun p => .dct (mrgU [] [] p.1 p.2).1 (mrgU [] [] p.1 p.2).2
  | .frz xs => (prsU xs).map fun p => .dct (mrgU [] [] p.1 p.2).1 (mrgU [] [] p.1 p.2).2
  | _ => none
theorem mrg_rel {G : GC} {m : MH} {H : Hp} : ∀ (more kvs : List (L2.Key × V)) (ks us ks2 us2 : List U), Reps G m H ks (kvs.map fun p => kV p.1) → Reps G m H us (kvs.map (·.2)) → Reps G m H ks2 (more.map fun p => kV p.1) → Reps G m H us2 (more.map (·.2)) →
    Reps G m H (mrgU ks us ks2 us2).1 ((mergeK kvs more).map fun p => kV p.1) ∧ Reps G m H (mrgU ks us ks2 us2).2 ((mergeK kvs more).map (·.2))
  | [], kvs, ks, us, _, _, h1, h2, .nil, .nil => ⟨by simpa [mrgU, mergeK] using h1, by simpa [mrgU, mergeK] using h2⟩
  | p :: more, kvs, ks, us, _, _, h1, h2, .cons k1 k2, .cons u1 u2 => by
    have pr := put_rel k1 u1 h1 h2
    have z := mrg_rel more (putK kvs p.1 p.2) _ _ _ _ pr.1 pr.2 k2 u2
    unfold mrgU
    exact z
theorem prs_rel {G : GC} {m : MH} {H : Hp} : ∀ {xs : List U} {vs : List V} {ks us : List U}, Reps G m H xs vs → prsU xs = some (ks, us) → ∃ (ps : List Addr) (kvs : List (L2.Key × V)), vs = ps.map V.ref ∧ Paired (fun p kv => SqT G.K H p [kV kv.1, kv.2]) ps kvs ∧ Reps G m H ks (kvs.map fun p => kV p.1) ∧ Reps G m H us (kvs.map (·.2))
  | [], _, ks, us, .nil, h => by
    cases h
    exact ⟨[], [], rfl, .nil, .nil, .nil⟩
  | x :: xs, _, ks, us, .cons r t, h => by
    unfold prsU at h
    split at h
    · rename_i heq; cases heq
    · rename_i k v r' heq
      cases heq
      split at h
      · rename_i hk
        simp only [Option.map_eq_some_iff] at h
        obtain ⟨⟨ks', us'⟩, e, h⟩ := h
        cases h
        obtain ⟨ps, kvs, rfl, h1, h2, h3⟩ := prs_rel t e
        obtain ⟨a, ws, rfl, hs, rr⟩ := rep_tup (K := G.K) r rfl
        cases rr with
        | cons rk rr => cases rr with
          | cons rv rr => cases rr with
            | nil =>
              obtain ⟨key, ek⟩ := key_of rk hk
              subst ek
              exact ⟨a :: ps, (key, _) :: kvs, rfl, .cons hs h1, .cons rk h2, .cons rv h3⟩
      · cases h
    · cases h
theorem b_dict [TB] (hc : X.calm = true) : BZ1 X (.type "dict") oDict := by
  intro pins s σ H xs us Q I r h
  obtain ⟨m, st, u, x, rfl, S, ru, P⟩ := h
  have key : ∀ ys : List U, (deref st u = .lst ys ∨ u = .frz ys) → PostO (gc X) m H st Q ((prsU ys).map fun p => .dct (mrgU [] [] p.1 p.2).1 (mrgU [] [] p.1 p.2).2) → wpAny (model X.prog X.w) X.A (call (.type "dict") us) (EP X pins σ Q) X.xe s := by
    intro ys e P
    obtain ⟨p, vs, rfl, h1, r1⟩ := rep_seqL (K := X.K) S ru e rfl
    cases hp : prsU ys with
    | none => rw [hp] at P; exact P.elim
    | some q =>
      obtain ⟨ks, ws⟩ := q
      rw [hp] at P
      obtain ⟨ps, kvs, rfl, k1, k2, k3⟩ := prs_rel r1 hp
      obtain ⟨q1, q2⟩ := mrg_rel kvs [] [] [] ks ws .nil .nil k2 k3
      exact call_dictP hc pins s σ H _ us Q I r ⟨p, ps, kvs, rfl, h1, k1, fun q hq => P _ m _ (le_new hq) (S.new hq) (.dct upd_same (S.off hq) (q1.mono S (le_new hq)) (q2.mono S (le_new hq)))⟩
  unfold oDict at P
  split at P
  · rename_i ys e; exact key ys (.inl e) P
  · rename_i ys e; exact key ys (.inr (deref_frz e)) P
  · exact P.elim
/-! ### sorted(a dict with texts) -/
def oSorted : Op1 := fun st u => match deref st u with
  | .dct ks _ => match strsU ks with
    | some _ => if ks.length < 64 then some (.lst (sortU ks)) else none
    | none => none
  | _ => none
theorem reps_strs {G : GC} {m : MH} {H : Hp} : ∀ {xs : List Str} {vs : List V}, Reps G m H (xs.map .str) vs → vs = xs.map .str ∧ ∀ x ∈ xs, PyData.strOk x = true ∧ x.length ≤ 16777216
  | [], _, .nil => ⟨rfl, fun _ h => nomatch h⟩
  | x :: xs, _, .cons r t => by
    obtain ⟨rfl, h⟩ := reps_strs t
    obtain ⟨rfl, h2⟩ := rep_str r
    refine ⟨rfl, fun y hy => ?_⟩
    rcases List.mem_cons.mp hy with rfl | hy
    · exact h2
    · exact h y hy
theorem strs_reps {G : GC} {m : MH} {H : Hp} : ∀ {xs : List Str}, (∀ x ∈ xs, PyData.strOk x = true ∧ x.length ≤ 16777216) → Reps G m H (xs.map .str) (xs.map .str)
  | [], _ => .nil
  | x :: xs, h => .cons (.str x (h x (by simp)).1 (h x (by simp)).2) (strs_reps fun y hy => h y (by simp [hy]))
theorem kV_strs : ∀ {kvs : List (L2.Key × V)} {xs : List Str}, (kvs.map fun p => kV p.1) = xs.map V.str → kvs.map (·.1) = xs.map Sum.inr
  | [], [], _ => rfl
  | [], _ :: _, h => by cases h
  | _ :: _, [], h => by cases h
  | p :: kvs, x :: xs, h => by
    simp only [List.map_cons, List.cons.injEq] at h ⊢
    refine ⟨?_, kV_strs h.2⟩
    have := h.1
    cases q : p.1 with
    | inl i => rw [q] at this; cases this
    | inr y => rw [q] at this; cases this; rfl
theorem b_sorted [TB] (hc : X.calm = true) : BZ1 X (.builtin "sorted") oSorted := by
  intro pins s σ H xs us Q I r h
  obtain ⟨m, st, u, x, rfl, S, ru, P⟩ := h
  unfold oSorted at P
  split at P
  · rename_i ks ws e
    obtain ⟨p, kvs, rfl, h1, h2, h3⟩ := rep_dct S ru e
    split at P
    · rename_i zs hz
      have ez := strsU_eq hz
      subst ez
      obtain ⟨e1, h4⟩ := reps_strs h2
      split at P
      · rename_i hl
        rw [List.length_map] at hl
        refine call_sortedD hc pins s σ H _ us Q I r ⟨p, kvs, zs, rfl, .inl h1, kV_strs e1, hl, fun ys q hp hs hq => ?_⟩
        rw [sortU_strs] at P
        rw [sortS_of hp hs]
        refine P _ m _ (le_new hq) (S.new hq) (.lst upd_same (S.off hq) ?_)
        exact strs_reps fun y hy => h4 y ((sortS_perm zs).mem_iff.mp hy)
      · exact P.elim
    · exact P.elim
  · exact P.elim
end
end Z

namespace Z
open PySem PySem.Spec PyProof.Rows L2

/-! ### cells that a call makes are dropped when it ends -/
mutual
/-- all its cells lie below n -/
def hltU (n : Nat) : U → Bool
  | .non => true
  | .bl _ => true
  | .int _ => true
  | .str _ => true
  | .fn _ => true
  | .hdl k => decide (k < n)
  | .tup xs => hltUs n xs
  | .lst xs => hltUs n xs
  | .frz xs => hltUs n xs
  | .dct ks us => hltUs n ks && hltUs n us
  | .kdc _ us => hltUs n us
def hltUs (n : Nat) : List U → Bool
  | [] => true
  | x :: xs => hltU n x && hltUs n xs
end
def hltFs (n : Nat) : List (Str × U) → Bool
  | [] => true
  | p :: r => hltU n p.2 && hltFs n r
def hltC (n : Nat) : Cell → Bool
  | .lst xs => hltUs n xs
  | .dct ks us => hltUs n ks && hltUs n us
  | .ins _ fs => hltFs n fs
  | .dtu ks us => hltUs n ks && hltUs n us
mutual
def beqU : U → U → Bool
  | .non, .non => true
  | .bl a, .bl b => a == b
  | .int a, .int b => a == b
  | .str a, .str b => a == b
  | .fn a, .fn b => a == b
  | .hdl a, .hdl b => a == b
  | .tup a, .tup b => beqUs a b
  | .lst a, .lst b => beqUs a b
  | .frz a, .frz b => beqUs a b
  | .dct a b, .dct c d => beqUs a c && beqUs b d
  | .kdc a b, .kdc c d => a == c && beqUs b d
  | _, _ => false
def beqUs : List U → List U → Bool
  | [], [] => true
  | x :: xs, y :: ys => beqU x y && beqUs xs ys
  | _, _ => false
end
mutual
theorem beqU_eq : ∀ (a b : U), beqU a b = true → a = b
  | .non, b, h => by cases b <;> first | rfl | cases h
  | .bl a, b, h => by
    cases b with
    | bl b => simp only [beqU, beq_iff_eq] at h; rw [h]
    | _ => cases h
  | .int a, b, h => by
    cases b with
    | int b => simp only [beqU, beq_iff_eq] at h; rw [h]
    | _ => cases h
  | .str a, b, h => by
    cases b with
    | str b => simp only [beqU, beq_iff_eq] at h; rw [h]
    | _ => cases h
  | .fn a, b, h => by
    cases b with
    | fn b => simp only [beqU, beq_iff_eq] at h; rw [h]
    | _ => cases h
  | .hdl a, b, h => by
    cases b with
    | hdl b => simp only [beqU, beq_iff_eq] at h; rw [h]
    | _ => cases h
  | .tup a, b, h => by
    cases b with
    | tup b => simp only [beqU] at h; rw [beqUs_eq a b h]
    | _ => cases h
  | .lst a, b, h => by
    cases b with
    | lst b => simp only [beqU] at h; rw [beqUs_eq a b h]
    | _ => cases h
  | .frz a, b, h => by
    cases b with
    | frz b => simp only [beqU] at h; rw [beqUs_eq a b h]
    | _ => cases h
  | .dct a c, b, h => by
    cases b with
    | dct b d => simp only [beqU, Bool.and_eq_true] at h; rw [beqUs_eq a b h.1, beqUs_eq c d h.2]
    | _ => cases h
  | .kdc a c, b, h => by
    cases b with
    | kdc b d => simp only [beqU, Bool.and_eq_true, beq_iff_eq] at h; rw [h.1, beqUs_eq c d h.2]
    | _ => cases h
theorem beqUs_eq : ∀ (a b : List U), beqUs a b = true → a = b
  | [], b, h => by cases b <;> first | rfl | cases h
  | x :: xs, b, h => by
    cases b with
    | nil => cases h
    | cons y ys => simp only [beqUs, Bool.and_eq_true] at h; rw [beqU_eq x y h.1, beqUs_eq xs ys h.2]
end
mutual
theorem beqU_refl : ∀ a : U, beqU a a = true
  | .non => rfl
  | .bl a => by simp [beqU]
  | .int a => by simp [beqU]
  | .str a => by simp [beqU]
  | .fn a => by simp [beqU]
  | .hdl a => by simp [beqU]
  | .tup a => by simp [beqU, beqUs_refl a]
  | .lst a => by simp [beqU, beqUs_refl a]
  | .frz a => by simp [beqU, beqUs_refl a]
  | .dct a c => by simp [beqU, beqUs_refl a, beqUs_refl c]
  | .kdc a c => by simp [beqU, beqUs_refl c]
theorem beqUs_refl : ∀ a : List U, beqUs a a = true
  | [] => rfl
  | x :: xs => by simp [beqUs, beqU_refl x, beqUs_refl xs]
end
def beqFs : List (Str × U) → List (Str × U) → Bool
  | [], [] => true
  | p :: r, q :: s => p.1 == q.1 && beqU p.2 q.2 && beqFs r s
  | _, _ => false
theorem beqFs_eq : ∀ (a b : List (Str × U)), beqFs a b = true → a = b
  | [], b, h => by cases b <;> first | rfl | cases h
  | ⟨f, x⟩ :: xs, b, h => by
    cases b with
    | nil => cases h
    | cons y ys =>
      obtain ⟨g, y⟩ := y
      simp only [beqFs, Bool.and_eq_true, beq_iff_eq] at h
      rw [h.1.1, beqU_eq x y h.1.2, beqFs_eq xs ys h.2]
theorem beqFs_refl : ∀ a : List (Str × U), beqFs a a = true
  | [] => rfl
  | p :: r => by simp [beqFs, beqU_refl p.2, beqFs_refl r]
def beqC : Cell → Cell → Bool
  | .lst a, .lst b => beqUs a b
  | .dct a c, .dct b d => beqUs a b && beqUs c d
  | .ins x a, .ins y b => x == y && beqFs a b
  | .dtu a c, .dtu b d => beqUs a b && beqUs c d
  | _, _ => false
theorem beqC_eq {a b : Cell} (h : beqC a b = true) : a = b := by
  cases a with
  | lst a => cases b with
    | lst b => rw [beqUs_eq a b h]
    | _ => cases h
  | dct a c => cases b with
    | dct b d => simp only [beqC, Bool.and_eq_true] at h; rw [beqUs_eq a b h.1, beqUs_eq c d h.2]
    | _ => cases h
  | ins x a => cases b with
    | ins y b => simp only [beqC, Bool.and_eq_true, beq_iff_eq] at h; rw [h.1, beqFs_eq a b h.2]
    | _ => cases h
  | dtu a c => cases b with
    | dtu b d => simp only [beqC, Bool.and_eq_true] at h; rw [beqUs_eq a b h.1, beqUs_eq c d h.2]
    | _ => cases h
theorem beqC_refl (a : Cell) : beqC a a = true := by
  cases a <;> simp [beqC, beqUs_refl, beqFs_refl]
/-- the old cells: as they were, or without new cells in them -/
def okCells (n : Nat) : Store → Store → Bool
  | [], _ => true
  | c :: cs, d :: ds => (hltC n d || beqC c d) && okCells n cs ds
  | _ :: _, [] => false
@[simp] theorem okCells_same (n : Nat) : ∀ (st r : Store), okCells n st (st ++ r) = true
  | [], _ => rfl
  | c :: cs, r => by simp [okCells, beqC_refl, okCells_same n cs r]
@[simp] theorem okCells_self (n : Nat) (st : Store) : okCells n st st = true := by
  have := okCells_same n st []
  simpa using this
mutual
/-- a new list that is handed back stands for itself -/
def melt (st : Store) (n : Nat) : U → Option U
  | .hdl k => if k < n then some (.hdl k) else match st[k]? with
    | some (.lst xs) => if hltUs n xs = true then some (.lst xs) else none
    | some (.dct ks us) => if (hltUs n ks && hltUs n us) = true then some (.dct ks us) else none
    | _ => none
  | .tup xs => (melts st n xs).map .tup
  | .lst xs => (melts st n xs).map .lst
  | .non => some .non
  | .bl b => some (.bl b)
  | .int i => some (.int i)
  | .str x => some (.str x)
  | .fn x => some (.fn x)
  | .frz xs => if hltUs n xs = true then some (.frz xs) else none
  | .dct ks us => if (hltUs n ks && hltUs n us) = true then some (.dct ks us) else none
  | .kdc x us => if hltUs n us = true then some (.kdc x us) else none
def melts (st : Store) (n : Nat) : List U → Option (List U)
  | [] => some []
  | x :: xs => (melt st n x).bind fun y => (melts st n xs).map (y :: ·)
end
mutual
theorem melt_hlt (st : Store) (n : Nat) : ∀ u : U, hltU n u = true → melt st n u = some u
  | .non, _ => by simp [melt]
  | .bl _, _ => by simp [melt]
  | .int _, _ => by simp [melt]
  | .str _, _ => by simp [melt]
  | .fn _, _ => by simp [melt]
  | .hdl k, h => by simp only [hltU, decide_eq_true_eq] at h; simp [melt, h]
  | .tup xs, h => by simp only [hltU] at h; simp [melt, melts_hlt st n xs h]
  | .lst xs, h => by simp only [hltU] at h; simp [melt, melts_hlt st n xs h]
  | .frz xs, h => by simp only [hltU] at h; simp [melt, h]
  | .dct ks us, h => by simp only [hltU] at h; simp only [melt, h, if_true]
  | .kdc x us, h => by simp only [hltU] at h; simp [melt, h]
theorem melts_hlt (st : Store) (n : Nat) : ∀ u : List U, hltUs n u = true → melts st n u = some u
  | [], _ => by simp [melts]
  | x :: xs, h => by
    simp only [hltUs, Bool.and_eq_true] at h
    simp [melts, melt_hlt st n x h.1, melts_hlt st n xs h.2]
end
def hltE (n : Nat) (e : Ex) : Bool := match e.fld with
  | none => true
  | some (_, u) => hltU n u
def trimV (st : Store) (u : U) (st1 : Store) : R U := if okCells st.length st st1 = true then match melt st1 st.length u with
  | some w => .ok w (st1.take st.length)
  | none => .stuck
  else .stuck
def trimE {α : Type} (st : Store) (e : Ex) (st1 : Store) : R α := if okCells st.length st st1 = true ∧ hltE st.length e = true then .exc e (st1.take st.length) else .stuck
def trim (st : Store) : R U → R U
  | .ok u st1 => trimV st u st1
  | .exc e st1 => trimE st e st1
  | .stuck => .stuck
@[simp] theorem trim_stuck (st : Store) : trim st .stuck = .stuck := rfl
theorem trimV_ok (st : Store) (u : U) (r : Store) (h : hltU st.length u = true) : trimV st u (st ++ r) = .ok u st := by
  simp [trimV, melt_hlt _ _ _ h]
theorem trimV_self (st : Store) (u : U) (h : hltU st.length u = true) : trimV st u st = .ok u st := by
  simpa using trimV_ok st u [] h
theorem trimE_self {α : Type} (st : Store) (c : Str) : (trimE st ⟨c, none⟩ st : R α) = .exc ⟨c, none⟩ st := by
  simp [trimE, hltE]
theorem trimE_ok {α : Type} (st r : Store) (c : Str) : (trimE st ⟨c, none⟩ (st ++ r) : R α) = .exc ⟨c, none⟩ st := by
  simp [trimE, hltE]

section
variable {G : GC} {m m' : MH} {H H' : Hp} {st st1 : Store}
/-- the cells below n alone -/
def lowM (m : MH) (n : Nat) : MH := ⟨fun k => if k < n then m.at_ k else none, fun a => m.own a ∧ ∀ k, n ≤ k → m.at_ k ≠ some a⟩
mutual
theorem rep_hlt (S : Sim G m H st) : ∀ {u : U} {v : V}, Rep G m H u v → hltU st.length u = true
  | _, _, .non => rfl
  | _, _, .bl b => rfl
  | _, _, .int i => rfl
  | _, _, .str x h z => rfl
  | _, _, .tup h n r => reps_hlt S r
  | _, _, .tupK h r => reps_hlt S r
  | _, _, .lst h n r => reps_hlt S r
  | _, _, .frz h n r => reps_hlt S r
  | _, _, .frzK h r => reps_hlt S r
  | _, _, .hdl h => decide_eq_true (S.lt _ _ h)
  | _, _, .fn h => rfl
  | _, _, .dct h n e r => by simp only [hltU, reps_hlt S e, reps_hlt S r, Bool.and_self]
  | _, _, .kdc h r => reps_hlt S r
theorem reps_hlt (S : Sim G m H st) : ∀ {us : List U} {vs : List V}, Reps G m H us vs → hltUs st.length us = true
  | _, _, .nil => rfl
  | _, _, .cons r t => by simp only [hltUs, rep_hlt S r, reps_hlt S t, Bool.and_self]
end
theorem flds_hlt (S : Sim G m H st) {us : List (Str × U)} {vs : List (Str × V)} (h : Flds G m H us vs) : hltFs st.length us = true := by
  induction h with
  | nil => rfl
  | cons r _ ih => simp only [hltFs, rep_hlt S r, ih, Bool.and_self]
theorem cell_hlt (S : Sim G m H st) {a : Addr} {c : Cell} (h : CellOk G m H a c) : hltC st.length c = true := by
  cases c with
  | lst xs => obtain ⟨vs, _, r⟩ := h; exact reps_hlt S r
  | dct ks us => obtain ⟨kvs, _, k, r⟩ := h; simp only [hltC, reps_hlt S k, reps_hlt S r, Bool.and_self]
  | ins c fs => obtain ⟨C, dx, gs, _, _, r⟩ := h; exact flds_hlt S r
  | dtu ks us => obtain ⟨L, _, _, k, r⟩ := h; simp only [hltC, reps_hlt S k, reps_hlt S r, Bool.and_self]
mutual
theorem rep_low {n : Nat} : ∀ {u : U} {v : V}, Rep G m H u v → hltU n u = true → Rep G (lowM m n) H u v
  | _, _, .non, _ => .non
  | _, _, .bl b, _ => .bl b
  | _, _, .int i, _ => .int i
  | _, _, .str x h z, _ => .str x h z
  | _, _, .tup h q r, z => .tup h (fun w => q w.1) (reps_low r z)
  | _, _, .tupK h r, z => .tupK h (reps_low r z)
  | _, _, .lst h q r, z => .lst h (fun w => q w.1) (reps_low r z)
  | _, _, .frz h q r, z => .frz h (fun w => q w.1) (reps_low r z)
  | _, _, .frzK h r, z => .frzK h (reps_low r z)
  | _, _, .hdl h, z => .hdl (by
    have z := of_decide_eq_true z
    show (if _ then _ else _) = _
    rw [if_pos z]; exact h)
  | _, _, .fn h, _ => .fn h
  | _, _, .dct h q e r, z => by
    simp only [hltU, Bool.and_eq_true] at z
    exact .dct h (fun w => q w.1) (reps_low e z.1) (reps_low r z.2)
  | _, _, .kdc h r, z => .kdc h (reps_low r z)
theorem reps_low {n : Nat} : ∀ {us : List U} {vs : List V}, Reps G m H us vs → hltUs n us = true → Reps G (lowM m n) H us vs
  | _, _, .nil, _ => .nil
  | _, _, .cons r t, z => by
    simp only [hltUs, Bool.and_eq_true] at z
    exact .cons (rep_low r z.1) (reps_low t z.2)
end
theorem flds_low {n : Nat} {us : List (Str × U)} {vs : List (Str × V)} (h : Flds G m H us vs) : hltFs n us = true → Flds G (lowM m n) H us vs := by
  induction h with
  | nil => exact fun _ => .nil
  | cons r _ ih =>
    intro z
    simp only [hltFs, Bool.and_eq_true] at z
    exact .cons (rep_low r z.1) (ih z.2)
theorem cell_low {n : Nat} {a : Addr} {c : Cell} (h : CellOk G m H a c) (z : hltC n c = true) : CellOk G (lowM m n) H a c := by
  cases c with
  | lst xs => obtain ⟨vs, e, r⟩ := h; exact ⟨vs, e, reps_low r z⟩
  | dct ks us =>
    obtain ⟨kvs, e, k, r⟩ := h
    simp only [hltC, Bool.and_eq_true] at z
    exact ⟨kvs, e, reps_low k z.1, reps_low r z.2⟩
  | ins c fs => obtain ⟨C, dx, gs, e, e2, r⟩ := h; exact ⟨C, dx, gs, e, e2, flds_low r z⟩
  | dtu ks us =>
    obtain ⟨L, e, e2, k, r⟩ := h
    simp only [hltC, Bool.and_eq_true] at z
    exact ⟨L, e, e2, reps_low k z.1, reps_low r z.2⟩
mutual
theorem rep_melt {n : Nat} (S : Sim G m H st) : ∀ {u w : U} {v : V}, Rep G m H u v → melt st n u = some w → Rep G (lowM m n) H w v
  | _, _, _, .non, e => by simp only [melt, Option.some.injEq] at e; subst e; exact .non
  | _, _, _, .bl b, e => by simp only [melt, Option.some.injEq] at e; subst e; exact .bl b
  | _, _, _, .int i, e => by simp only [melt, Option.some.injEq] at e; subst e; exact .int i
  | _, _, _, .str x h z, e => by simp only [melt, Option.some.injEq] at e; subst e; exact .str x h z
  | _, _, _, .tup h q r, e => by
    simp only [melt, Option.map_eq_some_iff] at e
    obtain ⟨ws, e1, rfl⟩ := e
    exact .tup h (fun w => q w.1) (reps_melt S r e1)
  | _, _, _, .tupK h r, e => by
    simp only [melt, Option.map_eq_some_iff] at e
    obtain ⟨ws, e1, rfl⟩ := e
    exact .tupK h (reps_melt S r e1)
  | _, _, _, .lst h q r, e => by
    simp only [melt, Option.map_eq_some_iff] at e
    obtain ⟨ws, e1, rfl⟩ := e
    exact .lst h (fun w => q w.1) (reps_melt S r e1)
  | _, _, _, .frz h q r, e => by
    simp only [melt] at e
    split at e
    · rename_i z; cases e; exact .frz h (fun w => q w.1) (reps_low r z)
    · cases e
  | _, _, _, .frzK h r, e => by
    simp only [melt] at e
    split at e
    · rename_i z; cases e; exact .frzK h (reps_low r z)
    · cases e
  | _, _, _, .hdl h, e => by
    simp only [melt] at e
    split at e
    · rename_i z
      cases e
      exact .hdl (by
        show (if _ then _ else _) = _
        rw [if_pos z]; exact h)
    · rename_i z
      have no : ∀ a, m.at_ _ = some a → ¬ (lowM m n).own a := fun a ha w => w.2 _ (Nat.le_of_not_lt z) ha
      split at e
      · rename_i xs hx
        split at e
        · rename_i hh
          cases e
          obtain ⟨vs, e1, r⟩ := S.cell _ _ _ hx h
          exact .lst e1 (no _ h) (reps_low r hh)
        · cases e
      · rename_i ks us hx
        split at e
        · rename_i hh
          cases e
          rw [Bool.and_eq_true] at hh
          obtain ⟨kvs, e1, k, r⟩ := S.cell _ _ _ hx h
          exact .dct e1 (no _ h) (reps_low k hh.1) (reps_low r hh.2)
        · cases e
      · cases e
  | _, _, _, .fn h, e => by simp only [melt, Option.some.injEq] at e; subst e; exact .fn h
  | _, _, _, .dct h q k r, e => by
    simp only [melt] at e
    split at e
    · rename_i z; cases e; rw [Bool.and_eq_true] at z; exact .dct h (fun w => q w.1) (reps_low k z.1) (reps_low r z.2)
    · cases e
  | _, _, _, .kdc h r, e => by
    simp only [melt] at e
    split at e
    · rename_i z; cases e; exact .kdc h (reps_low r z)
    · cases e
theorem reps_melt {n : Nat} (S : Sim G m H st) : ∀ {us ws : List U} {vs : List V}, Reps G m H us vs → melts st n us = some ws → Reps G (lowM m n) H ws vs
  | _, _, _, .nil, e => by simp only [melts, Option.some.injEq] at e; subst e; exact .nil
  | _, _, _, .cons r t, e => by
    simp only [melts, Option.bind_eq_some_iff, Option.map_eq_some_iff] at e
    obtain ⟨y, e1, ys, e2, rfl⟩ := e
    exact .cons (rep_melt S r e1) (reps_melt S t e2)
end
theorem okCells_at : ∀ {st st1 : Store} {n i : Nat} {d : Cell}, okCells n st st1 = true → i < st.length → st1[i]? = some d → hltC n d = true ∨ st[i]? = some d
  | [], _, _, _, _, _, h, _ => absurd h (Nat.not_lt_zero _)
  | c :: cs, [], _, _, _, h, _, _ => by cases h
  | c :: cs, d :: ds, n, 0, d', h, _, e => by
    simp only [okCells, Bool.and_eq_true, Bool.or_eq_true] at h
    simp only [List.getElem?_cons_zero, Option.some.injEq] at e ⊢
    subst e
    rcases h.1 with z | z
    · exact .inl z
    · exact .inr (beqC_eq z)
  | c :: cs, d :: ds, n, i + 1, d', h, hi, e => by
    simp only [okCells, Bool.and_eq_true] at h
    have := okCells_at (i := i) (d := d') h.2 (Nat.lt_of_succ_lt_succ hi) (by simpa using e)
    simpa using this
theorem low_le (S : Sim G m H st) (l : Le m H m' H') : Le m H (lowM m' st.length) H' := by
  refine ⟨fun n a h => ?_, fun n a h => ?_, fun a h => ⟨l.grow a h, fun k hk e => ?_⟩, fun a h => l.fresh a h.1, l.keep, l.live⟩
  · show (if _ then _ else _) = _
    rw [if_pos (S.lt n a h)]; exact l.sub n a h
  · have h : (if n < st.length then m'.at_ n else none) = some a := h
    split at h
    · exact l.new n a h
    · cases h
  · rcases l.new k a e with q | q
    · exact absurd (S.lt k a q) (by omega)
    · obtain ⟨o, e1, nt⟩ := S.live a h
      exact q.no e1 nt
theorem low_sim (S : Sim G m H st) (l : Le m H m' H') (S' : Sim G m' H' st1) (ok : okCells st.length st st1 = true) (hl : st.length ≤ st1.length) : Sim G (lowM m' st.length) H' (st1.take st.length) := by
  have len : (st1.take st.length).length = st.length := by rw [List.length_take]; omega
  have at_ : ∀ {k a}, (lowM m' st.length).at_ k = some a → k < st.length ∧ m'.at_ k = some a := fun {k a} h => by
    have h : (if k < st.length then m'.at_ k else none) = some a := h
    split at h
    · rename_i z; exact ⟨z, h⟩
    · cases h
  refine ⟨fun k hk => ?_, fun k a h => ?_, fun j k a h1 h2 => S'.inj j k a (at_ h1).2 (at_ h2).2, fun k a h => ⟨S'.own k a (at_ h).2, fun j hj e => ?_⟩, fun a h => S'.live a h.1, fun k c a h1 h2 => ?_, S'.tabs⟩
  · rw [len] at hk
    obtain ⟨a, e⟩ := S'.dom k (by omega)
    refine ⟨a, ?_⟩
    show (if _ then _ else _) = _
    rw [if_pos hk]; exact e
  · rw [len]; exact (at_ h).1
  · have := S'.inj k j a (at_ h).2 e
    have := (at_ h).1
    omega
  · obtain ⟨hk, e⟩ := at_ h2
    rw [List.getElem?_take, if_pos hk] at h1
    have hc := S'.cell k c a h1 e
    refine cell_low hc ?_
    rcases okCells_at ok hk h1 with z | z
    · exact z
    · obtain ⟨a0, e0⟩ := S.dom k hk
      exact cell_hlt S (S.cell k c a0 z e0)
theorem sim_len (S : Sim G m H st) (l : Le m H m' H') (S' : Sim G m' H' st1) : st.length ≤ st1.length := by
  rcases Nat.lt_or_ge st1.length st.length with h | h
  · obtain ⟨a, e⟩ := S.dom st1.length h
    have := S'.lt _ _ (l.sub _ _ e)
    omega
  · exact h
theorem post_trim {EW : XK} {Q : VK} {r : R U} (S : Sim G m H st) (P : Post G m H (Rep G) EW Q (trim st r)) : Post G m H (Rep G) EW Q r := by
  cases r with
  | ok u st1 =>
    intro v m' H' l S' rv
    simp only [trim, trimV] at P
    split at P
    · rename_i ok
      split at P
      · rename_i w e
        exact P v _ H' (low_le S l) (low_sim S l S' ok (sim_len S l S')) (rep_melt S' rv e)
      · exact P.elim
    · exact P.elim
  | exc e st1 =>
    intro cls d m' H' l S' rx
    simp only [trim, trimE] at P
    split at P
    · rename_i ok
      refine P cls d _ H' (low_le S l) (low_sim S l S' ok.1 (sim_len S l S')) ?_
      obtain ⟨C, h1, h2, h3⟩ := rx
      refine ⟨C, h1, h2, ?_⟩
      have hh := ok.2
      unfold hltE at hh
      split at h3
      · exact h3
      · rename_i f u ef
        rw [ef] at hh
        obtain ⟨dd, v, a1, a2, a3⟩ := h3
        exact ⟨dd, v, a1, a2, rep_low a3 hh⟩
    · exact P.elim
  | stuck => exact P
end
/-- a def whose cells end with it -/
def runT (n : Nat) (g : UEnv → Store → R Fl) : FnZ := fun us st => trim st (runB n g us st)
theorem CalZ.trim [TB] {P : Program} {w : World} {K : PySem.W.Frag} {mg : Str → Option Value} {base : Heap} {k n : Nat} {x : Str} {F : FnZ} (c : CalZ P w K mg base k x n F) : CalZ P w K mg base k x n (fun us st => Z.trim st (F us st)) := by
  obtain ⟨f, fd, ps, h1, h2, h3, h4⟩ := c.ex
  refine ⟨f, fd, ps, h1.imp fun vs H Q E q => ?_, h2, h3, h4⟩
  obtain ⟨us, st, m, a, S, r, P⟩ := q
  exact ⟨us, st, m, a, S, r, post_trim S P⟩
end Z

set_option autoImplicit false
namespace Z
open PySem PySem.W PySem.SeqAt PySem.Calls PyProof.Rows

theorem cmpD_type {x y : PyData} (h : cmpD x y = true) : dataType x = dataType y := by
  cases x <;> cases y <;> first | rfl | simp [cmpD] at h
theorem cmpD_none {x y : PyData} (h : cmpD x y = true) : x ≠ .none := by
  rintro rfl
  cases y <;> simp [cmpD] at h
mutual
/-- what a value reads as is one thing -/
theorem reads_uniq {h : Heap} : ∀ (d d' : PyData) (v : Value) (as as' : List Addr), d.canLay0 = true → Reads h v d as → Reads h v d' as' → d = d'
  | .none, _, _, _, _, _, r, r' => by cases r; cases r'; rfl
  | .bool _, _, _, _, _, _, r, r' => by cases r; cases r'; rfl
  | .int _, _, _, _, _, _, r, r' => by cases r; cases r'; rfl
  | .str _, _, _, _, _, _, r, r' => by cases r; cases r'; rfl
  | .list xs, d', _, _, _, l, r, r' => by
    cases r with
    | list h1 h2 h3 h4 =>
      cases r' with
      | list k1 k2 k3 k4 =>
        rw [h1] at k1; cases k1
        rw [h3] at k3; cases k3
        rw [readsAll_uniq xs _ _ _ _ (by simpa [PyData.canLay0] using l) h4 k4]
      | tuple k1 k2 k3 k4 =>
        rw [h1] at k1; cases k1
        rw [h2] at k2; injection k2 with q; exact absurd q (by decide)
      | dict k1 k2 k3 k4 k5 =>
        rw [h1] at k1; cases k1
        rw [h2] at k2; injection k2 with q; exact absurd q (by decide)
  | .tuple xs, d', _, _, _, l, r, r' => by
    cases r with
    | tuple h1 h2 h3 h4 =>
      cases r' with
      | tuple k1 k2 k3 k4 =>
        rw [h1] at k1; cases k1
        rw [h3] at k3; cases k3
        rw [readsAll_uniq xs _ _ _ _ (by simpa [PyData.canLay0] using l) h4 k4]
      | list k1 k2 k3 k4 =>
        rw [h1] at k1; cases k1
        rw [h2] at k2; injection k2 with q; exact absurd q (by decide)
      | dict k1 k2 k3 k4 k5 =>
        rw [h1] at k1; cases k1
        rw [h2] at k2; injection k2 with q; exact absurd q (by decide)
  | .dict _, _, _, _, _, l, _, _ => by simp [PyData.canLay0] at l
theorem readsAll_uniq {h : Heap} : ∀ (ds ds' : List PyData) (vs : List Value) (as as' : List Addr), PyData.canLayAll0 ds = true → ReadsAll h vs ds as → ReadsAll h vs ds' as' → ds = ds'
  | [], _, _, _, _, _, r, r' => by cases r; cases r'; rfl
  | d :: ds, _, _, _, _, l, r, r' => by
    simp only [PyData.canLayAll0, Bool.and_eq_true] at l
    cases r with
    | cons h1 h2 => cases r' with
      | cons k1 k2 => rw [reads_uniq d _ _ _ _ l.1 h1 k1, readsAll_uniq ds _ _ _ _ l.2 h2 k2]
end
/-- every two can be compared -/
def AllCmp (ds : List PyData) : Prop := (∀ d, d ∈ ds → d.canLay0 = true) ∧ ∀ d, d ∈ ds → ∀ d', d' ∈ ds → cmpD d d' = true
theorem cmpKind_some {h : Heap} {ds : List PyData} (hal : AllCmp ds) {v : Value} {d : PyData} {as : List Addr} (hd : d ∈ ds) (r : Reads h v d as) : (dataKind h ds).keyOf v = some (keyToks d) := by
  have q : ∃ d, d ∈ ds ∧ ∃ as, Reads h v d as := ⟨d, hd, as, r⟩
  have e : (dataKind h ds).keyOf v = some (keyToks q.choose) := by
    show (open Classical in if q : ∃ d, d ∈ ds ∧ ∃ as, Reads h v d as then some (keyToks q.choose) else none) = _
    rw [dif_pos q]
  obtain ⟨h1, as', h2⟩ := q.choose_spec
  rw [e, reads_uniq _ _ _ _ _ (hal.1 _ h1) h2 r]
section
variable {prog : Program} {w : World} {A : Around} {E : Value → Shared → Prop} {s : Shared}
theorem oneLt_cmp {f : Bool} {da db : PyData} {a b : Value} {as bs : List Addr} {Q : Bool → Shared → Prop} (hf : f = true → ∀ xs, da ≠ .tuple xs) (ra : Reads s.heap a da as) (rb : Reads s.heap b db bs) (l1 : da.canLay0 = true) (l2 : db.canLay0 = true) (h : cmpD da db = true)
    (hu : A.units + min da.depth db.depth < cLine) (hq : Q (dataLt da db) s) : wpAny (model prog w) A (oneLt' f a b) Q E s := by
  cases f with
  | false =>
    rw [oneLt'_eq]
    simp only [Bool.false_eq_true, if_false]
    exact wpAny_bind (rc_cmp da db A s a b as bs ra rb l1 l2 h hu prog w E _ (wpAny_truthy_bool hq))
  | true =>
    cases da with
    | none => exact absurd rfl (cmpD_none h)
    | bool x =>
      cases db with
      | bool y =>
        cases ra
        cases rb
        rw [dataLt_bool] at hq
        exact oneLt_bool hq
      | _ => simp [cmpD] at h
    | int x =>
      cases db with
      | int y =>
        cases ra
        cases rb
        rw [dataLt_int] at hq
        exact oneLt_int hq
      | _ => simp [cmpD] at h
    | str x =>
      cases db with
      | str y =>
        cases ra
        cases rb
        rw [dataLt_str] at hq
        exact oneLt_str hq
      | _ => simp [cmpD] at h
    | list xs => cases db <;> simp [cmpD] at h
    | tuple xs => exact absurd rfl (hf rfl xs)
    | dict _ => cases db <;> simp [cmpD] at h
theorem katLex_cmp {b fin : Bool} {Q : Bool → Shared → Prop} : ∀ (xs ys : List PyData) (i : Nat) (vs ws : List Value) (as bs : List Addr), ReadsAll s.heap vs xs as → ReadsAll s.heap ws ys bs → PyData.canLayAll0 xs = true → PyData.canLayAll0 ys = true → cmpDs xs ys = true →
    A.units + min (PyData.depthAll xs) (PyData.depthAll ys) < cLine → (b = true → i = 0 → ∀ x r t, xs = x :: r → x ≠ .tuple t) → fin = decide (xs.length < ys.length) → Q (lexLt itemOrd (keyToksAll xs) (keyToksAll ys)) s → KatLex prog w A b fin Q (vs.zip ws) i s
  | [], [], i, _, _, _, _, ra, rb, _, _, _, _, _, hf, hq => by
    cases ra
    cases rb
    have e : fin = false := by rw [hf]; rfl
    subst e
    rw [lex_irrefl] at hq
    exact kat_nil hq
  | [], y :: ys, i, _, _, _, _, ra, rb, _, _, _, _, _, hf, hq => by
    cases ra
    have e : fin = true := by rw [hf]; exact decide_eq_true (Nat.succ_pos _)
    subst e
    rw [toks_all_cons] at hq
    simp only [keyToksAll] at hq
    rw [lex_diff (O := itemOrd) (by simp)] at hq
    rw [List.zip_nil_left]
    exact kat_nil (by simpa [itemLt] using hq)
  | x :: xs, [], i, _, _, _, _, ra, rb, _, _, _, _, _, hf, hq => by
    cases rb
    have e : fin = false := by rw [hf]; exact decide_eq_false (Nat.not_lt_zero _)
    subst e
    rw [toks_all_cons] at hq
    simp only [keyToksAll] at hq
    rw [lex_diff (O := itemOrd) (by simp)] at hq
    rw [List.zip_nil_right]
    exact kat_nil (by simpa [itemLt] using hq)
  | x :: xs, y :: ys, i, _, _, _, _, ra, rb, l1, l2, h, hu, hb, hf, hq => by
    obtain ⟨h0, h1, h2⟩ := cmpDs_cons h
    have l1' := l1
    have l2' := l2
    simp only [PyData.canLayAll0, Bool.and_eq_true] at l1' l2'
    have hf' : fin = decide (xs.length < ys.length) := by
      rw [hf]
      simp only [List.length_cons, Nat.add_lt_add_iff_right]
    rw [lexAll_cons l1 l2 h] at hq
    cases ra with
    | cons r rs =>
      cases rb with
      | cons r' rs' =>
        rw [List.zip_cons_cons]
        have eq0 := eqAt_readsAll (x :: xs) (y :: ys) A s _ _ _ _ (.cons r rs) (.cons r' rs') l1 l2 hu 0 (Nat.succ_pos _) (Nat.succ_pos _)
        have eq0 : EqAt A s _ _ (PyData.eqv x y) := eq0
        refine kat_cons (eq0 prog w _ _ ?_)
        cases hx : PyData.eqv x y with
        | true =>
          rw [if_pos hx] at hq
          exact kat_yes (katLex_cmp xs ys (i + 1) _ _ _ _ rs rs' l1'.2 l2'.2 (h1 hx) (room_tail hu) (fun _ hi => absurd hi (Nat.succ_ne_zero i)) hf' hq)
        | false =>
          rw [if_neg (by rw [hx]; exact Bool.false_ne_true)] at hq
          refine kat_no (oneLt_cmp (fun hbi t => ?_) r r' l1'.1 l2'.1 (h2 hx) (room_head hu) hq)
          rw [Bool.and_eq_true] at hbi
          exact hb hbi.1 (by simpa using hbi.2) x xs t rfl
/-! ### tuples, empty ones among them -/
theorem oneLt_tup {xs ys : List PyData} {a b : Value} {as bs : List Addr} {Q : Bool → Shared → Prop} (ra : Reads s.heap a (.tuple xs) as) (rb : Reads s.heap b (.tuple ys) bs) (l1 : (PyData.tuple xs).canLay0 = true) (l2 : (PyData.tuple ys).canLay0 = true) (h : cmpD (.tuple xs) (.tuple ys) = true)
    (hu : A.units + min (PyData.tuple xs).depth (PyData.tuple ys).depth < cLine) (hq : Q (dataLt (.tuple xs) (.tuple ys)) s) : wpAny (model prog w) A (oneLt' true a b) Q E s := by
  have hx' : PyData.canLayAll0 xs = true := by simpa [PyData.canLay0] using l1
  have hy' : PyData.canLayAll0 ys = true := by simpa [PyData.canLay0] using l2
  have hc : cmpDs xs ys = true := by simpa [cmpD] using h
  cases ra with
  | @tuple l o vs n _ as1 h1 h2 h3 h4 => cases rb with
    | @tuple l' o' vs' n' _ bs1 k1 k2 k3 k4 =>
      have n1 : vs.size = xs.length := by simpa using ReadsAll.length _ _ _ h4
      have n2 : vs'.size = ys.length := by simpa using ReadsAll.length _ _ _ k4
      rw [dataLt_tuple, ← first_lex xs ys hx' hy' hc, ← n1, ← n2] at hq
      rw [oneLt'_eq]
      simp only [if_true]
      refine wpAny_bind (wpAny_cRoomFor (room_here hu) ?_)
      refine wpAny_bind (wpAny_callSpecialIfBound?_slot (T := "tuple") ⟨o, h1, h2⟩ F.slot_tuple_lt (call_tups (e := pairEq xs ys) (r := fun j => dataLt (xs.getD j PyData.none) (ys.getD j PyData.none)) ⟨_, h1, h2, _, h3⟩ ⟨_, k1, k2, _, k3⟩ (fun j j1 j2 => ?_) (fun j j1 j2 jb je => ?_) ?_))
      · have := eqAt_readsAll xs ys A.in1 s vs.toList vs'.toList _ _ h4 k4 hx' hy' (room_in hu) j (by simpa using j1) (by simpa using j2)
        simpa using this
      · have := rc_cmps xs ys A.in1 s vs.toList vs'.toList _ _ h4 k4 hx' hy' (room_in hu) j (by simpa using j1) (by simpa using j2) (cmpDs_at xs ys j hc (by omega) (by omega) jb je)
        simpa using this
      · exact wpAny_truthy_bool hq
def KatO (h : Heap) : List Value → List (Option Value) → Prop
  | [], [] => True
  | v :: vs, f :: fs => (∃ a o xs n, v = .ref a ∧ h.get? a = some o ∧ o.cls = .type "tuple" ∧ o.data = .seq xs n ∧ xs[0]? = f) ∧ KatO h vs fs
  | _, _ => False
theorem firsts_o {M : Model} : ∀ (vs : List Value) (fs : List (Option Value)) {Q : List (Option Value) → Shared → Prop}, KatO s.heap vs fs → Q fs s → wpAny M A (vs.mapM firstOfTuple') Q E s
  | [], [], _, _, h => by rw [List.mapM_nil]; exact wpAny_pure h
  | [], _ :: _, _, t, _ => t.elim
  | _ :: _, [], _, t, _ => t.elim
  | v :: vs, f :: fs, Q, t, h => by
    obtain ⟨⟨a, o, xs, n, rfl, ho, hc, hd, hf⟩, t⟩ := t
    rw [List.mapM_cons]
    refine wpAny_bind ?_
    rw [kas_first_eq]
    refine wpAny_bind (Looks.here (show Looks M s.heap (typeOf (Value.ref a)) o.cls from (Looks.ld ho).andThen .now) ?_)
    rw [hc, if_neg (by first | decide | simp)]
    refine wpAny_bind (listItems_at ho hd (wpAny_pure ?_))
    rw [hf]
    exact wpAny_bind (firsts_o vs fs (Q := fun bs s' => wpAny M A (pure (f :: bs)) Q E s') t (wpAny_pure h))
theorem each_o {h : Heap} : ∀ {vs : List Value} {ds : List PyData}, EachIs (fun v d => ∃ as, Reads h v d as) vs ds → (∀ d, d ∈ ds → ∃ xs, d = .tuple xs) → ∃ fs, KatO h vs fs ∧ fs.length = vs.length ∧ (.tuple [] ∈ ds → none ∈ fs)
  | _, _, .nil, _ => ⟨[], trivial, rfl, fun h => nomatch h⟩
  | _, _, .cons (b := d) ⟨as, r⟩ t, ht => by
    obtain ⟨fs, h1, h2, h3⟩ := each_o t fun d hd => ht d (List.mem_cons_of_mem _ hd)
    obtain ⟨ys, rfl⟩ := ht d (List.mem_cons_self ..)
    cases r with
    | @tuple a o xs n _ _ ho hc hd hr =>
      refine ⟨xs[0]? :: fs, ⟨⟨a, o, xs, n, rfl, ho, hc, hd, rfl⟩, h1⟩, by simp [h2], fun hm => ?_⟩
      rcases List.mem_cons.mp hm with e | hm
      · injection e with e
        subst e
        have hl := ReadsAll.length _ _ _ hr
        have : xs.size = 0 := by simpa using hl
        rw [List.mem_cons]
        left
        rw [Array.getElem?_eq_none (by omega)]
      · exact List.mem_cons_of_mem _ (h3 hm)
theorem kind_o {M : Model} {vs : List Value} {fs : List (Option Value)} {Q : SortKind → Shared → Prop} (t : KatO s.heap vs fs) (hn : none ∈ fs) (hT : ∀ v ∈ vs, Looks M s.heap (typeOf v) (.type "tuple"))
    (h : Q (if ((fs[0]?).bind id).isSome then general' else oneType') s) (h2 : 2 ≤ vs.length) : wpAny M A (keyKind' vs.toArray) Q E s := by
  rw [keyKind'_eq, List.mapM_toArray, map_eq_pure_bind]
  refine wpAny_bind (wpAny_bind (firsts_o vs fs t (wpAny_pure ?_)))
  have hall : (fs.toArray.all fun x => x.isSome) = false := by
    rw [List.all_toArray, List.all_eq_false]
    exact ⟨none, hn, by simp⟩
  rw [if_neg (by rw [hall]; exact Bool.false_ne_true)]
  have e0 : fs.toArray[0]? = fs[0]? := by simp
  simp only [e0]
  by_cases hf : ((fs[0]?).bind id).isSome = true
  · rw [if_pos hf] at h ⊢
    exact wpAny_pure h
  · rw [if_neg hf] at h ⊢
    rw [oneTypeOnly'_eq, List.mapM_toArray, map_eq_pure_bind]
    refine wpAny_bind (wpAny_bind (wpAny_bind (kas_mapM (r := Value.type "tuple") _ (fun v hv Q' hq => (hT v hv).here hq) (wpAny_pure ?_))))
    have all2 : ((List.map (fun _ => Value.type "tuple") vs).toArray.all fun x => x == Value.type "tuple") = true := by
      simp only [List.all_toArray, List.all_map, List.all_eq_true]
      exact fun _ _ => beq_self_eq_true _
    have first : (List.map (fun _ => Value.type "tuple") vs).toArray[0]? = some (Value.type "tuple") := by
      match vs, h2 with
      | v :: r, _ => simp
    rw [first]
    simp only [all2, if_true]
    exact wpAny_pure (wpAny_pure h)
/-- empty tuples may stand among the keys -/
def NoEmpty (_ds : List PyData) : Prop := True
theorem sortsAt_cmp {vs : List Value} {ds : List PyData} (e : EachIs (fun v d => ∃ as, Reads s.heap v d as) vs ds) (hal : AllCmp ds) (hk : NoEmpty ds) (hu : ∀ d, d ∈ ds → A.units + d.depth < cLine) : SortsAt prog w A s (dataKind s.heap ds) vs := by
  have room : ∀ {d d' : PyData}, d ∈ ds → A.units + min d.depth d'.depth < cLine := fun {d d'} hd => Nat.lt_of_le_of_lt (Nat.add_le_add_left (Nat.min_le_left _ _) _) (hu d hd)
  refine ⟨fun v hv => ?_, ?_⟩
  · obtain ⟨d, hd, as, r⟩ := e.left v hv
    exact ⟨_, cmpKind_some hal hd r⟩
  · cases ds with
    | nil =>
      cases e
      exact ⟨general', fun E x y a b Q ha _ _ => (by
        obtain ⟨d, _, hd, _⟩ := dataKind_inv ha
        exact absurd hd (by simp)), fun h2 => absurd h2 (by simp)⟩
    | cons d₀ ds₀ =>
      have m0 : d₀ ∈ d₀ :: ds₀ := List.mem_cons_self ..
      by_cases ht0 : ∃ xs, d₀ = .tuple xs
      · by_cases hE : PyData.tuple [] ∈ d₀ :: ds₀
        · have ht : ∀ d, d ∈ d₀ :: ds₀ → ∃ xs, d = .tuple xs := by
            intro d hd
            obtain ⟨xs0, rfl⟩ := ht0
            have t := cmpD_type (hal.2 d hd _ m0)
            cases d with
            | tuple xs => exact ⟨xs, rfl⟩
            | _ => simp [dataType] at t
          obtain ⟨fs, t1, t2, t3⟩ := each_o e ht
          refine ⟨if ((fs[0]?).bind id).isSome then general' else oneType', ?_, fun h2 E Q hq => ?_⟩
          · intro E x y a b Q ha hb hq
            obtain ⟨d, as, hd, ra, rfl⟩ := dataKind_inv ha
            obtain ⟨d', as', hd', rb, rfl⟩ := dataKind_inv hb
            obtain ⟨xs, rfl⟩ := ht d hd
            obtain ⟨ys, rfl⟩ := ht d' hd'
            have one := oneLt_tup (prog := prog) (w := w) (A := A) (E := E) (Q := Q) ra rb (hal.1 _ hd) (hal.1 _ hd') (hal.2 _ hd _ hd') (room hd) hq
            have gen := oneLt_cmp (prog := prog) (w := w) (A := A) (E := E) (f := false) (Q := Q) (fun z => by cases z) ra rb (hal.1 _ hd) (hal.1 _ hd') (hal.2 _ hd _ hd') (room hd) hq
            split
            · exact gen
            · exact one
          · exact kind_o t1 (t3 hE) (fun v hv => by
              obtain ⟨d, hd, as, r⟩ := e.left v hv
              obtain ⟨xs, rfl⟩ := ht d hd
              exact looks_reads r) hq h2
        have hk : ∀ d, d ∈ d₀ :: ds₀ → d ≠ .tuple [] := fun d hd z => hE (z ▸ hd)
        have ht : ∀ d, d ∈ d₀ :: ds₀ → ∃ x r, d = .tuple (x :: r) := by
          intro d hd
          obtain ⟨xs0, rfl⟩ := ht0
          have t := cmpD_type (hal.2 d hd _ m0)
          cases d with
          | tuple xs => cases xs with
            | nil => exact absurd rfl (hk _ hd)
            | cons x r => exact ⟨x, r, rfl⟩
          | _ => simp [dataType] at t
        obtain ⟨x₀, r₀, e₀⟩ := ht d₀ m0
        have hfirst : ∀ x r, PyData.tuple (x :: r) ∈ d₀ :: ds₀ → dataType x = dataType x₀ := by
          intro x r hm
          have q := hal.2 _ hm d₀ m0
          rw [e₀] at q
          exact (cmpDs_cons (by simpa [cmpD] using q)).1
        refine ⟨tuples' (dataType x₀ != Value.type "tuple"), ?_, fun h2 E Q hq => ?_⟩
        · intro E x y a b Q ha hb hq
          obtain ⟨d, as, hd, ra, rfl⟩ := dataKind_inv ha
          obtain ⟨d', as', hd', rb, rfl⟩ := dataKind_inv hb
          have hdd := hal.2 d hd d' hd'
          have hroom := room (d' := d') hd
          have l1 := hal.1 d hd
          have l2 := hal.1 d' hd'
          obtain ⟨x1, r1, rfl⟩ := ht d hd
          obtain ⟨x2, r2, rfl⟩ := ht d' hd'
          have hq' : Q (dataLt (.tuple (x1 :: r1)) (.tuple (x2 :: r2))) s := hq
          rw [dataLt_tuple] at hq'
          cases ra with
          | @tuple l o xs n _ _ h1 h2 h3 h4 =>
            cases rb with
            | @tuple l' o' xs' n' _ _ k1 k2 k3 k4 =>
              have n1 : xs.size = (x1 :: r1).length := by simpa using SeqAt.ReadsAll.length _ _ _ h4
              have n2 : xs'.size = (x2 :: r2).length := by simpa using SeqAt.ReadsAll.length _ _ _ k4
              refine kat_lt h1 h3 k1 k3 (katLex_cmp (x1 :: r1) (x2 :: r2) 0 _ _ _ _ h4 k4 (by simpa [PyData.canLay0] using l1) (by simpa [PyData.canLay0] using l2) (by simpa [cmpD] using hdd) (by have q := SeqAt.room_in hroom; omega) (fun hb _ x r t ex => ?_) (by rw [n1, n2]) hq')
              obtain ⟨rfl, rfl⟩ := List.cons.inj ex
              have q := hfirst _ _ hd
              rw [← q] at hb
              exact dataType_tuple hb t
        · obtain ⟨fs, t1, t2, t3⟩ := each_katTups e ht
          refine kat_kind (T := dataType x₀) t1 (by omega) (fun f hf => ?_) (beq_self_eq_true _) hq
          obtain ⟨x, r, as, m1, m2⟩ := t3 f hf
          rw [← hfirst x r m1]
          exact looks_reads m2
      · have hn : ∀ d, d ∈ d₀ :: ds₀ → ∀ xs, d ≠ .tuple xs := by
          rintro d hd xs rfl
          have t := cmpD_type (hal.2 _ hd _ m0)
          cases d₀ with
          | tuple ys => exact ht0 ⟨ys, rfl⟩
          | _ => simp [dataType] at t
        refine ⟨oneType', ?_, fun h2 E Q hq => ?_⟩
        · intro E x y a b Q ha hb hq
          obtain ⟨d, as, hd, ra, rfl⟩ := dataKind_inv ha
          obtain ⟨d', as', hd', rb, rfl⟩ := dataKind_inv hb
          rw [keyLt'_oneType]
          exact oneLt_cmp (fun _ => hn d hd) ra rb (hal.1 d hd) (hal.1 d' hd') (hal.2 d hd d' hd') (room hd) hq
        · refine kas_kind (T := dataType d₀) h2 (fun v hv => ?_) (dataType_other (hn d₀ m0)) (beq_self_eq_true _) hq
          obtain ⟨d, hd, as, r⟩ := e.left v hv
          rw [← cmpD_type (hal.2 d hd d₀ m0)]
          exact looks_reads r
/-- sorted(xs) -/
theorem sorted_cmp {β : Type} {R : Value → β → Prop} {vs : List Value} {bs : List β} {enc : β → PyData} {l : Addr} {Q : Value → Shared → Prop} (hl : s.heap.IsList l vs.toArray) (e : EachIs R vs bs) (er : EachIs (fun v b => ∃ as, Reads s.heap v (enc b) as) vs bs) (hal : AllCmp (bs.map enc)) (hk : NoEmpty (bs.map enc)) (hL : bs.length ≤ sizeLine)
    (hu : ∀ b, b ∈ bs → A.units + 2 + (enc b).depth < cLine) (h : ∀ out, out.length = bs.length → EachIs R out (bs.mergeSort (dataLe false enc)) → Q (.ref (s.heap.objs.size + 1)) { s with heap := sortedAll s.heap vs (List.toArray out) }) :
    wpAny (model prog w) A (call (.builtin "sorted") [.ref l]) Q E s := by
  have er' : EachIs (fun v b => ∃ as, Reads (sortingHeap (copyHeap s.heap vs) (s.heap.objs.size + 1) vs) v (enc b) as) vs bs := er.mono fun _ _ ⟨as, r⟩ => ⟨as, PyProof.Rows.Reads.keeps (fun _ _ => sorting_copy_old) r⟩
  have er2 := each_map (R := fun v d => ∃ as, Reads (sortingHeap (copyHeap s.heap vs) (s.heap.objs.size + 1) vs) v d as) enc er'
  refine sorted_vals hl (sortsAt_cmp (s := { s with heap := sortingHeap (copyHeap s.heap vs) (s.heap.objs.size + 1) vs }) er2 hal hk (bound_map hu)) (by rw [e.length]; exact hL)
    (h _ (by rw [sortVals_length false rfl]; exact e.length) ?_)
  exact sortVals_each (κ := dataKind (sortingHeap (copyHeap s.heap vs) (s.heap.objs.size + 1) vs) (bs.map enc)) (fun b => keyToks (enc b)) e (each_of_map enc ((each_mem er2).mono fun _ _ ⟨⟨_, r⟩, hd⟩ => cmpKind_some hal hd r))
end
end Z

namespace Z
open PySem PySem.W PySem.SeqAt PySem.Calls PyProof.Rows L2

/-! ### sorted(a list) -/
def encU (u : U) : PyData := (dat u).getD .none
def leU (a b : U) : Bool := !dataLt (encU b) (encU a)
theorem leU_tot : TotalLe leU := sortLe_total (listOrd itemOrd) false fun u => keyToks (encU u)
theorem insU_app (a : U) : ∀ (l1 l2 : List U), (∀ b ∈ l1, ltU b a = true) → (∀ b ∈ l2, ltU b a = false) → insU a (l1 ++ l2) = l1 ++ a :: l2
  | [], [], _, _ => rfl
  | [], y :: l2, _, h => by
    have := h y (by simp)
    simp [insU, this]
  | x :: l1, l2, h1, h2 => by
    simp only [List.cons_append, insU, h1 x (by simp), if_true]
    rw [insU_app a l1 l2 (fun b hb => h1 b (by simp [hb])) h2]
theorem sort_eq : ∀ us : List U, (∀ a ∈ us, ∀ b ∈ us, dataLt (encU a) (encU b) = ltU a b) → us.mergeSort leU = sortU us
  | [], _ => by simp [sortU]
  | a :: us, h => by
    obtain ⟨l1, l2, e1, e2, h3⟩ := List.mergeSort_cons (le := leU) (fun a b c => leU_tot.trans a b c) (fun a b => by rcases leU_tot.total a b with h | h <;> simp [h]) a us
    rw [e1, sortU, ← sort_eq us fun x hx y hy => h x (by simp [hx]) y (by simp [hy]), e2]
    have mem : ∀ b, b ∈ l1 ++ l2 → b ∈ us := fun b hb => (List.mergeSort_perm us leU).mem_iff.mp (e2 ▸ hb)
    refine (insU_app a l1 l2 (fun b hb => ?_) fun b hb => ?_).symm
    · have := h3 b hb
      rw [← h b (by simp [mem b (by simp [hb])]) a (by simp)]
      unfold leU at this
      simpa using this
    · have pw := List.pairwise_mergeSort (le := leU) (fun a b c => leU_tot.trans a b c) (fun a b => by rcases leU_tot.total a b with h | h <;> simp [h]) (a :: us)
      rw [e1, List.pairwise_append] at pw
      have := (List.pairwise_cons.mp pw.2.1).1 b hb
      rw [← h b (by simp [mem b (by simp [hb])]) a (by simp)]
      unfold leU at this
      simpa using this
def canAll (xs : List U) : Bool := xs.all fun x => xs.all fun y => canLt x y
def noEmp (xs : List U) : Bool := xs.all fun x => match x with
  | .tup [] => true
  | _ => true
def canSort (xs : List U) : Bool := pls 60 xs && canAll xs && noEmp xs
theorem each_zip {X : Cx} {pins : List (Addr × Obj)} {σ : L2.St} {H : Hp} {s : Shared} {G : GC} {m : MH} (I : Inv X pins σ H s) (hK : G.K = X.K) : ∀ {us : List U} {xs : List V} {vs : List Value}, Reps G m H us xs → Vals xs vs → pls 60 us = true →
    EachIs (fun v (p : V × U) => RelV p.1 v ∧ Rep G m H p.2 p.1 ∧ ∃ as, Reads s.heap v (encU p.2) as) vs (xs.zip us) ∧ (∀ u ∈ us, (encU u).canLay0 = true ∧ (encU u).depth ≤ 60)
  | _, _, _, .nil, .nil, _ => ⟨.nil, fun _ h => nomatch h⟩
  | u :: us, _, _, .cons r t, .cons q z, h => by
    simp only [pls, Bool.and_eq_true] at h
    obtain ⟨h1, h2⟩ := each_zip I hK t z h.2
    obtain ⟨d, e, hd⟩ := pl_dat _ h.1
    obtain ⟨k1, k2⟩ := rep_dp r e
    have ee : encU u = d := by unfold encU; rw [e]; rfl
    rw [hK] at k1
    obtain ⟨as, q1⟩ := Dp.reads I d _ _ k1 q
    refine ⟨.cons ⟨q, r, as, by rw [ee]; exact q1⟩ h1, fun w hw => ?_⟩
    rcases List.mem_cons.mp hw with rfl | hw
    · rw [ee]; exact ⟨k2, hd⟩
    · exact h2 w hw
theorem each_out {R : Value → V × U → Prop} {G : GC} {m : MH} {H : Hp} (h1 : ∀ v p, R v p → RelV p.1 v ∧ Rep G m H p.2 p.1) : ∀ {vs : List Value} {bs : List (V × U)}, EachIs R vs bs → Vals (bs.map (·.1)) vs ∧ Reps G m H (bs.map (·.2)) (bs.map (·.1))
  | _, _, .nil => ⟨.nil, .nil⟩
  | _, _, .cons a t => let ⟨x, y⟩ := each_out h1 t; ⟨.cons (h1 _ _ a).1 x, .cons (h1 _ _ a).2 y⟩
theorem canAll_mem {xs : List U} (h : canAll xs = true) : ∀ a ∈ xs, ∀ b ∈ xs, canLt a b = true := by
  unfold canAll at h
  rw [List.all_eq_true] at h
  intro a ha b hb
  exact List.all_eq_true.mp (h a ha) b hb
theorem noEmp_any (xs : List U) : noEmp xs = true := by
  unfold noEmp
  exact List.all_eq_true.mpr fun x _ => by split <;> rfl
section
variable {X : Cx}
theorem cr_sortU [TB] (hu : X.A.units + 65 < cLine) (pins : List (Addr × Obj)) (s : Shared) (σ : L2.St) (H : Hp) (Q : VK) (I : Inv X pins σ H s) {m : MH} {st : Store} {us : List U} {a : Addr} {xs : List V} (S : Sim (gc X) m H st) (r : Reps (gc X) m H us xs) (hs : SqL X.K H a xs) (hc : canSort us = true)
    (P : PostO (gc X) m H st Q (some (.lst (sortU us)))) : wpAny (model X.prog X.w) X.A (call (.builtin "sorted") [.ref a]) (EP X pins σ Q) X.xe s := by
  unfold canSort at hc
  simp only [Bool.and_eq_true] at hc
  obtain ⟨⟨hp, hca⟩, hne⟩ := hc
  obtain ⟨its, rv, hl, hz⟩ := I.list hs
  obtain ⟨e, hd⟩ := each_zip I rfl r rv hp
  have hlen : xs.length = us.length := r.length.symm
  have snd : (xs.zip us).map (·.2) = us := List.map_snd_zip (by omega)
  have enc : (xs.zip us).map (fun p => encU p.2) = us.map encU := by
    rw [show (fun p : V × U => encU p.2) = encU ∘ (·.2) from rfl, ← List.map_map, snd]
  have can := canAll_mem hca
  have lt : ∀ a ∈ us, ∀ b ∈ us, cmpD (encU a) (encU b) = true ∧ dataLt (encU a) (encU b) = ltU a b := by
    intro a ha b hb
    have pa := pls_mem.mp hp a ha
    have pb := pls_mem.mp hp b hb
    obtain ⟨da, ea, _⟩ := pl_dat _ pa
    obtain ⟨db, eb, _⟩ := pl_dat _ pb
    have l1 := (hd a ha).1
    have l2 := (hd b hb).1
    have ea' : encU a = da := by unfold encU; rw [ea]; rfl
    have eb' : encU b = db := by unfold encU; rw [eb]; rfl
    rw [ea'] at l1 ⊢
    rw [eb'] at l2 ⊢
    exact lt_dat a b pa pb ea eb l1 l2 (can a ha b hb)
  have len0 : (xs.zip us).length = xs.length := by rw [List.length_zip]; omega
  refine sorted_cmp (R := fun v (p : V × U) => RelV p.1 v ∧ Rep (gc X) m H p.2 p.1) (bs := xs.zip us) (enc := fun p => encU p.2) hl.isList (e.mono fun _ _ h => ⟨h.1, h.2.1⟩) (e.mono fun _ _ h => h.2.2) ?_ ?_ ?_ ?_ fun out ho eo => ?_
  · rw [enc]
    refine ⟨fun d h => ?_, fun d h d' h' => ?_⟩
    · obtain ⟨u, hm, rfl⟩ := List.mem_map.mp h
      exact (hd u hm).1
    · obtain ⟨u, hm, rfl⟩ := List.mem_map.mp h
      obtain ⟨u', hm', rfl⟩ := List.mem_map.mp h'
      exact (lt u hm u' hm').1
  · trivial
  · rw [len0]; exact hz
  · intro p hpm
    have hm : p.2 ∈ us := snd ▸ List.mem_map_of_mem hpm
    have := (hd p.2 hm).2
    show X.A.units + 2 + (encU p.2).depth < cLine
    omega
  · obtain ⟨v1, r1⟩ := each_out (G := gc X) (m := m) (H := H) (fun _ _ h => h) eo
    obtain ⟨ep, he'⟩ := PyProof.Rows.sortedAll_at s.heap its out.toArray
    have es : ((xs.zip us).mergeSort (dataLe false fun p => encU p.2)).map (·.2) = sortU us := by
      rw [← sort_eq us fun a ha b hb => (lt a ha b hb).2]
      have := List.map_mergeSort (r := dataLe false fun p : V × U => encU p.2) (s := leU) (f := fun p : V × U => p.2) (l := xs.zip us) fun a _ b _ => rfl
      rw [snd] at this
      exact this
    rw [es] at r1
    have hlen : (((xs.zip us).mergeSort (dataLe false fun p => encU p.2)).map (·.1)).length ≤ sizeLine := by
      rw [List.length_map, List.length_mergeSort, len0]; exact hz
    have hn := I.hok.fresh (Nat.le_succ s.heap.objs.size)
    refine ⟨.ref _, upd H (s.heap.objs.size + 1) (.lst (((xs.zip us).mergeSort (dataLe false fun p => encU p.2)).map (·.1))), I.laid (t' := s.toks) (fun _ _ => PyProof.Rows.sortedAll_old) (Nat.le_succ _) ⟨hlen, out, ep, v1, he'⟩, rfl, P.lst S r1 _ hn⟩
theorem cr_sortUT [TB] (hu : X.A.units + 65 < cLine) : True := trivial
def intsU : List U → Option (List Int)
  | [] => some []
  | .int i :: r => (intsU r).map (i :: ·)
  | _ :: _ => none
theorem intsU_eq : ∀ {us : List U} {is : List Int}, intsU us = some is → us = is.map .int
  | [], is, h => by cases h; rfl
  | u :: us, is, h => by
    cases u with
    | int i =>
      simp only [intsU, Option.map_eq_some_iff] at h
      obtain ⟨js, e, rfl⟩ := h
      rw [intsU_eq e]; rfl
    | _ => cases h
theorem reps_intsV {G : GC} {m : MH} {H : Hp} : ∀ {is : List Int} {vs : List V}, Reps G m H (is.map .int) vs → vs = is.map .int
  | [], _, .nil => rfl
  | i :: is, _, .cons r t => by rw [reps_intsV t, rep_int r]; rfl
theorem kV_ints : ∀ {kvs : List (L2.Key × V)} {xs : List Int}, (kvs.map fun p => kV p.1) = xs.map V.int → kvs.map (·.1) = xs.map Sum.inl
  | [], [], _ => rfl
  | [], _ :: _, h => by cases h
  | _ :: _, [], h => by cases h
  | p :: kvs, x :: xs, h => by
    simp only [List.map_cons, List.cons.injEq] at h ⊢
    refine ⟨?_, kV_ints h.2⟩
    have := h.1
    cases q : p.1 with
    | inl i => rw [q] at this; cases this; rfl
    | inr y => rw [q] at this; cases this
def insI (x : Int) : List Int → List Int
  | [] => [x]
  | y :: ys => if y < x then y :: insI x ys else x :: y :: ys
def sortI : List Int → List Int
  | [] => []
  | x :: xs => insI x (sortI xs)
theorem insU_ints (x : Int) : ∀ ys : List Int, insU (.int x) (ys.map .int) = (insI x ys).map .int
  | [] => rfl
  | y :: ys => by
    simp only [List.map_cons, insU, insI, ltU, decide_eq_true_eq]
    split
    · rw [insU_ints x ys]; rfl
    · rfl
theorem sortU_ints : ∀ ys : List Int, sortU (ys.map .int) = (sortI ys).map .int
  | [] => rfl
  | y :: ys => by
    simp only [List.map_cons, sortU, sortI]
    rw [sortU_ints ys, insU_ints]
theorem insI_perm (x : Int) : ∀ ys, (insI x ys).Perm (x :: ys)
  | [] => .refl _
  | y :: ys => by
    unfold insI
    split
    · exact ((insI_perm x ys).cons y).trans (.swap x y ys)
    · exact .refl _
theorem sortI_perm : ∀ ys, (sortI ys).Perm ys
  | [] => .refl _
  | y :: ys => (insI_perm y (sortI ys)).trans ((sortI_perm ys).cons y)
theorem insI_sorted (x : Int) : ∀ ys : List Int, ys.Pairwise (· ≤ ·) → (insI x ys).Pairwise (· ≤ ·)
  | [], _ => by simp [insI]
  | y :: ys, h => by
    rw [List.pairwise_cons] at h
    unfold insI
    split
    · rename_i q
      rw [List.pairwise_cons]
      refine ⟨fun z hz => ?_, insI_sorted x ys h.2⟩
      rcases List.mem_cons.mp ((insI_perm x ys).mem_iff.mp hz) with rfl | hz
      · omega
      · exact h.1 z hz
    · rename_i q
      rw [List.pairwise_cons]
      refine ⟨fun z hz => ?_, List.pairwise_cons.mpr h⟩
      rcases List.mem_cons.mp hz with rfl | hz
      · omega
      · have := h.1 z hz; omega
theorem sortI_sorted : ∀ ys : List Int, (sortI ys).Pairwise (· ≤ ·)
  | [] => by simp [sortI]
  | y :: ys => insI_sorted y _ (sortI_sorted ys)
theorem sortI_of {xs ys : List Int} (h : ys.Perm xs) (h2 : ys.Pairwise (· ≤ ·)) : ys = sortI xs := (h.trans (sortI_perm xs).symm).eq_of_pairwise (fun a b _ _ k l => Int.le_antisymm k l) h2 (sortI_sorted xs)
theorem ints_reps {G : GC} {m : MH} {H : Hp} : ∀ is : List Int, Reps G m H (is.map .int) (is.map .int)
  | [] => .nil
  | i :: is => .cons (.int i) (ints_reps is)
/-- sorted of a list or a dict with texts or numbers -/
def oSortedL : Op1 := fun st u => match deref st u with
  | .lst xs => if canSort xs = true then some (.lst (sortU xs)) else none
  | .dct ks _ => match strsU ks with
    | some _ => if ks.length < 64 then some (.lst (sortU ks)) else none
    | none => match intsU ks with
      | some _ => if ks.length < 64 then some (.lst (sortU ks)) else none
      | none => none
  | _ => none
theorem b_sortedL [TB] (hc : X.calm = true) (hu : X.A.units + 65 < cLine) : BZ1 X (.builtin "sorted") oSortedL := by
  intro pins s σ H xs us Q I r h
  obtain ⟨m, st, u, x, rfl, S, ru, P⟩ := h
  unfold oSortedL at P
  split at P
  · rename_i ys e
    split at P
    · rename_i hcs
      obtain ⟨a, vs, rfl, h1, r1⟩ := rep_lst S ru e
      rw [Vals.ref1 r]
      exact cr_sortU hu pins s σ H Q I S r1 (.inl (.inl h1)) hcs P
    · exact P.elim
  · rename_i ks ws e
    split at P
    · rename_i zs hz
      refine b_sorted hc pins s σ H _ us Q I r ⟨m, st, u, x, rfl, S, ru, ?_⟩
      unfold oSorted
      rw [e]
      simp only [hz]
      exact P
    · split at P
      · rename_i zs hz
        have ez := intsU_eq hz
        subst ez
        obtain ⟨p, kvs, rfl, h1, h2, h3⟩ := rep_dct S ru e
        have e1 := reps_intsV h2
        split at P
        · rename_i hl
          rw [List.length_map] at hl
          refine call_sortedDI hc pins s σ H _ us Q I r ⟨p, kvs, zs, rfl, .inl h1, kV_ints e1, hl, fun ys q hp hs hq => ?_⟩
          rw [sortU_ints] at P
          rw [sortI_of hp hs]
          exact P _ m _ (le_new hq) (S.new hq) (.lst upd_same (S.off hq) (ints_reps _))
        · exact P.elim
      · exact P.elim
  · exact P.elim
end
end Z


set_option maxHeartbeats 2000000
namespace Z
open PySem PySem.Spec PyProof.Rows L2

/-! ### constants of the top, read off the written part -/
mutual
def okU (K : PySem.W.Frag) : U → Value → Bool
  | .non, .none => true
  | .bl b, .bool c => b == c
  | .int i, .int j _ => decide (i = j)
  | .str x, .str y _ => decide (x = y) && (PyData.strOk x && decide (x.length ≤ 16777216))
  | .tup xs, .ref a => match K.lookup a with
    | some ⟨.type c, none, .seq its _, _⟩ => decide (c = "tuple") && (decide (its.size ≤ 16777216) && okUs K xs its.toList)
    | _ => false
  | .fn x, .ref a => decide (PySem.W.nsIn K mainGlobals x = some (some (.ref a)))
  | _, _ => false
def okUs (K : PySem.W.Frag) : List U → List Value → Bool
  | [], [] => true
  | u :: us, v :: vs => okU K u v && okUs K us vs
  | _, _ => false
end
def okE (K : PySem.W.Frag) : List Str → List U → List DictEntry → Bool
  | [], [], [] => true
  | x :: xs, u :: us, e :: es => (match e.key with
    | .str y _ => decide (y = x)
    | _ => false) && (okU K u e.val && okE K xs us es)
  | _, _, _ => false
/-- a constant: its name, its value -/
def okG (K : PySem.W.Frag) (p : Str × U) : Bool := match PySem.W.nsIn K mainGlobals p.1 with
  | some (some v) => (match p.2, v with
    | .kdc xs us, .ref a => (match K.lookup a with
      | some ⟨_, _, .dict es _, _⟩ => okE K xs us es.toList
      | _ => false)
    | u, v => okU K u v)
  | _ => false
section
variable {K : PySem.W.Frag} {G : GC} {h : Heap} {mg : Str → Option Value}
mutual
theorem okU_rep (hK : G.K = K) (X : K.In h) (N : h.Ns mainGlobals G.mg) : ∀ (u : U) (w : Value), okU K u w = true → ∃ v, RelV v w ∧ ∀ m H, Rep G m H u v
  | .non, w, e => by
    cases w with
    | none => exact ⟨.non, rfl, fun _ _ => .non⟩
    | _ => cases e
  | .bl b, w, e => by
    cases w with
    | bool c =>
      have : b = c := eq_of_beq (show (b == c) = true from e)
      subst this
      exact ⟨.bl b, rfl, fun _ _ => .bl b⟩
    | _ => cases e
  | .int i, w, e => by
    cases w with
    | int j t =>
      have : i = j := of_decide_eq_true e
      subst this
      exact ⟨.int i, ⟨t, rfl⟩, fun _ _ => .int i⟩
    | _ => cases e
  | .str x, w, e => by
    cases w with
    | str y t =>
      obtain ⟨h1, h2⟩ := He.ba (show (decide (x = y) && (PyData.strOk x && decide (x.length ≤ 16777216))) = true from e)
      obtain ⟨h3, h4⟩ := He.ba h2
      have : x = y := of_decide_eq_true h1
      subst this
      exact ⟨.str x, ⟨t, rfl⟩, fun _ _ => .str x h3 (of_decide_eq_true h4)⟩
    | _ => cases e
  | .tup xs, w, e => by
    cases w with
    | ref a =>
      have e : (match K.lookup a with
        | some ⟨.type c, none, .seq its _, _⟩ => decide (c = "tuple") && (decide (its.size ≤ 16777216) && okUs K xs its.toList)
        | _ => false) = true := e
      cases q : K.lookup a with
      | none => rw [q] at e; cases e
      | some o =>
        obtain ⟨oc, od, dt, osl⟩ := o
        rw [q] at e
        cases oc with
        | type c =>
         cases od with
         | some _ => cases dt <;> cases e
         | none =>
          cases dt with
          | seq its n =>
            obtain ⟨h1, h2⟩ := He.ba (show (decide (c = "tuple") && (decide (its.size ≤ 16777216) && okUs K xs its.toList)) = true from e)
            obtain ⟨h3, h4⟩ := He.ba h2
            obtain ⟨vs, r1, r2⟩ := okUs_rep hK X N xs its.toList h4
            exact ⟨.ref a, rfl, fun m H => .tupK ⟨⟨_, its, n, by rw [hK]; exact q, congrArg Value.type (of_decide_eq_true h1), rfl, by rw [line_eq]; exact of_decide_eq_true h3, r1⟩, fun o2 h5 => by rw [hK, q] at h5; cases h5; rfl⟩ (r2 m H)⟩
          | _ => cases e
        | _ => cases od <;> cases dt <;> cases e
    | _ => cases e
  | .fn x, w, e => by
    cases w with
    | ref a =>
      have e : PySem.W.nsIn K mainGlobals x = some (some (.ref a)) := of_decide_eq_true e
      exact ⟨.ref a, rfl, fun _ _ => .fn (PySem.W.mg_of X N e)⟩
    | _ => cases e
  | .lst _, w, e => by cases w <;> cases e
  | .frz _, w, e => by cases w <;> cases e
  | .hdl _, w, e => by cases w <;> cases e
  | .dct _ _, w, e => by cases w <;> cases e
  | .kdc _ _, w, e => by cases w <;> cases e
theorem okUs_rep (hK : G.K = K) (X : K.In h) (N : h.Ns mainGlobals G.mg) : ∀ (u : List U) (w : List Value), okUs K u w = true → ∃ v, Vals v w ∧ ∀ m H, Reps G m H u v
  | [], w, e => by
    cases w with
    | nil => exact ⟨[], .nil, fun _ _ => .nil⟩
    | cons _ _ => cases e
  | u :: us, w, e => by
    cases w with
    | nil => cases e
    | cons w ws =>
      obtain ⟨h1, h2⟩ := He.ba (show (okU K u w && okUs K us ws) = true from e)
      obtain ⟨v, r1, r2⟩ := okU_rep hK X N u w h1
      obtain ⟨vs, q1, q2⟩ := okUs_rep hK X N us ws h2
      exact ⟨v :: vs, .cons r1 q1, fun m H => .cons (r2 m H) (q2 m H)⟩
end
theorem okE_rep (hK : G.K = K) (X : K.In h) (N : h.Ns mainGlobals G.mg) : ∀ (xs : List Str) (us : List U) (es : List DictEntry), okE K xs us es = true →
    ∃ vs, (∀ m H, Reps G m H us vs) ∧ (∀ z : Str, RelO (lookS xs vs z) ((es.find? (·.key.isStr z)).map (·.val))) ∧ es.any (·.refKey) = false
  | [], [], [], _ => ⟨[], fun _ _ => .nil, fun z => trivial, rfl⟩
  | [], [], _ :: _, e => by cases e
  | [], _ :: _, es, e => by cases es <;> cases e
  | _ :: _, [], es, e => by cases es <;> cases e
  | _ :: _, _ :: _, [], e => by cases e
  | x :: xs, u :: us, e :: es, h0 => by
    obtain ⟨h1, h2⟩ := He.ba (show ((match e.key with
      | .str y _ => decide (y = x)
      | _ => false) && (okU K u e.val && okE K xs us es)) = true from h0)
    obtain ⟨h3, h4⟩ := He.ba h2
    obtain ⟨v, r1, r2⟩ := okU_rep hK X N u e.val h3
    obtain ⟨vs, q1, q2, q3⟩ := okE_rep hK X N xs us es h4
    cases hk : e.key with
    | str y t =>
      rw [hk] at h1
      have : y = x := of_decide_eq_true h1
      subst this
      refine ⟨v :: vs, fun m H => .cons (r2 m H) (q1 m H), fun z => ?_, ?_⟩
      · rw [List.find?_cons]
        have e1 : e.key.isStr z = decide (y = z) := by rw [hk]; simp [Value.isStr, BEq.beq]
        unfold lookS
        by_cases q : z = y
        · subst q
          rw [e1]
          simp [RelO, r1]
        · rw [if_neg q, e1, decide_eq_false (fun z2 => q z2.symm)]
          exact q2 z
      · rw [List.any_cons, q3, Bool.or_false]
        unfold DictEntry.refKey
        rw [hk]
    | _ => rw [hk] at h1; cases h1
theorem okG_rep {w : World} (hK : G.K = K) (hw : G.w = w) (X : K.In h) (N : h.Ns mainGlobals G.mg) {x : Str} {u : U} (hd : ∀ xs us, u = .kdc xs us → ∃ es n, KDict K w (He.ga K x) es n) (e : okG K (x, u) = true) : GlobU G x u := by
  unfold okG at e
  cases q : PySem.W.nsIn K mainGlobals x with
  | none => simp only [q] at e; cases e
  | some o => cases o with
    | none => simp only [q] at e; cases e
    | some v =>
      simp only [q] at e
      have hm := PySem.W.mg_of X N q
      split at e
      · rename_i xs us a
        have ea : He.ga K x = a := by unfold He.ga; rw [q]
        obtain ⟨es, n, kd⟩ := hd xs us rfl
        rw [ea] at kd
        have l := kd.at_
        rw [l] at e
        obtain ⟨vs, r1, r2, r3⟩ := okE_rep hK X N xs us es.toList e
        refine ⟨.ref a, .ref a, hm, rfl, fun m H => .kdc (vs := vs) ⟨es, n, by rw [hK, hw]; exact kd, fun z => ?_⟩ (r1 m H)⟩
        refine ⟨_, ?_, r2 z⟩
        unfold PySem.W.nsIn
        rw [hK, l]
        simp only
        cases es.toList.find? (·.key.isStr z) with
        | some e => rfl
        | none => simp only [r3, Bool.false_eq_true, if_false, Option.map_none]
      · obtain ⟨v', r1, r2⟩ := okU_rep hK X N u v e
        exact ⟨v, v', hm, r1, r2⟩
theorem fun_of {x : Str} {st : Stmt} {f : Addr} {fd : FuncData} (F : FunD K x x (defArgs st) (defBody st) (defScope st) [] [] f fd) : Fun K x x st f fd := by
  obtain ⟨oc, od, dV, kV, doc, pm, an, cdv, ct, osl, e, l, c, d, _⟩ := F.ex
  rcases d with ⟨_, rfl⟩ | ⟨z, _⟩
  · subst e
    exact fun_mk l c F.kp
  · exact absurd rfl z
end
/-! ### the head's facts -/
abbrev dz (x : Str) (st : Stmt) : He.DefD := ⟨(x, none), x, x, defArgs st, defBody st, defScope st, [], []⟩
section
variable {fa : List He.Fa} {fn : List He.DefD} {ts : List He.Tab} {tf : List He.Defn} {ex : PySem.W.Frag → Bool} {w : World} {h : Heap} {K : PySem.W.Frag} {mg : Str → Option Value}
theorem sx_free (X : K.In h) (N : h.Ns mainGlobals mg) (c : He.SaysX fa fn ts tf ex w h K) (i : Nat) {x : Str} (e : fa[i]? = some (.free x) := by rfl) : mg x = none := He.free_ok X N (c.t.d.fact i e)
theorem sx_def (X : K.In h) (N : h.Ns mainGlobals mg) (c : He.SaysX fa fn ts tf ex w h K) (i j : Nat) {x : Str} {st : Stmt} {ps : List Str}
    (hb : ∀ (kV doc pm : Value) (an : Option Addr) (cdv ct : Value) (us : List Value), us.length = ps.length → bindArgs (PySem.W.fnOf x x (defArgs st) (defBody st) (defScope st) .none kV doc pm an cdv ct) ⟨us, []⟩ = pure (ps.zip us))
    (e1 : fn[i]? = some (dz x st) := by rfl) (e2 : fa[j]? = some (.glo x) := by rfl) : DefZ K mg x st ps := by
  obtain ⟨fd, F⟩ := c.t.d.def_ i e1
  have hm := He.glo_ok X N (c.t.d.fact j e2)
  have Fn := fun_of F
  exact ⟨_, fd, Fn, hm, Fn.binds hb⟩
theorem sx_exc (X : K.In h) (N : h.Ns mainGlobals mg) (c : He.SaysX fa fn ts tf ex w h K) (i j : Nat) {x : Str} (e1 : fa[i]? = some (.exc x) := by rfl) (e2 : fa[j]? = some (.glo x) := by rfl) : ExcZ K mg x := by
  obtain ⟨a, b, d, e⟩ := He.exc_ok (c.t.d.fact i e1)
  exact ⟨_, _, _, _, _, PySem.F.excBase_ValueError, He.glo_ok X N (c.t.d.fact j e2), a, b, d, e⟩
theorem sx_const (X : K.In h) (N : h.Ns mainGlobals mg) (c : He.SaysX fa fn ts tf ex w h K) {cs : List (Str × U)} (hex : ∀ K, ex K = true → cs.all (okG K) = true) (i : Nat) {x : Str} {u : U} {T : List (Addr × Str)}
    (hd : ∀ xs us, u = .kdc xs us → ∃ j : Nat, ∃ ks, ts[j]? = some (fun K => He.ga K x, ks)) (e : cs[i]? = some (x, u) := by rfl) : GlobU ⟨K, mg, T, w⟩ x u := by
  have a := List.all_eq_true.mp (hex K c.more) _ (List.mem_of_getElem? e)
  refine okG_rep (G := ⟨K, mg, T, w⟩) rfl rfl X N (fun xs us z => ?_) a
  obtain ⟨j, ks, e2⟩ := hd xs us z
  exact c.t.tab j e2
def subsB (t : SubT) (K : PySem.W.Frag) : Bool := t.all fun p => decide (PySem.W.exmOne K (.ref (He.ga K p.1)) (.ref (He.ga K p.2.1)) = some p.2.2)
theorem sx_subs {t : SubT} (hs : subsB t K = true) (hg : ∀ p ∈ t, mg p.1 = some (.ref (He.ga K p.1)) ∧ mg p.2.1 = some (.ref (He.ga K p.2.1))) : ∀ p ∈ t, ExmZ K mg p.1 p.2.1 p.2.2 := fun p hp => by
  have := of_decide_eq_true (List.all_eq_true.mp hs p hp)
  obtain ⟨a, b⟩ := hg p hp
  exact ⟨_, _, a, b, this⟩
theorem sx_funC (c : He.SaysX fa fn ts tf ex w h K) (i : Nat) {x : Str} {st : Stmt} (e1 : fn[i]? = some (dz x st) := by rfl) : ∃ fd, FunC K x x st (He.ga K x) fd (.ref (He.cT K (x, none)).1) := by
  obtain ⟨fd, F⟩ := c.t.d.def_ i e1
  refine ⟨fd, ?_⟩
  obtain ⟨oc, od, dV, kV, doc, pm, an, cdv, ct, osl, e, l, cd, d, _⟩ := F.ex
  obtain ⟨cc, rfl⟩ := He.codeIn_ref cd
  rcases d with ⟨_, rfl⟩ | ⟨z, _⟩
  · have q := He.codeOf_eq l (show fd.code = .ref cc by rw [e])
    have q : (He.cT K (x, none)).1 = cc := q
    rw [q]
    exact ⟨oc, od, kV, doc, pm, an, ct, osl, e, l, cd⟩
  · exact absurd rfl z
end
def lamQ (p : He.Defn) : Str := p.1 ++ ".<locals>." ++ "<lambda>"
abbrev tabsOf (K : PySem.W.Frag) (tf : List He.Defn) : List (Addr × Str) := tf.map fun p => ((He.cT K p).2, lamQ p)
/-- the law's end over the head's facts -/
theorem walkH {l : PySem.W.OpenLaw} {q : Program} {loose : List Str} {XP : (Str → Option Value) → Heap → Prop} {d : DefRec} {n k : Nat} {fa : List He.Fa} {fn : List He.DefD} {ts : List He.Tab} {tf : List He.Defn} {ex : PySem.W.Frag → Bool} {F : FnZ} {x : Str}
    (hn : l.most = some 63) (hdf : d.params.defaults = []) (hr : Room k callerA)
    (hlaw : ∀ ns : List Int, ns.length ≤ 63 → ∀ u, u = .frz (ns.map .int) ∨ u = .lst (ns.map .int) → ∃ st, F [u] [] = .ok (.bl true) st)
    (hF : ∀ (w : World) (mg : Str → Option Value) (f : Addr) (h : Heap) (K : PySem.W.Frag), K.In h → h.Ns mainGlobals mg → mg d.name = some (.ref f) → He.SaysX fa fn ts tf ex w h K →
      ∃ fd : FuncData, (∀ (s : Shared) (u : Value), BindsTo s fd ⟨[u], []⟩ [(x, u)]) ∧ ∀ base : Heap, (∀ p ∈ tf, LamX.TabB base mg (He.cT K p).1 (He.cT K p).2) → FnOk l.prog w K mg base (L2.CX l.prog w) k f fd [x] (spZ ⟨K, mg, tabsOf K tf, w⟩ 1 F)) :
    PySem.W.WalkO q loose XP (He.hookX n fa fn ts tf ex).says l.row.toRowW d [] (fun f vs => PySem.call f vs) := by
  refine LamX.walk_ofTsE (l := l) (n := 63) (k := k) (x := x) (CX := fun w => L2.CX l.prog w) hn (by decide) hdf hr (fun w mg f h Y N hm => ?_) (fun w H s e s' z => ?_)
  · obtain ⟨K, KX, c⟩ := Y
    obtain ⟨fd, hb, hf⟩ := hF w mg f h K KX N hm c
    refine ⟨K, KX, fd, tf.map (He.cT K), spZ ⟨K, mg, tabsOf K tf, w⟩ 1 F, fun p hp => ?_, fun p hp => ?_, fun p hp => ?_, hb, fun H a ns hl _ hT hS => ?_, fun base _ _ hB => hf base fun p hp => hB _ (List.mem_map_of_mem hp)⟩
    · obtain ⟨p, hq, rfl⟩ := List.mem_map.mp hp
      exact c.empty p hq
    · obtain ⟨p, hq, rfl⟩ := List.mem_map.mp hp
      exact c.out p hq
    · obtain ⟨p, hq, rfl⟩ := List.mem_map.mp hp
      exact PySem.W.codeHd_of_K KX (c.hd p hq)
    · have tb : LamX.Tabs (tabsOf K tf) H := fun p hp => by
        obtain ⟨p, hq, rfl⟩ := List.mem_map.mp hp
        exact LamX.TabS.nil (hT _ (List.mem_map_of_mem hq))
      have key : ∀ u : U, (u = .frz (ns.map .int) ∨ u = .lst (ns.map .int)) → Rep ⟨K, mg, tabsOf K tf, w⟩ ⟨fun _ => none, fun _ => False⟩ H u (.ref a) → spZ ⟨K, mg, tabsOf K tf, w⟩ 1 F [.ref a] H (fun v _ => v = .bl true) fun _ _ _ => False := fun u hu r => by
        obtain ⟨st, e⟩ := hlaw ns hl u hu
        refine ⟨[u], [], ⟨fun _ => none, fun _ => False⟩, rfl, ⟨fun n h => absurd h (Nat.not_lt_zero n), fun n a h => (nomatch h), fun n k a h => (nomatch h), fun n a h => (nomatch h), fun a h => (show False from h).elim, fun n c a h => by simp at h, tb⟩, .cons r .nil, ?_⟩
        rw [e]
        intro v m' H' l S r
        cases r
        rfl
      rcases hS with (h | ⟨o, h⟩) | h
      · exact key _ (.inr rfl) (.lst h (fun z => z) (reps_ints ns))
      · exact key _ (.inl rfl) (.frz h (fun z => z) (reps_ints ns))
      · exact key _ (.inl rfl) (.frzK h (reps_ints ns))
  · obtain ⟨_, _, _, _, _, _, _, _, _, _, _, _, z⟩ := z
    exact z
end Z

set_option maxHeartbeats 2000000
namespace Z
open PySem PySem.Spec PyProof.Rows L2
/-! ### the head's facts of classes with an __init__ of their own: the method and its code, beside what is reached in n steps -/
def iniAs (g : Addr → Option Obj) (xs : List Str) (as : List Addr) : List Addr :=
  let K := He.frT g as
  as ++ cStatics :: xs.flatMap fun x => let f := He.ma K (He.ga K x) "__init__"
    f :: (match g f with
      | some ⟨_, _, .func fd, _⟩ => He.refV fd.code
      | _ => [])
/-- the tuples within a tuple, n deep -/
def tupAs (g : Addr → Option Obj) : Nat → Addr → List Addr
  | 0, _ => []
  | n + 1, a => match g a with
    | some ⟨_, _, .seq xs _, _⟩ => (xs.toList.flatMap He.refV).flatMap fun b => b :: tupAs g n b
    | _ => []
def deepAs (g : Addr → Option Obj) (ds : List Str) (as : List Addr) : List Addr :=
  let K := He.frT g as
  as ++ ds.flatMap fun x => tupAs g 5 (He.ga K x)
theorem saysX_any {as : List Addr} {fa : List He.Fa} {fn : List He.DefD} {ts : List He.Tab} {tf : List He.Defn} {ex : PySem.W.Frag → Bool} {w : World} {h : Heap}
    (e : (He.obsT fa fn ts (He.frT h.get? as), ex (He.frT h.get? as) && He.tabsB h.get? tf (He.frT h.get? as)) = He.valX fn ts w) : He.SaysX fa fn ts tf ex w h (He.frT h.get? as) := by
  obtain ⟨h1, h2⟩ := He.ba (congrArg (fun z : He.AlX => z.2) e)
  have key : ∀ p ∈ tf, PySem.W.codeHdIn (He.frT h.get? as) (He.cT (He.frT h.get? as) p).1 (He.cT (He.frT h.get? as) p).2 = true ∧ ∃ o, h.get? (He.cT (He.frT h.get? as) p).2 = some o ∧ He.emptyTab o = true := fun p hp => by
    obtain ⟨h3, h4⟩ := He.ba (List.all_eq_true.mp h2 p hp)
    refine ⟨h3, ?_⟩
    split at h4
    · rename_i o q
      exact ⟨o, q, h4⟩
    · cases h4
  refine ⟨congrArg (fun z : He.AlX => z.1) e, h1, fun p hp => (key p hp).1, fun p hp => ?_, fun p hp => ?_⟩
  · obtain ⟨_, o, q, z⟩ := key p hp
    exact He.frT_none q z
  · obtain ⟨_, o, q, z⟩ := key p hp
    rw [q, He.emptyTab_eq z]
def obsY (xs ds : List Str) (n : Nat) (fa : List He.Fa) (fn : List He.DefD) (ts : List He.Tab) (tf : List He.Defn) (ex : PySem.W.Frag → Bool) (g : Addr → Option Obj) : He.AlX :=
  let K := He.frT g (deepAs g ds (iniAs g xs (He.asD g n)))
  (He.obsT fa fn ts K, ex K && He.tabsB g tf K)
def hookY (xs ds : List Str) (n : Nat) (fa : List He.Fa) (fn : List He.DefD) (ts : List He.Tab) (tf : List He.Defn) (ex : PySem.W.Frag → Bool) : PySem.W.Hook where
  α := He.AlX
  obs := fun s => obsY xs ds n fa fn ts tf ex s.heap.get?
  val := fun w => He.valX fn ts w
  says := (He.hookX n fa fn ts tf ex).says
  of := fun _ _ e => ⟨_, He.frT_in, saysX_any e⟩
  keeps := (He.hookX n fa fn ts tf ex).keeps
theorem obsY_eq {xs ds : List Str} {n : Nat} {fa : List He.Fa} {fn : List He.DefD} {ts : List He.Tab} {tf : List He.Defn} {ex : PySem.W.Frag → Bool} {g : Addr → Option Obj} {s : Shared} (h : ∀ a, g a = s.heap.get? a) : obsY xs ds n fa fn ts tf ex g = (hookY xs ds n fa fn ts tf ex).obs s := by
  have e : g = s.heap.get? := funext h
  rw [e] <;> rfl
/-- the class x over b, with the field f -/
def excB (K : PySem.W.Frag) (C : Addr) : Bool := match K.lookup C with
  | some ⟨.type t, _, .cls cd, sl⟩ => decide (t = "type") && (match cd.mro, sl.toList with
    | .ref C' :: bm, [_, _, _, _, some (.builtin n), _] => decide (C' = C) && (decide (n = "ValueError.__new__") && (!cd.hasDel && (cd.hasDict && PySem.HandSPX.refsVE bm)))
    | _, _ => false)
  | _ => false
def oexB (K : PySem.W.Frag) (C : Addr) : Bool := excB K C && (decide (PySem.W.findIn K (.ref C) "__setattr__" = some (some (.builtin "object.__setattr__"))) && (decide (PySem.W.subIn K (.ref C) (.type "BaseException") = some true) && (decide (PySem.W.typeIn K (.ref C) = some (.type "type")) && PySem.W.keepIn K (.ref C))))
def clB (K : PySem.W.Frag) (B : Addr) : Bool := decide (PySem.W.specialIn K (.ref B) "__getattribute__" = some (some (.builtin "type.__getattribute__"))) && (decide (PySem.W.typeIn K (.ref B) = some (.type "type")) && (PySem.W.readsIn K B (.type "type") &&
  (match PySem.W.findCls K (.ref B) (.type "type") "__init__" with
  | some (.val (.builtin s)) => decide (s = "ValueError.__init__")
  | _ => false)))
def iniB (K : PySem.W.Frag) (x b f : Str) : Bool := oexB K (He.ga K x) && (decide (PySem.W.findIn K (.ref (He.ga K x)) "__init__" = some (some (.ref (He.ma K (He.ga K x) "__init__")))) &&
  (decide (PySem.W.typeIn K (.ref (He.ma K (He.ga K x) "__init__")) = some (.type "function")) && (decide (PySem.W.findIn K (.ref (He.ga K x)) f = some none) && (xfB K (He.ga K x) && clB K (He.ga K b)))))
theorem tab_uniq {K : PySem.W.Frag} {tf : List He.Defn} (hd : (tf.map fun p => (He.cT K p).2).Nodup) {p0 : He.Defn} (hm : p0 ∈ tf) : ∀ p ∈ tabsOf K tf, p.1 = (He.cT K p0).2 → p.2 = lamQ p0 := fun p hp e => by
  obtain ⟨q, hq, rfl⟩ := List.mem_map.mp hp
  have : q = p0 := by
    clear hp
    induction tf with
    | nil => cases hm
    | cons a l ih =>
      obtain ⟨h1, h2⟩ := List.nodup_cons.mp hd
      rcases List.mem_cons.mp hm with rfl | hm
      · rcases List.mem_cons.mp hq with rfl | hq
        · rfl
        · exact absurd (List.mem_map.mpr ⟨q, hq, e⟩ : (He.cT K p0).2 ∈ l.map fun p => (He.cT K p).2) h1
      · rcases List.mem_cons.mp hq with rfl | hq
        · exact absurd (List.mem_map.mpr ⟨p0, by assumption, e.symm⟩ : (He.cT K q).2 ∈ l.map fun p => (He.cT K p).2) h1
        · exact ih h2 hm hq
  rw [this]
def methS : Stmt → Stmt
  | .ClassDef _ _ _ b _ _ _ _ _ _ _ => b.getD 0 (.Pass ⟨0, 0, 0, 0⟩)
  | s => s
abbrev dzI (x qual : Str) (st : Stmt) : He.DefD := ⟨(x, some "__init__"), "__init__", qual, defArgs st, defBody st, defScope st, [], []⟩
end Z

namespace Z
open PySem PySem.Spec PyProof.Rows L2
theorem run3 {σ α β γ : Type} {X : Option σ} {f : σ → α} {g : σ → β} {h : σ → γ} {a : α} {b : β} {c : γ} (h1 : X.map f = some a) (h2 : X.map g = some b) (h3 : X.map h = some c) : X.map (fun s => (f s, g s, h s)) = some (a, b, c) := by
  cases X with
  | none => cases h1
  | some x =>
    injection h1 with h1
    injection h2 with h2
    injection h3 with h3
    rw [← h1, ← h2, ← h3]
    rfl

def topS (i : Nat) : Stmt := PySem.Challenge.pw_chainpapers_k15_whole_changes_of_values.main.body.getD i (.Pass ⟨0, 0, 0, 0⟩)
abbrev fuel : Nat := 4000000
def u_MOST_CHANGES : U := .int (1000)
def u_MOST_DEEP : U := .int (10)
def u_MOST_ITEMS : U := .int (60)
def u_MOST_SIGNS : U := .int (20)
def u_MOST_VALUE : U := .int (4294967295)
def u_SIGNS : U := .str "0123456789abcdefghijklmnopqrstuvwxyz"
def t_sub : SubT := ([("InvalidChange", "BadRow", false), ("InvalidChange", "BadSeal", false), ("InvalidChange", "ChainError", true), ("InvalidChange", "InvalidAnchor", false), ("InvalidChange", "InvalidCertificate", false), ("InvalidChange", "InvalidChange", true), ("InvalidChange", "InvalidList", false), ("InvalidChange", "InvalidNumber", false), ("InvalidChange", "InvalidQuestion", false), ("InvalidChange", "InvalidRow", false), ("InvalidChange", "InvalidStore", false), ("InvalidChange", "InvalidValue", false), ("InvalidChange", "TooMany", false), ("InvalidValue", "BadRow", false), ("InvalidValue", "BadSeal", false), ("InvalidValue", "ChainError", true), ("InvalidValue", "InvalidAnchor", false), ("InvalidValue", "InvalidCertificate", false), ("InvalidValue", "InvalidChange", false), ("InvalidValue", "InvalidList", false), ("InvalidValue", "InvalidNumber", false), ("InvalidValue", "InvalidQuestion", false), ("InvalidValue", "InvalidRow", false), ("InvalidValue", "InvalidStore", false), ("InvalidValue", "InvalidValue", true), ("InvalidValue", "TooMany", false)] : SubT)
abbrev HR : PySem.W.OpenRow := PySem.W.OpenLaw.row PySem.Challenge.rw_chainpapers_k15_whole_changes_of_values
def hfn : List He.DefD := [dz "_law_error" (topS 44), dz "_law_cup" (topS 39), dz "_law_roll" (topS 40), dz "_law_some" (topS 41), dz "_law_leaf" (topS 46), dz "_law_value" (topS 47), dz "_law_deep" (topS 48), dz "is_truth" (topS 3), dz "is_integer" (topS 2), dz "are_signs" (topS 5), dz "is_tuple" (topS 4), dz "is_value_within" (topS 26), dz "is_value" (topS 27), dz "check_value" (topS 28), dz "with_item_at" (topS 36), dz "is_path_of" (topS 33), dz "are_single_changes" (topS 34), dz "is_ascending" (topS 6), dz "are_apart" (topS 35), dz "changed_value" (topS 37), dz "_law_put" (topS 51), dz "_law_paths" (topS 52), dz "_law_same" (topS 45), dz "outermost_changes" (topS 31), dz "changes_of" (topS 32), dz "_law_at" (topS 50), dz "_law_alike" (topS 53), dz "_law_due" (topS 54), dz "_law_right" (topS 55), dz "law" (topS 56)] ++ [dzI "BadRow" "BadRow.__init__" (methS (topS 20)), dzI "TooMany" "TooMany.__init__" (methS (topS 16))]
def hfa : List He.Fa := (([.glo "_law_error", .glo "_law_cup", .glo "_law_roll", .glo "_law_some", .glo "_law_leaf", .glo "_law_value", .glo "_law_deep", .glo "is_truth", .glo "is_integer", .glo "are_signs", .glo "is_tuple", .glo "is_value_within", .glo "is_value", .glo "check_value", .glo "with_item_at", .glo "is_path_of", .glo "are_single_changes", .glo "is_ascending", .glo "are_apart", .glo "changed_value", .glo "_law_put", .glo "_law_paths", .glo "_law_same", .glo "outermost_changes", .glo "changes_of", .glo "_law_at", .glo "_law_alike", .glo "_law_due", .glo "_law_right", .glo "law"] : List He.Fa) ++ ([.glo "BadSeal", .glo "ChainError", .glo "InvalidAnchor", .glo "InvalidCertificate", .glo "InvalidChange", .glo "InvalidList", .glo "InvalidNumber", .glo "InvalidQuestion", .glo "InvalidRow", .glo "InvalidStore", .glo "InvalidValue", .glo "BadRow", .glo "TooMany", .free "abs", .free "bool", .free "enumerate", .free "int", .free "isinstance", .free "len", .free "list", .free "range", .free "repr", .free "str", .free "tuple", .exc "BadSeal", .exc "ChainError", .exc "InvalidAnchor", .exc "InvalidCertificate", .exc "InvalidChange", .exc "InvalidList"] : List He.Fa) ++ ([.exc "InvalidNumber", .exc "InvalidQuestion", .exc "InvalidRow", .exc "InvalidStore", .exc "InvalidValue"] : List He.Fa) : List He.Fa)
def hts : List He.Tab := []
def htf : List He.Defn := [("law", none)]
def hcs : List (Str × U) := [("MOST_CHANGES", u_MOST_CHANGES), ("MOST_DEEP", u_MOST_DEEP), ("MOST_ITEMS", u_MOST_ITEMS), ("MOST_SIGNS", u_MOST_SIGNS), ("MOST_VALUE", u_MOST_VALUE), ("SIGNS", u_SIGNS)]
def hex (K : PySem.W.Frag) : Bool := (hcs.all (okG K) && subsB t_sub K) && (iniB K "BadRow" "ChainError" "at" && (iniB K "TooMany" "ChainError" "limit" && true))
abbrev hk : PySem.W.Hook := hookY ["BadRow", "TooMany"] [] 2 hfa hfn hts htf hex
def hob (s : PySem.W.SharedT) : He.AlX := obsY ["BadRow", "TooMany"] [] 2 hfa hfn hts htf hex (HandSHeadRun.getT s)
theorem hob_eq (s : PySem.W.SharedT) : hob s = hk.obs s.abs := obsY_eq (HandSHeadRun.getT_eq s)
def hnames : List Str := ((["SIGNS", "is_integer", "is_truth", "is_tuple", "are_signs", "is_ascending", "ChainError", "InvalidNumber", "InvalidRow", "InvalidCertificate", "InvalidList", "InvalidAnchor", "InvalidStore", "InvalidQuestion", "TooMany", "InvalidValue", "InvalidChange", "BadSeal", "BadRow", "MOST_VALUE", "MOST_SIGNS", "MOST_ITEMS", "MOST_DEEP", "is_value_within", "is_value", "check_value", "MOST_CHANGES", "outermost_changes", "changes_of", "is_path_of"] : List String) ++ (["are_single_changes", "are_apart", "with_item_at", "changed_value", "_law_cup", "_law_roll", "_law_some", "_law_groups", "_law_row", "_law_error", "_law_same", "_law_leaf", "_law_value", "_law_deep", "_law_odd_values", "_law_at", "_law_put", "_law_paths", "_law_alike", "_law_due", "_law_right"] : List String) : List String).map PySem.Str.ofString
def hq : Program := PySem.W.view HR.prog [56]
open PySem.W PySem.Calls HandSHeadRun in
set_option maxHeartbeats 0 in
theorem hr1_false (w : World) (os : OsState) : (endF (stepQ (denQ tabQ) HR.prog (w.withFollow "special-get-raises" false)) 20000 HR.prog (w.withFollow "special-get-raises" false) os).map (fun s => looksF HR.prog (boot_heap (w.withFollow "special-get-raises" false).params) s.abs) = some true := by
  kernel_rfl
open PySem.W PySem.Calls HandSHeadRun in
set_option maxHeartbeats 0 in
theorem hr2_false (w : World) (os : OsState) : (endF (stepQ (denQ tabQ) HR.prog (w.withFollow "special-get-raises" false)) 20000 HR.prog (w.withFollow "special-get-raises" false) os).map (fun s => seenQ hq hnames (importedModules HR.prog.main.body) (fun s => xlAt hq [] s && recOk HR.toRowW.records s) s.abs) = some (openGood hq hnames) := by
  kernel_rfl
open PySem.W PySem.Calls HandSHeadRun in
set_option maxHeartbeats 0 in
theorem hr3_false (w : World) (os : OsState) : (endF (stepQ (denQ tabQ) HR.prog (w.withFollow "special-get-raises" false)) 20000 HR.prog (w.withFollow "special-get-raises" false) os).map (fun s => hob s) = some (hk.val (w.withFollow "special-get-raises" false)) := by
  kernel_rfl
theorem hrun_false (w : World) : HandSHeadRun.RunEq HR hq hk hob 20000 hnames (w.withFollow "special-get-raises" false) := fun os => run3 (hr1_false w os) (hr2_false w os) (hr3_false w os)
open PySem.W PySem.Calls HandSHeadRun in
set_option maxHeartbeats 0 in
theorem hr1_true (w : World) (os : OsState) : (endF (stepQ (denQ tabQ) HR.prog (w.withFollow "special-get-raises" true)) 20000 HR.prog (w.withFollow "special-get-raises" true) os).map (fun s => looksF HR.prog (boot_heap (w.withFollow "special-get-raises" true).params) s.abs) = some true := by
  kernel_rfl
open PySem.W PySem.Calls HandSHeadRun in
set_option maxHeartbeats 0 in
theorem hr2_true (w : World) (os : OsState) : (endF (stepQ (denQ tabQ) HR.prog (w.withFollow "special-get-raises" true)) 20000 HR.prog (w.withFollow "special-get-raises" true) os).map (fun s => seenQ hq hnames (importedModules HR.prog.main.body) (fun s => xlAt hq [] s && recOk HR.toRowW.records s) s.abs) = some (openGood hq hnames) := by
  kernel_rfl
open PySem.W PySem.Calls HandSHeadRun in
set_option maxHeartbeats 0 in
theorem hr3_true (w : World) (os : OsState) : (endF (stepQ (denQ tabQ) HR.prog (w.withFollow "special-get-raises" true)) 20000 HR.prog (w.withFollow "special-get-raises" true) os).map (fun s => hob s) = some (hk.val (w.withFollow "special-get-raises" true)) := by
  kernel_rfl
theorem hrun_true (w : World) : HandSHeadRun.RunEq HR hq hk hob 20000 hnames (w.withFollow "special-get-raises" true) := fun os => run3 (hr1_true w os) (hr2_true w os) (hr3_true w os)
theorem hrun (w : World) : HandSHeadRun.RunEq HR hq hk hob 20000 hnames w :=
  PySem.W.byRow2 "special-get-raises" (P := fun w => HandSHeadRun.RunEq HR hq hk hob 20000 hnames w) hrun_false hrun_true w
end Z

namespace Z
open PySem PySem.Spec PyProof.Rows L2

section
variable {X : Cx} {a b c e o f : Expr} {pos apos : Pos} {fa fb fc : UEnv → Store → R U}
/-! ### append, extend -/
def isLst (st : Store) (u : U) : Bool := match deref st u with
  | .lst _ => true
  | _ => false
def appAt (st : Store) (o v : U) : Option Store := match o with
  | .hdl n => match st[n]? with
    | some (.lst xs) => if xs.length < 16777216 then some (st.set n (.lst (xs ++ [v]))) else none
    | _ => none
  | _ => none
def extAt (st : Store) (o v : U) : Option Store := match o with
  | .hdl n => match st[n]? with
    | some (.lst xs) => match deref st v with
      | .lst ys => if xs.length + ys.length ≤ 16777216 then some (st.set n (.lst (xs ++ ys))) else none
      | _ => none
    | _ => none
  | _ => none
def R.ofS : Option Store → R U
  | some st => .ok .non st
  | none => .stuck
@[simp] theorem R.ofS_some (st : Store) : R.ofS (some st) = .ok .non st := rfl
@[simp] def dMut (g : Store → U → U → Option Store) (fo fa : UEnv → Store → R U) : UEnv → Store → R U := fun ρ st => (fo ρ st).bind fun o st1 => if isLst st1 o = true then (fa ρ st1).bind fun v st2 => R.ofS (g st2 o v) else .stuck
theorem isL_of {G : GC} {m : MH} {H : Hp} {st : Store} {u : U} {v : V} {K : PySem.W.Frag} (S : Sim G m H st) (r : Rep G m H u v) (e : isLst st u = true) (hK : G.K = K) : tyV K "list" v H := by
  unfold isLst at e
  split at e
  · rename_i xs h
    obtain ⟨a, vs, rfl, h1, _⟩ := rep_lst S r h
    exact .inl ⟨rfl, vs, SqL.of h1⟩
  · cases e
theorem ze_append [TB] (ho : ZE X o fa) (he : ZE X e fb)
    (hbase : attributeBase o "append" X.env (eval o X.env) = eval o X.env := by rfl)
    (hfew : ((backTo pos (starEach [e] X.env)).all (fun x => !x.1) && (backToKw pos (keywordEach [] X.env)).all (fun x => x.1.isSome)
      && decide (([e] : List Expr).length + ([] : List Keyword).length + (if ([] : List Keyword).isEmpty then 0 else 1) < 30)) = true := by rfl)
    (hline : (apos.endLine == pos.line) = true := by rfl) (hs : starEach [e] X.env = (false, eval e X.env) :: starEach [] X.env := by rfl) (hplain : (backTo pos (starEach [] X.env)).any (·.1) = false := by rfl) :
    ZE X (.Call (.Attribute o "append" apos) [e] [] pos) (dMut appAt fa fb) := fun W xg =>
  PE.imp (pe_bm PySem.F.plainAttrs_list PySem.F.slot_list_append PySem.F.type_list_append mt_append (ho W xg) (pa_cons (he W xg) pa_nil hs) hbase hfew hline hs hplain) fun σ H Q ⟨ρ, st, m, S, E, P⟩ =>
    tz_seq (X := X) (k := fun ρ o st1 => if isLst st1 o = true then (fb ρ st1).bind fun v st2 => R.ofS (appAt st2 o v) else .stuck) S E P fun u st1 v m1 H1 S1 E1 r1 l1 P1 => by
      split at P1
      · rename_i hd
        refine ⟨isL_of S1 r1 hd rfl, ?_⟩
        refine tz_seq (X := X) (k := fun ρ v st2 => R.ofS (appAt st2 u v)) S1 E1 P1 fun u2 st2 v2 m2 H2 S2 E2 r2 l2 P2 => ?_
        unfold appAt at P2
        split at P2
        · rename_i n
          split at P2
          · rename_i xs hx
            split at P2
            · rename_i hl
              have ro := r1.mono S1 l2
              cases ro with
              | @hdl n a hm =>
                obtain ⟨vs, e3, rv⟩ := S2.cell n _ a hx hm
                refine ⟨a, vs, v2, rfl, rfl, e3, by rw [line_eq, ← rv.length]; exact hl, ?_⟩
                have L := le_write (o := .lst (vs ++ [v2])) S2 hm
                exact P2 _ m2 _ L (S2.write hm ⟨_, upd_same, ((rv.append (.cons r2 .nil))).mono S2 L⟩) .non
            · exact P2.elim
          · exact P2.elim
        · exact P2.elim
      · exact P1.elim
theorem ze_extend [TB] (ho : ZE X o fa) (he : ZE X e fb)
    (hbase : attributeBase o "extend" X.env (eval o X.env) = eval o X.env := by rfl)
    (hfew : ((backTo pos (starEach [e] X.env)).all (fun x => !x.1) && (backToKw pos (keywordEach [] X.env)).all (fun x => x.1.isSome)
      && decide (([e] : List Expr).length + ([] : List Keyword).length + (if ([] : List Keyword).isEmpty then 0 else 1) < 30)) = true := by rfl)
    (hline : (apos.endLine == pos.line) = true := by rfl) (hs : starEach [e] X.env = (false, eval e X.env) :: starEach [] X.env := by rfl) (hplain : (backTo pos (starEach [] X.env)).any (·.1) = false := by rfl) :
    ZE X (.Call (.Attribute o "extend" apos) [e] [] pos) (dMut extAt fa fb) := fun W xg =>
  PE.imp (pe_bm PySem.F.plainAttrs_list PySem.F.slot_list_extend PySem.F.type_list_extend mt_extend (ho W xg) (pa_cons (he W xg) pa_nil hs) hbase hfew hline hs hplain) fun σ H Q ⟨ρ, st, m, S, E, P⟩ =>
    tz_seq (X := X) (k := fun ρ o st1 => if isLst st1 o = true then (fb ρ st1).bind fun v st2 => R.ofS (extAt st2 o v) else .stuck) S E P fun u st1 v m1 H1 S1 E1 r1 l1 P1 => by
      split at P1
      · rename_i hd
        refine ⟨isL_of S1 r1 hd rfl, ?_⟩
        refine tz_seq (X := X) (k := fun ρ v st2 => R.ofS (extAt st2 u v)) S1 E1 P1 fun u2 st2 v2 m2 H2 S2 E2 r2 l2 P2 => ?_
        unfold extAt at P2
        split at P2
        · rename_i n
          split at P2
          · rename_i xs hx
            split at P2
            · rename_i ys hy
              split at P2
              · rename_i hl
                have ro := r1.mono S1 l2
                obtain ⟨b, ws, rfl, hb, rw2⟩ := rep_lst S2 r2 hy
                cases ro with
                | @hdl n a hm =>
                  obtain ⟨vs, e3, rv⟩ := S2.cell n _ a hx hm
                  refine ⟨a, b, vs, ws, rfl, rfl, e3, hb, by rw [line_eq, ← rv.length, ← rw2.length]; exact hl, ?_⟩
                  have L := le_write (o := .lst (vs ++ ws)) S2 hm
                  exact P2 _ m2 _ L (S2.write hm ⟨_, upd_same, (rv.append rw2).mono S2 L⟩) .non
              · exact P2.elim
            · exact P2.elim
          · exact P2.elim
        · exact P2.elim
      · exact P1.elim
/-! ### ord, min, max -/
def oOrd : Op1 := fun _ u => match u with
  | .str z => if z.length = 1 then some (.int (z.cps.getD 0 0 : Nat)) else none
  | _ => none
theorem b_ord [TB] : BZ1 X (.builtin "ord") oOrd := by
  intro pins s σ H xs us Q I r h
  obtain ⟨m, st, u, x, rfl, S, ru, P⟩ := h
  unfold oOrd at P
  split at P
  · split at P
    · rename_i z hz
      obtain ⟨rfl, _, _⟩ := rep_str ru
      exact call_ord pins s σ H _ us Q I r ⟨_, rfl, hz, P.here S (.int _)⟩
    · exact P.elim
  · exact P.elim
def oMin2 : Op2 := fun _ a b => match a, b with
  | .int i, .int j => some (.int (if j < i then j else i))
  | _, _ => none
def oMax2 : Op2 := fun _ a b => match a, b with
  | .int i, .int j => some (.int (if j > i then j else i))
  | _, _ => none
theorem b_min2 [TB] (hc : X.calm = true) : BZ2 X (.builtin "min") oMin2 := by
  intro pins s σ H xs us Q I r h
  obtain ⟨m, st, u, u2, x, x2, rfl, S, ru, ru2, P⟩ := h
  unfold oMin2 at P
  split at P
  · exact call_min2 hc pins s σ H _ us Q I r ⟨_, _, by rw [rep_int ru, rep_int ru2], P.here S (.int _)⟩
  · exact P.elim
theorem b_max2 [TB] (hc : X.calm = true) : BZ2 X (.builtin "max") oMax2 := by
  intro pins s σ H xs us Q I r h
  obtain ⟨m, st, u, u2, x, x2, rfl, S, ru, ru2, P⟩ := h
  unfold oMax2 at P
  split at P
  · exact call_max2 hc pins s σ H _ us Q I r ⟨_, _, by rw [rep_int ru, rep_int ru2], P.here S (.int _)⟩
  · exact P.elim
def leastI : Int → List Int → Int
  | i, [] => i
  | i, j :: r => leastI (if j < i then j else i) r
def mostI : Int → List Int → Int
  | i, [] => i
  | i, j :: r => mostI (if j > i then j else i) r
theorem leastI_spec : ∀ (r : List Int) (i : Int), leastI i r ∈ i :: r ∧ ∀ y ∈ i :: r, leastI i r ≤ y
  | [], i => by simp [leastI]
  | j :: r, i => by
    obtain ⟨h1, h2⟩ := leastI_spec r (if j < i then j else i)
    unfold leastI
    refine ⟨?_, fun y hy => ?_⟩
    · rcases List.mem_cons.mp h1 with h | h
      · rw [h]; split <;> simp
      · simp [h]
    · have h0 := h2 (if j < i then j else i) (by simp)
      rcases List.mem_cons.mp hy with rfl | hy
      · split at h0 <;> split <;> omega
      · rcases List.mem_cons.mp hy with rfl | hy
        · split at h0 <;> split <;> omega
        · exact h2 y (by simp [hy])
theorem mostI_spec : ∀ (r : List Int) (i : Int), mostI i r ∈ i :: r ∧ ∀ y ∈ i :: r, y ≤ mostI i r
  | [], i => by simp [mostI]
  | j :: r, i => by
    obtain ⟨h1, h2⟩ := mostI_spec r (if j > i then j else i)
    unfold mostI
    refine ⟨?_, fun y hy => ?_⟩
    · rcases List.mem_cons.mp h1 with h | h
      · rw [h]; split <;> simp
      · simp [h]
    · have h0 := h2 (if j > i then j else i) (by simp)
      rcases List.mem_cons.mp hy with rfl | hy
      · split at h0 <;> split <;> omega
      · rcases List.mem_cons.mp hy with rfl | hy
        · split at h0 <;> split <;> omega
        · exact h2 y (by simp [hy])
def oMinL : Op1 := fun st u => match deref st u with
  | .lst xs => (intsU xs).bind fun is => match is with
    | i :: r => some (.int (leastI i r))
    | [] => none
  | _ => none
def oMaxL : Op1 := fun st u => match deref st u with
  | .lst xs => (intsU xs).bind fun is => match is with
    | i :: r => some (.int (mostI i r))
    | [] => none
  | _ => none
theorem b_minL [TB] (hc : X.calm = true) : BZ1 X (.builtin "min") oMinL := by
  intro pins s σ H xs us Q I r h
  obtain ⟨m, st, u, x, rfl, S, ru, P⟩ := h
  unfold oMinL at P
  split at P
  · rename_i ys e
    obtain ⟨p, vs, rfl, h1, r1⟩ := rep_lst S ru e
    cases hi : intsU ys with
    | none => rw [hi] at P; exact P.elim
    | some is =>
      rw [hi] at P
      have := intsU_eq hi
      subst this
      rw [reps_intsV r1] at h1
      cases is with
      | nil => exact P.elim
      | cons i is =>
        obtain ⟨z1, z2⟩ := leastI_spec is i
        refine cr_min hc pins s σ H _ us Q I r ⟨p, i :: is, rfl, SqL.of h1, by simp, fun k hk hle => ?_⟩
        have : k = leastI i is := Int.le_antisymm (hle _ z1) (z2 k hk)
        rw [this]
        exact P.here S (.int _)
  · exact P.elim
theorem b_maxL [TB] (hc : X.calm = true) : BZ1 X (.builtin "max") oMaxL := by
  intro pins s σ H xs us Q I r h
  obtain ⟨m, st, u, x, rfl, S, ru, P⟩ := h
  unfold oMaxL at P
  split at P
  · rename_i ys e
    obtain ⟨p, vs, rfl, h1, r1⟩ := rep_lst S ru e
    cases hi : intsU ys with
    | none => rw [hi] at P; exact P.elim
    | some is =>
      rw [hi] at P
      have := intsU_eq hi
      subst this
      rw [reps_intsV r1] at h1
      cases is with
      | nil => exact P.elim
      | cons i is =>
        obtain ⟨z1, z2⟩ := mostI_spec is i
        refine cr_max hc pins s σ H _ us Q I r ⟨p, i :: is, rfl, SqL.of h1, by simp, fun k hk hle => ?_⟩
        have : k = mostI i is := Int.le_antisymm (z2 k hk) (hle _ z1)
        rw [this]
        exact P.here S (.int _)
  · exact P.elim
end
end Z

namespace Z
open PySem PySem.Spec PyProof.Rows L2

/-! ### enumerate of a tuple -/
section
variable {prog : Program} {w : World} {A : Around} {E : Value → Shared → Prop} {s : Shared}
theorem drawsT (hh : A.handled = none) (it a : Addr) (ne : a ≠ it) (vs : Array Value) : Draws prog w A it [it, a] vs.size (fun j v => vs[j]? = some v) (fun j h => h.IsTupleIter it a j ∧ h.IsTuple a vs) where
  live := fun _ _ q => ⟨_, q.1.choose_spec.1⟩
  frame := fun _ _ _ q k => ⟨let ⟨o, e1, e2⟩ := q.1; ⟨o, k it (by simp) o e1, e2⟩, let ⟨o, e1, e2⟩ := q.2; ⟨o, k a (by simp) o e1, e2⟩⟩
  item := fun j s Q E hj q hQ => wpAny_nextOf_tuple_item q.1 q.2 (x := vs[j]) (by simp [hj]) fun h' h1 h2 => hQ _ h' s.toks (by simp [hj]) ⟨h1, q.2.extBut h2.extBut ne⟩ h2
  done := fun s Q E q hE => wpAny_nextOf_tuple_end hh q.1 q.2 (by simp) hE
theorem drawsEnd (hh : A.handled = none) (it a : Addr) (vs : Array Value) (n : Nat) (hn : vs[n]? = none) : Draws prog w A it [it, a] n (fun _ _ => True) (fun j h => j = n ∧ h.IsTupleIter it a n ∧ h.IsTuple a vs) where
  live := fun _ _ q => ⟨_, q.2.1.choose_spec.1⟩
  frame := fun _ _ _ q k => ⟨q.1, let ⟨o, e1, e2⟩ := q.2.1; ⟨o, k it (by simp) o e1, e2⟩, let ⟨o, e1, e2⟩ := q.2.2; ⟨o, k a (by simp) o e1, e2⟩⟩
  item := fun j s Q E hj q _ => absurd q.1 (Nat.ne_of_lt hj)
  done := fun s Q E q hE => wpAny_nextOf_tuple_end hh q.2.1 q.2.2 hn hE
abbrev tupIt (a : Addr) : Obj := { cls := .type "tuple_iterator", data := .fields #[.ref a, .int 0 0] }
abbrev enumOf (it : Addr) : Obj := { cls := .type "enumerate", data := .fields #[.none, .bool false, .ref it, rawInt 0, .none, .none] }
theorem meets_enumT (a : Addr) (vs : Array Value) (n : Nat) (dct : Option Addr) (sl : Array (Option Value)) : Meets (Builtin.«enumerate.__new__» ⟨[.type "enumerate", .ref a], []⟩) (fun _ R s =>
    s.heap.get? a = some ⟨.type "tuple", dct, .seq vs n, sl⟩ ∧ R (.ok (.ret (.ref (s.heap.push (tupIt a)).objs.size))) { s with heap := (s.heap.push (tupIt a)).push (enumOf s.heap.objs.size) }) := .of_wp fun prog w A R s q => by
  obtain ⟨hp, g, d, tk, os⟩ := s
  obtain ⟨ha, q⟩ := q
  have z := sub_enumerate
  have hT : Heap.IsTuple (Shared.heap ⟨hp, g, d, tk, os⟩) a vs := ⟨_, ha, rfl, n, rfl⟩
  wp_walk using AutoSeq1.wpAny_loadPart' ha
  refine wpAny_stack_any fun _ => wpAny_pure ?_
  split
  · rename_i c _ _ _ _ _
    cases (c == Value.type "enumerate") <;> (wp_walk using AutoSeq1.wpAny_loadPart' ha, wpAny_pyIter_tuple hT) <;> exact ⟨_, rfl, q⟩
  · wp_walk using AutoSeq1.wpAny_loadPart' ha, wpAny_pyIter_tuple hT
    exact ⟨_, rfl, q⟩
theorem call_enumT {a : Addr} {vs : Array Value} {Q : Value → Shared → Prop} (hT : s.heap.IsTuple a vs)
    (h : ∀ h', IsEnum h' (s.heap.objs.size + 1) s.heap.objs.size 0 .none → h'.IsTupleIter s.heap.objs.size a 0 → (∀ b o, s.heap.get? b = some o → h'.get? b = some o) → Q (.ref (s.heap.objs.size + 1)) { s with heap := h' }) :
    wpAny (model prog w) A (call (.type "enumerate") [.ref a]) Q E s := by
  obtain ⟨⟨c, dct, dt, sl⟩, ha, rfl, n, rfl⟩ := hT
  refine callType_new F.called_enumerate (by decide) (F.typeCall_enumerate_1 _) (F.newCall_enumerate_1 _) (fun obj => F.args_object_init_2 obj _) F.entry_enumerate_new (meets_enumT a vs n dct sl) ⟨ha, ?_⟩
  have hz : (s.heap.push (tupIt a)).objs.size = s.heap.objs.size + 1 := Heap.size_push ..
  show _ ∧ _
  rw [hz]
  have he : IsEnum ((s.heap.push (tupIt a)).push (enumOf s.heap.objs.size)) (s.heap.objs.size + 1) s.heap.objs.size 0 .none := by
    have := Heap.get?_push_size (s.heap.push (tupIt a)) (o := enumOf s.heap.objs.size) rfl
    rwa [hz] at this
  exact ⟨⟨_, he, rfl⟩, h _ he ⟨_, Heap.get?_push_of_some _ (Heap.get?_push_size _ rfl), rfl, rfl⟩ fun b o x => Heap.get?_push_of_some _ (Heap.get?_push_of_some _ x)⟩
end
def IteT (K : PySem.W.Frag) (a : Addr) : It where
  go := fun i H => ∃ (xs : List V) (x : V), SqT K H a xs ∧ xs[i]? = some x
  yld := fun i H v H' => ∃ T x, v = .ref T ∧ H T = none ∧ H' = upd H T (.tup [.int (i : Nat), x]) ∧ ∀ xs, SqT K H a xs → xs[i]? = some x
  stop := fun i H => ∃ xs : List V, SqT K H a xs ∧ xs.length ≤ i
theorem turn_enumT {P : Program} {w : World} {K : PySem.W.Frag} {elts : List Expr} {kk : Nat} {tpos : Pos} (a e it : Addr) :
    Turn P w K (.Tuple elts kk tpos) (IteT K a) [e, it] e (fun i h => (∃ old, IsEnum h e it ((i : Nat) : Int) old) ∧ h.IsTupleIter it a i ∧ e ≠ it) where
  mem := by simp
  obj := fun i h q b hb => by
    obtain ⟨⟨old, he⟩, ⟨o, ho, hc, hd⟩, _⟩ := q
    simp only [List.mem_cons, List.not_mem_nil, or_false] at hb
    rcases hb with rfl | rfl
    · exact ⟨_, he, fun v q => nomatch q⟩
    · exact ⟨o, ho, fun v q => by rw [hd] at q; cases q⟩
  keep := fun i h h' q k => by
    obtain ⟨⟨old, he⟩, ⟨o, ho, r⟩, ne⟩ := q
    exact ⟨⟨old, k e (by simp) _ he⟩, ⟨o, k it (by simp) o ho, r⟩, ne⟩
  item := by
    rintro X rfl rfl rfl hc i pins s σ H E I hf ⟨⟨old, he⟩, hit, ne⟩ ⟨xs, x, hq, hx⟩
    obtain ⟨its, rv, p, hz⟩ := I.tuple hq
    obtain ⟨u, hu, ru⟩ := rv.get hx
    have p' : s.heap.IsTuple a its.toArray := p
    have hel : e < s.heap.objs.size := Heap.lt_size he
    have hil : it < s.heap.objs.size := let ⟨_, q, _⟩ := hit; Heap.lt_size q
    have n1 : a ≠ it := fun q => by
      obtain ⟨o, e1, e2, _⟩ := hit
      obtain ⟨o', e3, e4, _⟩ := p'
      rw [q, e1] at e3; cases e3; rw [e2] at e4
      injection e4 with z; exact absurd z (by decide)
    have n2 : e ≠ a := fun q => by
      obtain ⟨o', e3, e4, _⟩ := p'
      rw [← q, he] at e3; cases e3
      injection e4 with z; exact absurd z (by decide)
    have hi : i < its.toArray.size := by
      have := (List.getElem?_eq_some_iff.mp hu).1
      simpa using this
    refine wpAny_pyNext_enum_itemD (drawsT (prog := X.prog) (w := X.w) (A := X.A.in1) (I.ok.hd hc) it a n1 its.toArray) he ⟨hit, p'⟩ hi ne (by simp [ne, n2]) fun v h' tk hv ho q' hT hsz hk => ?_
    have : v = u := by
      have : its[i]? = some v := by simpa using hv
      rw [hu] at this; exact (Option.some.inj this).symm
    subst this
    refine ⟨_, rfl, wpAny_letOwnedTupleGo_enum (s := { s with heap := h', toks := tk + 1 }) ho fun h'' he' sb => ?_⟩
    have hT2 := (sb.2 _ (Nat.ne_of_gt hel)).trans hT
    have new : ObjOk X.prog X.w (upd H s.heap.objs.size (.tup [.int (i : Nat), x])) h'' s.heap.objs.size (.tup [.int (i : Nat), x]) := ⟨by show 2 ≤ sizeLine; decide, [.int i tk, v], .cons ⟨_, rfl⟩ (.cons ru .nil), _, hT2, rfl, _, rfl⟩
    have I1 := I.turnedNew (t' := tk + 1) (h' := h'') (ch := [e, it]) (fun b ob hb q => (sb.2 b (fun z => hb (by simp [z]))).trans (hk b ob (fun z => hb (by simp [z])) (fun z => hb (by simp [z])) q)) hf (Nat.le_refl _) new
    refine ⟨.ref s.heap.objs.size, _, I1, rfl, ⟨_, x, rfl, I.hok.fresh (Nat.le_refl _), rfl, fun ys hy => by rw [I.tuple_inj hy hq]; exact hx⟩, ⟨⟨v, ?_⟩, let ⟨o, e1, e2⟩ := q'.1; ⟨o, (sb.2 it (Ne.symm ne)).trans e1, e2⟩, ne⟩, fun b hb => ?_⟩
    · rw [Int.natCast_add]; exact he'
    · simp only [List.mem_cons, List.not_mem_nil, or_false] at hb
      have hlt : b < s.heap.objs.size := by rcases hb with rfl | rfl <;> assumption
      rw [upd_ne (Nat.ne_of_lt hlt)]
      exact (hf b (by simpa using hb)).1
  done := by
    rintro X rfl rfl rfl hc i pins s σ H E I hf ⟨⟨old, he⟩, hit, ne⟩ ⟨xs, hq, hx⟩
    obtain ⟨its, rv, p, hz⟩ := I.tuple hq
    obtain ⟨f0, f1, f2, f3, f4, f5⟩ := hf it (by simp)
    have hl := rv.length
    refine wpAny_pyNext_enum_endD (drawsEnd (prog := X.prog) (w := X.w) (A := X.A.in1) (I.ok.hd hc) it a its.toArray i (by simp; omega)) he ⟨rfl, hit, p⟩ fun h' eb => ⟨rfl, ?_⟩
    exact I.turned (t' := s.toks) (fun b o hb q => eb b o hb q) f0 f1 f3 f4 f5
  self := fun A i s Q E q h => let ⟨⟨_, he⟩, _⟩ := q; wpAny_pyIter_enum he h
def iEnumT (K : PySem.W.Frag) (ta : TA) : TI := fun σ H R => ta σ H fun vs H1 => ∃ a xs, vs = [.ref a] ∧ ((SqL K H1 a xs ∧ R (Ite K a) H1) ∨ (SqT K H1 a xs ∧ R (IteT K a) H1))
theorem pi_enumA {X : Cx} {e : Expr} {ta : TA} {p pos tpos : Pos} {elts : List Expr} {kk : Nat} (hg : Gl X "enumerate") (hm : X.mg "enumerate" = none) (ha : PA X [e] ta) (hs : starEach [e] X.env = [(false, eval e X.env)] := by rfl) :
    PI X (.Tuple elts kk tpos) (.Call (.Name "enumerate" p) [e] [] pos) (iEnumT X.K ta) := by
  refine ⟨fun pins s σ H R I h => ?_⟩
  refine Call_ (ld_blt I hg hm boot_enumerate (PyProof.Rows.callWith_type1 (thn (ha.run pos pins s σ H _ I h) fun us s1 ⟨vs, H1, I1, r1, a, xs, ex, q1⟩ => ?_) hs rfl))
  subst ex
  rw [Vals.ref1 r1]
  have fp : ∀ b ∈ [s1.heap.objs.size + 1, s1.heap.objs.size], FpOk X pins H1 b := fun b hb => by
    have hle : s1.heap.objs.size ≤ b := by
      simp only [List.mem_cons, List.not_mem_nil, or_false] at hb
      omega
    exact I1.fpOk hle (I1.hok.fresh hle)
  rcases q1 with ⟨hq, q⟩ | ⟨hq, q⟩
  · obtain ⟨its, rv, p', hz⟩ := I1.list hq
    refine call_enumerate_list p'.isList fun h' he hit hsz hk => wpAny_pyIter_enum he ?_
    exact ⟨_, _, _, _, H1, rfl, I1.kept (t' := s1.toks) hk, turn_enum a (s1.heap.objs.size + 1) s1.heap.objs.size, ⟨⟨.none, he⟩, hit, Nat.succ_ne_self _⟩, fp, q⟩
  · obtain ⟨its, rv, p', hz⟩ := I1.tuple hq
    refine call_enumT (show s1.heap.IsTuple a its.toArray from p') fun h' he hit hk => wpAny_pyIter_enum he ?_
    exact ⟨_, _, _, _, H1, rfl, I1.kept (t' := s1.toks) hk, turn_enumT a (s1.heap.objs.size + 1) s1.heap.objs.size, ⟨⟨.none, he⟩, hit, Nat.succ_ne_self _⟩, fp, q⟩
end Z
namespace Z
open PySem PySem.Spec PyProof.Rows L2
def enumFrom (n : Nat) : List U → List U
  | [] => []
  | x :: xs => .tup [.int n, x] :: enumFrom (n + 1) xs
theorem enumFrom_length : ∀ (n : Nat) (xs : List U), (enumFrom n xs).length = xs.length
  | _, [] => rfl
  | n, x :: xs => by simp [enumFrom, enumFrom_length (n + 1) xs]
theorem enumFrom_get : ∀ (n : Nat) (xs : List U) (i : Nat), (enumFrom n xs)[i]? = xs[i]?.map fun x => .tup [.int ((n + i : Nat) : Int), x]
  | _, [], i => by simp [enumFrom]
  | n, x :: xs, 0 => by simp [enumFrom]
  | n, x :: xs, i + 1 => by
    simp only [enumFrom, List.getElem?_cons_succ]
    rw [enumFrom_get (n + 1) xs i, show n + 1 + i = n + (i + 1) by omega]
theorem enum_yld {G : GC} {m m0 : MH} {H H0 : Hp} {st st0 : Store} {us : List U} {vs : List V} {i : Nat} {u : U} {T : Addr} {x : V} (S0 : Sim G m0 H0 st0) (r : Reps G m0 H0 us vs) (hu : (enumFrom 0 us)[i]? = some u) (l : Le m0 H0 m H) (S : Sim G m H st) (hT : H T = none) (hx : vs[i]? = some x) :
    ∃ m', Le m H m' (upd H T (.tup [.int (i : Nat), x])) ∧ Sim G m' (upd H T (.tup [.int (i : Nat), x])) st ∧ Rep G m' (upd H T (.tup [.int (i : Nat), x])) u (.ref T) := by
  rw [enumFrom_get, Nat.zero_add] at hu
  cases hg : us[i]? with
  | none => rw [hg] at hu; cases hu
  | some w =>
    rw [hg] at hu
    cases hu
    obtain ⟨v, e1, rr⟩ := (r.mono S0 l).getU hg
    rw [hx] at e1; cases e1
    exact ⟨m, le_new hT, S.new hT, .tup upd_same (S.off hT) ((Reps.cons (.int _) (.cons rr .nil)).mono S (le_new hT))⟩
theorem walks_enumL {G : GC} {m0 : MH} {H0 : Hp} {st0 : Store} {us : List U} {a : Addr} {vs : List V} (S0 : Sim G m0 H0 st0) (r : Reps G m0 H0 us vs) (hs : ∀ m H, Le m0 H0 m H → SqL G.K H a vs) : WalksU G (Ite G.K a) (enumFrom 0 us) m0 H0 where
  go := fun i m H hi l => ⟨vs, vs[i]'(by rw [← r.length]; rwa [enumFrom_length] at hi), hs m H l, by rw [List.getElem?_eq_getElem]⟩
  stop := fun m H l => ⟨vs, hs m H l, by rw [← r.length, enumFrom_length]; exact Nat.le_refl _⟩
  yld := fun i m H v H' st u hu l S y => by
    obtain ⟨T, x, rfl, hT, rfl, y⟩ := y
    exact enum_yld S0 r hu l S hT (y vs (hs m _ l))
theorem walks_enumT {G : GC} {m0 : MH} {H0 : Hp} {st0 : Store} {us : List U} {a : Addr} {vs : List V} (S0 : Sim G m0 H0 st0) (r : Reps G m0 H0 us vs) (hs : ∀ m H, Le m0 H0 m H → SqT G.K H a vs) : WalksU G (IteT G.K a) (enumFrom 0 us) m0 H0 where
  go := fun i m H hi l => ⟨vs, vs[i]'(by rw [← r.length]; rwa [enumFrom_length] at hi), hs m H l, by rw [List.getElem?_eq_getElem]⟩
  stop := fun m H l => ⟨vs, hs m H l, by rw [← r.length, enumFrom_length]; exact Nat.le_refl _⟩
  yld := fun i m H v H' st u hu l S y => by
    obtain ⟨T, x, rfl, hT, rfl, y⟩ := y
    exact enum_yld S0 r hu l S hT (y vs (hs m _ l))
def enumOfU : U → Option (List U)
  | .tup xs => some (enumFrom 0 xs)
  | .lst xs => some (enumFrom 0 xs)
  | .frz xs => some (enumFrom 0 xs)
  | _ => none
@[simp] def dEnum (f : UEnv → Store → R U) : UEnv → Store → R (List U) := fun ρ st => (f ρ st).bind fun u st1 => R.ofO st1 (enumOfU u)
theorem zi_enum [TB] {X : Cx} {e : Expr} {fa : UEnv → Store → R U} {p pos tpos : Pos} {elts : List Expr} {kk : Nat} (hm : X.mg "enumerate" = none) (h : ZE X e fa) (hg : Gl X "enumerate" := by rfl) (hs : starEach [e] X.env = [(false, eval e X.env)] := by rfl)
    (h1 : starEach [e] X.env = (false, eval e X.env) :: starEach [] X.env := by rfl) : ZI X (.Tuple elts kk tpos) (.Call (.Name "enumerate" p) [e] [] pos) (dEnum fa) := fun W xg =>
  PI.imp (pi_enumA hg hm (pa_cons (h W xg) pa_nil h1) hs) fun σ H RR ⟨ρ, st, m, S, E, P⟩ => tz_seq (X := X) (k := fun _ u st1 => R.ofO st1 (enumOfU u)) S E P fun u st1 v m1 H1 S1 E1 r1 l1 P1 => by
    cases u with
    | tup xs =>
      obtain ⟨a, vs, rfl, h1, r2, hs⟩ := seqT_stay S1 r1
      exact ⟨a, vs, rfl, .inr ⟨h1, post_ok P1 S1 (walks_enumT S1 r2 hs)⟩⟩
    | lst xs =>
      obtain ⟨a, vs, rfl, h1, r2, hs⟩ := seqL_stay S1 r1 (.inl rfl)
      exact ⟨a, vs, rfl, .inl ⟨h1, post_ok P1 S1 (walks_enumL S1 r2 hs)⟩⟩
    | frz xs =>
      obtain ⟨a, vs, rfl, h1, r2, hs⟩ := seqL_stay S1 r1 (.inr rfl)
      exact ⟨a, vs, rfl, .inl ⟨h1, post_ok P1 S1 (walks_enumL S1 r2 hs)⟩⟩
    | _ => exact P1.elim
end Z
namespace Z
open PySem PySem.Spec PyProof.Rows L2
theorem zs_par3 [TB] {X : Cx} {i j l : Nat} {x y z : Str} {a b c : Expr} {f : UEnv → Store → R (List U)} {px py pz pt pos : Pos} {kt k2 pt2} (hc : X.calm = true) (hN : X.N.Nodup) (ha : ZAL X [a, b, c] f) (hi : X.N[i]? = some x := by rfl) (hj : X.N[j]? = some y := by rfl) (hl : X.N[l]? = some z := by rfl) (hij : i ≠ j := by decide) (hil : i ≠ l := by decide) (hjl : j ≠ l := by decide)
    (hx : X.env.scope.names.lookup x = some .local := by rfl) (hy : X.env.scope.names.lookup y = some .local := by rfl) (hz : X.env.scope.names.lookup z = some .local := by rfl)
    (hw : swappedStores [.Tuple [.Name x px, .Name y py, .Name z pz] kt pt] (.Tuple [a, b, c] k2 pt2) X.env = pure (some [x, y, z]) := by rfl)
    (hs : swapsWithSole [.Tuple [.Name x px, .Name y py, .Name z pz] kt pt] (.Tuple [a, b, c] k2 pt2) pos.line X.env = pure false := by rfl) : ZS X (.Assign [.Tuple [.Name x px, .Name y py, .Name z pz] kt pt] (.Tuple [a, b, c] k2 pt2) pos) (sPar [i, j, l] f) := fun W xg =>
  PS.imp (ps_par3 hc hN hi hj hl hij hil hjl hx hy hz (ha.za W xg) hw hs) fun D σ H ⟨ρ, st, m, S, E, P⟩ =>
    ⟨ρ, st, m, S, E, PostS.bind (k := fun us st1 => .ok (.nx (([i, j, l].zip us).foldl (fun ρ p => ρ.set p.1 (some p.2)) ρ)) st1) P fun us st1 vs m1 H1 e lq S1 r p => by
      have hl := ha.len _ _ _ _ e
      cases r with
      | nil => simp at hl
      | cons r1 t => cases t with
        | nil => simp at hl
        | cons r2 t => cases t with
          | nil => simp at hl
          | cons r3 t => cases t with
            | cons r4 t => simp at hl
            | nil => exact ⟨_, _, _, rfl, p _ m1 H1 Le.refl S1 ((((E.mono S lq).set i r1).set j r2).set l r3)⟩⟩
end Z

namespace Z
open PySem PySem.Spec PyProof.Rows L2
/-! ### a new list of two, that will be changed -/
def catN (st : Store) (a b : U) : Option (List U) := match deref st a, deref st b with
  | .lst xs, .lst ys => if xs.length + ys.length ≤ 16777216 then some (xs ++ ys) else none
  | _, _ => none
def R.newL (st : Store) : Option (List U) → R U
  | some xs => .ok (.hdl st.length) (st ++ [.lst xs])
  | none => .stuck
@[simp] theorem R.newL_some (st : Store) (xs : List U) : R.newL st (some xs) = .ok (.hdl st.length) (st ++ [.lst xs]) := rfl
@[simp] def dAddN (fa fb : UEnv → Store → R U) : UEnv → Store → R U := fun ρ st => (fa ρ st).bind fun a st1 => (fb ρ st1).bind fun b st2 => R.newL st2 (catN st2 a b)
theorem ze_addN [TB] {X : Cx} {a b : Expr} {fa fb : UEnv → Store → R U} {pos : Pos} (ha : ZE X a fa) (hb : ZE X b fb) : ZE X (.BinOp a .Add b pos) (dAddN fa fb) := fun W xg =>
  PE.imp (pe_op op_cat (ha W xg) (hb W xg)) fun σ H Q ⟨ρ, st, m, S, E, P⟩ =>
    tz_seq (X := X) (k := fun ρ a st1 => (fb ρ st1).bind fun b st2 => R.newL st2 (catN st2 a b)) S E P fun u st1 v m1 H1 S1 E1 r1 l1 P1 => tz_seq (X := X) (k := fun ρ b st2 => R.newL st2 (catN st2 u b)) S1 E1 P1 fun u2 st2 v2 m2 H2 S2 E2 r2 l2 P2 => by
      unfold catN at P2
      split at P2
      · rename_i xs ys e1 e2
        obtain ⟨p, vs, rfl, h1, q1⟩ := rep_lst S2 (r1.mono S1 l2) e1
        obtain ⟨q, ws, rfl, h2, q2⟩ := rep_lst S2 r2 e2
        split at P2
        · rename_i hl
          refine ⟨p, q, vs, ws, rfl, rfl, h1, h2, by rw [line_eq, ← q1.length, ← q2.length]; exact hl, fun r hr => ?_⟩
          refine P2 _ (mput m2 st2.length r) _ (le_alloc S2 hr) (S2.alloc hr ⟨_, upd_same, (q1.append q2).mono S2 (le_alloc S2 hr)⟩) (.hdl ?_)
          exact if_pos rfl
        · exact P2.elim
      · exact P2.elim
end Z
namespace Z
open PySem PySem.Spec PyProof.Rows L2
/-! ### a def with lambdas -/
def lamN (x : Str) : Str := x ++ ".<locals>." ++ "<lambda>"
structure DefC [TB] (K : PySem.W.Frag) (mg : Str → Option Value) (base : Heap) (x : Str) (st : Stmt) (ps : List Str) : Prop where
  ex : ∃ f fd c Pt, FunC K x x st f fd (.ref c) ∧ mg x = some (.ref f) ∧ Binds K fd ps [] ∧ PySem.W.keepIn K (.ref f) = true ∧ LamX.TabB base mg c Pt ∧ (Pt, x ++ ".<locals>." ++ "<lambda>") ∈ TB.T ∧ ∀ p ∈ TB.T, p.1 = Pt → p.2 = x ++ ".<locals>." ++ "<lambda>"
theorem DefC.cal [TB] {P : Program} {w : World} {K : PySem.W.Frag} {mg : Str → Option Value} {base : Heap} {x : Str} {st : Stmt} {N ps : List Str} {k n : Nat} {g : UEnv → Store → R Fl} {F : FnZ} (d : DefC K mg base x st ps) (S : FnScope N ps (defScope st))
    (hb : ∀ (f c Pt : Addr), LamX.TabB base mg c Pt → (Pt, x ++ ".<locals>." ++ "<lambda>") ∈ TB.T → (∀ p ∈ TB.T, p.1 = Pt → p.2 = x ++ ".<locals>." ++ "<lambda>") → ∀ (A : Around) (outer : List Env) (s : Shared) (H : Hp) (E : XK), Room k (A.deeper (envOfC x (defScope st) s.heap.objs.size f (.ref c))) → ZB (cxOf (L2.CX P w) P w K mg base N x (defScope st) f (.ref c) A outer s H E) (defBody st) g)
    (hF : F = runB N.length g := by rfl) (hn : ps.length = n := by rfl) : CalZ P w K mg base (k + 1) x n F := by
  subst hF hn
  obtain ⟨f, fd, c, Pt, Fn, hm, bd, kp, tb, hT, hu⟩ := d.ex
  exact ⟨f, fd, ps, fnZC Fn S (hb f c Pt tb hT hu), hm, kp, bd⟩
theorem defC_mk [TB] {K : PySem.W.Frag} {mg : Str → Option Value} {base : Heap} {x : Str} {st : Stmt} {ps : List Str} {f c Pt : Addr} {fd : FuncData} (d : DefZ K mg x st ps) (Fn : FunC K x x st f fd (.ref c)) (hm : mg x = some (.ref f)) (tb : LamX.TabB base mg c Pt) (hT : (Pt, x ++ ".<locals>." ++ "<lambda>") ∈ TB.T) (hu : ∀ p ∈ TB.T, p.1 = Pt → p.2 = x ++ ".<locals>." ++ "<lambda>") : DefC K mg base x st ps := by
  obtain ⟨f', fd', F', hm', bd⟩ := d.ex
  rw [hm] at hm'
  cases hm'
  obtain ⟨oc, od, kV, doc, pm, an, cdv, ct, osl, e1, lk, _⟩ := F'.ex
  obtain ⟨oc2, od2, kV2, doc2, pm2, an2, ct2, osl2, e2, lk2, _⟩ := Fn.ex
  have : fd = fd' := by
    rw [lk] at lk2
    injection lk2 with lk2
    injection lk2 with _ _ z _
    injection z with z
    exact z.symm
  subst this
  exact ⟨f, fd, c, Pt, Fn, hm, bd, F'.kp, tb, hT, hu⟩
section
variable {fa : List He.Fa} {fn : List He.DefD} {ts : List He.Tab} {tf : List He.Defn} {ex : PySem.W.Frag → Bool} {w : World} {h : Heap} {K : PySem.W.Frag} {mg : Str → Option Value}
theorem sx_fun (c : He.SaysX fa fn ts tf ex w h K) (i : Nat) {x : Str} {st : Stmt} (e1 : fn[i]? = some (dz x st) := by rfl) : ∃ fd, Fun K x x st (He.ga K x) fd := by
  obtain ⟨fd, F⟩ := c.t.d.def_ i e1
  exact ⟨fd, fun_of F⟩
end
end Z

namespace Z
open PySem PySem.Spec PyProof.Rows L2
/-! ### sets of nested tuples: small questions -/
theorem nested_mem {h : Heap} : ∀ {ks : List NestedKey} {vs : List Value}, NestedAll h ks vs → ∀ v ∈ vs, ∃ k ∈ ks, NestedIs h k v
  | _, _, .nil, v, hv => nomatch hv
  | k :: ks, _, .cons r t, v, hv => by
    rcases List.mem_cons.mp hv with rfl | hv
    · exact ⟨k, .head _, r⟩
    · obtain ⟨k', m, q⟩ := nested_mem t v hv
      exact ⟨k', .tail _ m, q⟩
theorem dep_mem : ∀ {ks : List NestedKey} {k : NestedKey}, k ∈ ks → k.depth ≤ NestedKey.depthAll ks
  | x :: ks, k, h => by
    rw [NestedKey.depthAll]
    rcases List.mem_cons.mp h with rfl | h
    · exact Nat.le_max_left _ _
    · exact Nat.le_trans (dep_mem h) (Nat.le_max_right _ _)
section
variable {P : Program} {w : World} {A : Around} {E : Value → Shared → Prop} {s : Shared}
/-- a loop that asks of each item and stops at the first that says b -/
theorem ask_loop {f : Value → Sem Bool} {b : Bool} {Q : Option Bool × PUnit → Shared → Prop} {g : Value → Option Bool × PUnit → Sem (ForInStep (Option Bool × PUnit))} (hg : ∀ v r, g v r = (do if (← f v) == b then pure (.done (some b, ⟨⟩)) else pure (.yield (none, ⟨⟩)))) :
    ∀ (vs : List Value), (∀ v ∈ vs, ∀ R : Bool → Shared → Prop, (∀ c, R c s) → wpAny (model P w) A (f v) R E s) → (Q (none, ⟨⟩) s) → (Q (some b, ⟨⟩) s) → wpAny (model P w) A (forIn vs ((none, ⟨⟩) : Option Bool × PUnit) g) Q E s
  | [], _, h1, _ => wpAny_pure h1
  | v :: vs, hf, h1, h2 => by
    rw [List.forIn_cons, hg]
    refine wpAny_bind (wpAny_bind (hf v (.head _) _ fun c => ?_))
    cases hc : c == b with
    | true => exact wpAny_pure (wpAny_pure h2)
    | false => exact wpAny_pure (ask_loop hg vs (fun u hu => hf u (.tail _ hu)) h1 h2)
theorem valHash : ∀ (n : Nat) (k : NestedKey) (v : Value), NestedIs s.heap k v → ∀ R : Bool → Shared → Prop, (∀ c, R c s) → wpAny (model P w) A (hashByValue n v) R E s
  | n, _, _, .none, R, h => by cases n <;> exact wpAny_pure (h true)
  | n, _, _, .bool _, R, h => by cases n <;> exact wpAny_pure (h true)
  | n, _, _, .int _ _, R, h => by cases n <;> exact wpAny_pure (h true)
  | n, _, _, .text _ _, R, h => by cases n <;> exact wpAny_pure (h false)
  | 0, _, _, .tup _ _ _ _, R, h => wpAny_pure (h false)
  | n + 1, _, _, .tup (o := o) (vs := vs) hg hc hd hk, R, h => by
    unfold hashByValue
    refine wpAny_bind (wpAny_specialOf ⟨o, hg, hc⟩ F.slot_tuple_hash.lookup ?_)
    refine wpAny_bind (m := seqItems? _) (wpAny_seqItems hg hd (wpAny_bind ?_))
    show wpAny (model P w) A (forIn vs _ _) _ E s
    rw [← Array.forIn_toList]
    refine ask_loop (f := hashByValue n) (b := false) (fun v r => ?_) vs.toList (fun v hv => ?_) (wpAny_pure (h true)) (wpAny_pure (h false))
    · refine congrArg (bind (hashByValue n v)) (funext fun c => ?_)
      cases c <;> rfl
    · obtain ⟨k', _, r⟩ := nested_mem hk v hv
      exact valHash n k' v r
/-- nothing of a class statement -/
theorem noClass : ∀ (n : Nat) (k : NestedKey) (v : Value), NestedIs s.heap k v → k.depth ≤ n → ∀ R : Bool → Shared → Prop, R false s → wpAny (model P w) A (ofAClassStatement n v) R E s
  | n, _, _, .none, _, R, h => by cases n <;> exact wpAny_pure h
  | n, _, _, .bool _, _, R, h => by cases n <;> exact wpAny_pure h
  | n, _, _, .int _ _, _, R, h => by cases n <;> exact wpAny_pure h
  | n, _, _, .text _ _, _, R, h => by cases n <;> exact wpAny_pure h
  | 0, _, _, .tup _ _ _ _, hd, R, h => by simp [NestedKey.depth] at hd
  | n + 1, _, _, .tup (o := o) (vs := vs) (ks := ks) hg hc hd hk, hn, R, h => by
    have hn' : NestedKey.depthAll ks ≤ n := by simp only [NestedKey.depth] at hn; omega
    unfold ofAClassStatement
    refine wpAny_bind (wpAny_typeOf ⟨o, hg, hc⟩ ?_)
    have e : (("tuple" : String) == "tuple") = true := rfl
    dsimp only
    rw [e]
    refine wpAny_bind (wpAny_pure ?_)
    refine wp_if_neg (by decide) ?_
    refine wpAny_bind (m := seqItems? _) (wpAny_seqItems hg hd (wpAny_bind ?_))
    show wpAny (model P w) A (forIn vs _ _) _ E s
    rw [← Array.forIn_toList]
    have key : ∀ (ws : List Value), (∀ v ∈ ws, v ∈ vs.toList) → ∀ (g : Value → Option Bool × PUnit → Sem (ForInStep (Option Bool × PUnit))), (∀ v r, g v r = (do if ← ofAClassStatement n v then pure (.done (some true, ⟨⟩)) else pure (.yield (none, ⟨⟩)))) → ∀ Q : Option Bool × PUnit → Shared → Prop, Q (none, ⟨⟩) s → wpAny (model P w) A (forIn ws ((none, ⟨⟩) : Option Bool × PUnit) g) Q E s := by
      intro ws
      induction ws with
      | nil => exact fun _ g _ Q hq => wpAny_pure hq
      | cons v ws ih =>
        intro hm g hg Q hq
        obtain ⟨k', hk', r⟩ := nested_mem hk v (hm v (.head _))
        rw [List.forIn_cons, hg]
        refine wpAny_bind (wpAny_bind (noClass n k' v r (Nat.le_trans (dep_mem hk') hn') _ ?_))
        exact wpAny_pure (ih (fun u hu => hm u (.tail _ hu)) g hg Q hq)
    exact key vs.toList (fun _ h => h) _ (fun v r => by first | rfl | simp) _ (wpAny_pure h)
end
end Z

namespace Z
open PySem PySem.Spec PyProof.Rows L2
/-! ### a set of nested tuples, by its table -/
abbrev Ents := List (Addr × NestedKey)
def rws (w : World) (L : Ents) : List (Int × Value) := L.map fun p => (p.2.hash w, .ref p.1)
def hss (w : World) (L : Ents) : List Int := L.map fun p => p.2.hash w
def IsN (h : Heap) (k : NestedKey) (x : Addr) : Prop := NestedIs h k (.ref x) ∧ k.depth ≤ 8
structure NSet (w : World) (h : Heap) (a : Addr) (L : Ents) (o : Obj) (es : Array (Int × Value)) (ep : Nat) (t : SetTable) : Prop where
  ob : h.get? a = some o
  ex : o.ExactSet
  dt : o.data = .set es ep t
  rows : es.toList = rws w L
  tab : TabOk t (hss w L)
  nd : (L.map (·.2)).Nodup
  key : ∀ p ∈ L, IsN h p.2 p.1
  led : w.params.followText "set-order" = true ∨ t.led = true
  room : L.length * 5 < t.mask * 3
  few : L.length < 64
theorem rws_len {w : World} {L : Ents} {es : Array (Int × Value)} (h : es.toList = rws w L) : es.size = L.length := by
  rw [← Array.length_toList, h, rws, List.length_map]
theorem rws_at {w : World} {L : Ents} {es : Array (Int × Value)} (h : es.toList = rws w L) (i : Nat) : es[i]? = L[i]?.map fun p => (p.2.hash w, Value.ref p.1) := by
  rw [← Array.getElem?_toList, h, rws, List.getElem?_map]
theorem tab_fits {t : SetTable} {hs : List Int} (T : TabOk t hs) {n : Nat} (h : hs.length = n) (hm : n ≤ t.mask) : t.fits n = true := by
  simp only [SetTable.fits, SetTable.fill, Bool.and_eq_true, beq_iff_eq, decide_eq_true_eq, T.dm, T.sz, h, List.size_toArray, List.length_nil, Nat.add_zero, true_and]
  exact hm
section
variable {P : Program} {w : World} {A : Around} {E : Value → Shared → Prop} {s : Shared} {a : Addr} {L : Ents} {o : Obj} {es : Array (Int × Value)} {ep : Nat} {t : SetTable}
theorem NSet.fit (S : NSet w s.heap a L o es ep t) : t.fits es.size = true := by
  have h := S.room
  exact tab_fits S.tab (by rw [rws_len S.rows, hss, List.length_map]) (by rw [rws_len S.rows]; omega)
theorem NSet.hash_at (S : NSet w s.heap a L o es ep t) {i : Nat} {p : Addr × NestedKey} (h : L[i]? = some p) : ((es[i]?).map (·.1)).getD 0 = p.2.hash w := by
  rw [rws_at S.rows, h] <;> rfl
theorem noMark {n : Nat} : ∀ {m : Nat} {p : SetTable.Probe}, p.dummy = none → (nth m p n).dummy = none := by
  induction n with
  | zero => exact fun h => h
  | succ n ih =>
    intro m p h
    rw [nth_succ]
    have := ih (m := m) h
    unfold adv
    split <;> exact this
abbrev startOf (t : SetTable) (h : Int) : SetTable.Probe := runAt t.mask (SetTable.bits h % (t.mask + 1)) (SetTable.bits h)
/-- what a probe that goes on from the c-th place meets -/
theorem meets {t : SetTable} {hs : List Int} (T : TabOk t hs) {h : Int} {K c : Nat} {f : Nat → Int} (hK : K < 10 * SetTable.turns t.mask) (h1 : way t.mask h K ∉ t.place.toList) (h2 : ∀ q, q < K → way t.mask h q ∈ t.place.toList) (hc : c ≤ K) :
    (∃ q i, c ≤ q ∧ q < K ∧ t.place.toList[i]? = some (way t.mask h q) ∧ f i = h ∧ (∀ q' i', c ≤ q' → q' < q → t.place.toList[i']? = some (way t.mask h q') → f i' ≠ h) ∧ t.probe f h (nth t.mask (startOf t h) c) = some (.candidate (way t.mask h q) i (nth t.mask (startOf t h) (q + 1)))) ∨
    ((∀ q' i', c ≤ q' → q' < K → t.place.toList[i']? = some (way t.mask h q') → f i' ≠ h) ∧ t.probe f h (nth t.mask (startOf t h) c) = some (.empty (way t.mask h K) none)) := by
  have sh : ∀ q, nth t.mask (nth t.mask (startOf t h) c) q = nth t.mask (startOf t h) (c + q) := fun q => (nth_add t.mask c _ q).symm
  rcases go_spec t T.ris T.dm f h (10 * SetTable.turns t.mask) (K - c) (nth t.mask (startOf t h) c) (noMark rfl) (by omega) (fun q hq => by rw [sh]; exact h2 _ (by omega)) (by rw [sh, Nat.add_sub_cancel' hc]; exact h1) with ⟨q, i, q1, q2, q3, q4, q5⟩ | ⟨q4, q5⟩
  · refine .inl ⟨c + q, i, by omega, by omega, by rw [q2, sh], q3, fun q' i' l1 l2 l3 => q4 (q' - c) i' (by omega) (by rw [sh, Nat.add_sub_cancel' l1]; exact l3), ?_⟩
    rw [sh, sh] at q5
    exact q5
  · refine .inr ⟨fun q' i' l1 l2 l3 => q4 (q' - c) i' (by omega) (by rw [sh, Nat.add_sub_cancel' l1]; exact l3), ?_⟩
    rw [sh, Nat.add_sub_cancel' hc] at q5
    exact q5
/-- nobody sees it -/
theorem unseen {k : NestedKey} {x : Addr} (hx : IsN s.heap k x) : ∀ (ys : List Value), (∀ y ∈ ys, ∃ k' c, y = Value.ref c ∧ IsN s.heap k' c) → ∀ Q : Bool → Shared → Prop, Q false s → wpAny (model P w) A (searchCouldBeSeen (.ref x) ys) Q E s := by
  intro ys hy Q hq
  unfold searchCouldBeSeen
  refine wpAny_bind (wpAny_forIn_list _ (fun r b s' => b = (none, ⟨⟩) ∧ s' = s ∧ ∀ y ∈ r, ∃ k' c, y = Value.ref c ∧ IsN s.heap k' c) _ ?_ (fun b s' ⟨e1, e2, _⟩ => by subst e1 e2; exact wpAny_pure hq) _ _ ⟨rfl, rfl, hy⟩)
  rintro y r b s' ⟨rfl, rfl, hr⟩
  obtain ⟨k', c, rfl, hc⟩ := hr y (.head _)
  have hn : ∀ y ∈ r, ∃ k' c, y = Value.ref c ∧ IsN s'.heap k' c := fun u hu => hr u (.tail _ hu)
  dsimp only
  split
  · exact wpAny_pure ⟨rfl, rfl, hn⟩
  · refine wpAny_bind (quiet_key k _ 8 s' hx.1 hx.2 A E _ (wp_if_neg (by decide) (wpAny_bind ?_)))
    refine quiet_key k' _ 8 s' hc.1 hc.2 A E _ (wp_if_neg (by decide) (wpAny_bind ?_))
    refine noClass 8 k _ hx.1 hx.2 _ (wp_if_neg (by decide) (wpAny_bind ?_))
    exact noClass 8 k' _ hc.1 hc.2 _ (wp_if_neg (by decide) (wpAny_pure ⟨rfl, rfl, hn⟩))
theorem find_at (S : NSet w s.heap a L o es ep t) {x : Addr} {k : NestedKey} (hx : IsN s.heap k x) (hu : A.units + 8 < cLine) {K : Nat} (h0 : K < 10 * SetTable.turns t.mask) (h1 : way t.mask (k.hash w) K ∉ t.place.toList) (h2 : ∀ q, q < K → way t.mask (k.hash w) q ∈ t.place.toList)
    {Q : SetFound → Shared → Prop} (hin : k ∈ L.map (·.2) → Q (.there none) s) (hout : k ∉ L.map (·.2) → Q (.free (way t.mask (k.hash w) K) false) s) :
    ∀ (n c : Nat) (st : Option SetTable.Probe), st.getD (t.probeStart (k.hash w)) = nth t.mask (startOf t (k.hash w)) c → c ≤ K → K < n + c → (∀ (i : Nat) p, L[i]? = some p → p.2 = k → ∃ q, c ≤ q ∧ q < K ∧ t.place.toList[i]? = some (way t.mask (k.hash w) q)) →
      wpAny (model P w) A (setSearchFrom a (.ref x) (k.hash w) true n st) Q E s
  | 0, c, _, _, hc, hn, _ => absurd hn (by omega)
  | n + 1, c, st, hst, hc, hn, ho => by
    rw [setSearchFrom_succ]
    refine wpAny_bind (wpAny_setState_of S.ob S.dt S.fit ?_)
    have gw : ¬ t.gaveWay = true := by unfold SetTable.gaveWay; rw [mask_odd S.tab.mok]; decide
    dsimp only
    refine wp_if_neg gw ?_
    rw [hst]
    rcases meets (f := fun i => (es[i]?.map (·.1)).getD 0) S.tab h0 h1 h2 hc with ⟨q, i, l1, l2, l3, l4, l5, l6⟩ | ⟨l5, l6⟩
    · rw [l6]
      dsimp only
      -- who stands there
      have hil : i < L.length := by
        have z1 := (List.getElem?_eq_some_iff.mp l3).1
        have z2 := S.tab.sz
        rw [Array.length_toList] at z1
        rw [hss, List.length_map] at z2
        omega
      obtain ⟨p, hp⟩ : ∃ p, L[i]? = some p := ⟨_, List.getElem?_eq_getElem hil⟩
      have hpm : p ∈ L := List.mem_of_getElem? hp
      have hent : es[i]? = some (p.2.hash w, Value.ref p.1) := by rw [rws_at S.rows, hp] <;> rfl
      have hlive : t.slot (way t.mask (k.hash w) q) = .live i := slot_live S.tab.ris l3
      have on : wpAny (model P w) A (searchRest a (.ref x) (k.hash w) true n es t (way t.mask (k.hash w) q) i (nth t.mask (startOf t (k.hash w)) (q + 1))) Q E s := by
        unfold searchRest
        rw [hent]
        dsimp only
        refine wpAny_bind (wpAny_holding (eqAt_key p.2 k A s _ _ (S.key p hpm).1 hx.1 (by have := hx.2; omega) _ _ _ _ (wpAny_bind (wpAny_setState_of S.ob S.dt S.fit ?_))))
        dsimp only
        cases hb : NestedKey.beq p.2 k with
        | true => exact wp_if_pos rfl (wpAny_pure (hin (List.mem_map.mpr ⟨p, hpm, NestedKey.eq_of_beq _ _ hb⟩)))
        | false =>
          have hne : p.2 ≠ k := fun e => by rw [e, NestedKey.beq_self] at hb; cases hb
          refine wp_if_neg (by decide) ?_
          rw [sameMem]
          simp only [if_true, hlive, hent]
          refine wpAny_bind (wpAny_isSame_ref_self (wpAny_bind (wpAny_pure ?_)))
          simp only [if_true, Bool.false_eq_true, if_false]
          refine find_at S hx hu h0 h1 h2 hin hout n (q + 1) _ rfl (by omega) (by omega) fun i' p' g1 g2 => ?_
          obtain ⟨q', r1, r2, r3⟩ := ho i' p' g1 g2
          refine ⟨q', ?_, r2, r3⟩
          rcases Nat.lt_trichotomy q' q with z | z | z
          · exact absurd ((S.hash_at g1).trans (by rw [g2])) (l5 q' i' r1 z r3)
          · subst z
            have := slot_live S.tab.ris r3
            rw [hlive] at this
            injection this with this
            subst this
            rw [hp] at g1
            cases g1
            exact absurd g2 hne
          · exact z
      by_cases hl : t.led = true
      · exact wp_if_neg (by rw [hl]; decide) on
      · refine wp_if_pos (by simp [hl]) (wpAny_bind (unseen hx _ (fun y hy => ?_) _ (wp_if_neg (by decide) on)))
        obtain ⟨e, he, rfl⟩ := List.mem_map.mp hy
        have he2 : e ∈ es.toList := by simp at he; simpa using he.1
        rw [S.rows] at he2
        obtain ⟨p', hp', rfl⟩ := List.mem_map.mp he2
        exact ⟨p'.2, p'.1, rfl, S.key p' hp'⟩
    · rw [l6]
      refine wpAny_pure (hout fun hm => ?_)
      obtain ⟨p, hp, e⟩ := List.mem_map.mp hm
      obtain ⟨i, hi, e2⟩ := List.getElem_of_mem hp
      have g1 : L[i]? = some p := by rw [List.getElem?_eq_getElem hi, e2]
      obtain ⟨q', r1, r2, r3⟩ := ho i p g1 e
      exact l5 q' i r1 r2 r3 ((S.hash_at g1).trans (by rw [e]))
theorem search_n (S : NSet w s.heap a L o es ep t) {x : Addr} {k : NestedKey} (hx : IsN s.heap k x) (hu : A.units + 8 < cLine) {Q : SetFound → Shared → Prop} (hin : k ∈ L.map (·.2) → Q (.there none) s)
    (hout : ∀ K, k ∉ L.map (·.2) → way t.mask (k.hash w) K ∉ t.place.toList → (∀ q, q < K → way t.mask (k.hash w) q ∈ t.place.toList) → Q (.free (way t.mask (k.hash w) K) false) s) : wpAny (model P w) A (setSearch a (.ref x) (k.hash w) true) Q E s := by
  have hr := S.room
  obtain ⟨K, h0, h1, h2⟩ := S.tab.first (by rw [hss, List.length_map]; omega) (k.hash w)
  have hb : 10 * SetTable.turns t.mask ≤ 1420 := by
    unfold SetTable.turns
    rcases S.tab.mok with e | e | e <;> rw [e] <;> decide
  unfold setSearch
  refine find_at S hx hu h0 h1 h2 hin (fun hn => hout K hn h1 h2) 100000 0 none rfl (Nat.zero_le _) (by omega) fun i p hp hk => ?_
  have z1 : (hss w L)[i]? = some (k.hash w) := by rw [hss, List.getElem?_map, hp, ← hk] <;> rfl
  have z2 : i < t.place.toList.length := by
    have := (List.getElem?_eq_some_iff.mp z1).1
    rw [Array.length_toList, S.tab.sz]
    exact this
  obtain ⟨q, q1, q2⟩ := S.tab.before h1 z1 (List.getElem?_eq_getElem z2)
  exact ⟨q, Nat.zero_le _, q1, by rw [List.getElem?_eq_getElem z2, q2]⟩
end
end Z

namespace Z
open PySem PySem.Spec PyProof.Rows L2
section
variable {P : Program} {w : World} {A : Around} {E : Value → Shared → Prop} {s : Shared} {a : Addr} {L : Ents} {o : Obj} {es : Array (Int × Value)} {ep : Nat} {t : SetTable}
/-- a key stays while nothing but the set changes -/
theorem isN_but {h h' : Heap} {k : NestedKey} {x : Addr} (hx : IsN h k x) (ho : h.get? a = some o) (hd : o.data = .set es ep t) (sb : Heap.SameBut a h h') : IsN h' k x :=
  ⟨hx.1.at fun b ob vs n hb hv => (sb.2 b fun e => by subst e; rw [ho] at hb; cases hb; rw [hd] at hv; cases hv).trans hb, hx.2⟩
theorem isN_up {h h' : Heap} {k : NestedKey} {x : Addr} (hx : IsN h k x) (up : ∀ b o, h.get? b = some o → h'.get? b = some o) : IsN h' k x := ⟨hx.1.at fun b ob _ _ hb _ => up b ob hb, hx.2⟩
theorem range_pick {α : Type} (L : List α) : (List.range L.length).filterMap (L[·]?) = L := by
  have h : ∀ n, n ≤ L.length → (List.range n).filterMap (L[·]?) = L.take n := fun n => by
    induction n with
    | zero => simp
    | succ n ih =>
      intro hn
      rw [List.range_succ, List.filterMap_append, ih (by omega), List.take_succ]
      simp [List.getElem?_eq_getElem (show n < L.length from hn)]
  have := h L.length (Nat.le_refl _)
  rwa [List.take_length] at this
theorem laid_rows {order : Array Nat} (hr : es.toList = rws w L) (hp : order.toList.Perm (List.range L.length)) : ∃ L2 : Ents, L2.Perm L ∧ (order.filterMap (es[·]?)).toList = rws w L2 ∧ hss w L2 = order.toList.map fun i => (es.map (·.1)).getD i 0 := by
  refine ⟨order.toList.filterMap (L[·]?), (hp.filterMap _).trans (by rw [range_pick]), ?_, ?_⟩
  · have e : (fun i => es[i]?) = fun i => L[i]?.map fun p : Addr × NestedKey => (p.2.hash w, Value.ref p.1) := funext fun i => rws_at hr i
    have e2 : (order.filterMap (es[·]?)).toList = order.toList.filterMap (es[·]?) := by simp
    rw [e2, e, rws, List.map_filterMap]
  · have hm : ∀ i ∈ order.toList, i < L.length := fun i hi => List.mem_range.mp (hp.mem_iff.mp hi)
    generalize order.toList = l at hm
    induction l with
    | nil => rfl
    | cons i l ih =>
      have hi := hm i (.head _)
      have e := rws_at hr i
      rw [List.getElem?_eq_getElem hi] at e
      have e3 : (es.map (·.1)).getD i 0 = (L[i]).2.hash w := by
        simp [Array.getD_eq_getD_getElem?, e]
      rw [List.filterMap_cons_some (List.getElem?_eq_getElem hi), List.map_cons, e3]
      exact congrArg _ (ih fun j hj => hm j (.tail _ hj))
/-- laid anew -/
theorem relay_n (ob : s.heap.get? a = some o) (ex : o.ExactSet) (dt : o.data = .set es ep t) (rows : es.toList = rws w L) (tab : TabOk t (hss w L)) (nd : (L.map (·.2)).Nodup) (key : ∀ p ∈ L, IsN s.heap p.2 p.1) (led : w.params.followText "set-order" = true ∨ t.led = true) (few : L.length < 64)
    (fl : L.length ≤ t.mask) {wanted M : Nat} (hw : SetTable.sizeAbove wanted = M + 1) (hM : MaskOk M) (room : L.length * 5 < M * 3) {Q : Unit → Shared → Prop}
    (hQ : ∀ h' L' o' es' ep' t', Heap.SameBut a s.heap h' → NSet w h' a L' o' es' ep' t' → L'.Perm L → Q () { s with heap := h' }) : wpAny (model P w) A (setRelay a wanted) Q E s := by
  have hz := rws_len rows
  have fit : t.fits es.size = true := tab_fits tab (by rw [hz, hss, List.length_map]) (by omega)
  obtain ⟨t', ord, e1, e2, e3, e4, e5, _, e7⟩ := relaid_ok t (hs := es.map (·.1)) (wanted := wanted) (M := M) (by rw [hw]; rfl) hM (by rw [Array.size_map]; omega)
  rw [Array.size_map, hz] at e2
  obtain ⟨L2, p1, p2, p3⟩ := laid_rows (w := w) rows e2
  rw [← p3] at e3
  have hz2 : (ord.filterMap (es[·]?)).size = es.size := by rw [rws_len p2, p1.length_eq, hz]
  have hM2 : M ≤ 127 := by rcases hM with e | e | e <;> omega
  have hsl : sizeLine > 1000 := by rw [sizeLine_eq]; decide
  rw [setRelay_eq]
  refine wpAny_bind (wpAny_setState_of ob dt fit (wp_if_neg (by omega) ?_))
  dsimp only
  rw [e1]
  refine wpAny_bind (wp_if_neg (by rw [hz2]; simp) (wpAny_pure (wpAny_storeSet_of ob dt ?_ (by rw [hz2]; omega))))
  have sb : Heap.SameBut a s.heap (s.heap.update a (Obj.putSet (ord.filterMap (es[·]?)) t')) := .update ..
  exact hQ _ L2 _ _ _ t' sb ⟨store_at ob dt, ⟨ex.1, ex.2.1, ex.2.2⟩, rfl, p2, e3, (p1.map (·.2)).nodup_iff.mpr nd, fun p hp => isN_but (key p (p1.mem_iff.mp hp)) ob dt sb, by rw [e5]; exact led, by rw [p1.length_eq, e4]; exact room, by rw [p1.length_eq]; exact few⟩ p1
theorem mid_perm {α : Type} (L : List α) (p : Nat) (x : α) : (L.take p ++ x :: L.drop p).Perm (x :: L) := by
  refine List.perm_middle.trans ?_
  rw [List.take_append_drop]
/-- added -/
theorem add_n (S : NSet w s.heap a L o es ep t) {x : Addr} {k : NestedKey} (hx : IsN s.heap k x) (hu : A.units + 8 < cLine) (hf : L.length + 1 < 64) {Q : Bool → Shared → Prop}
    (hin : k ∈ L.map (·.2) → Q false s) (hout : k ∉ L.map (·.2) → ∀ h' L' o' es' ep' t', Heap.SameBut a s.heap h' → NSet w h' a L' o' es' ep' t' → L'.Perm ((x, k) :: L) → Q true { s with heap := h' }) :
    wpAny (model P w) A (setAddHashed a (.ref x) (k.hash w)) Q E s := by
  have hz := rws_len S.rows
  have hr := S.room
  have hsl : sizeLine > 1000 := by rw [sizeLine_eq]; decide
  unfold setAddHashed
  rw [show (100000 : Nat) = 99999 + 1 from rfl, setAddHashedIn_succ]
  refine wpAny_holding (wpAny_bind (wpAny_setState_of S.ob S.dt S.fit (wp_if_neg (by simp [byScan, Value.scannable]) ?_)))
  refine wpAny_bind (search_n S hx hu (fun hm => wpAny_pure (hin hm)) fun K hm h1 h2 => ?_)
  refine wpAny_bind (wpAny_setState_of S.ob S.dt S.fit ?_)
  obtain ⟨q1, q2, q3, q4, q5, _, _, _, q9⟩ := S.tab.put h1 h2
  dsimp only
  generalize t.put (way t.mask (k.hash w) K) = pt at *
  obtain ⟨t1, p⟩ := pt
  simp only at q1 q3 q4 q5 q9
  rw [← q1] at q2 q3
  have pm := mid_perm L p (x, k)
  have hh : hss w (L.take p ++ (x, k) :: L.drop p) = (hss w L).take p ++ k.hash w :: (hss w L).drop p := by simp [hss, List.map_take, List.map_drop]
  rw [← hh] at q3
  have rows1 : (SetTable.insertAt es p (k.hash w, Value.ref x)).toList = rws w (L.take p ++ (x, k) :: L.drop p) := by
    rw [SetTable.toList_insertAt, S.rows]
    simp [rws, List.map_take, List.map_drop]
  have nd1 : ((L.take p ++ (x, k) :: L.drop p).map (·.2)).Nodup := (pm.map (·.2)).nodup_iff.mpr (by rw [List.map_cons]; exact List.nodup_cons.mpr ⟨hm, S.nd⟩)
  have sz1 := rws_len rows1
  have len1 : (L.take p ++ (x, k) :: L.drop p).length = L.length + 1 := pm.length_eq
  have lf : (hss w L).length = L.length := by rw [hss, List.length_map]
  rw [lf] at q9
  -- what stays plain or not
  have cont : ∀ t2 : SetTable, TabOk t2 (hss w (L.take p ++ (x, k) :: L.drop p)) → t2.mask = t.mask → t2.led = t.led → t2.fill = L.length + 1 → wpAny (model P w) A (do
      storeSet a (SetTable.insertAt es p (k.hash w, Value.ref x)) t2
      if (!false && t2.tooFull) = true then do
        setRelay a (SetTable.grown (es.size + 1))
        pure true
      else pure true) Q E s := by
    intro t2 T2 m2 l2 f2
    refine wpAny_bind (wpAny_storeSet_of S.ob S.dt ?_ (by rw [sz1, len1]; omega))
    have sb : Heap.SameBut a s.heap (s.heap.update a (Obj.putSet (SetTable.insertAt es p (k.hash w, Value.ref x)) t2)) := .update ..
    have ob1 := store_at (es' := SetTable.insertAt es p (k.hash w, Value.ref x)) (t' := t2) S.ob S.dt
    generalize s.heap.update a (Obj.putSet (SetTable.insertAt es p (k.hash w, Value.ref x)) t2) = h1 at *
    generalize SetTable.insertAt es p (k.hash w, Value.ref x) = es1 at *
    have key1 : ∀ y ∈ L.take p ++ (x, k) :: L.drop p, IsN h1 y.2 y.1 := fun y hy => by
      rcases List.mem_cons.mp (pm.mem_iff.mp hy) with e | hy
      · subst e; exact isN_but hx S.ob S.dt sb
      · exact isN_but (S.key y hy) S.ob S.dt sb
    generalize L.take p ++ (x, k) :: L.drop p = L1 at *
    have led1 : w.params.followText "set-order" = true ∨ t2.led = true := by rw [l2]; exact S.led
    have ex1 : Obj.ExactSet { o with data := .set es1 (ep + 1) t2 } := ⟨S.ex.1, S.ex.2.1, S.ex.2.2⟩
    by_cases hfu : t2.tooFull = true
    · refine wp_if_pos (by simp [hfu]) (wpAny_bind ?_)
      have full : (L.length + 1) * 5 ≥ t.mask * 3 := by
        have := hfu
        unfold SetTable.tooFull at this
        rwa [decide_eq_true_eq, f2, m2] at this
      have two : (t.mask = 7 ∧ L.length = 4) ∨ (t.mask = 31 ∧ L.length = 18) := by
        rcases S.tab.mok with e | e | e <;> rw [e] at hr full
        · exact .inl ⟨e, by omega⟩
        · exact .inr ⟨e, by omega⟩
        · omega
      have fin : ∀ M, SetTable.sizeAbove (SetTable.grown (es.size + 1)) = M + 1 → MaskOk M → (L.length + 1) * 5 < M * 3 → wpAny (model P w) A (setRelay a (SetTable.grown (es.size + 1))) (fun _ s' => wpAny (model P w) A (pure true) Q E s') E { s with heap := h1 } := fun M g1 g2 g3 =>
        relay_n (s := { s with heap := h1 }) ob1 ex1 rfl rows1 T2 nd1 key1 led1 (by omega) (by rw [m2]; omega) g1 g2 (by omega) fun h2 L2 o2 es2 ep2 t3 sb2 S2 pm2 => wpAny_pure (hout hm h2 L2 o2 es2 ep2 t3 (sb.trans sb2) S2 (pm2.trans pm))
      rcases two with ⟨_, e⟩ | ⟨_, e⟩
      · exact fin 31 (by rw [hz, e, size_20]) (.inr (.inl rfl)) (by omega)
      · exact fin 127 (by rw [hz, e, size_76]) (.inr (.inr rfl)) (by omega)
    · refine wp_if_neg (by simp [hfu]) (wpAny_pure (hout hm h1 L1 _ es1 (ep + 1) t2 sb ⟨ob1, ex1, rfl, rows1, T2, nd1, key1, led1, ?_, by omega⟩ pm))
      have := hfu
      unfold SetTable.tooFull at this
      rw [decide_eq_true_eq, f2] at this
      omega
  have both : ∀ b : Bool, wpAny (model P w) A (do
      storeSet a (SetTable.insertAt es p (k.hash w, Value.ref x)) (if b = true then t1 else { t1 with plain := false })
      if (!false && (if b = true then t1 else { t1 with plain := false }).tooFull) = true then do
        setRelay a (SetTable.grown (es.size + 1))
        pure true
      else pure true) Q E s := fun b => by
    cases b with
    | true => exact cont t1 q3 q4 q5 q9
    | false => exact cont { t1 with plain := false } ⟨q3.ris, q3.dm, q3.sz, q3.mok, q3.bd, q3.reach⟩ q4 q5 q9
  by_cases hpl : t1.plain = true
  · refine wp_if_pos hpl (wpAny_bind (valHash 8 k _ hx.1 _ fun c => ?_))
    exact both c
  · refine wp_if_neg hpl (wpAny_bind (wpAny_pure ?_))
    exact both true
end
end Z

namespace Z
open PySem PySem.Spec PyProof.Rows L2
/-! ### set(xs) -/
def addE (L : Ents) (p : Addr × NestedKey) : Ents := if p.2 ∈ L.map (·.2) then L else p :: L
def dedE (ks : Ents) : Ents := ks.foldl addE []
theorem dedE_next {ks : Ents} {i : Nat} {p : Addr × NestedKey} (h : ks[i]? = some p) : dedE (ks.take (i + 1)) = addE (dedE (ks.take i)) p := by
  rw [dedE, List.take_succ, h]
  simp [dedE, List.foldl_append]
theorem addE_len (L : Ents) (p : Addr × NestedKey) : (addE L p).length ≤ L.length + 1 := by
  unfold addE
  split <;> simp
theorem addE_sub {L : Ents} {p q : Addr × NestedKey} (h : q ∈ addE L p) : q = p ∨ q ∈ L := by
  unfold addE at h
  split at h
  · exact .inr h
  · exact List.mem_cons.mp h
theorem fold_sub {q : Addr × NestedKey} : ∀ (ks L : Ents), q ∈ ks.foldl addE L → q ∈ ks ∨ q ∈ L
  | [], L, h => .inr h
  | p :: ks, L, h => by
    rcases fold_sub ks _ h with h | h
    · exact .inl (.tail _ h)
    · rcases addE_sub h with rfl | h
      · exact .inl (.head _)
      · exact .inr h
theorem fold_len : ∀ (ks L : Ents), (ks.foldl addE L).length ≤ ks.length + L.length
  | [], L => by simp
  | p :: ks, L => by
    have h1 := fold_len ks (addE L p)
    have h2 := addE_len L p
    simp only [List.foldl_cons, List.length_cons]
    omega
/-- few unlike items -/
def FewE (ks : Ents) : Prop := ∀ i, i < ks.length → (dedE (ks.take i)).length + 1 < 64
theorem addE_ge (L : Ents) (p : Addr × NestedKey) : L.length ≤ (addE L p).length := by
  unfold addE
  split <;> simp
theorem fold_ge : ∀ (ks L : Ents), L.length ≤ (ks.foldl addE L).length
  | [], L => Nat.le_refl _
  | p :: ks, L => Nat.le_trans (addE_ge L p) (fold_ge ks (addE L p))
theorem dedE_take (ks : Ents) (i : Nat) : (dedE (ks.take i)).length ≤ (dedE ks).length := by
  have e : dedE ks = (ks.drop i).foldl addE (dedE (ks.take i)) := by
    unfold dedE
    rw [← List.foldl_append, List.take_append_drop]
  rw [e]
  exact fold_ge _ _
theorem fewE_of {ks : Ents} (h : ks.length < 64 ∨ (dedE ks).length < 63) : FewE ks := fun i hi => by
  rcases h with h | h
  · have := fold_len (ks.take i) []
    rw [List.length_take] at this
    simp only [List.length_nil] at this
    unfold dedE
    omega
  · have := dedE_take ks i
    omega
section
variable {P : Program} {w : World} {A : Around} {E : Value → Shared → Prop} {s : Shared} {a : Addr} {L : Ents} {o : Obj} {es : Array (Int × Value)} {ep : Nat} {t : SetTable}
theorem NSet.up {h h' : Heap} (S : NSet w h a L o es ep t) (ha : ∀ o, h.get? a = some o → h'.get? a = some o) (hk : ∀ p ∈ L, IsN h' p.2 p.1) : NSet w h' a L o es ep t := ⟨ha _ S.ob, S.ex, S.dt, S.rows, S.tab, S.nd, hk, S.led, S.room, S.few⟩
theorem nset_new {h : Heap} (ho : h.get? a = some { cls := .type "set", dict := none, data := .set #[] 0 (.fresh 0 0 (!w.params.followText "set-order")) }) : NSet w h a [] { cls := .type "set", dict := none, data := .set #[] 0 (.fresh 0 0 (!w.params.followText "set-order")) } #[] 0 (.fresh 0 0 (!w.params.followText "set-order")) where
  ob := ho
  ex := ⟨rfl, rfl, rfl⟩
  dt := rfl
  rows := rfl
  tab := { ris := .nil, dm := rfl, sz := rfl, mok := .inl rfl, bd := fun _ h => (nomatch h), reach := fun _ _ _ h => by simp [hss] at h }
  nd := .nil
  key := fun _ h => nomatch h
  led := by cases h : w.params.followText "set-order" <;> simp [SetTable.fresh]
  room := show 0 * 5 < 7 * 3 by decide
  few := by decide
/-- the loop of set.update -/
theorem grow_n {I : Addr} {fp wr : List Addr} {G : Array GenState → Array GenState → Prop} {n : Nat} {Pv : Nat → Value → Prop} {St : Nat → Shared → Prop} {R : Result → Shared → Prop} (W : WalksS P w A.in1 I fp wr G n Pv St) (hu : A.in1.units + 8 < cLine) (ha : a ∉ fp) (ks : Ents)
    (hn : n = ks.length) (hf : FewE ks) (hv : ∀ i v, Pv i v → ∃ p, ks[i]? = some p ∧ v = .ref p.1) (h0 : Heap) (hk : ∀ p ∈ ks, IsN h0 p.2 p.1) (ha0 : h0.get? a = none) (hw0 : ∀ b ∈ wr, h0.get? b = none)
    (fin : ∀ s' L o es ep t, Moved (a :: wr) G s s' → NSet w s'.heap a L o es ep t → L.Perm (dedE ks) → (∀ b o, h0.get? b = some o → s'.heap.get? b = some o) → R (.ok (.ret .none)) s') :
    ∀ (m i : Nat) (s1 : Shared), n - i = m → i ≤ n → St i s1 → Moved (a :: wr) G s s1 → (∀ b o, h0.get? b = some o → s1.heap.get? b = some o) → (∃ L o es ep t, NSet w s1.heap a L o es ep t ∧ L.Perm (dedE (ks.take i))) →
      codeAny (model P w) A (.builtin "set.update.loop" ⟨[.ref a, .ref I], []⟩) R s1 := by
  have haw : a ∉ wr := fun h => ha (W.sub _ h)
  have wide : ∀ b ∈ wr, b ∈ a :: wr := fun b hb => .tail _ hb
  have keep : ∀ {s1 s2 : Shared}, Moved wr G s1 s2 → (∀ b o, h0.get? b = some o → s1.heap.get? b = some o) → ∀ b o, h0.get? b = some o → s2.heap.get? b = some o := fun mv k b o e =>
    mv.heap b o (fun hb => by have := hw0 b hb; rw [e] at this; cases this) (k b o e)
  intro m
  induction m with
  | zero =>
    intro i s1 hm hi hst mv kp ⟨L, o, es, ep, t, S, pm⟩
    obtain rfl : i = n := by omega
    refine codeAny_builtin F.entry_set_update_loop ?_
    rw [Around.under_plainId F.plain_set_update_loop _]
    refine wpAny_bind (m := pyNext _) (W.done s1 _ _ hst fun s2 mv2 => ?_)
    have kp2 := keep mv2 kp
    rw [hn, List.take_length] at pm
    have sub : ∀ p ∈ L, p ∈ ks := fun p hp => (fold_sub ks [] (pm.mem_iff.mp hp)).elim id (fun h => nomatch h)
    exact wpAny_pure (fin s2 L o es ep t (mv.trans W.gtrans (mv2.mono wide)) (S.up (fun o e => mv2.heap a o haw e) fun p hp => isN_up (hk p (sub p hp)) kp2) pm kp2)
  | succ m ih =>
    intro i s1 hm hi hst mv kp ⟨L, o, es, ep, t, S, pm⟩
    refine codeAny_builtin F.entry_set_update_loop ?_
    rw [Around.under_plainId F.plain_set_update_loop _]
    refine wpAny_bind (m := pyNext _) (W.item i s1 _ _ (by omega) hst fun v s2 hp2 hst2 mv2 => ?_)
    obtain ⟨p, hp, rfl⟩ := hv i v hp2
    have kp2 := keep mv2 kp
    have sub : ∀ q ∈ L, q ∈ ks := fun q hq => (fold_sub _ [] (pm.mem_iff.mp hq)).elim List.mem_of_mem_take (fun h => nomatch h)
    have S2 : NSet w s2.heap a L o es ep t := S.up (fun o e => mv2.heap a o haw e) fun q hq => isN_up (hk q (sub q hq)) kp2
    have hx : IsN s2.heap p.2 p.1 := isN_up (hk p (List.mem_of_getElem? hp)) kp2
    have hil : i < ks.length := (List.getElem?_eq_some_iff.mp hp).1
    have hL : L.length + 1 < 64 := by
      rw [pm.length_eq]
      exact hf i hil
    have same : (p.2 ∈ L.map (·.2)) ↔ p.2 ∈ (dedE (ks.take i)).map (·.2) := (pm.map (·.2)).mem_iff
    -- what comes after it
    have on : ∀ (h' : Heap) (tk : Nat), s2.toks ≤ tk → Heap.SameBut a s2.heap h' → (∃ L' o' es' ep' t', NSet w h' a L' o' es' ep' t' ∧ L'.Perm (dedE (ks.take (i + 1)))) → codeAny (model P w) A (.builtin "set.update.loop" ⟨[.ref a, .ref I], []⟩) R { s2 with heap := h', toks := tk } := fun h' tk htk sb ⟨L', o', es', ep', t', S', pm'⟩ => by
      have keepb : ∀ b, b ≠ a → ∀ o, s2.heap.get? b = some o → h'.get? b = some o := fun b hb o e => by rw [sb.2 b hb]; exact e
      refine ih (i + 1) _ (by omega) (by omega) (W.frame _ s2 h' tk hst2 htk fun b hb o e => keepb b (fun z => ha (z ▸ hb)) o e) ((mv.trans W.gtrans (mv2.mono wide)).then_heap htk fun b o hb e => keepb b (fun z => hb (z ▸ List.mem_cons_self)) o e) (fun b o e => keepb b (fun z => by subst z; rw [ha0] at e; cases e) o (kp2 b o e)) ⟨L', o', es', ep', t', S', pm'⟩
    show wpAny (model P w) A.in1 (holding [Value.ref p.1] (setAdd a (.ref p.1)) >>= _) _ _ s2
    unfold setAdd
    refine wpAny_bind (wpAny_holding (wpAny_holding (wpAny_bind (pyHash_key p.2 _ A.in1 s2 _ hx.1 (by have := hx.2; omega) ?_))))
    refine add_n (s := { s2 with toks := s2.toks + p.2.draws }) S2 hx hu (by omega) (fun hm => ?_) fun hm h' L' o' es' ep' t' sb S' pm' => ?_
    · refine wpAny_pure ⟨plainId_quiet F.plain_set_update_loop _, on s2.heap _ (Nat.le_add_right _ _) (.refl ..) ⟨L, o, es, ep, t, S2, ?_⟩⟩
      rw [dedE_next hp, addE, if_pos (same.mp hm)]
      exact pm
    · refine wpAny_pure ⟨plainId_quiet F.plain_set_update_loop _, on h' _ (Nat.le_add_right _ _) sb ⟨L', o', es', ep', t', S', ?_⟩⟩
      rw [dedE_next hp, addE, if_neg fun z => hm (same.mpr z)]
      exact pm'.trans (pm.cons _)
end
end Z

namespace Z
open PySem PySem.Spec PyProof.Rows L2
section
variable {P : Program} {w : World} {A : Around} {E : Value → Shared → Prop} {s : Shared}
abbrev sObj0 (w : World) : Obj := { cls := .type "set", dict := none, data := .set #[] 0 (.fresh 0 0 (!w.params.followText "set-order")) }
theorem beyond {h : Heap} {b : Addr} (hb : h.objs.size ≤ b) : h.get? b = none := by
  cases q : h.get? b with
  | none => rfl
  | some o => exact absurd (Heap.lt_size q) (Nat.not_lt.mpr hb)
/-- what the loop does, whichever sequence is walked -/
theorem loop_n {l : Addr} {items : Array Value} {ks : Ents} {C : String} {St : Nat → Heap → Prop} {R : Result → Shared → Prop} (W : Walks P w A.in1 (s.heap.objs.size + 1) [s.heap.objs.size + 1, l] [s.heap.objs.size + 1] items.size (fun i v => items[i]? = some v) St) (hlt : l < s.heap.objs.size)
    (hi : items.toList = ks.map fun p => .ref p.1) (hk : ∀ p ∈ ks, IsN s.heap p.2 p.1) (hf : FewE ks) (hu : A.in1.units + 8 < cLine) (it : Obj) (tk : Nat) (hst : St 0 ((s.heap.push (sObj0 w)).push it))
    (fin : ∀ h' tk' L o es ep t, NSet w h' s.heap.objs.size L o es ep t → L.Perm (dedE ks) → (∀ b o, s.heap.get? b = some o → h'.get? b = some o) → R (.ok (.ret .none)) { s with heap := h', toks := tk' }) :
    codeAny (model P w) A (.builtin "set.update.loop" ⟨[.ref s.heap.objs.size, .ref (s.heap.objs.size + 1)], []⟩) R { s with heap := (s.heap.push (sObj0 w)).push it, toks := tk } := by
  have hz : items.size = ks.length := by rw [← Array.length_toList, hi, List.length_map]
  have e1 : (s.heap.push (sObj0 w)).objs.size = s.heap.objs.size + 1 := Heap.size_push ..
  refine grow_n (s := { s with heap := (s.heap.push (sObj0 w)).push it, toks := tk }) W.toS hu (by simp only [List.mem_cons, List.not_mem_nil, or_false, not_or]; exact ⟨Nat.ne_of_lt (Nat.lt_succ_self _), Nat.ne_of_gt hlt⟩) ks hz hf (fun i v hv => ?_) s.heap hk (beyond (Nat.le_refl _)) (fun b hb => beyond (by rw [List.mem_singleton.mp hb]; exact Nat.le_succ _)) (fun s' L o es ep t mv S pm kp => ?_) items.size 0 _ (by omega) (Nat.zero_le _) hst (Moved.refl W.toS.grefl)
    (fun b o e => Heap.get?_push_of_some _ (Heap.get?_push_of_some _ e)) ⟨[], _, _, _, _, nset_new (Heap.get?_push_of_some _ (Heap.get?_push_size _ rfl)), .nil⟩
  · rw [← Array.getElem?_toList, hi, List.getElem?_map] at hv
    obtain ⟨p, hp, e⟩ := Option.map_eq_some_iff.mp hv
    exact ⟨p, hp, e.symm⟩
  · obtain ⟨h', g', d', tk', os'⟩ := s'
    obtain rfl : g' = s.gens := mv.gens
    obtain rfl : d' = s.drawn := mv.drawn
    obtain rfl : os' = s.os := mv.os
    exact fin h' tk' L o es ep t S pm kp
/-- what the loop of set.update comes to, whichever sequence is walked -/
def LoopG (P : Program) (w : World) (A : Around) (s : Shared) (l : Addr) (items : Array Value) (Fin : Heap → Prop) : Prop :=
  ∀ (A' : Around) (St : Nat → Heap → Prop), A'.in1.units + 8 < cLine → Walks P w A'.in1 (s.heap.objs.size + 1) [s.heap.objs.size + 1, l] [s.heap.objs.size + 1] items.size (fun i v => items[i]? = some v) St → l < s.heap.objs.size → ∀ (it : Obj) (tk : Nat), St 0 ((s.heap.push (sObj0 w)).push it) →
    ∀ (R : Result → Shared → Prop), (∀ h' tk', Fin h' → (∀ b o, s.heap.get? b = some o → h'.get? b = some o) → R (.ok (.ret .none)) { s with heap := h', toks := tk' }) →
    codeAny (model P w) A' (.builtin "set.update.loop" ⟨[.ref s.heap.objs.size, .ref (s.heap.objs.size + 1)], []⟩) R { s with heap := (s.heap.push (sObj0 w)).push it, toks := tk }
set_option maxHeartbeats 3200000 in
theorem call_set_g {l : Addr} {items : Array Value} {Fin : Heap → Prop} {Q : Value → Shared → Prop} (hh : A.handled = none) (hl : s.heap.IsList l items ∨ s.heap.IsTuple l items) (hu : A.units + 16 < cLine) (lp : LoopG P w A s l items Fin)
    (fin : ∀ h' tk, Fin h' → (∀ b o, s.heap.get? b = some o → h'.get? b = some o) → Q (.ref s.heap.objs.size) { s with heap := h', toks := tk }) :
    wpAny (model P w) A (call (.type "set") [.ref l]) Q E s := by
  obtain ⟨⟨c, tl, mro⟩, made, sub, ⟨n1, n2⟩, ct⟩ := And.intro F.called_set.mro (And.intro F.called_set.made (And.intro F.called_set.sub (And.intro (And.intro F.called_set.notType F.called_set.canCreate) (F.typeCall_set_1 (.ref l)))))
  refine wpAny_call (codeAny_of_tree (show wpAny _ _ (callAny (.type "set") _) _ _ _ from wpAny_pure ⟨Code.quiet_builtin _ (by decide +kernel), codeAny_builtin F.entry_type_call ?_⟩))
  rw [Around.under_plain (weight_type_call_type "set" [.ref l] []) rfl]
  repeat (any_goals (first | assumption | wp_step))
  refine codeAny_mono (code_set_led1 (.ref l) (E := E) (Q₁ := fun x s1 => x = .ref s.heap.objs.size ∧ s1 = { s with heap := s.heap.push (sObj0 w) }) ⟨rfl, rfl⟩) fun r s1 hr => ?_
  match r, hr with
  | .error _, hr => exact hr
  | .ok (.ret x), ⟨e1, e2⟩ =>
    subst e1 e2
    have at0 : (s.heap.push (sObj0 w)).get? s.heap.objs.size = some (sObj0 w) := Heap.get?_push_size _ rfl
    have ty : Shared.TypeIs { s with heap := s.heap.push (sObj0 w) } (.ref s.heap.objs.size) "set" := ⟨_, at0, rfl⟩
    obtain ⟨hli, hbi⟩ := And.intro F.called_set.init.lookup (F.called_set.init.bind (.ref s.heap.objs.size))
    repeat (any_goals (first | assumption | wp_step))
    refine codeAny_mono (codeAny_call_builtin (R := wants (fun r s2 => r = .none ∧ ∃ h' tk, s2 = { s with heap := h', toks := tk } ∧ Fin h' ∧ ∀ b o, s.heap.get? b = some o → h'.get? b = some o) E) F.called_set.init.plain F.entry_set_init (check_set_init_1 ty ?_)) fun r s2 hr => ?_
    · have hlt : l < s.heap.objs.size := by rcases hl with ⟨ol, q, _⟩ | ⟨ol, q, _⟩ <;> exact Heap.lt_size q
      have e1 : (s.heap.push (sObj0 w)).objs.size = s.heap.objs.size + 1 := Heap.size_push ..
      have h3 : A.in1.in1.in1.handled = none := by simp [hh]
      have hne : l ≠ s.heap.objs.size + 1 := Nat.ne_of_lt (Nat.lt_succ_of_lt hlt)
      rcases hl with hl | hl
      · have hl1 : (s.heap.push (sObj0 w)).IsList l items := hl.push _
        obtain ⟨ol, hol, hcl, nl, hdl⟩ := id hl1
        obtain ⟨ocls, odict, odata, oslots⟩ := ol
        simp only at hcl hdl
        subst hcl hdl
        have nd : (Value.type "list" == Value.type "dict") = false := by decide
        obtain ⟨s1, s2⟩ := And.intro F.sub_list_set F.sub_list_frozenset
        unfold Builtin.«set.__init__» noKeywords Builtin.Frozenset.updateFrom
        generalize hPI : pyIter = PI
        wp_walk
        subst hPI
        refine wpAny_pyIter_list hl1 (wpAny_bind (wpAny_runValue ?_))
        show codeAny (model P w) A.in1.in1 (.builtin "set.update.loop" ⟨[.ref s.heap.objs.size, .ref (s.heap.push (sObj0 w)).objs.size], []⟩) _ _
        rw [e1]
        refine lp _ _ (by simp; omega) (Walks.list h3 _ l hne items) hlt _ s.toks ⟨⟨_, by rw [← e1]; exact Heap.get?_push_size _ rfl, rfl, rfl⟩, hl1.push _⟩ _ fun h' tk S kp => wpAny_pure ?_
        exact wpAny_pure ⟨rfl, h', tk, rfl, S, kp⟩
      · have hl1 : (s.heap.push (sObj0 w)).IsTuple l items := hl.push _
        obtain ⟨ol, hol, hcl, nl, hdl⟩ := id hl1
        obtain ⟨ocls, odict, odata, oslots⟩ := ol
        simp only at hcl hdl
        subst hcl hdl
        have nd : (Value.type "tuple" == Value.type "dict") = false := by decide
        obtain ⟨s1, s2⟩ := And.intro F.sub_tuple_set F.sub_tuple_frozenset
        unfold Builtin.«set.__init__» noKeywords Builtin.Frozenset.updateFrom
        generalize hPI : pyIter = PI
        wp_walk
        subst hPI
        refine wpAny_pyIter_tuple hl1 (wpAny_bind (wpAny_runValue ?_))
        show codeAny (model P w) A.in1.in1 (.builtin "set.update.loop" ⟨[.ref s.heap.objs.size, .ref (s.heap.push (sObj0 w)).objs.size], []⟩) _ _
        rw [e1]
        refine lp _ _ (by simp; omega) (Walks.tuple h3 _ l hne items) hlt _ s.toks ⟨⟨_, by rw [← e1]; exact Heap.get?_push_size _ rfl, rfl, rfl⟩, hl1.push _⟩ _ fun h' tk S kp => wpAny_pure ?_
        exact wpAny_pure ⟨rfl, h', tk, rfl, S, kp⟩
    · match r, hr with
      | .error _, hr => exact hr
      | .ok (.ret _), ⟨e1, h', tk, e2, S, kp⟩ =>
        subst e1 e2
        repeat (any_goals (first | assumption | wp_step))
        exact fin _ _ S kp
theorem call_set_n {l : Addr} {items : Array Value} {ks : Ents} {Q : Value → Shared → Prop} (hh : A.handled = none) (hl : s.heap.IsList l items ∨ s.heap.IsTuple l items) (hi : items.toList = ks.map fun p => .ref p.1) (hk : ∀ p ∈ ks, IsN s.heap p.2 p.1) (hf : FewE ks) (hu : A.units + 16 < cLine)
    (fin : ∀ h' tk L o es ep t, NSet w h' s.heap.objs.size L o es ep t → L.Perm (dedE ks) → (∀ b o, s.heap.get? b = some o → h'.get? b = some o) → Q (.ref s.heap.objs.size) { s with heap := h', toks := tk }) : wpAny (model P w) A (call (.type "set") [.ref l]) Q E s :=
  call_set_g (Fin := fun h' => ∃ L o es ep t, NSet w h' s.heap.objs.size L o es ep t ∧ L.Perm (dedE ks)) hh hl hu (fun A' St hA W hlt it tk hst R f => loop_n (A := A') (C := "") W hlt hi hk hf hA it tk hst fun h' tk' L o es ep t S pm kp => f h' tk' ⟨L, o, es, ep, t, S, pm⟩ kp) fun h' tk ⟨L, o, es, ep, t, S, pm⟩ kp => fin h' tk L o es ep t S pm kp
end
end Z

namespace Z
open PySem PySem.W PySem.SeqAt PySem.Calls PyProof.Rows
/-! ### sorted(set) -/
theorem perm_back {α β : Type} {f : α → β} {l m : List β} (h : l.Perm m) : ∀ L : List α, m = L.map f → ∃ L1, List.Perm L1 L ∧ l = L1.map f := by
  induction h with
  | nil => exact fun L e => ⟨L, .refl _, e⟩
  | @cons x l m _ ih =>
    intro L e
    cases L with
    | nil => cases e
    | cons y L =>
      injection e with e1 e2
      obtain ⟨L1, p, rfl⟩ := ih L e2
      exact ⟨y :: L1, p.cons y, by rw [e1]; rfl⟩
  | swap x y l =>
    intro L e
    cases L with
    | nil => cases e
    | cons a L => cases L with
      | nil => simp at e
      | cons b L =>
        simp only [List.map_cons, List.cons.injEq] at e
        obtain ⟨rfl, rfl, rfl⟩ := e
        exact ⟨b :: a :: L, .swap .., rfl⟩
  | trans _ _ i1 i2 =>
    intro L e
    obtain ⟨L1, p1, e1⟩ := i2 L e
    obtain ⟨L2, p2, e2⟩ := i1 L1 e1
    exact ⟨L2, p2.trans p1, e2⟩
theorem each_pick {β : Type} {R : Value → β → Prop} {f : β → Value} : ∀ {bs : List β}, (∀ b ∈ bs, R (f b) b) → EachIs R (bs.map f) bs
  | [], _ => .nil
  | b :: bs, h => .cons (h b (.head _)) (each_pick fun c hc => h c (.tail _ hc))
theorem each_same {β : Type} {f : β → Value} : ∀ {vs : List Value} {bs : List β}, EachIs (fun v b => v = f b) vs bs → vs = bs.map f
  | _, _, .nil => rfl
  | _, _, .cons e t => by rw [e, each_same t]; rfl
section
variable {prog : Program} {w : World} {A : Around} {E : Value → Shared → Prop} {s : Shared}
theorem sorted_set_g {β : Type} {bs : List β} {f : β → Value} {enc : β → PyData} {a : Addr} {o : Obj} {es : Array (Int × Value)} {ep : Nat} {t : SetTable} {Q : Value → Shared → Prop} (ho : s.heap.get? a = some o) (hx : o.ExactSet) (hd : o.data = .set es ep t) (hfit : t.fits es.size = true) (hris : L2.Ris t.place.toList) (hled : w.params.followText "set-order" = true ∨ t.led = true) (ev : es.toList.map (·.2) = bs.map f) (hf : bs.length < 64) (hh : A.handled = none)
    (hr : ∀ b ∈ bs, ∃ as, Reads s.heap (f b) (enc b) as) (hal : AllCmp (bs.map enc)) (hk : NoEmpty (bs.map enc)) (hu : ∀ b, b ∈ bs → A.units + 2 + (enc b).depth < cLine)
    (fin : ∀ s' p c (bs1 : List β), (∀ b o, s.heap.get? b = some o → s'.heap.get? b = some o) → s'.gens = s.gens → s'.os = s.os → s.heap.objs.size ≤ p → bs1.Perm bs → s'.heap.get? p = some (seqObj "list" ((bs1.mergeSort (dataLe false enc)).map fun b => f b).toArray c) → Q (.ref p) s') :
    wpAny (model prog w) A (call (.builtin "sorted") [.ref a]) Q E s := by
  have hz : es.size = bs.length := by
    have := congrArg List.length ev
    rwa [List.length_map, Array.length_toList, List.length_map] at this
  have hsl : sizeLine > 1000 := by rw [sizeLine_eq]; decide
  refine call_function_entry_kw kind_sorted plain_sorted entry_sorted (args_sorted1 _) ?_
  unfold Builtin.«sorted»
  refine wpAny_bind (m := checkCount "sorted" 1 1 _) (wpAny_pure (wpAny_bind (L2.collect_set (A := A.in1) hh ⟨o, ho, hx.1, hd⟩ hfit (by unfold scanBound; omega) hris hled fun s1 vs up hz1 g1 o1 pm => ?_)))
  obtain ⟨bs1, p1, rfl⟩ := perm_back pm bs ev
  have hl1 : bs1.length = bs.length := p1.length_eq
  have hL : (bs1.map fun b => f b).length ≤ sizeLine := by rw [List.length_map]; omega
  refine wpAny_bind (wpAny_newList ?_ hL)
  have at1 : (s1.heap.push (seqObj "list" (bs1.map fun b => f b).toArray 0)).get? s1.heap.objs.size = some (seqObj "list" (bs1.map fun b => f b).toArray 0) := Heap.get?_push_size _ rfl
  refine wpAny_bind (wpAny_holding (wpAny_call_entry_kw slot_list_sort ⟨_, at1, rfl⟩ entry_list_sort ?body (args_list_sort _)))
  case body =>
    have old : ∀ b o, s.heap.get? b = some o → (sortingHeap (s1.heap.push (seqObj "list" (bs1.map fun b => f b).toArray 0)) s1.heap.objs.size (bs1.map fun b => f b)).get? b = some o := fun b o e =>
      sortingHeap_old (Nat.ne_of_lt (Heap.lt_size (up b o e))) (Heap.get?_push_of_some _ (up b o e))
    have er : EachIs (fun v b => ∃ as, Reads (sortingHeap (s1.heap.push (seqObj "list" (bs1.map fun b => f b).toArray 0)) s1.heap.objs.size (bs1.map fun b => f b)) v (enc b) as) (bs1.map fun b => f b) bs1 := each_pick fun b hb => by
      obtain ⟨as, r⟩ := hr b (p1.mem_iff.mp hb)
      exact ⟨as, PyProof.Rows.Reads.keeps old r⟩
    have pe : (bs1.map enc).Perm (bs.map enc) := p1.map enc
    have hal1 : AllCmp (bs1.map enc) := ⟨fun d h => hal.1 d (pe.mem_iff.mp h), fun d h d' h' => hal.2 d (pe.mem_iff.mp h) d' (pe.mem_iff.mp h')⟩
    have hk1 : NoEmpty (bs1.map enc) := trivial
    have er2 := each_map (R := fun v d => ∃ as, Reads (sortingHeap (s1.heap.push (seqObj "list" (bs1.map fun b => f b).toArray 0)) s1.heap.objs.size (bs1.map fun b => f b)) v d as) enc er
    have So := sortsAt_cmp (prog := prog) (w := w) (A := A.in1.in1) (s := { s1 with heap := sortingHeap (s1.heap.push (seqObj "list" (bs1.map fun b => f b).toArray 0)) s1.heap.objs.size (bs1.map fun b => f b) }) er2 hal1 hk1 (fun d hd => by
      obtain ⟨b, hb, rfl⟩ := List.mem_map.mp hd
      have := hu b (p1.mem_iff.mp hb)
      simp only [Around.in1_units]
      omega)
    refine list_sort_vals (s := { s1 with heap := s1.heap.push (seqObj "list" (bs1.map fun b => f b).toArray 0) }) at1 So hL ⟨_, rfl, wpAny_pure ⟨_, rfl, ?_⟩⟩
    have eo := sortVals_each (R := fun v b => v = f b) (rev := false) (κ := dataKind _ (bs1.map enc)) (fun b => keyToks (enc b)) (each_pick (f := fun b => f b) (bs := bs1) fun b _ => rfl) (each_of_map enc ((each_mem er2).mono fun _ _ ⟨⟨_, r⟩, hd⟩ => cmpKind_some hal1 hd r))
    have ee := each_same eo
    obtain ⟨c, hc⟩ := sortedHeap_at (vs := bs1.map fun b => f b) (out := (sortVals (dataKind (sortingHeap (s1.heap.push (seqObj "list" (bs1.map fun b => f b).toArray 0)) s1.heap.objs.size (bs1.map fun b => f b)) (bs1.map enc)) false (bs1.map fun b => f b) (bs1.map fun b => f b)).toArray) at1
    refine fin _ s1.heap.objs.size c bs1 (fun b u e => ?_) g1 o1 hz1 p1 ?_
    · have hlt := Heap.lt_size (up b u e)
      show (sortedHeap _ _ _ _).get? b = some u
      rw [sortedHeap_old (Nat.ne_of_lt hlt) (by rw [size_push']; exact Nat.lt_succ_of_lt hlt)]
      exact Heap.get?_push_of_some _ (up b u e)
    · have e2 : ((bs1.mergeSort (dataLe false enc)).map fun b => f b) = sortVals (dataKind (sortingHeap (s1.heap.push (seqObj "list" (bs1.map fun b => f b).toArray 0)) s1.heap.objs.size (bs1.map fun b => f b)) (bs1.map enc)) false (bs1.map fun b => f b) (bs1.map fun b => f b) := ee.symm
      rw [e2]
      exact hc
theorem sorted_set_n {β : Type} {bs : List β} {k : β → Addr × NestedKey} {enc : β → PyData} {a : Addr} {o : Obj} {es : Array (Int × Value)} {ep : Nat} {t : SetTable} {Q : Value → Shared → Prop} (S : NSet w s.heap a (bs.map k) o es ep t) (hh : A.handled = none)
    (hr : ∀ b ∈ bs, ∃ as, Reads s.heap (.ref (k b).1) (enc b) as) (hal : AllCmp (bs.map enc)) (hk : NoEmpty (bs.map enc)) (hu : ∀ b, b ∈ bs → A.units + 2 + (enc b).depth < cLine)
    (fin : ∀ s' p c (bs1 : List β), (∀ b o, s.heap.get? b = some o → s'.heap.get? b = some o) → s'.gens = s.gens → s'.os = s.os → s.heap.objs.size ≤ p → bs1.Perm bs → s'.heap.get? p = some (seqObj "list" ((bs1.mergeSort (dataLe false enc)).map fun b => Value.ref (k b).1).toArray c) → Q (.ref p) s') :
    wpAny (model prog w) A (call (.builtin "sorted") [.ref a]) Q E s :=
  sorted_set_g (f := fun b => Value.ref (k b).1) S.ob S.ex S.dt S.fit S.tab.ris S.led (by rw [S.rows, rws, List.map_map, List.map_map] <;> rfl) (by have := S.few; rwa [List.length_map] at this) hh hr hal hk hu fin
end
end Z

namespace Z
open PySem PySem.W PySem.SeqAt PySem.Calls PyProof.Rows L2
/-! ### keys of values -/
mutual
/-- can be a key, d deep at most -/
def hkl : Nat → U → Bool
  | _, .non => true
  | _, .bl _ => true
  | _, .int _ => true
  | _, .str _ => true
  | d + 1, .tup us => hkls d us
  | _, _ => false
def hkls : Nat → List U → Bool
  | _, [] => true
  | d, u :: us => hkl d u && hkls d us
end
theorem hkls_mem {d : Nat} : ∀ {us : List U}, hkls d us = true ↔ ∀ u ∈ us, hkl d u = true
  | [] => by simp [hkls]
  | u :: us => by simp [hkls, hkls_mem (us := us)]
mutual
theorem key_deep : ∀ (d : Nat) (u : U), hkl d u = true → (keyU u).depth ≤ d
  | d, .non, _ => Nat.zero_le _
  | d, .bl _, _ => Nat.zero_le _
  | d, .int _, _ => Nat.zero_le _
  | d, .str _, _ => Nat.zero_le _
  | 0, .tup _, h => by simp [hkl] at h
  | d + 1, .tup us, h => by
    have := keys_deep d us (by simpa [hkl] using h)
    simp only [keyU, NestedKey.depth]
    omega
  | _, .lst _, h => by simp [hkl] at h
  | _, .frz _, h => by simp [hkl] at h
  | _, .hdl _, h => by simp [hkl] at h
  | _, .fn _, h => by simp [hkl] at h
  | _, .dct _ _, h => by simp [hkl] at h
  | _, .kdc _ _, h => by simp [hkl] at h
theorem keys_deep : ∀ (d : Nat) (us : List U), hkls d us = true → NestedKey.depthAll (keysU us) ≤ d
  | d, [], _ => Nat.zero_le _
  | d, u :: us, h => by
    simp only [hkls, Bool.and_eq_true] at h
    have h1 := key_deep d u h.1
    have h2 := keys_deep d us h.2
    simp only [keysU, NestedKey.depthAll]
    omega
end
section
variable [TB] {X : Cx} {pins : List (Addr × Obj)} {σ : L2.St} {H : Hp} {s : Shared} {m : MH}
mutual
theorem rep_nk (I : Inv X pins σ H s) : ∀ {u : U} {v : V} {x : Value} (d : Nat), Rep (gc X) m H u v → RelV v x → hkl d u = true → NestedIs s.heap (keyU u) x
  | _, _, _, d, .non, q, _ => by cases q; exact .none
  | _, _, _, d, .bl b, q, _ => by cases q; exact .bool rfl
  | _, _, _, d, .int i, q, _ => by obtain ⟨t, rfl⟩ := q; exact .int i t
  | _, _, _, d, .str x h z, q, _ => by obtain ⟨t, rfl⟩ := q; exact .text x t
  | _, _, _, 0, .tup h n r, q, k => by simp [hkl] at k
  | _, _, _, 0, .tupK h r, q, k => by simp [hkl] at k
  | _, _, _, d + 1, .tup h n r, q, k => by
    obtain ⟨its, rv, ⟨o, h1, h2, n, h3⟩, _⟩ := I.tuple (SqT.of h)
    cases q
    exact .tup h1 h2 h3 (reps_nk I d r rv (by simpa [hkl] using k))
  | _, _, _, d + 1, .tupK h r, q, k => by
    obtain ⟨its, rv, ⟨o, h1, h2, n, h3⟩, _⟩ := I.tuple (.inr h.1)
    cases q
    exact .tup h1 h2 h3 (reps_nk I d r rv (by simpa [hkl] using k))
  | _, _, _, _, .lst _ _ _, _, k => by simp [hkl] at k
  | _, _, _, _, .frz _ _ _, _, k => by simp [hkl] at k
  | _, _, _, _, .frzK _ _, _, k => by simp [hkl] at k
  | _, _, _, _, .hdl _, _, k => by simp [hkl] at k
  | _, _, _, _, .fn _, _, k => by simp [hkl] at k
  | _, _, _, _, .dct _ _ _ _, _, k => by simp [hkl] at k
  | _, _, _, _, .kdc _ _, _, k => by simp [hkl] at k
theorem reps_nk (I : Inv X pins σ H s) : ∀ {us : List U} {vs : List V} {xs : List Value} (d : Nat), Reps (gc X) m H us vs → Vals vs xs → hkls d us = true → NestedAll s.heap (keysU us) xs
  | _, _, _, d, .nil, .nil, _ => .nil
  | _, _, _, d, .cons r t, .cons q z, k => by
    simp only [hkls, Bool.and_eq_true] at k
    exact .cons (rep_nk I d r q k.1) (reps_nk I d t z k.2)
end
/-! ### entries -/
def adr : V → Addr
  | .ref a => a
  | _ => 0
abbrev ent (p : V × U) : Addr × NestedKey := (adr p.1, keyU p.2)
def isTupU : U → Bool
  | .tup _ => true
  | _ => false
/-- tuples that can be keys -/
def setOk (us : List U) : Bool := us.all isTupU && hkls 8 us
theorem rep_adr {u : U} {v : V} (r : Rep (gc X) m H u v) (h : isTupU u = true) : v = .ref (adr v) := by
  cases r <;> first | (simp [isTupU] at h; done) | rfl
theorem ents_ok (I : Inv X pins σ H s) : ∀ {us : List U} {vs : List V} {xs : List Value}, Reps (gc X) m H us vs → Vals vs xs → setOk us = true → (xs = (vs.zip us).map fun p => Value.ref (ent p).1) ∧ ∀ p ∈ vs.zip us, IsN s.heap (ent p).2 (ent p).1
  | _, _, _, .nil, .nil, _ => ⟨rfl, fun _ h => nomatch h⟩
  | u :: us, v :: vs, x :: xs, .cons r t, .cons q z, k => by
    simp only [setOk, List.all_cons, hkls, Bool.and_eq_true] at k
    obtain ⟨⟨k1, k2⟩, k3, k4⟩ := k
    obtain ⟨h1, h2⟩ := ents_ok I t z (by simp [setOk, k2, k4])
    have ev := rep_adr r k1
    have ex : x = .ref (adr v) := by rw [ev] at q; exact q
    refine ⟨by rw [List.zip_cons_cons, List.map_cons, ← h1, ex], fun p hp => ?_⟩
    rcases List.mem_cons.mp hp with rfl | hp
    · exact ⟨by rw [← ex]; exact rep_nk I 8 r q k3, key_deep 8 u k3⟩
    · exact h2 p hp
end
/-! ### the set as an object -/
def NS0 (w : World) (h : Heap) (a : Addr) (L : Ents) : Prop := ∃ o es ep t, h.get? a = some o ∧ o.ExactSet ∧ o.data = .set es ep t ∧ es.toList = rws w L ∧ TabOk t (hss w L) ∧ (L.map (·.2)).Nodup ∧ (w.params.followText "set-order" = true ∨ t.led = true) ∧ L.length * 5 < t.mask * 3 ∧ L.length < 64
def NSO (w : World) (a : Addr) (L : Ents) : HO := .ext fun h => NS0 w h a L
theorem NSet.s0 {w : World} {h : Heap} {a : Addr} {L : Ents} {o : Obj} {es : Array (Int × Value)} {ep : Nat} {t : SetTable} (S : NSet w h a L o es ep t) : NS0 w h a L := ⟨o, es, ep, t, S.ob, S.ex, S.dt, S.rows, S.tab, S.nd, S.led, S.room, S.few⟩
theorem NS0.full {w : World} {h : Heap} {a : Addr} {L : Ents} (S : NS0 w h a L) (k : ∀ p ∈ L, IsN h p.2 p.1) : ∃ o es ep t, NSet w h a L o es ep t := by
  obtain ⟨o, es, ep, t, h1, h2, h3, h4, h5, h6, h7, h8, h9⟩ := S
  exact ⟨o, es, ep, t, h1, h2, h3, h4, h5, h6, k, h7, h8, h9⟩
theorem nso_new {P : Program} {w : World} {H : Hp} {h : Heap} {a : Addr} {L : Ents} (S : NS0 w h a L) : ObjOk P w H h a (NSO w a L) := by
  refine ⟨S, ⟨_, S.choose_spec.choose_spec.choose_spec.choose_spec.1⟩, fun h1 h2 p k => ?_⟩
  obtain ⟨o, es, ep, t, q, r⟩ : NS0 w h1 a L := p
  exact ⟨o, es, ep, t, k o q, r⟩
section
variable {X : Cx}
/-- set(xs) -/
def rSetN [TB] (X : Cx) : List V → Hp → VK → Prop := fun xs H Q => ∃ (l : Addr) (vs : List V) (us : List U) (m : MH), xs = [.ref l] ∧ (SqL X.K H l vs ∨ SqT X.K H l vs) ∧ Reps (gc X) m H us vs ∧ setOk us = true ∧ FewE ((vs.zip us).map ent) ∧
  ∀ a L, H a = none → L.Perm (dedE ((vs.zip us).map ent)) → Q (.ref a) (upd H a (NSO X.w a L))
theorem cr_setN [TB] (hc : X.calm = true) (hu : X.A.units + 65 < cLine) : CallR X (.type "set") (rSetN X) := by
  intro pins s σ H xs us0 Q I r h
  obtain ⟨l, vs, us, m, rfl, hs, rr, ok, hl, q⟩ := h
  rw [Vals.ref1 r]
  have hn : H s.heap.objs.size = none := I.hok.fresh (Nat.le_refl _)
  have go : ∀ its : List Value, Vals vs its → (s.heap.IsList l its.toArray ∨ s.heap.IsTuple l its.toArray) → wpAny (model X.prog X.w) X.A (call (.type "set") [.ref l]) (EP X pins σ Q) X.xe s := fun its rv hi => by
    obtain ⟨e1, e2⟩ := ents_ok I rr rv ok
    refine call_set_n (P := X.prog) (w := X.w) (ks := (vs.zip us).map ent) (I.ok.hd hc) hi (by rw [List.map_map]; exact e1) (fun p hp => by
      obtain ⟨z, hz, rfl⟩ := List.mem_map.mp hp
      exact e2 z hz) hl (by omega) fun h' tk L o es ep t S pm up => ?_
    exact ⟨.ref _, upd H s.heap.objs.size (NSO X.w s.heap.objs.size L), I.laid (t' := tk) up (Nat.le_refl _) (nso_new S.s0), rfl, q _ L hn pm⟩
  rcases hs with hs | hs
  · obtain ⟨its, rv, pl, _⟩ := I.list hs
    exact go its rv (.inl pl.isList)
  · obtain ⟨its, rv, pl, _⟩ := I.tuple hs
    exact go its rv (.inr (by obtain ⟨o, h1, h2, n, h3⟩ := pl; exact ⟨o, h1, h2, n, h3⟩))
/-- sorted(set) -/
def rSortN [TB] (X : Cx) : List V → Hp → VK → Prop := fun xs H Q => ∃ (a : Addr) (L : Ents) (bs : List (V × U)) (m : MH), xs = [.ref a] ∧ H a = some (NSO X.w a L) ∧ L.Perm (bs.map ent) ∧ Reps (gc X) m H (bs.map (·.2)) (bs.map (·.1)) ∧ setOk (bs.map (·.2)) = true ∧ canSort (bs.map (·.2)) = true ∧
  ∀ bs1 : List (V × U), bs1.Perm bs → ∀ p, H p = none → Q (.ref p) (upd H p (.lst ((bs1.mergeSort (dataLe false fun p => encU p.2)).map (·.1))))
end
end Z

namespace Z
open PySem PySem.W PySem.SeqAt PySem.Calls PyProof.Rows L2
section
variable {X : Cx}
theorem reps_split {G : GC} {m : MH} {H : Hp} : ∀ {us : List U} {vs : List V}, Reps G m H us vs → (∀ p ∈ vs.zip us, Rep G m H p.2 p.1) ∧ us.length = vs.length
  | _, _, .nil => ⟨fun _ h => (nomatch h), rfl⟩
  | _, _, .cons r t => by
    obtain ⟨h1, h2⟩ := reps_split t
    refine ⟨fun p hp => ?_, by simp [h2]⟩
    rcases List.mem_cons.mp hp with rfl | hp
    · exact r
    · exact h1 p hp
theorem reps_join {G : GC} {m : MH} {H : Hp} : ∀ {bs : List (V × U)}, (∀ p ∈ bs, Rep G m H p.2 p.1) → Reps G m H (bs.map (·.2)) (bs.map (·.1))
  | [], _ => .nil
  | p :: bs, h => .cons (h p (.head _)) (reps_join fun q hq => h q (.tail _ hq))
theorem zip_self {α β : Type} : ∀ bs : List (α × β), (bs.map (·.1)).zip (bs.map (·.2)) = bs
  | [] => rfl
  | (a, b) :: bs => by rw [List.map_cons, List.map_cons, List.zip_cons_cons, zip_self bs]
theorem cr_sortN [TB] (hc : X.calm = true) (hu : X.A.units + 65 < cLine) : CallR X (.builtin "sorted") (rSortN X) := by
  intro pins s σ H xs us0 Q I r h
  obtain ⟨a, L, bs, m, rfl, ha, pm, rr, ok, cs, q⟩ := h
  rw [Vals.ref1 r]
  have S0 : NS0 X.w s.heap a L := (I.hok a _ ha).1
  obtain ⟨bs0, p0, rfl⟩ := perm_back pm bs rfl
  have hr0 : ∀ p ∈ bs, Rep (gc X) m H p.2 p.1 := fun p hp => by
    have := (reps_split rr).1
    rw [zip_self] at this
    exact this p hp
  unfold setOk at ok
  unfold canSort at cs
  simp only [Bool.and_eq_true] at ok cs
  obtain ⟨o1, o2⟩ := ok
  obtain ⟨⟨c1, c2⟩, c3⟩ := cs
  have ho : ∀ p ∈ bs, isTupU p.2 = true ∧ hkl 8 p.2 = true ∧ pl 60 p.2 = true := fun p hp => by
    have hm := List.mem_map_of_mem (f := fun p : V × U => p.2) hp
    exact ⟨List.all_eq_true.mp o1 _ hm, hkls_mem.mp o2 _ hm, pls_mem.mp c1 _ hm⟩
  have hrd : ∀ p ∈ bs, ∃ as, Reads s.heap (.ref (ent p).1) (encU p.2) as ∧ (encU p.2).canLay0 = true ∧ (encU p.2).depth ≤ 60 := fun p hp => by
    obtain ⟨t1, _, t3⟩ := ho p hp
    have rp := hr0 p hp
    obtain ⟨d, e, hd⟩ := pl_dat _ t3
    obtain ⟨k1, k2⟩ := rep_dp rp e
    have ee : encU p.2 = d := by unfold encU; rw [e]; rfl
    have rv : RelV p.1 (.ref (ent p).1) := by
      have ev := rep_adr rp t1
      show RelV p.1 (Value.ref (adr p.1))
      rw [ev]
      exact rfl
    obtain ⟨as, q1⟩ := Dp.reads I d _ _ k1 rv
    exact ⟨as, by rw [ee]; exact q1, by rw [ee]; exact k2, by rw [ee]; exact hd⟩
  obtain ⟨o, es, ep, t, S⟩ := S0.full fun p hp => by
    obtain ⟨z, hz, rfl⟩ := List.mem_map.mp hp
    have hz := p0.mem_iff.mp hz
    obtain ⟨t1, t2, _⟩ := ho z hz
    refine ⟨rep_nk I 8 (hr0 z hz) ?_ t2, key_deep 8 _ t2⟩
    have ev := rep_adr (hr0 z hz) t1
    show RelV z.1 (Value.ref (adr z.1))
    rw [ev]
    exact rfl
  have can := canAll_mem c2
  have lt : ∀ x ∈ bs, ∀ y ∈ bs, cmpD (encU x.2) (encU y.2) = true := by
    intro x hx y hy
    obtain ⟨da, ea, _⟩ := pl_dat _ (ho x hx).2.2
    obtain ⟨db, eb, _⟩ := pl_dat _ (ho y hy).2.2
    have ea' : encU x.2 = da := by unfold encU; rw [ea]; rfl
    have eb' : encU y.2 = db := by unfold encU; rw [eb]; rfl
    obtain ⟨_, _, l1, _⟩ := hrd x hx
    obtain ⟨_, _, l2, _⟩ := hrd y hy
    rw [ea'] at l1 ⊢
    rw [eb'] at l2 ⊢
    exact (lt_dat x.2 y.2 (ho x hx).2.2 (ho y hy).2.2 ea eb l1 l2 (can _ (List.mem_map_of_mem hx) _ (List.mem_map_of_mem hy))).1
  refine sorted_set_n (bs := bs0) (k := ent) (enc := fun p => encU p.2) S (I.ok.hd hc) (fun p hp => let ⟨as, q, _⟩ := hrd p (p0.mem_iff.mp hp); ⟨as, q⟩) ⟨fun d hd => ?_, fun d hd d' hd' => ?_⟩ trivial (fun p hp => ?_) fun s' p c bs1 up hg ho2 hp p1 hat => ?_
  · obtain ⟨p, hp, rfl⟩ := List.mem_map.mp hd
    obtain ⟨_, _, l1, _⟩ := hrd p (p0.mem_iff.mp hp)
    exact l1
  · obtain ⟨p, hp, rfl⟩ := List.mem_map.mp hd
    obtain ⟨p', hp', rfl⟩ := List.mem_map.mp hd'
    exact lt p (p0.mem_iff.mp hp) p' (p0.mem_iff.mp hp')
  · obtain ⟨_, _, _, l2⟩ := hrd p (p0.mem_iff.mp hp)
    omega
  · have hn : H p = none := I.hok.fresh hp
    have hbl : bs1.length = bs.length := (p1.trans p0).length_eq
    have hf := S.few
    rw [List.length_map, p0.length_eq] at hf
    have hlen : ((bs1.mergeSort (dataLe false fun p => encU p.2)).map (·.1)).length ≤ sizeLine := by
      rw [List.length_map, List.length_mergeSort, hbl, sizeLine_eq]; omega
    have hv : ∀ l : List (V × U), (∀ p ∈ l, p ∈ bs) → Vals (l.map (·.1)) (l.map fun b => Value.ref (ent b).1) := by
      intro l
      induction l with
      | nil => exact fun _ => .nil
      | cons x l ih =>
        intro hl
        have hx := hl x (.head _)
        have ev := rep_adr (hr0 x hx) (ho x hx).1
        refine .cons ?_ (ih fun y hy => hl y (.tail _ hy))
        show RelV x.1 (Value.ref (adr x.1))
        rw [ev]
        exact rfl
    have hv := hv (bs1.mergeSort (dataLe false fun p => encU p.2)) fun p hp => p0.mem_iff.mp (p1.mem_iff.mp (List.mem_mergeSort.mp hp))
    have J : Inv X pins σ (upd H p (.lst ((bs1.mergeSort (dataLe false fun p => encU p.2)).map (·.1)))) { s with heap := s'.heap, gens := s'.gens, drawn := s'.drawn, toks := s'.toks } :=
      I.call (ch := []) (Un.laid up hp hn) (I.hok.laid up hp ⟨hlen, _, c, hv, hat⟩) (by rw [hg]; exact I.bare) (fun _ z => nomatch z)
    have e : s' = { s with heap := s'.heap, gens := s'.gens, drawn := s'.drawn, toks := s'.toks } := by
      cases s'; cases s; cases ho2; rfl
    rw [e]
    exact ⟨.ref p, _, J, rfl, q bs1 (p1.trans p0) p hn⟩
end
end Z

namespace Z
open PySem PySem.W PySem.SeqAt PySem.Calls PyProof.Rows L2
/-! ### sorted(set(xs)), of values -/
def addU (acc : List U) (u : U) : List U := if keyU u ∈ acc.map keyU then acc else u :: acc
def dedU (us : List U) : List U := us.foldl addU []
def strictU : List U → Bool
  | [] => true
  | x :: xs => xs.all (fun y => ltU x y) && strictU xs
theorem addU_mem {acc : List U} {u x : U} (h : x ∈ addU acc u) : x = u ∨ x ∈ acc := by
  unfold addU at h
  split at h
  · exact .inr h
  · exact List.mem_cons.mp h
theorem foldU_mem {x : U} : ∀ (us acc : List U), x ∈ us.foldl addU acc → x ∈ us ∨ x ∈ acc
  | [], acc, h => .inr h
  | u :: us, acc, h => by
    rcases foldU_mem us _ h with h | h
    · exact .inl (.tail _ h)
    · rcases addU_mem h with rfl | h
      · exact .inl (.head _)
      · exact .inr h
theorem dedU_mem {x : U} {us : List U} (h : x ∈ dedU us) : x ∈ us := (foldU_mem us [] h).elim id (fun h => nomatch h)
def addP (acc : List (V × U)) (p : V × U) : List (V × U) := if keyU p.2 ∈ acc.map (fun q => keyU q.2) then acc else p :: acc
theorem foldP (zs : List (V × U)) : ∀ acc : List (V × U), (zs.map ent).foldl addE (acc.map ent) = (zs.foldl addP acc).map ent ∧ (zs.map (·.2)).foldl addU (acc.map (·.2)) = (zs.foldl addP acc).map (·.2) := by
  induction zs with
  | nil => exact fun acc => ⟨rfl, rfl⟩
  | cons p zs ih =>
    intro acc
    have e1 : addE (acc.map ent) (ent p) = (addP acc p).map ent := by
      unfold addE addP
      rw [List.map_map]
      have : (Prod.snd ∘ ent : V × U → NestedKey) = fun q => keyU q.2 := rfl
      rw [this]
      split <;> rfl
    have e2 : addU (acc.map (·.2)) p.2 = (addP acc p).map (·.2) := by
      unfold addU addP
      rw [List.map_map]
      have : (keyU ∘ fun q : V × U => q.2) = fun q => keyU q.2 := rfl
      rw [this]
      split <;> rfl
    simp only [List.map_cons, List.foldl_cons, e1, e2]
    exact ih (addP acc p)
theorem strict_pair : ∀ {us : List U}, strictU us = true → us.Pairwise fun a b => ltU a b = true
  | [], _ => .nil
  | x :: xs, h => by
    simp only [strictU, Bool.and_eq_true, List.all_eq_true] at h
    exact .cons h.1 (strict_pair h.2)
theorem pair_or {R : U → U → Prop} : ∀ {us : List U}, us.Pairwise R → ∀ a ∈ us, ∀ b ∈ us, a = b ∨ R a b ∨ R b a
  | [], _, a, h, _, _ => nomatch h
  | x :: xs, .cons h1 h2, a, ha, b, hb => by
    rcases List.mem_cons.mp ha with ea | ha1
    · rcases List.mem_cons.mp hb with eb | hb1
      · exact .inl (ea.trans eb.symm)
      · exact .inr (.inl (ea ▸ h1 b hb1))
    · rcases List.mem_cons.mp hb with eb | hb1
      · exact .inr (.inr (eb ▸ h1 a ha1))
      · exact pair_or h2 a ha1 b hb1
theorem sort_perm {us vs : List U} (hlt : ∀ a ∈ vs, ∀ b ∈ vs, dataLt (encU a) (encU b) = ltU a b) (p : us.Perm vs) (st : strictU (sortU vs) = true) : us.mergeSort leU = sortU vs := by
  have e := sort_eq vs hlt
  have pz : (us.mergeSort leU).Perm (sortU vs) := by
    rw [← e]
    exact (List.mergeSort_perm us leU).trans (p.trans (List.mergeSort_perm vs leU).symm)
  have so : ∀ l : List U, (l.mergeSort leU).Pairwise fun a b => leU a b = true := fun l => List.pairwise_mergeSort (fun a b c h1 h2 => leU_tot.trans a b c h1 h2) (fun a b => by
    have := leU_tot.total a b
    simpa using this) l
  have s1 := so us
  have s2 := so vs
  rw [e] at s2
  have mem : ∀ a, a ∈ sortU vs → a ∈ vs := fun a h => by
    rw [← e] at h
    exact List.mem_mergeSort.mp h
  refine pz.eq_of_pairwise (fun a b ha hb k l => ?_) s1 s2
  have ha' := pz.mem_iff.mp ha
  rcases pair_or (strict_pair st) a ha' b hb with h | h | h
  · exact h
  · unfold leU at l
    rw [hlt a (mem a ha') b (mem b hb), h] at l
    cases l
  · unfold leU at k
    rw [hlt b (mem b hb) a (mem a ha'), h] at k
    cases k
def sortSet (us : List U) : Option U := if (us.length < 64 ∨ (dedU us).length < 63) ∧ setOk us = true ∧ canSort us = true ∧ strictU (sortU (dedU us)) = true then some (.lst (sortU (dedU us))) else none
def oSortTup : Op1 := fun st u => match deref st u with
  | .lst us => sortSet us
  | .frz us => sortSet us
  | .tup us => sortSet us
  | _ => none
theorem sub_ok {us vs : List U} (h : ∀ x ∈ vs, x ∈ us) (h1 : setOk us = true) (h2 : canSort us = true) : setOk vs = true ∧ canSort vs = true := by
  unfold setOk canSort at *
  simp only [Bool.and_eq_true] at *
  obtain ⟨a1, a2⟩ := h1
  obtain ⟨⟨b1, b2⟩, b3⟩ := h2
  refine ⟨⟨List.all_eq_true.mpr fun x hx => List.all_eq_true.mp a1 x (h x hx), hkls_mem.mpr fun x hx => hkls_mem.mp a2 x (h x hx)⟩, ⟨pls_mem.mpr fun x hx => pls_mem.mp b1 x (h x hx), ?_⟩, ?_⟩
  · exact List.all_eq_true.mpr fun x hx => List.all_eq_true.mpr fun y hy => canAll_mem b2 x (h x hx) y (h y hy)
  · unfold noEmp at b3 ⊢
    exact List.all_eq_true.mpr fun x hx => List.all_eq_true.mp b3 x (h x hx)
section
variable {X : Cx}
theorem post_set [TB] {m : MH} {H : Hp} {st : Store} {Q : VK} {l : Addr} {vs : List V} {us : List U} (S : Sim (gc X) m H st) (hs : SqL X.K H l vs ∨ SqT X.K H l vs) (r : Reps (gc X) m H us vs) (P : PostO (gc X) m H st Q (sortSet us)) : rSetN X [.ref l] H fun v2 H2 => rSortN X [v2] H2 Q := by
  unfold sortSet at P
  split at P
  · rename_i h
    obtain ⟨h1, h2, h3, h4⟩ := h
    obtain ⟨f1, f2⟩ := foldP (vs.zip us) []
    have lz := (reps_split r).2
    have su : (vs.zip us).map (·.2) = us := List.map_snd_zip (by omega)
    rw [su] at f2
    have eU : dedU us = ((vs.zip us).foldl addP []).map (·.2) := f2
    have eE : dedE ((vs.zip us).map ent) = ((vs.zip us).foldl addP []).map ent := f1
    have h1 : FewE ((vs.zip us).map ent) := by
      refine fewE_of (h1.imp (fun h1 => ?_) fun h1 => ?_)
      · rw [List.length_map, List.length_zip]
        omega
      · rw [eE, List.length_map]
        rw [eU, List.length_map] at h1
        exact h1
    refine ⟨l, vs, us, m, rfl, hs, r, h2, h1, fun a L hn pm => ?_⟩
    rw [eE] at pm
    have hsub : ∀ p ∈ (vs.zip us).foldl addP [], p.2 ∈ us := fun p hp => dedU_mem (by rw [eU]; exact List.mem_map_of_mem hp)
    obtain ⟨g1, g2⟩ := sub_ok (vs := dedU us) (fun x hx => dedU_mem hx) h2 h3
    have hz : ∀ (zs acc : List (V × U)), (∀ q ∈ zs, Rep (gc X) m H q.2 q.1) → (∀ q ∈ acc, Rep (gc X) m H q.2 q.1) → ∀ q ∈ zs.foldl addP acc, Rep (gc X) m H q.2 q.1 := fun zs => by
      induction zs with
      | nil => exact fun acc _ h => h
      | cons p zs ih =>
        intro acc h1 h2
        refine ih _ (fun q hq => h1 q (.tail _ hq)) fun q hq => ?_
        unfold addP at hq
        split at hq
        · exact h2 q hq
        · rcases List.mem_cons.mp hq with rfl | hq
          · exact h1 q (.head _)
          · exact h2 q hq
    have rb : ∀ q ∈ (vs.zip us).foldl addP [], Rep (gc X) m H q.2 q.1 := hz _ _ (reps_split r).1 (fun _ h => nomatch h)
    have S2 : Sim (gc X) m (upd H a (NSO X.w a L)) st := S.new hn
    have rb2 : ∀ q ∈ (vs.zip us).foldl addP [], Rep (gc X) m (upd H a (NSO X.w a L)) q.2 q.1 := fun q hq => (rb q hq).mono S (le_new hn)
    refine ⟨a, L, (vs.zip us).foldl addP [], m, rfl, upd_same, pm, reps_join rb2, by rw [← eU]; exact g1, by rw [← eU]; exact g2, fun bs1 p1 p hp => ?_⟩
    have hlt : ∀ x ∈ dedU us, ∀ y ∈ dedU us, dataLt (encU x) (encU y) = ltU x y := by
      intro x hx y hy
      have g2' := g2
      unfold canSort at g2'
      simp only [Bool.and_eq_true] at g2'
      have px := pls_mem.mp g2'.1.1 x hx
      have py := pls_mem.mp g2'.1.1 y hy
      have can := canAll_mem g2'.1.2 x hx y hy
      obtain ⟨da, ea, _⟩ := pl_dat _ px
      obtain ⟨db, eb, _⟩ := pl_dat _ py
      have ea' : encU x = da := by unfold encU; rw [ea]; rfl
      have eb' : encU y = db := by unfold encU; rw [eb]; rfl
      rw [eU] at hx hy
      obtain ⟨zx, hzx, ex⟩ := List.mem_map.mp hx
      obtain ⟨zy, hzy, ey⟩ := List.mem_map.mp hy
      have k1 := (rep_dp (by have := rb zx hzx; rw [ex] at this; exact this) ea).2
      have k2 := (rep_dp (by have := rb zy hzy; rw [ey] at this; exact this) eb).2
      rw [ea', eb']
      exact (lt_dat x y px py ea eb k1 k2 can).2
    have em : (bs1.mergeSort (dataLe false fun p => encU p.2)).map (·.2) = sortU (dedU us) := by
      rw [← sort_perm hlt (us := bs1.map (·.2)) (by rw [eU]; exact p1.map _) h4]
      exact List.map_mergeSort (r := dataLe false fun p : V × U => encU p.2) (s := leU) (f := fun p : V × U => p.2) (l := bs1) fun a _ b _ => rfl
    have rr := reps_join (G := gc X) (m := m) (H := upd H a (NSO X.w a L)) (bs := bs1.mergeSort (dataLe false fun p => encU p.2)) fun q hq => rb2 q (p1.mem_iff.mp (List.mem_mergeSort.mp hq))
    rw [em] at rr
    exact P _ m _ ((le_new hn).trans (le_new hp)) (S2.new hp) (.lst upd_same (S2.off hp) (rr.mono S2 (le_new hp)))
  · exact P.elim
theorem ze_sorttup [TB] {x y : Str} {a : Expr} {fa : UEnv → Store → R U} {p p2 pos pos2 : Pos} (hc : X.calm = true) (hu : X.A.units + 65 < cLine) (hm : X.mg x = none) (hm2 : X.mg y = none) (ha : ZE X a fa) (hv : bootBuiltins x = some (.builtin "sorted") := by decide +kernel) (hv2 : bootBuiltins y = some (.type "set") := by decide +kernel)
    (hn : x ≠ "__name__" := by decide +kernel) (hn2 : y ≠ "__name__" := by decide +kernel) (hd : (x == ("__debug__" : Str)) = false := by decide +kernel) (hd2 : (y == ("__debug__" : Str)) = false := by decide +kernel) (hg : Gl X x := by rfl) (hg2 : Gl X y := by rfl)
    (h1 : starEach [.Call (.Name y p2) [a] [] pos2] X.env = (false, eval (.Call (.Name y p2) [a] [] pos2) X.env) :: starEach [] X.env := by rfl) (h2 : starEach [a] X.env = (false, eval a X.env) :: starEach [] X.env := by rfl) (h3 : (backTo pos (starEach [] X.env)).any (·.1) = false := by rfl) (h4 : (backTo pos2 (starEach [] X.env)).any (·.1) = false := by rfl) :
    ZE X (.Call (.Name x p) [.Call (.Name y p2) [a] [] pos2] [] pos) (dUn oSortTup fa) := fun W xg =>
  PE.imp (pe_callB (cr_sortN hc hu) hg hm hv (pa_cons (pe_callTy (cr_setN hc hu) hg2 hm2 hv2 (pa_cons (ha W xg) pa_nil h2) hn2 hd2 h2 h4) pa_nil h1) hn hd h1 h3) fun σ H Q ⟨ρ, st, m, S, E, P⟩ =>
    tz_seq (X := X) (k := fun _ u st1 => R.ofO st1 (oSortTup st1 u)) S E P fun u st1 v m1 H1 S1 E1 r1 l1 P1 => by
      have P1 := PostO.of P1
      show rSetN X [v] H1 fun v2 H2 => rSortN X [v2] H2 Q
      unfold oSortTup at P1
      split at P1
      · rename_i us e
        obtain ⟨l, vs, rfl, e1, rr⟩ := rep_seqL (K := X.K) S1 r1 (.inl e) rfl
        exact post_set S1 (.inl e1) rr P1
      · rename_i us e
        obtain ⟨l, vs, rfl, e1, rr⟩ := rep_seqL (K := X.K) S1 r1 (.inr (deref_frz e)) rfl
        exact post_set S1 (.inl e1) rr P1
      · rename_i us e
        rw [deref_tup e] at r1
        obtain ⟨l, vs, rfl, e1, rr⟩ := rep_tup (K := X.K) r1 rfl
        exact post_set S1 (.inr e1) rr P1
      · exact P1.elim
end
end Z

namespace Z
open PySem PySem.Spec PyProof.Rows L2
/-! ### dicts whose keys are tuples -/
theorem dto_new {P : Program} {w : World} {H : Hp} {h : Heap} {a : Addr} {L : KL} (D : DT0 w h a L) : ObjOk P w H h a (DTO w a L) := by
  refine ⟨D, ⟨_, D.choose_spec.choose_spec.choose_spec.choose_spec.1⟩, fun h1 h2 p k => ?_⟩
  obtain ⟨o, es, ep, xs, q, r⟩ : DT0 w h1 a L := p
  exact ⟨o, es, ep, xs, k o q, r⟩
def putL (L : KL) (k : NestedKey) (b : Addr) (v : V) : KL := if k ∈ L.map (·.1) then L.map (fun x => if x.1 = k then (x.1, x.2.1, v) else x) else L ++ [(k, b, v)]
theorem rl_key : ∀ {L : KL} {xs : List (NestedKey × Addr × Value)}, Paired RL L xs → xs.map (·.1) = L.map (·.1)
  | _, _, .nil => rfl
  | _, _, .cons r t => by rw [List.map_cons, List.map_cons, rl_key t, r.1]
theorem rl_len : ∀ {L : KL} {xs : List (NestedKey × Addr × Value)}, Paired RL L xs → xs.length = L.length
  | _, _, .nil => rfl
  | _, _, .cons r t => by simp [rl_len t]
theorem rl_back : ∀ {L : KL} {xs : List (NestedKey × Addr × Value)}, Paired RL L xs → ∀ x ∈ xs, ∃ p ∈ L, RL p x
  | _, _, .nil, _, h => nomatch h
  | _, _, .cons r t, x, h => by
    rcases List.mem_cons.mp h with rfl | h
    · exact ⟨_, .head _, r⟩
    · obtain ⟨p, hp, e⟩ := rl_back t x h
      exact ⟨p, .tail _ hp, e⟩
theorem rl_app : ∀ {L : KL} {xs : List (NestedKey × Addr × Value)} {p : NestedKey × Addr × V} {x : NestedKey × Addr × Value}, Paired RL L xs → RL p x → Paired RL (L ++ [p]) (xs ++ [x])
  | _, _, _, _, .nil, r => .cons r .nil
  | _, _, _, _, .cons r t, q => .cons r (rl_app t q)
theorem rl_put {k : NestedKey} {v : V} {u : Value} (rv : RelV v u) : ∀ {L : KL} {xs : List (NestedKey × Addr × Value)}, Paired RL L xs → Paired RL (L.map fun x => if x.1 = k then (x.1, x.2.1, v) else x) (xs.map (putAt k u))
  | _, _, .nil => .nil
  | _, _, @Paired.cons _ _ _ p x L xs r t => by
    refine .cons ?_ (rl_put rv t)
    have e : p.1 = x.1 := r.1
    by_cases h : x.1 = k
    · have h' : p.1 = k := e.trans h
      simp only [putAt, if_pos h, if_pos h']
      exact ⟨e, r.2.1, rv⟩
    · have h' : ¬ p.1 = k := fun z => h (e.symm.trans z)
      simp only [putAt, if_neg h, if_neg h']
      exact r
theorem at_some {xs : List (NestedKey × Addr × Value)} {k : NestedKey} : (atKey xs k).isSome = true ↔ k ∈ xs.map (·.1) := by
  unfold atKey
  rw [Option.isSome_map, List.find?_isSome]
  constructor
  · rintro ⟨x, hx, e⟩
    exact List.mem_map.mpr ⟨x, hx, by simpa using e⟩
  · intro h
    obtain ⟨x, hx, e⟩ := List.mem_map.mp h
    exact ⟨x, hx, by simpa using e⟩
section
variable {P : Program} {w : World} {h h' : Heap} {a : Addr} {L : KL}
theorem dt_full (D : DT0 w h a L) (hk : ∀ x ∈ L, NestedIs h x.1 (.ref x.2.1) ∧ x.1.depth ≤ 8) : ∃ xs, h.DictOfH (nestedKind P w) a xs ∧ Paired RL L xs ∧ (a == sysModules) = false := by
  obtain ⟨o, es, ep, xs, h1, h2, h3, h4, h5, h6⟩ := D
  refine ⟨xs, ⟨o, es, ep, h1, h2, h3, h4, fun x hx => ?_, h6.1⟩, h5, h6.2⟩
  obtain ⟨p, hp, e1, e2, _⟩ := rl_back h5 x hx
  have := hk p hp
  rw [e1, e2] at this
  exact this
theorem dt_put {xs : List (NestedKey × Addr × Value)} {k : NestedKey} {b : Addr} {u : Value} {v : V} (lo : (a == sysModules) = false) (hm : h'.DictOfH (nestedKind P w) a (storedH xs k b u)) (hp : Paired RL L xs) (rv : RelV v u) : DT0 w h' a (putL L k b v) := by
  obtain ⟨o, es, ep, h1, h2, h3, h4, h5, h6⟩ := hm
  refine ⟨o, es, ep, storedH xs k b u, h1, h2, h3, h4, ?_, h6, lo⟩
  unfold storedH putL
  have e := at_some (xs := xs) (k := k)
  rw [rl_key hp] at e
  by_cases hk : k ∈ L.map (·.1)
  · rw [if_pos hk, if_pos (e.mpr hk)]
    exact rl_put rv hp
  · rw [if_neg hk, if_neg fun z => hk (e.mp z)]
    exact rl_app hp ⟨rfl, rfl, rv⟩
end
section
variable {X : Cx}
theorem reps_mem [TB] {m : MH} {H : Hp} : ∀ {L : KL} {ks : List U}, Reps (gc X) m H ks (L.map fun x => .ref x.2.1) → L.map (·.1) = ks.map keyU → ∀ x ∈ L, ∃ u ∈ ks, x.1 = keyU u ∧ Rep (gc X) m H u (.ref x.2.1)
  | [], _, _, _, _, h => nomatch h
  | p :: L, u :: ks, .cons r t, e, x, h => by
    rw [List.map_cons, List.map_cons] at e
    injection e with e1 e2
    rcases List.mem_cons.mp h with rfl | h
    · exact ⟨u, .head _, e1, r⟩
    · obtain ⟨v, hv, a⟩ := reps_mem t e2 x h
      exact ⟨v, .tail _ hv, a⟩
/-- d[k] = v, k a tuple -/
def rSetK [TB] (X : Cx) : TSet := fun o i v H Q => ∃ (a b : Addr) (L : KL) (ks : List U) (ku : U) (m : MH), o = .ref a ∧ i = .ref b ∧ (H a = some (DTO X.w a L) ∨ (H a = some (.dK []) ∧ L = [])) ∧ L.map (·.1) = ks.map keyU ∧ Reps (gc X) m H ks (L.map fun x => .ref x.2.1) ∧ Rep (gc X) m H ku i ∧
  setOk (ku :: ks) = true ∧ L.length ≤ 1000000 ∧ Q (upd H a (DTO X.w a (putL L (keyU ku) b v)))
theorem set_key [TB] (hu : X.A.units + 65 < cLine) : PSet X (rSetK X) := by
  intro pins s σ H o i v ov iv u Q I ro ri rv h
  obtain ⟨a, b, L, ks, ku, m, rfl, rfl, ha, ek, rk, rku, ok, hl, q⟩ := h
  cases (show ov = Value.ref a from ro)
  cases (show iv = Value.ref b from ri)
  simp only [setOk, List.all_cons, hkls, Bool.and_eq_true] at ok
  obtain ⟨⟨o1, o2⟩, o3, o4⟩ := ok
  have D : DT0 X.w s.heap a L := by
    rcases ha with ha | ⟨ha, rfl⟩
    · exact (I.hok a _ ha).1
    · obtain ⟨_, lo, vs, kv, o, es, ep, h1, h2, h3, _, h5, _⟩ := I.hok a _ ha
      cases kv
      refine ⟨o, es, ep, [], h1, h2, h3, ?_, .nil, by simp, lo⟩
      cases hes : es.toList with
      | nil => rfl
      | cons e l =>
        rw [hes] at h5
        cases h5
  obtain ⟨xs, hm, hp, lo⟩ := dt_full (P := X.prog) D fun x hx => by
    obtain ⟨z, hz, e, r⟩ := reps_mem rk ek x hx
    have hz2 := hkls_mem.mp o4 z hz
    rw [e]
    exact ⟨rep_nk I 8 r rfl hz2, key_deep 8 z hz2⟩
  have hkey : (nestedKind X.prog X.w).is s.heap (keyU ku) b := ⟨rep_nk I 8 rku rfl o3, key_deep 8 ku o3⟩
  refine wpAny_setItem_heap (knd := nestedKind X.prog X.w) (k := keyU ku) (by show X.A.in1.units + 8 < cLine; simp only [Around.in1_units]; omega) hkey hm (fun h' hm' hs => ?_) (by rw [rl_len hp, sizeLine_eq]; omega)
  have mu : Mut (H a) := by
    rcases ha with ha | ⟨ha, _⟩ <;> rw [ha] <;> trivial
  have he : ∃ u, h'.get? a = some u := by
    obtain ⟨o, _, _, ho, _⟩ := hm'
    exact ⟨o, ho⟩
  exact ⟨_, I.write (e := a) mu (.inl rfl) (fun b' u' hb hu' => (hs.2 b' hb).trans hu') he (dto_new (dt_put lo hm' hp rv)), q⟩
end
end Z

namespace Z
open PySem PySem.Spec PyProof.Rows L2
/-! ### cells of dicts whose keys are tuples -/
def putK (i v : U) : List U → List U → List U
  | k :: ks, u :: us => (if keyU k = keyU i then v else u) :: putK i v ks us
  | _, _ => []
def keyT (ks : List U) (i : U) : List U := if keyU i ∈ ks.map keyU then ks else ks ++ [i]
def valT (ks us : List U) (i v : U) : List U := if keyU i ∈ ks.map keyU then putK i v ks us else us ++ [v]
def setAtT (st : Store) (o i v : U) : Option Store := match o with
  | .hdl n => match st[n]? with
    | some (.dtu ks us) => if setOk (i :: ks) = true ∧ ks.length ≤ 1000000 then some (st.set n (.dtu (keyT ks i) (valT ks us i v))) else none
    | some (.dct [] []) => if setOk [i] = true then some (st.set n (.dtu [i] [v])) else none
    | _ => none
  | _ => none
@[simp] def gSubT (fo fi : UEnv → Store → R U) : Asg := fun v ρ st => (fo ρ st).bind fun o st1 => (fi ρ st1).bind fun i st2 => match setAtT st2 o i v with
  | some st3 => .ok ρ st3
  | none => .stuck
def getK (i : U) : List U → List U → Option U
  | k :: ks, u :: us => if keyU k = keyU i then some u else getK i ks us
  | _, _ => none
def ixT (st : Store) (u i : U) : Option U := match u with
  | .hdl n => match st[n]? with
    | some (.dtu ks us) => if setOk (i :: ks) = true then getK i ks us else none
    | _ => none
  | _ => none
section
variable {G : GC} {m : MH} {H : Hp}
theorem put_vals {i v : U} {vv : V} (rv : Rep G m H v vv) : ∀ {L : KL} {ks us : List U}, L.map (·.1) = ks.map keyU → Reps G m H us (L.map (·.2.2)) → Reps G m H (putK i v ks us) ((L.map fun x => if x.1 = keyU i then (x.1, x.2.1, vv) else x).map (·.2.2))
  | [], ks, _, e, .nil => by
    cases ks with
    | nil => exact .nil
    | cons => simp at e
  | x :: L, [], _, e, _ => by simp at e
  | x :: L, k :: ks, u :: us, e, .cons r t => by
    simp only [List.map_cons, List.cons.injEq] at e
    obtain ⟨e1, e2⟩ := e
    have ih := put_vals (i := i) rv e2 t
    by_cases h : keyU k = keyU i
    · have h' : x.1 = keyU i := e1.trans h
      simp only [List.map_cons, putK, if_pos h, if_pos h']
      exact .cons rv ih
    · have h' : ¬ x.1 = keyU i := fun z => h (e1.symm.trans z)
      simp only [List.map_cons, putK, if_neg h, if_neg h']
      exact .cons r ih
theorem put_cell {L : KL} {ks us : List U} {i v : U} {b : Addr} {vv : V} (ek : L.map (·.1) = ks.map keyU) (rk : Reps G m H ks (L.map fun x => .ref x.2.1)) (ru : Reps G m H us (L.map (·.2.2))) (ri : Rep G m H i (.ref b)) (rv : Rep G m H v vv) :
    (putL L (keyU i) b vv).map (·.1) = (keyT ks i).map keyU ∧ Reps G m H (keyT ks i) ((putL L (keyU i) b vv).map fun x => .ref x.2.1) ∧ Reps G m H (valT ks us i v) ((putL L (keyU i) b vv).map (·.2.2)) := by
  unfold putL keyT valT
  by_cases h : keyU i ∈ ks.map keyU
  · have h' : keyU i ∈ L.map (·.1) := by rw [ek]; exact h
    rw [if_pos h, if_pos h, if_pos h']
    refine ⟨?_, ?_, put_vals rv ek ru⟩
    · rw [List.map_map, ← ek]
      exact List.map_congr_left fun x _ => by
        simp only [Function.comp_apply]
        split <;> rfl
    · have e : (L.map fun x => if x.1 = keyU i then (x.1, x.2.1, vv) else x).map (fun x => V.ref x.2.1) = L.map fun x => V.ref x.2.1 := by
        rw [List.map_map]
        exact List.map_congr_left fun x _ => by
          simp only [Function.comp_apply]
          split <;> rfl
      rw [e]
      exact rk
  · have h' : ¬ keyU i ∈ L.map (·.1) := by rw [ek]; exact h
    rw [if_neg h, if_neg h, if_neg h', List.map_append, List.map_append, List.map_append, List.map_append, ek]
    exact ⟨rfl, rk.append (.cons ri .nil), ru.append (.cons rv .nil)⟩
theorem get_tu {i w : U} : ∀ {L : KL} {xs : List (NestedKey × Addr × Value)} {ks us : List U}, Paired RL L xs → L.map (·.1) = ks.map keyU → Reps G m H us (L.map (·.2.2)) → getK i ks us = some w → ∃ q vv, atKey xs (keyU i) = some q ∧ RelV vv q.2 ∧ Rep G m H w vv
  | [], _, [], us, _, _, _, e => by cases us <;> simp [getK] at e
  | [], _, k :: ks, us, _, ek, _, _ => by simp at ek
  | x :: L, _, [], us, _, ek, _, _ => by simp at ek
  | x :: L, _, k :: ks, _, .cons (b := y) (l₂ := xs) q p, ek, .cons (u := u) r t, e => by
    simp only [List.map_cons, List.cons.injEq] at ek
    obtain ⟨e1, e2⟩ := ek
    have ey : x.1 = y.1 := q.1
    unfold getK at e
    by_cases h : keyU k = keyU i
    · rw [if_pos h] at e
      cases e
      refine ⟨(y.2.1, y.2.2), x.2.2, ?_, q.2.2, r⟩
      unfold atKey
      rw [List.find?_cons_of_pos (by simp [← ey, e1, h])]
      rfl
    · rw [if_neg h] at e
      obtain ⟨q', vv, h1, h2, h3⟩ := get_tu p e2 t e
      refine ⟨q', vv, ?_, h2, h3⟩
      unfold atKey at h1 ⊢
      rw [List.find?_cons_of_neg (by simp [← ey, e1, h])]
      exact h1
end
section
variable {X : Cx} {pos : Pos}
theorem setOk_cons {i : U} {ks : List U} (h : setOk (i :: ks) = true) : isTupU i = true ∧ hkl 8 i = true ∧ (∀ z ∈ ks, hkl 8 z = true) := by
  simp only [setOk, List.all_cons, hkls, Bool.and_eq_true] at h
  exact ⟨h.1.1, h.2.1, fun z hz => hkls_mem.mp h.2.2 z hz⟩
theorem zg_subT [TB] {o i : Expr} {fo fi : UEnv → Store → R U} (hu : X.A.units + 65 < cLine) (ho : ZE X o fo) (hi : ZE X i fi) (ha : ∀ v, assign (.Subscript o i pos) X.env v = (do
      let ov ← holding [v] (eval o X.env)
      let iv ← holding [v, ov] (eval i X.env)
      standAt pos
      holding [v, ov, iv] (setItem ov iv v)
      release [v, ov, iv] []) := by intro _; rfl) : ZG X (.Subscript o i pos) (gSubT fo fi) := fun W xg =>
  PG.imp (pg_sub (ho W xg) (hi W xg) (set_key hu) ha) fun v σ H Q ⟨ρ, st, m, u, S, E, r, P⟩ => by
    refine tz_seqA (k := fun ρ o st1 => (fi ρ st1).bind fun i st2 => match setAtT st2 o i u with
      | some st3 => .ok ρ st3
      | none => .stuck) S E P fun o1 st1 v1 m1 H1 S1 E1 r1 l1 P1 => ?_
    refine tz_seqA (k := fun ρ i st2 => match setAtT st2 o1 i u with
      | some st3 => .ok ρ st3
      | none => .stuck) S1 E1 P1 fun o2 st2 v2 m2 H2 S2 E2 r2 l2 P2 => ?_
    cases e : setAtT st2 o1 o2 u with
    | none => simp only [e] at P2; exact P2.elim
    | some st3 =>
      simp only [e] at P2
      have ru := (r.mono S l1).mono S1 l2
      unfold setAtT at e
      split at e
      · rename_i n
        have ro := r1.mono S1 l2
        split at e
        · rename_i ks us hx
          split at e
          · rename_i hc
            cases e
            cases ro with
            | @hdl n a hm =>
              obtain ⟨L, e3, ek, rk, rv⟩ := S2.cell n _ a hx hm
              have t1 := (setOk_cons hc.1).1
              have ev := rep_adr r2 t1
              have ll : L.length = ks.length := by
                have := congrArg List.length ek
                simpa using this
              have pc := put_cell ek rk rv (ev ▸ r2) ru
              refine ⟨a, adr v2, L, ks, o2, m2, rfl, ev, .inl e3, ek, rk, r2, hc.1, by rw [ll]; exact hc.2, ?_⟩
              exact P2 σ m2 _ (le_write S2 hm) (S2.write hm ⟨_, upd_same, pc.1, pc.2.1.mono S2 (le_write S2 hm), pc.2.2.mono S2 (le_write S2 hm)⟩) (E2.mono S2 (le_write S2 hm))
          · cases e
        · rename_i hx
          split at e
          · rename_i hc
            cases e
            cases ro with
            | @hdl n a hm =>
              obtain ⟨kvs, e3, rk, rv⟩ := S2.cell n _ a hx hm
              cases kvs with
              | cons => cases rk
              | nil =>
                have t1 := (setOk_cons hc).1
                have ev := rep_adr r2 t1
                have pc := put_cell (L := []) (ks := []) (us := []) (G := gc X) (m := m2) (H := H2) rfl .nil .nil (ev ▸ r2) ru
                refine ⟨a, adr v2, [], [], o2, m2, rfl, ev, .inr ⟨e3, rfl⟩, rfl, .nil, r2, hc, by simp, ?_⟩
                exact P2 σ m2 _ (le_write S2 hm) (S2.write hm ⟨_, upd_same, pc.1, pc.2.1.mono S2 (le_write S2 hm), pc.2.2.mono S2 (le_write S2 hm)⟩) (E2.mono S2 (le_write S2 hm))
          · cases e
        · cases e
      · cases e
theorem dtu_full [TB] {pins : List (Addr × Obj)} {σ : L2.St} {H : Hp} {s : Shared} {m : MH} {a : Addr} {L : KL} {ks : List U} (I : Inv X pins σ H s) (ha : H a = some (DTO X.w a L)) (ek : L.map (·.1) = ks.map keyU) (rk : Reps (gc X) m H ks (L.map fun x => .ref x.2.1)) (ok : ∀ z ∈ ks, hkl 8 z = true) :
    ∃ xs, s.heap.DictOfH (nestedKind X.prog X.w) a xs ∧ Paired RL L xs ∧ (a == sysModules) = false :=
  dt_full (P := X.prog) (I.hok a _ ha).1 fun x hx => by
    obtain ⟨z, hz, e, r⟩ := reps_mem rk ek x hx
    have hz2 := ok z hz
    rw [e]
    exact ⟨rep_nk I 8 r rfl hz2, key_deep 8 z hz2⟩
theorem ix_tu [TB] (hu : X.A.units + 65 < cLine) : IxR X (rZ (gc X) ixT) := by
  intro value slice pins s σ H x y v u Q I rx ry ⟨m, st, a, b, S, ra, rb, P⟩ hs
  unfold ixT at P
  split at P
  · rename_i n
    split at P
    · rename_i ks us hc
      split at P
      · rename_i ok
        cases e : getK b ks us with
        | none => rw [e] at P; exact P.elim
        | some w =>
          rw [e] at P
          cases ra with
          | @hdl n p hm =>
            obtain ⟨L, e1, ek, rk, ru⟩ := S.cell n _ p hc hm
            obtain ⟨t1, t2, t3⟩ := setOk_cons ok
            obtain ⟨xs, hx, hp, _⟩ := dtu_full I e1 ek rk t3
            obtain ⟨q, vv, g1, g2, g3⟩ := get_tu hp ek ru e
            have ev := rep_adr rb t1
            rw [ev] at ry rb
            cases (show v = Value.ref p from rx)
            cases (show u = Value.ref (adr y) from ry)
            have hkey : (nestedKind X.prog X.w).is s.heap (keyU b) (adr y) := ⟨rep_nk I 8 rb rfl t2, key_deep 8 b t2⟩
            exact tail_any hx.typeIs slot_dict_getitem.lookup (wpAny_getItem_heap (knd := nestedKind X.prog X.w) (k := keyU b) (by show X.A.in1.units + 8 < cLine; simp only [Around.in1_units]; omega) hkey hx g1 ⟨_, H, I.tok _, g2, P.here S g3⟩) hs
      · exact P.elim
    · exact P.elim
  · exact P.elim
theorem ze_ixT [TB] {a b : Expr} {fa fb : UEnv → Store → R U} (hu : X.A.units + 65 < cLine) (ha : ZE X a fa) (hb : ZE X b fb) (hs : PlainIx b := by exact fun _ _ => rfl) : ZE X (.Subscript a b pos) (dBin ixT fa fb) := fun W xg =>
  PE.imp (pe_ix (ix_tu hu) (ha W xg) (hb W xg) hs) fun σ H Q ⟨ρ, st, m, S, E, P⟩ =>
    tz_seq (X := X) (k := fun ρ a st1 => (fb ρ st1).bind fun b st2 => R.ofO st2 (ixT st2 a b)) S E P fun u st1 v m1 H1 S1 E1 r1 l1 P1 => tz_seq (X := X) (k := fun ρ b st2 => R.ofO st2 (ixT st2 u b)) S1 E1 P1 fun u2 st2 v2 m2 H2 S2 E2 r2 l2 P2 => ⟨m2, st2, u, u2, S2, r1.mono S1 l2, r2, .of P2⟩
end
end Z

namespace Z
open PySem PySem.W PySem.SeqAt PySem.Calls PyProof.Rows L2
/-! ### sorted(d), d a dict whose keys are tuples -/
section
variable {prog : Program} {w : World} {A : Around} {E : Value → Shared → Prop} {s : Shared}
theorem items_of {es : Array DictEntry} {acc : Array Value} (h : ItemsOf (fun i v => ∃ hi : i < es.size, v = es[i].key) acc es.size) : acc.toList = es.toList.map (·.key) := by
  refine List.ext_getElem? fun i => ?_
  rw [List.getElem?_map, Array.getElem?_toList, Array.getElem?_toList]
  by_cases hi : i < es.size
  · have hi' : i < acc.size := by rw [h.1]; exact hi
    rw [Array.getElem?_eq_getElem hi', Array.getElem?_eq_getElem hi]
    obtain ⟨hi2, e⟩ := h.2 i acc[i] (Array.getElem?_eq_getElem hi')
    rw [e]
    rfl
  · rw [Array.getElem?_eq_none (by rw [h.1]; omega), Array.getElem?_eq_none (by omega)]
    rfl
theorem sorted_dict_g {β : Type} {bs : List β} {f : β → Value} {enc : β → PyData} {a : Addr} {es : Array DictEntry} {ep : Nat} {Q : Value → Shared → Prop} (lo : (a == sysModules) = false) (hm : s.heap.DictRaw a es ep) (ev : es.toList.map (·.key) = bs.map f) (hf : bs.length ≤ 1000000) (hh : A.handled = none)
    (hr : ∀ b ∈ bs, ∃ as, Reads s.heap (f b) (enc b) as) (hal : AllCmp (bs.map enc)) (hk : NoEmpty (bs.map enc)) (hu : ∀ b, b ∈ bs → A.units + 2 + (enc b).depth < cLine)
    (fin : ∀ h' tk p c, (∀ b o, s.heap.get? b = some o → h'.get? b = some o) → s.heap.get? p = none → h'.get? p = some (seqObj "list" ((bs.mergeSort (dataLe false enc)).map fun b => f b).toArray c) → Q (.ref p) { s with heap := h', toks := tk }) :
    wpAny (model prog w) A (call (.builtin "sorted") [.ref a]) Q E s := by
  have hz : es.size = bs.length := by
    have := congrArg List.length ev
    rwa [List.length_map, Array.length_toList, List.length_map] at this
  have hsl : sizeLine = 16777216 := sizeLine_eq
  refine call_function_entry_kw kind_sorted plain_sorted entry_sorted (args_sorted1 _) ?_
  unfold Builtin.«sorted»
  refine wpAny_bind (m := checkCount "sorted" 1 1 _) (wpAny_pure (wpAny_bind (kdu_collect (A := A.in1) (n := es.size) (KdlSrc.rawDict lo) hh hm (by omega) fun h1 tk acc up hacc => ?_)))
  have ea : acc.toList = bs.map f := (items_of hacc).trans ev
  rw [ea]
  have hL : (bs.map fun b => f b).length ≤ sizeLine := by rw [List.length_map]; omega
  refine wpAny_bind (wpAny_newList ?_ hL)
  have at1 : (h1.push (seqObj "list" (bs.map fun b => f b).toArray 0)).get? h1.objs.size = some (seqObj "list" (bs.map fun b => f b).toArray 0) := Heap.get?_push_size _ rfl
  refine wpAny_bind (wpAny_holding (wpAny_call_entry_kw slot_list_sort ⟨_, at1, rfl⟩ entry_list_sort ?body (args_list_sort _)))
  case body =>
    have old : ∀ b o, s.heap.get? b = some o → (sortingHeap (h1.push (seqObj "list" (bs.map fun b => f b).toArray 0)) h1.objs.size (bs.map fun b => f b)).get? b = some o := fun b o e =>
      sortingHeap_old (Nat.ne_of_lt (Heap.lt_size (up b o e))) (Heap.get?_push_of_some _ (up b o e))
    have er : EachIs (fun v b => ∃ as, Reads (sortingHeap (h1.push (seqObj "list" (bs.map fun b => f b).toArray 0)) h1.objs.size (bs.map fun b => f b)) v (enc b) as) (bs.map fun b => f b) bs := each_pick fun b hb => by
      obtain ⟨as, r⟩ := hr b hb
      exact ⟨as, PyProof.Rows.Reads.keeps old r⟩
    have er2 := each_map (R := fun v d => ∃ as, Reads (sortingHeap (h1.push (seqObj "list" (bs.map fun b => f b).toArray 0)) h1.objs.size (bs.map fun b => f b)) v d as) enc er
    have So := sortsAt_cmp (prog := prog) (w := w) (A := A.in1.in1) (s := { s with heap := sortingHeap (h1.push (seqObj "list" (bs.map fun b => f b).toArray 0)) h1.objs.size (bs.map fun b => f b), toks := tk }) er2 hal hk (fun d hd => by
      obtain ⟨b, hb, rfl⟩ := List.mem_map.mp hd
      have := hu b hb
      simp only [Around.in1_units]
      omega)
    refine list_sort_vals (s := { s with heap := h1.push (seqObj "list" (bs.map fun b => f b).toArray 0), toks := tk }) at1 So hL ⟨_, rfl, wpAny_pure ⟨_, rfl, ?_⟩⟩
    have eo := sortVals_each (R := fun v b => v = f b) (rev := false) (κ := dataKind _ (bs.map enc)) (fun b => keyToks (enc b)) (each_pick (f := fun b => f b) (bs := bs) fun b _ => rfl) (each_of_map enc ((each_mem er2).mono fun _ _ ⟨⟨_, r⟩, hd⟩ => cmpKind_some hal hd r))
    have ee := each_same eo
    obtain ⟨c, hc⟩ := sortedHeap_at (vs := bs.map fun b => f b) (out := (sortVals (dataKind (sortingHeap (h1.push (seqObj "list" (bs.map fun b => f b).toArray 0)) h1.objs.size (bs.map fun b => f b)) (bs.map enc)) false (bs.map fun b => f b) (bs.map fun b => f b)).toArray) at1
    refine fin _ _ h1.objs.size c (fun b u e => ?_) ?_ ?_
    · have hlt := Heap.lt_size (up b u e)
      show (sortedHeap _ _ _ _).get? b = some u
      rw [sortedHeap_old (Nat.ne_of_lt hlt) (by rw [size_push']; exact Nat.lt_succ_of_lt hlt)]
      exact Heap.get?_push_of_some _ (up b u e)
    · cases e : s.heap.get? h1.objs.size with
      | none => rfl
      | some u => exact absurd (Heap.lt_size (up _ u e)) (Nat.lt_irrefl _)
    · have e2 : ((bs.mergeSort (dataLe false enc)).map fun b => f b) = sortVals (dataKind (sortingHeap (h1.push (seqObj "list" (bs.map fun b => f b).toArray 0)) h1.objs.size (bs.map fun b => f b)) (bs.map enc)) false (bs.map fun b => f b) (bs.map fun b => f b) := ee.symm
      rw [e2]
      exact hc
end
end Z
namespace Z
open PySem PySem.W PySem.SeqAt PySem.Calls PyProof.Rows L2
theorem obj_there {P : Program} {w : World} {H : Hp} {h : Heap} {a : Addr} {o : HO} (x : ObjOk P w H h a o) : ∃ u, h.get? a = some u := by
  cases o with
  | lst xs => obtain ⟨_, _, _, _, e⟩ := x; exact ⟨_, e⟩
  | tup xs => obtain ⟨_, _, _, o, p, _⟩ := x; exact ⟨_, p⟩
  | dK kvs => obtain ⟨_, _, _, _, o, _, _, e, _⟩ := x; exact ⟨_, e⟩
  | dT kvs => obtain ⟨_, _, _, _, o, _, _, e, _⟩ := x; exact ⟨_, e⟩
  | set S n => obtain ⟨o, _, _, _, e, _⟩ := x; exact ⟨_, e⟩
  | ins C dx fs => obtain ⟨_, _, _, e, _⟩ := x; exact ⟨_, e⟩
  | own y => obtain ⟨_, e⟩ := x; exact ⟨_, e⟩
  | xd fs => obtain ⟨_, ⟨_, _, _, e, _⟩, _⟩ := x; exact ⟨_, e⟩
  | rng lo hi => obtain ⟨_, _, _, e⟩ := x; exact ⟨_, e⟩
  | frz ob u => obtain ⟨e, _⟩ := x; exact ⟨_, e⟩
  | tbl ps => exact ⟨_, show h.get? a = some _ from x⟩
  | met f y => exact ⟨_, show h.get? a = some _ from x⟩
  | ext φ => obtain ⟨_, ⟨_, e⟩, _⟩ := x; exact ⟨_, e⟩
theorem rl_refs : ∀ {L : KL} {xs : List (NestedKey × Addr × Value)}, Paired RL L xs → xs.map (fun x => Value.ref x.2.1) = L.map fun x => Value.ref x.2.1
  | _, _, .nil => rfl
  | _, _, .cons r t => by rw [List.map_cons, List.map_cons, rl_refs t, r.2.1]
section
variable {X : Cx}
def rSortD [TB] (X : Cx) : List V → Hp → VK → Prop := fun xs H Q => ∃ (a : Addr) (bs : List (V × U)) (m : MH), xs = [.ref a] ∧ ((∃ L : KL, H a = some (DTO X.w a L) ∧ bs.map (·.1) = L.map fun x => V.ref x.2.1) ∨ (H a = some (.dK []) ∧ bs = [])) ∧ Reps (gc X) m H (bs.map (·.2)) (bs.map (·.1)) ∧ setOk (bs.map (·.2)) = true ∧ canSort (bs.map (·.2)) = true ∧ bs.length ≤ 1000000 ∧
  ∀ p, H p = none → Q (.ref p) (upd H p (.lst ((bs.mergeSort (dataLe false fun p => encU p.2)).map (·.1))))
theorem cr_sortD [TB] (hc : X.calm = true) (hu : X.A.units + 65 < cLine) : CallR X (.builtin "sorted") (rSortD X) := by
  intro pins s σ H xs us0 Q I r h
  obtain ⟨a, bs, m, rfl, hcell, rr, ok, cs, hl, q⟩ := h
  rw [Vals.ref1 r]
  obtain ⟨es, ep, hraw, ev, lo⟩ : ∃ es ep, s.heap.DictRaw a es ep ∧ es.toList.map (·.key) = bs.map (fun p => Value.ref (adr p.1)) ∧ (a == sysModules) = false := by
    rcases hcell with ⟨L, ha, e2⟩ | ⟨ha, rfl⟩
    · obtain ⟨o, es, ep, xs, h1, h2, h3, h4, h5, h6, lo⟩ : DT0 X.w s.heap a L := (I.hok a _ ha).1
      refine ⟨es, ep, ⟨o, h1, h2, h3⟩, ?_, lo⟩
      have e3 : bs.map (fun p => Value.ref (adr p.1)) = (bs.map (·.1)).map fun v => Value.ref (adr v) := by rw [List.map_map]; rfl
      rw [h4, List.map_map, e3, e2, List.map_map]
      exact rl_refs h5
    · obtain ⟨_, lo, vs, kv, o, es, ep, h1, h2, h3, _, h5, _⟩ := I.hok a _ ha
      cases kv
      refine ⟨es, ep, ⟨o, h1, h2, h3⟩, ?_, lo⟩
      cases hes : es.toList with
      | nil => rfl
      | cons e l =>
        rw [hes] at h5
        cases h5
  have hr0 : ∀ p ∈ bs, Rep (gc X) m H p.2 p.1 := fun p hp => by
    have := (reps_split rr).1
    rw [zip_self] at this
    exact this p hp
  unfold setOk at ok
  unfold canSort at cs
  simp only [Bool.and_eq_true] at ok cs
  obtain ⟨o1, o2⟩ := ok
  obtain ⟨⟨c1, c2⟩, c3⟩ := cs
  have ho : ∀ p ∈ bs, isTupU p.2 = true ∧ hkl 8 p.2 = true ∧ pl 60 p.2 = true := fun p hp => by
    have hm := List.mem_map_of_mem (f := fun p : V × U => p.2) hp
    exact ⟨List.all_eq_true.mp o1 _ hm, hkls_mem.mp o2 _ hm, pls_mem.mp c1 _ hm⟩
  have hrv : ∀ p ∈ bs, RelV p.1 (.ref (adr p.1)) := fun p hp => by
    have ev := rep_adr (hr0 p hp) (ho p hp).1
    rw [ev]
    exact rfl
  have hrd : ∀ p ∈ bs, ∃ as, Reads s.heap (.ref (adr p.1)) (encU p.2) as ∧ (encU p.2).canLay0 = true ∧ (encU p.2).depth ≤ 60 := fun p hp => by
    obtain ⟨t1, _, t3⟩ := ho p hp
    have rp := hr0 p hp
    obtain ⟨d, e, hd⟩ := pl_dat _ t3
    obtain ⟨k1, k2⟩ := rep_dp rp e
    have ee : encU p.2 = d := by unfold encU; rw [e]; rfl
    obtain ⟨as, q1⟩ := Dp.reads I d _ _ k1 (hrv p hp)
    exact ⟨as, by rw [ee]; exact q1, by rw [ee]; exact k2, by rw [ee]; exact hd⟩
  have can := canAll_mem c2
  have lt : ∀ x ∈ bs, ∀ y ∈ bs, cmpD (encU x.2) (encU y.2) = true := by
    intro x hx y hy
    obtain ⟨da, ea, _⟩ := pl_dat _ (ho x hx).2.2
    obtain ⟨db, eb, _⟩ := pl_dat _ (ho y hy).2.2
    have ea' : encU x.2 = da := by unfold encU; rw [ea]; rfl
    have eb' : encU y.2 = db := by unfold encU; rw [eb]; rfl
    obtain ⟨_, _, l1, _⟩ := hrd x hx
    obtain ⟨_, _, l2, _⟩ := hrd y hy
    rw [ea'] at l1 ⊢
    rw [eb'] at l2 ⊢
    exact (lt_dat x.2 y.2 (ho x hx).2.2 (ho y hy).2.2 ea eb l1 l2 (can _ (List.mem_map_of_mem hx) _ (List.mem_map_of_mem hy))).1
  refine sorted_dict_g (bs := bs) (f := fun p => Value.ref (adr p.1)) (enc := fun p => encU p.2) lo hraw ev hl (I.ok.hd hc) (fun p hp => let ⟨as, q, _⟩ := hrd p hp; ⟨as, q⟩) ⟨fun d hd => ?_, fun d hd d' hd' => ?_⟩ trivial (fun p hp => ?_) fun h' tk p c up hp hat => ?_
  · obtain ⟨p, hp, rfl⟩ := List.mem_map.mp hd
    obtain ⟨_, _, l1, _⟩ := hrd p hp
    exact l1
  · obtain ⟨p, hp, rfl⟩ := List.mem_map.mp hd
    obtain ⟨p', hp', rfl⟩ := List.mem_map.mp hd'
    exact lt p hp p' hp'
  · obtain ⟨_, _, _, l2⟩ := hrd p hp
    omega
  · have hn : H p = none := by
      cases e : H p with
      | none => rfl
      | some o =>
        obtain ⟨u, hu⟩ := obj_there (I.hok p o e)
        rw [hp] at hu
        cases hu
    have hlen : ((bs.mergeSort (dataLe false fun p => encU p.2)).map (·.1)).length ≤ sizeLine := by
      rw [List.length_map, List.length_mergeSort, sizeLine_eq]; omega
    have hv : ∀ l : List (V × U), (∀ p ∈ l, p ∈ bs) → Vals (l.map (·.1)) (l.map fun b => Value.ref (adr b.1)) := by
      intro l
      induction l with
      | nil => exact fun _ => .nil
      | cons x l ih =>
        intro hl
        exact .cons (hrv x (hl x (.head _))) (ih fun y hy => hl y (.tail _ hy))
    have hv := hv (bs.mergeSort (dataLe false fun p => encU p.2)) fun p hp => List.mem_mergeSort.mp hp
    exact ⟨.ref p, _, I.laidN (o := .lst ((bs.mergeSort (dataLe false fun p => encU p.2)).map (·.1))) up hp hn ⟨hlen, _, c, hv, hat⟩, rfl, q p hn⟩
end
end Z

namespace Z
open PySem PySem.W PySem.SeqAt PySem.Calls PyProof.Rows L2
def sortK (ks : List U) : Option U := if setOk ks = true ∧ canSort ks = true ∧ ks.length ≤ 1000000 then some (.lst (sortU ks)) else none
def oSortK : Op1 := fun st u => match u with
  | .hdl n => match st[n]? with
    | some (.dtu ks _) => sortK ks
    | some (.dct [] []) => some (.lst [])
    | _ => none
  | _ => none
section
variable {X : Cx}
theorem ze_sortK [TB] {x : Str} {a : Expr} {fa : UEnv → Store → R U} {p pos : Pos} (hc : X.calm = true) (hu : X.A.units + 65 < cLine) (hm : X.mg x = none) (ha : ZE X a fa) (hv : bootBuiltins x = some (.builtin "sorted") := by decide +kernel)
    (hn : x ≠ "__name__" := by decide +kernel) (hd : (x == ("__debug__" : Str)) = false := by decide +kernel) (hg : Gl X x := by rfl)
    (h1 : starEach [a] X.env = (false, eval a X.env) :: starEach [] X.env := by rfl) (h3 : (backTo pos (starEach [] X.env)).any (·.1) = false := by rfl) :
    ZE X (.Call (.Name x p) [a] [] pos) (dUn oSortK fa) := fun W xg =>
  PE.imp (pe_callB (cr_sortD hc hu) hg hm hv (pa_cons (ha W xg) pa_nil h1) hn hd h1 h3) fun σ H Q ⟨ρ, st, m, S, E, P⟩ =>
    tz_seq (X := X) (k := fun _ u st1 => R.ofO st1 (oSortK st1 u)) S E P fun u st1 v m1 H1 S1 E1 r1 l1 P1 => by
      replace P1 := PostO.of P1
      show rSortD X [v] H1 Q
      unfold oSortK at P1
      split at P1
      · rename_i n
        cases r1 with
        | @hdl n p hm =>
          split at P1
          · rename_i ks us hx
            obtain ⟨L, e3, ek, rk, rv⟩ := S1.cell n _ p hx hm
            unfold sortK at P1
            split at P1
            · rename_i h
              obtain ⟨h1, h2, h3⟩ := h
              have lk := rk.length
              have b1 : ((L.map fun x => V.ref x.2.1).zip ks).map (·.1) = L.map fun x => V.ref x.2.1 := List.map_fst_zip (by omega)
              have b2 : ((L.map fun x => V.ref x.2.1).zip ks).map (·.2) = ks := List.map_snd_zip (by omega)
              have rb := (reps_split rk).1
              have bl : ((L.map fun x => V.ref x.2.1).zip ks).length ≤ 1000000 := by rw [List.length_zip]; omega
              generalize (L.map fun x => V.ref x.2.1).zip ks = bs at *
              refine ⟨p, bs, m1, rfl, .inl ⟨L, e3, b1⟩, by rw [b1, b2]; exact rk, by rw [b2]; exact h1, by rw [b2]; exact h2, bl, fun q hq => ?_⟩
              have hlt : ∀ x ∈ ks, ∀ y ∈ ks, dataLt (encU x) (encU y) = ltU x y := by
                intro x hx y hy
                have g2' := h2
                unfold canSort at g2'
                simp only [Bool.and_eq_true] at g2'
                have px := pls_mem.mp g2'.1.1 x hx
                have py := pls_mem.mp g2'.1.1 y hy
                have can := canAll_mem g2'.1.2 x hx y hy
                obtain ⟨da, ea, _⟩ := pl_dat _ px
                obtain ⟨db, eb, _⟩ := pl_dat _ py
                have ea' : encU x = da := by unfold encU; rw [ea]; rfl
                have eb' : encU y = db := by unfold encU; rw [eb]; rfl
                rw [← b2] at hx hy
                obtain ⟨zx, hzx, ex⟩ := List.mem_map.mp hx
                obtain ⟨zy, hzy, ey⟩ := List.mem_map.mp hy
                have k1 := (rep_dp (by have := rb zx hzx; rw [ex] at this; exact this) ea).2
                have k2 := (rep_dp (by have := rb zy hzy; rw [ey] at this; exact this) eb).2
                rw [ea', eb']
                exact (lt_dat x y px py ea eb k1 k2 can).2
              have em : (bs.mergeSort (dataLe false fun p => encU p.2)).map (·.2) = sortU ks := by
                rw [← sort_eq ks hlt, ← b2]
                exact List.map_mergeSort (r := dataLe false fun p : V × U => encU p.2) (s := leU) (f := fun p : V × U => p.2) (l := bs) fun a _ b _ => rfl
              have rr := reps_join (G := gc X) (m := m1) (H := H1) (bs := bs.mergeSort (dataLe false fun p => encU p.2)) fun q hq => rb q (List.mem_mergeSort.mp hq)
              rw [em] at rr
              exact P1 _ m1 _ (le_new hq) (S1.new hq) (.lst upd_same (S1.off hq) (rr.mono S1 (le_new hq)))
            · exact P1.elim
          · rename_i hx
            obtain ⟨kvs, e3, rk, rv⟩ := S1.cell n _ p hx hm
            cases kvs with
            | cons => cases rk
            | nil =>
              refine ⟨p, [], m1, rfl, .inr ⟨e3, rfl⟩, .nil, rfl, rfl, by simp, fun q hq => ?_⟩
              have e0 : (([] : List (V × U)).mergeSort (dataLe false fun p => encU p.2)).map (·.1) = [] := by rw [List.mergeSort_nil]; rfl
              rw [e0]
              exact P1 _ m1 _ (le_new hq) (S1.new hq) (.lst upd_same (S1.off hq) .nil)
          · exact P1.elim
      · exact P1.elim
end
end Z

namespace Z
open PySem PySem.Spec PyProof.Rows L2
/-! ### d.get(k, x), d a dict whose keys are tuples -/
theorem get_tu_none {i : U} {G : GC} {m : MH} {H : Hp} : ∀ {L : KL} {xs : List (NestedKey × Addr × Value)} {ks us : List U}, Paired RL L xs → L.map (·.1) = ks.map keyU → Reps G m H us (L.map (·.2.2)) → getK i ks us = none → atKey xs (keyU i) = none
  | [], _, _, _, .nil, _, _, _ => rfl
  | x :: L, _, [], us, _, ek, _, _ => by simp at ek
  | x :: L, _, k :: ks, _, .cons (b := y) (l₂ := xs) q p, ek, .cons (u := u) r t, e => by
    simp only [List.map_cons, List.cons.injEq] at ek
    obtain ⟨e1, e2⟩ := ek
    have ey : x.1 = y.1 := q.1
    unfold getK at e
    by_cases h : keyU k = keyU i
    · rw [if_pos h] at e
      cases e
    · rw [if_neg h] at e
      have ih := get_tu_none p e2 t e
      unfold atKey at ih ⊢
      rw [List.find?_cons_of_neg (by simp [← ey, e1, h])]
      exact ih
section
variable {X : Cx} {o e f : Expr} {apos pos : Pos} {td ty tx : TE} {fa fb fc : UEnv → Store → R U}
theorem dt_of {pins : List (Addr × Obj)} {σ : L2.St} {H : Hp} {s : Shared} {a : Addr} {L : KL} (I : Inv X pins σ H s) (h : H a = some (DTO X.w a L) ∨ (H a = some (.dK []) ∧ L = [])) : DT0 X.w s.heap a L := by
  rcases h with ha | ⟨ha, rfl⟩
  · exact (I.hok a _ ha).1
  · obtain ⟨_, lo, vs, kv, o, es, ep, h1, h2, h3, _, h5, _⟩ := I.hok a _ ha
    cases kv
    refine ⟨o, es, ep, [], h1, h2, h3, ?_, .nil, by simp, lo⟩
    cases hes : es.toList with
    | nil => rfl
    | cons e l =>
      rw [hes] at h5
      cases h5
def tDGetT [TB] (X : Cx) (td ty tx : TE) : TE := fun σ H Q => td σ H fun x H1 => ∃ (a : Addr) (L1 : KL), x = .ref a ∧ (H1 a = some (DTO X.w a L1) ∨ (H1 a = some (.dK []) ∧ L1 = [])) ∧ ty σ H1 fun y H2 => tx σ H2 fun z H3 => ∃ (b : Addr) (L : KL) (ks us : List U) (ku zu : U) (m : MH), y = .ref b ∧ (H3 a = some (DTO X.w a L) ∨ (H3 a = some (.dK []) ∧ L = [])) ∧
  L.map (·.1) = ks.map keyU ∧ Reps (gc X) m H3 ks (L.map fun x => .ref x.2.1) ∧ Reps (gc X) m H3 us (L.map (·.2.2)) ∧ Rep (gc X) m H3 ku y ∧ Rep (gc X) m H3 zu z ∧ setOk (ku :: ks) = true ∧ ∀ v, Rep (gc X) m H3 ((getK ku ks us).getD zu) v → Q v H3
theorem pe_dgetT [TB] (hu : X.A.units + 65 < cLine) (ho : PE X o td) (he : PE X e ty) (hf : PE X f tx) (m : M2 X o "get" apos e f pos) : PE X (.Call (.Attribute o "get" apos) [e, f] [] pos) (tDGetT X td ty tx) := by
  refine ⟨fun pins s σ H Q I h => ?_⟩
  refine wpAny_Call_method m.base m.few m.line PySem.F.plainAttrs_dict PySem.F.slot_dict_get PySem.F.type_dict_get (thn (ho.run pins s σ H _ I h) fun u s1 ⟨x, H1, I1, rx, a, L1, ex, d, q1⟩ => ?_)
  subst ex
  obtain rfl : u = Value.ref a := rx
  obtain ⟨o1, es1, ep1, xs1, g1, g2, g3, _⟩ := dt_of I1 d
  refine ⟨⟨o1, g1, g2.1⟩, fun b q => ?_, ?_⟩
  · cases q
    exact ⟨o1, g1, g2.2.1⟩
  rw [m.trees]
  refine Calls.callWith_builtin rfl (Calls.evalArgs_plain (Calls.spliced_cons (thn (he.run pins s1 σ H1 _ I1 q1) fun iv s2 ⟨y, H2, I2, ry, q2⟩ =>
    Calls.spliced_cons (thn (hf.run pins s2 σ H2 _ I2 q2) fun fv s3 ⟨z, H3, I3, rz, b, L, ks, us, ku, zu, mm, ey, hc, ek, rk, ru, rku, rzu, ok, q3⟩ => Calls.spliced_nil ?_))))
  subst ey
  obtain rfl : iv = Value.ref b := ry
  obtain ⟨t1, t2, t3⟩ := setOk_cons ok
  obtain ⟨xs, hm, hp, lo⟩ := dt_full (P := X.prog) (dt_of I3 hc) fun x hx => by
    obtain ⟨z, hz, e, r⟩ := reps_mem rk ek x hx
    have hz2 := t3 z hz
    rw [e]
    exact ⟨rep_nk I3 8 r rfl hz2, key_deep 8 z hz2⟩
  have hkey : (nestedKind X.prog X.w).is s3.heap (keyU ku) b := ⟨rep_nk I3 8 rku rfl t2, key_deep 8 ku t2⟩
  refine call_meetsIn PySem.F.slot_dict_get hm.typeIs PySem.F.entry_dict_get (PySem.F.args_dict_get_3 _ _ _) (meetsH_dict_get_default (nestedKind X.prog X.w) a b lo fv) ⟨by show X.A.in1.units + 8 < cLine; simp only [Around.in1_units]; omega, keyU ku, xs, hkey, hm, ?_⟩
  cases e1 : getK ku ks us with
  | none =>
    rw [get_tu_none hp ek ru e1]
    rw [e1] at q3
    exact ⟨_, H3, I3.tok _, rz, q3 _ rzu⟩
  | some w =>
    obtain ⟨q, vv, h1, h2, h3⟩ := get_tu hp ek ru e1
    rw [h1]
    rw [e1] at q3
    exact ⟨_, H3, I3.tok _, h2, q3 _ h3⟩
def isTk (st : Store) (d : U) : Bool := match d with
  | .hdl n => match st[n]? with
    | some (.dtu _ _) => true
    | some (.dct [] []) => true
    | _ => false
  | _ => false
def getT (st : Store) (d k x : U) : Option U := match d with
  | .hdl n => match st[n]? with
    | some (.dtu ks us) => if setOk (k :: ks) = true then some ((getK k ks us).getD x) else none
    | some (.dct [] []) => if setOk [k] = true then some x else none
    | _ => none
  | _ => none
@[simp] def dGetT (fa fb fc : UEnv → Store → R U) : UEnv → Store → R U := fun ρ st => (fa ρ st).bind fun d st1 => if isTk st1 d = true then (fb ρ st1).bind fun k st2 => (fc ρ st2).bind fun x st3 => R.ofO st3 (getT st3 d k x) else .stuck
theorem ze_getT [TB] (hu : X.A.units + 65 < cLine) (ho : ZE X o fa) (he : ZE X e fb) (hf : ZE X f fc) (m : M2 X o "get" apos e f pos := by exact ⟨rfl, rfl, rfl, rfl⟩) : ZE X (.Call (.Attribute o "get" apos) [e, f] [] pos) (dGetT fa fb fc) := fun W xg =>
  PE.imp (pe_dgetT hu (ho W xg) (he W xg) (hf W xg) m) fun σ H Q ⟨ρ, st, m, S, E, P⟩ =>
    tz_seq (X := X) (k := fun ρ d st1 => if isTk st1 d = true then (fb ρ st1).bind fun k st2 => (fc ρ st2).bind fun x st3 => R.ofO st3 (getT st3 d k x) else .stuck) S E P fun d st1 v m1 H1 S1 E1 r1 l1 P1 => by
      split at P1
      · rename_i hd
        have hd' := hd
        unfold isTk at hd'
        split at hd'
        · rename_i n
          cases r1 with
          | @hdl n a hm =>
            have hcell : ∃ L1 : KL, H1 a = some (DTO X.w a L1) ∨ (H1 a = some (.dK []) ∧ L1 = []) := by
              split at hd'
              · rename_i ks us hx
                obtain ⟨L, e3, _⟩ := S1.cell n _ a hx hm
                exact ⟨L, .inl e3⟩
              · rename_i hx
                obtain ⟨kvs, e3, rk, _⟩ := S1.cell n _ a hx hm
                cases kvs with
                | cons => cases rk
                | nil => exact ⟨[], .inr ⟨e3, rfl⟩⟩
              · cases hd'
            obtain ⟨L1, hL⟩ := hcell
            refine ⟨a, L1, rfl, hL, ?_⟩
            refine tz_seq (X := X) (k := fun ρ k st2 => (fc ρ st2).bind fun x st3 => R.ofO st3 (getT st3 (.hdl n) k x)) S1 E1 P1 fun k st2 v2 m2 H2 S2 E2 r2 l2 P2 => ?_
            refine tz_seq (X := X) (k := fun ρ x st3 => R.ofO st3 (getT st3 (.hdl n) k x)) S2 E2 P2 fun x st3 v3 m3 H3 S3 E3 r3 l3 P3 => ?_
            have hm3 := l3.sub _ _ (l2.sub _ _ hm)
            have rk := r2.mono S2 l3
            unfold getT at P3
            simp only at P3
            split at P3
            · rename_i ks us hx
              split at P3
              · rename_i ok
                obtain ⟨L, e3, ek, rks, rus⟩ := S3.cell n _ a hx hm3
                have t1 := (setOk_cons ok).1
                have ev := rep_adr rk t1
                exact ⟨adr v2, L, ks, us, k, x, m3, ev, .inl e3, ek, rks, rus, rk, r3, ok, fun v hv => post_ok P3 S3 hv⟩
              · exact P3.elim
            · rename_i hx
              split at P3
              · rename_i ok
                obtain ⟨kvs, e3, rks, _⟩ := S3.cell n _ a hx hm3
                cases kvs with
                | cons => cases rks
                | nil =>
                  have t1 := (setOk_cons ok).1
                  have ev := rep_adr rk t1
                  exact ⟨adr v2, [], [], [], k, x, m3, ev, .inr ⟨e3, rfl⟩, rfl, .nil, .nil, rk, r3, ok, fun v hv => post_ok P3 S3 hv⟩
              · exact P3.elim
            · exact P3.elim
        · cases hd'
      · exact P1.elim
end
end Z

namespace Z
open PySem PySem.Spec PyProof.Rows L2
/-! ### sets of texts -/
def txtOf (e : Int × Value) : Str := match e.2 with
  | .str x _ => x
  | _ => ""
def GoodT (w : World) (e : Int × Value) : Prop := ∃ x tk, e = (hashStr w x, Value.str x tk)
/-- the set at a has the texts of L, its table rises and can be walked -/
structure TSet (w : World) (h : Heap) (a : Addr) (L : List Str) (o : Obj) (es : Array (Int × Value)) (ep : Nat) (t : SetTable) : Prop where
  ob : h.get? a = some o
  ex : o.ExactSet
  dt : o.data = .set es ep t
  good : ∀ e ∈ es.toList, GoodT w e
  nd : (es.toList.map txtOf).Nodup
  mem : ∀ x, x ∈ es.toList.map txtOf ↔ x ∈ L
  few : es.size < scanBound
  fit : t.fits es.size = true
  ris : Ris t.place.toList
  led : w.params.followText "set-order" = true ∨ t.led = true
section
variable {P : Program} {w : World} {A : Around} {E : Value → Shared → Prop} {s : Shared} {a : Addr} {L : List Str} {o : Obj} {es : Array (Int × Value)} {ep : Nat} {t : SetTable}
theorem good_el {l : List (Int × Value)} (g : ∀ e ∈ l, GoodT w e) : ElemsOf (PySem.strKind P w) l := fun e he => by
  obtain ⟨x, tk, rfl⟩ := g e he
  refine ⟨⟨x, ?_, rfl⟩, rfl⟩
  show Value.isStrOf x (.str x tk) = true
  simp [Value.isStrOf]
theorem good_key {e : Int × Value} (g : GoodT w e) (x : Str) : (PySem.strKind P w).is x e.2 = true ↔ txtOf e = x := by
  obtain ⟨y, tk, rfl⟩ := g
  show Value.isStrOf x (.str y tk) = true ↔ y = x
  simp [Value.isStrOf]
theorem good_in {l : List (Int × Value)} (g : ∀ e ∈ l, GoodT w e) (x : Str) : x ∈ l.map txtOf ↔ ∃ e ∈ l, (PySem.strKind P w).is x e.2 = true := by
  rw [List.mem_map]
  exact ⟨fun ⟨e, he, q⟩ => ⟨e, he, (good_key (P := P) (g e he) x).mpr q⟩, fun ⟨e, he, q⟩ => ⟨e, he, (good_key (P := P) (g e he) x).mp q⟩⟩
theorem TSet.up {h h' : Heap} (S : TSet w h a L o es ep t) (k : ∀ o, h.get? a = some o → h'.get? a = some o) : TSet w h' a L o es ep t := ⟨k _ S.ob, S.ex, S.dt, S.good, S.nd, S.mem, S.few, S.fit, S.ris, S.led⟩
/-- what is laid down at the end of an add -/
theorem lay_t {g : Bool → Sem Unit} (hg : ∀ (b : Bool) (s₁ : Shared) (Q' : Unit → Shared → Prop), Q' () s₁ → wpAny (model P w) A (g b) Q' E s₁) (ho : s.heap.get? a = some o) (hex : o.ExactSet) (hd : o.data = .set es ep t) {es1 : Array (Int × Value)} {t2 : SetTable} {L' : List Str}
    (g1 : ∀ e ∈ es1.toList, GoodT w e) (nd1 : (es1.toList.map txtOf).Nodup) (m1 : ∀ x, x ∈ es1.toList.map txtOf ↔ x ∈ L') (b1 : es1.size < scanBound) (f1 : t2.fits es1.size = true) (r1 : Ris t2.place.toList) (l1 : w.params.followText "set-order" = true ∨ t2.led = true) {wasDummy : Bool} {R : Option Bool → Shared → Prop}
    (hR : ∀ h' o' es' ep' t', Heap.SameBut a s.heap h' → TSet w h' a L' o' es' ep' t' → es'.size = es1.size → R (some true) { s with heap := h' }) :
    wpAny (model P w) A (do
        storeSet a es1 t2
        if (!wasDummy && t2.tooFull) = true then do
            g (relayAll t2 es1 (SetTable.grown es1.size)).2.2
            storeSet a (relayAll t2 es1 (SetTable.grown es1.size)).1 (relayAll t2 es1 (SetTable.grown es1.size)).2.1
            pure (some true)
          else pure (some true)) R E s := by
  have at1 := store_at (es' := es1) (t' := t2) ho hd
  have sb := Heap.SameBut.update s.heap a (Obj.putSet es1 t2)
  refine wpAny_bind (wpAny_storeSet_of ho hd ?_ (fits_of_scanBound b1))
  split
  · obtain ⟨p3, f3, r3, l3⟩ := And.intro (relayAll_perm t2 es1 (SetTable.grown es1.size)) (And.intro (relayAll_fits t2 es1 (SetTable.grown es1.size)) (And.intro (relayAll_ris t2 es1 (SetTable.grown es1.size)) (relayAll_led t2 es1 (SetTable.grown es1.size))))
    generalize relayAll t2 es1 (SetTable.grown es1.size) = Z at p3 f3 r3 l3 ⊢
    obtain ⟨es2, t3, gave⟩ := Z
    dsimp only at p3 f3 r3 l3 ⊢
    have z : es2.size = es1.size := by
      have := p3.length_eq
      rwa [Array.length_toList, Array.length_toList] at this
    have b2 : es2.size < scanBound := by omega
    have at2 := store_at (es' := es2) (t' := t3) at1 rfl
    refine wpAny_bind (hg _ _ _ (wpAny_bind (wpAny_storeSet_of at1 rfl ?_ (fits_of_scanBound b2))))
    refine wpAny_pure (hR _ _ es2 _ t3 (sb.trans (Heap.SameBut.update _ a _)) ⟨at2, hex, rfl, fun e he => g1 e (p3.mem_iff.mp he), (p3.map txtOf).nodup_iff.mpr nd1, fun x => (p3.map txtOf).mem_iff.trans (m1 x), b2, f3, r3, ?_⟩ z)
    exact l1.imp id fun q => by rw [l3]; exact q
  · exact wpAny_pure (hR _ _ es1 _ t2 sb ⟨at1, hex, rfl, g1, nd1, m1, b1, f1, r1, l1⟩ rfl)
theorem add_t {x : Str} {tk : Tok} {Q : Bool → Shared → Prop} (S : TSet w s.heap a L o es ep t) (room : es.size + 1 < scanBound)
    (hQ : ∀ b h' o' es' ep' t', Heap.SameBut a s.heap h' → TSet w h' a (x :: L) o' es' ep' t' → es'.size ≤ es.size + 1 → Q b { s with heap := h' }) : wpAny (model P w) A (setAddHashed a (.str x tk) ((PySem.strKind P w).hash x)) Q E s := by
  have hkey : (PySem.strKind P w).is x (.str x tk) = true := by
    show Value.isStrOf x (.str x tk) = true
    simp [Value.isStrOf]
  have hsc : (Value.str x tk).scannable = true := rfl
  have hel : ElemsOf (PySem.strKind P w) es.toList := good_el S.good
  unfold setAddHashed setAddHashedIn
  refine wpAny_holding (wpAny_bind (wpAny_setState_of S.ob S.dt S.fit ?_))
  dsimp only
  rw [byScan_of hsc S.few hel]
  simp only [↓reduceIte]
  unfold setAddByScan
  refine wpAny_bind (wpAny_bind (wpAny_rule (wpAny_bind (wpAny_setScan_of hkey S.ob S.dt S.fit hel ?_))))
  cases hfi : List.findIdx? (fun e => (PySem.strKind P w).is x e.2) es.toList with
  | some j =>
    obtain ⟨hj, pj, _⟩ := List.findIdx?_eq_some_iff_getElem.mp hfi
    have hin : x ∈ L := (S.mem x).mp ((good_in (P := P) S.good x).mpr ⟨es.toList[j], List.getElem_mem hj, pj⟩)
    dsimp only
    refine wpAny_pure (wpAny_pure (hQ _ s.heap o es ep t (Heap.SameBut.refl a s.heap) ⟨S.ob, S.ex, S.dt, S.good, S.nd, fun y => ?_, S.few, S.fit, S.ris, S.led⟩ (Nat.le_succ _)))
    rw [S.mem y, List.mem_cons]
    exact ⟨.inr, fun h => h.elim (fun e => e ▸ hin) id⟩
  | none =>
    have out : x ∉ es.toList.map txtOf := fun z => by
      obtain ⟨e, he, q⟩ := (good_in (P := P) S.good x).mp z
      have := List.findIdx?_eq_none_iff.mp hfi e he
      rw [q] at this
      cases this
    dsimp only
    have gw : ∀ (b : Bool) {s₁ : Shared} {Q' : Unit → Shared → Prop}, Q' () s₁ → wpAny (model P w) A (match b with
        | true => rule "set.scan.the-table-gave-way"
        | false => pure ()) Q' E s₁ := by
      intro b s₁ Q' q
      cases b <;> first | exact wpAny_pure q | exact wpAny_rule q
    obtain ⟨pm, f1, r1, l1⟩ := And.intro (layNew_perm t es ((PySem.strKind P w).hash x) (.str x tk)) (And.intro (layNew_fits t es ((PySem.strKind P w).hash x) (.str x tk)) (And.intro (layNew_ris t es ((PySem.strKind P w).hash x) (.str x tk) S.ris) (layNew_led t es ((PySem.strKind P w).hash x) (.str x tk))))
    generalize layNew t es ((PySem.strKind P w).hash x) (.str x tk) = Z at pm f1 r1 l1 ⊢
    obtain ⟨es1, t1, wasDummy, gave⟩ := Z
    dsimp only at pm f1 r1 l1 ⊢
    rw [Array.toList_push] at pm
    have pc : es1.toList.Perm (((PySem.strKind P w).hash x, Value.str x tk) :: es.toList) := pm.trans (List.perm_append_singleton _ _)
    have pk : (es1.toList.map txtOf).Perm (x :: es.toList.map txtOf) := pc.map txtOf
    have g1 : ∀ e ∈ es1.toList, GoodT w e := fun e he => by
      rcases List.mem_cons.mp (pc.mem_iff.mp he) with z | z
      · exact ⟨x, tk, z⟩
      · exact S.good e z
    have nd1 := pk.nodup_iff.mpr (List.nodup_cons.mpr ⟨out, S.nd⟩)
    have m1 : ∀ y, y ∈ es1.toList.map txtOf ↔ y ∈ x :: L := fun y => by rw [pk.mem_iff, List.mem_cons, List.mem_cons, S.mem y]
    have sz : es1.size = es.size + 1 := by
      have := pc.length_eq
      rwa [Array.length_toList, List.length_cons, Array.length_toList] at this
    have b1 : es1.size < scanBound := by omega
    have led1 : w.params.followText "set-order" = true ∨ t1.led = true := S.led.imp id fun z => by rw [l1]; exact z
    refine wpAny_bind (gw _ ?_)
    split
    · refine wpAny_bind ?_
      rw [hashByValue_scannable 8 hsc]
      refine wpAny_pure (lay_t ?_ S.ob S.ex S.dt g1 nd1 m1 b1 ?_ ?_ ?_ ?_)
      · intro b s₁ Q' q; cases b <;> first | exact wpAny_pure q | exact wpAny_rule q
      · first | (split <;> first | exact f1 | exact SetTable.fits_plain_off f1) | exact f1
      · first | (split <;> exact r1) | exact r1
      · first | (split <;> exact led1) | exact led1
      · intro h' o' es' ep' t' sb S' z; dsimp only; exact wpAny_pure (hQ _ h' o' es' ep' t' sb S' (by omega))
    · refine wpAny_bind (wpAny_pure ?_)
      simp only [↓reduceIte]
      refine lay_t ?_ S.ob S.ex S.dt g1 nd1 m1 b1 f1 r1 led1 ?_
      · intro b s₁ Q' q; cases b <;> first | exact wpAny_pure q | exact wpAny_rule q
      · intro h' o' es' ep' t' sb S' z; dsimp only; exact wpAny_pure (hQ _ h' o' es' ep' t' sb S' (by omega))
end
end Z

namespace Z
open PySem PySem.Spec PyProof.Rows L2
section
variable {P : Program} {w : World} {A : Around} {E : Value → Shared → Prop} {s : Shared} {a : Addr} {L : List Str} {o : Obj} {es : Array (Int × Value)} {ep : Nat} {t : SetTable}
theorem TSet.same {h : Heap} {L' : List Str} (S : TSet w h a L o es ep t) (e : ∀ x, x ∈ L ↔ x ∈ L') : TSet w h a L' o es ep t := ⟨S.ob, S.ex, S.dt, S.good, S.nd, fun x => (S.mem x).trans (e x), S.few, S.fit, S.ris, S.led⟩
theorem tset_new {h : Heap} (ho : h.get? a = some (sObj0 w)) : TSet w h a [] (sObj0 w) #[] 0 (.fresh 0 0 (!w.params.followText "set-order")) where
  ob := ho
  ex := ⟨rfl, rfl, rfl⟩
  dt := rfl
  good := fun e he => by simp at he
  nd := by simp
  mem := fun x => by simp
  few := by decide
  fit := by rfl
  ris := List.Pairwise.nil
  led := by cases h : w.params.followText "set-order" <;> simp [SetTable.fresh]
/-- few unlike items -/
def FewL {α : Type} (ks : List α) : Prop := ∀ l : List α, l.Nodup → (∀ x ∈ l, x ∈ ks) → l.length < 64
theorem TSet.lt {h : Heap} {ks : List Str} (S : TSet w h a L o es ep t) (sub : ∀ x ∈ L, x ∈ ks) (hf : FewL ks) : es.size < 64 := by
  have := hf (es.toList.map txtOf) S.nd fun x hx => sub x ((S.mem x).mp hx)
  rwa [List.length_map, Array.length_toList] at this
/-- the loop of set.update over texts -/
theorem grow_t {I : Addr} {fp wr : List Addr} {G : Array GenState → Array GenState → Prop} {n : Nat} {Pv : Nat → Value → Prop} {St : Nat → Shared → Prop} {R : Result → Shared → Prop} (W : WalksS P w A.in1 I fp wr G n Pv St) (ha : a ∉ fp) (ks : List Str)
    (hn : n = ks.length) (hf : FewL ks) (hv : ∀ i v, Pv i v → ∃ x tk, ks[i]? = some x ∧ v = .str x tk) (h0 : Heap) (ha0 : h0.get? a = none) (hw0 : ∀ b ∈ wr, h0.get? b = none)
    (fin : ∀ s' o es ep t, Moved (a :: wr) G s s' → TSet w s'.heap a ks o es ep t → es.size < 64 → (∀ b o, h0.get? b = some o → s'.heap.get? b = some o) → R (.ok (.ret .none)) s') :
    ∀ (m i : Nat) (s1 : Shared), n - i = m → i ≤ n → St i s1 → Moved (a :: wr) G s s1 → (∀ b o, h0.get? b = some o → s1.heap.get? b = some o) → (∃ o es ep t, TSet w s1.heap a (ks.take i) o es ep t ∧ es.size < 64) →
      codeAny (model P w) A (.builtin "set.update.loop" ⟨[.ref a, .ref I], []⟩) R s1 := by
  have haw : a ∉ wr := fun h => ha (W.sub _ h)
  have wide : ∀ b ∈ wr, b ∈ a :: wr := fun b hb => .tail _ hb
  have keep : ∀ {s1 s2 : Shared}, Moved wr G s1 s2 → (∀ b o, h0.get? b = some o → s1.heap.get? b = some o) → ∀ b o, h0.get? b = some o → s2.heap.get? b = some o := fun mv k b o e =>
    mv.heap b o (fun hb => by have := hw0 b hb; rw [e] at this; cases this) (k b o e)
  intro m
  induction m with
  | zero =>
    intro i s1 hm hi hst mv kp ⟨o, es, ep, t, S, sz⟩
    obtain rfl : i = n := by omega
    refine codeAny_builtin F.entry_set_update_loop ?_
    rw [Around.under_plainId F.plain_set_update_loop _]
    refine wpAny_bind (m := pyNext _) (W.done s1 _ _ hst fun s2 mv2 => ?_)
    rw [hn, List.take_length] at S
    exact wpAny_pure (fin s2 o es ep t (mv.trans W.gtrans (mv2.mono wide)) (S.up fun o e => mv2.heap a o haw e) sz (keep mv2 kp))
  | succ m ih =>
    intro i s1 hm hi hst mv kp ⟨o, es, ep, t, S, sz⟩
    refine codeAny_builtin F.entry_set_update_loop ?_
    rw [Around.under_plainId F.plain_set_update_loop _]
    refine wpAny_bind (m := pyNext _) (W.item i s1 _ _ (by omega) hst fun v s2 hp2 hst2 mv2 => ?_)
    obtain ⟨x, tk, hx, rfl⟩ := hv i v hp2
    have kp2 := keep mv2 kp
    have S2 : TSet w s2.heap a (ks.take i) o es ep t := S.up fun o e => mv2.heap a o haw e
    have hil : i < ks.length := (List.getElem?_eq_some_iff.mp hx).1
    have on : ∀ (h' : Heap) (tk' : Nat), s2.toks ≤ tk' → Heap.SameBut a s2.heap h' → (∃ o' es' ep' t', TSet w h' a (ks.take (i + 1)) o' es' ep' t' ∧ es'.size < 64) → codeAny (model P w) A (.builtin "set.update.loop" ⟨[.ref a, .ref I], []⟩) R { s2 with heap := h', toks := tk' } := fun h' tk' htk sb hS => by
      have keepb : ∀ b, b ≠ a → ∀ o, s2.heap.get? b = some o → h'.get? b = some o := fun b hb o e => by rw [sb.2 b hb]; exact e
      exact ih (i + 1) _ (by omega) (by omega) (W.frame _ s2 h' tk' hst2 htk fun b hb o e => keepb b (fun z => ha (z ▸ hb)) o e) ((mv.trans W.gtrans (mv2.mono wide)).then_heap htk fun b o hb e => keepb b (fun z => hb (z ▸ List.mem_cons_self)) o e) (fun b o e => keepb b (fun z => by subst z; rw [ha0] at e; cases e) o (kp2 b o e)) hS
    show wpAny (model P w) A.in1 (holding [Value.str x tk] (setAdd a (.str x tk)) >>= _) _ _ s2
    unfold setAdd
    refine wpAny_bind (wpAny_holding (wpAny_holding (wpAny_bind ((PySem.strKind P w).pyHash (k := x) ?_ ?_))))
    · show Value.isStrOf x (.str x tk) = true
      simp [Value.isStrOf]
    refine add_t (s := { s2 with toks := s2.toks + 1 }) S2 (by unfold scanBound; omega) fun b h' o' es' ep' t' sb S' z => ?_
    have S'' : TSet w h' a (ks.take (i + 1)) o' es' ep' t' := S'.same fun y => by
      rw [List.take_add_one, hx]
      simp [List.mem_append, or_comm]
    exact wpAny_pure ⟨plainId_quiet F.plain_set_update_loop _, on h' _ (Nat.le_succ _) sb ⟨o', es', ep', t', S'', S''.lt (fun x hx => List.mem_of_mem_take hx) hf⟩⟩
theorem loop_t {l : Addr} {items : Array Value} {ks : List Str} (hk : ∀ (i : Nat) v, items[i]? = some v → ∃ x tk, ks[i]? = some x ∧ v = .str x tk) (hz : items.size = ks.length) (hf : FewL ks) : LoopG P w A s l items (fun h' => ∃ o es ep t, TSet w h' s.heap.objs.size ks o es ep t ∧ es.size < 64) := by
  intro A' St hA W hlt it tk hst R f
  have e1 : (s.heap.push (sObj0 w)).objs.size = s.heap.objs.size + 1 := Heap.size_push ..
  refine grow_t (s := { s with heap := (s.heap.push (sObj0 w)).push it, toks := tk }) W.toS ?_ ks hz hf hk s.heap (beyond (Nat.le_refl _)) (fun b hb => beyond (by rw [List.mem_singleton.mp hb]; exact Nat.le_succ _)) (fun s' o es ep t mv S z kp => ?_) items.size 0 _ (by omega) (Nat.zero_le _) hst (Moved.refl W.toS.grefl)
    (fun b o e => Heap.get?_push_of_some _ (Heap.get?_push_of_some _ e)) ⟨_, _, _, _, tset_new (Heap.get?_push_of_some _ (Heap.get?_push_size _ rfl)), by decide⟩
  · simp only [List.mem_cons, List.not_mem_nil, or_false, not_or]
    exact ⟨Nat.ne_of_lt (Nat.lt_succ_self _), Nat.ne_of_gt hlt⟩
  · obtain ⟨h', g', d', tk', os'⟩ := s'
    obtain rfl : g' = s.gens := mv.gens
    obtain rfl : d' = s.drawn := mv.drawn
    obtain rfl : os' = s.os := mv.os
    exact f h' tk' ⟨o, es, ep, t, S, z⟩ kp
theorem call_set_t {l : Addr} {items : Array Value} {ks : List Str} {Q : Value → Shared → Prop} (hh : A.handled = none) (hl : s.heap.IsList l items ∨ s.heap.IsTuple l items) (hu : A.units + 16 < cLine) (hk : ∀ (i : Nat) v, items[i]? = some v → ∃ x tk, ks[i]? = some x ∧ v = .str x tk) (hz : items.size = ks.length) (hf : FewL ks)
    (fin : ∀ h' tk o es ep t, TSet w h' s.heap.objs.size ks o es ep t → es.size < 64 → (∀ b o, s.heap.get? b = some o → h'.get? b = some o) → Q (.ref s.heap.objs.size) { s with heap := h', toks := tk }) : wpAny (model P w) A (call (.type "set") [.ref l]) Q E s :=
  call_set_g hh hl hu (loop_t hk hz hf) fun h' tk ⟨o, es, ep, t, S, z⟩ kp => fin h' tk o es ep t S z kp
end
end Z

namespace Z
open PySem PySem.Spec PyProof.Rows L2
/-! ### set(texts), sorted(set(texts)) -/
def TS0 (w : World) (h : Heap) (a : Addr) (L : List Str) : Prop := ∃ o es ep t, TSet w h a L o es ep t ∧ es.size < 64
def TSO (w : World) (a : Addr) (L : List Str) : HO := .ext fun h => TS0 w h a L
theorem tso_new {P : Program} {w : World} {H : Hp} {h : Heap} {a : Addr} {L : List Str} (S : TS0 w h a L) : ObjOk P w H h a (TSO w a L) := by
  refine ⟨S, ⟨_, S.choose_spec.choose_spec.choose_spec.choose_spec.1.ob⟩, fun h1 h2 p k => ?_⟩
  obtain ⟨o, es, ep, t, q, r⟩ : TS0 w h1 a L := p
  exact ⟨o, es, ep, t, q.up k, r⟩
theorem vals_txt : ∀ {xs : List Str} {its : List Value}, Vals (xs.map V.str) its → its.length = xs.length ∧ ∀ (i : Nat) v, its[i]? = some v → ∃ x tk, xs[i]? = some x ∧ v = .str x tk
  | [], _, .nil => ⟨rfl, fun i v h => by simp at h⟩
  | x :: xs, _, .cons q z => by
    obtain ⟨h1, h2⟩ := vals_txt z
    refine ⟨by simp [h1], fun i v h => ?_⟩
    cases i with
    | zero =>
      simp at h
      subst h
      obtain ⟨tk, e⟩ := q
      exact ⟨x, tk, rfl, e⟩
    | succ i => simpa using h2 i v (by simpa using h)
section
variable {X : Cx}
def rSetT (X : Cx) : List V → Hp → VK → Prop := fun xs H Q => ∃ (l : Addr) (ts : List Str), xs = [.ref l] ∧ (SqL X.K H l (ts.map V.str) ∨ SqT X.K H l (ts.map V.str)) ∧ FewL ts ∧ ∀ a, H a = none → Q (.ref a) (upd H a (TSO X.w a ts))
theorem cr_setT (hc : X.calm = true) (hu : X.A.units + 65 < cLine) : CallR X (.type "set") (rSetT X) := by
  intro pins s σ H xs us0 Q I r h
  obtain ⟨l, ts, rfl, hs, hl, q⟩ := h
  rw [Vals.ref1 r]
  have hn : H s.heap.objs.size = none := I.hok.fresh (Nat.le_refl _)
  have go : ∀ its : List Value, Vals (ts.map V.str) its → (s.heap.IsList l its.toArray ∨ s.heap.IsTuple l its.toArray) → wpAny (model X.prog X.w) X.A (call (.type "set") [.ref l]) (EP X pins σ Q) X.xe s := fun its rv hi => by
    obtain ⟨e1, e2⟩ := vals_txt rv
    refine call_set_t (P := X.prog) (w := X.w) (ks := ts) (I.ok.hd hc) hi (by omega) (fun i v hv => e2 i v (by simpa using hv)) (by simpa using e1) hl fun h' tk o es ep t S z up => ?_
    exact ⟨.ref _, upd H s.heap.objs.size (TSO X.w s.heap.objs.size ts), I.laid (t' := tk) up (Nat.le_refl _) (tso_new ⟨o, es, ep, t, S, z⟩), rfl, q _ hn⟩
  rcases hs with hs | hs
  · obtain ⟨its, rv, pl, _⟩ := I.list hs
    exact go its rv (.inl pl.isList)
  · obtain ⟨its, rv, pl, _⟩ := I.tuple hs
    exact go its rv (.inr (by obtain ⟨o, h1, h2, n, h3⟩ := pl; exact ⟨o, h1, h2, n, h3⟩))
def rSortT (X : Cx) : List V → Hp → VK → Prop := fun xs H Q => ∃ (a : Addr) (ts : List Str), xs = [.ref a] ∧ H a = some (TSO X.w a ts) ∧ (∀ x ∈ ts, PyData.strOk x = true) ∧
  ∀ zs ys : List Str, zs.Nodup → (∀ x, x ∈ zs ↔ x ∈ ts) → ys.map U.str = (zs.map U.str).mergeSort leU → ∀ p, H p = none → Q (.ref p) (upd H p (.lst (ys.map V.str)))
theorem cr_sortT (hc : X.calm = true) (hu : X.A.units + 65 < cLine) : CallR X (.builtin "sorted") (rSortT X) := by
  intro pins s σ H xs us0 Q I r h
  obtain ⟨a, ts, rfl, ha, hok, q⟩ := h
  rw [Vals.ref1 r]
  obtain ⟨o, es, ep, t, S, z⟩ : TS0 X.w s.heap a ts := (I.hok a _ ha).1
  have gd : ∀ e ∈ es.toList, ∃ tk, e.2 = Value.str (txtOf e) tk := fun e he => by
    obtain ⟨x, tk, rfl⟩ := S.good e he
    exact ⟨tk, rfl⟩
  have hb : ∃ bs : List (Str × Tok), es.toList.map (·.2) = bs.map (fun b => Value.str b.1 b.2) ∧ bs.map (·.1) = es.toList.map txtOf := by
    generalize es.toList = l at gd
    induction l with
    | nil => exact ⟨[], rfl, rfl⟩
    | cons e l ih =>
      obtain ⟨bs, h1, h2⟩ := ih fun e' he => gd e' (.tail _ he)
      obtain ⟨tk, h3⟩ := gd e (.head _)
      exact ⟨(txtOf e, tk) :: bs, by simp [h1, h3], by simp [h2]⟩
  obtain ⟨bs, ev, et⟩ := hb
  have hm : ∀ b ∈ bs, b.1 ∈ ts := fun b hbm => by
    refine (S.mem _).mp ?_
    rw [← et]
    exact List.mem_map_of_mem hbm
  have hlen : bs.length < 64 := by
    have := congrArg List.length ev
    rw [List.length_map, List.length_map, Array.length_toList] at this
    omega
  have hst : ∀ x : Str, (PyData.str x).canLay0 = PyData.strOk x := fun x => by simp [PyData.canLay0]
  refine sorted_set_g (bs := bs) (f := fun b => Value.str b.1 b.2) (enc := fun b => PyData.str b.1) S.ob S.ex S.dt S.fit S.ris S.led ev hlen (I.ok.hd hc) (fun b _ => ⟨[], Reads.str _ _⟩) ⟨fun d hd => ?_, fun d hd d' hd' => ?_⟩ trivial (fun b _ => ?_) fun s' p c bs1 up hg ho2 hp p1 hat => ?_
  · obtain ⟨b, hbm, rfl⟩ := List.mem_map.mp hd
    rw [hst]
    exact hok _ (hm b hbm)
  · obtain ⟨b, _, rfl⟩ := List.mem_map.mp hd
    obtain ⟨b', _, rfl⟩ := List.mem_map.mp hd'
    rfl
  · show X.A.units + 2 + (PyData.str b.1).depth < cLine
    have : (PyData.str b.1).depth = 0 := by simp [PyData.depth]
    omega
  · have hn : H p = none := I.hok.fresh hp
    have hbl : bs1.length = bs.length := p1.length_eq
    generalize hso : bs1.mergeSort (PySem.W.dataLe false fun b : Str × Tok => PyData.str b.1) = so at hat
    have hsl : so.length = bs.length := by rw [← hso, List.length_mergeSort, hbl]
    have hv : Vals ((so.map (·.1)).map V.str) (so.map fun b => Value.str b.1 b.2) := by
      clear hso hsl hat
      induction so with
      | nil => exact .nil
      | cons b so ih => exact .cons ⟨b.2, rfl⟩ ih
    have hlen2 : ((so.map (·.1)).map V.str).length ≤ sizeLine := by
      rw [List.length_map, List.length_map, hsl, sizeLine_eq]; omega
    have J : Inv X pins σ (upd H p (.lst ((so.map (·.1)).map V.str))) { s with heap := s'.heap, gens := s'.gens, drawn := s'.drawn, toks := s'.toks } :=
      I.call (ch := []) (Un.laid up hp hn) (I.hok.laid up hp ⟨hlen2, _, c, hv, hat⟩) (by rw [hg]; exact I.bare) (fun _ z => nomatch z)
    have e : s' = { s with heap := s'.heap, gens := s'.gens, drawn := s'.drawn, toks := s'.toks } := by
      cases s'; cases s; cases ho2; rfl
    rw [e]
    refine ⟨.ref p, _, J, rfl, q (bs1.map (·.1)) (so.map (·.1)) ?_ (fun x => ?_) ?_ p hn⟩
    · have := (p1.map (·.1)).nodup_iff.mpr (by rw [et]; exact S.nd)
      exact this
    · rw [(p1.map (·.1)).mem_iff, et, S.mem]
    · rw [← hso, List.map_map, List.map_map]
      exact List.map_mergeSort (r := PySem.W.dataLe false fun b : Str × Tok => PyData.str b.1) (s := leU) (f := U.str ∘ fun b : Str × Tok => b.1) (l := bs1) fun a _ b _ => rfl
end
end Z

namespace Z
open PySem PySem.Spec PyProof.Rows L2
/-! ### sets of whole numbers -/
def intOf (e : Int × Value) : Int := match e.2 with
  | .int x _ => x
  | _ => 0
def GoodI (w : World) (e : Int × Value) : Prop := ∃ x tk, e = (hashInt x, Value.int x tk)
/-- the set at a has the texts of L, its table rises and can be walked -/
structure ISet (w : World) (h : Heap) (a : Addr) (L : List Int) (o : Obj) (es : Array (Int × Value)) (ep : Nat) (t : SetTable) : Prop where
  ob : h.get? a = some o
  ex : o.ExactSet
  dt : o.data = .set es ep t
  good : ∀ e ∈ es.toList, GoodI w e
  nd : (es.toList.map intOf).Nodup
  mem : ∀ x, x ∈ es.toList.map intOf ↔ x ∈ L
  few : es.size < scanBound
  fit : t.fits es.size = true
  ris : Ris t.place.toList
  led : w.params.followText "set-order" = true ∨ t.led = true
section
variable {P : Program} {w : World} {A : Around} {E : Value → Shared → Prop} {s : Shared} {a : Addr} {L : List Int} {o : Obj} {es : Array (Int × Value)} {ep : Nat} {t : SetTable}
theorem good_elI {l : List (Int × Value)} (g : ∀ e ∈ l, GoodI w e) : ElemsOf (PySem.intKind P w) l := fun e he => by
  obtain ⟨x, tk, rfl⟩ := g e he
  refine ⟨⟨x, ?_, rfl⟩, rfl⟩
  show Value.isInt x (.int x tk) = true
  simp [Value.isInt]
theorem good_keyI {e : Int × Value} (g : GoodI w e) (x : Int) : (PySem.intKind P w).is x e.2 = true ↔ intOf e = x := by
  obtain ⟨y, tk, rfl⟩ := g
  show Value.isInt x (.int y tk) = true ↔ y = x
  simp [Value.isInt]
theorem good_inI {l : List (Int × Value)} (g : ∀ e ∈ l, GoodI w e) (x : Int) : x ∈ l.map intOf ↔ ∃ e ∈ l, (PySem.intKind P w).is x e.2 = true := by
  rw [List.mem_map]
  exact ⟨fun ⟨e, he, q⟩ => ⟨e, he, (good_keyI (P := P) (g e he) x).mpr q⟩, fun ⟨e, he, q⟩ => ⟨e, he, (good_keyI (P := P) (g e he) x).mp q⟩⟩
theorem ISet.up {h h' : Heap} (S : ISet w h a L o es ep t) (k : ∀ o, h.get? a = some o → h'.get? a = some o) : ISet w h' a L o es ep t := ⟨k _ S.ob, S.ex, S.dt, S.good, S.nd, S.mem, S.few, S.fit, S.ris, S.led⟩
/-- what is laid down at the end of an add -/
theorem lay_tI {g : Bool → Sem Unit} (hg : ∀ (b : Bool) (s₁ : Shared) (Q' : Unit → Shared → Prop), Q' () s₁ → wpAny (model P w) A (g b) Q' E s₁) (ho : s.heap.get? a = some o) (hex : o.ExactSet) (hd : o.data = .set es ep t) {es1 : Array (Int × Value)} {t2 : SetTable} {L' : List Int}
    (g1 : ∀ e ∈ es1.toList, GoodI w e) (nd1 : (es1.toList.map intOf).Nodup) (m1 : ∀ x, x ∈ es1.toList.map intOf ↔ x ∈ L') (b1 : es1.size < scanBound) (f1 : t2.fits es1.size = true) (r1 : Ris t2.place.toList) (l1 : w.params.followText "set-order" = true ∨ t2.led = true) {wasDummy : Bool} {R : Option Bool → Shared → Prop}
    (hR : ∀ h' o' es' ep' t', Heap.SameBut a s.heap h' → ISet w h' a L' o' es' ep' t' → es'.size = es1.size → R (some true) { s with heap := h' }) :
    wpAny (model P w) A (do
        storeSet a es1 t2
        if (!wasDummy && t2.tooFull) = true then do
            g (relayAll t2 es1 (SetTable.grown es1.size)).2.2
            storeSet a (relayAll t2 es1 (SetTable.grown es1.size)).1 (relayAll t2 es1 (SetTable.grown es1.size)).2.1
            pure (some true)
          else pure (some true)) R E s := by
  have at1 := store_at (es' := es1) (t' := t2) ho hd
  have sb := Heap.SameBut.update s.heap a (Obj.putSet es1 t2)
  refine wpAny_bind (wpAny_storeSet_of ho hd ?_ (fits_of_scanBound b1))
  split
  · obtain ⟨p3, f3, r3, l3⟩ := And.intro (relayAll_perm t2 es1 (SetTable.grown es1.size)) (And.intro (relayAll_fits t2 es1 (SetTable.grown es1.size)) (And.intro (relayAll_ris t2 es1 (SetTable.grown es1.size)) (relayAll_led t2 es1 (SetTable.grown es1.size))))
    generalize relayAll t2 es1 (SetTable.grown es1.size) = Z at p3 f3 r3 l3 ⊢
    obtain ⟨es2, t3, gave⟩ := Z
    dsimp only at p3 f3 r3 l3 ⊢
    have z : es2.size = es1.size := by
      have := p3.length_eq
      rwa [Array.length_toList, Array.length_toList] at this
    have b2 : es2.size < scanBound := by omega
    have at2 := store_at (es' := es2) (t' := t3) at1 rfl
    refine wpAny_bind (hg _ _ _ (wpAny_bind (wpAny_storeSet_of at1 rfl ?_ (fits_of_scanBound b2))))
    refine wpAny_pure (hR _ _ es2 _ t3 (sb.trans (Heap.SameBut.update _ a _)) ⟨at2, hex, rfl, fun e he => g1 e (p3.mem_iff.mp he), (p3.map intOf).nodup_iff.mpr nd1, fun x => (p3.map intOf).mem_iff.trans (m1 x), b2, f3, r3, ?_⟩ z)
    exact l1.imp id fun q => by rw [l3]; exact q
  · exact wpAny_pure (hR _ _ es1 _ t2 sb ⟨at1, hex, rfl, g1, nd1, m1, b1, f1, r1, l1⟩ rfl)
theorem add_tI {x : Int} {tk : Tok} {Q : Bool → Shared → Prop} (S : ISet w s.heap a L o es ep t) (room : es.size + 1 < scanBound)
    (hQ : ∀ b h' o' es' ep' t', Heap.SameBut a s.heap h' → ISet w h' a (x :: L) o' es' ep' t' → es'.size ≤ es.size + 1 → Q b { s with heap := h' }) : wpAny (model P w) A (setAddHashed a (.int x tk) ((PySem.intKind P w).hash x)) Q E s := by
  have hkey : (PySem.intKind P w).is x (.int x tk) = true := by
    show Value.isInt x (.int x tk) = true
    simp [Value.isInt]
  have hsc : (Value.int x tk).scannable = true := rfl
  have hel : ElemsOf (PySem.intKind P w) es.toList := good_elI S.good
  unfold setAddHashed setAddHashedIn
  refine wpAny_holding (wpAny_bind (wpAny_setState_of S.ob S.dt S.fit ?_))
  dsimp only
  rw [byScan_of hsc S.few hel]
  simp only [↓reduceIte]
  unfold setAddByScan
  refine wpAny_bind (wpAny_bind (wpAny_rule (wpAny_bind (wpAny_setScan_of hkey S.ob S.dt S.fit hel ?_))))
  cases hfi : List.findIdx? (fun e => (PySem.intKind P w).is x e.2) es.toList with
  | some j =>
    obtain ⟨hj, pj, _⟩ := List.findIdx?_eq_some_iff_getElem.mp hfi
    have hin : x ∈ L := (S.mem x).mp ((good_inI (P := P) S.good x).mpr ⟨es.toList[j], List.getElem_mem hj, pj⟩)
    dsimp only
    refine wpAny_pure (wpAny_pure (hQ _ s.heap o es ep t (Heap.SameBut.refl a s.heap) ⟨S.ob, S.ex, S.dt, S.good, S.nd, fun y => ?_, S.few, S.fit, S.ris, S.led⟩ (Nat.le_succ _)))
    rw [S.mem y, List.mem_cons]
    exact ⟨.inr, fun h => h.elim (fun e => e ▸ hin) id⟩
  | none =>
    have out : x ∉ es.toList.map intOf := fun z => by
      obtain ⟨e, he, q⟩ := (good_inI (P := P) S.good x).mp z
      have := List.findIdx?_eq_none_iff.mp hfi e he
      rw [q] at this
      cases this
    dsimp only
    have gw : ∀ (b : Bool) {s₁ : Shared} {Q' : Unit → Shared → Prop}, Q' () s₁ → wpAny (model P w) A (match b with
        | true => rule "set.scan.the-table-gave-way"
        | false => pure ()) Q' E s₁ := by
      intro b s₁ Q' q
      cases b <;> first | exact wpAny_pure q | exact wpAny_rule q
    obtain ⟨pm, f1, r1, l1⟩ := And.intro (layNew_perm t es ((PySem.intKind P w).hash x) (.int x tk)) (And.intro (layNew_fits t es ((PySem.intKind P w).hash x) (.int x tk)) (And.intro (layNew_ris t es ((PySem.intKind P w).hash x) (.int x tk) S.ris) (layNew_led t es ((PySem.intKind P w).hash x) (.int x tk))))
    generalize layNew t es ((PySem.intKind P w).hash x) (.int x tk) = Z at pm f1 r1 l1 ⊢
    obtain ⟨es1, t1, wasDummy, gave⟩ := Z
    dsimp only at pm f1 r1 l1 ⊢
    rw [Array.toList_push] at pm
    have pc : es1.toList.Perm (((PySem.intKind P w).hash x, Value.int x tk) :: es.toList) := pm.trans (List.perm_append_singleton _ _)
    have pk : (es1.toList.map intOf).Perm (x :: es.toList.map intOf) := pc.map intOf
    have g1 : ∀ e ∈ es1.toList, GoodI w e := fun e he => by
      rcases List.mem_cons.mp (pc.mem_iff.mp he) with z | z
      · exact ⟨x, tk, z⟩
      · exact S.good e z
    have nd1 := pk.nodup_iff.mpr (List.nodup_cons.mpr ⟨out, S.nd⟩)
    have m1 : ∀ y, y ∈ es1.toList.map intOf ↔ y ∈ x :: L := fun y => by rw [pk.mem_iff, List.mem_cons, List.mem_cons, S.mem y]
    have sz : es1.size = es.size + 1 := by
      have := pc.length_eq
      rwa [Array.length_toList, List.length_cons, Array.length_toList] at this
    have b1 : es1.size < scanBound := by omega
    have led1 : w.params.followText "set-order" = true ∨ t1.led = true := S.led.imp id fun z => by rw [l1]; exact z
    refine wpAny_bind (gw _ ?_)
    split
    · refine wpAny_bind ?_
      rw [hashByValue_scannable 8 hsc]
      refine wpAny_pure (lay_tI ?_ S.ob S.ex S.dt g1 nd1 m1 b1 ?_ ?_ ?_ ?_)
      · intro b s₁ Q' q; cases b <;> first | exact wpAny_pure q | exact wpAny_rule q
      · first | (split <;> first | exact f1 | exact SetTable.fits_plain_off f1) | exact f1
      · first | (split <;> exact r1) | exact r1
      · first | (split <;> exact led1) | exact led1
      · intro h' o' es' ep' t' sb S' z; dsimp only; exact wpAny_pure (hQ _ h' o' es' ep' t' sb S' (by omega))
    · refine wpAny_bind (wpAny_pure ?_)
      simp only [↓reduceIte]
      refine lay_tI ?_ S.ob S.ex S.dt g1 nd1 m1 b1 f1 r1 led1 ?_
      · intro b s₁ Q' q; cases b <;> first | exact wpAny_pure q | exact wpAny_rule q
      · intro h' o' es' ep' t' sb S' z; dsimp only; exact wpAny_pure (hQ _ h' o' es' ep' t' sb S' (by omega))
end
end Z

namespace Z
open PySem PySem.Spec PyProof.Rows L2
section
variable {P : Program} {w : World} {A : Around} {E : Value → Shared → Prop} {s : Shared} {a : Addr} {L : List Int} {o : Obj} {es : Array (Int × Value)} {ep : Nat} {t : SetTable}
theorem ISet.same {h : Heap} {L' : List Int} (S : ISet w h a L o es ep t) (e : ∀ x, x ∈ L ↔ x ∈ L') : ISet w h a L' o es ep t := ⟨S.ob, S.ex, S.dt, S.good, S.nd, fun x => (S.mem x).trans (e x), S.few, S.fit, S.ris, S.led⟩
theorem tset_newI {h : Heap} (ho : h.get? a = some (sObj0 w)) : ISet w h a [] (sObj0 w) #[] 0 (.fresh 0 0 (!w.params.followText "set-order")) where
  ob := ho
  ex := ⟨rfl, rfl, rfl⟩
  dt := rfl
  good := fun e he => by simp at he
  nd := by simp
  mem := fun x => by simp
  few := by decide
  fit := by rfl
  ris := List.Pairwise.nil
  led := by cases h : w.params.followText "set-order" <;> simp [SetTable.fresh]
theorem ISet.lt {h : Heap} {ks : List Int} (S : ISet w h a L o es ep t) (sub : ∀ x ∈ L, x ∈ ks) (hf : FewL ks) : es.size < 64 := by
  have := hf (es.toList.map intOf) S.nd fun x hx => sub x ((S.mem x).mp hx)
  rwa [List.length_map, Array.length_toList] at this
/-- the loop of set.update over texts -/
theorem grow_tI {I : Addr} {fp wr : List Addr} {G : Array GenState → Array GenState → Prop} {n : Nat} {Pv : Nat → Value → Prop} {St : Nat → Shared → Prop} {R : Result → Shared → Prop} (W : WalksS P w A.in1 I fp wr G n Pv St) (ha : a ∉ fp) (ks : List Int)
    (hn : n = ks.length) (hf : FewL ks) (hv : ∀ i v, Pv i v → ∃ x tk, ks[i]? = some x ∧ v = .int x tk) (h0 : Heap) (ha0 : h0.get? a = none) (hw0 : ∀ b ∈ wr, h0.get? b = none)
    (fin : ∀ s' o es ep t, Moved (a :: wr) G s s' → ISet w s'.heap a ks o es ep t → es.size < 64 → (∀ b o, h0.get? b = some o → s'.heap.get? b = some o) → R (.ok (.ret .none)) s') :
    ∀ (m i : Nat) (s1 : Shared), n - i = m → i ≤ n → St i s1 → Moved (a :: wr) G s s1 → (∀ b o, h0.get? b = some o → s1.heap.get? b = some o) → (∃ o es ep t, ISet w s1.heap a (ks.take i) o es ep t ∧ es.size < 64) →
      codeAny (model P w) A (.builtin "set.update.loop" ⟨[.ref a, .ref I], []⟩) R s1 := by
  have haw : a ∉ wr := fun h => ha (W.sub _ h)
  have wide : ∀ b ∈ wr, b ∈ a :: wr := fun b hb => .tail _ hb
  have keep : ∀ {s1 s2 : Shared}, Moved wr G s1 s2 → (∀ b o, h0.get? b = some o → s1.heap.get? b = some o) → ∀ b o, h0.get? b = some o → s2.heap.get? b = some o := fun mv k b o e =>
    mv.heap b o (fun hb => by have := hw0 b hb; rw [e] at this; cases this) (k b o e)
  intro m
  induction m with
  | zero =>
    intro i s1 hm hi hst mv kp ⟨o, es, ep, t, S, sz⟩
    obtain rfl : i = n := by omega
    refine codeAny_builtin F.entry_set_update_loop ?_
    rw [Around.under_plainId F.plain_set_update_loop _]
    refine wpAny_bind (m := pyNext _) (W.done s1 _ _ hst fun s2 mv2 => ?_)
    rw [hn, List.take_length] at S
    exact wpAny_pure (fin s2 o es ep t (mv.trans W.gtrans (mv2.mono wide)) (S.up fun o e => mv2.heap a o haw e) sz (keep mv2 kp))
  | succ m ih =>
    intro i s1 hm hi hst mv kp ⟨o, es, ep, t, S, sz⟩
    refine codeAny_builtin F.entry_set_update_loop ?_
    rw [Around.under_plainId F.plain_set_update_loop _]
    refine wpAny_bind (m := pyNext _) (W.item i s1 _ _ (by omega) hst fun v s2 hp2 hst2 mv2 => ?_)
    obtain ⟨x, tk, hx, rfl⟩ := hv i v hp2
    have kp2 := keep mv2 kp
    have S2 : ISet w s2.heap a (ks.take i) o es ep t := S.up fun o e => mv2.heap a o haw e
    have hil : i < ks.length := (List.getElem?_eq_some_iff.mp hx).1
    have on : ∀ (h' : Heap) (tk' : Nat), s2.toks ≤ tk' → Heap.SameBut a s2.heap h' → (∃ o' es' ep' t', ISet w h' a (ks.take (i + 1)) o' es' ep' t' ∧ es'.size < 64) → codeAny (model P w) A (.builtin "set.update.loop" ⟨[.ref a, .ref I], []⟩) R { s2 with heap := h', toks := tk' } := fun h' tk' htk sb hS => by
      have keepb : ∀ b, b ≠ a → ∀ o, s2.heap.get? b = some o → h'.get? b = some o := fun b hb o e => by rw [sb.2 b hb]; exact e
      exact ih (i + 1) _ (by omega) (by omega) (W.frame _ s2 h' tk' hst2 htk fun b hb o e => keepb b (fun z => ha (z ▸ hb)) o e) ((mv.trans W.gtrans (mv2.mono wide)).then_heap htk fun b o hb e => keepb b (fun z => hb (z ▸ List.mem_cons_self)) o e) (fun b o e => keepb b (fun z => by subst z; rw [ha0] at e; cases e) o (kp2 b o e)) hS
    show wpAny (model P w) A.in1 (holding [Value.int x tk] (setAdd a (.int x tk)) >>= _) _ _ s2
    unfold setAdd
    refine wpAny_bind (wpAny_holding (wpAny_holding (wpAny_bind ((PySem.intKind P w).pyHash (k := x) ?_ ?_))))
    · show Value.isInt x (.int x tk) = true
      simp [Value.isInt]
    refine add_tI (s := { s2 with toks := s2.toks + 1 }) S2 (by unfold scanBound; omega) fun b h' o' es' ep' t' sb S' z => ?_
    have S'' : ISet w h' a (ks.take (i + 1)) o' es' ep' t' := S'.same fun y => by
      rw [List.take_add_one, hx]
      simp [List.mem_append, or_comm]
    exact wpAny_pure ⟨plainId_quiet F.plain_set_update_loop _, on h' _ (Nat.le_succ _) sb ⟨o', es', ep', t', S'', S''.lt (fun x hx => List.mem_of_mem_take hx) hf⟩⟩
theorem loop_tI {l : Addr} {items : Array Value} {ks : List Int} (hk : ∀ (i : Nat) v, items[i]? = some v → ∃ x tk, ks[i]? = some x ∧ v = .int x tk) (hz : items.size = ks.length) (hf : FewL ks) : LoopG P w A s l items (fun h' => ∃ o es ep t, ISet w h' s.heap.objs.size ks o es ep t ∧ es.size < 64) := by
  intro A' St hA W hlt it tk hst R f
  have e1 : (s.heap.push (sObj0 w)).objs.size = s.heap.objs.size + 1 := Heap.size_push ..
  refine grow_tI (s := { s with heap := (s.heap.push (sObj0 w)).push it, toks := tk }) W.toS ?_ ks hz hf hk s.heap (beyond (Nat.le_refl _)) (fun b hb => beyond (by rw [List.mem_singleton.mp hb]; exact Nat.le_succ _)) (fun s' o es ep t mv S z kp => ?_) items.size 0 _ (by omega) (Nat.zero_le _) hst (Moved.refl W.toS.grefl)
    (fun b o e => Heap.get?_push_of_some _ (Heap.get?_push_of_some _ e)) ⟨_, _, _, _, tset_newI (Heap.get?_push_of_some _ (Heap.get?_push_size _ rfl)), by decide⟩
  · simp only [List.mem_cons, List.not_mem_nil, or_false, not_or]
    exact ⟨Nat.ne_of_lt (Nat.lt_succ_self _), Nat.ne_of_gt hlt⟩
  · obtain ⟨h', g', d', tk', os'⟩ := s'
    obtain rfl : g' = s.gens := mv.gens
    obtain rfl : d' = s.drawn := mv.drawn
    obtain rfl : os' = s.os := mv.os
    exact f h' tk' ⟨o, es, ep, t, S, z⟩ kp
theorem call_set_tI {l : Addr} {items : Array Value} {ks : List Int} {Q : Value → Shared → Prop} (hh : A.handled = none) (hl : s.heap.IsList l items ∨ s.heap.IsTuple l items) (hu : A.units + 16 < cLine) (hk : ∀ (i : Nat) v, items[i]? = some v → ∃ x tk, ks[i]? = some x ∧ v = .int x tk) (hz : items.size = ks.length) (hf : FewL ks)
    (fin : ∀ h' tk o es ep t, ISet w h' s.heap.objs.size ks o es ep t → es.size < 64 → (∀ b o, s.heap.get? b = some o → h'.get? b = some o) → Q (.ref s.heap.objs.size) { s with heap := h', toks := tk }) : wpAny (model P w) A (call (.type "set") [.ref l]) Q E s :=
  call_set_g hh hl hu (loop_tI hk hz hf) fun h' tk ⟨o, es, ep, t, S, z⟩ kp => fin h' tk o es ep t S z kp
end
end Z

namespace Z
open PySem PySem.Spec PyProof.Rows L2
/-! ### set(texts), sorted(set(texts)) -/
def IS0 (w : World) (h : Heap) (a : Addr) (L : List Int) : Prop := ∃ o es ep t, ISet w h a L o es ep t ∧ es.size < 64
def ISO (w : World) (a : Addr) (L : List Int) : HO := .ext fun h => IS0 w h a L
theorem iso_new {P : Program} {w : World} {H : Hp} {h : Heap} {a : Addr} {L : List Int} (S : IS0 w h a L) : ObjOk P w H h a (ISO w a L) := by
  refine ⟨S, ⟨_, S.choose_spec.choose_spec.choose_spec.choose_spec.1.ob⟩, fun h1 h2 p k => ?_⟩
  obtain ⟨o, es, ep, t, q, r⟩ : IS0 w h1 a L := p
  exact ⟨o, es, ep, t, q.up k, r⟩
theorem vals_txtI : ∀ {xs : List Int} {its : List Value}, Vals (xs.map V.int) its → its.length = xs.length ∧ ∀ (i : Nat) v, its[i]? = some v → ∃ x tk, xs[i]? = some x ∧ v = .int x tk
  | [], _, .nil => ⟨rfl, fun i v h => by simp at h⟩
  | x :: xs, _, .cons q z => by
    obtain ⟨h1, h2⟩ := vals_txtI z
    refine ⟨by simp [h1], fun i v h => ?_⟩
    cases i with
    | zero =>
      simp at h
      subst h
      obtain ⟨tk, e⟩ := q
      exact ⟨x, tk, rfl, e⟩
    | succ i => simpa using h2 i v (by simpa using h)
section
variable {X : Cx}
def rSetI (X : Cx) : List V → Hp → VK → Prop := fun xs H Q => ∃ (l : Addr) (ts : List Int), xs = [.ref l] ∧ (SqL X.K H l (ts.map V.int) ∨ SqT X.K H l (ts.map V.int)) ∧ FewL ts ∧ ∀ a, H a = none → Q (.ref a) (upd H a (ISO X.w a ts))
theorem cr_setI (hc : X.calm = true) (hu : X.A.units + 65 < cLine) : CallR X (.type "set") (rSetI X) := by
  intro pins s σ H xs us0 Q I r h
  obtain ⟨l, ts, rfl, hs, hl, q⟩ := h
  rw [Vals.ref1 r]
  have hn : H s.heap.objs.size = none := I.hok.fresh (Nat.le_refl _)
  have go : ∀ its : List Value, Vals (ts.map V.int) its → (s.heap.IsList l its.toArray ∨ s.heap.IsTuple l its.toArray) → wpAny (model X.prog X.w) X.A (call (.type "set") [.ref l]) (EP X pins σ Q) X.xe s := fun its rv hi => by
    obtain ⟨e1, e2⟩ := vals_txtI rv
    refine call_set_tI (P := X.prog) (w := X.w) (ks := ts) (I.ok.hd hc) hi (by omega) (fun i v hv => e2 i v (by simpa using hv)) (by simpa using e1) hl fun h' tk o es ep t S z up => ?_
    exact ⟨.ref _, upd H s.heap.objs.size (ISO X.w s.heap.objs.size ts), I.laid (t' := tk) up (Nat.le_refl _) (iso_new ⟨o, es, ep, t, S, z⟩), rfl, q _ hn⟩
  rcases hs with hs | hs
  · obtain ⟨its, rv, pl, _⟩ := I.list hs
    exact go its rv (.inl pl.isList)
  · obtain ⟨its, rv, pl, _⟩ := I.tuple hs
    exact go its rv (.inr (by obtain ⟨o, h1, h2, n, h3⟩ := pl; exact ⟨o, h1, h2, n, h3⟩))
def rSortI (X : Cx) : List V → Hp → VK → Prop := fun xs H Q => ∃ (a : Addr) (ts : List Int), xs = [.ref a] ∧ H a = some (ISO X.w a ts) ∧
  ∀ zs ys : List Int, zs.Nodup → (∀ x, x ∈ zs ↔ x ∈ ts) → ys.map U.int = (zs.map U.int).mergeSort leU → ∀ p, H p = none → Q (.ref p) (upd H p (.lst (ys.map V.int)))
theorem cr_sortI (hc : X.calm = true) (hu : X.A.units + 65 < cLine) : CallR X (.builtin "sorted") (rSortI X) := by
  intro pins s σ H xs us0 Q I r h
  obtain ⟨a, ts, rfl, ha, q⟩ := h
  rw [Vals.ref1 r]
  obtain ⟨o, es, ep, t, S, z⟩ : IS0 X.w s.heap a ts := (I.hok a _ ha).1
  have gd : ∀ e ∈ es.toList, ∃ tk, e.2 = Value.int (intOf e) tk := fun e he => by
    obtain ⟨x, tk, rfl⟩ := S.good e he
    exact ⟨tk, rfl⟩
  have hb : ∃ bs : List (Int × Tok), es.toList.map (·.2) = bs.map (fun b => Value.int b.1 b.2) ∧ bs.map (·.1) = es.toList.map intOf := by
    generalize es.toList = l at gd
    induction l with
    | nil => exact ⟨[], rfl, rfl⟩
    | cons e l ih =>
      obtain ⟨bs, h1, h2⟩ := ih fun e' he => gd e' (.tail _ he)
      obtain ⟨tk, h3⟩ := gd e (.head _)
      exact ⟨(intOf e, tk) :: bs, by simp [h1, h3], by simp [h2]⟩
  obtain ⟨bs, ev, et⟩ := hb
  have hm : ∀ b ∈ bs, b.1 ∈ ts := fun b hbm => by
    refine (S.mem _).mp ?_
    rw [← et]
    exact List.mem_map_of_mem hbm
  have hlen : bs.length < 64 := by
    have := congrArg List.length ev
    rw [List.length_map, List.length_map, Array.length_toList] at this
    omega
  refine sorted_set_g (bs := bs) (f := fun b => Value.int b.1 b.2) (enc := fun b => PyData.int b.1) S.ob S.ex S.dt S.fit S.ris S.led ev hlen (I.ok.hd hc) (fun b _ => ⟨[], Reads.int _ _⟩) ⟨fun d hd => ?_, fun d hd d' hd' => ?_⟩ trivial (fun b _ => ?_) fun s' p c bs1 up hg ho2 hp p1 hat => ?_
  · obtain ⟨b, hbm, rfl⟩ := List.mem_map.mp hd
    rfl
  · obtain ⟨b, _, rfl⟩ := List.mem_map.mp hd
    obtain ⟨b', _, rfl⟩ := List.mem_map.mp hd'
    rfl
  · show X.A.units + 2 + (PyData.int b.1).depth < cLine
    have : (PyData.int b.1).depth = 0 := by simp [PyData.depth]
    omega
  · have hn : H p = none := I.hok.fresh hp
    have hbl : bs1.length = bs.length := p1.length_eq
    generalize hso : bs1.mergeSort (PySem.W.dataLe false fun b : Int × Tok => PyData.int b.1) = so at hat
    have hsl : so.length = bs.length := by rw [← hso, List.length_mergeSort, hbl]
    have hv : Vals ((so.map (·.1)).map V.int) (so.map fun b => Value.int b.1 b.2) := by
      clear hso hsl hat
      induction so with
      | nil => exact .nil
      | cons b so ih => exact .cons ⟨b.2, rfl⟩ ih
    have hlen2 : ((so.map (·.1)).map V.int).length ≤ sizeLine := by
      rw [List.length_map, List.length_map, hsl, sizeLine_eq]; omega
    have J : Inv X pins σ (upd H p (.lst ((so.map (·.1)).map V.int))) { s with heap := s'.heap, gens := s'.gens, drawn := s'.drawn, toks := s'.toks } :=
      I.call (ch := []) (Un.laid up hp hn) (I.hok.laid up hp ⟨hlen2, _, c, hv, hat⟩) (by rw [hg]; exact I.bare) (fun _ z => nomatch z)
    have e : s' = { s with heap := s'.heap, gens := s'.gens, drawn := s'.drawn, toks := s'.toks } := by
      cases s'; cases s; cases ho2; rfl
    rw [e]
    refine ⟨.ref p, _, J, rfl, q (bs1.map (·.1)) (so.map (·.1)) ?_ (fun x => ?_) ?_ p hn⟩
    · have := (p1.map (·.1)).nodup_iff.mpr (by rw [et]; exact S.nd)
      exact this
    · rw [(p1.map (·.1)).mem_iff, et, S.mem]
    · rw [← hso, List.map_map, List.map_map]
      exact List.map_mergeSort (r := PySem.W.dataLe false fun b : Int × Tok => PyData.int b.1) (s := leU) (f := U.int ∘ fun b : Int × Tok => b.1) (l := bs1) fun a _ b _ => rfl
end
end Z

namespace Z
open PySem PySem.Spec PyProof.Rows L2
/-! ### sorted(set(xs)) of tuples or of texts -/
def sortTxt (us : List U) : Option U := if (us.length < 64 ∨ (dedU us).length < 64) ∧ strictU (sortU (dedU us)) = true then some (.lst (sortU (dedU us))) else none
def sortAny (us : List U) : Option U := match strsU us with
  | some _ => sortTxt us
  | none => match intsU us with
    | some _ => sortTxt us
    | none => sortSet us
def oSortSet : Op1 := fun st u => match deref st u with
  | .lst us => sortAny us
  | .frz us => sortAny us
  | .tup us => sortAny us
  | _ => none
theorem sortAny_tup {us : List U} {r : U} (h : sortSet us = some r) : sortAny us = some r := by
  unfold sortAny
  cases e : strsU us with
  | none =>
    cases e2 : intsU us with
    | none => exact h
    | some xs =>
      have := intsU_eq e2
      subst this
      cases xs with
      | nil => simp [strsU] at e
      | cons x xs =>
        unfold sortSet at h
        split at h
        · rename_i z
          have := z.2.1
          simp [setOk, isTupU] at this
        · cases h
  | some xs =>
    have := strsU_eq e
    subst this
    cases xs with
    | nil =>
      have : sortSet [] = some (.lst []) := rfl
      rw [List.map_nil] at h
      rw [this] at h
      cases h
      rfl
    | cons x xs =>
      unfold sortSet at h
      split at h
      · rename_i z
        have := z.2.1
        simp [setOk, isTupU] at this
      · cases h
theorem osort_tup {us : List U} {r : U} (st : Store) (h : sortSet us = some r) : oSortSet st (.lst us) = some r := sortAny_tup h
/-! ### texts without doubles -/
def addT (acc : List Str) (x : Str) : List Str := if x ∈ acc then acc else x :: acc
def dedT (xs : List Str) : List Str := xs.foldl addT []
theorem addT_U (acc : List Str) (x : Str) : addU (acc.map .str) (.str x) = (addT acc x).map .str := by
  have e : (keyU (.str x) ∈ (acc.map U.str).map keyU) ↔ x ∈ acc := by
    rw [List.map_map]
    constructor
    · intro h
      obtain ⟨y, hy, e⟩ := List.mem_map.mp h
      simp only [Function.comp_apply, keyU] at e
      injection e with e
      exact e ▸ hy
    · exact fun h => List.mem_map.mpr ⟨x, h, rfl⟩
  unfold addU addT
  by_cases h : x ∈ acc
  · rw [if_pos h, if_pos (e.mpr h)]
  · rw [if_neg h, if_neg fun z => h (e.mp z)]; rfl
theorem dedT_U' : ∀ (xs acc : List Str), (xs.map U.str).foldl addU (acc.map .str) = (xs.foldl addT acc).map .str
  | [], _ => rfl
  | x :: xs, acc => by
    rw [List.map_cons, List.foldl_cons, addT_U, dedT_U' xs]
    rfl
theorem dedT_U (xs : List Str) : dedU (xs.map .str) = (dedT xs).map .str := dedT_U' xs []
theorem dedT_spec : ∀ (xs acc : List Str), acc.Nodup → (xs.foldl addT acc).Nodup ∧ ∀ y, y ∈ xs.foldl addT acc ↔ y ∈ xs ∨ y ∈ acc
  | [], acc, h => ⟨h, fun y => by simp⟩
  | x :: xs, acc, h => by
    have h' : (addT acc x).Nodup ∧ ∀ y, y ∈ addT acc x ↔ y = x ∨ y ∈ acc := by
      unfold addT
      split
      · rename_i hx
        exact ⟨h, fun y => ⟨.inr, fun z => z.elim (fun e => e ▸ hx) id⟩⟩
      · rename_i hx
        exact ⟨List.nodup_cons.mpr ⟨hx, h⟩, fun y => List.mem_cons⟩
    obtain ⟨h1, h2⟩ := dedT_spec xs (addT acc x) h'.1
    refine ⟨h1, fun y => ?_⟩
    rw [List.foldl_cons, h2, h'.2, List.mem_cons]
    constructor
    · rintro (z | z | z)
      · exact .inl (.inr z)
      · exact .inl (.inl z)
      · exact .inr z
    · rintro ((z | z) | z)
      · exact .inr (.inl z)
      · exact .inl z
      · exact .inr (.inr z)
theorem dedT_nodup (xs : List Str) : (dedT xs).Nodup := (dedT_spec xs [] .nil).1
theorem dedT_mem {xs : List Str} {y : Str} : y ∈ dedT xs ↔ y ∈ xs := by
  have := (dedT_spec xs [] .nil).2 y
  simpa [dedT] using this
/-! ### numbers without doubles -/
def addI (acc : List Int) (x : Int) : List Int := if x ∈ acc then acc else x :: acc
def dedI (xs : List Int) : List Int := xs.foldl addI []
theorem addI_U (acc : List Int) (x : Int) : addU (acc.map .int) (.int x) = (addI acc x).map .int := by
  have e : (keyU (.int x) ∈ (acc.map U.int).map keyU) ↔ x ∈ acc := by
    rw [List.map_map]
    constructor
    · intro h
      obtain ⟨y, hy, e⟩ := List.mem_map.mp h
      simp only [Function.comp_apply, keyU] at e
      injection e with e
      exact e ▸ hy
    · exact fun h => List.mem_map.mpr ⟨x, h, rfl⟩
  unfold addU addI
  by_cases h : x ∈ acc
  · rw [if_pos h, if_pos (e.mpr h)]
  · rw [if_neg h, if_neg fun z => h (e.mp z)]; rfl
theorem dedI_U' : ∀ (xs acc : List Int), (xs.map U.int).foldl addU (acc.map .int) = (xs.foldl addI acc).map .int
  | [], _ => rfl
  | x :: xs, acc => by
    rw [List.map_cons, List.foldl_cons, addI_U, dedI_U' xs]
    rfl
theorem dedI_U (xs : List Int) : dedU (xs.map .int) = (dedI xs).map .int := dedI_U' xs []
theorem dedI_spec : ∀ (xs acc : List Int), acc.Nodup → (xs.foldl addI acc).Nodup ∧ ∀ y, y ∈ xs.foldl addI acc ↔ y ∈ xs ∨ y ∈ acc
  | [], acc, h => ⟨h, fun y => by simp⟩
  | x :: xs, acc, h => by
    have h' : (addI acc x).Nodup ∧ ∀ y, y ∈ addI acc x ↔ y = x ∨ y ∈ acc := by
      unfold addI
      split
      · rename_i hx
        exact ⟨h, fun y => ⟨.inr, fun z => z.elim (fun e => e ▸ hx) id⟩⟩
      · rename_i hx
        exact ⟨List.nodup_cons.mpr ⟨hx, h⟩, fun y => List.mem_cons⟩
    obtain ⟨h1, h2⟩ := dedI_spec xs (addI acc x) h'.1
    refine ⟨h1, fun y => ?_⟩
    rw [List.foldl_cons, h2, h'.2, List.mem_cons]
    constructor
    · rintro (z | z | z)
      · exact .inl (.inr z)
      · exact .inl (.inl z)
      · exact .inr z
    · rintro ((z | z) | z)
      · exact .inr (.inl z)
      · exact .inl z
      · exact .inr (.inr z)
theorem dedI_nodup (xs : List Int) : (dedI xs).Nodup := (dedI_spec xs [] .nil).1
theorem dedI_mem {xs : List Int} {y : Int} : y ∈ dedI xs ↔ y ∈ xs := by
  have := (dedI_spec xs [] .nil).2 y
  simpa [dedI] using this
theorem nodup_le {α : Type} [DecidableEq α] : ∀ {xs ys : List α}, xs.Nodup → (∀ x ∈ xs, x ∈ ys) → xs.length ≤ ys.length
  | [], _, _, _ => Nat.zero_le _
  | x :: xs, ys, h, hm => by
    rw [List.nodup_cons] at h
    have hx := hm x (.head _)
    have ih := nodup_le (xs := xs) (ys := ys.erase x) h.2 fun y hy => by
      have : y ≠ x := fun e => h.1 (e ▸ hy)
      exact (List.mem_erase_of_ne this).mpr (hm y (.tail _ hy))
    have hl := List.length_erase_of_mem hx
    have : 0 < ys.length := List.length_pos_of_mem hx
    rw [List.length_cons]
    omega
theorem few_of {α : Type} [DecidableEq α] {xs ds : List α} (h : xs.length < 64 ∨ ds.length < 64) (hd : ∀ x, x ∈ xs → x ∈ ds) : FewL xs := fun l nd sub => by
  rcases h with h | h
  · exact Nat.lt_of_le_of_lt (nodup_le nd sub) h
  · exact Nat.lt_of_le_of_lt (nodup_le nd fun x hx => hd x (sub x hx)) h
section
variable {X : Cx}
theorem CallR.or' {f : Value} {r1 r2 : List V → Hp → VK → Prop} (h1 : CallR X f r1) (h2 : CallR X f r2) : CallR X f (fun xs H Q => r1 xs H Q ∨ r2 xs H Q) := by
  intro pins s σ H xs us Q I r h
  rcases h with h | h
  · exact h1 pins s σ H xs us Q I r h
  · exact h2 pins s σ H xs us Q I r h
theorem strs_vals {m : MH} {H : Hp} [TB] : ∀ {xs : List Str} {vs : List V}, Reps (gc X) m H (xs.map .str) vs → vs = xs.map V.str ∧ ∀ x ∈ xs, PyData.strOk x = true ∧ x.length ≤ 16777216
  | [], _, .nil => ⟨rfl, fun _ h => nomatch h⟩
  | x :: xs, _, .cons r t => by
    obtain ⟨h1, h2⟩ := strs_vals t
    obtain ⟨e, o1, o2⟩ := rep_str r
    refine ⟨by rw [e, h1]; rfl, fun y hy => ?_⟩
    rcases List.mem_cons.mp hy with rfl | hy
    · exact ⟨o1, o2⟩
    · exact h2 y hy
theorem reps_txts [TB] {m : MH} {H : Hp} : ∀ {xs : List Str}, (∀ x ∈ xs, PyData.strOk x = true ∧ x.length ≤ 16777216) → Reps (gc X) m H (xs.map .str) (xs.map V.str)
  | [], _ => .nil
  | x :: xs, h => .cons (.str x (h x (.head _)).1 (h x (.head _)).2) (reps_txts fun y hy => h y (.tail _ hy))
theorem post_txt [TB] {m : MH} {H : Hp} {st : Store} {Q : VK} {l : Addr} {vs : List V} {xs : List Str} (S : Sim (gc X) m H st) (hs : SqL X.K H l vs ∨ SqT X.K H l vs) (r : Reps (gc X) m H (xs.map .str) vs) (P : PostO (gc X) m H st Q (sortTxt (xs.map .str))) : rSetT X [.ref l] H fun v2 H2 => rSortT X [v2] H2 Q := by
  unfold sortTxt at P
  split at P
  · rename_i h
    obtain ⟨h1, h2⟩ := h
    obtain ⟨rfl, ok⟩ := strs_vals r
    refine ⟨l, xs, rfl, hs, few_of (by simpa [dedT_U] using h1) (fun x => dedT_mem.mpr), fun a hn => ?_⟩
    refine ⟨a, xs, rfl, upd_same, fun x hx => (ok x hx).1, fun zs ys nd hm e p hp => ?_⟩
    have pz : zs.Perm (dedT xs) := (List.perm_ext_iff_of_nodup nd (dedT_nodup xs)).mpr fun x => (hm x).trans dedT_mem.symm
    rw [dedT_U] at h2 P
    have hlt : ∀ u ∈ (dedT xs).map U.str, ∀ v ∈ (dedT xs).map U.str, PySem.W.dataLt (encU u) (encU v) = ltU u v := fun u hu v hv => by
      obtain ⟨x, hx, rfl⟩ := List.mem_map.mp hu
      obtain ⟨y, hy, rfl⟩ := List.mem_map.mp hv
      exact (lt_dat (d := 1) (d' := 1) (.str x) (.str y) rfl rfl rfl rfl (by simpa [PyData.canLay0] using (ok x (dedT_mem.mp hx)).1) (by simpa [PyData.canLay0] using (ok y (dedT_mem.mp hy)).1) rfl).2
    rw [sort_perm hlt (pz.map _) h2] at e
    rw [← e] at P
    have hy : ∀ y ∈ ys, PyData.strOk y = true ∧ y.length ≤ 16777216 := fun y hy => by
      have : U.str y ∈ sortU ((dedT xs).map U.str) := by rw [← e]; exact List.mem_map_of_mem hy
      have := List.mem_mergeSort.mp (by rw [sort_eq _ hlt]; exact this : U.str y ∈ ((dedT xs).map U.str).mergeSort leU)
      obtain ⟨z, hz, ez⟩ := List.mem_map.mp this
      injection ez with ez
      subst ez
      exact ok z (dedT_mem.mp hz)
    have S2 : Sim (gc X) m (upd H a (TSO X.w a xs)) st := S.new hn
    exact P _ m _ ((le_new hn).trans (le_new hp)) (S2.new hp) (.lst upd_same (S2.off hp) (reps_txts hy))
  · exact P.elim
theorem ints_reps2 [TB] {m : MH} {H : Hp} : ∀ xs : List Int, Reps (gc X) m H (xs.map .int) (xs.map V.int)
  | [] => .nil
  | x :: xs => .cons (.int x) (ints_reps2 xs)
theorem post_int [TB] {m : MH} {H : Hp} {st : Store} {Q : VK} {l : Addr} {vs : List V} {xs : List Int} (S : Sim (gc X) m H st) (hs : SqL X.K H l vs ∨ SqT X.K H l vs) (r : Reps (gc X) m H (xs.map .int) vs) (P : PostO (gc X) m H st Q (sortTxt (xs.map .int))) : rSetI X [.ref l] H fun v2 H2 => rSortI X [v2] H2 Q := by
  unfold sortTxt at P
  split at P
  · rename_i h
    obtain ⟨h1, h2⟩ := h
    have rfl := reps_intsV r
    subst rfl
    refine ⟨l, xs, rfl, hs, few_of (by simpa [dedI_U] using h1) (fun x => dedI_mem.mpr), fun a hn => ?_⟩
    refine ⟨a, xs, rfl, upd_same, fun zs ys nd hm e p hp => ?_⟩
    have pz : zs.Perm (dedI xs) := (List.perm_ext_iff_of_nodup nd (dedI_nodup xs)).mpr fun x => (hm x).trans dedI_mem.symm
    rw [dedI_U] at h2 P
    have hlt : ∀ u ∈ (dedI xs).map U.int, ∀ v ∈ (dedI xs).map U.int, PySem.W.dataLt (encU u) (encU v) = ltU u v := fun u hu v hv => by
      obtain ⟨x, hx, rfl⟩ := List.mem_map.mp hu
      obtain ⟨y, hy, rfl⟩ := List.mem_map.mp hv
      exact (lt_dat (d := 1) (d' := 1) (.int x) (.int y) rfl rfl rfl rfl rfl rfl rfl).2
    rw [sort_perm hlt (pz.map _) h2] at e
    rw [← e] at P
    have S2 : Sim (gc X) m (upd H a (ISO X.w a xs)) st := S.new hn
    exact P _ m _ ((le_new hn).trans (le_new hp)) (S2.new hp) (.lst upd_same (S2.off hp) (ints_reps2 ys))
  · exact P.elim
theorem rSetI_mono {xs : List V} {H : Hp} {Q Q' : VK} (h : rSetI X xs H Q) (m : ∀ v H', Q v H' → Q' v H') : rSetI X xs H Q' := by
  obtain ⟨l, ts, e, hs, hl, q⟩ := h
  exact ⟨l, ts, e, hs, hl, fun a hn => m _ _ (q a hn)⟩
theorem rSetN_mono [TB] {xs : List V} {H : Hp} {Q Q' : VK} (h : rSetN X xs H Q) (m : ∀ v H', Q v H' → Q' v H') : rSetN X xs H Q' := by
  obtain ⟨l, vs, us, mh, e, hs, r, ok, hl, q⟩ := h
  exact ⟨l, vs, us, mh, e, hs, r, ok, hl, fun a L hn pm => m _ _ (q a L hn pm)⟩
theorem rSetT_mono {xs : List V} {H : Hp} {Q Q' : VK} (h : rSetT X xs H Q) (m : ∀ v H', Q v H' → Q' v H') : rSetT X xs H Q' := by
  obtain ⟨l, ts, e, hs, hl, q⟩ := h
  exact ⟨l, ts, e, hs, hl, fun a hn => m _ _ (q a hn)⟩
theorem post_any [TB] {m : MH} {H : Hp} {st : Store} {Q : VK} {l : Addr} {vs : List V} {us : List U} (S : Sim (gc X) m H st) (hs : SqL X.K H l vs ∨ SqT X.K H l vs) (r : Reps (gc X) m H us vs) (P : PostO (gc X) m H st Q (sortAny us)) :
    rSetN X [.ref l] H (fun v2 H2 => rSortN X [v2] H2 Q ∨ (rSortT X [v2] H2 Q ∨ rSortI X [v2] H2 Q)) ∨ (rSetT X [.ref l] H (fun v2 H2 => rSortN X [v2] H2 Q ∨ (rSortT X [v2] H2 Q ∨ rSortI X [v2] H2 Q)) ∨ rSetI X [.ref l] H fun v2 H2 => rSortN X [v2] H2 Q ∨ (rSortT X [v2] H2 Q ∨ rSortI X [v2] H2 Q)) := by
  unfold sortAny at P
  split at P
  · rename_i xs e
    have e := strsU_eq e
    subst e
    exact .inr (.inl (rSetT_mono (post_txt S hs r P) fun _ _ => .inr ∘ .inl))
  · split at P
    · rename_i xs e
      have e := intsU_eq e
      subst e
      exact .inr (.inr (rSetI_mono (post_int S hs r P) fun _ _ => .inr ∘ .inr))
    · exact .inl (rSetN_mono (post_set S hs r P) fun _ _ => .inl)
theorem ze_sortset [TB] {x y : Str} {a : Expr} {fa : UEnv → Store → R U} {p p2 pos pos2 : Pos} (hc : X.calm = true) (hu : X.A.units + 65 < cLine) (hm : X.mg x = none) (hm2 : X.mg y = none) (ha : ZE X a fa) (hv : bootBuiltins x = some (.builtin "sorted") := by decide +kernel) (hv2 : bootBuiltins y = some (.type "set") := by decide +kernel)
    (hn : x ≠ "__name__" := by decide +kernel) (hn2 : y ≠ "__name__" := by decide +kernel) (hd : (x == ("__debug__" : Str)) = false := by decide +kernel) (hd2 : (y == ("__debug__" : Str)) = false := by decide +kernel) (hg : Gl X x := by rfl) (hg2 : Gl X y := by rfl)
    (h1 : starEach [.Call (.Name y p2) [a] [] pos2] X.env = (false, eval (.Call (.Name y p2) [a] [] pos2) X.env) :: starEach [] X.env := by rfl) (h2 : starEach [a] X.env = (false, eval a X.env) :: starEach [] X.env := by rfl) (h3 : (backTo pos (starEach [] X.env)).any (·.1) = false := by rfl) (h4 : (backTo pos2 (starEach [] X.env)).any (·.1) = false := by rfl) :
    ZE X (.Call (.Name x p) [.Call (.Name y p2) [a] [] pos2] [] pos) (dUn oSortSet fa) := fun W xg =>
  PE.imp (pe_callB (CallR.or' (cr_sortN hc hu) (CallR.or' (cr_sortT hc hu) (cr_sortI hc hu))) hg hm hv (pa_cons (pe_callTy (CallR.or' (cr_setN hc hu) (CallR.or' (cr_setT hc hu) (cr_setI hc hu))) hg2 hm2 hv2 (pa_cons (ha W xg) pa_nil h2) hn2 hd2 h2 h4) pa_nil h1) hn hd h1 h3) fun σ H Q ⟨ρ, st, m, S, E, P⟩ =>
    tz_seq (X := X) (k := fun _ u st1 => R.ofO st1 (oSortSet st1 u)) S E P fun u st1 v m1 H1 S1 E1 r1 l1 P1 => by
      have P1 := PostO.of P1
      show rSetN X [v] H1 (fun v2 H2 => rSortN X [v2] H2 Q ∨ (rSortT X [v2] H2 Q ∨ rSortI X [v2] H2 Q)) ∨ (rSetT X [v] H1 (fun v2 H2 => rSortN X [v2] H2 Q ∨ (rSortT X [v2] H2 Q ∨ rSortI X [v2] H2 Q)) ∨ rSetI X [v] H1 fun v2 H2 => rSortN X [v2] H2 Q ∨ (rSortT X [v2] H2 Q ∨ rSortI X [v2] H2 Q))
      unfold oSortSet at P1
      split at P1
      · rename_i us e
        obtain ⟨l, vs, rfl, e1, rr⟩ := rep_seqL (K := X.K) S1 r1 (.inl e) rfl
        exact post_any S1 (.inl e1) rr P1
      · rename_i us e
        obtain ⟨l, vs, rfl, e1, rr⟩ := rep_seqL (K := X.K) S1 r1 (.inr (deref_frz e)) rfl
        exact post_any S1 (.inl e1) rr P1
      · rename_i us e
        rw [deref_tup e] at r1
        obtain ⟨l, vs, rfl, e1, rr⟩ := rep_tup (K := X.K) r1 rfl
        exact post_any S1 (.inr e1) rr P1
      · exact P1.elim
end
end Z

namespace Z
open PySem PySem.Spec PyProof.Rows L2
/-! ### a comprehension whose list will be changed: a cell -/
@[simp] def dCompN (vs : List Nat) (fi : UEnv → Store → R (List U)) (g : Ct) (c : UEnv → Store → R Bool) (f : UEnv → Store → R U) : UEnv → Store → R U := fun ρ st =>
  (fi ρ st).bind fun us st1 => if us.length ≤ 16777216 then ((lcU g c f us (wipeU ρ vs) st1).noexc).bind fun ys st2 => .ok (.hdl st2.length) (st2 ++ [.lst ys]) else .stuck
theorem lc_postN {G : GC} {ct : Ct} {c : UEnv → Store → R Bool} {f : UEnv → Store → R U} {us : List U} {J : It} {g : TG} {tt : TT} {te : TE} {vs : List Nat} {σ : L2.St} {H1 : Hp} {m1 : MH} {ρ : UEnv} {st1 : Store} {EW : XK} {Q : VK}
    (hct : CtOk G g ct vs) (htt : ∀ σ H Q, tZT G (fun _ _ _ _ => False) c σ H Q → tt σ H Q) (hte : ∀ σ H Q, tZ G (fun _ _ _ _ => False) f σ H Q → te σ H Q)
    (Wk : WalksU G J us m1 H1) (S1 : Sim G m1 H1 st1) (E : REnv G m1 H1 ρ σ) (hl : us.length ≤ 16777216)
    (P : Post G m1 H1 (Rep G) EW Q (((lcU ct c f us (wipeU ρ vs) st1).noexc).bind fun ys st2 => .ok (.hdl st2.length) (st2 ++ [.lst ys]))) (D : Addr) (hD : H1 D = none) :
    ∃ W : Nat → Nat → Hp → Prop, (∃ m, W 0 m (upd H1 D (.lst []))) ∧ ∀ i m H, W i m H →
      (J.stop i H ∧ Q (.ref D) H) ∨ (J.go i H ∧ ∃ Nx : Hp → Prop, (∀ H', Nx H' → ∃ m', m' < m ∧ W (i + 1) m' H') ∧ ∀ x H', J.yld i H x H' → g x (wipe σ vs) H' fun σ2 H2 => wipe σ2 vs = wipe σ vs ∧ tt σ2 H2 fun b H3 =>
        if b = true then te σ2 H3 fun y H4 => ∃ acc, H4 D = some (.lst acc) ∧ acc.length < sizeLine ∧ Nx (upd H4 D (.lst (acc ++ [y]))) else Nx H3) := by
  have hDo : ¬ m1.own D := S1.off hD
  have hDa : ∀ n, m1.at_ n ≠ some D := fun n e => hDo (S1.own n D e)
  let Wf : Nat → Nat → Hp → Prop := fun i k H' => k = us.length - i ∧ i ≤ us.length ∧ ∃ (st' : Store) (m' : MH) (acc : List U) (ws : List V), Le m1 H1 m' H' ∧ m'.own D ∧ (∀ n, m'.at_ n ≠ some D) ∧ H' D = some (.lst ws) ∧ Sim G m' H' st' ∧ Reps G m' H' acc ws ∧ acc.length ≤ i ∧
    Post G m1 H1 (Rep G) EW Q (((lcU ct c f (us.drop i) (wipeU ρ vs) st').noexc).bind fun ys st2 => .ok (.hdl st2.length) (st2 ++ [.lst (acc ++ ys)]))
  refine ⟨Wf, ⟨us.length, by simp, Nat.zero_le _, st1, ⟨m1.at_, fun a => a = D ∨ m1.own a⟩, [], [], ?_, .inl rfl, hDa, upd_same, ?_, .nil, Nat.zero_le _, P⟩, ?_⟩
  · exact ⟨fun _ _ h => h, fun _ _ h => .inl h, fun _ h => .inr h, fun a h => by
      rcases h with rfl | h
      · exact .inr (.inl hD)
      · exact .inl h, fun a o e _ _ => by rw [upd_ne (ne_of_none e hD)]; exact e, (le_new (m := m1) hD).live⟩
  · have st : Stays m1 H1 ⟨m1.at_, fun a => a = D ∨ m1.own a⟩ (upd H1 D (.lst [])) := ⟨fun _ _ h => h, fun a o e n _ => ⟨by rw [upd_ne (ne_of_none e hD)]; exact e, fun z => by
      rcases z with rfl | z
      · rw [hD] at e; cases e
      · exact n z⟩⟩
    refine ⟨S1.dom, S1.lt, S1.inj, fun n a e => .inr (S1.own n a e), fun a e => ?_, fun n c a e1 e2 => ?_, tabs_new S1.tabs hD⟩
    · rcases e with rfl | e
      · exact ⟨_, upd_same, nofun⟩
      · obtain ⟨o, e1, nt⟩ := S1.live a e
        exact ⟨o, by rw [upd_ne (ne_of_none e1 hD)]; exact e1, nt⟩
    · obtain ⟨o, e3⟩ := S1.atlive e2
      exact (S1.cell n c a e1 e2).stay st (upd_ne (ne_of_none e3 hD))
  · rintro i k H' ⟨rfl, hi, st', m', acc, ws, L, hO, hA, hW, S', Ra, hal, P'⟩
    by_cases hlt : i < us.length
    · refine .inr ⟨Wk.go i m' H' hlt L, fun H2 => Wf (i + 1) (us.length - (i + 1)) H2, fun H2 w => ⟨us.length - (i + 1), by omega, w⟩, fun x H2 y => ?_⟩
      obtain ⟨m2, l2, S2, r2⟩ := Wk.yld i m' H' x H2 st' us[i] (List.getElem?_eq_getElem hlt) L S' y
      have L2 : Le m1 H1 m2 H2 := L.trans l2
      rw [List.drop_eq_getElem_cons hlt] at P'
      simp only [lcU] at P'
      have E2 : REnv G m2 H2 (wipeU ρ vs) (wipe σ vs) := (renv_wipe E vs).mono S1 L2
      cases e0 : ct us[i] (wipeU ρ vs) with
      | none => simp only [e0] at P'; exact P'.elim
      | some ρ1 =>
        simp only [e0] at P'
        refine hct x us[i] _ H2 _ _ ρ1 m2 E2 r2 e0 fun σ2 E3 hw => ⟨hw.trans wipe_wipe, ?_⟩
        have stayD : ∀ {m3 : MH} {H3 : Hp}, Le m' H' m3 H3 → m3.own D ∧ (∀ n, m3.at_ n ≠ some D) ∧ H3 D = some (.lst ws) := fun {m3 H3} l => ⟨l.grow D hO, l.off hW hA, l.keep D _ hW hA nofun⟩
        refine htt _ _ _ ⟨ρ1, st', m2, S2, E3, ?_⟩
        cases e1 : c ρ1 st' with
        | exc _ _ => rw [e1] at P'; exact P'.elim
        | stuck => rw [e1] at P'; exact P'.elim
        | ok b st2 =>
          rw [e1] at P'
          simp only [R.bind_ok] at P'
          intro b' m3 H3 l3 S3 eb
          have eb : b = b' := eb
          subst eb
          have L3 : Le m' H' m3 H3 := l2.trans l3
          cases b with
          | false =>
            rw [if_neg Bool.false_ne_true]
            simp only [Bool.false_eq_true, if_false] at P'
            obtain ⟨d1, d2, d3⟩ := stayD L3
            exact ⟨rfl, hlt, st2, m3, acc, ws, L.trans L3, d1, d2, d3, S3, Ra.mono S' L3, by omega, P'⟩
          | true =>
            rw [if_pos rfl]
            simp only [if_true] at P'
            refine hte _ _ _ ⟨ρ1, st2, m3, S3, E3.mono S2 l3, ?_⟩
            cases e2 : f ρ1 st2 with
            | exc _ _ => rw [e2] at P'; exact P'.elim
            | stuck => rw [e2] at P'; exact P'.elim
            | ok y st3 =>
              rw [e2] at P'
              simp only [R.bind_ok] at P'
              intro v m4 H4 l4 S4 ry
              have L4 : Le m' H' m4 H4 := L3.trans l4
              obtain ⟨d1, d2, d3⟩ := stayD L4
              have LB : Le m1 H1 m4 H4 := L.trans L4
              have hlen := Ra.length
              have sz := line_eq
              refine ⟨ws, d3, by omega, rfl, hlt, st3, m4, acc ++ [y], ws ++ [v], ?_, d1, d2, upd_same, ?_, ?_, by rw [List.length_append, List.length_singleton]; omega, ?_⟩
              · exact ⟨LB.sub, LB.new, LB.grow, LB.fresh, fun a o e n t => by rw [upd_ne (ne_of_none e hD)]; exact LB.keep a o e n t, fun a e => by
                  by_cases q : a = D
                  · subst q; exact (e.no upd_same nofun).elim
                  · unfold Off at e; rw [upd_ne q] at e; exact LB.live a e⟩
              · have st5 : Stays m4 H4 m4 (upd H4 D (.lst (ws ++ [v]))) := ⟨fun _ _ h => h, fun a o e n _ => ⟨by rw [upd_ne (fun q => n (by rw [q]; exact d1))]; exact e, n⟩⟩
                refine ⟨S4.dom, S4.lt, S4.inj, S4.own, fun a e => ?_, fun n c a e1 e2 => ?_, tabs_upd S4.tabs d3⟩
                · by_cases q : a = D
                  · exact ⟨.lst (ws ++ [v]), by rw [q]; exact upd_same, nofun⟩
                  · obtain ⟨o, e1, nt⟩ := S4.live a e
                    exact ⟨o, by rw [upd_ne q]; exact e1, nt⟩
                · exact (S4.cell n c a e1 e2).stay st5 (upd_ne fun q => d2 n (q ▸ e2))
              · have st5 : Stays m4 H4 m4 (upd H4 D (.lst (ws ++ [v]))) := ⟨fun _ _ h => h, fun a o e n _ => ⟨by rw [upd_ne (fun q => n (by rw [q]; exact d1))]; exact e, n⟩⟩
                exact ((Ra.mono S' L4).append (.cons ry .nil)).stay st5
              · cases e3 : lcU ct c f (us.drop (i + 1)) (wipeU ρ vs) st3 with
                | ok ys st4 =>
                  rw [e3] at P'
                  simpa using P'
                | exc _ _ => rw [e3] at P'; exact P'.elim
                | stuck => rw [e3] at P'; exact P'.elim
    · have e : i = us.length := by omega
      subst e
      rw [List.drop_length] at P'
      simp only [lcU, R.noexc_ok, R.bind_ok, List.append_nil] at P'
      have st5 : Stays m' H' ⟨fun k => if k = st'.length then some D else m'.at_ k, m'.own⟩ H' := ⟨fun n a h => by
        have := S'.lt n a h
        show (if n = st'.length then some D else m'.at_ n) = some a
        rw [if_neg (by omega)]; exact h, fun a o e n _ => ⟨e, n⟩⟩
      have put : ∀ n a, (if n = st'.length then some D else m'.at_ n) = some a → (n = st'.length ∧ a = D) ∨ (n ≠ st'.length ∧ m'.at_ n = some a) := fun n a e => by
        split at e
        · rename_i q; exact .inl ⟨q, (Option.some.inj e).symm⟩
        · rename_i q; exact .inr ⟨q, e⟩
      refine .inl ⟨Wk.stop m' H' L, P' (.ref D) ⟨fun k => if k = st'.length then some D else m'.at_ k, m'.own⟩ H' ?_ ?_ (.hdl (if_pos rfl))⟩
      · refine ⟨fun n a h => st5.sub n a (L.sub n a h), fun n a h => ?_, L.grow, L.fresh, L.keep, L.live⟩
        rcases put n a h with ⟨_, q⟩ | ⟨_, q⟩
        · rw [q]; exact .inr (.inl hD)
        · exact L.new n a q
      · refine ⟨fun n hn => ?_, fun n a e => ?_, fun n k a e1 e2 => ?_, fun n a e => ?_, S'.live, fun n c a e1 e2 => ?_, S'.tabs⟩
        · by_cases q : n = st'.length
          · exact ⟨D, if_pos q⟩
          · rw [List.length_append, List.length_singleton] at hn
            obtain ⟨a, e⟩ := S'.dom n (by omega)
            exact ⟨a, st5.sub n a e⟩
        · rw [List.length_append, List.length_singleton]
          rcases put n a e with ⟨q, _⟩ | ⟨_, q⟩
          · omega
          · have := S'.lt n a q; omega
        · rcases put n a e1 with ⟨q1, z1⟩ | ⟨q1, z1⟩
          · rcases put k a e2 with ⟨q2, z2⟩ | ⟨q2, z2⟩
            · omega
            · subst z1; exact absurd z2 (hA k)
          · rcases put k a e2 with ⟨q2, z2⟩ | ⟨q2, z2⟩
            · subst z2; exact absurd z1 (hA n)
            · exact S'.inj n k a z1 z2
        · rcases put n a e with ⟨_, q⟩ | ⟨_, q⟩
          · rw [q]; exact hO
          · exact S'.own n a q
        · rcases put n a e2 with ⟨q, z⟩ | ⟨q, z⟩
          · subst q z
            rw [List.getElem?_append_right (Nat.le_refl _)] at e1
            simp at e1
            subst e1
            exact ⟨ws, hW, Ra.stay st5⟩
          · have hn := S'.lt n a z
            rw [List.getElem?_append_left hn] at e1
            exact (S'.cell n c a e1 z).stay st5 rfl
section
variable {X : Cx} {elt tg iter cnd : Expr} {scope : Scope} {own : List (Str × Nat)} {pos : Pos} {fi : UEnv → Store → R (List U)} {ct : Ct} {c : UEnv → Store → R Bool} {f : UEnv → Store → R U} {g : TG}
theorem lc_useN {G : GC} {W : WX} {σ : L2.St} {H : Hp} {Q : VK} {vs : List Nat} {tt : TT} {te : TE} (hct : CtOk G g ct vs) (htt : ∀ σ H Q, tZT G (fun _ _ _ _ => False) c σ H Q → tt σ H Q) (hte : ∀ σ H Q, tZ G (fun _ _ _ _ => False) f σ H Q → te σ H Q)
    (h : tZ G W (dCompN vs fi ct c f) σ H Q) : tLc (tZI G W fi) g tt te vs σ H Q := by
  obtain ⟨ρ, st, m, S, E, P⟩ := h
  refine ⟨ρ, st, m, S, E, Post.bind (γ := U) (k := fun us st1 => if us.length ≤ 16777216 then ((lcU ct c f us (wipeU ρ vs) st1).noexc).bind fun ys st2 => .ok (U.hdl st2.length) (st2 ++ [.lst ys]) else .stuck) P fun us st1 J m1 H1 _ l S1 Wk p => ?_⟩
  intro D hD
  split at p
  · rename_i hl
    exact lc_postN hct htt hte Wk S1 (E.mono S l) hl p D hD
  · exact p.elim
theorem ze_lcN [TB] (hc : X.calm = true) (hN : X.N.Nodup) (hi : ZI X tg iter fi) (hct : CtOk (gc X) g ct (own.map (·.2)))
    (hg : ∀ (s : Shared) (H : Hp) (C : Addr) (cl : List (Str × Addr)) (fp : List Addr), PG (X.blk s H scope (compEnvC scope cl C X.env) fp) tg g)
    (he : ∀ (s : Shared) (H : Hp) (C : Addr) (cl : List (Str × Addr)) (fp : List Addr), ZE (X.blk s H scope (compEnvC scope cl C X.env) fp) elt f)
    (ok : blkC X.N X.env.scope scope own = true := by decide +kernel) (hs : ∀ x, foldedSetIterable iter X.env x = pure x := by intro _; rfl) : ZE X (.ListComp elt [⟨tg, iter, [], 0⟩] scope pos) (dCompN (own.map (·.2)) fi ct cYes f) := fun W xg =>
  PE.imp (pe_lc hc hN (hi W xg) (blkOk_by ok) hg (fun _ _ _ _ _ => pts_nil) (fun s H C cl fp => he s H C cl fp _ xg_blk) hs) fun σ H Q h =>
    lc_useN hct (fun σ H Q ⟨ρ, st, m, S, E, P⟩ => post_ok P S rfl) (fun _ _ _ h => h) h
theorem ze_lcIfN [TB] (hc : X.calm = true) (hN : X.N.Nodup) (hi : ZI X tg iter fi) (hct : CtOk (gc X) g ct (own.map (·.2)))
    (hg : ∀ (s : Shared) (H : Hp) (C : Addr) (cl : List (Str × Addr)) (fp : List Addr), PG (X.blk s H scope (compEnvC scope cl C X.env) fp) tg g)
    (ht : ∀ (s : Shared) (H : Hp) (C : Addr) (cl : List (Str × Addr)) (fp : List Addr), ZT (X.blk s H scope (compEnvC scope cl C X.env) fp) cnd c)
    (he : ∀ (s : Shared) (H : Hp) (C : Addr) (cl : List (Str × Addr)) (fp : List Addr), ZE (X.blk s H scope (compEnvC scope cl C X.env) fp) elt f)
    (ok : blkC X.N X.env.scope scope own = true := by decide +kernel) (hs : ∀ x, foldedSetIterable iter X.env x = pure x := by intro _; rfl) : ZE X (.ListComp elt [⟨tg, iter, [cnd], 0⟩] scope pos) (dCompN (own.map (·.2)) fi ct c f) := fun W xg =>
  PE.imp (pe_lc hc hN (hi W xg) (blkOk_by ok) hg (fun s H C cl fp => pts_one (ht s H C cl fp _ xg_blk)) (fun s H C cl fp => he s H C cl fp _ xg_blk) hs) fun σ H Q h =>
    lc_useN hct (fun _ _ _ h => h) (fun _ _ _ h => h) h
/-- name = [..] -/
theorem zs_setLcN [TB] {i : Nat} {y : Str} {py : Pos} {spos : Pos} (hc : X.calm = true) (hN : X.N.Nodup) (hi : ZI X tg iter fi) (hct : CtOk (gc X) g ct (own.map (·.2)))
    (hg : ∀ (s : Shared) (H : Hp) (C : Addr) (cl : List (Str × Addr)) (fp : List Addr), PG (X.blk s H scope (compEnvC scope cl C X.env) fp) tg g)
    (he : ∀ (s : Shared) (H : Hp) (C : Addr) (cl : List (Str × Addr)) (fp : List Addr), ZE (X.blk s H scope (compEnvC scope cl C X.env) fp) elt f)
    (hsw : swapsWith (.ListComp elt [⟨tg, iter, [], 0⟩] scope pos) (some (.Name y py)) spos.line X.env = pure true) (hy : X.N[i]? = some y := by rfl) (hyl : X.env.scope.names.lookup y = some .local := by rfl)
    (ok : blkC X.N X.env.scope scope own = true := by decide +kernel) (hs : ∀ x, foldedSetIterable iter X.env x = pure x := by intro _; rfl) : ZS X (.Assign [.Name y py] (.ListComp elt [⟨tg, iter, [], 0⟩] scope pos) spos) (sSet i (dCompN (own.map (·.2)) fi ct cYes f)) := fun W xg =>
  PS.imp (ps_setLc hc hN hy hyl hsw (hi W xg) (blkOk_by ok) hg (fun _ _ _ _ _ => pts_nil) (fun s H C cl fp => he s H C cl fp _ xg_blk) hs) fun D σ H ⟨ρ, st, m, S, E, P⟩ =>
    lc_useN hct (fun σ H Q ⟨ρ, st, m, S, E, P⟩ => post_ok P S rfl) (fun _ _ _ h => h) ⟨ρ, st, m, S, E, PostS.bind (k := fun u st1 => .ok (.nx (ρ.set i (some u))) st1) P fun u st1 v m1 H1 _ l S1 r p => p _ m1 H1 Le.refl S1 ((E.mono S l).set i r)⟩
theorem zs_setLcIfN [TB] {i : Nat} {y : Str} {py : Pos} {spos : Pos} (hc : X.calm = true) (hN : X.N.Nodup) (hi : ZI X tg iter fi) (hct : CtOk (gc X) g ct (own.map (·.2)))
    (hg : ∀ (s : Shared) (H : Hp) (C : Addr) (cl : List (Str × Addr)) (fp : List Addr), PG (X.blk s H scope (compEnvC scope cl C X.env) fp) tg g)
    (ht : ∀ (s : Shared) (H : Hp) (C : Addr) (cl : List (Str × Addr)) (fp : List Addr), ZT (X.blk s H scope (compEnvC scope cl C X.env) fp) cnd c)
    (he : ∀ (s : Shared) (H : Hp) (C : Addr) (cl : List (Str × Addr)) (fp : List Addr), ZE (X.blk s H scope (compEnvC scope cl C X.env) fp) elt f)
    (hsw : swapsWith (.ListComp elt [⟨tg, iter, [cnd], 0⟩] scope pos) (some (.Name y py)) spos.line X.env = pure true) (hy : X.N[i]? = some y := by rfl) (hyl : X.env.scope.names.lookup y = some .local := by rfl)
    (ok : blkC X.N X.env.scope scope own = true := by decide +kernel) (hs : ∀ x, foldedSetIterable iter X.env x = pure x := by intro _; rfl) : ZS X (.Assign [.Name y py] (.ListComp elt [⟨tg, iter, [cnd], 0⟩] scope pos) spos) (sSet i (dCompN (own.map (·.2)) fi ct c f)) := fun W xg =>
  PS.imp (ps_setLc hc hN hy hyl hsw (hi W xg) (blkOk_by ok) hg (fun s H C cl fp => pts_one (ht s H C cl fp _ xg_blk)) (fun s H C cl fp => he s H C cl fp _ xg_blk) hs) fun D σ H ⟨ρ, st, m, S, E, P⟩ =>
    lc_useN hct (fun _ _ _ h => h) (fun _ _ _ h => h) ⟨ρ, st, m, S, E, PostS.bind (k := fun u st1 => .ok (.nx (ρ.set i (some u))) st1) P fun u st1 v m1 H1 _ l S1 r p => p _ m1 H1 Le.refl S1 ((E.mono S l).set i r)⟩
end
end Z

namespace Z
open PySem PySem.Spec PyProof.Rows L2
/-! ### dict(pairs), that will be changed: a cell -/
def dictOf (st : Store) (u : U) : Option (List U × List U) := match deref st u with
  | .lst xs => (prsU xs).map fun p => mrgU [] [] p.1 p.2
  | .frz xs => (prsU xs).map fun p => mrgU [] [] p.1 p.2
  | _ => none
def R.newD (st : Store) : Option (List U × List U) → R U
  | some p => .ok (.hdl st.length) (st ++ [.dct p.1 p.2])
  | none => .stuck
@[simp] theorem R.newD_some (st : Store) (p : List U × List U) : R.newD st (some p) = .ok (.hdl st.length) (st ++ [.dct p.1 p.2]) := rfl
@[simp] def dDictN (fa : UEnv → Store → R U) : UEnv → Store → R U := fun ρ st => (fa ρ st).bind fun a st1 => R.newD st1 (dictOf st1 a)
theorem ze_dictN [TB] {X : Cx} {y : Str} {a : Expr} {fa : UEnv → Store → R U} {p pos : Pos} (hc : X.calm = true) (hm : X.mg y = none) (ha : ZE X a fa) (hv : bootBuiltins y = some (.type "dict") := by decide +kernel) (hn : y ≠ "__name__" := by decide +kernel) (hd : (y == ("__debug__" : Str)) = false := by decide +kernel) (hg : Gl X y := by rfl)
    (h1 : starEach [a] X.env = (false, eval a X.env) :: starEach [] X.env := by rfl) (h3 : (backTo pos (starEach [] X.env)).any (·.1) = false := by rfl) : ZE X (.Call (.Name y p) [a] [] pos) (dDictN fa) := fun W xg =>
  PE.imp (pe_callTy (call_dictP hc) hg hm hv (pa_cons (ha W xg) pa_nil h1) hn hd h1 h3) fun σ H Q ⟨ρ, st, m, S, E, P⟩ =>
    tz_seq (X := X) (k := fun _ u st1 => R.newD st1 (dictOf st1 u)) S E P fun u st1 v m1 H1 S1 E1 r1 l1 P1 => by
      have key : ∀ ys : List U, (deref st1 u = .lst ys ∨ u = .frz ys) → dictOf st1 u = (prsU ys).map (fun p => mrgU [] [] p.1 p.2) → ∃ (l : Addr) (ps : List Addr) (kvs : List (L2.Key × V)), [v] = [V.ref l] ∧ SqL X.K H1 l (ps.map V.ref) ∧ Paired (fun p kv => SqT X.K H1 p [kV kv.1, kv.2]) ps kvs ∧ ∀ q, H1 q = none → Q (.ref q) (upd H1 q (.dK (mergeK [] kvs))) := by
        intro ys e ed
        rw [ed] at P1
        obtain ⟨l, vs, rfl, h1, rr⟩ := rep_seqL (K := X.K) S1 r1 e rfl
        cases hp : prsU ys with
        | none => rw [hp] at P1; exact P1.elim
        | some q =>
          obtain ⟨ks, ws⟩ := q
          rw [hp] at P1
          obtain ⟨ps, kvs, rfl, k1, k2, k3⟩ := prs_rel rr hp
          obtain ⟨q1, q2⟩ := mrg_rel kvs [] [] [] ks ws .nil .nil k2 k3
          refine ⟨l, ps, kvs, rfl, h1, k1, fun q hq => ?_⟩
          refine P1 _ (mput m1 st1.length q) _ (le_alloc S1 hq) (S1.alloc hq ⟨_, upd_same, q1.mono S1 (le_alloc S1 hq), q2.mono S1 (le_alloc S1 hq)⟩) (.hdl ?_)
          exact if_pos rfl
      cases hdr : deref st1 u with
      | lst ys => exact key ys (.inl hdr) (by unfold dictOf; rw [hdr])
      | frz ys => exact key ys (.inr (deref_frz hdr)) (by unfold dictOf; rw [hdr])
      | _ =>
        have : dictOf st1 u = none := by unfold dictOf; rw [hdr]
        rw [this] at P1
        exact P1.elim
end Z

namespace Z
open PySem PySem.Spec PyProof.Rows L2
/-! ### except clauses, some of which are never taken (whatever stands in them) -/
abbrev ClD := Value × Option (Addr → Value → Option Addr → TS)
/-- what the clauses want -/
def wAlt (K : PySem.W.Frag) (Wo : WX) (D : Ends) : List ClD → WX
  | [] => Wo
  | (c, none) :: r => fun cls d σ H => PySem.W.exmOne K cls c = some false ∧ wAlt K Wo D r cls d σ H
  | (c, some t) :: r => fun cls d σ H => ∃ b : Bool, PySem.W.exmOne K cls c = some b ∧ (b = true → ∀ a : Addr, H a = none → t a cls d D σ H) ∧ (b = false → wAlt K Wo D r cls d σ H)
inductive HdsD (X : Cx) : List ExceptHandler → List ClD → Prop
  | nil : HdsD X [] []
  | dead {x : Str} {c : Value} {nm : Option Str} {suite : List Stmt} {np q : Pos} {hs : List ExceptHandler} {l : List ClD} (n : Names X x c) (r : HdsD X hs l) : HdsD X (.ExceptHandler (some (.Name x np)) nm suite q :: hs) ((c, none) :: l)
  | live {x : Str} {c : Value} {t : Addr → Value → Option Addr → TS} {b₀ : Stmt} {suite : List Stmt} {np q : Pos} {hs : List ExceptHandler} {l : List ClD} (n : Names X x c)
      (run : ∀ (a : Addr) (o : Obj) (cls : Value) (d : Option Addr) (pn : List (Addr × Obj)), Zc cls d o → (∃ vs, o.data = .fields vs) → PSs (X.suite a ((a, o) :: pn)) (b₀ :: suite) (t a cls d)) (r : HdsD X hs l) :
      HdsD X (.ExceptHandler (some (.Name x np)) none (b₀ :: suite) q :: hs) ((c, some t) :: l)
section
variable {X : Cx}
/-- an exception that has landed goes through the clauses -/
theorem hand_chain {D : Ends} {Wo : WX} {cls : Value} {d : Option Addr} {a : Addr} {B h : Heap} {sI s' : Shared} {pins : List (Addr × Obj)} {σ : L2.St} {H : Hp} (ok : X.Ok) (hs : X.stack = X.env :: X.outer) (hf : X.env.frame = some X.env.locals) (tk : Takes X Wo)
    (J : Inv X pins σ H sI) (nb : ∀ b o, sI.heap.get? b = some o → b ∉ frs X.stack → B.get? b = some o) (up : sI.heap.UpToSlots h) (na : H a = none) (os : s'.os = sI.os) (ag : AllBare s'.gens) (fl : HandSPX.FlyingZ B (X.env :: X.outer) a (Zc cls d) h)
    (J3 : Inv X pins σ H { s' with heap := h }) (nL : a ≠ X.env.locals) (nF : a ∉ X.fs) :
    ∀ {hs' : List ExceptHandler} {l : List ClD}, HdsD X hs' l → wAlt X.K Wo D l cls d σ H → wpAny (model X.prog X.w) X.A (handleBy (.ref a) X.env hs') (SP X pins D) X.xe { s' with heap := h } := by
  obtain ⟨oE, vE, gE, zE, dE⟩ := fl.there
  have S3 := J3.suite gE dE na nL nF
  -- the head of one clause, by name: does it fit?
  have fits : ∀ {x : Str} {c : Value} {np p : Pos} {b : Bool} {R : Except Value Flow → Shared → Prop}, Names X x c → PySem.W.exmOne X.K cls c = some b → R (.ok (if b = true then .brk else .next)) { s' with heap := h } →
      codeAny (model X.prog X.w) (X.A.mark (some (.ref a))) (.handlers (.ref a) [.ExceptHandler (some (.Name x np)) none [] p] X.env) R { s' with heap := h } := by
    intro x c np p b R n hb q
    refine codeAny_handlers_test ?_
    have look : PySem.W.Looks (model X.prog X.w) h (typeOf (.ref a)) cls := by
      intro A Q E s k z
      exact wpAny_typeOf_ref (k _ _ gE) (by rw [zE.1]; exact z)
    have lm := PySem.W.exm_one (M := model X.prog X.w) J3.kIn look hb
    rcases n with ⟨g, nd, m⟩
    rcases m with m | ⟨m, hv, hn⟩
    · exact ld_glob (X := X.suite a ((a, oE) :: (X.pn ++ pins))) S3 g m (lm.here q) nd
    · exact ld_blt (X := X.suite a ((a, oE) :: (X.pn ++ pins))) S3 g m hv (lm.here q) hn nd
  intro hs' l hd
  induction hd with
  | nil =>
    intro w
    obtain ⟨k1, k2, k3, oe, vs, T, oT, ts', he, hz, hdd, h1, hr⟩ := id fl
    have up1 : wpAny (model X.prog X.w) X.A (setFlight (.ref a) X.env.frame) (fun _ t => wpAny (model X.prog X.w) X.A (throw (.ref a) : Sem Flow) (SP X pins D) X.xe t) X.xe { s' with heap := h } := by
      rw [hf]
      refine HandSPX.setFlight_upZ fl fun h4 hh4 up4 => wpAny_throw ?_
      refine tk _ _ ⟨a, B, sI, pins, σ, H, cls, d, rfl, J, nb, up.trans up4, ?_, na, os, ag, w⟩
      exact .inr (.inr (by rw [hs]; exact hh4))
    refine wpAny_handleBy_nil ?_
    unfold PySem.passOn
    refine wpAny_bind (wpAny_field he hdd h1 ?_)
    have hne : ¬ ((Value.ref T == Value.none) = true) := by simp
    rw [if_neg hne]
    first
      | exact wpAny_bind (wpAny_pure (wpAny_bind up1))
      | exact wpAny_bind up1
  | dead n r ih =>
    rintro ⟨hb, w⟩
    exact wpAny_handleBy_cons (fits n hb (ih w)) (fun z => nomatch z)
  | live n run r ih =>
    rintro ⟨b, hb, yes, no⟩
    refine wpAny_handleBy_cons (fits n hb ?_) (fun z => nomatch z)
    cases b with
    | false => exact ih (no rfl)
    | true =>
      refine codeAny_handlers_suite (HandSPX.lands_againZ fl fun h4 fl4 up4 => ?_)
      have J4 : Inv X pins σ H { s' with heap := h4 } := J.landed nb fl4.1 (up.trans up4) os ag
      obtain ⟨oe4, vs4, he4, hz4, hd4⟩ := fl4.there
      refine wpAny_mono ((run a oe4 cls d (X.pn ++ pins) hz4 ⟨_, hd4⟩).run [] _ _ H _ (J4.suite he4 hd4 na nL nF) (yes rfl a na)) ?_ (fun _ _ z => z.elim)
      intro f s6 hsp
      match f, hsp with
      | .next, ⟨σ6, H6, S6, q6⟩ => exact ⟨_, _, S6.unsuite ok, q6⟩
      | .brk, ⟨σ6, H6, S6, q6⟩ => exact ⟨_, _, S6.unsuite ok, q6⟩
      | .cont, ⟨σ6, H6, S6, q6⟩ => exact ⟨_, _, S6.unsuite ok, q6⟩
      | .ret u, ⟨v6, σ6, H6, S6, r6, q6⟩ => exact ⟨_, _, _, S6.unsuite ok, r6, q6⟩
theorem ps_try_alt {body : List Stmt} {h₀ : ExceptHandler} {hds : List ExceptHandler} {l : List ClD} {pos : Pos} {tb : WX → TS} {Wo : WX} (hs : X.stack = X.env :: X.outer) (hf : X.env.frame = some X.env.locals) (tk : Takes X Wo)
    (hb : ∀ (W : WX) (pn : List (Addr × Obj)) (xe : Value → Shared → Prop), Takes (X.tr pn xe) W → PassesOwn (model X.prog X.w) X.A X.env xe → PSs (X.tr pn xe) body (tb W)) (hh : HdsD X (h₀ :: hds) l) :
    PS X (.Try body (h₀ :: hds) [] [] pos) fun D σ H => tb (wAlt X.K Wo D l) D σ H := by
  constructor
  intro pins s σ H D I h
  have ok := I.ok
  have hfr : X.A.frames = some (X.env :: X.outer) := by rw [ok.frames, hs]
  have tk2 : Takes (X.tr (X.pn ++ pins) (fun e s₁ => wpAny (model X.prog X.w) X.A (noteFrame e X.env) (fun _ s₂ => wpAny (model X.prog X.w) X.A (setFlight e none) (fun _ s₃ => wpAny (model X.prog X.w) X.A (handleBy e X.env (h₀ :: hds)) (SP X pins D) X.xe s₃) X.xe s₂) X.xe s₁)) (wAlt X.K Wo D l) := by
    intro u s' xx
    obtain ⟨a, B, sI, pins', σ', H', cls, d, rfl, J', nb, up, sky, na, os, ag, w⟩ := xx
    have J : Inv X pins σ' H' sI := J'.ofTry ok
    show wpAny (model X.prog X.w) X.A (noteFrame (.ref a) X.env) _ _ _
    have sky' : Sky B (X.env :: X.outer) a (Zc cls d) X.env.locals s'.heap := by rw [← hs]; exact sky
    refine Sky.land Zc.steady hfr hf sky' fun h3 fl3 up3 => ?_
    obtain ⟨oe3, vs3, he3, hz3, hd3⟩ := fl3.there
    have nfr : a ∉ frs (X.env :: X.outer) := fun hm => by
      obtain ⟨_, o', e', hnf⟩ := fl3.2.2.1.mem hm
      rw [he3] at e'
      cases e'
      exact hnf _ hd3
    have nL : a ≠ X.env.locals := fun z => nfr (by
      refine List.mem_filterMap.mpr ⟨X.env, .head _, ?_⟩
      rw [hf, z])
    have nF : a ∉ X.fs := fun hm => by
      obtain ⟨e, he, q⟩ := List.mem_filterMap.mp hm
      exact nfr (List.mem_filterMap.mpr ⟨e, .tail _ he, q⟩)
    exact hand_chain ok hs hf tk J nb (up.trans up3) na os ag fl3 (J.landed nb fl3.1 (up.trans up3) os ag) nL nF hh w
  refine wpAny_Try_except (wpAny_mono ((hb (wAlt X.K Wo D l) (X.pn ++ pins) _ tk2 PassesOwn.looking).run [] s σ H D (I.toTry _) h) ?_ fun e s1 he => he)
  intro f s1 hsp
  match f, hsp with
  | .next, ⟨σ', H', J', q⟩ => exact wpAny_execs_nil ⟨σ', H', J'.ofTry ok, q⟩
  | .brk, ⟨σ', H', J', q⟩ => exact ⟨σ', H', J'.ofTry ok, q⟩
  | .cont, ⟨σ', H', J', q⟩ => exact ⟨σ', H', J'.ofTry ok, q⟩
  | .ret u, ⟨v, σ', H', J', r, q⟩ => exact ⟨v, σ', H', J'.ofTry ok, r, q⟩
end

/-! ### a def that tells the exception of what it calls: some clauses are never taken -/
abbrev ClU := List (Str × Option Str)
def tellXD (t : SubT) : ClU → Ex → Store → R U
  | [], _, _ => .stuck
  | (c, none) :: r, e, st => match subOf t e.cls c with
    | some false => tellXD t r e st
    | _ => .stuck
  | (c, some w) :: r, e, st => match subOf t e.cls c with
    | some true => .ok (.str w) st
    | some false => tellXD t r e st
    | none => .stuck
def tellD (t : SubT) (l : ClU) : R U → R U
  | .ok _ st => .ok (.str "") st
  | .exc e st => tellXD t l e st
  | .stuck => .stuck
@[simp] theorem tellD_ok (t : SubT) (l : ClU) (u : U) (st : Store) : tellD t l (.ok u st) = .ok (.str "") st := rfl
@[simp] theorem tellD_exc (t : SubT) (l : ClU) (e : Ex) (st : Store) : tellD t l (.exc e st) = tellXD t l e st := rfl
@[simp] def dTellD (t : SubT) (l : ClU) (f : UEnv → Store → R U) : UEnv → Store → R U := fun ρ st => tellD t l (f ρ st)
def wTellD (K : PySem.W.Frag) (Q : VK) : List (Value × Option Str) → XK
  | [] => fun _ _ _ => False
  | (c, none) :: r => fun cls d H => PySem.W.exmOne K cls c = some false ∧ wTellD K Q r cls d H
  | (c, some w) :: r => fun cls d H => ∃ b, PySem.W.exmOne K cls c = some b ∧ (b = true → Q (.str w) H) ∧ (b = false → wTellD K Q r cls d H)
def TTellD (K : PySem.W.Frag) (l : List (Value × Option Str)) : (XK → Hp → VK → Prop) → Hp → VK → Prop := fun tl H Q => tl (wTellD K Q l) H fun _ H' => Q (.str "") H'
inductive HdsTD (X : Cx) : List ExceptHandler → List (Value × Option Str) → Prop
  | nil : HdsTD X [] []
  | dead {x : Str} {c : Value} {nm : Option Str} {suite : List Stmt} {np p3 : Pos} {hds : List ExceptHandler} {l : List (Value × Option Str)} (hc : Names X x c) (r : HdsTD X hds l) : HdsTD X (.ExceptHandler (some (.Name x np)) nm suite p3 :: hds) ((c, none) :: l)
  | cons {x w : Str} {c : Value} {np p1 p2 p3 : Pos} {j : Nat} {hds : List ExceptHandler} {l : List (Value × Option Str)} (hc : Names X x c) (r : HdsTD X hds l) :
      HdsTD X (.ExceptHandler (some (.Name x np)) none [.Return (some (.Constant (.str w) j p1)) p2] p3 :: hds) ((c, some w) :: l)
abbrev toCl (l : List (Value × Option Str)) : List ClD := l.map fun p => (p.1, p.2.map fun w => fun _ _ _ D _ H => D.rt (.str w) H)
theorem HdsTD.ok {X : Cx} {hds : List ExceptHandler} {l : List (Value × Option Str)} (h : HdsTD X hds l) : HdsD X hds (toCl l) := by
  induction h with
  | nil => exact .nil
  | dead hc r ih => exact .dead hc ih
  | cons hc r ih => exact .live hc (fun a oe cls d pn _ _ => pss_one (ps_ret pe_str)) ih
theorem alt_tell {K : PySem.W.Frag} {D : Ends} : ∀ {l : List (Value × Option Str)} {cls : Value} {d : Option Addr} {σ : L2.St} {H : Hp}, wTellD K D.rt l cls d H → wAlt K (fun _ _ _ _ => False) D (toCl l) cls d σ H
  | [], _, _, _, _, h => h
  | (c, none) :: r, _, _, _, _, ⟨b, h⟩ => ⟨b, alt_tell h⟩
  | (c, some w) :: r, cls, d, σ, H, ⟨b, e, h1, h2⟩ => ⟨b, e, fun hb a _ => h1 hb, fun hb => alt_tell (h2 hb)⟩
section
variable {X : Cx}
theorem tell_givesD {Ng : List Str} {x a q : Str} {sg : Scope} {g : Addr} {cdg : Value} {j : Nat} {h₀ : ExceptHandler} {hds : List ExceptHandler} {l : List (Value × Option Str)} {p1 p2 p3 p4 p5 p6 : Pos}
    (hh : ∀ (A : Around) (s : Shared) (H : Hp), HdsTD (cxOf C8.CX0 X.prog X.w X.K X.mg X.base Ng x sg g cdg A X.stack s H C8.E0).nox (h₀ :: hds) l) (h0 : ∀ f : Addr, (L2.start Ng [V.ref f])[0]? = some (some (V.ref f))) :
    LamX.GivesTo X Ng x sg g cdg [.Try [.Expr (.Call (.Name a p1) [] [] p2) p3] (h₀ :: hds) [] [] p4, .Return (some (.Constant (.str "") j p5)) p6] a q (TTellD X.K l) := by
  intro f c' s H Q tl act hc h
  refine ⟨_, pss_cons (ps_try_alt (X := (cxOf C8.CX0 X.prog X.w X.K X.mg X.base Ng x sg g cdg X.A X.stack s H C8.E0).nox)
      (tb := fun W D σ H => ∃ Ech : XK, (∀ cls d σ' H', Ech cls d H' → W cls d σ' H') ∧ σ[0]? = some (some (.ref f)) ∧ H c' = some (LamX.CodeO c' q) ∧ tl Ech H fun _ H' => D.nx σ H')
      rfl rfl LamX.takes0 (fun W pn xe tk _ => ?_) (hh X.A s H).ok) (pss_one (ps_ret pe_str)), ?_⟩
  · refine ⟨fun pins s' σ H' D I h' => ?_⟩
    obtain ⟨Ech, hW, h1, h2, h3⟩ := h'
    have hp := act W pn xe Ech p1 p2 tk hW
    exact (pss_one (ps_expr (pos := p3) hp)).run pins s' σ H' D I ⟨h1, h2, h3⟩
  · exact ⟨wTellD X.K Q l, fun cls d σ' H' w => alt_tell w, h0 f, hc, h⟩
end
abbrev lvsD (mg : Str → Option Value) (l : ClU) : List (Value × Option Str) := l.map fun p => ((mg p.1).getD .none, p.2)
theorem post_tellD {G : GC} {t : SubT} {Q : VK} {EW : XK} {m m' : MH} {H H' : Hp} {e : Ex} {st : Store} {cls : Value} {d : Option Addr} (hs : ∀ p ∈ t, ExmZ G.K G.mg p.1 p.2.1 p.2.2) (r : RepEx G m' H' e cls d) (lq : Le m H m' H') (S : Sim G m' H' st) :
    ∀ {l : ClU}, (∀ p ∈ l, ∀ w, p.2 = some w → PyData.strOk w = true ∧ w.length ≤ 16777216) → Post G m H (Rep G) EW Q (tellXD t l e st) → wTellD G.K Q (lvsD G.mg l) cls d H'
  | [], _, P => P.elim
  | (c, o) :: l, hw, P => by
    obtain ⟨C', f1, f2, _⟩ := id r
    have key : ∀ b, subOf t e.cls c = some b → PySem.W.exmOne G.K cls ((G.mg c).getD .none) = some b := fun b h => by
      obtain ⟨C, D, e1, e2, e3⟩ := (hs _ (subOf_mem h)).ex
      have e1 : G.mg e.cls = some (.ref C) := e1
      have e2 : G.mg c = some (.ref D) := e2
      rw [f1] at e1; cases e1
      rw [e2, f2]
      exact e3
    have ih := post_tellD hs r lq S (l := l) (EW := EW) (Q := Q) (m := m) (H := H) fun p hp => hw p (List.mem_cons_of_mem _ hp)
    cases o with
    | none =>
      unfold tellXD at P
      split at P
      · rename_i h
        exact ⟨key _ h, ih P⟩
      · exact P.elim
    | some w =>
      unfold tellXD at P
      cases h : subOf t e.cls c with
      | none => rw [h] at P; exact P.elim
      | some b =>
        rw [h] at P
        have ww := hw (c, some w) List.mem_cons_self w rfl
        refine ⟨b, key _ h, fun hb => ?_, fun hb => ?_⟩
        · subst hb
          exact P (.str w) m' H' lq S (.str w ww.1 ww.2)
        · subst hb
          exact ih P
def wordsOk (l : ClU) : Bool := l.all fun p => match p.2 with
  | some w => PyData.strOk w && decide (w.length ≤ 16777216)
  | none => true
theorem wordsOk_mem {l : ClU} (h : wordsOk l = true) : ∀ p ∈ l, ∀ w, p.2 = some w → PyData.strOk w = true ∧ w.length ≤ 16777216 := fun p hp w e => by
  have := List.all_eq_true.mp h p hp
  rw [e] at this
  simpa using this
theorem ze_tellD [TB] {X : Cx} {x a : Str} {st : Stmt} {Ng : List Str} {params : Arguments} {body : Expr} {scope : Scope} {p lpos pos : Pos} {k : Nat} {fb : UEnv → Store → R U} {t : SubT} {l : ClU} (d : DefZ X.K X.mg x st [a]) (lz : LamZ X) (hr : Room (k + 2) X.A)
    (Sg : FnScope Ng [a] (defScope st)) (hva : Vis (defScope st) a) (hG : ∀ (g : Addr) (cdv : Value), LamX.GivesTo X Ng x (defScope st) g cdv (defBody st) a (X.env.qual ++ "<lambda>") (TTellD X.K (lvsD X.mg l)))
    (hs : ∀ p ∈ t, ExmZ X.K X.mg p.1 p.2.1 p.2.2) (hw : wordsOk l = true)
    (hbody : ∀ (A : Around) (outer : List Env) (s : Shared) (H : Hp) (E : XK) (f c' : Addr), Room k (A.deeper (LamX.lamEnv X scope s.heap.objs.size f c')) → ZE (LamX.lamCx X A outer s H E scope f c') body fb)
    (hg : Gl X x := by rfl) (hNg : Ng[0]? = some a := by rfl) (L : LamX.LamS X.env.scope scope := by exact LamX.lamS_by rfl) (hdef : defaultsOf params X.env = ([], []) := by rfl)
    (hbind : ∀ (q : Str) (cl : List (Str × Addr)) (pm cv ctv : Value), bindArgs (PySem.W.kla_fn "<lambda>" q params body scope cl pm cv ctv) ⟨[], []⟩ = pure [] := by intros; rfl)
    (hdb : (x == ("__debug__" : Str)) = false := by decide) (hd : (a == ("__debug__" : Str)) = false := by decide) (hcd : (a == ("__classdict__" : Str)) = false := by decide) :
    ZE X (.Call (.Name x p) [.Lambda params body scope lpos] [] pos) (dTellD t l fb) := fun W xg => by
  obtain ⟨g, fd, F, hm, bd⟩ := d.ex
  obtain ⟨oc, od, kV, doc, pm, an, cdv, ct, osl, rfl, lk, hcg⟩ := F.ex
  obtain ⟨c, P, tb, hcode, hmT, hu⟩ := lz.ex
  refine PE.imp (LamX.pe_lamcall (T := TB.T) (TT := TTellD X.K (lvsD X.mg l)) (t := fun E => tZ (gc X) (fun cls d _ H => E cls d H) fb) hg hm F.kp lk hcg bd Sg hNg hva (hG g cdv) tb hcode hmT hu hr L hdef hbind
    (fun A outer s H E f c' hr => hbody A outer s H E f c' hr (fun cls d _ H => E cls d H) ⟨takes_of rfl rfl rfl rfl, passes_of rfl⟩) hdb hd hcd) fun σ H Q ⟨ρ, st, m, S, E, P⟩ => ⟨S.tabs, fun H1 eN t1 => ?_⟩
  have l1 : Le m H m H1 := Le.ofN eN
  have S1 := S.ofN eN t1
  refine ⟨ρ, st, m, S1, E.mono S l1, ?_⟩
  have P' : Post (gc X) m H (Rep (gc X)) (WE2 W σ) Q (tellD t l (fb ρ st)) := P
  cases e : fb ρ st with
  | ok u st1 =>
    rw [e] at P'
    exact fun v m2 H2 l2 S2 r => P' (.str "") m2 H2 (l1.trans l2) S2 (.str "" (by decide +kernel) (by decide +kernel))
  | exc x st1 =>
    rw [e] at P'
    exact fun cls d m2 H2 l2 S2 r => post_tellD (G := gc X) hs r (l1.trans l2) S2 (wordsOk_mem hw) P'
  | stuck => rw [e] at P'; exact P'.elim
theorem getD_of {mg : Str → Option Value} {x : Str} {v : Value} (h : mg x = some v) : mg x = some ((mg x).getD .none) := by rw [h]; rfl
end Z

namespace Z
open PySem PySem.Spec PyProof.Rows L2
/-! ### a text, so many times -/
theorem mul_fits {x : Str} {k : Int} (h1 : 0 ≤ k) (h2 : k ≤ 10000) (h3 : x.length ≤ 1000) : MulOk x k := by
  refine ⟨?_, fun h4 h5 => ?_, fun h4 h5 => ?_⟩
  · rw [decide_eq_false (by omega), decide_eq_false (by omega)]; rfl
  · have : (1000 : Int) ≤ (2 ^ 63 - 1) / k := by
      have hk : 0 < k := by omega
      rw [Int.le_ediv_iff_mul_le hk]
      omega
    omega
  · unfold Builtin.Str.tooLong
    rw [decide_eq_false_iff_not, sizeLine_eq]
    have : x.length * k.toNat ≤ 1000 * 10000 := Nat.mul_le_mul h3 (by omega)
    omega
def oMulA : Op2 := fun st a b => match a, b with
  | .str x, .int k => if 0 ≤ k ∧ k ≤ 10000 ∧ x.length ≤ 1000 ∧ PyData.strOk (Txt.mul x k) = true ∧ (Txt.mul x k).length ≤ 16777216 then some (.str (Txt.mul x k)) else none
  | a, b => oMul st a b
section
variable {X : Cx}
theorem z_mulA [TB] : OpZ X (binaryOp .Mult) oMulA := by
  intro pins s σ H x y v u Q I rx ry h
  obtain ⟨m, st, a, b, S, ra, rb, P⟩ := id h
  unfold oMulA at P
  split at P
  · rename_i z k
    split at P
    · rename_i c
      obtain ⟨c1, c2, c3, c4, c5⟩ := c
      obtain ⟨rfl, _⟩ := rep_str ra
      have eb := rep_int rb
      subst eb
      obtain ⟨t, rfl⟩ := rx
      obtain ⟨t', rfl⟩ := ry
      refine SB.mul (mul_fits c1 c2 c3) fun t2 k2 => ?_
      exact ⟨.str (Txt.mul z k), H, I.tok k2, ⟨t2, rfl⟩, P.here S (.str _ c4 c5)⟩
    · exact P.elim
  · exact z_mul pins s σ H x y v u Q I rx ry ⟨m, st, a, b, S, ra, rb, P⟩
end
end Z

namespace Z
open PySem PySem.W PySem.SeqAt PySem.Calls PyProof.Rows
/-! ### sorted(a tuple) -/
section
variable {prog : Program} {w : World} {A : Around} {E : Value → Shared → Prop} {s : Shared}
theorem sorted_tup_g {β : Type} {R : Value → β → Prop} {vs : List Value} {bs : List β} {enc : β → PyData} {a : Addr} {o : Obj} {n : Nat} {Q : Value → Shared → Prop} (ho : s.heap.get? a = some o) (hx : o.cls = .type "tuple") (hd : o.data = .seq vs.toArray n)
    (e : EachIs R vs bs) (hr : EachIs (fun v b => ∃ as, Reads s.heap v (enc b) as) vs bs) (hal : AllCmp (bs.map enc)) (hk : NoEmpty (bs.map enc)) (hL0 : bs.length ≤ sizeLine) (hu : ∀ b, b ∈ bs → A.units + 2 + (enc b).depth < cLine)
    (fin : ∀ h' p c out, (∀ b o, s.heap.get? b = some o → h'.get? b = some o) → s.heap.get? p = none → out.length = bs.length → EachIs R out (bs.mergeSort (dataLe false enc)) → h'.get? p = some (seqObj "list" (List.toArray out) c) → Q (.ref p) { s with heap := h' }) :
    wpAny (model prog w) A (call (.builtin "sorted") [.ref a]) Q E s := by
  have hlen : vs.length = bs.length := e.length
  refine call_function_entry_kw kind_sorted plain_sorted entry_sorted (args_sorted1 _) ?_
  unfold Builtin.«sorted»
  refine wpAny_bind (m := checkCount "sorted" 1 1 _) (wpAny_pure (wpAny_bind (wpAny_collect_seq (A := A.in1) a (T := "tuple") (.inr rfl) ho hx hd (fun h' up => ?_) (by simp only [List.size_toArray]; omega))))
  have hL : vs.length ≤ sizeLine := by omega
  refine wpAny_bind (wpAny_newList ?_ hL)
  have at1 : (h'.push (seqObj "list" vs.toArray 0)).get? h'.objs.size = some (seqObj "list" vs.toArray 0) := Heap.get?_push_size _ rfl
  refine wpAny_bind (wpAny_holding (wpAny_call_entry_kw slot_list_sort ⟨_, at1, rfl⟩ entry_list_sort ?body (args_list_sort _)))
  case body =>
    have old : ∀ b o, s.heap.get? b = some o → (sortingHeap (h'.push (seqObj "list" vs.toArray 0)) h'.objs.size vs).get? b = some o := fun b o e =>
      sortingHeap_old (Nat.ne_of_lt (Heap.lt_size (up b o e))) (Heap.get?_push_of_some _ (up b o e))
    have er : EachIs (fun v b => ∃ as, Reads (sortingHeap (h'.push (seqObj "list" vs.toArray 0)) h'.objs.size vs) v (enc b) as) vs bs := hr.mono fun _ _ ⟨as, r⟩ => ⟨as, PyProof.Rows.Reads.keeps old r⟩
    have er2 := each_map (R := fun v d => ∃ as, Reads (sortingHeap (h'.push (seqObj "list" vs.toArray 0)) h'.objs.size vs) v d as) enc er
    have So := sortsAt_cmp (prog := prog) (w := w) (A := A.in1.in1) (s := { s with heap := sortingHeap (h'.push (seqObj "list" vs.toArray 0)) h'.objs.size vs }) er2 hal hk (fun d hd => by
      obtain ⟨b, hb, rfl⟩ := List.mem_map.mp hd
      have := hu b hb
      simp only [Around.in1_units]
      omega)
    refine list_sort_vals (s := { s with heap := h'.push (seqObj "list" vs.toArray 0) }) at1 So hL ⟨_, rfl, wpAny_pure ⟨_, rfl, ?_⟩⟩
    have eo := sortVals_each (R := R) (rev := false) (κ := dataKind _ (bs.map enc)) (fun b => keyToks (enc b)) e (each_of_map enc ((each_mem er2).mono fun _ _ ⟨⟨_, r⟩, hd⟩ => cmpKind_some hal hd r))
    obtain ⟨c, hc⟩ := sortedHeap_at (vs := vs) (out := (sortVals (dataKind (sortingHeap (h'.push (seqObj "list" vs.toArray 0)) h'.objs.size vs) (bs.map enc)) false vs vs).toArray) at1
    refine fin _ h'.objs.size c _ (fun b u e => ?_) (by
      cases e : s.heap.get? h'.objs.size with
      | none => rfl
      | some u => exact absurd (Heap.lt_size (up _ u e)) (Nat.lt_irrefl _)) (by rw [sortVals_length false rfl]; exact hlen) eo hc
    have hlt := Heap.lt_size (up b u e)
    show (sortedHeap _ _ _ _).get? b = some u
    rw [sortedHeap_old (Nat.ne_of_lt hlt) (by rw [size_push']; exact Nat.lt_succ_of_lt hlt)]
    exact Heap.get?_push_of_some _ (up b u e)
end
open L2
section
variable {X : Cx}
theorem cr_sortTu [TB] (hu : X.A.units + 65 < cLine) (pins : List (Addr × Obj)) (s : Shared) (σ : L2.St) (H : Hp) (Q : VK) (I : Inv X pins σ H s) {m : MH} {st : Store} {us : List U} {a : Addr} {xs : List V} (S : Sim (gc X) m H st) (r : Reps (gc X) m H us xs) (hs : SqT X.K H a xs) (hc : canSort us = true)
    (P : PostO (gc X) m H st Q (some (.lst (sortU us)))) : wpAny (model X.prog X.w) X.A (call (.builtin "sorted") [.ref a]) (EP X pins σ Q) X.xe s := by
  unfold canSort at hc
  simp only [Bool.and_eq_true] at hc
  obtain ⟨⟨hp, hca⟩, hne⟩ := hc
  obtain ⟨its, rv, ⟨ot, ho, hx, n, hdt⟩, hz⟩ := I.tuple hs
  obtain ⟨e, hd⟩ := each_zip I rfl r rv hp
  have hlen : xs.length = us.length := r.length.symm
  have snd : (xs.zip us).map (·.2) = us := List.map_snd_zip (by omega)
  have enc : (xs.zip us).map (fun p => encU p.2) = us.map encU := by
    rw [show (fun p : V × U => encU p.2) = encU ∘ (·.2) from rfl, ← List.map_map, snd]
  have can := canAll_mem hca
  have lt : ∀ a ∈ us, ∀ b ∈ us, cmpD (encU a) (encU b) = true ∧ dataLt (encU a) (encU b) = ltU a b := by
    intro a ha b hb
    have pa := pls_mem.mp hp a ha
    have pb := pls_mem.mp hp b hb
    obtain ⟨da, ea, _⟩ := pl_dat _ pa
    obtain ⟨db, eb, _⟩ := pl_dat _ pb
    have l1 := (hd a ha).1
    have l2 := (hd b hb).1
    have ea' : encU a = da := by unfold encU; rw [ea]; rfl
    have eb' : encU b = db := by unfold encU; rw [eb]; rfl
    rw [ea'] at l1 ⊢
    rw [eb'] at l2 ⊢
    exact lt_dat a b pa pb ea eb l1 l2 (can a ha b hb)
  have len0 : (xs.zip us).length = xs.length := by rw [List.length_zip]; omega
  refine sorted_tup_g (R := fun v (p : V × U) => RelV p.1 v ∧ Rep (gc X) m H p.2 p.1) (bs := xs.zip us) (enc := fun p => encU p.2) ho hx hdt (e.mono fun _ _ h => ⟨h.1, h.2.1⟩) (e.mono fun _ _ h => h.2.2) ?_ ?_ ?_ ?_ fun h' p c out up hp2 hol eo hat => ?_
  · rw [enc]
    refine ⟨fun d h => ?_, fun d h d' h' => ?_⟩
    · obtain ⟨u, hm, rfl⟩ := List.mem_map.mp h
      exact (hd u hm).1
    · obtain ⟨u, hm, rfl⟩ := List.mem_map.mp h
      obtain ⟨u', hm', rfl⟩ := List.mem_map.mp h'
      exact (lt u hm u' hm').1
  · trivial
  · rw [len0]; exact hz
  · intro p hpm
    have hm : p.2 ∈ us := snd ▸ List.mem_map_of_mem hpm
    have := (hd p.2 hm).2
    show X.A.units + 2 + (encU p.2).depth < cLine
    omega
  · obtain ⟨v1, r1⟩ := each_out (G := gc X) (m := m) (H := H) (fun _ _ h => h) eo
    have es : ((xs.zip us).mergeSort (dataLe false fun p => encU p.2)).map (·.2) = sortU us := by
      rw [← sort_eq us fun a ha b hb => (lt a ha b hb).2]
      have := List.map_mergeSort (r := dataLe false fun p : V × U => encU p.2) (s := leU) (f := fun p : V × U => p.2) (l := xs.zip us) fun a _ b _ => rfl
      rw [snd] at this
      exact this
    rw [es] at r1
    have hlen : (((xs.zip us).mergeSort (dataLe false fun p => encU p.2)).map (·.1)).length ≤ sizeLine := by
      rw [List.length_map, List.length_mergeSort, len0]; exact hz
    have hn : H p = none := by
      cases e : H p with
      | none => rfl
      | some o =>
        obtain ⟨u, hu⟩ := obj_there (I.hok p o e)
        rw [hp2] at hu
        cases hu
    exact ⟨.ref p, _, I.laidN (o := .lst (((xs.zip us).mergeSort (dataLe false fun p => encU p.2)).map (·.1))) up hp2 hn ⟨hlen, _, c, v1, hat⟩, rfl, P.lst S r1 _ hn⟩
/-- sorted of a tuple -/
def oSortT : Op1 := fun st u => match u with
  | .tup xs => if canSort xs = true then some (.lst (sortU xs)) else none
  | _ => none
theorem b_sortT [TB] (hu : X.A.units + 65 < cLine) : BZ1 X (.builtin "sorted") oSortT := by
  intro pins s σ H xs us Q I r h
  obtain ⟨m, st, u, x, rfl, S, ru, P⟩ := h
  unfold oSortT at P
  split at P
  · rename_i ys
    split at P
    · rename_i hcs
      obtain ⟨a, vs, rfl, h1, r1⟩ := rep_tup ru rfl
      rw [Vals.ref1 r]
      exact cr_sortTu hu pins s σ H Q I S r1 h1 hcs P
    · exact P.elim
  · exact P.elim
@[simp] theorem oSortT_t (st : Store) (xs : List U) : oSortT st (.tup xs) = if canSort xs = true then some (.lst (sortU xs)) else none := rfl
end
end Z

namespace Z
open PySem PySem.Spec PyProof.Rows L2
/-! ### zip of two tuples, of two lists -/
def zipL : List U → List U → List U
  | x :: xs, y :: ys => .tup [x, y] :: zipL xs ys
  | _, _ => []
theorem zipL_get : ∀ (xs ys : List U) (i : Nat) (u : U), (zipL xs ys)[i]? = some u → ∃ x y, xs[i]? = some x ∧ ys[i]? = some y ∧ u = .tup [x, y]
  | [], _, i, u, h => by simp [zipL] at h
  | _ :: _, [], i, u, h => by simp [zipL] at h
  | x :: xs, y :: ys, 0, u, h => by simp [zipL] at h; exact ⟨x, y, rfl, rfl, h.symm⟩
  | x :: xs, y :: ys, i + 1, u, h => by
    simp only [zipL, List.getElem?_cons_succ] at h ⊢
    exact zipL_get xs ys i u h
theorem zipL_length : ∀ (xs ys : List U), (zipL xs ys).length = min xs.length ys.length
  | [], _ => by simp [zipL]
  | _ :: _, [] => by simp [zipL]
  | x :: xs, y :: ys => by simp [zipL, zipL_length xs ys]
theorem zip_yld {G : GC} {m m0 : MH} {H H0 : Hp} {st st0 : Store} {us ws : List U} {vs qs : List V} {i : Nat} {u : U} {T : Addr} {x y : V} (S0 : Sim G m0 H0 st0) (r : Reps G m0 H0 us vs) (r2 : Reps G m0 H0 ws qs) (hu : (zipL us ws)[i]? = some u) (l : Le m0 H0 m H) (S : Sim G m H st) (hT : H T = none) (hx : vs[i]? = some x) (hy : qs[i]? = some y) :
    ∃ m', Le m H m' (upd H T (.tup [x, y])) ∧ Sim G m' (upd H T (.tup [x, y])) st ∧ Rep G m' (upd H T (.tup [x, y])) u (.ref T) := by
  obtain ⟨a, b, ha, hb, rfl⟩ := zipL_get us ws i u hu
  obtain ⟨v, e1, rr⟩ := (r.mono S0 l).getU ha
  rw [hx] at e1; cases e1
  obtain ⟨v2, e2, rr2⟩ := (r2.mono S0 l).getU hb
  rw [hy] at e2; cases e2
  exact ⟨m, le_new hT, S.new hT, .tup upd_same (S.off hT) ((Reps.cons rr (.cons rr2 .nil)).mono S (le_new hT))⟩
theorem walks_zipT {G : GC} {m0 : MH} {H0 : Hp} {st0 : Store} {us ws : List U} {a b : Addr} {vs qs : List V} (S0 : Sim G m0 H0 st0) (r : Reps G m0 H0 us vs) (r2 : Reps G m0 H0 ws qs) (hs : ∀ m H, Le m0 H0 m H → SqT G.K H a vs) (hs2 : ∀ m H, Le m0 H0 m H → SqT G.K H b qs) : WalksU G (RZ.ItzT G.K a b) (zipL us ws) m0 H0 where
  go := fun i m H hi l => by
    rw [zipL_length] at hi
    have h1 := r.length
    have h2 := r2.length
    exact ⟨vs, qs, vs[i]'(by omega), qs[i]'(by omega), hs m H l, hs2 m H l, by rw [List.getElem?_eq_getElem], by rw [List.getElem?_eq_getElem]⟩
  stop := fun m H l => ⟨vs, qs, hs m H l, hs2 m H l, by
    rw [zipL_length]
    have h1 := r.length
    have h2 := r2.length
    omega⟩
  yld := fun i m H v H' st u hu l S y => by
    obtain ⟨T, x, z, rfl, hT, rfl, y1, y2⟩ := y
    exact zip_yld S0 r r2 hu l S hT (y1 vs (hs m _ l)) (y2 qs (hs2 m _ l))
def zipOf : U → U → Option (List U)
  | .tup xs, .tup ys => some (zipL xs ys)
  | _, _ => none
@[simp] def dZip (fa fb : UEnv → Store → R U) : UEnv → Store → R (List U) := fun ρ st => (fa ρ st).bind fun u st1 => (fb ρ st1).bind fun w st2 => R.ofO st2 (zipOf u w)
theorem zi_zip [TB] {X : Cx} {e e2 : Expr} {fa fb : UEnv → Store → R U} {p pos tpos : Pos} {elts : List Expr} {kk : Nat} (hm : X.mg "zip" = none) (h : ZE X e fa) (h2 : ZE X e2 fb) (hg : Gl X "zip" := by rfl) (hs : starEach [e, e2] X.env = (false, eval e X.env) :: starEach [e2] X.env := by rfl) (hs2 : starEach [e2] X.env = (false, eval e2 X.env) :: starEach [] X.env := by rfl) (hpl : ((backTo pos (starEach [e2] X.env)).any fun x => x.1) = false := by rfl) :
    ZI X (.Tuple elts kk tpos) (.Call (.Name "zip" p) [e, e2] [] pos) (dZip fa fb) := fun W xg =>
  PI.imp (RZ.pi_zipA hg hm (pa_cons (h W xg) (pa_cons (h2 W xg) pa_nil hs2) hs) hs hpl) fun σ H RR ⟨ρ, st, m, S, E, P⟩ => tz_seq (X := X) (k := fun ρ u st1 => (fb ρ st1).bind fun w st2 => R.ofO st2 (zipOf u w)) S E P fun u st1 v m1 H1 S1 E1 r1 l1 P1 =>
    tz_seq (X := X) (k := fun ρ w st2 => R.ofO st2 (zipOf u w)) S1 E1 P1 fun u2 st2 v2 m2 H2 S2 E2 r2 l2 P2 => by
      unfold zipOf at P2
      split at P2
      · rename_i xs ys
        obtain ⟨a, vs, rfl, h1, q1, hs1⟩ := seqT_stay S2 (r1.mono S1 l2)
        obtain ⟨b, qs, rfl, h3, q2, hs3⟩ := seqT_stay S2 r2
        exact ⟨a, b, vs, qs, rfl, .inr ⟨h1, h3, post_ok P2 S2 (walks_zipT S2 q1 q2 hs1 hs3)⟩⟩
      · exact P2.elim
end Z
namespace Z
open PySem PySem.Spec PyProof.Rows L2
/-! ### a step that is never taken -/
def sStuck : UEnv → Store → R Fl := fun _ _ => .stuck
theorem zs_stuck [TB] {X : Cx} {s : Stmt} : ZS X s sStuck := fun W xg => ⟨fun pins s0 σ H D I h => by
  obtain ⟨ρ, st, m, S, E, P⟩ := h
  exact P.elim⟩
end Z

namespace Z
open PySem PySem.Spec PyProof.Rows L2
/-! ### extend a list by a tuple -/
theorem meets_extendT (l b : Addr) (items items2 : Array Value) (n : Nat) (hlong : ¬(!items.isEmpty && Builtin.List.listTooLong (items.size + items2.size)) = true) (hs1 : items.size ≤ sizeLine) (hs2 : items.size + items2.size ≤ sizeLine + 1) :
    Meets (Builtin.«list.extend» ⟨[.ref l, .ref b], []⟩) (fun _ R s => s.heap.get? l = some { cls := .type "list", dict := none, data := .seq items n, slots := #[] } ∧ IsTup s.heap b items2 ∧ R (.ok (.ret Value.none)) { s with heap := s.heap.update l (Obj.mapSeq fun x => x ++ items2), toks := s.toks }) :=
  .of_wp fun prog w A R s h => by
    obtain ⟨hl, ⟨o, ho, hc, n2, hd⟩, h⟩ := h
    show wpAny _ A.in1 (Builtin.List.listExtendWith (.ref l) (.ref b) .none) _ _ _
    unfold Builtin.List.listExtendWith
    refine wpAny_bind (wpAny_typeOf ⟨o, ho, hc⟩ ?_)
    have h1 : (Builtin.List.listSameRef (.ref l) (.ref b) || Value.type "tuple" == Value.type "list" || Value.type "tuple" == Value.type "tuple") = true := by simp
    simp only [h1, if_true]
    unfold Builtin.List.listItems
    refine wpAny_bind (wpAny_bind (wpAny_seqItems ho hd (wpAny_pure ?_)))
    refine wpAny_bind (wpAny_bind (wpAny_seqItems hl rfl (wpAny_pure ?_)))
    rw [if_neg hlong]
    show wpAny _ A.in1 (updateSeq l (· ++ items2) >>= fun _ => ret .none) _ _ _
    refine wpAny_bind (wpAny_updateSeq hl rfl ?_ (hz := hs1) (_hz' := by rw [Array.size_append]; exact hs2))
    exact wpAny_pure ⟨_, rfl, h⟩
def rExtendT {K : PySem.W.Frag} : V → List V → Hp → VK → Prop := fun x vs H Q => ∃ l b xs zs, x = .ref l ∧ vs = [.ref b] ∧ H l = some (.lst xs) ∧ SqT K H b zs ∧ xs.length + zs.length ≤ sizeLine ∧ Q .non (upd H l (.lst (xs ++ zs)))
theorem mt_extendT {X : Cx} : MtM X "list.extend" (rExtendT (K := X.K)) := by
  intro pins s σ H x vs v us Q I rx rv h
  obtain ⟨l, b, xs, zs, rfl, rfl, hH, hB, hz, q⟩ := h
  cases rx
  obtain ⟨u, rfl, ru⟩ := rv.one
  cases ru
  obtain ⟨z, its, n, r, hl, e⟩ := I.lstM hH
  obtain ⟨its2, r2, p2, hz2⟩ := I.tuple hB
  have hl2 := r2.length
  have hsz : its.toArray.size + its2.toArray.size ≤ sizeLine := by rw [List.size_toArray, List.size_toArray]; omega
  have hlong : ¬ (!its.toArray.isEmpty && Builtin.List.listTooLong (its.toArray.size + its2.toArray.size)) = true := by
    rw [notLongL hsz, Bool.and_false]
    exact Bool.false_ne_true
  refine call_meets F.slot_list_extend ⟨_, e, rfl⟩ F.entry_list_extend (F.args_list_extend_2 _ _)
    (meets_extendT l b its.toArray its2.toArray n hlong (by rw [List.size_toArray]; omega) (by omega)) ⟨e, p2, ?_⟩
  refine ⟨.non, _, I.lset (its' := its ++ its2) hH e (by simp) (r.append r2) ?_, rfl, q⟩
  rw [List.length_append]
  omega
section
variable {X : Cx} {o e : Expr} {pos apos : Pos} {fa fb : UEnv → Store → R U}
def extAtT (st : Store) (o v : U) : Option Store := match o with
  | .hdl n => match st[n]? with
    | some (.lst xs) => match v with
      | .tup ys => if xs.length + ys.length ≤ 16777216 then some (st.set n (.lst (xs ++ ys))) else none
      | _ => none
    | _ => none
  | _ => none
theorem ze_extendT [TB] (ho : ZE X o fa) (he : ZE X e fb)
    (hbase : attributeBase o "extend" X.env (eval o X.env) = eval o X.env := by rfl)
    (hfew : ((backTo pos (starEach [e] X.env)).all (fun x => !x.1) && (backToKw pos (keywordEach [] X.env)).all (fun x => x.1.isSome)
      && decide (([e] : List Expr).length + ([] : List Keyword).length + (if ([] : List Keyword).isEmpty then 0 else 1) < 30)) = true := by rfl)
    (hline : (apos.endLine == pos.line) = true := by rfl) (hs : starEach [e] X.env = (false, eval e X.env) :: starEach [] X.env := by rfl) (hplain : (backTo pos (starEach [] X.env)).any (·.1) = false := by rfl) :
    ZE X (.Call (.Attribute o "extend" apos) [e] [] pos) (dMut extAtT fa fb) := fun W xg =>
  PE.imp (pe_bm PySem.F.plainAttrs_list PySem.F.slot_list_extend PySem.F.type_list_extend mt_extendT (ho W xg) (pa_cons (he W xg) pa_nil hs) hbase hfew hline hs hplain) fun σ H Q ⟨ρ, st, m, S, E, P⟩ =>
    tz_seq (X := X) (k := fun ρ o st1 => if isLst st1 o = true then (fb ρ st1).bind fun v st2 => R.ofS (extAtT st2 o v) else .stuck) S E P fun u st1 v m1 H1 S1 E1 r1 l1 P1 => by
      split at P1
      · rename_i hd
        refine ⟨isL_of S1 r1 hd rfl, ?_⟩
        refine tz_seq (X := X) (k := fun ρ v st2 => R.ofS (extAtT st2 u v)) S1 E1 P1 fun u2 st2 v2 m2 H2 S2 E2 r2 l2 P2 => ?_
        unfold extAtT at P2
        split at P2
        · rename_i n
          split at P2
          · rename_i xs hx
            split at P2
            · rename_i ys
              split at P2
              · rename_i hl
                have ro := r1.mono S1 l2
                obtain ⟨b, ws, rfl, hb, rw2, _⟩ := seqT_stay S2 r2
                cases ro with
                | @hdl n a hm =>
                  obtain ⟨vs, e3, rv⟩ := S2.cell n _ a hx hm
                  refine ⟨a, b, vs, ws, rfl, rfl, e3, hb, by rw [line_eq, ← rv.length, ← rw2.length]; exact hl, ?_⟩
                  have L := le_write (o := .lst (vs ++ ws)) S2 hm
                  exact P2 _ m2 _ L (S2.write hm ⟨_, upd_same, (rv.append rw2).mono S2 L⟩) .non
              · exact P2.elim
            · exact P2.elim
          · exact P2.elim
        · exact P2.elim
      · exact P1.elim
end
/-! ### a loop over a list that stands in a cell -/
def forC (g : Asg) (f : UEnv → Store → R Fl) (n : Nat) : Nat → Nat → UEnv → Store → R Fl
  | 0, _, _, _ => .stuck
  | k + 1, i, ρ, st => match st[n]? with
    | some (.lst xs) => match xs[i]? with
      | some x => (g x ρ st).bind fun ρ1 st1 => (f ρ1 st1).bind fun r st2 => match r with
        | .nx ρ2 => forC g f n k (i + 1) ρ2 st2
        | .ct ρ2 => forC g f n k (i + 1) ρ2 st2
        | .bk ρ2 => .ok (.nx ρ2) st2
        | .rt u => .ok (.rt u) st2
      | none => .ok (.nx ρ) st
    | _ => .stuck
def lenC (st : Store) (n : Nat) : Nat := match st[n]? with
  | some (.lst xs) => xs.length
  | _ => 0
def forAny (g : Asg) (f : UEnv → Store → R Fl) (u : U) (ρ : UEnv) (st : Store) : R Fl := match u with
  | .hdl n => forC g f n (lenC st n + 1) 0 ρ st
  | u => match itemsOf u with
    | some us => forU g f us ρ st
    | none => .stuck
@[simp] theorem forAny_tup (g : Asg) (f : UEnv → Store → R Fl) (us : List U) (ρ : UEnv) (st : Store) : forAny g f (.tup us) ρ st = forU g f us ρ st := rfl
@[simp] theorem forAny_lst (g : Asg) (f : UEnv → Store → R Fl) (us : List U) (ρ : UEnv) (st : Store) : forAny g f (.lst us) ρ st = forU g f us ρ st := rfl
@[simp] def sForA (fa : UEnv → Store → R U) (g : Asg) (f : UEnv → Store → R Fl) : UEnv → Store → R Fl := fun ρ st => (fa ρ st).bind fun u st1 => forAny g f u ρ st1
theorem forC_core {G : GC} {W : WX} {g : Asg} {f : UEnv → Store → R Fl} {n k0 : Nat} {a : Addr} {D : Ends} {σ : L2.St} {H : Hp} {ρ : UEnv} {st : Store} {m : MH} (r : Rep G m H (.hdl n) (.ref a)) (S : Sim G m H st) (E : REnv G m H ρ σ) (P : PostS G m H W D (forC g f n k0 0 ρ st)) :
    ∃ Wf : Nat → Nat → L2.St → Hp → Prop, (∃ k, Wf 0 k σ H) ∧ ∀ i k σ H, Wf i k σ H →
      ((Itl G.K a).stop i H ∧ D.nx σ H) ∨ ((Itl G.K a).go i H ∧ ∃ N : L2.St → Hp → Prop, (∀ σ' H', N σ' H' → ∃ k', k' < k ∧ Wf (i + 1) k' σ' H') ∧ ∀ x H', (Itl G.K a).yld i H x H' → tZG G W g x σ H' fun σ2 H2 => tZS G W f { D with nx := N, ct := N, bk := D.nx } σ2 H2) := by
  let Wf : Nat → Nat → L2.St → Hp → Prop := fun i k σ' H' => ∃ ρ' st' m', Le m H m' H' ∧ Sim G m' H' st' ∧ REnv G m' H' ρ' σ' ∧ PostS G m' H' W D (forC g f n k i ρ' st')
  refine ⟨Wf, ⟨k0, ρ, st, m, Le.refl, S, E, P⟩, ?_⟩
  rintro i k σ1 H1 ⟨ρ1, st1, m1, l1, S1, E1, P1⟩
  cases k with
  | zero => exact P1.elim
  | succ k =>
    unfold forC at P1
    split at P1
    · rename_i xs hx
      have r1 := r.mono S l1
      cases r1 with
      | @hdl _ _ hm =>
        obtain ⟨vs, e3, rv⟩ := S1.cell n _ a hx hm
        have hsq : SqL G.K H1 a vs := SqL.of e3
        split at P1
        · rename_i x hxi
          obtain ⟨v, ev, rr⟩ := rv.getU hxi
          refine .inr ⟨⟨vs, v, hsq, ev⟩, fun σ' H' => Wf (i + 1) k σ' H', fun σ' H' w => ⟨k, Nat.lt_succ_self k, w⟩, fun y H' yy => ?_⟩
          obtain ⟨e, y2⟩ := yy
          subst e
          have e2 := y2 vs hsq
          rw [ev] at e2; cases e2
          refine ⟨ρ1, st1, m1, x, S1, E1, rr, PostS.bindA P1 fun ρ3 st3 σ3 m3 H3 _ l3 S3 E3 P3 => ⟨ρ3, st3, m3, S3, E3, ?_⟩⟩
          have L3 : Le m H m3 H3 := l1.trans l3
          cases e : f ρ3 st3 with
          | ok r st4 =>
            rw [e] at P3
            cases r with
            | nx ρ4 => exact fun σ4 m4 H4 l4 S4 E4 => ⟨ρ4, st4, m4, L3.trans l4, S4, E4, PostS.mono l4 P3⟩
            | ct ρ4 => exact fun σ4 m4 H4 l4 S4 E4 => ⟨ρ4, st4, m4, L3.trans l4, S4, E4, PostS.mono l4 P3⟩
            | bk ρ4 => exact P3
            | rt u => exact P3
          | exc x st4 => rw [e] at P3; exact P3
          | stuck => rw [e] at P3; exact P3
        · rename_i hxi
          refine .inl ⟨⟨vs, hsq, ?_⟩, P1 σ1 m1 H1 Le.refl S1 E1⟩
          rw [← rv.length]
          exact List.getElem?_eq_none_iff.mp hxi
    · exact P1.elim
theorem zs_forA [TB] {X : Cx} {tg iter : Expr} {body : List Stmt} {pos : Pos} {fa : UEnv → Store → R U} {g : Asg} {f : UEnv → Store → R Fl} (hc : X.calm = true) (hi : ZE X iter fa) (hg : ZG X tg g) (hb : ZB X body f)
    (hs : ∀ x, foldedSetIterable iter X.env x = pure x := by intro _; rfl) : ZS X (.For tg iter body [] pos) (sForA fa g f) := fun W xg =>
  PS.imp (ps_for xg.po hc (pi_any (hi W xg)) (hg W xg) (hb W xg) hs) fun D σ H ⟨ρ, st, m, S, E, P⟩ =>
    ⟨ρ, st, m, S, E, PostS.bind (k := fun u st1 => forAny g f u ρ st1) P fun u st1 v m1 H1 _ l S1 r p => by
      have E1 := E.mono S l
      unfold forAny at p
      split at p
      · rename_i n
        cases r with
        | @hdl _ a hm =>
          have p0 := p
          unfold forC at p0
          split at p0
          · rename_i xs hx
            obtain ⟨vs, e3, rv⟩ := S1.cell _ _ a hx hm
            exact .inl ⟨a, rfl, ⟨vs, SqL.of e3⟩, forC_core (.hdl hm) S1 E1 p⟩
          · exact p0.elim
      · split at p
        · rename_i us hus
          cases u with
          | tup xs =>
            cases hus
            obtain ⟨a, vs, rfl, h1, r2, hs⟩ := seqT_stay S1 r
            exact .inr (.inl ⟨a, rfl, ⟨vs, h1⟩, for_core (walks_tup S1 r2 hs) S1 E1 p⟩)
          | lst xs =>
            cases hus
            obtain ⟨a, vs, rfl, h1, r2, hs⟩ := seqL_stay S1 r (.inl rfl)
            exact .inl ⟨a, rfl, ⟨vs, h1⟩, for_core (walks_list S1 r2 hs) S1 E1 p⟩
          | frz xs =>
            cases hus
            obtain ⟨a, vs, rfl, h1, r2, hs⟩ := seqL_stay S1 r (.inr rfl)
            exact .inl ⟨a, rfl, ⟨vs, h1⟩, for_core (walks_list S1 r2 hs) S1 E1 p⟩
          | str x =>
            cases hus
            obtain ⟨rfl, hk, _⟩ := rep_str r
            exact .inr (.inr ⟨x, rfl, for_core (walks_str hk) S1 E1 p⟩)
          | _ => cases hus
        · exact p.elim⟩
end Z

namespace Z
open PySem PySem.Spec PyProof.Rows L2
/-! ### a whole number in range(n) -/
section
variable {X : Cx} {a e : Expr} {pos pos2 p : Pos} {fa fe : UEnv → Store → R U}
theorem cr_rangeN : CallR X (.type "range") (fun vs H Q => ∃ j, vs = [V.int j] ∧ ∀ p, H p = none → Q (.ref p) (upd H p (.rng 0 j))) := by
  intro pins s σ H vs us Q I r h
  obtain ⟨j, rfl, q⟩ := h
  obtain ⟨u, rfl, rj⟩ := r.one
  obtain ⟨t, rfl⟩ := rj
  refine call_range_1 ⟨.ref s.heap.objs.size, upd H s.heap.objs.size (.rng 0 j), I.laid (t' := s.toks + 1 + 1) (fun b o e => Heap.get?_push_of_some _ e) (Nat.le_refl _) ?_, rfl, q _ (I.hok.fresh (Nat.le_refl _))⟩
  exact ⟨s.toks, t, s.toks + 1, Heap.get?_push_size _ rfl⟩
def dInR (fa fe : UEnv → Store → R U) : UEnv → Store → R Bool := fun ρ st => (fa ρ st).bind fun x st1 => (fe ρ st1).bind fun n st2 => match x, n with
  | .int i, .int j => .ok (decide (0 ≤ i ∧ i < j)) st2
  | _, _ => .stuck
theorem zt_inR [TB] (hr : X.mg "range" = none) (ha : ZE X a fa) (he : ZE X e fe) (hg : Gl X "range" := by rfl) (hm : behindInMarks .In (.Call (.Name "range" p) [e] [] pos2) = false := by first | exact nomark _ | with_unfolding_all rfl)
    (h1 : starEach [e] X.env = (false, eval e X.env) :: starEach [] X.env := by rfl) (h3 : (backTo pos2 (starEach [] X.env)).any (·.1) = false := by rfl) : ZT X (.Compare a [.In] [.Call (.Name "range" p) [e] [] pos2] pos) (dInR fa fe) := fun W xg =>
  PT.imp (pt_cmpR op_in_rng (ha W xg) (pe_callTy cr_rangeN hg hr (by decide +kernel) (pa_cons (he W xg) pa_nil h1) (by decide +kernel) (by decide +kernel) h1 h3) hm) fun σ H Q ⟨ρ, st, m, S, E, P⟩ =>
    tz_seq (X := X) (k := fun ρ x st1 => (fe ρ st1).bind fun n st2 => match x, n with
      | .int i, .int j => .ok (decide (0 ≤ i ∧ i < j)) st2
      | _, _ => .stuck) S E P fun u st1 v m1 H1 S1 E1 r1 l1 P1 =>
    tz_seq (X := X) (k := fun ρ n st2 => match u, n with
      | .int i, .int j => .ok (decide (0 ≤ i ∧ i < j)) st2
      | _, _ => .stuck) S1 E1 P1 fun u2 st2 v2 m2 H2 S2 E2 r2 l2 P2 => by
      split at P2
      · rename_i i j
        have e1 := rep_int r1
        have e2 := rep_int r2
        subst e1 e2
        exact ⟨j, rfl, fun p hp => ⟨i, p, 0, j, rfl, rfl, upd_same, _, rfl, P2 _ m2 _ (le_new hp) (S2.new hp) rfl⟩⟩
      · exact P2.elim
end
end Z

namespace Z
open PySem PySem.Spec PyProof.Rows L2
/-! ### list(range(n)), tuple(range(a, b)) -/
theorem reps_rg {G : GC} {m : MH} {H : Hp} (a : Int) : ∀ l : List Nat, Reps G m H (l.map fun (i : Nat) => U.int (a + (i : Int))) (l.map fun (i : Nat) => V.int (a + (i : Int)))
  | [] => .nil
  | i :: l => .cons (.int _) (reps_rg a l)
def oLRg : U → Option U
  | .int j => if 0 ≤ j ∧ j ≤ 16777216 then some (.lst (rangeU 0 j)) else none
  | _ => none
def oTRg : U → U → Option U
  | .int i, .int j => if (-16777216 ≤ i ∧ i ≤ 16777216) ∧ (-16777216 ≤ j ∧ j ≤ 16777216) ∧ j - i ≤ 16777216 then some (.tup (rangeU i j)) else none
  | _, _ => none
@[simp] def dLRg (fa : UEnv → Store → R U) : UEnv → Store → R U := fun ρ st => (fa ρ st).bind fun u st1 => R.ofO st1 (oLRg u)
@[simp] def dTRg (fa fb : UEnv → Store → R U) : UEnv → Store → R U := fun ρ st => (fa ρ st).bind fun u st1 => (fb ρ st1).bind fun w st2 => R.ofO st2 (oTRg u w)
section
variable {X : Cx} {a b : Expr} {pos pos2 p p2 : Pos} {fa fb : UEnv → Store → R U}
theorem ze_lRg [TB] (hl : X.mg "list" = none) (hr : X.mg "range" = none) (ha : ZE X a fa) (hc : X.calm = true := by rfl) (hgl : Gl X "list" := by rfl) (hgr : Gl X "range" := by rfl)
    (na2 : starEach [a] X.env = (false, eval a X.env) :: starEach [] X.env := by rfl) (na : starEach [.Call (.Name "range" p2) [a] [] pos2] X.env = (false, eval (.Call (.Name "range" p2) [a] [] pos2) X.env) :: starEach [] X.env := by rfl) :
    ZE X (.Call (.Name "list" p) [.Call (.Name "range" p2) [a] [] pos2] [] pos) (dLRg fa) := fun W xg =>
  PE.imp (pe_listRg hc hgl hl (prg_1 hgr hr (ha W xg) na2) na) fun σ H Q ⟨ρ, st, m, S, E, P⟩ =>
    tz_seq (X := X) (k := fun ρ u st1 => R.ofO st1 (oLRg u)) S E P fun u st1 v m1 H1 S1 E1 r1 l1 P1 => by
      unfold oLRg at P1
      split at P1
      · rename_i j
        have e1 := rep_int r1
        subst e1
        split at P1
        · rename_i hj
          refine ⟨j, rfl, ⟨by omega, by omega, by omega, by omega, by omega⟩, fun q hq => ?_⟩
          have PO : PostO (gc X) m1 H1 st1 Q (some (.lst (rangeU 0 j))) := .of P1
          exact PO.lst S1 (reps_rg 0 _) _ hq
        · exact P1.elim
      · exact P1.elim
theorem ze_tRg [TB] (hl : X.mg "tuple" = none) (hr : X.mg "range" = none) (ha : ZE X a fa) (hb : ZE X b fb) (hc : X.calm = true := by rfl) (hgl : Gl X "tuple" := by rfl) (hgr : Gl X "range" := by rfl)
    (na2 : starEach [a, b] X.env = (false, eval a X.env) :: starEach [b] X.env := by rfl) (nb2 : starEach [b] X.env = (false, eval b X.env) :: starEach [] X.env := by rfl) (np : (backTo pos2 (starEach [b] X.env)).any (·.1) = false := by rfl)
    (na : starEach [.Call (.Name "range" p2) [a, b] [] pos2] X.env = (false, eval (.Call (.Name "range" p2) [a, b] [] pos2) X.env) :: starEach [] X.env := by rfl) :
    ZE X (.Call (.Name "tuple" p) [.Call (.Name "range" p2) [a, b] [] pos2] [] pos) (dTRg fa fb) := fun W xg =>
  PE.imp (pe_tupRg hc hgl hl (prg_2 hgr hr (ha W xg) (hb W xg) na2 nb2 np) na) fun σ H Q ⟨ρ, st, m, S, E, P⟩ =>
    tz_seq (X := X) (k := fun ρ u st1 => (fb ρ st1).bind fun w st2 => R.ofO st2 (oTRg u w)) S E P fun u st1 v m1 H1 S1 E1 r1 l1 P1 =>
    tz_seq (X := X) (k := fun ρ w st2 => R.ofO st2 (oTRg u w)) S1 E1 P1 fun u2 st2 v2 m2 H2 S2 E2 r2 l2 P2 => by
      unfold oTRg at P2
      split at P2
      · rename_i i j
        have e1 := rep_int r1
        have e2 := rep_int r2
        subst e1 e2
        split at P2
        · rename_i hj
          refine ⟨i, j, rfl, rfl, ⟨by omega, by omega, by omega, by omega, by omega⟩, fun q hq => ?_⟩
          have PO : PostO (gc X) m2 H2 st2 Q (some (.tup (rangeU i j))) := .of P2
          exact PO.tup S2 (reps_rg i _) _ hq
        · exact P2.elim
      · exact P2.elim
theorem reps_rev {G : GC} {m : MH} {H : Hp} {us : List U} {vs : List V} (r : Reps G m H us vs) : Reps G m H us.reverse vs.reverse := by
  induction us generalizing vs with
  | nil => cases r; exact .nil
  | cons u us ih =>
    cases r with
    | cons r1 r2 =>
      rw [List.reverse_cons, List.reverse_cons]
      exact (ih r2).append (.cons r1 .nil)
def oRevL : Op1 := fun st u => match deref st u with
  | .lst xs => some (.lst xs.reverse)
  | _ => none
theorem ze_revL [TB] {k : Nat} {p1 p3 : Pos} (ha : ZE X a fa) : ZE X (.Subscript a (.Slice none none (some (.UnaryOp .USub (.Constant (.int 1) k p1) p2)) p3) pos) (dUn oRevL fa) := fun W xg =>
  PE.imp (pe_revL (ha W xg)) fun σ H Q ⟨ρ, st, m, S, E, P⟩ =>
    tz_seq (X := X) (k := fun ρ u st1 => R.ofO st1 (oRevL st1 u)) S E P fun u st1 v m1 H1 S1 E1 r1 l1 P1 => by
      have PO : PostO (gc X) m1 H1 st1 Q (oRevL st1 u) := .of P1
      unfold oRevL at PO
      split at PO
      · rename_i xs hx
        obtain ⟨a, vs, rfl, h1, r2⟩ := rep_lst S1 r1 hx
        exact ⟨a, vs, rfl, SqL.of h1, fun q hq => PO.lst S1 (reps_rev r2) q hq⟩
      · exact PO.elim
end
end Z

namespace Z
open PySem PySem.Spec PyProof.Rows L2
/-! ### a comprehension over a list that stands in a cell -/
def lcC (g : Ct) (c : UEnv → Store → R Bool) (f : UEnv → Store → R U) (n : Nat) : Nat → Nat → UEnv → Store → R (List U)
  | 0, _, _, _ => .stuck
  | k + 1, i, ρ, st => match st[n]? with
    | some (.lst xs) => match xs[i]? with
      | some x => match g x ρ with
        | some ρ1 => (c ρ1 st).bind fun b st2 => if b = true then (f ρ1 st2).bind fun y st3 => (lcC g c f n k (i + 1) ρ st3).bind fun ys st4 => .ok (y :: ys) st4 else lcC g c f n k (i + 1) ρ st2
        | none => .stuck
      | none => .ok [] st
    | _ => .stuck
def lcA (g : Ct) (c : UEnv → Store → R Bool) (f : UEnv → Store → R U) (u : U) (ρ : UEnv) (st : Store) : R (List U) := match u with
  | .hdl n => if lenC st n + 1 ≤ 16777216 then lcC g c f n (lenC st n + 1) 0 ρ st else .stuck
  | _ => .stuck
def dCompC (vs : List Nat) (fa : UEnv → Store → R U) (g : Ct) (c : UEnv → Store → R Bool) (f : UEnv → Store → R U) : UEnv → Store → R U := fun ρ st =>
  (fa ρ st).bind fun u st1 => ((lcA g c f u (wipeU ρ vs) st1).noexc).bind fun ys st2 => .ok (.lst ys) st2
theorem lc_postC {G : GC} {ct : Ct} {c : UEnv → Store → R Bool} {f : UEnv → Store → R U} {n k0 : Nat} {a : Addr} {g : TG} {tt : TT} {te : TE} {vs : List Nat} {σ : L2.St} {H1 : Hp} {m1 : MH} {ρ : UEnv} {st1 : Store} {EW : XK} {Q : VK}
    (hct : CtOk G g ct vs) (htt : ∀ σ H Q, tZT G (fun _ _ _ _ => False) c σ H Q → tt σ H Q) (hte : ∀ σ H Q, tZ G (fun _ _ _ _ => False) f σ H Q → te σ H Q)
    (r : Rep G m1 H1 (.hdl n) (.ref a)) (S1 : Sim G m1 H1 st1) (E : REnv G m1 H1 ρ σ) (hl : k0 ≤ 16777216)
    (P : Post G m1 H1 (Rep G) EW Q (((lcC ct c f n k0 0 (wipeU ρ vs) st1).noexc).bind fun ys st2 => .ok (.lst ys) st2)) (D : Addr) (hD : H1 D = none) :
    ∃ W : Nat → Nat → Hp → Prop, (∃ m, W 0 m (upd H1 D (.lst []))) ∧ ∀ i m H, W i m H →
      ((Itl G.K a).stop i H ∧ Q (.ref D) H) ∨ ((Itl G.K a).go i H ∧ ∃ Nx : Hp → Prop, (∀ H', Nx H' → ∃ m', m' < m ∧ W (i + 1) m' H') ∧ ∀ x H', (Itl G.K a).yld i H x H' → g x (wipe σ vs) H' fun σ2 H2 => wipe σ2 vs = wipe σ vs ∧ tt σ2 H2 fun b H3 =>
        if b = true then te σ2 H3 fun y H4 => ∃ acc, H4 D = some (.lst acc) ∧ acc.length < sizeLine ∧ Nx (upd H4 D (.lst (acc ++ [y]))) else Nx H3) := by
  have hDo : ¬ m1.own D := S1.off hD
  have hDa : ∀ n, m1.at_ n ≠ some D := fun n e => hDo (S1.own n D e)
  let Wf : Nat → Nat → Hp → Prop := fun i k H' => i + k = k0 ∧ ∃ (st' : Store) (m' : MH) (acc : List U) (ws : List V), Le m1 H1 m' H' ∧ m'.own D ∧ (∀ n, m'.at_ n ≠ some D) ∧ H' D = some (.lst ws) ∧ Sim G m' H' st' ∧ Reps G m' H' acc ws ∧ acc.length ≤ i ∧
    Post G m1 H1 (Rep G) EW Q (((lcC ct c f n k i (wipeU ρ vs) st').noexc).bind fun ys st2 => .ok (.lst (acc ++ ys)) st2)
  refine ⟨Wf, ⟨k0, by simp, st1, ⟨m1.at_, fun a => a = D ∨ m1.own a⟩, [], [], ?_, .inl rfl, hDa, upd_same, ?_, .nil, Nat.zero_le _, P⟩, ?_⟩
  · exact ⟨fun _ _ h => h, fun _ _ h => .inl h, fun _ h => .inr h, fun a h => by
      rcases h with rfl | h
      · exact .inr (.inl hD)
      · exact .inl h, fun a o e _ _ => by rw [upd_ne (ne_of_none e hD)]; exact e, (le_new (m := m1) hD).live⟩
  · have st : Stays m1 H1 ⟨m1.at_, fun a => a = D ∨ m1.own a⟩ (upd H1 D (.lst [])) := ⟨fun _ _ h => h, fun a o e n _ => ⟨by rw [upd_ne (ne_of_none e hD)]; exact e, fun z => by
      rcases z with rfl | z
      · rw [hD] at e; cases e
      · exact n z⟩⟩
    refine ⟨S1.dom, S1.lt, S1.inj, fun n a e => .inr (S1.own n a e), fun a e => ?_, fun n c a e1 e2 => ?_, tabs_new S1.tabs hD⟩
    · rcases e with rfl | e
      · exact ⟨_, upd_same, nofun⟩
      · obtain ⟨o, e1, nt⟩ := S1.live a e
        exact ⟨o, by rw [upd_ne (ne_of_none e1 hD)]; exact e1, nt⟩
    · obtain ⟨o, e3⟩ := S1.atlive e2
      exact (S1.cell n c a e1 e2).stay st (upd_ne (ne_of_none e3 hD))
  · rintro i k H' ⟨hik, st', m', acc, ws, L, hO, hA, hW, S', Ra, hal, P'⟩
    cases k with
    | zero => unfold lcC at P'; exact P'.elim
    | succ k =>
      unfold lcC at P'
      split at P'
      · rename_i xs hx
        have r1 := r.mono S1 L
        cases r1 with
        | @hdl _ _ hm =>
          obtain ⟨vs', e3, rv⟩ := S'.cell n _ a hx hm
          have hsq : SqL G.K H' a vs' := SqL.of e3
          split at P'
          · rename_i x hxi
            obtain ⟨v0, ev, rr⟩ := rv.getU hxi
            refine .inr ⟨⟨vs', v0, hsq, ev⟩, fun H2 => Wf (i + 1) k H2, fun H2 w => ⟨k, Nat.lt_succ_self k, w⟩, fun y H2 yy => ?_⟩
            obtain ⟨e, y2⟩ := yy
            subst e
            have e2 := y2 vs' hsq
            rw [ev] at e2; cases e2
            have E2 : REnv G m' H2 (wipeU ρ vs) (wipe σ vs) := (renv_wipe E vs).mono S1 L
            cases e0 : ct x (wipeU ρ vs) with
            | none => simp only [e0] at P'; exact P'.elim
            | some ρ1 =>
              simp only [e0] at P'
              refine hct v0 x _ H2 _ _ ρ1 m' E2 rr e0 fun σ2 E3 hw => ⟨hw.trans wipe_wipe, ?_⟩
              have stayD : ∀ {m3 : MH} {H3 : Hp}, Le m' H2 m3 H3 → m3.own D ∧ (∀ n, m3.at_ n ≠ some D) ∧ H3 D = some (.lst ws) := fun {m3 H3} l => ⟨l.grow D hO, l.off hW hA, l.keep D _ hW hA nofun⟩
              refine htt _ _ _ ⟨ρ1, st', m', S', E3, ?_⟩
              cases e1 : c ρ1 st' with
              | exc _ _ => rw [e1] at P'; exact P'.elim
              | stuck => rw [e1] at P'; exact P'.elim
              | ok b st2 =>
                rw [e1] at P'
                simp only [R.bind_ok] at P'
                intro b' m3 H3 l3 S3 eb
                have eb : b = b' := eb
                subst eb
                have L3 : Le m' H2 m3 H3 := l3
                cases b with
                | false =>
                  rw [if_neg Bool.false_ne_true]
                  simp only [Bool.false_eq_true, if_false] at P'
                  obtain ⟨d1, d2, d3⟩ := stayD L3
                  exact ⟨by omega, st2, m3, acc, ws, L.trans L3, d1, d2, d3, S3, Ra.mono S' L3, by omega, P'⟩
                | true =>
                  rw [if_pos rfl]
                  simp only [if_true] at P'
                  refine hte _ _ _ ⟨ρ1, st2, m3, S3, E3.mono S' l3, ?_⟩
                  cases e2 : f ρ1 st2 with
                  | exc _ _ => rw [e2] at P'; exact P'.elim
                  | stuck => rw [e2] at P'; exact P'.elim
                  | ok y st3 =>
                    rw [e2] at P'
                    simp only [R.bind_ok] at P'
                    intro v m4 H4 l4 S4 ry
                    have L4 : Le m' H2 m4 H4 := L3.trans l4
                    obtain ⟨d1, d2, d3⟩ := stayD L4
                    have LB : Le m1 H1 m4 H4 := L.trans L4
                    have hlen := Ra.length
                    have sz := line_eq
                    refine ⟨ws, d3, by omega, by omega, st3, m4, acc ++ [y], ws ++ [v], ?_, d1, d2, upd_same, ?_, ?_, by rw [List.length_append, List.length_singleton]; omega, ?_⟩
                    · exact ⟨LB.sub, LB.new, LB.grow, LB.fresh, fun a o e n t => by rw [upd_ne (ne_of_none e hD)]; exact LB.keep a o e n t, fun a e => by
                        by_cases q : a = D
                        · subst q; exact (e.no upd_same nofun).elim
                        · unfold Off at e; rw [upd_ne q] at e; exact LB.live a e⟩
                    · have st5 : Stays m4 H4 m4 (upd H4 D (.lst (ws ++ [v]))) := ⟨fun _ _ h => h, fun a o e n _ => ⟨by rw [upd_ne (fun q => n (by rw [q]; exact d1))]; exact e, n⟩⟩
                      refine ⟨S4.dom, S4.lt, S4.inj, S4.own, fun a e => ?_, fun n c a e1 e2 => ?_, tabs_upd S4.tabs d3⟩
                      · by_cases q : a = D
                        · exact ⟨.lst (ws ++ [v]), by rw [q]; exact upd_same, nofun⟩
                        · obtain ⟨o, e1, nt⟩ := S4.live a e
                          exact ⟨o, by rw [upd_ne q]; exact e1, nt⟩
                      · exact (S4.cell n c a e1 e2).stay st5 (upd_ne fun q => d2 n (q ▸ e2))
                    · have st5 : Stays m4 H4 m4 (upd H4 D (.lst (ws ++ [v]))) := ⟨fun _ _ h => h, fun a o e n _ => ⟨by rw [upd_ne (fun q => n (by rw [q]; exact d1))]; exact e, n⟩⟩
                      exact ((Ra.mono S' L4).append (.cons ry .nil)).stay st5
                    · cases e3 : lcC ct c f n k (i + 1) (wipeU ρ vs) st3 with
                      | ok ys st4 =>
                        rw [e3] at P'
                        simpa using P'
                      | exc _ _ => rw [e3] at P'; exact P'.elim
                      | stuck => rw [e3] at P'; exact P'.elim
          · rename_i hxi
            simp only [R.noexc_ok, R.bind_ok, List.append_nil] at P'
            refine .inl ⟨⟨vs', hsq, ?_⟩, P' (.ref D) ⟨m'.at_, fun a => m'.own a ∧ a ≠ D⟩ H' ?_ ?_ ?_⟩
            · rw [← rv.length]
              exact List.getElem?_eq_none_iff.mp hxi
            · exact ⟨L.sub, L.new, fun a h => ⟨L.grow a h, fun q => hDo (q ▸ h)⟩, fun a h => L.fresh a h.1, L.keep, L.live⟩
            · have st5 : Stays m' H' ⟨m'.at_, fun a => m'.own a ∧ a ≠ D⟩ H' := ⟨fun _ _ h => h, fun a o e n _ => ⟨e, fun z => n z.1⟩⟩
              exact ⟨S'.dom, S'.lt, S'.inj, fun n a e => ⟨S'.own n a e, fun q => hA n (q ▸ e)⟩, fun a e => S'.live a e.1, fun n c a e1 e2 => (S'.cell n c a e1 e2).stay st5 rfl, S'.tabs⟩
            · have st5 : Stays m' H' ⟨m'.at_, fun a => m'.own a ∧ a ≠ D⟩ H' := ⟨fun _ _ h => h, fun a o e n _ => ⟨e, fun z => n z.1⟩⟩
              exact .lst hW (fun z => z.2 rfl) (Ra.stay st5)
      · exact P'.elim

section
variable {X : Cx} {elt tg iter cnd : Expr} {scope : Scope} {own : List (Str × Nat)} {pos : Pos} {fa : UEnv → Store → R U} {ct : Ct} {c : UEnv → Store → R Bool} {f : UEnv → Store → R U} {g : TG}
theorem lc_useC {G : GC} {W : WX} {σ : L2.St} {H : Hp} {Q : VK} {vs : List Nat} {tt : TT} {te : TE} (hct : CtOk G g ct vs) (htt : ∀ σ H Q, tZT G (fun _ _ _ _ => False) c σ H Q → tt σ H Q) (hte : ∀ σ H Q, tZ G (fun _ _ _ _ => False) f σ H Q → te σ H Q)
    (h : tZ G W (dCompC vs fa ct c f) σ H Q) : tLc (iAny G.K (tZ G W fa)) g tt te vs σ H Q := by
  obtain ⟨ρ, st, m, S, E, P⟩ := h
  refine ⟨ρ, st, m, S, E, Post.bind (γ := U) (k := fun u st1 => ((lcA ct c f u (wipeU ρ vs) st1).noexc).bind fun ys st2 => .ok (U.lst ys) st2) P fun u st1 v m1 H1 _ l S1 r p => ?_⟩
  unfold lcA at p
  split at p
  · rename_i n
    split at p
    · rename_i hl
      cases r with
      | @hdl _ a hm =>
        have p0 := p
        unfold lcC at p0
        split at p0
        · rename_i xs hx
          obtain ⟨vs', e3, rv⟩ := S1.cell _ _ a hx hm
          refine .inl ⟨a, rfl, ⟨vs', SqL.of e3⟩, fun D hD => ?_⟩
          exact lc_postC hct htt hte (.hdl hm) S1 (E.mono S l) hl p D hD
        · exact p0.elim
    · exact p.elim
  · exact p.elim
theorem ze_lcIfC [TB] (hc : X.calm = true) (hN : X.N.Nodup) (hi : ZE X iter fa) (hct : CtOk (gc X) g ct (own.map (·.2)))
    (hg : ∀ (s : Shared) (H : Hp) (C : Addr) (cl : List (Str × Addr)) (fp : List Addr), PG (X.blk s H scope (compEnvC scope cl C X.env) fp) tg g)
    (ht : ∀ (s : Shared) (H : Hp) (C : Addr) (cl : List (Str × Addr)) (fp : List Addr), ZT (X.blk s H scope (compEnvC scope cl C X.env) fp) cnd c)
    (he : ∀ (s : Shared) (H : Hp) (C : Addr) (cl : List (Str × Addr)) (fp : List Addr), ZE (X.blk s H scope (compEnvC scope cl C X.env) fp) elt f)
    (ok : blkC X.N X.env.scope scope own = true := by decide +kernel) (hs : ∀ x, foldedSetIterable iter X.env x = pure x := by intro _; rfl) : ZE X (.ListComp elt [⟨tg, iter, [cnd], 0⟩] scope pos) (dCompC (own.map (·.2)) fa ct c f) := fun W xg =>
  PE.imp (pe_lc hc hN (pi_any (hi W xg)) (blkOk_by ok) hg (fun s H C cl fp => pts_one (ht s H C cl fp _ xg_blk)) (fun s H C cl fp => he s H C cl fp _ xg_blk) hs) fun σ H Q h =>
    lc_useC hct (fun _ _ _ h => h) (fun _ _ _ h => h) h
end
end Z

namespace Z
open PySem PySem.Spec PyProof.Rows L2
/-! ### whole numbers by a wide one -/
def oDivW : Op2 := fun _ a b => match a, b with
  | .int i, .int j => if 0 < j ∧ j < 18446744073709551616 then some (.int (i / j)) else none
  | _, _ => none
theorem oDivW_i {st : Store} (i j : Int) (h : 0 < j) (h2 : j < 18446744073709551616) : oDivW st (.int i) (.int j) = some (.int (i / j)) := by simp [oDivW, h, h2]
theorem z_divW {X : Cx} [TB] : OpZ X (binaryOp .FloorDiv) oDivW := by
  intro pins s σ H x y v u Q I rx ry ⟨m, st, a, b, S, ra, rb, P⟩
  unfold oDivW at P
  split at P
  · rename_i i j
    split at P
    · rename_i hl
      exact op_fdivW pins s σ H x y v u Q I rx ry ⟨i, j, rep_int ra, rep_int rb, wide_div (b := 64) hl.1 (by omega) (by decide) (by decide), P.here S (.int _)⟩
    · exact P.elim
  · exact P.elim
end Z

namespace Z
open PySem PySem.Spec PyProof.Rows L2
/-! ### an exception class with an __init__ of its own and one field -/
theorem pe_cini {X : Cx} {b : Str} {B : Addr} {e : Expr} {es : List Expr} {ta : TA} {p1 p2 pos : Pos} {pl : Sem Bool} (hg : Gl X b) (hm : X.mg b = some (.ref B)) (sg : PySem.W.specialIn X.K (.ref B) "__getattribute__" = some (some (.builtin "type.__getattribute__")))
    (tB : PySem.W.typeIn X.K (.ref B) = some (.type "type")) (rB : PySem.W.readsIn X.K B (.type "type") = true) (vV : PySem.W.findCls X.K (.ref B) (.type "type") "__init__" = some (.val (.builtin "ValueError.__init__"))) (ha : PA X (e :: es) ta)
    (hc : eval (.Call (.Attribute (.Name b p1) "__init__" p2) (e :: es) [] pos) X.env = (do
      let ov ← eval (.Name b p1) X.env
      standAt p2.atName
      let (f, first) ← holding [ov] (getMethod ov "__init__" pl)
      callWith pos f first (backTo pos (starEach (e :: es) X.env)) (backToKw pos (keywordEach [] X.env))) := by rfl)
    (he : starEach (e :: es) X.env = (false, eval e X.env) :: starEach es X.env := by rfl) (hpl : (backTo pos (starEach es X.env)).any (·.1) = false := by rfl) (hdb : (b == ("__debug__" : Str)) = false := by decide) :
    PE X (.Call (.Attribute (.Name b p1) "__init__" p2) (e :: es) [] pos) (tVeI X.K ta) := by
  refine ⟨fun pins s σ H Q I h => ?_⟩
  refine PySem.W.methodCall_KW (ld_glob I hg hm ?_ hdb) hc
  obtain ⟨m, fr⟩ := I.fr
  refine PySem.W.method_of_cls fr I.ok.mod.kin sg ?_
  refine PySem.W.cls_val fr I.ok.mod.kin tB rB vV (by decide +kernel) ?_
  show wpAny _ _ (callWith pos (Value.builtin "ValueError.__init__") [] (backTo pos (starEach (e :: es) X.env)) []) _ _ _
  refine PyProof.Rows.callWith_method1 (thn (ha.run pos pins _ σ H _ (I.tok _) h) fun us s1 ⟨vs, H1, I1, r1, a, C, ws, ev, hl, T, ea, q⟩ => ?_) he hpl
  subst ev
  cases r1 with
  | @cons _ u0 _ ur ra rw' =>
    obtain rfl : u0 = Value.ref a := ra
    have hlen : ur.length ≤ sizeLine := by
      rw [← Paired.length rw', sizeLine_eq]
      omega
    exact oinit_ok T I1 ea hlen fun s' J => ⟨.non, H1, J, rfl, q⟩
def smallI (n : Int) : Bool := decide (n.natAbs < 1000000000000000000)
theorem smallI_log {n : Int} (h : smallI n = true) : n.natAbs.log2 < 1920 := by
  have h : n.natAbs < 1000000000000000000 := of_decide_eq_true h
  by_cases z : n.natAbs = 0
  · rw [z]; decide
  · have : n.natAbs.log2 < 60 := (Nat.log2_lt z).mpr (Nat.lt_of_lt_of_le h (by decide))
    omega
theorem smallI_len {n : Int} (h : smallI n = true) : (Str.ofString (toString n)).length ≤ 19 := by
  have h : n.natAbs < 1000000000000000000 := of_decide_eq_true h
  rw [PySem.ofString_length]
  exact int_text_length_le10 (k := 18) (by decide) h
/-- what __init__ wants and does -/
def spI (K : PySem.W.Frag) (f : Str) : Sp := fun vs H Q _ => ∃ (a C : Addr) (n : Int), vs = [.ref a, .int n] ∧ smallI n = true ∧ OexC K C ∧ PySem.W.findIn K (.ref C) f = some none ∧ H a = some (exo a C none) ∧
  ∀ dx, H dx = none → dx ≠ a → Q .non (upd (upd H dx (exd dx [(f, .int n)])) a (exo a C (some dx)))
def tIni (K : PySem.W.Frag) (w f : Str) : TS := tSeq (tDrop (tVeI K (tCons (tVar 0) (tCons (fun σ H Q => tJs [tC (.str w), tFmt (tVar 1)] Str.empty σ H fun out H1 => Q (.str out) H1) tNil)))) (tOst K f (tVar 0) (tVar 1))
theorem fn_ini {P : Program} {w : World} {K : PySem.W.Frag} {mg : Str → Option Value} {base : Heap} {qual wd f : Str} {params : Arguments} {body : List Stmt} {scope : Scope} {fI : Addr} {fd : FuncData} (F : FunD K "__init__" qual params body scope [] [] fI fd) (S : FnScope ["self", f] ["self", f] scope) (hw : wd.length ≤ 1000)
    (hb : ∀ (cdv : Value) (A : Around) (outer : List Env) (s : Shared) (H : Hp) (E : XK), PSs (cxOf (L2.CX P w) P w K mg base ["self", f] qual scope fI cdv A outer s H E) body (tIni K wd f)) : FnOk P w K mg base (L2.CX P w) 1 fI fd ["self", f] (spI K f) := by
  refine F.ok (k := 0) S (fun vs H Q E h => ?_) (fun cdv A outer s H vs Q E hr h => ⟨_, hb cdv A outer s H E, ?_⟩)
  · obtain ⟨a, C, n, rfl, _⟩ := h
    rfl
  · obtain ⟨a, C, n, rfl, hn, T, hf, ha, q⟩ := h
    refine ⟨.ref a, rfl, wd, rfl, ?_, .int n, rfl, .inr ⟨n, rfl, smallI_log hn, toString n, rfl, ?_, a, C, [_], rfl, by simp, T, ha, .int n, rfl, .ref a, rfl, a, C, rfl, T, hf, .inl ⟨ha, fun dx h1 h2 => q dx h1 h2⟩⟩⟩
    · show (Str.empty ++ wd).length ≤ sizeLine
      rw [sizeLine_eq, Str.length_append]
      have : Str.empty.length = 0 := rfl
      omega
    · show (Str.empty ++ wd ++ Str.ofString (toString n)).length ≤ sizeLine
      rw [sizeLine_eq, Str.length_append, Str.length_append]
      have : Str.empty.length = 0 := rfl
      have := smallI_len hn
      omega
/-- the class, as a callee -/
structure IniZ (P : Program) (w : World) (K : PySem.W.Frag) (mg : Str → Option Value) (base : Heap) (x f : Str) : Prop where
  ex : ∃ (C fI : Addr) (fd : FuncData), mg x = some (.ref C) ∧ OexC K C ∧ PySem.W.findIn K (.ref C) "__init__" = some (some (.ref fI)) ∧ PySem.W.typeIn K (.ref fI) = some (.type "function") ∧ PySem.W.findIn K (.ref C) f = some none ∧ XfC K C ∧
    FnOk P w K mg base (L2.CX P w) 1 fI fd ["self", f] (spI K f) ∧ Binds K fd ["self", f] []
@[simp] def sRaiseI (x f : Str) (g : UEnv → Store → R U) : UEnv → Store → R Fl := fun ρ st => (g ρ st).bind fun u st1 => match u with
  | .int n => if smallI n = true then .exc ⟨x, some (f, .int n)⟩ st1 else .stuck
  | _ => .stuck
theorem zs_raiseI [TB] {X : Cx} {x f : Str} {a : Expr} {fa : UEnv → Store → R U} {j : Nat} {p pos pos2 : Pos} (e : IniZ X.prog X.w X.K X.mg X.base x f) (hr : Room j X.A) (ha : ZE X a fa) (hj : 2 ≤ j := by decide) (hc : X.calm = true := by rfl) (hg : Gl X x := by rfl) (hdb : (x == ("__debug__" : Str)) = false := by decide)
    (he : starEach [a] X.env = (false, eval a X.env) :: starEach [] X.env := by rfl) (hpl : (backTo pos (starEach [] X.env)).any (·.1) = false := by rfl) :
    ZS X (.Raise (some (.Call (.Name x p) [a] [] pos)) none pos2) (sRaiseI x f fa) := fun W xg => by
  obtain ⟨C, fI, fd, gC, T, iC, tI, nf, _, F, hb⟩ := e.ex
  refine PS.imp (ps_raise hc xg.tk (pmk_oex (ds := []) (dvs := []) (k := 1) T iC tI F (hr.mono hj) hb .nil (passes_call xg.tk fun _ _ _ _ z => z.elim) hg gC (pa_cons (ha W xg) pa_nil he) hdb he hpl)) fun D σ H ⟨ρ, st, m, S, E, P⟩ => ?_
  refine ⟨ρ, st, m, S, E, ?_⟩
  have P : PostS (gc X) m H W D ((fa ρ st).bind fun u st1 => match u with
    | .int n => if smallI n = true then (.exc ⟨x, some (f, .int n)⟩ st1 : R Fl) else .stuck
    | _ => .stuck) := P
  cases q : fa ρ st with
  | stuck => rw [q] at P; exact P.elim
  | exc ex st1 => rw [q] at P; exact fun c d m1 H1 l S1 r => P c d _ m1 H1 l S1 r
  | ok u st1 =>
    rw [q] at P
    intro v m1 H1 l1 S1 r1
    cases u with
    | int n =>
      simp only [R.bind_ok] at P
      by_cases hn : smallI n = true
      · rw [if_pos hn] at P
        cases r1
        refine ⟨by simp, fun a na => ⟨a, C, n, rfl, hn, T, nf, upd_same, fun dx hd hne => ⟨rfl, dx, [(f, .int n)], upd_same, ?_, ?_, ?_⟩⟩⟩
        · rw [upd_ne hne, upd_same]
        · rwa [upd_ne hne] at hd
        · have hd1 : H1 dx = none := by rwa [upd_ne hne] at hd
          have eq : upd (del (upd (upd (upd H1 a (exo a C none)) dx (exd dx [(f, .int n)])) a (exo a C (some dx))) a) dx (.xd [(f, .int n)]) = upd H1 dx (.xd [(f, .int n)]) := by
            funext b
            by_cases h1 : b = dx
            · rw [h1, upd_same, upd_same]
            · rw [upd_ne h1, upd_ne h1]
              by_cases h2 : b = a
              · rw [h2, del_same, na]
              · rw [del_ne h2, upd_ne h2, upd_ne h1, upd_ne h2]
          rw [eq]
          exact P (.ref C) (some dx) σ m1 _ (l1.trans (le_new hd1)) (S1.new hd1) ⟨C, gC, rfl, dx, .int n, rfl, upd_same, .int n⟩
      · rw [if_neg hn] at P
        exact P.elim
    | _ => exact P.elim
end Z

namespace Z
open PySem PySem.Spec PyProof.Rows L2
/-! ### except clauses, some with a name for the exception -/
def asT (n i : Nat) (t : Addr → Value → Option Addr → TS) : Addr → Value → Option Addr → TS := fun a cls d D σ H => σ.length = n →
  t a cls d { nx := fun σ' H' => D.nx (σ'.set i none) H', rt := D.rt, bk := fun σ' H' => D.bk (σ'.set i none) H', ct := fun σ' H' => D.ct (σ'.set i none) H' } (σ.set i (some (.ref a))) H
inductive HdsE (X : Cx) : List ExceptHandler → List ClD → Prop
  | nil : HdsE X [] []
  | dead {x : Str} {c : Value} {nm : Option Str} {suite : List Stmt} {np q : Pos} {hs : List ExceptHandler} {l : List ClD} (n : Names X x c) (r : HdsE X hs l) : HdsE X (.ExceptHandler (some (.Name x np)) nm suite q :: hs) ((c, none) :: l)
  | live {x : Str} {c : Value} {t : Addr → Value → Option Addr → TS} {b₀ : Stmt} {suite : List Stmt} {np q : Pos} {hs : List ExceptHandler} {l : List ClD} (n : Names X x c)
      (run : ∀ (a : Addr) (o : Obj) (cls : Value) (d : Option Addr) (pn : List (Addr × Obj)), Zc cls d o → (∃ vs, o.data = .fields vs) → PSs (X.suite a ((a, o) :: pn)) (b₀ :: suite) (t a cls d)) (r : HdsE X hs l) :
      HdsE X (.ExceptHandler (some (.Name x np)) none (b₀ :: suite) q :: hs) ((c, some t) :: l)
  | as {x nm : Str} {c : Value} {i : Nat} {t : Addr → Value → Option Addr → TS} {b₀ : Stmt} {suite : List Stmt} {np q : Pos} {hs : List ExceptHandler} {l : List ClD} (hN : X.N.Nodup) (hi : X.N[i]? = some nm) (hln : X.env.kindOf nm = some .local) (n : Names X x c)
      (run : ∀ (a : Addr) (o : Obj) (cls : Value) (d : Option Addr) (pn : List (Addr × Obj)), Zc cls d o → (∃ vs, o.data = .fields vs) → PSs (X.suite a ((a, o) :: pn)) (b₀ :: suite) (t a cls d)) (r : HdsE X hs l) :
      HdsE X (.ExceptHandler (some (.Name x np)) (some nm) (b₀ :: suite) q :: hs) ((c, some (asT X.N.length i t)) :: l)
section
variable {X : Cx}
/-- an exception that has landed goes through the clauses -/
theorem hand_chainE {D : Ends} {Wo : WX} {cls : Value} {d : Option Addr} {a : Addr} {B h : Heap} {sI s' : Shared} {pins : List (Addr × Obj)} {σ : L2.St} {H : Hp} (ok : X.Ok) (hs : X.stack = X.env :: X.outer) (hf : X.env.frame = some X.env.locals) (tk : Takes X Wo)
    (J : Inv X pins σ H sI) (nb : ∀ b o, sI.heap.get? b = some o → b ∉ frs X.stack → B.get? b = some o) (up : sI.heap.UpToSlots h) (na : H a = none) (os : s'.os = sI.os) (ag : AllBare s'.gens) (fl : HandSPX.FlyingZ B (X.env :: X.outer) a (Zc cls d) h)
    (J3 : Inv X pins σ H { s' with heap := h }) (nL : a ≠ X.env.locals) (nF : a ∉ X.fs) :
    ∀ {hs' : List ExceptHandler} {l : List ClD}, HdsE X hs' l → wAlt X.K Wo D l cls d σ H → wpAny (model X.prog X.w) X.A (handleBy (.ref a) X.env hs') (SP X pins D) X.xe { s' with heap := h } := by
  obtain ⟨oE, vE, gE, zE, dE⟩ := fl.there
  have S3 := J3.suite gE dE na nL nF
  -- the head of one clause, by name: does it fit?
  have fits : ∀ {x : Str} {c : Value} {np p : Pos} {b : Bool} {R : Except Value Flow → Shared → Prop}, Names X x c → PySem.W.exmOne X.K cls c = some b → R (.ok (if b = true then .brk else .next)) { s' with heap := h } →
      codeAny (model X.prog X.w) (X.A.mark (some (.ref a))) (.handlers (.ref a) [.ExceptHandler (some (.Name x np)) none [] p] X.env) R { s' with heap := h } := by
    intro x c np p b R n hb q
    refine codeAny_handlers_test ?_
    have look : PySem.W.Looks (model X.prog X.w) h (typeOf (.ref a)) cls := by
      intro A Q E s k z
      exact wpAny_typeOf_ref (k _ _ gE) (by rw [zE.1]; exact z)
    have lm := PySem.W.exm_one (M := model X.prog X.w) J3.kIn look hb
    rcases n with ⟨g, nd, m⟩
    rcases m with m | ⟨m, hv, hn⟩
    · exact ld_glob (X := X.suite a ((a, oE) :: (X.pn ++ pins))) S3 g m (lm.here q) nd
    · exact ld_blt (X := X.suite a ((a, oE) :: (X.pn ++ pins))) S3 g m hv (lm.here q) hn nd
  intro hs' l hd
  induction hd with
  | nil =>
    intro w
    obtain ⟨k1, k2, k3, oe, vs, T, oT, ts', he, hz, hdd, h1, hr⟩ := id fl
    have up1 : wpAny (model X.prog X.w) X.A (setFlight (.ref a) X.env.frame) (fun _ t => wpAny (model X.prog X.w) X.A (throw (.ref a) : Sem Flow) (SP X pins D) X.xe t) X.xe { s' with heap := h } := by
      rw [hf]
      refine HandSPX.setFlight_upZ fl fun h4 hh4 up4 => wpAny_throw ?_
      refine tk _ _ ⟨a, B, sI, pins, σ, H, cls, d, rfl, J, nb, up.trans up4, ?_, na, os, ag, w⟩
      exact .inr (.inr (by rw [hs]; exact hh4))
    refine wpAny_handleBy_nil ?_
    unfold PySem.passOn
    refine wpAny_bind (wpAny_field he hdd h1 ?_)
    have hne : ¬ ((Value.ref T == Value.none) = true) := by simp
    rw [if_neg hne]
    first
      | exact wpAny_bind (wpAny_pure (wpAny_bind up1))
      | exact wpAny_bind up1
  | dead n r ih =>
    rintro ⟨hb, w⟩
    exact wpAny_handleBy_cons (fits n hb (ih w)) (fun z => nomatch z)
  | live n run r ih =>
    rintro ⟨b, hb, yes, no⟩
    refine wpAny_handleBy_cons (fits n hb ?_) (fun z => nomatch z)
    cases b with
    | false => exact ih (no rfl)
    | true =>
      refine codeAny_handlers_suite (HandSPX.lands_againZ fl fun h4 fl4 up4 => ?_)
      have J4 : Inv X pins σ H { s' with heap := h4 } := J.landed nb fl4.1 (up.trans up4) os ag
      obtain ⟨oe4, vs4, he4, hz4, hd4⟩ := fl4.there
      refine wpAny_mono ((run a oe4 cls d (X.pn ++ pins) hz4 ⟨_, hd4⟩).run [] _ _ H _ (J4.suite he4 hd4 na nL nF) (yes rfl a na)) ?_ (fun _ _ z => z.elim)
      intro f s6 hsp
      match f, hsp with
      | .next, ⟨σ6, H6, S6, q6⟩ => exact ⟨_, _, S6.unsuite ok, q6⟩
      | .brk, ⟨σ6, H6, S6, q6⟩ => exact ⟨_, _, S6.unsuite ok, q6⟩
      | .cont, ⟨σ6, H6, S6, q6⟩ => exact ⟨_, _, S6.unsuite ok, q6⟩
      | .ret u, ⟨v6, σ6, H6, S6, r6, q6⟩ => exact ⟨_, _, _, S6.unsuite ok, r6, q6⟩
  | as hN hi hln n run r ih =>
    rintro ⟨b, hb, yes, no⟩
    refine wpAny_handleBy_cons (fits n hb ?_) (fun z => nomatch z)
    cases b with
    | false => exact ih (no rfl)
    | true =>
      refine codeAny_handlers_suite_as ?_
      refine HandSPX.lands_againZ fl fun h4 fl4 up4 => ?_
      have J4 : Inv X pins σ H { s' with heap := h4 } := J.landed nb fl4.1 (up.trans up4) os ag
      obtain ⟨oe4, vs4, he4, hz4, hd4⟩ := fl4.there
      have S4 := J4.suite he4 hd4 na nL nF
      refine store_ok (X := X.suite a ((a, oe4) :: (X.pn ++ pins))) (v := .ref a) S4 hN hi (.inl hln) rfl (fun s5 S5 => ?_) (.inr hln)
      refine wpAny_mono ((run a oe4 cls d (X.pn ++ pins) hz4 ⟨_, hd4⟩).run [] s5 _ H _ S5 (yes rfl a na J.len)) (fun f s6 hsp => ?_) (fun _ _ z => False.elim z)
      match f, hsp with
      | .next, ⟨σ6, H6, S6, q6⟩ => exact gone_ok (S6.unsuite ok) hN hi hln fun s7 J7 => ⟨_, _, J7, q6⟩
      | .brk, ⟨σ6, H6, S6, q6⟩ => exact gone_ok (S6.unsuite ok) hN hi hln fun s7 J7 => ⟨_, _, J7, q6⟩
      | .cont, ⟨σ6, H6, S6, q6⟩ => exact gone_ok (S6.unsuite ok) hN hi hln fun s7 J7 => ⟨_, _, J7, q6⟩
      | .ret u, ⟨v6, σ6, H6, S6, r6, q6⟩ => exact gone_ok (S6.unsuite ok) hN hi hln fun s7 J7 => ⟨_, _, _, J7, r6, q6⟩
theorem ps_try_altE {body : List Stmt} {h₀ : ExceptHandler} {hds : List ExceptHandler} {l : List ClD} {pos : Pos} {tb : WX → TS} {Wo : WX} (hs : X.stack = X.env :: X.outer) (hf : X.env.frame = some X.env.locals) (tk : Takes X Wo)
    (hb : ∀ (W : WX) (pn : List (Addr × Obj)) (xe : Value → Shared → Prop), Takes (X.tr pn xe) W → PassesOwn (model X.prog X.w) X.A X.env xe → PSs (X.tr pn xe) body (tb W)) (hh : HdsE X (h₀ :: hds) l) :
    PS X (.Try body (h₀ :: hds) [] [] pos) fun D σ H => tb (wAlt X.K Wo D l) D σ H := by
  constructor
  intro pins s σ H D I h
  have ok := I.ok
  have hfr : X.A.frames = some (X.env :: X.outer) := by rw [ok.frames, hs]
  have tk2 : Takes (X.tr (X.pn ++ pins) (fun e s₁ => wpAny (model X.prog X.w) X.A (noteFrame e X.env) (fun _ s₂ => wpAny (model X.prog X.w) X.A (setFlight e none) (fun _ s₃ => wpAny (model X.prog X.w) X.A (handleBy e X.env (h₀ :: hds)) (SP X pins D) X.xe s₃) X.xe s₂) X.xe s₁)) (wAlt X.K Wo D l) := by
    intro u s' xx
    obtain ⟨a, B, sI, pins', σ', H', cls, d, rfl, J', nb, up, sky, na, os, ag, w⟩ := xx
    have J : Inv X pins σ' H' sI := J'.ofTry ok
    show wpAny (model X.prog X.w) X.A (noteFrame (.ref a) X.env) _ _ _
    have sky' : Sky B (X.env :: X.outer) a (Zc cls d) X.env.locals s'.heap := by rw [← hs]; exact sky
    refine Sky.land Zc.steady hfr hf sky' fun h3 fl3 up3 => ?_
    obtain ⟨oe3, vs3, he3, hz3, hd3⟩ := fl3.there
    have nfr : a ∉ frs (X.env :: X.outer) := fun hm => by
      obtain ⟨_, o', e', hnf⟩ := fl3.2.2.1.mem hm
      rw [he3] at e'
      cases e'
      exact hnf _ hd3
    have nL : a ≠ X.env.locals := fun z => nfr (by
      refine List.mem_filterMap.mpr ⟨X.env, .head _, ?_⟩
      rw [hf, z])
    have nF : a ∉ X.fs := fun hm => by
      obtain ⟨e, he, q⟩ := List.mem_filterMap.mp hm
      exact nfr (List.mem_filterMap.mpr ⟨e, .tail _ he, q⟩)
    exact hand_chainE ok hs hf tk J nb (up.trans up3) na os ag fl3 (J.landed nb fl3.1 (up.trans up3) os ag) nL nF hh w
  refine wpAny_Try_except (wpAny_mono ((hb (wAlt X.K Wo D l) (X.pn ++ pins) _ tk2 PassesOwn.looking).run [] s σ H D (I.toTry _) h) ?_ fun e s1 he => he)
  intro f s1 hsp
  match f, hsp with
  | .next, ⟨σ', H', J', q⟩ => exact wpAny_execs_nil ⟨σ', H', J'.ofTry ok, q⟩
  | .brk, ⟨σ', H', J', q⟩ => exact ⟨σ', H', J'.ofTry ok, q⟩
  | .cont, ⟨σ', H', J', q⟩ => exact ⟨σ', H', J'.ofTry ok, q⟩
  | .ret u, ⟨v, σ', H', J', r, q⟩ => exact ⟨v, σ', H', J'.ofTry ok, r, q⟩
end

end Z

namespace Z
open PySem PySem.Spec PyProof.Rows L2
theorem strOk_of (s : String) : PyData.strOk (Str.ofString s) = true := by
  rw [Str.ofString_eq_toList]
  unfold PyData.strOk
  simp only [List.all_toArray, List.all_map, List.all_eq_true, Function.comp, decide_eq_true_eq]
  intro c _
  have := c.valid
  have h : c.toNat = c.val.toNat := rfl
  rw [h]
  rcases this with h | h
  · have : c.val.toNat < 55296 := h
    omega
  · exact h.2
/-- an exception's field, to be read -/
structure XfZ (K : PySem.W.Frag) (mg : Str → Option Value) (x f : Str) : Prop where
  ex : ∃ C : Addr, mg x = some (.ref C) ∧ XfC K C ∧ PySem.W.findIn K (.ref C) f = some none
theorem IniZ.xf {P : Program} {w : World} {K : PySem.W.Frag} {mg : Str → Option Value} {base : Heap} {x f : Str} (e : IniZ P w K mg base x f) : XfZ K mg x f := by
  obtain ⟨C, fI, fd, gC, T, iC, tI, nf, xf, _⟩ := e.ex
  exact ⟨C, gC, xf, nf⟩
/-! ### a def that tells the exception, and the number it holds -/
inductive ClK where
  | dead | say (w : Str) | add (w f : Str)
abbrev ClF := List (Str × ClK)
def tellXF (t : SubT) : ClF → Ex → Store → R U
  | [], _, _ => .stuck
  | (c, .dead) :: r, e, st => match subOf t e.cls c with
    | some false => tellXF t r e st
    | _ => .stuck
  | (c, .say w) :: r, e, st => match subOf t e.cls c with
    | some true => .ok (.str w) st
    | some false => tellXF t r e st
    | none => .stuck
  | (c, .add w f) :: r, e, st => match subOf t e.cls c with
    | some true => if e.cls = c then (match e.fld with
      | some (g, .int n) => if g = f ∧ smallI n = true then .ok (.str (w ++ Str.ofString (toString n))) st else .stuck
      | _ => .stuck) else .stuck
    | some false => tellXF t r e st
    | none => .stuck
def tellF (t : SubT) (l : ClF) : R U → R U
  | .ok _ st => .ok (.str "") st
  | .exc e st => tellXF t l e st
  | .stuck => .stuck
@[simp] theorem tellF_ok (t : SubT) (l : ClF) (u : U) (st : Store) : tellF t l (.ok u st) = .ok (.str "") st := rfl
@[simp] theorem tellF_exc (t : SubT) (l : ClF) (e : Ex) (st : Store) : tellF t l (.exc e st) = tellXF t l e st := rfl
@[simp] def dTellF (t : SubT) (l : ClF) (f : UEnv → Store → R U) : UEnv → Store → R U := fun ρ st => tellF t l (f ρ st)
def wTellF (K : PySem.W.Frag) (Q : VK) : List (Value × ClK) → XK
  | [] => fun _ _ _ => False
  | (c, .dead) :: r => fun cls d H => PySem.W.exmOne K cls c = some false ∧ wTellF K Q r cls d H
  | (c, .say w) :: r => fun cls d H => ∃ b, PySem.W.exmOne K cls c = some b ∧ (b = true → Q (.str w) H) ∧ (b = false → wTellF K Q r cls d H)
  | (c, .add w f) :: r => fun cls d H => ∃ b, PySem.W.exmOne K cls c = some b ∧
    (b = true → ∃ (dd : Addr) (n : Int), cls = c ∧ d = some dd ∧ H dd = some (.xd [(f, .int n)]) ∧ smallI n = true ∧ w.length ≤ 1000 ∧ Q (.str (w ++ Str.ofString (toString n))) H) ∧ (b = false → wTellF K Q r cls d H)
def TTellF (K : PySem.W.Frag) (l : List (Value × ClK)) : (XK → Hp → VK → Prop) → Hp → VK → Prop := fun tl H Q => tl (wTellF K Q l) H fun _ H' => Q (.str "") H'
inductive HdsTF (X : Cx) : List ExceptHandler → List (Value × ClK) → Prop
  | nil : HdsTF X [] []
  | dead {x : Str} {c : Value} {nm : Option Str} {suite : List Stmt} {np p3 : Pos} {hds : List ExceptHandler} {l : List (Value × ClK)} (hc : Names X x c) (r : HdsTF X hds l) : HdsTF X (.ExceptHandler (some (.Name x np)) nm suite p3 :: hds) ((c, .dead) :: l)
  | say {x w : Str} {c : Value} {np p1 p2 p3 : Pos} {j : Nat} {hds : List ExceptHandler} {l : List (Value × ClK)} (hc : Names X x c) (r : HdsTF X hds l) :
      HdsTF X (.ExceptHandler (some (.Name x np)) none [.Return (some (.Constant (.str w) j p1)) p2] p3 :: hds) ((c, .say w) :: l)
  | add {x w f nm : Str} {C : Addr} {c : Value} {i : Nat} {np p1 p2 p3 p4 p5 p6 p7 p8 : Pos} {j : Nat} {hds : List ExceptHandler} {l : List (Value × ClK)} (hC : c = .ref C) (hc : Names X x c) (T : XfC X.K C) (nf : PySem.W.findIn X.K (.ref C) f = some none) (ms : X.mg "str" = none) (gs : Gl X "str") (hN : X.N.Nodup)
      (hi : X.N[i]? = some nm) (hln : X.env.kindOf nm = some .local) (hv : Vis X.env.scope nm) (hd : (nm == ("__debug__" : Str)) = false) (hcd : (nm == ("__classdict__" : Str)) = false)
      (hb : attributeBase (.Name nm p3) f X.env (eval (.Name nm p3) X.env) = eval (.Name nm p3) X.env) (he : starEach [.Attribute (.Name nm p3) f p4] X.env = (false, eval (.Attribute (.Name nm p3) f p4) X.env) :: starEach [] X.env) (hpl : (backTo p5 (starEach [] X.env)).any (·.1) = false) (r : HdsTF X hds l) :
      HdsTF X (.ExceptHandler (some (.Name x np)) (some nm) [.Return (some (.BinOp (.Constant (.str w) j p1) .Add (.Call (.Name "str" p2) [.Attribute (.Name nm p3) f p4] [] p5) p6)) p7] p8 :: hds) ((c, .add w f) :: l)
theorem HdsTF.addZ {X : Cx} {x w f nm : Str} {i : Nat} {np p1 p2 p3 p4 p5 p6 p7 p8 : Pos} {j : Nat} {hds : List ExceptHandler} {l : List (Value × ClK)} (z : XfZ X.K X.mg x f) (hg : Gl X x) (hdb : (x == ("__debug__" : Str)) = false) (ms : X.mg "str" = none) (gs : Gl X "str") (hN : X.N.Nodup)
    (hi : X.N[i]? = some nm) (hln : X.env.kindOf nm = some .local) (hv : Vis X.env.scope nm) (hd : (nm == ("__debug__" : Str)) = false) (hcd : (nm == ("__classdict__" : Str)) = false)
    (hb : attributeBase (.Name nm p3) f X.env (eval (.Name nm p3) X.env) = eval (.Name nm p3) X.env) (he : starEach [.Attribute (.Name nm p3) f p4] X.env = (false, eval (.Attribute (.Name nm p3) f p4) X.env) :: starEach [] X.env) (hpl : (backTo p5 (starEach [] X.env)).any (·.1) = false) (r : HdsTF X hds l) :
    HdsTF X (.ExceptHandler (some (.Name x np)) (some nm) [.Return (some (.BinOp (.Constant (.str w) j p1) .Add (.Call (.Name "str" p2) [.Attribute (.Name nm p3) f p4] [] p5) p6)) p7] p8 :: hds) (((X.mg x).getD .none, .add w f) :: l) := by
  obtain ⟨C, m, xf, nf⟩ := z.ex
  exact .add (by rw [m]; rfl) ⟨hg, hdb, .inl (getD_of m)⟩ xf nf ms gs hN hi hln hv hd hcd hb he hpl r
theorem HdsTF.ok {X : Cx} {hds : List ExceptHandler} {l : List (Value × ClK)} (h : HdsTF X hds l) : ∃ l2, HdsE X hds l2 ∧ ∀ (D : Ends) (cls : Value) (d : Option Addr) (σ : L2.St) (H : Hp), wTellF X.K D.rt l cls d H → wAlt X.K (fun _ _ _ _ => False) D l2 cls d σ H := by
  induction h with
  | nil => exact ⟨_, .nil, fun _ _ _ _ _ h => h⟩
  | dead hc r ih =>
    obtain ⟨l2, h1, h2⟩ := ih
    exact ⟨_, .dead hc h1, fun D cls d σ H ⟨b, h⟩ => ⟨b, h2 _ _ _ _ _ h⟩⟩
  | @say x w c _ _ _ _ _ _ _ hc r ih =>
    obtain ⟨l2, h1, h2⟩ := ih
    exact ⟨_, .live (t := fun _ _ _ D _ H => D.rt (.str w) H) hc (fun a oe cls d pn _ _ => pss_one (ps_ret pe_str)) h1, fun D cls d σ H ⟨b, e, q1, q2⟩ => ⟨b, e, fun hb a _ => q1 hb, fun hb => h2 _ _ _ _ _ (q2 hb)⟩⟩
  | @add x w f nm C c i np p1 p2 p3 p4 p5 p6 p7 p8 j hds l hC hc T nf ms gs hN hi hln hv hd hcd hb he hpl r ih =>
    obtain ⟨l2, h1, h2⟩ := ih
    subst hC
    refine ⟨_, .as (i := i) (t := fun a cls d => tRet (tOp _ (tC (.str w)) (tCB _ (tCons (tXf a cls d C f (tVar i)) tNil)))) hN hi hln hc (fun a oe cls d pn hz hf =>
      pss_one (ps_ret (pe_op op_add_str pe_str (pe_callTy call_str_int gs ms (by decide +kernel) (pa_cons (pe_xf T nf hz hf (pe_var hi hv hd hcd) hb) pa_nil he) (by decide +kernel) (by decide) he hpl)))) h1, fun D cls d σ H ⟨b, e, q1, q2⟩ => ⟨b, e, fun hb a na hl => ?_, fun hb => h2 _ _ _ _ _ (q2 hb)⟩⟩
    obtain ⟨dd, n, rfl, rfl, hx, hn, hw, q⟩ := q1 hb
    have hlt : i < X.N.length := (List.getElem?_eq_some_iff.mp hi).1
    have := smallI_len hn
    refine ⟨.ref a, by rw [List.getElem?_set_self (by omega)], rfl, rfl, dd, [(f, .int n)], .int n, rfl, hx, by simp [List.lookup], n, rfl, smallI_log hn, w, _, rfl, rfl, ?_, q⟩
    show w.length + (Str.ofString (toString n)).length ≤ sizeLine
    rw [sizeLine_eq]
    omega
section
variable {X : Cx}
theorem tell_givesF {Ng : List Str} {x a q : Str} {sg : Scope} {g : Addr} {cdg : Value} {j : Nat} {h₀ : ExceptHandler} {hds : List ExceptHandler} {l : List (Value × ClK)} {p1 p2 p3 p4 p5 p6 : Pos}
    (hh : ∀ (A : Around) (s : Shared) (H : Hp), HdsTF (cxOf C8.CX0 X.prog X.w X.K X.mg X.base Ng x sg g cdg A X.stack s H C8.E0).nox (h₀ :: hds) l) (h0 : ∀ f : Addr, (L2.start Ng [V.ref f])[0]? = some (some (V.ref f))) :
    LamX.GivesTo X Ng x sg g cdg [.Try [.Expr (.Call (.Name a p1) [] [] p2) p3] (h₀ :: hds) [] [] p4, .Return (some (.Constant (.str "") j p5)) p6] a q (TTellF X.K l) := by
  intro f c' s H Q tl act hc h
  obtain ⟨l2, e1, e2⟩ := (hh X.A s H).ok
  refine ⟨_, pss_cons (ps_try_altE (X := (cxOf C8.CX0 X.prog X.w X.K X.mg X.base Ng x sg g cdg X.A X.stack s H C8.E0).nox)
      (tb := fun W D σ H => ∃ Ech : XK, (∀ cls d σ' H', Ech cls d H' → W cls d σ' H') ∧ σ[0]? = some (some (.ref f)) ∧ H c' = some (LamX.CodeO c' q) ∧ tl Ech H fun _ H' => D.nx σ H')
      rfl rfl LamX.takes0 (fun W pn xe tk _ => ?_) e1) (pss_one (ps_ret pe_str)), ?_⟩
  · refine ⟨fun pins s' σ H' D I h' => ?_⟩
    obtain ⟨Ech, hW, h1, h2, h3⟩ := h'
    have hp := act W pn xe Ech p1 p2 tk hW
    exact (pss_one (ps_expr (pos := p3) hp)).run pins s' σ H' D I ⟨h1, h2, h3⟩
  · exact ⟨wTellF X.K Q l, fun cls d σ' H' w => e2 _ _ _ _ _ w, h0 f, hc, h⟩
end
abbrev lvsF (mg : Str → Option Value) (l : ClF) : List (Value × ClK) := l.map fun p => ((mg p.1).getD .none, p.2)
def ClK.okW : ClK → Bool
  | .dead => true
  | .say w => PyData.strOk w && decide (w.length ≤ 16777216)
  | .add w _ => PyData.strOk w && decide (w.length ≤ 1000)
def wordsF (l : ClF) : Bool := l.all fun p => p.2.okW
theorem post_tellF {G : GC} {t : SubT} {Q : VK} {EW : XK} {m m' : MH} {H H' : Hp} {e : Ex} {st : Store} {cls : Value} {d : Option Addr} (hs : ∀ p ∈ t, ExmZ G.K G.mg p.1 p.2.1 p.2.2) (r : RepEx G m' H' e cls d) (lq : Le m H m' H') (S : Sim G m' H' st) :
    ∀ {l : ClF}, (∀ p ∈ l, p.2.okW = true) → Post G m H (Rep G) EW Q (tellXF t l e st) → wTellF G.K Q (lvsF G.mg l) cls d H'
  | [], _, P => P.elim
  | (c, o) :: l, hw, P => by
    obtain ⟨C', f1, f2, f3⟩ := id r
    have key : ∀ b, subOf t e.cls c = some b → PySem.W.exmOne G.K cls ((G.mg c).getD .none) = some b := fun b h => by
      obtain ⟨C, D, e1, e2, e3⟩ := (hs _ (subOf_mem h)).ex
      have e1 : G.mg e.cls = some (.ref C) := e1
      have e2 : G.mg c = some (.ref D) := e2
      rw [f1] at e1; cases e1
      rw [e2, f2]
      exact e3
    have ih := post_tellF hs r lq S (l := l) (EW := EW) (Q := Q) (m := m) (H := H) fun p hp => hw p (List.mem_cons_of_mem _ hp)
    have ww := hw (c, o) List.mem_cons_self
    cases o with
    | dead =>
      unfold tellXF at P
      split at P
      · rename_i h
        exact ⟨key _ h, ih P⟩
      · exact P.elim
    | say w =>
      unfold tellXF at P
      obtain ⟨w1, w2⟩ := Bool.and_eq_true_iff.mp ww
      cases h : subOf t e.cls c with
      | none => rw [h] at P; exact P.elim
      | some b =>
        rw [h] at P
        refine ⟨b, key _ h, fun hb => ?_, fun hb => ?_⟩
        · subst hb
          exact P (.str w) m' H' lq S (.str w w1 (of_decide_eq_true w2))
        · subst hb
          exact ih P
    | add w f =>
      unfold tellXF at P
      obtain ⟨w1, w2⟩ := Bool.and_eq_true_iff.mp ww
      have w2 : w.length ≤ 1000 := of_decide_eq_true w2
      cases h : subOf t e.cls c with
      | none => rw [h] at P; exact P.elim
      | some b =>
        rw [h] at P
        refine ⟨b, key _ h, fun hb => ?_, fun hb => ?_⟩
        · subst hb
          by_cases hc : e.cls = c
          · simp only [if_pos hc] at P
            cases hf : e.fld with
            | none => rw [hf] at P; exact P.elim
            | some gu =>
              obtain ⟨g, u⟩ := gu
              rw [hf] at P f3
              cases u with
              | int n =>
                simp only at P
                by_cases hn : g = f ∧ smallI n = true
                · rw [if_pos hn] at P
                  obtain ⟨rfl, hn⟩ := hn
                  obtain ⟨dd, v, e1, e2, e3⟩ := f3
                  cases e3
                  have := smallI_len hn
                  refine ⟨dd, n, by rw [f2, ← hc, f1]; rfl, e1, e2, hn, w2, P (.str _) m' H' lq S (.str _ (strOk_append w1 (strOk_of _)) (by rw [len_append]; omega))⟩
                · rw [if_neg hn] at P
                  exact P.elim
              | _ => exact P.elim
          · simp only [if_neg hc] at P
            exact P.elim
        · subst hb
          exact ih P
theorem wordsF_mem {l : ClF} (h : wordsF l = true) : ∀ p ∈ l, p.2.okW = true := List.all_eq_true.mp h
theorem ze_tellF [TB] {X : Cx} {x a : Str} {st : Stmt} {Ng : List Str} {params : Arguments} {body : Expr} {scope : Scope} {p lpos pos : Pos} {k : Nat} {fb : UEnv → Store → R U} {t : SubT} {l : ClF} (d : DefZ X.K X.mg x st [a]) (lz : LamZ X) (hr : Room (k + 2) X.A)
    (Sg : FnScope Ng [a] (defScope st)) (hva : Vis (defScope st) a) (hG : ∀ (g : Addr) (cdv : Value), LamX.GivesTo X Ng x (defScope st) g cdv (defBody st) a (X.env.qual ++ "<lambda>") (TTellF X.K (lvsF X.mg l)))
    (hs : ∀ p ∈ t, ExmZ X.K X.mg p.1 p.2.1 p.2.2) (hw : wordsF l = true)
    (hbody : ∀ (A : Around) (outer : List Env) (s : Shared) (H : Hp) (E : XK) (f c' : Addr), Room k (A.deeper (LamX.lamEnv X scope s.heap.objs.size f c')) → ZE (LamX.lamCx X A outer s H E scope f c') body fb)
    (hg : Gl X x := by rfl) (hNg : Ng[0]? = some a := by rfl) (L : LamX.LamS X.env.scope scope := by exact LamX.lamS_by rfl) (hdef : defaultsOf params X.env = ([], []) := by rfl)
    (hbind : ∀ (q : Str) (cl : List (Str × Addr)) (pm cv ctv : Value), bindArgs (PySem.W.kla_fn "<lambda>" q params body scope cl pm cv ctv) ⟨[], []⟩ = pure [] := by intros; rfl)
    (hdb : (x == ("__debug__" : Str)) = false := by decide) (hd : (a == ("__debug__" : Str)) = false := by decide) (hcd : (a == ("__classdict__" : Str)) = false := by decide) :
    ZE X (.Call (.Name x p) [.Lambda params body scope lpos] [] pos) (dTellF t l fb) := fun W xg => by
  obtain ⟨g, fd, F, hm, bd⟩ := d.ex
  obtain ⟨oc, od, kV, doc, pm, an, cdv, ct, osl, rfl, lk, hcg⟩ := F.ex
  obtain ⟨c, P, tb, hcode, hmT, hu⟩ := lz.ex
  refine PE.imp (LamX.pe_lamcall (T := TB.T) (TT := TTellF X.K (lvsF X.mg l)) (t := fun E => tZ (gc X) (fun cls d _ H => E cls d H) fb) hg hm F.kp lk hcg bd Sg hNg hva (hG g cdv) tb hcode hmT hu hr L hdef hbind
    (fun A outer s H E f c' hr => hbody A outer s H E f c' hr (fun cls d _ H => E cls d H) ⟨takes_of rfl rfl rfl rfl, passes_of rfl⟩) hdb hd hcd) fun σ H Q ⟨ρ, st, m, S, E, P⟩ => ⟨S.tabs, fun H1 eN t1 => ?_⟩
  have l1 : Le m H m H1 := Le.ofN eN
  have S1 := S.ofN eN t1
  refine ⟨ρ, st, m, S1, E.mono S l1, ?_⟩
  have P' : Post (gc X) m H (Rep (gc X)) (WE2 W σ) Q (tellF t l (fb ρ st)) := P
  cases e : fb ρ st with
  | ok u st1 =>
    rw [e] at P'
    exact fun v m2 H2 l2 S2 r => P' (.str "") m2 H2 (l1.trans l2) S2 (.str "" (by decide +kernel) (by decide +kernel))
  | exc x st1 =>
    rw [e] at P'
    exact fun cls d m2 H2 l2 S2 r => post_tellF (G := gc X) hs r (l1.trans l2) S2 (wordsF_mem hw) P'
  | stuck => rw [e] at P'; exact P'.elim
end Z

namespace Z
open PySem PySem.Spec PyProof.Rows L2
theorem excB_ok {K : PySem.W.Frag} {C : Addr} (h : excB K C = true) : ∃ nm q N bs bm sn sub ab col dd k0 k1 k2 k3 k5, K.lookup C = some (excClassObj nm q C N bs bm true sn sub ab col dd k0 k1 k2 k3 k5 "ValueError.__new__") ∧ PySem.HandSPX.refsVE bm = true := by
  unfold excB at h
  split at h
  · rename_i t dd cd sl ho
    obtain ⟨h0, h⟩ := He.ba h
    split at h
    · rename_i C' bm k0 k1 k2 k3 n k5 hm hs
      obtain ⟨h1, h⟩ := He.ba h
      obtain ⟨h2, h⟩ := He.ba h
      obtain ⟨h3, h⟩ := He.ba h
      obtain ⟨h4, h5⟩ := He.ba h
      have h0 := of_decide_eq_true h0
      have h1 := of_decide_eq_true h1
      have h2 := of_decide_eq_true h2
      subst h0 h1 h2
      obtain ⟨nm, bs, mro, ns, qn, hd, sn, sub, ab, col, del⟩ := cd
      dsimp only at hm h3 h4
      subst hm h4
      have h3 : del = false := by simpa using h3
      subst h3
      obtain ⟨l⟩ := sl
      have hs : l = [k0, k1, k2, k3, some (.builtin "ValueError.__new__"), k5] := hs
      subst hs
      exact ⟨_, _, _, _, _, _, _, _, _, _, _, _, _, _, _, ho, h5⟩
    · cases h
  · cases h
theorem oexB_ok {K : PySem.W.Frag} {C : Addr} (h : oexB K C = true) : OexC K C := by
  obtain ⟨h1, h⟩ := He.ba h
  obtain ⟨h2, h⟩ := He.ba h
  obtain ⟨h3, h⟩ := He.ba h
  obtain ⟨h4, h5⟩ := He.ba h
  exact ⟨excB_ok h1, of_decide_eq_true h2, of_decide_eq_true h3, of_decide_eq_true h4, h5⟩
/-- what an __init__'s body may lean on -/
structure ClsB (K : PySem.W.Frag) (mg : Str → Option Value) (b : Str) (B : Addr) : Prop where
  m : mg b = some (.ref B)
  sg : PySem.W.specialIn K (.ref B) "__getattribute__" = some (some (.builtin "type.__getattribute__"))
  tB : PySem.W.typeIn K (.ref B) = some (.type "type")
  rB : PySem.W.readsIn K B (.type "type") = true
  vV : PySem.W.findCls K (.ref B) (.type "type") "__init__" = some (.val (.builtin "ValueError.__init__"))
structure IniF (K : PySem.W.Frag) (mg : Str → Option Value) (x b f qual : Str) (st : Stmt) : Prop where
  ex : ∃ (C B fI : Addr) (fd : FuncData), mg x = some (.ref C) ∧ ClsB K mg b B ∧ OexC K C ∧ PySem.W.findIn K (.ref C) "__init__" = some (some (.ref fI)) ∧ PySem.W.typeIn K (.ref fI) = some (.type "function") ∧ PySem.W.findIn K (.ref C) f = some none ∧ XfC K C ∧
    FunD K "__init__" qual (defArgs st) (defBody st) (defScope st) [] [] fI fd
theorem IniF.xf {K : PySem.W.Frag} {mg : Str → Option Value} {x b f qual : Str} {st : Stmt} (j : IniF K mg x b f qual st) : XfZ K mg x f := by
  obtain ⟨C, B, fI, fd, gC, _, _, _, _, nf, xf, _⟩ := j.ex
  exact ⟨C, gC, xf, nf⟩
theorem IniF.ini {P : Program} {w : World} {K : PySem.W.Frag} {mg : Str → Option Value} {base : Heap} {x b f qual wd : Str} {st : Stmt} (j : IniF K mg x b f qual st) (S : FnScope ["self", f] ["self", f] (defScope st)) (hw : wd.length ≤ 1000)
    (hbody : ∀ (B fI : Addr) (cdv : Value) (A : Around) (outer : List Env) (s : Shared) (H : Hp) (E : XK), ClsB K mg b B → PSs (cxOf (L2.CX P w) P w K mg base ["self", f] qual (defScope st) fI cdv A outer s H E) (defBody st) (tIni K wd f))
    (hb : ∀ (kV doc pm : Value) (an : Option Addr) (cdv ct : Value) (us : List Value), us.length = 2 → bindArgs (PySem.W.fnOf "__init__" qual (defArgs st) (defBody st) (defScope st) .none kV doc pm an cdv ct) ⟨us, []⟩ = pure ((["self", f] : List Str).zip us)) : IniZ P w K mg base x f := by
  obtain ⟨C, B, fI, fd, gC, cb, T, iC, tI, nf, xf, F⟩ := j.ex
  refine ⟨C, fI, fd, gC, T, iC, tI, nf, xf, fn_ini F S hw fun cdv A outer s H E => hbody B fI cdv A outer s H E cb, ?_⟩
  obtain ⟨oc, od, dV, kV, doc, pm, an, cdv, ct, osl, rfl, l, cd, d, _⟩ := F.ex
  rcases d with ⟨_, rfl⟩ | ⟨z, _⟩
  · exact .all fun us hl => hb kV doc pm an cdv ct us hl
  · exact absurd rfl z
section
variable {fa : List He.Fa} {fn : List He.DefD} {ts : List He.Tab} {tf : List He.Defn} {ex : PySem.W.Frag → Bool} {w : World} {h : Heap} {K : PySem.W.Frag} {mg : Str → Option Value}
theorem sx_ini (X : K.In h) (N : h.Ns mainGlobals mg) (c : He.SaysX fa fn ts tf ex w h K) {x b f qual : Str} {st : Stmt} (hB : iniB K x b f = true) (i j k : Nat) (e1 : fn[i]? = some (dzI x qual st) := by rfl) (e2 : fa[j]? = some (.glo x) := by rfl) (e3 : fa[k]? = some (.glo b) := by rfl) : IniF K mg x b f qual st := by
  obtain ⟨fd, F⟩ := c.t.d.def_ i e1
  obtain ⟨h1, hB⟩ := He.ba hB
  obtain ⟨h2, hB⟩ := He.ba hB
  obtain ⟨h3, hB⟩ := He.ba hB
  obtain ⟨h4, hB⟩ := He.ba hB
  obtain ⟨h5, hB⟩ := He.ba hB
  obtain ⟨h6, hB⟩ := He.ba hB
  obtain ⟨h7, hB⟩ := He.ba hB
  obtain ⟨h8, h9⟩ := He.ba hB
  refine ⟨_, He.ga K b, _, fd, He.glo_ok X N (c.t.d.fact j e2), ⟨He.glo_ok X N (c.t.d.fact k e3), of_decide_eq_true h6, of_decide_eq_true h7, h8, ?_⟩, oexB_ok h1, of_decide_eq_true h2, of_decide_eq_true h3, of_decide_eq_true h4, xfB_ok h5, F⟩
  split at h9
  · rename_i s q
    rw [q, of_decide_eq_true h9]
  · cases h9
end
end Z

namespace Z
open PySem PySem.Spec PyProof.Rows L2
/-! ### str(n) -/
def oStrI : Op1 := fun _ u => match u with
  | .int n => if smallI n = true then some (.str (Str.ofString (toString n))) else none
  | _ => none
theorem b_strI [TB] {X : Cx} : BZ1 X (.type "str") oStrI := by
  intro pins s σ H xs us Q I r h
  obtain ⟨m, st, u, x, rfl, S, ru, P⟩ := h
  unfold oStrI at P
  split at P
  · rename_i n
    have e := rep_int ru
    subst e
    split at P
    · rename_i hn
      have := smallI_len hn
      exact call_str_int pins s σ H _ us Q I r ⟨n, rfl, smallI_log hn, P.here S (.str _ (strOk_of _) (by omega))⟩
    · exact P.elim
  · exact P.elim
end Z

namespace Z
open PySem PySem.Spec PyProof.Rows L2 HT
/-! ### t[::-1] of a tuple -/
section
variable {prog : Program} {w : World} {A : Around} {E : Value → Shared → Prop} {s : Shared}
theorem adjust_rev (n : Nat) : Builtin.Slice.sliceAdjust none none (-1) (n : Int) = ((n : Int) - 1, -1) := by
  unfold Builtin.Slice.sliceAdjust
  simp
theorem places_rev (n : Nat) : Builtin.Slice.slicePlaces ((n : Int) - 1) (-1) (-1) = n := by
  unfold Builtin.Slice.slicePlaces
  simp
  omega
theorem sliceApplied_rev {sl : Addr} {vl vu vs : Value} {n : Nat} {Q : Int × Int × Nat → Shared → Prop} (hs : s.heap.IsSliceOf sl vl vu vs) (pl : IsPart vl none) (pu : IsPart vu none) (ps : IsPart vs (some (-1)))
    (h : Q ((n : Int) - 1, -1, n) s) : wpAny (model prog w) A (Builtin.Slice.sliceApplied (.ref sl) (pure (n : Int))) Q E s := by
  obtain ⟨os, hos, hcs, hds⟩ := id hs
  unfold Builtin.Slice.sliceApplied Builtin.Slice.sliceFields
  refine wpAny_bind (wpAny_bind (wpAny_field hos hds (x := vl) rfl (wpAny_bind (wpAny_field hos hds (x := vu) rfl (wpAny_bind (wpAny_field hos hds (x := vs) rfl (wpAny_pure ?_)))))))
  refine wpAny_bind (slicePart_ ps ?_)
  show wpAny _ _ (if ((-1 : Int) == 0) = true then _ else _) _ _ s
  rw [if_neg (by decide)]
  refine wpAny_bind (slicePart_ pl (wpAny_bind (slicePart_ pu (wpAny_bind (wpAny_pure ?_)))))
  show wpAny _ _ (match Builtin.Slice.sliceAdjust none none (-1) (n : Int) with | (lo, hi) => pure (lo, (-1 : Int), Builtin.Slice.slicePlaces lo hi (-1))) _ _ s
  rw [adjust_rev n]
  show wpAny _ _ (pure ((n : Int) - 1, (-1 : Int), Builtin.Slice.slicePlaces ((n : Int) - 1) (-1) (-1))) _ _ s
  rw [places_rev]
  exact wpAny_pure h
theorem pick_rev (xs : Array Value) : ((List.range xs.size).filterMap fun (m : Nat) => xs[((xs.size : Int) - 1 + (m : Int) * -1).toNat]?).toArray = xs.toList.reverse.toArray := by
  have e : (fun (m : Nat) => xs[((xs.size : Int) - 1 + (m : Int) * -1).toNat]?) = (fun m => xs[m]?) ∘ fun m => xs.size - 1 - m := by
    funext m
    have : ((xs.size : Int) - 1 + (m : Int) * -1).toNat = xs.size - 1 - m := by omega
    rw [this]
    rfl
  rw [e, ← List.filterMap_map, PySem.W.krv_range, List.filterMap_reverse, PySem.W.krv_all]
theorem getItem_tuple_rev {t sl : Addr} {items : Array Value} {vl vu vs : Value} {Q : Value → Shared → Prop} (ht : IsTup s.heap t items) (hs : s.heap.IsSliceOf sl vl vu vs) (pl : IsPart vl none) (pu : IsPart vu none) (ps : IsPart vs (some (-1)))
    (h : Q (.ref s.heap.objs.size) { s with heap := s.heap.push { cls := .type "tuple", data := .seq items.toList.reverse.toArray } }) (hsz : items.size ≤ sizeLine) : wpAny (model prog w) A (getItem (.ref t) (.ref sl)) Q E s := by
  have htake : sizeOk (.seq items.toList.reverse.toArray) := by
    show items.toList.reverse.toArray.size ≤ sizeLine
    rw [List.size_toArray, List.length_reverse, Array.length_toList]
    exact hsz
  obtain ⟨os, hos, hcs, hds⟩ := id hs
  have hTs : s.TypeIs (.ref sl) "slice" := ⟨os, hos, hcs⟩
  unfold getItem
  try with_reducible refine wpAny_holding ?_
  first | refine wpAny_bind (wpAny_pure ?_) | skip
  refine wpAny_bind (wpAny_sequenceKey ht.typeIs (by decide) ?_)
  refine wpAny_bind (wpAny_callSpecial?_slot (name := Str.ofString "__getitem__") ht.typeIs PyProof.Rows.slot_tuple_getitem
    (wpAny_call_entry PyProof.Rows.slot_tuple_getitem ht.typeIs entry_tuple_getitem ?_ (args_tuple_getitem _ _)))
  show wpAny _ _ (Builtin.Tuple.tupleItemsOf (.ref t) >>= _) _ _ s
  refine wpAny_bind (tupleItemsOf_ ht ?_)
  refine wpAny_bind (wpAny_typeOf hTs ?_)
  rw [if_pos (by decide)]
  refine wpAny_bind (sliceApplied_rev hs pl pu ps ?_)
  have hno : ¬ ((((items.size : Int) - 1) == 0 && (-1 : Int) == 1 && items.size == items.size) = true) := by
    intro q
    rw [Bool.and_eq_true, Bool.and_eq_true] at q
    exact absurd q.1.2 (by decide)
  show wpAny _ _ (if (((items.size : Int) - 1) == 0 && (-1 : Int) == 1 && items.size == items.size) = true then _ else _) _ _ s
  rw [if_neg hno, pick_rev]
  first
    | exact wpAny_bind (m := Builtin.Tuple.tupleExact _) (wpAny_newObj_type (wpAny_pure ⟨_, rfl, wpAny_pure h⟩) htake)
    | exact wpAny_bind (m := Builtin.Tuple.tupleExact _) (wpAny_newObj_type (wpAny_bind (wpAny_pure (wpAny_pure ⟨_, rfl, wpAny_pure h⟩))) htake)
    | exact wpAny_bind (wpAny_bind (m := Builtin.Tuple.tupleExact _) (wpAny_newObj_type (wpAny_pure (wpAny_pure ⟨_, rfl, wpAny_pure h⟩)) htake))
    | exact wpAny_bind (wpAny_bind (m := Builtin.Tuple.tupleExact _) (wpAny_newObj_type (wpAny_pure ⟨_, rfl, wpAny_pure h⟩) htake))
end
section
variable {X : Cx} {e : Expr} {fa : UEnv → Store → R U}
def tRevT (K : PySem.W.Frag) (te : TE) : TE := fun σ H Q => te σ H fun x H1 => ∃ a xs, x = .ref a ∧ SqT K H1 a xs ∧ ∀ p, H1 p = none → Q (.ref p) (upd H1 p (.tup xs.reverse))
theorem pe_revT {te : TE} {k : Nat} {p1 p2 p3 pos : Pos} (he : PE X e te) : PE X (.Subscript e (.Slice none none (some (.UnaryOp .USub (.Constant (.int 1) k p1) p2)) p3) pos) (tRevT X.K te) := by
  refine ⟨fun pins s σ H Q I h => ?_⟩
  refine Subscript_ (thn (he.run pins s σ H _ I h) fun v s1 ⟨x, H1, I1, r1, q1⟩ => ?_)
  obtain ⟨a, xs, ex, hx, q⟩ := q1
  subst ex
  cases r1
  have hst : PO X (some (.UnaryOp .USub (.Constant (.int 1) k p1) p2)) (tPart (tUn (rU fun i => .int (-i)) (tC (.int 1)))) := po_some (pe_un un_neg pe_int)
  refine wpAny_Slice (thn (po_none.run pins s1 σ H1 (fun o H2 => o = none ∧ H2 = H1) I1 ⟨rfl, rfl⟩) fun vl s2 ⟨l, H2, I2, pl, el, e2⟩ => ?_)
  subst el e2
  refine thn (po_none.run pins s2 σ H2 (fun o H3 => o = none ∧ H3 = H2) I2 ⟨rfl, rfl⟩) fun vu s3 ⟨u, H3, I3, pu, eu, e3⟩ => ?_
  subst eu e3
  refine thn (hst.run pins s3 σ H3 (fun o H4 => o = some (-1) ∧ H4 = H3) I3 ⟨1, rfl, -1, rfl, rfl, rfl⟩) fun vs s4 ⟨o, H4, I4, ps, eo, e4⟩ => ?_
  subst eo e4
  have I5 : Inv X pins σ H4 { s4 with heap := s4.heap.push { cls := .type "slice", data := .fields #[vl, vu, vs] } } := I4.kept (t' := s4.toks) fun b ob q => Heap.get?_push_of_some _ q
  obtain ⟨its, r, ht, hz⟩ := I5.tuple hx
  have hlen := r.length
  show wpAny (model X.prog X.w) X.A (subscriptTail e (.Slice none none (some (.UnaryOp .USub (.Constant (.int 1) k p1) p2)) p3) (.ref a) (.ref s4.heap.objs.size)) (EP X pins σ Q) X.xe { s4 with heap := s4.heap.push { cls := .type "slice", data := .fields #[vl, vu, vs] } }
  refine tail_any (ops := [.ref a, .ref s4.heap.objs.size]) ht.typeIs (PyProof.Rows.slot_tuple_getitem.lookup) ?_ (by with_unfolding_all rfl)
  refine getItem_tuple_rev ht (Heap.IsSliceOf.new _ vl vu vs) pl pu ps ?_ (by rw [List.size_toArray]; omega)
  refine ⟨.ref _, _, I5.laid (t' := s4.toks) (o := .tup xs.reverse) (fun b ob q => Heap.get?_push_of_some _ q) (Nat.le_refl _) ?_, rfl, q _ (I5.hok.fresh (Nat.le_refl _))⟩
  exact ⟨by rw [List.length_reverse]; exact hz, _, r.reverse, IsTup.new _ _⟩
def oRevT : Op1 := fun _ u => match u with
  | .tup xs => some (.tup xs.reverse)
  | _ => none
theorem ze_revT [TB] {k : Nat} {p1 p2 p3 pos : Pos} (ha : ZE X e fa) : ZE X (.Subscript e (.Slice none none (some (.UnaryOp .USub (.Constant (.int 1) k p1) p2)) p3) pos) (dUn oRevT fa) := fun W xg =>
  PE.imp (pe_revT (ha W xg)) fun σ H Q ⟨ρ, st, m, S, E, P⟩ =>
    tz_seq (X := X) (k := fun ρ u st1 => R.ofO st1 (oRevT st1 u)) S E P fun u st1 v m1 H1 S1 E1 r1 l1 P1 => by
      have PO : PostO (gc X) m1 H1 st1 Q (oRevT st1 u) := .of P1
      unfold oRevT at PO
      split at PO
      · obtain ⟨p, vs, rfl, h1, r2⟩ := rep_tup (K := X.K) r1 rfl
        exact ⟨p, vs, rfl, h1, fun q hq => PO.tup S1 (reps_rev r2) q hq⟩
      · exact PO.elim
end
end Z

namespace Z
open PySem PySem.Spec PyProof.Rows L2
/-! ### t * 1: the tuple itself -/
theorem tuple_mul1 (l : Addr) (items : Array Value) (n : Nat) (dd : Option Addr) (sl : Array (Option Value)) (u : Tok) :
    Meets (Builtin.«tuple.__mul__» ⟨[.ref l, .int 1 u], []⟩) (fun _ R s => s.heap.get? l = some { cls := .type "tuple", dict := dd, data := .seq items n, slots := sl } ∧ R (.ok (.ret (Value.ref l))) s) :=
  .of_wp fun prog w A R s h => by
    obtain ⟨hp, g, d, tk, os⟩ := s
    obtain ⟨hl, h⟩ := h
    have f1 := AutoSeq1.idx_int
    have c0 : (decide ((1 : Int) < -(2 ^ 63)) || decide ((1 : Int) ≥ 2 ^ 63)) = false := by decide
    have c1 : (items.isEmpty || (1 : Int) == 1) = true := by rw [Bool.or_comm]; rfl
    wp_walk using wpAny_loadPart' hl
    repeat (first
      | (refine wpAny_ite_false (decide_eq_false (by rw [c0]; exact Bool.false_ne_true)) ?_; wp_walk using wpAny_loadPart' hl)
      | (refine wpAny_ite_true (decide_eq_true c1) ?_; wp_walk using wpAny_loadPart' hl))
    exact ⟨_, rfl, h⟩
section
variable {X : Cx}
def rRep1 (K : PySem.W.Frag) : R2 := fun x y H Q => ∃ l xs, x = .ref l ∧ y = .int 1 ∧ SqT K H l xs ∧ Q (.ref l) H
theorem op_rep1 : OpR X (binaryOp .Mult) (rRep1 X.K) := by
  intro pins s σ H x y v u Q I rx ry h
  obtain ⟨l, xs, rfl, rfl, hT, q⟩ := h
  cases rx
  obtain ⟨t, rfl⟩ := ry
  obtain ⟨its, r, ⟨⟨cls, dd, data, sl⟩, ho, hc, n, hd⟩, hs⟩ := I.tuple hT
  simp only at hc hd
  subst hc hd
  refine wpAny_binaryOp_repeat_ref (T := "tuple") (U := "int") (by decide) ⟨_, ho, rfl⟩ (fun s' => typeIs_int s' 1 t) noFill_tuple_mul F.fills_int_mul F.slot_int_rmul repeat_tuple F.slot_int_index.lookup
    (call_meets F.slot_int_rmul (typeIs_int s 1 t) F.entry_int_rmul (F.args_int_rmul_2 _ _) (int_rmul_tuple 1 t l its.toArray n dd sl)
      ⟨ho, rfl, ⟨_, ho, rfl⟩, call_meets F.slot_tuple_mul ⟨_, ho, rfl⟩ F.entry_tuple_mul (F.args_tuple_mul_2 _ _) (tuple_mul1 l its.toArray n dd sl t) ⟨ho, ?_⟩⟩)
  exact ⟨.ref l, _, I, rfl, q⟩
def oMul1 : Op2 := fun st a b => match a, b with
  | .tup xs, .int 1 => some (.tup xs)
  | _, _ => oMul st a b
theorem z_mul1 [TB] : OpZ X (binaryOp .Mult) oMul1 := by
  intro pins s σ H x y v u Q I rx ry ⟨m, st, a, b, S, ra, rb, P⟩
  unfold oMul1 at P
  split at P
  · obtain ⟨p, vs, rfl, h1, r1⟩ := rep_tup (K := X.K) ra rfl
    have e := rep_int rb
    exact op_rep1 pins s σ H _ _ v u Q I rx ry ⟨p, vs, rfl, e, h1, P.here S ra⟩
  · exact z_mul pins s σ H x y v u Q I rx ry ⟨m, st, _, _, S, ra, rb, P⟩
end
end Z

namespace Z
open PySem PySem.Spec PyProof.Rows L2
/-! ### calls with nothing under way: as FnOk, where the guards are known to be none -/
structure FnG (P : Program) (w : World) (K : PySem.W.Frag) (mg : Str → Option Value) (base : Heap) (C : CXT) (k : Nat) (f : Addr) (fd : FuncData) (ps : List Str) (sp : Sp) : Prop where
  size : ∀ vs G Q E, sp vs G Q E → vs.length = ps.length
  go : ∀ (B : Around) (out : List Env) (t : Shared) (G : Hp) (as : Args) (us : List Value) (vs : List V) (Q : VK) (E : XK), B.guards = some [] → Room k B → Env0 P w K mg base B out t G → BindsTo t fd as (ps.zip us) → Vals vs us → sp vs G Q E →
    codeAny (model P w) B (.call (.ref f) as) (CR C out P w G t Q E) t
theorem FnG.mono {P : Program} {w : World} {K : PySem.W.Frag} {mg : Str → Option Value} {base : Heap} {C : CXT} {j k : Nat} {f : Addr} {fd : FuncData} {ps : List Str} {sp : Sp} (F : FnG P w K mg base C j f fd ps sp) (h : j ≤ k) : FnG P w K mg base C k f fd ps sp :=
  ⟨F.size, fun B out t G as us vs Q E hg hr => F.go B out t G as us vs Q E hg (hr.mono h)⟩
theorem fnG_of {P : Program} {w : World} {K : PySem.W.Frag} {mg : Str → Option Value} {base : Heap} {k : Nat} {f : Addr} {x q : Str} {st : Stmt} {kV doc pm cdv ct oc : Value} {an od : Option Addr} {osl : Array (Option Value)} {N ps : List Str} {sp : Sp}
    (look : K.lookup f = some ⟨oc, od, .func (PySem.W.fnOf x q (defArgs st) (defBody st) (defScope st) .none kV doc pm an cdv ct), osl⟩) (code : PySem.W.codeIn K cdv q = true) (S : FnScope N ps (defScope st))
    (size : ∀ vs G Q E, sp vs G Q E → vs.length = ps.length)
    (body : ∀ (B : Around) (out : List Env) (t : Shared) (G : Hp) (vs : List V) (Q : VK) (E : XK), (B.deeper (envOfC q (defScope st) t.heap.objs.size f cdv)).guards = some [] → Room k (B.deeper (envOfC q (defScope st) t.heap.objs.size f cdv)) → sp vs G Q E →
      ∃ te, PSs (cxOf (L2.CX P w) P w K mg base N q (defScope st) f cdv B out t G E) (defBody st) te ∧ te { nx := fun _ G' => Q .non G', rt := Q } (start N vs) G) :
    FnG P w K mg base (L2.CX P w) (k + 1) f (PySem.W.fnOf x q (defArgs st) (defBody st) (defScope st) .none kV doc pm an cdv ct) ps sp := by
  constructor
  · exact size
  intro B out t G as us vs Q E quiet room surr bind rel want
  have many := size vs G Q E want
  have old : ∀ {b : Addr} {o : Obj}, base.get? b = some o → t.heap.get? b = some o := fun {b o} e => (surr.bs b o e).1
  have inK : K.In t.heap := surr.mod.kin.keeps fun _ _ e => old e
  have free : t.heap.NoLimit := surr.mod.nolimit.keeps fun _ _ e => old e
  refine codeAny_call_function room.depth (inK _ _ look) rfl S.co S.gen rfl (PySem.W.codeRec_of inK code) (bind _ _ _ _ ?_)
  refine wpAny_newFunctionEnv_cells S.kind (fun y hy => ?_) fun fresh is t1 x1 => ?_
  · obtain ⟨n, v⟩ := y
    exact (S.par n (List.of_mem_zip hy).1).imp id fun c => ⟨c, PySem.W.cellsFrom_some _ _ _ (.inl c)⟩
  subst is
  refine ⟨free.keeps x1.toInCall.keep, codeAny_func ?_⟩
  obtain ⟨te, holds, here⟩ := body B out t G vs Q E quiet (room.deeper _) want
  have begun := inv_start S room.hd surr many rel x1 (CX := L2.CX P w) (E := E)
  refine wpAny_mono (holds.run [] t1 (start N vs) G _ begun here) (fun left t2 got => ?_) fun _ _ bad => bad
  have ends : ∀ {σ2 : L2.St} {G2 : Hp} {v : V} {u : Value}, Inv (cxOf (L2.CX P w) P w K mg base N q (defScope st) f cdv B out t G E) [] σ2 G2 t2 → RelV v u → Q v G2 → CE out P w G t Q u t2 :=
    fun {σ2 G2 v u} J r z => ⟨v, G2, J.os, J.bare, J.base, J.hok, r, z⟩
  cases left with
  | next =>
    obtain ⟨σ2, G2, J, z⟩ := got
    exact ends (v := V.non) (u := Value.none) J rfl z
  | ret u =>
    obtain ⟨v, σ2, G2, J, r, z⟩ := got
    exact ends J r z
  | cont => exact got.choose_spec.choose_spec.2.elim
  | brk => exact got.choose_spec.choose_spec.2.elim
section
variable {X : Cx} {k : Nat} {f : Addr} {fd : FuncData} {ps : List Str} {sp : Sp} {E : L2.St → XK} {x : Str} {p pos : Pos} {e : Expr} {es : List Expr} {ta : TA}
theorem run_fnG {C : CXT} {pins : List (Addr × Obj)} {σ : L2.St} {G : Hp} {t : Shared} {Q : VK} {us : List Value} {vs : List V} (F : FnG X.prog X.w X.K X.mg X.base C k f fd ps sp) (quiet : X.A.guards = some []) (room : Room k X.A) (bd : Binds X.K fd ps []) (lets : PassesAt C X σ (E σ))
    (I : Inv X pins σ G t) (r : Vals vs us) (want : sp vs G Q (E σ)) : wpAny (model X.prog X.w) X.A (call (.ref f) us) (EP X pins σ Q) X.xe t := by
  have many : us.length = (ps ++ []).length := by
    rw [List.append_nil, ← r.length]
    exact F.size _ _ _ _ want
  have bound := bd t us I.kIn (by simpa using many)
  simp only [List.append_nil] at bound
  refine wpAny_call (codeAny_mono (F.go X.A X.stack t G ⟨us, []⟩ us vs Q (E σ) quiet room I.env0 bound r want) fun res t2 got => ?_)
  match res, got with
  | .error ex, bad => exact lets pins G t ex t2 I bad
  | .ok (.ret u), good => exact I.after good
  | .ok .next, no => exact no.elim
  | .ok .brk, no => exact no.elim
  | .ok .cont, no => exact no.elim
theorem pe_callG {C : CXT} (F : FnG X.prog X.w X.K X.mg X.base C k f fd ps sp) (quiet : X.A.guards = some []) (room : Room k X.A) (hg : Gl X x) (hm : X.mg x = some (.ref f)) (kp : PySem.W.keepIn X.K (.ref f) = true) (bd : Binds X.K fd ps []) (lets : ∀ σ, PassesAt C X σ (E σ))
    (ha : PA X (e :: es) ta) (hdb : (x == ("__debug__" : Str)) = false) (he : starEach (e :: es) X.env = (false, eval e X.env) :: starEach es X.env) (hpl : (backTo pos (starEach es X.env)).any (·.1) = false) :
    PE X (.Call (.Name x p) (e :: es) [] pos) (tCallS sp E ta) := by
  constructor
  intro pins t σ G Q I want
  refine wpAny_Call_Name_kw (ld_glob I hg hm ?_ hdb)
  refine PySem.W.callWith_K (h₀ := X.base) I.ok.mod.kin kp (thn (ha.run pos pins t σ G _ I want) fun us t1 got => ?_) he hpl
  obtain ⟨vs, G1, I1, r, z⟩ := got
  exact ⟨I1.kIn, run_fnG F quiet room bd (lets σ) I1 r z⟩
end
end Z

namespace Z
open PySem PySem.Spec PyProof.Rows L2
/-! ### defs with nothing under way -/
structure CalG [TB] (P : Program) (w : World) (K : PySem.W.Frag) (mg : Str → Option Value) (base : Heap) (k : Nat) (x : Str) (n : Nat) (F : FnZ) : Prop where
  ex : ∃ (f : Addr) (fd : FuncData) (ps : List Str), FnG P w K mg base (L2.CX P w) k f fd ps (spZ ⟨K, mg, TB.T, w⟩ n F) ∧ mg x = some (.ref f) ∧ PySem.W.keepIn K (.ref f) = true ∧ Binds K fd ps []
theorem CalG.mono [TB] {P : Program} {w : World} {K : PySem.W.Frag} {mg : Str → Option Value} {base : Heap} {j k : Nat} {x : Str} {n : Nat} {F : FnZ} (c : CalG P w K mg base j x n F) (h : j ≤ k) : CalG P w K mg base k x n F := by
  obtain ⟨f, fd, ps, h1, h2, h3, h4⟩ := c.ex
  exact ⟨f, fd, ps, h1.mono h, h2, h3, h4⟩
theorem FnG.imp {P : Program} {w : World} {K : PySem.W.Frag} {mg : Str → Option Value} {base : Heap} {C : CXT} {k : Nat} {f : Addr} {fd : FuncData} {ps : List Str} {sp sp2 : Sp} (F : FnG P w K mg base C k f fd ps sp) (h : ∀ vs G Q E, sp2 vs G Q E → sp vs G Q E) : FnG P w K mg base C k f fd ps sp2 :=
  ⟨fun vs G Q E q => F.size _ _ _ _ (h vs G Q E q), fun B out t G as us vs Q E hg hr sr b r q => F.go B out t G as us vs Q E hg hr sr b r (h _ _ _ _ q)⟩
theorem CalG.trim [TB] {P : Program} {w : World} {K : PySem.W.Frag} {mg : Str → Option Value} {base : Heap} {k n : Nat} {x : Str} {F : FnZ} (c : CalG P w K mg base k x n F) : CalG P w K mg base k x n (fun us st => Z.trim st (F us st)) := by
  obtain ⟨f, fd, ps, h1, h2, h3, h4⟩ := c.ex
  refine ⟨f, fd, ps, h1.imp fun vs H Q E q => ?_, h2, h3, h4⟩
  obtain ⟨us, st, m, a, S, r, P⟩ := q
  exact ⟨us, st, m, a, S, r, post_trim S P⟩
section
variable {X : Cx} {e : Expr} {es : List Expr} {f : UEnv → Store → R (List U)} {pos : Pos}
theorem ze_callG [TB] {k j n : Nat} {x : Str} {F : FnZ} {p : Pos} (cal : CalG X.prog X.w X.K X.mg X.base k x n F) (quiet : X.A.guards = some []) (hr : Room j X.A) (ha : ZAL X (e :: es) f) (hk : k ≤ j := by decide) (hn : (e :: es).length = n := by rfl) (hg : Gl X x := by rfl)
    (hdb : (x == ("__debug__" : Str)) = false := by decide) (he : starEach (e :: es) X.env = (false, eval e X.env) :: starEach es X.env := by rfl) (hpl : (backTo pos (starEach es X.env)).any (·.1) = false := by rfl) :
    ZE X (.Call (.Name x p) (e :: es) [] pos) (dCall F f) := fun W xg => by
  obtain ⟨fa, fd, ps, h1, h2, h3, h4⟩ := cal.ex
  refine PE.imp (pe_callG (E := WE W) h1 quiet (hr.mono hk) hg h2 h3 h4 (passAt xg.tk) (ha.za W xg) hdb he hpl) fun σ H Q ⟨ρ, st, m, S, E, P⟩ => ?_
  refine ⟨ρ, st, m, S, E, P.bind fun us st1 vs m1 H1 e1 l S1 r p => ⟨us, st1, m1, ?_, S1, r, p⟩⟩
  rw [← r.length, ha.len _ _ _ _ e1, hn]
end
/-- a body's run, by what is promised of the def -/
theorem body_runs [TB] {P : Program} {w : World} {K : PySem.W.Frag} {mg : Str → Option Value} {base : Heap} {q : Str} {st : Stmt} {f : Addr} {cdv : Value} {N ps : List Str} {g : UEnv → Store → R Fl} {A : Around} {out : List Env} {s : Shared} {H : Hp} {E : XK} {vs : List V} {Q : VK} (S : FnScope N ps (defScope st))
    (hb : ZB (cxOf (L2.CX P w) P w K mg base N q (defScope st) f cdv A out s H E) (defBody st) g) (h : spZ ⟨K, mg, TB.T, w⟩ ps.length (runB N.length g) vs H Q E) :
    ∃ te, PSs (cxOf (L2.CX P w) P w K mg base N q (defScope st) f cdv A out s H E) (defBody st) te ∧ te { nx := fun _ G' => Q .non G', rt := Q } (start N vs) H := by
  obtain ⟨us, st', m, hl, S', r, Pt⟩ := h
  refine ⟨_, hb (fun cls d _ H => E cls d H) ⟨takes_of rfl rfl rfl rfl, passes_of rfl⟩, ?_⟩
  have hpl : ps.length ≤ N.length := by
    have := congrArg List.length S.pre
    rw [List.length_take] at this
    omega
  refine ⟨_, st', m, S', renv_start r N (by rw [hl]; exact hpl), ?_⟩
  unfold runB at Pt
  cases e : g (us.map some ++ List.replicate (N.length - us.length) none) st' with
  | ok r1 st1 =>
    rw [e] at Pt
    cases r1 with
    | nx ρ => exact fun σ m1 H1 l S1 E1 => Pt .non m1 H1 l S1 .non
    | rt u => exact Pt
    | bk ρ => exact Pt.elim
    | ct ρ => exact Pt.elim
  | exc x st1 => rw [e] at Pt; exact fun c d σ m1 H1 l S1 r1 => Pt c d m1 H1 l S1 r1
  | stuck => rw [e] at Pt; exact Pt
theorem DefZ.calG [TB] {P : Program} {w : World} {K : PySem.W.Frag} {mg : Str → Option Value} {base : Heap} {x : Str} {st : Stmt} {N ps : List Str} {k n : Nat} {g : UEnv → Store → R Fl} {F : FnZ} (d : DefZ K mg x st ps) (S : FnScope N ps (defScope st))
    (hb : ∀ (f : Addr) (cdv : Value) (A : Around) (outer : List Env) (s : Shared) (H : Hp) (E : XK), (A.deeper (envOfC x (defScope st) s.heap.objs.size f cdv)).guards = some [] → Room k (A.deeper (envOfC x (defScope st) s.heap.objs.size f cdv)) → ZB (cxOf (L2.CX P w) P w K mg base N x (defScope st) f cdv A outer s H E) (defBody st) g)
    (hF : F = runB N.length g := by rfl) (hn : ps.length = n := by rfl) : CalG P w K mg base (k + 1) x n F := by
  subst hF hn
  obtain ⟨f, fd, Fn, hm, bd⟩ := d.ex
  obtain ⟨oc, od, kV, doc, pm, an, cdv, ct, osl, e, lk, hc⟩ := Fn.ex
  refine ⟨f, fd, ps, ?_, hm, Fn.kp, bd⟩
  rw [e] at lk ⊢
  exact fnG_of lk hc S (fun vs G Q E ⟨_, _, _, hl, _⟩ => hl) fun B out t G vs Q E quiet room want => body_runs S (hb f cdv B out t G _ quiet room) want
theorem fnGC [TB] {P : Program} {w : World} {K : PySem.W.Frag} {mg : Str → Option Value} {base : Heap} {x q : Str} {st : Stmt} {f : Addr} {fd : FuncData} {cdv : Value} {N ps : List Str} {k : Nat} {g : UEnv → Store → R Fl} (F : FunC K x q st f fd cdv) (S : FnScope N ps (defScope st))
    (hb : ∀ (A : Around) (outer : List Env) (s : Shared) (H : Hp) (E : XK), (A.deeper (envOfC q (defScope st) s.heap.objs.size f cdv)).guards = some [] → Room k (A.deeper (envOfC q (defScope st) s.heap.objs.size f cdv)) → ZB (cxOf (L2.CX P w) P w K mg base N q (defScope st) f cdv A outer s H E) (defBody st) g) :
    FnG P w K mg base (L2.CX P w) (k + 1) f fd ps (spZ ⟨K, mg, TB.T, w⟩ ps.length (runB N.length g)) := by
  obtain ⟨oc, od, kV, doc, pm, an, ct, osl, e, lk, hc⟩ := F.ex
  rw [e] at lk ⊢
  exact fnG_of lk hc S (fun vs G Q E ⟨_, _, _, hl, _⟩ => hl) fun B out t G vs Q E quiet room want => body_runs S (hb B out t G _ quiet room) want
theorem fnGZ [TB] {P : Program} {w : World} {K : PySem.W.Frag} {mg : Str → Option Value} {base : Heap} {x q : Str} {st : Stmt} {f : Addr} {fd : FuncData} {N ps : List Str} {k : Nat} {g : UEnv → Store → R Fl} (F : Fun K x q st f fd) (S : FnScope N ps (defScope st))
    (hb : ∀ (cdv : Value) (A : Around) (outer : List Env) (s : Shared) (H : Hp) (E : XK), (A.deeper (envOfC q (defScope st) s.heap.objs.size f cdv)).guards = some [] → Room k (A.deeper (envOfC q (defScope st) s.heap.objs.size f cdv)) → ZB (cxOf (L2.CX P w) P w K mg base N q (defScope st) f cdv A outer s H E) (defBody st) g) :
    FnG P w K mg base (L2.CX P w) (k + 1) f fd ps (spZ ⟨K, mg, TB.T, w⟩ ps.length (runB N.length g)) := by
  obtain ⟨oc, od, kV, doc, pm, an, cdv, ct, osl, e, lk, hc⟩ := F.ex
  rw [e] at lk ⊢
  exact fnG_of lk hc S (fun vs G Q E ⟨_, _, _, hl, _⟩ => hl) fun B out t G vs Q E quiet room want => body_runs S (hb cdv B out t G _ quiet room) want
/-! ### the end -/
section
variable {P : Program} {w : World} {K : PySem.W.Frag} {mg mb : Str → Option Value} {k : Nat} {fa a : Addr} {cs : List (Addr × Addr)} {fd : FuncData} {x : Str} {sp : Sp} {t : Shared} {vs : List Value} {ns : List Int}
/-- what is tracked at the law's call: the tables, and the script where the head does not hold it -/
def Hp0 (K : PySem.W.Frag) (cs : List (Addr × Addr)) (a : Addr) (vs : List Value) (ns : List Int) : Hp := fun b =>
  if b ∈ cs.map (·.2) then some (.tbl #[]) else if b = a ∧ K.lookup a = none then some (.frz { cls := .type "list", data := .seq vs.toArray } (.lst (ns.map V.int))) else none
theorem hp0_cases (b : Addr) : (b ∈ cs.map (·.2) ∧ Hp0 K cs a vs ns b = some (.tbl #[])) ∨ (b ∉ cs.map (·.2) ∧ b = a ∧ K.lookup a = none ∧ Hp0 K cs a vs ns b = some (.frz { cls := .type "list", data := .seq vs.toArray } (.lst (ns.map V.int)))) ∨ (b ∉ cs.map (·.2) ∧ ¬ (b = a ∧ K.lookup a = none) ∧ Hp0 K cs a vs ns b = none) := by
  unfold Hp0
  by_cases h1 : b ∈ cs.map (·.2)
  · exact .inl ⟨h1, if_pos h1⟩
  · by_cases h2 : b = a ∧ K.lookup a = none
    · exact .inr (.inl ⟨h1, h2.1, h2.2, by rw [if_neg h1, if_pos h2]⟩)
    · exact .inr (.inr ⟨h1, h2, by rw [if_neg h1, if_neg h2]⟩)
theorem law_callG (KX : K.In t.heap) (glob : t.heap.Ns mainGlobals mg) (blt : t.heap.Ns builtinsNs mb) (boot : ∀ x : Str, x ≠ "__name__" → mb x = bootBuiltins x) (free : t.heap.NoLimit) (gens : t.gens = #[])
    (empty : ∀ p ∈ cs, t.heap.get? p.2 = some { cls := .none, data := .fields #[] }) (out : ∀ p ∈ cs, K.lookup p.2 = none) (heads : ∀ p ∈ cs, PySem.W.CodeHd t.heap p.1 p.2)
    (modl : ∃ (bm : Addr) (ob : Obj), mg "__builtins__" = some (.ref bm) ∧ bm ≠ builtinsNs ∧ t.heap.get? bm = some ob ∧ ob.cls = .type "module" ∧ ob.dict = some builtinsNs ∧ ob.data = .plain)
    (script : t.heap.get? a = some { cls := .type "list", data := .seq vs.toArray }) (intsA : IntsAre vs ns) (many : ns.length ≤ sizeLine) (room : Room k callerA)
    (F : ∀ base : Heap, K.In base → base.Ns mainGlobals mg → (∀ p ∈ cs, LamX.TabB base mg p.1 p.2) → FnG P w K mg base (L2.CX P w) k fa fd [x] sp) (bind : ∀ (s : Shared) (u : Value), BindsTo s fd ⟨[u], []⟩ [(x, u)])
    (want : ∀ H : Hp, (∀ p ∈ cs, H p.2 = some (.tbl #[])) → SqL K H a (ns.map V.int) → sp [.ref a] H (fun v _ => v = .bl true) fun _ _ _ => False)
    (no : ∀ H e s', L2.CX P w [] H t (fun _ _ _ => False) e s' → False) :
    codeAny (model P w) callerA (.call (.ref fa) ⟨[.ref a], []⟩) (fun r s' => r = .ok (.ret (.bool true)) ∧ OldK t.heap s'.heap ∧ s'.os = t.os ∧ AllBare s'.gens) t := by
  have rv := vals_ints intsA
  have lv := intsA.length
  have inT : ∀ {b : Addr}, b ∈ cs.map (·.2) → ∃ p ∈ cs, p.2 = b := fun h => List.mem_map.mp h
  have tab : ∀ {b : Addr}, b ∈ cs.map (·.2) → t.heap.get? b = some { cls := .none, data := .fields #[] } := fun h => by
    obtain ⟨p, hp, rfl⟩ := inT h
    exact empty p hp
  have aT : a ∉ cs.map (·.2) := fun h => by
    have two := congrArg Obj.data (Option.some.inj ((tab h).symm.trans script))
    cases two
  have hid : ∀ {b : Addr} {o : Obj}, t.heap.get? b = some o → (∀ vs n, o.data ≠ .seq vs n) → o.data ≠ .fields #[] → (hidT t.heap (Hp0 K cs a vs ns)).get? b = some o := fun {b o} e n1 n2 => by
    refine hidT_get e ?_
    rcases hp0_cases (K := K) (cs := cs) (a := a) (vs := vs) (ns := ns) b with ⟨h1, _⟩ | ⟨_, h2, _⟩ | ⟨_, _, h⟩
    · have := (tab h1).symm.trans e
      injection this with this
      exact absurd (by rw [← this]) n2
    · subst h2
      have := script.symm.trans e
      injection this with this
      exact absurd (by rw [← this]) (n1 _ _)
    · exact h
  have hidN : ∀ {b : Addr} {m : Str → Option Value}, t.heap.Ns b m → (hidT t.heap (Hp0 K cs a vs ns)).Ns b m := fun ⟨o, es, ep, e, d, z⟩ =>
    ⟨o, es, ep, hid e (fun _ _ h => by rw [d] at h; cases h) (fun h => by rw [d] at h; cases h), d, z⟩
  have hidK : K.In (hidT t.heap (Hp0 K cs a vs ns)) := fun b o e => by
    refine hidT_get (KX b o e) ?_
    rcases hp0_cases (K := K) (cs := cs) (a := a) (vs := vs) (ns := ns) b with ⟨h1, _⟩ | ⟨_, h2, h3, _⟩ | ⟨_, _, h⟩
    · obtain ⟨p, hp, rfl⟩ := inT h1
      rw [out p hp] at e
      cases e
    · rw [h2, h3] at e
      cases e
    · exact h
  have tabs : ∀ p ∈ cs, LamX.TabB (hidT t.heap (Hp0 K cs a vs ns)) mg p.1 p.2 := fun p hp => by
    obtain ⟨bm, ob, b1, b2, b3, b4, b5, b6⟩ := modl
    have hidP : (hidT t.heap (Hp0 K cs a vs ns)).get? bm = some ob := hid b3 (fun _ _ h => by rw [b6] at h; cases h) fun h => by rw [b6] at h; cases h
    constructor
    · obtain ⟨o, us, file, tf, flags, tg, inF, text, tt, e1, r1, r2, r3, r4, r5, r6, r7, r8, r9⟩ := heads p hp
      refine ⟨o, us, file, tf, flags, tg, inF, text, tt, hid e1 (fun _ _ h => by rw [r2] at h; cases h) (fun h => ?_), r1, r2, r3, r4, r5, r6, r7, r8, r9⟩
      rw [r2] at h
      cases h
      simp at r3
    · refine ⟨bm, ob, b1, b2, fun h => ?_, fun h => ?_, hidP, b4, b5, b6⟩
      · obtain ⟨o, es, ep, e, d, _⟩ := glob
        have := (h ▸ b3).symm.trans e
        injection this with this
        rw [← this, b6] at d
        cases d
      · have := (h ▸ b3).symm.trans (empty p hp)
        injection this with this
        rw [this] at b6
        cases b6
    · intro h
      obtain ⟨o, es, ep, e, d, _⟩ := glob
      have := (h ▸ e).symm.trans (empty p hp)
      injection this with this
      rw [this] at d
      cases d
  have okH : HOk P w (Hp0 K cs a vs ns) t.heap := fun b u e => by
    rcases hp0_cases (K := K) (cs := cs) (a := a) (vs := vs) (ns := ns) b with ⟨h1, h⟩ | ⟨_, h2, _, h⟩ | ⟨_, _, h⟩
    · rw [h] at e
      cases e
      exact tab h1
    · rw [h] at e
      cases e
      subst h2
      exact ⟨script, by rw [List.length_map]; exact many, vs, _, rv, script⟩
    · rw [h] at e
      cases e
  have surr : Env0 P w K mg (hidT t.heap (Hp0 K cs a vs ns)) callerA [] t (Hp0 K cs a vs ns) := by
    refine ⟨rfl, ⟨hidK, hidN glob, ⟨mb, hidN blt, boot⟩, ?_⟩, fun b o e => of_hidT e, Nat.le_of_eq (hidT_size _ _), trivial, fun b h => (by cases h), okH, .of_eq gens⟩
    obtain ⟨mc, h1, h2⟩ := free
    exact ⟨mc, hidN h1, h2⟩
  have isT : ∀ p ∈ cs, Hp0 K cs a vs ns p.2 = some (.tbl #[]) := fun p hp => if_pos (List.mem_map.mpr ⟨p, hp, rfl⟩)
  have isL : SqL K (Hp0 K cs a vs ns) a (ns.map V.int) := by
    cases e : K.lookup a with
    | none => exact .inl (.inr ⟨{ cls := .type "list", data := .seq vs.toArray }, by unfold Hp0; rw [if_neg aT, if_pos ⟨rfl, e⟩]⟩)
    | some o =>
      have := (KX a o e).symm.trans script
      injection this with this
      subst this
      exact .inr ⟨_, vs.toArray, _, e, rfl, rfl, rfl, by rw [List.size_toArray, lv]; exact many, by simpa using rv⟩
  refine codeAny_mono ((F _ hidK (hidN glob) tabs).go callerA [] t (Hp0 K cs a vs ns) ⟨[.ref a], []⟩ [.ref a] [.ref a] _ _ rfl room surr (bind t (.ref a)) (.cons rfl .nil) (want _ isT isL)) fun r t2 got => ?_
  match r, got with
  | .error e, bad => exact (no _ e t2 bad).elim
  | .ok .next, bad => exact bad.elim
  | .ok .brk, bad => exact bad.elim
  | .ok .cont, bad => exact bad.elim
  | .ok (.ret u), got =>
    obtain ⟨v, G2, os, bare, un, ok2, rel, z⟩ := got
    have z : v = .bl true := z
    subst z
    obtain rfl : u = Value.bool true := rel
    have keep : ∀ b o, b ∉ cs.map (·.2) → t.heap.get? b = some o → t2.heap.get? b = some o := fun b o nb e => by
      rcases hp0_cases (K := K) (cs := cs) (a := a) (vs := vs) (ns := ns) b with ⟨h1, _⟩ | ⟨_, _, _, h⟩ | ⟨_, _, h⟩
      · exact absurd h1 nb
      · have e1 := (okH b _ h).1
        have e2 := (ok2 b _ (un.frzs b _ _ h)).1
        rw [e2, ← e1]
        exact e
      · exact un.keep b o e h (fun m => by cases m) (by simp)
    have more : ∀ p ∈ cs, ∃ xs : Array Value, t2.heap.get? p.2 = some { cls := .none, data := .fields xs } := fun p hp => by
      obtain ⟨xs, h⟩ := un.tbls p.2 #[] (isT p hp)
      exact ⟨_, ok2 p.2 _ h⟩
    refine ⟨rfl, ⟨fun b o e => ?_, fun b o e => ?_⟩, os, bare⟩
    · by_cases hb : b ∈ cs.map (·.2)
      · obtain ⟨p, hp, rfl⟩ := inT hb
        obtain ⟨xs, h⟩ := more p hp
        have := (empty p hp).symm.trans e
        injection this with this
        subst this
        exact .inr (.inl ⟨((heads p hp).tab (empty p hp)).isCodeTable, rfl, #[], xs, rfl, by rw [Array.empty_append]; exact h⟩)
      · exact .inl (keep b o hb e)
    · by_cases hb : b ∈ cs.map (·.2)
      · obtain ⟨p, hp, rfl⟩ := inT hb
        obtain ⟨xs, h⟩ := more p hp
        exact ⟨_, h⟩
      · exact ⟨o, keep b o hb e⟩
end
/-- the law's end over the head's facts, its top def's calls with nothing under way -/
theorem walkG {l : PySem.W.OpenLaw} {q : Program} {loose : List Str} {XP : (Str → Option Value) → Heap → Prop} {d : DefRec} {n k : Nat} {fa : List He.Fa} {fn : List He.DefD} {ts : List He.Tab} {tf : List He.Defn} {ex : PySem.W.Frag → Bool} {F : FnZ} {x : Str}
    (hn : l.most = some 63) (hdf : d.params.defaults = []) (hr : Room k callerA)
    (hlaw : ∀ ns : List Int, ns.length ≤ 63 → ∀ u, u = .frz (ns.map .int) ∨ u = .lst (ns.map .int) → ∃ st, F [u] [] = .ok (.bl true) st)
    (hF : ∀ (w : World) (mg : Str → Option Value) (f : Addr) (h : Heap) (K : PySem.W.Frag), K.In h → h.Ns mainGlobals mg → mg d.name = some (.ref f) → He.SaysX fa fn ts tf ex w h K →
      ∃ fd : FuncData, (∀ (s : Shared) (u : Value), BindsTo s fd ⟨[u], []⟩ [(x, u)]) ∧ ∀ base : Heap, (∀ p ∈ tf, LamX.TabB base mg (He.cT K p).1 (He.cT K p).2) → FnG l.prog w K mg base (L2.CX l.prog w) k f fd [x] (spZ ⟨K, mg, tabsOf K tf, w⟩ 1 F)) :
    PySem.W.WalkO q loose XP (He.hookX n fa fn ts tf ex).says l.row.toRowW d [] (fun f vs => PySem.call f vs) := by
  refine Att.attach_callB hn hdf fun w s₀ t mg mb f o pm cd doc a vs ns G Y ho hd hcd hm obj intsA len bits gens => ?_
  obtain ⟨K, KX, c⟩ := Y
  obtain ⟨fd, hb, hf⟩ := hF w mg f t.heap K KX G.T.g hm c
  refine law_callG (cs := tf.map (He.cT K)) KX G.T.g G.T.b G.T.builtins G.T.nolimit gens (fun p hp => ?_) (fun p hp => ?_) (fun p hp => ?_) G.T.bmain obj intsA (Nat.le_trans len (by decide)) hr (fun base _ _ tb => hf base fun p hp => tb _ (List.mem_map_of_mem hp)) hb (fun H hT hS => ?_) (fun H e s' z => ?_)
  · obtain ⟨p, hq, rfl⟩ := List.mem_map.mp hp
    exact c.empty p hq
  · obtain ⟨p, hq, rfl⟩ := List.mem_map.mp hp
    exact c.out p hq
  · obtain ⟨p, hq, rfl⟩ := List.mem_map.mp hp
    exact PySem.W.codeHd_of_K KX (c.hd p hq)
  · have tb : LamX.Tabs (tabsOf K tf) H := fun p hp => by
      obtain ⟨p, hq, rfl⟩ := List.mem_map.mp hp
      exact LamX.TabS.nil (hT _ (List.mem_map_of_mem hq))
    have key : ∀ u : U, (u = .frz (ns.map .int) ∨ u = .lst (ns.map .int)) → Rep ⟨K, mg, tabsOf K tf, w⟩ ⟨fun _ => none, fun _ => False⟩ H u (.ref a) → spZ ⟨K, mg, tabsOf K tf, w⟩ 1 F [.ref a] H (fun v _ => v = .bl true) fun _ _ _ => False := fun u hu r => by
      obtain ⟨st, e⟩ := hlaw ns len u hu
      refine ⟨[u], [], ⟨fun _ => none, fun _ => False⟩, rfl, ⟨fun n h => absurd h (Nat.not_lt_zero n), fun n a h => (nomatch h), fun n k a h => (nomatch h), fun n a h => (nomatch h), fun a h => (show False from h).elim, fun n c a h => by simp at h, tb⟩, .cons r .nil, ?_⟩
      rw [e]
      intro v m' H' l S r
      cases r
      rfl
    rcases hS with (h | ⟨o, h⟩) | h
    · exact key _ (.inr rfl) (.lst h (fun z => z) (reps_ints ns))
    · exact key _ (.inl rfl) (.frz h (fun z => z) (reps_ints ns))
    · exact key _ (.inl rfl) (.frzK h (reps_ints ns))
  · obtain ⟨_, _, _, _, _, _, _, _, _, _, _, _, z⟩ := z
    exact z
end Z

namespace Z
open PySem PySem.Spec PyProof.Rows L2
/-! ### repr of tuples and lists -/
mutual
def rpQ : U → Bool
  | .non => true
  | .bl _ => true
  | .int i => smallI i
  | .str x => PyData.strOk (reprText x) && decide ((reprText x).length ≤ 1000)
  | .tup xs => rpQs xs
  | .lst xs => rpQs xs
  | .frz _ => false
  | .hdl _ => false
  | .fn _ => false
  | .dct _ _ => false
  | .kdc _ _ => false
def rpQs : List U → Bool
  | [] => true
  | x :: xs => rpQ x && rpQs xs
end
mutual
def rpM : U → Nat
  | .non => 4
  | .bl _ => 5
  | .int _ => 19
  | .str x => (reprText x).length
  | .tup xs => 2 + rpMs xs
  | .lst xs => 2 + rpMs xs
  | .frz _ => 0
  | .hdl _ => 0
  | .fn _ => 0
  | .dct _ _ => 0
  | .kdc _ _ => 0
def rpMs : List U → Nat
  | [] => 0
  | x :: xs => rpM x + 2 + rpMs xs
end
theorem strOk_app {a b : Str} (ha : PyData.strOk a = true) (hb : PyData.strOk b = true) : PyData.strOk (a ++ b) = true := by
  obtain ⟨a⟩ := a
  obtain ⟨b⟩ := b
  show (a ++ b).all _ = true
  rw [Array.all_append]
  exact Bool.and_eq_true_iff.mpr ⟨ha, hb⟩
theorem strOk_lit (s : String) : PyData.strOk (Str.ofString s) = true := strOk_of s
theorem strOk_join : ∀ ts : List Str, (∀ t ∈ ts, PyData.strOk t = true) → PyData.strOk (Str.join ", " ts) = true
  | [], _ => strOk_lit ""
  | [t], h => h t (.head _)
  | t :: u :: r, h => strOk_app (strOk_app (h t (.head _)) (strOk_lit ", ")) (strOk_join (u :: r) fun x hx => h x (.tail _ hx))
theorem strOk_from : ∀ (ts : List Str) (k : Nat) (acc : Str), PyData.strOk acc = true → (∀ t ∈ ts, PyData.strOk t = true) → PyData.strOk (textFrom k acc ts) = true
  | [], _, _, h, _ => h
  | t :: ts, k, acc, h, ht => strOk_from ts (k + 1) _ (strOk_app (strOk_app h (strOk_lit _)) (ht t (.head _))) fun x hx => ht x (.tail _ hx)
theorem tupT_len (ts : List Str) : (tupleText ts).length ≤ piled ts + 2 := by
  match ts with
  | [] => decide +kernel
  | t :: r =>
    have h := join_length_add (t :: r) (by simp)
    have closing : ∀ b : Bool, (((if b then ",)" else ")" : String) : Str)).length ≤ 2 := fun b => by cases b <;> decide +kernel
    have c := closing ((t :: r).length == 1)
    unfold tupleText
    rw [strLen_append, strLen_append, show ((("(" : String) : Str)).length = 1 from rfl]
    omega
theorem lstT_len (ts : List Str) : (listText ts).length ≤ piled ts + 2 := by
  unfold listText
  rw [strLen_append, show ((("]" : String) : Str)).length = 1 from rfl]
  match ts with
  | [] => decide +kernel
  | t :: r =>
    have h := textFrom_length_pos r 1 (("[" : Str) ++ (if (0 : Nat) > 0 then ", " else "" : String) ++ t) (Nat.succ_pos 0)
    have e : textFrom 0 "[" (t :: r) = textFrom 1 (("[" : Str) ++ (if (0 : Nat) > 0 then ", " else "" : String) ++ t) r := rfl
    rw [e, h, strLen_append, strLen_append, piled_cons]
    have e1 : ((("[" : String) : Str)).length = 1 := rfl
    have e2 : (((if (0 : Nat) > 0 then ", " else "" : String) : Str)).length = 0 := rfl
    omega
mutual
theorem shown_facts : ∀ (u : U) (D : PyData), dat u = some D → rpQ u = true → D.showable = true ∧ D.hasDict = false ∧ D.shown.length ≤ rpM u ∧ PyData.strOk D.shown = true
  | .non, D, e, _ => by
    simp only [dat, Option.some.injEq] at e
    subst e
    exact ⟨rfl, rfl, by decide +kernel, by decide +kernel⟩
  | .bl b, D, e, _ => by
    simp only [dat, Option.some.injEq] at e
    subst e
    cases b <;> exact ⟨rfl, rfl, by decide +kernel, by decide +kernel⟩
  | .int i, D, e, h => by
    simp only [dat, Option.some.injEq] at e
    subst e
    simp only [rpQ] at h
    exact ⟨by simp [PyData.showable, smallI_log h], rfl, smallI_len h, strOk_of _⟩
  | .str x, D, e, h => by
    simp only [dat, Option.some.injEq] at e
    subst e
    simp only [rpQ, Bool.and_eq_true] at h
    exact ⟨rfl, rfl, Nat.le_refl _, h.1⟩
  | .tup xs, D, e, h => by
    simp only [dat, Option.map_eq_some_iff] at e
    obtain ⟨Ds, e, rfl⟩ := e
    obtain ⟨h1, h2, h3, h4⟩ := showns_facts xs Ds e h
    refine ⟨by simpa [PyData.showable] using h1, by simpa [PyData.hasDict] using h2, ?_, ?_⟩
    · have := tupT_len (PyData.shownAll Ds)
      show (tupleText (PyData.shownAll Ds)).length ≤ 2 + rpMs xs
      omega
    · exact strOk_app (strOk_app (strOk_lit "(") (strOk_join _ h4)) (strOk_lit _)
  | .lst xs, D, e, h => by
    simp only [dat, Option.map_eq_some_iff] at e
    obtain ⟨Ds, e, rfl⟩ := e
    obtain ⟨h1, h2, h3, h4⟩ := showns_facts xs Ds e h
    refine ⟨by simpa [PyData.showable] using h1, by simpa [PyData.hasDict] using h2, ?_, ?_⟩
    · have := lstT_len (PyData.shownAll Ds)
      show (listText (PyData.shownAll Ds)).length ≤ 2 + rpMs xs
      omega
    · exact strOk_app (strOk_from _ 0 _ (strOk_lit "[") h4) (strOk_lit "]")
  | .frz _, _, _, h => by simp [rpQ] at h
  | .hdl _, _, _, h => by simp [rpQ] at h
  | .fn _, _, _, h => by simp [rpQ] at h
  | .dct _ _, _, _, h => by simp [rpQ] at h
  | .kdc _ _, _, _, h => by simp [rpQ] at h
theorem showns_facts : ∀ (us : List U) (Ds : List PyData), dats us = some Ds → rpQs us = true → PyData.showableAll Ds = true ∧ PyData.hasDictAll Ds = false ∧ piled (PyData.shownAll Ds) ≤ rpMs us ∧ ∀ t ∈ PyData.shownAll Ds, PyData.strOk t = true
  | [], Ds, e, _ => by
    simp only [dats, Option.some.injEq] at e
    subst e
    exact ⟨rfl, rfl, Nat.le_refl _, fun _ h => nomatch h⟩
  | x :: xs, Ds, e, h => by
    simp only [dats, Option.bind_eq_some_iff, Option.map_eq_some_iff] at e
    obtain ⟨D, e1, Es, e2, rfl⟩ := e
    simp only [rpQs, Bool.and_eq_true] at h
    obtain ⟨a1, a2, a3, a4⟩ := shown_facts x D e1 h.1
    obtain ⟨b1, b2, b3, b4⟩ := showns_facts xs Es e2 h.2
    refine ⟨by simp [PyData.showableAll, a1, b1], by simp [PyData.hasDictAll, a2, b2], ?_, fun t ht => ?_⟩
    · simp only [PyData.shownAll, piled_cons, rpMs]
      omega
    · rcases List.mem_cons.mp ht with rfl | ht
      · exact a4
      · exact b4 t ht
end
def rpD : U → Bool
  | .tup _ => true
  | .lst _ => true
  | _ => false
def rpT (u : U) : Str := ((dat u).map PyData.shown).getD ""
/-- atoms alone -/
def rpA : U → Option U
  | .bl b => some (.str (if b = true then "True" else "False"))
  | .non => some (.str "None")
  | .int i => if smallI i = true then some (.str (Str.ofString (toString i))) else none
  | .str x => if (PyData.strOk (reprText x) && decide ((reprText x).length ≤ 1000)) = true then some (.str (reprText x)) else none
  | _ => none
def oRepr : Op1 := fun st u => if (rpD (deref st u) && (pl 60 (deref st u) && (rpQ (deref st u) && decide (rpM (deref st u) ≤ 16777216)))) = true then some (.str (rpT (deref st u))) else rpA u
theorem b_repr [TB] {X : Cx} (quiet : X.A.guards = some []) (hu : X.A.units + 65 < cLine) : BZ1 X (.builtin "repr") oRepr := by
  intro pins s σ H xs us Q I r h
  obtain ⟨m, st, u, x, rfl, S, ru, P⟩ := h
  unfold oRepr at P
  split at P
  · rename_i c
    simp only [Bool.and_eq_true, decide_eq_true_eq] at c
    obtain ⟨c1, c2, c3, c4⟩ := c
    obtain ⟨v, rfl, rv⟩ := vals1 r
    obtain ⟨d, e, hd⟩ := pl_dat _ c2
    obtain ⟨k1, _⟩ := rep_dpD S ru e
    obtain ⟨as, q1⟩ := Dp.reads I d x v k1 rv
    obtain ⟨f1, f2, f3, f4⟩ := shown_facts _ d e c3
    have hdis : isDisplay d = true := by
      cases q : deref st u with
      | tup xs =>
        rw [q] at e
        simp only [dat, Option.map_eq_some_iff] at e
        obtain ⟨_, _, rfl⟩ := e
        rfl
      | lst xs =>
        rw [q] at e
        simp only [dat, Option.map_eq_some_iff] at e
        obtain ⟨_, _, rfl⟩ := e
        rfl
      | _ => rw [q] at c1; cases c1
    obtain ⟨a, rfl⟩ := isRef_of_reads q1 hdis
    have et : rpT (deref st u) = d.shown := by
      unfold rpT
      rw [e]
      rfl
    rw [et] at P
    exact repr_of_reads' q1 f1 (PyData.noDict_hsm f2) quiet (by omega) (fun _ _ e => e) (fun h' t tk hk => ⟨.str _, H, I.kept hk, ⟨t, rfl⟩, P.here S (.str _ f4 (by omega))⟩) (by rw [sizeLine_eq]; omega)
  · rename_i nc
    clear nc
    obtain ⟨v, rfl, rv⟩ := vals1 r
    unfold rpA at P
    split at P
    · rename_i b
      have e := rep_bl ru
      subst e
      cases rv
      refine PySem.P.repr_of_bool ⟨.str _, H, I.kept (fun _ _ e => e), ⟨s.toks, rfl⟩, P.here S (.str _ ?_ ?_)⟩ <;> cases b
      · exact strOk_lit "False"
      · exact strOk_lit "True"
      · decide
      · decide
    · have e := rep_non ru
      subst e
      cases rv
      exact PySem.P.repr_of_none ⟨.str _, H, I.kept (fun _ _ e => e), ⟨s.toks, rfl⟩, P.here S (.str _ (strOk_lit _) (by decide))⟩
    · rename_i i
      have e := rep_int ru
      subst e
      obtain ⟨t, rfl⟩ := rv
      split at P
      · rename_i hn
        have := smallI_len hn
        exact PySem.P.repr_of_int (smallI_log hn) ⟨.str _, H, I.kept (fun _ _ e => e), ⟨s.toks, rfl⟩, P.here S (.str _ (strOk_of _) (by omega))⟩
      · exact P.elim
    · rename_i z
      have e := (rep_str ru).1
      subst e
      obtain ⟨t, rfl⟩ := rv
      split at P
      · rename_i hn
        simp only [Bool.and_eq_true, decide_eq_true_eq] at hn
        exact PySem.P.repr_of_str ⟨.str _, H, I.kept (fun _ _ e => e), ⟨s.toks, rfl⟩, P.here S (.str _ hn.1 (by omega))⟩ (by rw [sizeLine_eq]; omega)
      · exact P.elim
    · exact P.elim
end Z

namespace Z
open PySem PySem.Spec PyProof.Rows L2

/-! ### what holds of a result -/
def Ok {α : Type} (r : R α) (P : α → Store → Prop) : Prop := ∃ a st, r = .ok a st ∧ P a st
theorem Ok.bind {α β : Type} {r : R α} {k : α → Store → R β} {P : α → Store → Prop} {Q : β → Store → Prop} (h : Ok r P) (hk : ∀ a st, P a st → Ok (k a st) Q) : Ok (r.bind k) Q := by
  obtain ⟨a, st, rfl, p⟩ := h
  exact hk a st p
theorem Ok.imp {α : Type} {r : R α} {P Q : α → Store → Prop} (h : Ok r P) (hk : ∀ a st, P a st → Q a st) : Ok r Q := by
  obtain ⟨a, st, e, p⟩ := h
  exact ⟨a, st, e, hk a st p⟩
theorem Ok.pure {α : Type} {a : α} {st : Store} {P : α → Store → Prop} (h : P a st) : Ok (.ok a st) P := ⟨a, st, rfl, h⟩
theorem Ok.eq {α : Type} {r r' : R α} {P : α → Store → Prop} (e : r = r') (h : Ok r' P) : Ok r P := e ▸ h
theorem R.bind_bind {α β γ : Type} (r : R α) (k : α → Store → R β) (l : β → Store → R γ) : (r.bind k).bind l = r.bind fun a st => (k a st).bind l := by
  cases r <;> rfl
theorem R.bind_id {α : Type} (r : R α) : (r.bind fun a st => .ok a st) = r := by
  cases r <;> rfl
theorem Ok.bb {α β γ : Type} {r : R α} {k : α → Store → R β} {l : β → Store → R γ} {Q : γ → Store → Prop} (h : Ok (r.bind fun a st => (k a st).bind l) Q) : Ok ((r.bind k).bind l) Q := by
  rw [R.bind_bind]; exact h
theorem Ok.bi {α : Type} {r : R α} {Q : α → Store → Prop} (h : Ok r Q) : Ok (r.bind fun a st => .ok a st) Q := by
  rw [R.bind_id]; exact h

/-! ### plain values -/
@[simp] theorem pl_non (d : Nat) : pl d .non = true := by cases d <;> rfl
@[simp] theorem pl_bl (d : Nat) (b : Bool) : pl d (.bl b) = true := by cases d <;> rfl
@[simp] theorem pl_int (d : Nat) (b : Int) : pl d (.int b) = true := by cases d <;> rfl
@[simp] theorem pl_str (d : Nat) (b : Str) : pl d (.str b) = true := by cases d <;> rfl
@[simp] theorem pl_tup (d : Nat) (xs : List U) : pl (d + 1) (.tup xs) = pls d xs := rfl
@[simp] theorem pl_lst (d : Nat) (xs : List U) : pl (d + 1) (.lst xs) = pls d xs := rfl
@[simp] theorem pls_nil (d : Nat) : pls d [] = true := by cases d <;> rfl
@[simp] theorem pls_cons (d : Nat) (x : U) (xs : List U) : pls d (x :: xs) = (pl d x && pls d xs) := by cases d <;> rfl
@[simp] theorem pls_append (d : Nat) (xs ys : List U) : pls d (xs ++ ys) = (pls d xs && pls d ys) := by
  induction xs with
  | nil => simp
  | cons x xs ih => simp [ih, Bool.and_assoc]
theorem pl_up {d d' : Nat} {u : U} (h : pl d u = true) (hd : d ≤ d' := by decide) : pl d' u = true := pl_mono u hd h
theorem pls_up {d d' : Nat} {u : List U} (h : pls d u = true) (hd : d ≤ d' := by decide) : pls d' u = true := pls_mono u hd h
theorem pl_deref {d : Nat} {u : U} {st : Store} (h : pl d u = true) : deref st u = u := by
  cases u with
  | hdl n => simp [pl] at h
  | _ => rfl
theorem pl_tups {d : Nat} {xs : List U} (h : pl d (.tup xs) = true) : pls d xs = true := by
  cases d with
  | zero => simp [pl] at h
  | succ d => exact pls_mono xs (Nat.le_succ d) h
theorem pl_lsts {d : Nat} {xs : List U} (h : pl d (.lst xs) = true) : pls d xs = true := by
  cases d with
  | zero => simp [pl] at h
  | succ d => exact pls_mono xs (Nat.le_succ d) h
theorem pl_cases {d : Nat} {u : U} (h : pl d u = true) : u = .non ∨ (∃ b, u = .bl b) ∨ (∃ i, u = .int i) ∨ (∃ x, u = .str x) ∨ (∃ xs, u = .tup xs ∧ pls d xs = true) ∨ ∃ xs, u = .lst xs ∧ pls d xs = true := by
  cases u with
  | non => simp
  | bl b => simp
  | int b => simp
  | str b => simp
  | tup xs => simp [pl_tups h]
  | lst xs => simp [pl_lsts h]
  | _ => simp [pl] at h

/-! ### == -/
mutual
theorem eqD_refl : ∀ (d : Nat) (u : U), pl d u = true → eqD u u = true
  | _, .non, _ => rfl
  | _, .bl b, _ => by simp [eqD]
  | _, .int i, _ => by simp [eqD]
  | _, .str x, _ => by simp [eqD]
  | 0, .tup xs, h => by simp [pl] at h
  | d + 1, .tup xs, h => eqDs_refl d xs h
  | 0, .lst xs, h => by simp [pl] at h
  | d + 1, .lst xs, h => eqDs_refl d xs h
  | _, .frz _, h => by simp [pl] at h
  | _, .hdl _, h => by simp [pl] at h
  | _, .fn _, h => by simp [pl] at h
  | _, .dct _ _, h => by simp [pl] at h
  | _, .kdc _ _, h => by simp [pl] at h
theorem eqDs_refl : ∀ (d : Nat) (u : List U), pls d u = true → eqDs u u = true
  | _, [], _ => rfl
  | d, x :: xs, h => by
    simp only [pls_cons, Bool.and_eq_true] at h
    simp only [eqDs, eqD_refl d x h.1, eqDs_refl d xs h.2, Bool.and_self]
end
mutual
theorem eqD_symm : ∀ (a b : U), eqD a b = eqD b a
  | .non, b => by cases b <;> simp [eqD]
  | .bl x, b => by cases b <;> simp only [eqD, BEq.comm]
  | .int x, b => by cases b <;> simp only [eqD, BEq.comm]
  | .str x, b => by cases b <;> simp only [eqD, BEq.comm]
  | .tup xs, b => by
    cases b with
    | tup ys => simp only [eqD]; exact eqDs_symm xs ys
    | _ => simp [eqD]
  | .lst xs, b => by
    cases b with
    | lst ys => simp only [eqD]; exact eqDs_symm xs ys
    | _ => simp [eqD]
  | .frz _, b => by cases b <;> simp [eqD]
  | .hdl _, b => by cases b <;> simp [eqD]
  | .fn _, b => by cases b <;> simp [eqD]
  | .dct _ _, b => by cases b <;> simp [eqD]
  | .kdc _ _, b => by cases b <;> simp [eqD]
theorem eqDs_symm : ∀ (a b : List U), eqDs a b = eqDs b a
  | [], [] => rfl
  | [], _ :: _ => rfl
  | _ :: _, [] => rfl
  | x :: xs, y :: ys => by simp only [eqDs]; rw [eqD_symm x y, eqDs_symm xs ys]
end
theorem eqU_p {a b : U} {st : Store} {d d' : Nat} (ha : pl d a = true) (hb : pl d' b = true) (hd : d ≤ 64 := by decide) (hd' : d' ≤ 64 := by decide) : eqU st a b = some (eqD a b) := by
  unfold eqU
  rw [pl_deref ha, pl_deref hb, pl_mono a hd ha, pl_mono b hd' hb]
  rfl
@[simp] theorem eqU_int (st : Store) (i j : Int) : eqU st (.int i) (.int j) = some (i == j) := rfl
@[simp] theorem eqU_bl (st : Store) (i j : Bool) : eqU st (.bl i) (.bl j) = some (i == j) := rfl
@[simp] theorem eqU_str2 (st : Store) (i j : Str) : eqU st (.str i) (.str j) = some (i == j) := rfl
theorem eqU_str {d : Nat} {u : U} {x : Str} {st : Store} (h : pl d u = true) (hd : d ≤ 64 := by decide) : eqU st u (.str x) = some (eqD u (.str x)) := eqU_p h (pl_str 0 x) hd (by decide)
theorem eqU_strL {d : Nat} {u : U} {x : Str} {st : Store} (h : pl d u = true) (hd : d ≤ 64 := by decide) : eqU st (.str x) u = some (eqD u (.str x)) := by
  rw [eqD_symm]; exact eqU_p (pl_str 0 x) h (by decide) hd
/-- a text that is equal is the text -/
theorem eqD_str {u : U} {x : Str} : eqD u (.str x) = true ↔ u = .str x := by
  cases u <;> simp [eqD]
theorem eqD_strL {u : U} {x : Str} : eqD (.str x) u = true ↔ u = .str x := by
  rw [eqD_symm]; exact eqD_str
theorem eqDs_nil (ys : List U) : eqDs ys [] = ys.isEmpty := by cases ys <;> rfl
theorem eqDs_nilL (ys : List U) : eqDs [] ys = ys.isEmpty := by cases ys <;> rfl
/-- equal texts' tuples -/
theorem eqDs_strs : ∀ (xs ys : List Str), eqDs (xs.map U.str) (ys.map U.str) = decide (xs = ys)
  | [], [] => rfl
  | [], _ :: _ => by simp [eqDs]
  | _ :: _, [] => by simp [eqDs]
  | x :: xs, y :: ys => by
    simp only [List.map_cons, eqDs, eqD, eqDs_strs xs ys]
    rw [Bool.eq_iff_iff]
    simp
/-- without truth values, == is to be the same -/
def nb : U → Bool
  | .bl _ => false
  | _ => true

/-! ### operators on shapes -/
section
variable (st : Store)
@[simp] theorem truth_bl (b : Bool) : truth st (.bl b) = some b := rfl
@[simp] theorem truth_t (xs : List U) : truth st (.tup xs) = some !xs.isEmpty := rfl
@[simp] theorem truth_l (xs : List U) : truth st (.lst xs) = some !xs.isEmpty := rfl
@[simp] theorem truth_i (i : Int) : truth st (.int i) = some (i != 0) := rfl
@[simp] theorem truth_n : truth st .non = some false := rfl
@[simp] theorem truth_s (x : Str) : truth st (.str x) = some ((x.length : Int) != 0) := rfl
@[simp] theorem deref_S (x : Str) : deref st (.str x) = .str x := rfl
@[simp] theorem deref_T (x : List U) : deref st (.tup x) = .tup x := rfl
@[simp] theorem deref_L (x : List U) : deref st (.lst x) = .lst x := rfl
@[simp] theorem deref_F (x : List U) : deref st (.frz x) = .frz x := rfl
@[simp] theorem deref_I (x : Int) : deref st (.int x) = .int x := rfl
@[simp] theorem deref_B (x : Bool) : deref st (.bl x) = .bl x := rfl
@[simp] theorem deref_D (k u : List U) : deref st (.dct k u) = .dct k u := rfl
@[simp] theorem deref_K (k : List Str) (u : List U) : deref st (.kdc k u) = .kdc k u := rfl
@[simp] theorem deref_N : deref st .non = .non := rfl
@[simp] theorem oGt_i (i j : Int) : oGt st (.int i) (.int j) = some (.bl (decide (j < i))) := rfl
@[simp] theorem oGe_i (i j : Int) : oGe st (.int i) (.int j) = some (.bl (decide (j ≤ i))) := rfl
@[simp] theorem oLt_i (i j : Int) : oLt st (.int i) (.int j) = some (.bl (decide (i < j))) := rfl
@[simp] theorem oLt_s (x y : Str) : oLt st (.str x) (.str y) = some (.bl (decide (x.cps.toList < y.cps.toList))) := rfl
@[simp] theorem oLe_i (i j : Int) : oLe st (.int i) (.int j) = some (.bl (decide (i ≤ j))) := rfl
@[simp] theorem oAdd_i (i j : Int) : oAdd st (.int i) (.int j) = some (.int (i + j)) := rfl
@[simp] theorem oAddI_i (i j : Int) : oAddI st (.int i) (.int j) = some (.int (i + j)) := rfl
@[simp] theorem oSub_i (i j : Int) : oSub st (.int i) (.int j) = some (.int (i - j)) := rfl
theorem oMul_i (i j : Int) (h : mulOk i j = true) : oMul st (.int i) (.int j) = some (.int (i * j)) := by simp [oMul, h]
theorem oDiv_i (i j : Int) (h : 0 < j) (h2 : j < 1073741824) : oDiv st (.int i) (.int j) = some (.int (i / j)) := by simp [oDiv, h, h2]
theorem oMod_i (i j : Int) (h : 0 < j) : oMod st (.int i) (.int j) = some (.int (i % j)) := by simp [oMod, h]
@[simp] theorem oInt_i (i : Int) : oInt st (.int i) = some (.int i) := rfl
@[simp] theorem oInt_b (b : Bool) : oInt st (.bl b) = some (.int (if b then 1 else 0)) := rfl
@[simp] theorem oNeg_i (i : Int) : oNeg st (.int i) = some (.int (-i)) := rfl
@[simp] theorem oAbs_i (i : Int) : oAbs st (.int i) = some (.int (if i < 0 then -i else i)) := rfl
@[simp] theorem oLen_t (xs : List U) : oLen st (.tup xs) = some (.int xs.length) := rfl
@[simp] theorem oLen_l (xs : List U) : oLen st (.lst xs) = some (.int xs.length) := rfl
@[simp] theorem oLen_s (x : Str) : oLen st (.str x) = some (.int x.length) := rfl
@[simp] theorem oLen_d (k u : List U) : oLen st (.dct k u) = some (.int k.length) := rfl
@[simp] theorem oList_t (xs : List U) : oList st (.tup xs) = some (.lst xs) := rfl
@[simp] theorem oList_l (xs : List U) : oList st (.lst xs) = some (.lst xs) := rfl
@[simp] theorem oTuple_t (xs : List U) : oTuple st (.tup xs) = some (.tup xs) := rfl
@[simp] theorem oTuple_l (xs : List U) : oTuple st (.lst xs) = some (.tup xs) := rfl
@[simp] theorem isi_S (x : Str) : tyU st (.str x) = some "str" := rfl
@[simp] theorem isi_T (x : List U) : tyU st (.tup x) = some "tuple" := rfl
@[simp] theorem isi_L (x : List U) : tyU st (.lst x) = some "list" := rfl
@[simp] theorem isi_I (x : Int) : tyU st (.int x) = some "int" := rfl
@[simp] theorem isi_B (x : Bool) : tyU st (.bl x) = some "bool" := rfl
@[simp] theorem isi_N : tyU st .non = some "NoneType" := rfl
@[simp] theorem ixU_t (xs : List U) (k : Int) : ixU st (.tup xs) (.int k) = atI xs k := rfl
@[simp] theorem ixU_l (xs : List U) (k : Int) : ixU st (.lst xs) (.int k) = atI xs k := rfl
@[simp] theorem ixU_ds (ks us : List U) (x : Str) : ixU st (.dct ks us) (.str x) = dGetU ks us (.str x) := rfl
@[simp] theorem ixU_ks (ks : List Str) (us : List U) (x : Str) : ixU st (.kdc ks us) (.str x) = sGetU ks us x := rfl
@[simp] theorem slU_t (xs : List U) (lo hi : Option Int) : slU st (.tup xs) lo hi = some (.tup (cutU xs lo hi)) := rfl
@[simp] theorem slU_l (xs : List U) (lo hi : Option Int) : slU st (.lst xs) lo hi = some (.lst (cutU xs lo hi)) := rfl
theorem oAdd_t {xs ys : List U} (h : xs.length + ys.length ≤ 16777216) : oAdd st (.tup xs) (.tup ys) = some (.tup (xs ++ ys)) := by
  simp [oAdd, h]
theorem oAdd_l {xs ys : List U} (h : xs.length + ys.length ≤ 16777216) : oAdd st (.lst xs) (.lst ys) = some (.lst (xs ++ ys)) := by
  simp [oAdd, h]
@[simp] theorem isU_n (u : U) : isU .non .non = some true := rfl
end
@[simp] theorem atI_0 {α : Type} (x : α) (xs : List α) : atI (x :: xs) 0 = some x := by
  unfold atI ixN
  simp
theorem atI_n {α : Type} (xs : List α) (n : Nat) (h : n < xs.length) : atI xs (n : Int) = some xs[n] := atI_nat (by simp [h])
theorem atI_get {α : Type} {xs : List α} {n : Nat} {x : α} (h : xs[n]? = some x) : atI xs (n : Int) = some x := by
  obtain ⟨hn, e⟩ := List.getElem?_eq_some_iff.mp h
  rw [atI_n xs n hn, e]
@[simp] theorem atI_1 {α : Type} (x y : α) (xs : List α) : atI (x :: y :: xs) 1 = some y := atI_get (n := 1) rfl
@[simp] theorem atI_2 {α : Type} (x y z : α) (xs : List α) : atI (x :: y :: z :: xs) 2 = some z := atI_get (n := 2) rfl
@[simp] theorem atI_3 {α : Type} (x y z a : α) (xs : List α) : atI (x :: y :: z :: a :: xs) 3 = some a := atI_get (n := 3) rfl
@[simp] theorem atI_4 {α : Type} (x y z a b : α) (xs : List α) : atI (x :: y :: z :: a :: b :: xs) 4 = some b := atI_get (n := 4) rfl
@[simp] theorem atI_5 {α : Type} (x y z a b c : α) (xs : List α) : atI (x :: y :: z :: a :: b :: c :: xs) 5 = some c := atI_get (n := 5) rfl
@[simp] theorem atI_6 {α : Type} (x y z a b c d : α) (xs : List α) : atI (x :: y :: z :: a :: b :: c :: d :: xs) 6 = some d := atI_get (n := 6) rfl
@[simp] theorem atI_7 {α : Type} (x y z a b c d e : α) (xs : List α) : atI (x :: y :: z :: a :: b :: c :: d :: e :: xs) 7 = some e := atI_get (n := 7) rfl
@[simp] theorem atI_8 {α : Type} (x y z a b c d e f : α) (xs : List α) : atI (x :: y :: z :: a :: b :: c :: d :: e :: f :: xs) 8 = some f := atI_get (n := 8) rfl

/-! ### in -/
theorem inU_t {d d' : Nat} {u : U} {xs : List U} {st : Store} (h : pl d u = true) (hx : pls d' xs = true) (hd : d ≤ 64 := by decide) (hd' : d' ≤ 64 := by decide) : inU st u (.tup xs) = some (xs.any fun y => eqD y u) := by
  unfold inU
  simp only [deref_T, pl_deref h, pl_mono u hd h, pls_mono xs hd' hx, Bool.and_self, if_true]
theorem inU_l {d d' : Nat} {u : U} {xs : List U} {st : Store} (h : pl d u = true) (hx : pls d' xs = true) (hd : d ≤ 64 := by decide) (hd' : d' ≤ 64 := by decide) : inU st u (.lst xs) = some (xs.any fun y => eqD y u) := by
  unfold inU
  simp only [deref_L, pl_deref h, pl_mono u hd h, pls_mono xs hd' hx, Bool.and_self, if_true]
theorem inU_sign (st : Store) (c : Nat) (z : Str) : inU st (.str ⟨#[c]⟩) (.str z) = some (decide (c ∈ z.cps.toList)) := rfl
theorem pls_strs (d : Nat) : ∀ xs : List Str, pls d (xs.map U.str) = true
  | [] => by simp
  | x :: xs => by simp [pls_strs d xs]
theorem any_strs (xs : List Str) (u : U) : ((xs.map U.str).any fun y => eqD y u) = match u with
    | .str z => decide (z ∈ xs)
    | _ => false := by
  rw [List.any_map]
  cases u with
  | str z =>
    induction xs with
    | nil => simp
    | cons x xs ih =>
      simp only [List.any_cons, ih, Function.comp_apply, eqD]
      by_cases h : x = z
      · subst h; simp
      · have h2 : ¬ z = x := fun q => h q.symm
        simp [h, h2]
  | _ => simp [Function.comp_def, eqD]

/-! ### types -/
@[simp] theorem isiU_NoneType_int : isiU "NoneType" "int" = false := by decide
@[simp] theorem isiU_NoneType_bool : isiU "NoneType" "bool" = false := by decide
@[simp] theorem isiU_NoneType_str : isiU "NoneType" "str" = false := by decide
@[simp] theorem isiU_NoneType_tuple : isiU "NoneType" "tuple" = false := by decide
@[simp] theorem isiU_NoneType_list : isiU "NoneType" "list" = false := by decide
@[simp] theorem isiU_bool_int : isiU "bool" "int" = true := by decide
@[simp] theorem isiU_bool_bool : isiU "bool" "bool" = true := by decide
@[simp] theorem isiU_bool_str : isiU "bool" "str" = false := by decide
@[simp] theorem isiU_bool_tuple : isiU "bool" "tuple" = false := by decide
@[simp] theorem isiU_bool_list : isiU "bool" "list" = false := by decide
@[simp] theorem isiU_int_int : isiU "int" "int" = true := by decide
@[simp] theorem isiU_int_bool : isiU "int" "bool" = false := by decide
@[simp] theorem isiU_int_str : isiU "int" "str" = false := by decide
@[simp] theorem isiU_int_tuple : isiU "int" "tuple" = false := by decide
@[simp] theorem isiU_int_list : isiU "int" "list" = false := by decide
@[simp] theorem isiU_str_int : isiU "str" "int" = false := by decide
@[simp] theorem isiU_str_bool : isiU "str" "bool" = false := by decide
@[simp] theorem isiU_str_str : isiU "str" "str" = true := by decide
@[simp] theorem isiU_str_tuple : isiU "str" "tuple" = false := by decide
@[simp] theorem isiU_str_list : isiU "str" "list" = false := by decide
@[simp] theorem isiU_tuple_int : isiU "tuple" "int" = false := by decide
@[simp] theorem isiU_tuple_bool : isiU "tuple" "bool" = false := by decide
@[simp] theorem isiU_tuple_str : isiU "tuple" "str" = false := by decide
@[simp] theorem isiU_tuple_tuple : isiU "tuple" "tuple" = true := by decide
@[simp] theorem isiU_tuple_list : isiU "tuple" "list" = false := by decide
@[simp] theorem isiU_list_int : isiU "list" "int" = false := by decide
@[simp] theorem isiU_list_bool : isiU "list" "bool" = false := by decide
@[simp] theorem isiU_list_str : isiU "list" "str" = false := by decide
@[simp] theorem isiU_list_tuple : isiU "list" "tuple" = false := by decide
@[simp] theorem isiU_list_list : isiU "list" "list" = true := by decide

/-! ### loops -/
theorem forU_all {P : U → Bool} {B : UEnv → Store → R Fl} {i : Nat} {E : Option U → UEnv} {st : Store} {u : U} : ∀ (xs : List U) (o : Option U)
    (_ : ∀ x ∈ xs, ∀ o, (gNm i x (E o) st).bind B = if P x = true then .ok (.nx (E (some x))) st else .ok (.rt u) st), ∃ o', forU (gNm i) B xs (E o) st = if xs.all P = true then .ok (.nx (E o')) st else .ok (.rt u) st
  | [], o, _ => ⟨o, by simp [forU]⟩
  | x :: xs, o, h => by
    have h1 := h x (by simp) o
    simp only [gNm, R.bind_ok] at h1
    obtain ⟨o', ih⟩ := forU_all (B := B) (i := i) (E := E) (P := P) (u := u) xs (some x) fun y hy o => h y (by simp [hy]) o
    cases hp : P x with
    | true =>
      refine ⟨o', ?_⟩
      simp only [forU, gNm, R.bind_ok, h1, hp, if_true, List.all_cons, Bool.true_and]
      exact ih
    | false =>
      refine ⟨o, ?_⟩
      simp [forU, h1, hp]
/-- the first that is found goes back -/
theorem forU_find {P : U → Bool} {F : U → U} {B : UEnv → Store → R Fl} {i : Nat} {E : Option U → UEnv} {st : Store} : ∀ (xs : List U) (o : Option U)
    (_ : ∀ x ∈ xs, ∀ o, (gNm i x (E o) st).bind B = if P x = true then .ok (.rt (F x)) st else .ok (.nx (E (some x))) st), ∃ o', forU (gNm i) B xs (E o) st = match xs.find? P with
      | some x => .ok (.rt (F x)) st
      | none => .ok (.nx (E o')) st
  | [], o, _ => ⟨o, by simp [forU]⟩
  | x :: xs, o, h => by
    have h1 := h x (by simp) o
    simp only [gNm, R.bind_ok] at h1
    obtain ⟨o', ih⟩ := forU_find (B := B) (i := i) (E := E) (P := P) (F := F) xs (some x) fun y hy o => h y (by simp [hy]) o
    cases hp : P x with
    | true =>
      refine ⟨o, ?_⟩
      simp [forU, h1, hp]
    | false =>
      refine ⟨o', ?_⟩
      simp only [forU, gNm, R.bind_ok, h1, hp, Bool.false_eq_true, if_false, List.find?_cons]
      exact ih
/-- a fold -/
theorem forU_fold {α : Type} {f : α → U → α} {g : Asg} {B : UEnv → Store → R Fl} {E : Option U → α → UEnv} {st : Store} : ∀ (xs : List U) (o : Option U) (a : α)
    (_ : ∀ x ∈ xs, ∀ o a, (g x (E o a) st).bind B = .ok (.nx (E (some x) (f a x))) st), ∃ o', forU g B xs (E o a) st = .ok (.nx (E o' (xs.foldl f a))) st
  | [], o, a, _ => ⟨o, by simp [forU]⟩
  | x :: xs, o, a, h => by
    have h1 := h x (by simp) o a
    obtain ⟨o', ih⟩ := forU_fold (B := B) (g := g) (E := E) (f := f) xs (some x) (f a x) fun y hy o a => h y (by simp [hy]) o a
    refine ⟨o', ?_⟩
    unfold forU
    cases hg : g x (E o a) st with
    | ok ρ1 st1 =>
      rw [hg] at h1
      simp only [R.bind_ok] at h1 ⊢
      rw [h1]
      exact ih
    | exc e s => rw [hg] at h1; cases h1
    | stuck => rw [hg] at h1; cases h1
/-- a loop with an invariant -/
theorem forU_inv {g : Asg} {B : UEnv → Store → R Fl} (I : List U → UEnv → Store → Prop) (h : ∀ x xs ρ st, I (x :: xs) ρ st → Ok ((g x ρ st).bind B) fun r st' => ∃ ρ', r = .nx ρ' ∧ I xs ρ' st') :
    ∀ xs ρ st, I xs ρ st → Ok (forU g B xs ρ st) fun r st' => ∃ ρ', r = .nx ρ' ∧ I [] ρ' st'
  | [], ρ, st, i => ⟨_, _, rfl, _, rfl, i⟩
  | x :: xs, ρ, st, i => by
    obtain ⟨r, st1, e, ρ1, rfl, i1⟩ := h x xs ρ st i
    have ih := forU_inv I h xs ρ1 st1 i1
    unfold forU
    cases hg : g x ρ st with
    | ok ρ2 st2 =>
      rw [hg] at e
      simp only [R.bind_ok] at e ⊢
      rw [e]
      exact ih
    | exc e2 s => rw [hg] at e; cases e
    | stuck => rw [hg] at e; cases e
/-- a comprehension that looks at plain things -/
theorem lcU_sel {P : U → Bool} {F : U → U} {c : UEnv → Store → R Bool} {f : UEnv → Store → R U} {i : Nat} {ρ : UEnv} {st : Store} : ∀ xs : List U, (∀ x ∈ xs, c (ρ.set i (some x)) st = .ok (P x) st) → (∀ x ∈ xs, P x = true → f (ρ.set i (some x)) st = .ok (F x) st) → lcU (ctName i) c f xs ρ st = .ok ((xs.filter P).map F) st
  | [], _, _ => by simp [lcU]
  | x :: xs, h1, h2 => by
    have ih := lcU_sel (P := P) (F := F) (c := c) (f := f) (i := i) (ρ := ρ) (st := st) xs (fun y hy => h1 y (by simp [hy])) (fun y hy => h2 y (by simp [hy]))
    simp only [lcU, ctName, h1 x (by simp), R.bind_ok]
    cases hp : P x with
    | true => simp [h2 x (by simp) hp, ih, hp]
    | false => simp [ih, hp]
/-- every item of it, whatever the target -/
theorem lcU_map {F : U → U} {g : Ct} {f : UEnv → Store → R U} {ρ : UEnv} {st : Store} : ∀ xs : List U, (∀ x ∈ xs, ∃ ρ1, g x ρ = some ρ1 ∧ f ρ1 st = .ok (F x) st) → lcU g cYes f xs ρ st = .ok (xs.map F) st
  | [], _ => by simp [lcU]
  | x :: xs, h => by
    have ih := lcU_map (F := F) (g := g) (f := f) (ρ := ρ) (st := st) xs (fun y hy => h y (by simp [hy]))
    obtain ⟨ρ1, e1, e2⟩ := h x (by simp)
    simp [lcU, e1, e2, ih]
/-- each item draws -/
theorem lcU_inv {g : Ct} {f : UEnv → Store → R U} {ρ : UEnv} (I : Store → Prop) (P : U → Prop) (h : ∀ x st, I st → Ok (match g x ρ with
    | some ρ1 => f ρ1 st
    | none => .stuck) fun u st' => P u ∧ I st') : ∀ xs st, I st → Ok (lcU g cYes f xs ρ st) fun us st' => (∀ u ∈ us, P u) ∧ us.length = xs.length ∧ I st'
  | [], st, i => ⟨_, _, rfl, (fun _ h => nomatch h), rfl, i⟩
  | x :: xs, st, i => by
    obtain ⟨u, st1, e, p, i1⟩ := h x st i
    obtain ⟨us, st2, e2, ps, l, i2⟩ := lcU_inv I P h xs st1 i1
    unfold lcU
    cases hg : g x ρ with
    | none => rw [hg] at e; cases e
    | some ρ1 =>
      rw [hg] at e
      simp only at e
      refine ⟨u :: us, st2, ?_, fun w hw => ?_, by simp [l], i2⟩
      · simp [e, e2]
      · rcases List.mem_cons.mp hw with rfl | hw
        · exact p
        · exact ps w hw
theorem rangeU_len (lo hi : Int) : (rangeU lo hi).length = (hi - lo).toNat := by simp [rangeU]
theorem rangeU_mem {lo hi : Int} {u : U} (h : u ∈ rangeU lo hi) : ∃ i : Int, u = .int i ∧ lo ≤ i ∧ i < hi := by
  unfold rangeU at h
  obtain ⟨k, hk, rfl⟩ := List.mem_map.mp h
  rw [List.mem_range] at hk
  exact ⟨_, rfl, by omega, by omega⟩
theorem cutU_mem {α : Type} {xs : List α} {lo hi : Option Int} {x : α} (h : x ∈ cutU xs lo hi) : x ∈ xs := List.mem_of_mem_drop (List.mem_of_mem_take h)
theorem cutU_len {α : Type} (xs : List α) (lo hi : Option Int) : (cutU xs lo hi).length ≤ xs.length := by
  unfold cutU
  rw [List.length_take, List.length_drop]
  omega
theorem str_lens {x : Str} : x.cps.toList.length = x.length := by simp [Str.length]
@[simp] theorem hltU_int (n : Nat) (i : Int) : hltU n (.int i) = true := rfl
@[simp] theorem hltU_str (n : Nat) (i : Str) : hltU n (.str i) = true := rfl
@[simp] theorem hltU_bl (n : Nat) (i : Bool) : hltU n (.bl i) = true := rfl
@[simp] theorem hltU_non (n : Nat) : hltU n .non = true := rfl
@[simp] theorem hltU_tup (n : Nat) (xs : List U) : hltU n (.tup xs) = hltUs n xs := rfl
@[simp] theorem hltU_lst (n : Nat) (xs : List U) : hltU n (.lst xs) = hltUs n xs := rfl
@[simp] theorem hltUs_nil (n : Nat) : hltUs n [] = true := rfl
@[simp] theorem hltUs_cons (n : Nat) (x : U) (xs : List U) : hltUs n (x :: xs) = (hltU n x && hltUs n xs) := rfl
mutual
theorem pl_hlt {d : Nat} (n : Nat) : ∀ u : U, pl d u = true → hltU n u = true
  | .non, _ => rfl
  | .bl _, _ => rfl
  | .int _, _ => rfl
  | .str _, _ => rfl
  | .tup xs, h => pls_hlt (d := d) n xs (pl_tups h)
  | .lst xs, h => pls_hlt (d := d) n xs (pl_lsts h)
  | .frz _, h => by simp [pl] at h
  | .hdl _, h => by simp [pl] at h
  | .fn _, h => by simp [pl] at h
  | .dct _ _, h => by simp [pl] at h
  | .kdc _ _, h => by simp [pl] at h
theorem pls_hlt {d : Nat} (n : Nat) : ∀ u : List U, pls d u = true → hltUs n u = true
  | [], _ => rfl
  | x :: xs, h => by
    simp only [pls_cons, Bool.and_eq_true] at h
    simp only [hltUs_cons, pl_hlt (d := d) n x h.1, pls_hlt (d := d) n xs h.2, Bool.and_self]
end
end Z

namespace Z
open PySem PySem.Spec PyProof.Rows L2
structure Txt [TB] (w : World) (K : PySem.W.Frag) (mg : Str → Option Value) : Prop where
  b_abs : mg "abs" = none
  b_bool : mg "bool" = none
  b_enumerate : mg "enumerate" = none
  b_int : mg "int" = none
  b_isinstance : mg "isinstance" = none
  b_len : mg "len" = none
  b_list : mg "list" = none
  b_range : mg "range" = none
  b_repr : mg "repr" = none
  b_str : mg "str" = none
  b_tuple : mg "tuple" = none
  g_MOST_CHANGES : GlobU ⟨K, mg, TB.T, w⟩ "MOST_CHANGES" u_MOST_CHANGES
  g_MOST_DEEP : GlobU ⟨K, mg, TB.T, w⟩ "MOST_DEEP" u_MOST_DEEP
  g_MOST_ITEMS : GlobU ⟨K, mg, TB.T, w⟩ "MOST_ITEMS" u_MOST_ITEMS
  g_MOST_SIGNS : GlobU ⟨K, mg, TB.T, w⟩ "MOST_SIGNS" u_MOST_SIGNS
  g_MOST_VALUE : GlobU ⟨K, mg, TB.T, w⟩ "MOST_VALUE" u_MOST_VALUE
  g_SIGNS : GlobU ⟨K, mg, TB.T, w⟩ "SIGNS" u_SIGNS
  x_BadSeal : ExcZ K mg "BadSeal"
  x_ChainError : ExcZ K mg "ChainError"
  x_InvalidAnchor : ExcZ K mg "InvalidAnchor"
  x_InvalidCertificate : ExcZ K mg "InvalidCertificate"
  x_InvalidChange : ExcZ K mg "InvalidChange"
  x_InvalidList : ExcZ K mg "InvalidList"
  x_InvalidNumber : ExcZ K mg "InvalidNumber"
  x_InvalidQuestion : ExcZ K mg "InvalidQuestion"
  x_InvalidRow : ExcZ K mg "InvalidRow"
  x_InvalidStore : ExcZ K mg "InvalidStore"
  x_InvalidValue : ExcZ K mg "InvalidValue"
  subs : ∀ p ∈ t_sub, ExmZ K mg p.1 p.2.1 p.2.2
  j_BadRow : IniF K mg "BadRow" "ChainError" "at" "BadRow.__init__" (methS (topS 20))
  j_TooMany : IniF K mg "TooMany" "ChainError" "limit" "TooMany.__init__" (methS (topS 16))
  d__law_error : DefZ K mg "_law_error" (topS 44) ["_law_call"]
  d__law_cup : DefZ K mg "_law_cup" (topS 39) ["_law_script"]
  d__law_roll : DefZ K mg "_law_roll" (topS 40) ["_law_cup_here", "_law_many"]
  d__law_some : DefZ K mg "_law_some" (topS 41) ["_law_cup_here", "_law_things"]
  d__law_leaf : DefZ K mg "_law_leaf" (topS 46) ["_law_cup_here"]
  d__law_value : DefZ K mg "_law_value" (topS 47) ["_law_cup_here", "_law_deep_here"]
  d__law_deep : DefZ K mg "_law_deep" (topS 48) ["_law_many"]
  d_is_truth : DefZ K mg "is_truth" (topS 3) ["value"]
  d_is_integer : DefZ K mg "is_integer" (topS 2) ["value", "low", "high"]
  d_are_signs : DefZ K mg "are_signs" (topS 5) ["value", "least", "most"]
  d_is_tuple : DefZ K mg "is_tuple" (topS 4) ["value", "least", "most"]
  d_is_value_within : DefZ K mg "is_value_within" (topS 26) ["value", "deep"]
  d_is_value : DefZ K mg "is_value" (topS 27) ["value"]
  d_check_value : DefZ K mg "check_value" (topS 28) ["value"]
  d_with_item_at : DefZ K mg "with_item_at" (topS 36) ["value", "path", "item"]
  d_is_path_of : DefZ K mg "is_path_of" (topS 33) ["value", "path"]
  d_are_single_changes : DefZ K mg "are_single_changes" (topS 34) ["value", "changes"]
  d_is_ascending : DefZ K mg "is_ascending" (topS 6) ["items"]
  d_are_apart : DefZ K mg "are_apart" (topS 35) ["paths"]
  d_changed_value : DefZ K mg "changed_value" (topS 37) ["value", "changes"]
  d__law_put : DefZ K mg "_law_put" (topS 51) ["_law_value_here", "_law_path", "_law_fresh"]
  d__law_paths : DefZ K mg "_law_paths" (topS 52) ["_law_value_here"]
  d__law_same : DefZ K mg "_law_same" (topS 45) ["_law_told", "_law_due_here"]
  d_outermost_changes : DefZ K mg "outermost_changes" (topS 31) ["one", "other"]
  d_changes_of : DefZ K mg "changes_of" (topS 32) ["one", "other"]
  d__law_at : DefZ K mg "_law_at" (topS 50) ["_law_value_here", "_law_path"]
  d__law_alike : DefZ K mg "_law_alike" (topS 53) ["_law_one", "_law_other"]
  d__law_due : DefZ K mg "_law_due" (topS 54) ["_law_one", "_law_other"]
  d__law_right : DefZ K mg "_law_right" (topS 55) ["_law_one", "_law_other"]
  d_law : DefZ K mg "law" (topS 56) ["_law_script"]
theorem sc_i_BadRow : FnScope ["self", "at"] ["self", "at"] (defScope (methS (topS 20))) := ⟨rfl, rfl, rfl, by decide +kernel, rfl, by decide +kernel, by decide +kernel⟩
theorem i_BadRow [TB] {P : Program} {w : World} {K : PySem.W.Frag} {mg : Str → Option Value} {base : Heap} (T : Txt w K mg) : IniZ P w K mg base "BadRow" "at" :=
  T.j_BadRow.ini (wd := "no row goes on at ") sc_i_BadRow (by decide) (fun B fI cdv A outer s H E cb => pss_cons (ps_expr (pe_cini rfl cb.m cb.sg cb.tB cb.rB cb.vV (pa_cons (pe_var (i := 0) rfl (by first | exact Or.inl rfl | exact Or.inr (Or.inl rfl) | exact Or.inr (Or.inr rfl))) (pa_cons (pe_joined (.cons pe_str (.cons (pe_fmt (pe_var (i := 1) rfl (by first | exact Or.inl rfl | exact Or.inr (Or.inl rfl) | exact Or.inr (Or.inr rfl)))) .nil))) pa_nil)))) (pss_one (ps_ost (pe_var (i := 0) rfl (by first | exact Or.inl rfl | exact Or.inr (Or.inl rfl) | exact Or.inr (Or.inr rfl))) (pe_var (i := 1) rfl (by first | exact Or.inl rfl | exact Or.inr (Or.inl rfl) | exact Or.inr (Or.inr rfl)))))) (fun _ _ _ _ _ _ us hl => match us, hl with | [_, _], _ => rfl)
theorem sc_i_TooMany : FnScope ["self", "limit"] ["self", "limit"] (defScope (methS (topS 16))) := ⟨rfl, rfl, rfl, by decide +kernel, rfl, by decide +kernel, by decide +kernel⟩
theorem i_TooMany [TB] {P : Program} {w : World} {K : PySem.W.Frag} {mg : Str → Option Value} {base : Heap} (T : Txt w K mg) : IniZ P w K mg base "TooMany" "limit" :=
  T.j_TooMany.ini (wd := "more than ") sc_i_TooMany (by decide) (fun B fI cdv A outer s H E cb => pss_cons (ps_expr (pe_cini rfl cb.m cb.sg cb.tB cb.rB cb.vV (pa_cons (pe_var (i := 0) rfl (by first | exact Or.inl rfl | exact Or.inr (Or.inl rfl) | exact Or.inr (Or.inr rfl))) (pa_cons (pe_joined (.cons pe_str (.cons (pe_fmt (pe_var (i := 1) rfl (by first | exact Or.inl rfl | exact Or.inr (Or.inl rfl) | exact Or.inr (Or.inr rfl)))) .nil))) pa_nil)))) (pss_one (ps_ost (pe_var (i := 0) rfl (by first | exact Or.inl rfl | exact Or.inr (Or.inl rfl) | exact Or.inr (Or.inr rfl))) (pe_var (i := 1) rfl (by first | exact Or.inl rfl | exact Or.inr (Or.inl rfl) | exact Or.inr (Or.inr rfl)))))) (fun _ _ _ _ _ _ us hl => match us, hl with | [_, _], _ => rfl)
/-! _law_error -/
abbrev s__law_error : Stmt := topS 44
abbrev N__law_error : List Str := ["_law_call", "e"]
theorem sc__law_error : FnScope N__law_error ["_law_call"] (defScope s__law_error) := ⟨rfl, rfl, rfl, by decide +kernel, rfl, by decide +kernel, by decide +kernel⟩
abbrev l__law_error : ClF := [("BadRow", .add "bad " "at"), ("TooMany", .add "many " "limit"), ("BadSeal", .say "seal"), ("InvalidValue", .say "value"), ("InvalidRow", .say "row"), ("InvalidChange", .say "change"), ("InvalidNumber", .say "number"), ("InvalidCertificate", .say "certificate"), ("InvalidList", .say "list"), ("InvalidAnchor", .say "anchor"), ("InvalidStore", .say "store"), ("InvalidQuestion", .say "question"), ("ChainError", .say "other")]
theorem tg__law_error [TB] {X : Cx} (T : Txt X.w X.K X.mg) {q : Str} (g : Addr) (cdv : Value) : LamX.GivesTo X N__law_error "_law_error" (defScope s__law_error) g cdv (defBody s__law_error) "_law_call" q (TTellF X.K (lvsF X.mg l__law_error)) := tell_givesF (fun A s H => (.addZ (T.j_BadRow.xf) rfl (by decide) T.b_str rfl sc__law_error.nd (i := 1) rfl rfl (.inl rfl) (by decide) (by decide) rfl rfl rfl (.addZ (T.j_TooMany.xf) rfl (by decide) T.b_str rfl sc__law_error.nd (i := 1) rfl rfl (.inl rfl) (by decide) (by decide) rfl rfl rfl (.say ⟨rfl, by decide, .inl T.x_BadSeal.getD⟩ (.say ⟨rfl, by decide, .inl T.x_InvalidValue.getD⟩ (.say ⟨rfl, by decide, .inl T.x_InvalidRow.getD⟩ (.say ⟨rfl, by decide, .inl T.x_InvalidChange.getD⟩ (.say ⟨rfl, by decide, .inl T.x_InvalidNumber.getD⟩ (.say ⟨rfl, by decide, .inl T.x_InvalidCertificate.getD⟩ (.say ⟨rfl, by decide, .inl T.x_InvalidList.getD⟩ (.say ⟨rfl, by decide, .inl T.x_InvalidAnchor.getD⟩ (.say ⟨rfl, by decide, .inl T.x_InvalidStore.getD⟩ (.say ⟨rfl, by decide, .inl T.x_InvalidQuestion.getD⟩ (.say ⟨rfl, by decide, .inl T.x_ChainError.getD⟩ .nil)))))))))))))) fun f => rfl
/-! _law_cup -/
abbrev s__law_cup : Stmt := topS 39
abbrev N__law_cup : List Str := ["_law_script", "_law_cell"]
theorem sc__law_cup : FnScope N__law_cup ["_law_script"] (defScope s__law_cup) := ⟨rfl, rfl, rfl, by decide +kernel, rfl, by decide +kernel, by decide +kernel⟩
def g__law_cup : UEnv → Store → R Fl := sSeq (sSet 1 (dUn oAbs (dBin ixU (dBin oAdd (dUn oList (dName 0)) (dLst (dCons (dC (.int 0)) (dNil)))) (dC (.int 0))))) (sRet (dNew (dCons (dIf (dTest (dBin oGe (dName 1) (dBin oPow (dC (.int 10)) (dC (.int 18))))) (dBin oDiv (dName 1) (dC (.int 71))) (dC (.int 0))) (dCons (dBin oAdd (dBin oMod (dUn oInt (dBin oAdd (dBin oMul (dName 1) (dC (.int 281))) (dC (.int 2683)))) (dC (.int 2077503161))) (dC (.int 167))) (dNil)))))
def F__law_cup : FnZ := runB 2 (g__law_cup)
theorem t__law_cup [TB] {P : Program} {w : World} {K : PySem.W.Frag} {mg : Str → Option Value} {base : Heap} (T : Txt w K mg)  : CalZ P w K mg base 1 "_law_cup" 1 F__law_cup :=
  (T.d__law_cup.cal (k := 0) (N := N__law_cup) sc__law_cup (fun f cdv A outer s H E hr => (zb_cons (zs_set (i := 1) sc__law_cup.nd (ze_b1 b_abs T.b_abs (ze_ix (room65 hr) (ze_bin z_add (ze_ty1 (b_list rfl) T.b_list (ze_name (i := 0))) (ze_lst (za_cons ze_int za_nil))) ze_int))) (zb_one (zs_ret (ze_new (za_cons (ze_if (zt_cmp z_ge (ze_name (i := 1)) (ze_bin z_pow ze_int ze_int)) (ze_bin z_div (ze_name (i := 1)) ze_int) ze_int) (za_cons (ze_bin z_add (ze_bin z_mod (ze_ty1 b_int T.b_int (ze_bin z_add (ze_bin z_mul (ze_name (i := 1)) ze_int) ze_int)) ze_int) ze_int) za_nil))))))))
/-! _law_roll -/
abbrev s__law_roll : Stmt := topS 40
abbrev N__law_roll : List Str := ["_law_cup_here", "_law_many", "_law_found", "_law_deep_here"]
theorem sc__law_roll : FnScope N__law_roll ["_law_cup_here", "_law_many"] (defScope s__law_roll) := ⟨rfl, rfl, rfl, by decide +kernel, rfl, by decide +kernel, by decide +kernel⟩
def g__law_roll : UEnv → Store → R Fl := sSeq (sIf (dTest (dBin oGt (dBin ixU (dName 0) (dC (.int 0))) (dC (.int 0)))) (sSeq (sSet 2 (dBin oMod (dUn oInt (dBin ixU (dName 0) (dC (.int 0)))) (dName 1))) (sSeq (sAsg (dBin oDivW (dBin ixU (dName 0) (dC (.int 0))) (dName 1)) (gSubL (dName 0) (dC (.int 0)))) (sRet (dName 2)))) (sNext)) (sSeq (sAsg (dBin oMod (dUn oInt (dBin oAdd (dBin oMul (dBin ixU (dName 0) (dC (.int 1))) (dC (.int 31051))) (dC (.int 7993)))) (dC (.int 2147483543))) (gSubL (dName 0) (dC (.int 1)))) (sSeq (sSet 3 (dBin oMod (dUn oInt (dBin oMul (dBin ixU (dName 0) (dC (.int 1))) (dBin oAdd (dBin ixU (dName 0) (dC (.int 1))) (dC (.int 233))))) (dC (.int 2147483587)))) (sRet (dBin oMod (dUn oInt (dBin oDivW (dName 3) (dC (.int 823)))) (dName 1)))))
def F__law_roll : FnZ := runB 4 (g__law_roll)
theorem t__law_roll [TB] {P : Program} {w : World} {K : PySem.W.Frag} {mg : Str → Option Value} {base : Heap} (T : Txt w K mg)  : CalZ P w K mg base 1 "_law_roll" 2 F__law_roll :=
  (T.d__law_roll.cal (k := 0) (N := N__law_roll) sc__law_roll (fun f cdv A outer s H E hr => (zb_cons (zs_if (zt_cmp z_gt (ze_ix (room65 hr) (ze_name (i := 0)) ze_int) ze_int) (zb_cons (zs_set (i := 2) sc__law_roll.nd (ze_bin z_mod (ze_ty1 b_int T.b_int (ze_ix (room65 hr) (ze_name (i := 0)) ze_int)) (ze_name (i := 1)))) (zb_cons (zs_asg (ze_bin z_divW (ze_ix (room65 hr) (ze_name (i := 0)) ze_int) (ze_name (i := 1))) (zg_sub (room65 hr) (ze_name (i := 0)) ze_int)) (zb_one (zs_ret (ze_name (i := 2)))))) zb_nil) (zb_cons (zs_asg (ze_bin z_mod (ze_ty1 b_int T.b_int (ze_bin z_add (ze_bin z_mul (ze_ix (room65 hr) (ze_name (i := 0)) ze_int) ze_int) ze_int)) ze_int) (zg_sub (room65 hr) (ze_name (i := 0)) ze_int)) (zb_cons (zs_set (i := 3) sc__law_roll.nd (ze_bin z_mod (ze_ty1 b_int T.b_int (ze_bin z_mul (ze_ix (room65 hr) (ze_name (i := 0)) ze_int) (ze_bin z_add (ze_ix (room65 hr) (ze_name (i := 0)) ze_int) ze_int))) ze_int)) (zb_one (zs_ret (ze_bin z_mod (ze_ty1 b_int T.b_int (ze_bin z_divW (ze_name (i := 3)) ze_int)) (ze_name (i := 1))))))))))
/-! _law_some -/
abbrev s__law_some : Stmt := topS 41
abbrev N__law_some : List Str := ["_law_cup_here", "_law_things"]
theorem sc__law_some : FnScope N__law_some ["_law_cup_here", "_law_things"] (defScope s__law_some) := ⟨rfl, rfl, rfl, by decide +kernel, rfl, by decide +kernel, by decide +kernel⟩
def g__law_some : UEnv → Store → R Fl := sRet (dBin ixU (dName 1) (dCall F__law_roll (dCons (dName 0) (dCons (dUn oLen (dName 1)) (dNil)))))
def F__law_some : FnZ := runB 2 (g__law_some)
theorem t__law_some [TB] {P : Program} {w : World} {K : PySem.W.Frag} {mg : Str → Option Value} {base : Heap} (T : Txt w K mg) (c__law_roll : CalZ P w K mg base 1 "_law_roll" 2 F__law_roll) : CalZ P w K mg base 2 "_law_some" 2 F__law_some :=
  (T.d__law_some.cal (k := 1) (N := N__law_some) sc__law_some (fun f cdv A outer s H E hr => (zb_one (zs_ret (ze_ix (room65 hr) (ze_name (i := 1)) (ze_call c__law_roll hr (za_cons (ze_name (i := 0)) (za_cons (ze_b1 b_len T.b_len (ze_name (i := 1))) za_nil))))))))
/-! _law_leaf -/
abbrev s__law_leaf : Stmt := topS 46
abbrev N__law_leaf : List Str := ["_law_cup_here", "_law_number", "_law_word"]
theorem sc__law_leaf : FnScope N__law_leaf ["_law_cup_here"] (defScope s__law_leaf) := ⟨rfl, rfl, rfl, by decide +kernel, rfl, by decide +kernel, by decide +kernel⟩
def g__law_leaf : UEnv → Store → R Fl := sSeq (sSet 1 (dCall F__law_some (dCons (dName 0) (dCons (dLst (dCons (dUn oNeg (dC (.int 1))) (dCons (dC (.int 0)) (dCons (dC (.int 1)) (dCons (dC (.int 126)) (dCons (dC (.int 127)) (dCons (dC (.int 128)) (dCons (dC (.int 16381)) (dCons (dC (.int 16382)) (dCons (dC (.int 16383)) (dCons (dC (.int 4294967295)) (dCons (dC (.int 4294967294)) (dCons (dC (.int 2097150)) (dCons (dC (.int 2097151)) (dCons (dCall F__law_roll (dCons (dName 0) (dCons (dC (.int 4294967296)) (dNil)))) (dCons (dCall F__law_roll (dCons (dName 0) (dCons (dC (.int 300)) (dNil)))) (dNil))))))))))))))))) (dNil))))) (sSeq (sSet 2 (dCall F__law_some (dCons (dName 0) (dCons (dLst (dCons (dC (.str "")) (dCons (dC (.str "a")) (dCons (dC (.str "z9")) (dCons (dC (.str "0")) (dCons (dC (.str "policylimits")) (dCons (dC (.str "abcdefghij0123456789")) (dCons (dC (.str "aa")) (dCons (dC (.str "a0")) (dNil)))))))))) (dNil))))) (sRet (dCall F__law_some (dCons (dName 0) (dCons (dLst (dCons (dName 1) (dCons (dName 1) (dCons (dName 1) (dCons (dName 2) (dCons (dName 2) (dCons (dC (.bl true)) (dCons (dC (.bl false)) (dNil))))))))) (dNil))))))
def F__law_leaf : FnZ := runB 3 (g__law_leaf)
theorem t__law_leaf [TB] {P : Program} {w : World} {K : PySem.W.Frag} {mg : Str → Option Value} {base : Heap} (T : Txt w K mg) (c__law_some : CalZ P w K mg base 2 "_law_some" 2 F__law_some) (c__law_roll : CalZ P w K mg base 1 "_law_roll" 2 F__law_roll) : CalZ P w K mg base 3 "_law_leaf" 1 F__law_leaf :=
  (T.d__law_leaf.cal (k := 2) (N := N__law_leaf) sc__law_leaf (fun f cdv A outer s H E hr => (zb_cons (zs_set (i := 1) sc__law_leaf.nd (ze_call c__law_some hr (za_cons (ze_name (i := 0)) (za_cons (ze_lst (za_cons (ze_neg ze_int) (za_cons ze_int (za_cons ze_int (za_cons ze_int (za_cons ze_int (za_cons ze_int (za_cons ze_int (za_cons ze_int (za_cons ze_int (za_cons ze_int (za_cons ze_int (za_cons ze_int (za_cons ze_int (za_cons (ze_call c__law_roll hr (za_cons (ze_name (i := 0)) (za_cons ze_int za_nil))) (za_cons (ze_call c__law_roll hr (za_cons (ze_name (i := 0)) (za_cons ze_int za_nil))) za_nil)))))))))))))))) za_nil)))) (zb_cons (zs_set (i := 2) sc__law_leaf.nd (ze_call c__law_some hr (za_cons (ze_name (i := 0)) (za_cons (ze_lst (za_cons ze_str (za_cons ze_str (za_cons ze_str (za_cons ze_str (za_cons ze_str (za_cons ze_str (za_cons ze_str (za_cons ze_str za_nil))))))))) za_nil)))) (zb_one (zs_ret (ze_call c__law_some hr (za_cons (ze_name (i := 0)) (za_cons (ze_lst (za_cons (ze_name (i := 1)) (za_cons (ze_name (i := 1)) (za_cons (ze_name (i := 1)) (za_cons (ze_name (i := 2)) (za_cons (ze_name (i := 2)) (za_cons ze_bl (za_cons ze_bl za_nil)))))))) za_nil)))))))))
/-! _law_value -/
abbrev s__law_value : Stmt := topS 47
abbrev N__law_value : List Str := ["_law_cup_here", "_law_deep_here", "_law_turn"]
theorem sc__law_value : FnScope N__law_value ["_law_cup_here", "_law_deep_here"] (defScope s__law_value) := ⟨rfl, rfl, rfl, by decide +kernel, rfl, by decide +kernel, by decide +kernel⟩
def E__law_value_1 (self : FnZ) : UEnv → Store → R U := dCall self (dCons (dName 0) (dCons (dBin oSub (dName 1) (dC (.int 1))) (dNil)))
def g__law_value (self : FnZ) : UEnv → Store → R Fl := sSeq (sIf (tOrZ (dTest (dBin oEq (dName 1) (dC (.int 0)))) (dTest (dBin oEq (dCall F__law_roll (dCons (dName 0) (dCons (dC (.int 3)) (dNil)))) (dC (.int 0))))) (sRet (dCall F__law_leaf (dCons (dName 0) (dNil)))) (sNext)) (sRet (dUn oTuple (dComp [2] (dRange1 (dCall F__law_some (dCons (dName 0) (dCons (dLst (dCons (dC (.int 0)) (dCons (dC (.int 1)) (dCons (dC (.int 2)) (dCons (dC (.int 2)) (dCons (dC (.int 3)) (dCons (dC (.int 4)) (dNil)))))))) (dNil))))) (ctName 2) cYes (E__law_value_1 self))))
def FF__law_value : Nat → FnZ
  | 0 => fun _ _ => .stuck
  | n + 1 => runB 3 (g__law_value (FF__law_value n))
abbrev F__law_value : FnZ := FF__law_value 6
theorem cc__law_value [TB] {P : Program} {w : World} {K : PySem.W.Frag} {mg : Str → Option Value} {base : Heap} (T : Txt w K mg) (c__law_leaf : CalZ P w K mg base 3 "_law_leaf" 1 F__law_leaf) (c__law_roll : CalZ P w K mg base 1 "_law_roll" 2 F__law_roll) (c__law_some : CalZ P w K mg base 2 "_law_some" 2 F__law_some) : ∀ n, CalZ P w K mg base (4 + n) "_law_value" 2 (FF__law_value n)
  | 0 => T.d__law_value.stuck _ _
  | n + 1 => (T.d__law_value.cal (k := 4 + n) (N := N__law_value) sc__law_value (fun f cdv A outer s H E hr => by
    have cself := cc__law_value (P := P) (base := base) T c__law_leaf c__law_roll c__law_some n
    exact (zb_cons (zs_if (ZW.zt (zw_or (zt_cmp (z_eq hr.units) (ze_name (i := 1)) ze_int) (zw_or1 (zt_cmp (z_eq hr.units) (ze_call c__law_roll hr (za_cons (ze_name (i := 0)) (za_cons ze_int za_nil)) (by omega)) ze_int)))) (zb_one (zs_ret (ze_call c__law_leaf hr (za_cons (ze_name (i := 0)) za_nil) (by omega)))) zb_nil) (zb_one (zs_ret (ze_ty1 b_tuple T.b_tuple (ze_lc (own := [("_law_turn", 2)]) (g := gName 2) rfl sc__law_value.nd (zi_range1 T.b_range (ze_call c__law_some hr (za_cons (ze_name (i := 0)) (za_cons (ze_lst (za_cons ze_int (za_cons ze_int (za_cons ze_int (za_cons ze_int (za_cons ze_int (za_cons ze_int za_nil))))))) za_nil)) (by omega))) (ct_name (by decide)) (fun _ _ _ _ _ => pg_name (i := 2) sc__law_value.nd rfl (by first | exact Or.inl rfl | exact Or.inr rfl)) (fun _ _ _ _ _ => (ze_call cself hr (za_cons (ze_name (i := 0)) (za_cons (ze_bin z_sub (ze_name (i := 1)) ze_int) za_nil)) (Nat.le_refl _))) (ok := show blkC N__law_value (defScope s__law_value) _ _ = true by decide +kernel))))))))
theorem t__law_value [TB] {P : Program} {w : World} {K : PySem.W.Frag} {mg : Str → Option Value} {base : Heap} (T : Txt w K mg) (c__law_leaf : CalZ P w K mg base 3 "_law_leaf" 1 F__law_leaf) (c__law_roll : CalZ P w K mg base 1 "_law_roll" 2 F__law_roll) (c__law_some : CalZ P w K mg base 2 "_law_some" 2 F__law_some) : CalZ P w K mg base 10 "_law_value" 2 F__law_value := cc__law_value T c__law_leaf c__law_roll c__law_some 6
/-! _law_deep -/
abbrev s__law_deep : Stmt := topS 48
abbrev N__law_deep : List Str := ["_law_many", "_law_found", "_law_turn"]
theorem sc__law_deep : FnScope N__law_deep ["_law_many"] (defScope s__law_deep) := ⟨rfl, rfl, rfl, by decide +kernel, rfl, by decide +kernel, by decide +kernel⟩
def B__law_deep_1 : UEnv → Store → R Fl := sSet 1 (dTup (dCons (dName 1) (dNil)))
def g__law_deep : UEnv → Store → R Fl := sSeq (sSet 1 (dTup (dNil))) (sSeq (sFor (dRange1 (dBin oSub (dName 0) (dC (.int 1)))) (gNm 2) (B__law_deep_1)) (sRet (dName 1)))
def F__law_deep : FnZ := runB 3 (g__law_deep)
theorem t__law_deep [TB] {P : Program} {w : World} {K : PySem.W.Frag} {mg : Str → Option Value} {base : Heap} (T : Txt w K mg)  : CalZ P w K mg base 1 "_law_deep" 1 F__law_deep :=
  (T.d__law_deep.cal (k := 0) (N := N__law_deep) sc__law_deep (fun f cdv A outer s H E hr => (zb_cons (zs_set (i := 1) sc__law_deep.nd (ze_tup za_nil)) (zb_cons (zs_for rfl (zi_range1 T.b_range (ze_bin z_sub (ze_name (i := 0)) ze_int)) (zg_name (i := 2) sc__law_deep.nd) (zb_one (zs_set (i := 1) sc__law_deep.nd (ze_tup (za_cons (ze_name (i := 1)) za_nil))))) (zb_one (zs_ret (ze_name (i := 1))))))))
/-! is_truth -/
abbrev s_is_truth : Stmt := topS 3
abbrev N_is_truth : List Str := ["value"]
theorem sc_is_truth : FnScope N_is_truth ["value"] (defScope s_is_truth) := ⟨rfl, rfl, rfl, by decide +kernel, rfl, by decide +kernel, by decide +kernel⟩
def g_is_truth : UEnv → Store → R Fl := sRet (dIsi "bool" (dName 0))
def F_is_truth : FnZ := runB 1 (g_is_truth)
theorem t_is_truth [TB] {P : Program} {w : World} {K : PySem.W.Frag} {mg : Str → Option Value} {base : Heap} (T : Txt w K mg)  : CalZ P w K mg base 1 "is_truth" 1 F_is_truth :=
  (T.d_is_truth.cal (k := 0) (N := N_is_truth) sc_is_truth (fun f cdv A outer s H E hr => (zb_one (zs_ret (ze_isi isi_bool T.b_isinstance T.b_bool (ze_name (i := 0)))))))
/-! is_integer -/
abbrev s_is_integer : Stmt := topS 2
abbrev N_is_integer : List Str := ["value", "low", "high"]
theorem sc_is_integer : FnScope N_is_integer ["value", "low", "high"] (defScope s_is_integer) := ⟨rfl, rfl, rfl, by decide +kernel, rfl, by decide +kernel, by decide +kernel⟩
def g_is_integer : UEnv → Store → R Fl := sRet (dAnd (dIsi "int" (dName 0)) (dAnd (dNot (dIsi "bool" (dName 0))) (dChain oLe oLe (dName 1) (dName 0) (dName 2))))
def F_is_integer : FnZ := runB 3 (g_is_integer)
theorem t_is_integer [TB] {P : Program} {w : World} {K : PySem.W.Frag} {mg : Str → Option Value} {base : Heap} (T : Txt w K mg)  : CalZ P w K mg base 1 "is_integer" 3 F_is_integer :=
  (T.d_is_integer.cal (k := 0) (N := N_is_integer) sc_is_integer (fun f cdv A outer s H E hr => (zb_one (zs_ret (ze_and (ze_isi isi_int T.b_isinstance T.b_int (ze_name (i := 0))) (ze_and (ze_not (ze_isi isi_bool T.b_isinstance T.b_bool (ze_name (i := 0)))) (ze_one (ze_chain z_le z_le (ze_name (i := 1)) (ze_name (i := 0)) (ze_name (i := 2))))))))))
/-! are_signs -/
abbrev s_are_signs : Stmt := topS 5
abbrev N_are_signs : List Str := ["value", "least", "most", "sign"]
theorem sc_are_signs : FnScope N_are_signs ["value", "least", "most"] (defScope s_are_signs) := ⟨rfl, rfl, rfl, by decide +kernel, rfl, by decide +kernel, by decide +kernel⟩
def B_are_signs_1 : UEnv → Store → R Fl := sIf (dTest (dBin oNotIn (dName 3) (dC u_SIGNS))) (sRet (dC (.bl false))) (sNext)
def g_are_signs : UEnv → Store → R Fl := sSeq (sIf (tOrZ (tNotZ (dTru (dIsi "str" (dName 0)))) (tNotZ (dTest (dChain oLe oLe (dName 1) (dUn oLen (dName 0)) (dName 2))))) (sRet (dC (.bl false))) (sNext)) (sSeq (sFor (dIter (dName 0)) (gNm 3) (B_are_signs_1)) (sRet (dC (.bl true))))
def F_are_signs : FnZ := runB 4 (g_are_signs)
theorem t_are_signs [TB] {P : Program} {w : World} {K : PySem.W.Frag} {mg : Str → Option Value} {base : Heap} (T : Txt w K mg)  : CalZ P w K mg base 1 "are_signs" 3 F_are_signs :=
  (T.d_are_signs.cal (k := 0) (N := N_are_signs) sc_are_signs (fun f cdv A outer s H E hr => (zb_cons (zs_if (ZW.zt (zw_or (zt_not (zt_truth (ze_isi isi_str T.b_isinstance T.b_str (ze_name (i := 0))))) (zw_or1 (zt_not (zt_chain z_le z_le (ze_name (i := 1)) (ze_b1 b_len T.b_len (ze_name (i := 0))) (ze_name (i := 2))))))) (zb_one (zs_ret ze_bl)) zb_nil) (zb_cons (zs_for rfl (zi_any (ze_name (i := 0))) (zg_name (i := 3) sc_are_signs.nd) (zb_one (zs_if (zt_cmp (z_notin (room65 hr)) (ze_name (i := 3)) (ze_glob T.g_SIGNS)) (zb_one (zs_ret ze_bl)) zb_nil))) (zb_one (zs_ret ze_bl))))))
/-! is_tuple -/
abbrev s_is_tuple : Stmt := topS 4
abbrev N_is_tuple : List Str := ["value", "least", "most"]
theorem sc_is_tuple : FnScope N_is_tuple ["value", "least", "most"] (defScope s_is_tuple) := ⟨rfl, rfl, rfl, by decide +kernel, rfl, by decide +kernel, by decide +kernel⟩
def g_is_tuple : UEnv → Store → R Fl := sRet (dAnd (dIsi "tuple" (dName 0)) (dChain oLe oLe (dName 1) (dUn oLen (dName 0)) (dName 2)))
def F_is_tuple : FnZ := runB 3 (g_is_tuple)
theorem t_is_tuple [TB] {P : Program} {w : World} {K : PySem.W.Frag} {mg : Str → Option Value} {base : Heap} (T : Txt w K mg)  : CalZ P w K mg base 1 "is_tuple" 3 F_is_tuple :=
  (T.d_is_tuple.cal (k := 0) (N := N_is_tuple) sc_is_tuple (fun f cdv A outer s H E hr => (zb_one (zs_ret (ze_and (ze_isi isi_tuple T.b_isinstance T.b_tuple (ze_name (i := 0))) (ze_one (ze_chain z_le z_le (ze_name (i := 1)) (ze_b1 b_len T.b_len (ze_name (i := 0))) (ze_name (i := 2)))))))))
/-! is_value_within -/
abbrev s_is_value_within : Stmt := topS 26
abbrev N_is_value_within : List Str := ["value", "deep", "item"]
theorem sc_is_value_within : FnScope N_is_value_within ["value", "deep"] (defScope s_is_value_within) := ⟨rfl, rfl, rfl, by decide +kernel, rfl, by decide +kernel, by decide +kernel⟩
def B_is_value_within_1 (self : FnZ) : UEnv → Store → R Fl := sIf (tNotZ (dTru (dCall self (dCons (dName 2) (dCons (dBin oSub (dName 1) (dC (.int 1))) (dNil)))))) (sRet (dC (.bl false))) (sNext)
def g_is_value_within (self : FnZ) : UEnv → Store → R Fl := sSeq (sIf (dTru (dIsi "tuple" (dName 0))) (sSeq (sIf (tOrZ (dTest (dBin oEq (dName 1) (dC (.int 0)))) (tNotZ (dTru (dCall F_is_tuple (dCons (dName 0) (dCons (dC (.int 0)) (dCons (dC u_MOST_ITEMS) (dNil)))))))) (sRet (dC (.bl false))) (sNext)) (sSeq (sFor (dIter (dName 0)) (gNm 2) (B_is_value_within_1 self)) (sRet (dC (.bl true))))) (sNext)) (sRet (dOr (dCall F_is_truth (dCons (dName 0) (dNil))) (dOr (dCall F_is_integer (dCons (dName 0) (dCons (dUn oNeg (dC (.int 1))) (dCons (dC u_MOST_VALUE) (dNil))))) (dCall F_are_signs (dCons (dName 0) (dCons (dC (.int 0)) (dCons (dC u_MOST_SIGNS) (dNil))))))))
def FF_is_value_within : Nat → FnZ
  | 0 => fun _ _ => .stuck
  | n + 1 => runB 3 (g_is_value_within (FF_is_value_within n))
abbrev F_is_value_within : FnZ := FF_is_value_within 14
theorem cc_is_value_within [TB] {P : Program} {w : World} {K : PySem.W.Frag} {mg : Str → Option Value} {base : Heap} (T : Txt w K mg) (c_is_truth : CalZ P w K mg base 1 "is_truth" 1 F_is_truth) (c_is_integer : CalZ P w K mg base 1 "is_integer" 3 F_is_integer) (c_are_signs : CalZ P w K mg base 1 "are_signs" 3 F_are_signs) (c_is_tuple : CalZ P w K mg base 1 "is_tuple" 3 F_is_tuple) : ∀ n, CalZ P w K mg base (2 + n) "is_value_within" 2 (FF_is_value_within n)
  | 0 => T.d_is_value_within.stuck _ _
  | n + 1 => (T.d_is_value_within.cal (k := 2 + n) (N := N_is_value_within) sc_is_value_within (fun f cdv A outer s H E hr => by
    have cself := cc_is_value_within (P := P) (base := base) T c_is_truth c_is_integer c_are_signs c_is_tuple n
    exact (zb_cons (zs_if (zt_truth (ze_isi isi_tuple T.b_isinstance T.b_tuple (ze_name (i := 0)))) (zb_cons (zs_if (ZW.zt (zw_or (zt_cmp (z_eq hr.units) (ze_name (i := 1)) ze_int) (zw_or1 (zt_not (zt_truth (ze_call c_is_tuple hr (za_cons (ze_name (i := 0)) (za_cons ze_int (za_cons (ze_glob T.g_MOST_ITEMS) za_nil))) (by omega))))))) (zb_one (zs_ret ze_bl)) zb_nil) (zb_cons (zs_for rfl (zi_any (ze_name (i := 0))) (zg_name (i := 2) sc_is_value_within.nd) (zb_one (zs_if (zt_not (zt_truth (ze_call cself hr (za_cons (ze_name (i := 2)) (za_cons (ze_bin z_sub (ze_name (i := 1)) ze_int) za_nil)) (Nat.le_refl _)))) (zb_one (zs_ret ze_bl)) zb_nil))) (zb_one (zs_ret ze_bl)))) zb_nil) (zb_one (zs_ret (ze_or (ze_call c_is_truth hr (za_cons (ze_name (i := 0)) za_nil) (by omega)) (ze_or (ze_call c_is_integer hr (za_cons (ze_name (i := 0)) (za_cons (ze_neg ze_int) (za_cons (ze_glob T.g_MOST_VALUE) za_nil))) (by omega)) (ze_one (ze_call c_are_signs hr (za_cons (ze_name (i := 0)) (za_cons ze_int (za_cons (ze_glob T.g_MOST_SIGNS) za_nil))) (by omega))))))))))
theorem t_is_value_within [TB] {P : Program} {w : World} {K : PySem.W.Frag} {mg : Str → Option Value} {base : Heap} (T : Txt w K mg) (c_is_truth : CalZ P w K mg base 1 "is_truth" 1 F_is_truth) (c_is_integer : CalZ P w K mg base 1 "is_integer" 3 F_is_integer) (c_are_signs : CalZ P w K mg base 1 "are_signs" 3 F_are_signs) (c_is_tuple : CalZ P w K mg base 1 "is_tuple" 3 F_is_tuple) : CalZ P w K mg base 16 "is_value_within" 2 F_is_value_within := cc_is_value_within T c_is_truth c_is_integer c_are_signs c_is_tuple 14
/-! is_value -/
abbrev s_is_value : Stmt := topS 27
abbrev N_is_value : List Str := ["value"]
theorem sc_is_value : FnScope N_is_value ["value"] (defScope s_is_value) := ⟨rfl, rfl, rfl, by decide +kernel, rfl, by decide +kernel, by decide +kernel⟩
def g_is_value : UEnv → Store → R Fl := sRet (dCall F_is_value_within (dCons (dName 0) (dCons (dC u_MOST_DEEP) (dNil))))
def F_is_value : FnZ := runB 1 (g_is_value)
theorem t_is_value [TB] {P : Program} {w : World} {K : PySem.W.Frag} {mg : Str → Option Value} {base : Heap} (T : Txt w K mg) (c_is_value_within : CalZ P w K mg base 16 "is_value_within" 2 F_is_value_within) : CalZ P w K mg base 17 "is_value" 1 F_is_value :=
  (T.d_is_value.cal (k := 16) (N := N_is_value) sc_is_value (fun f cdv A outer s H E hr => (zb_one (zs_ret (ze_call c_is_value_within hr (za_cons (ze_name (i := 0)) (za_cons (ze_glob T.g_MOST_DEEP) za_nil)))))))
/-! check_value -/
abbrev s_check_value : Stmt := topS 28
abbrev N_check_value : List Str := ["value"]
theorem sc_check_value : FnScope N_check_value ["value"] (defScope s_check_value) := ⟨rfl, rfl, rfl, by decide +kernel, rfl, by decide +kernel, by decide +kernel⟩
def g_check_value : UEnv → Store → R Fl := sIf (tNotZ (dTru (dCall F_is_value (dCons (dName 0) (dNil))))) (sRaise "InvalidValue") (sNext)
def F_check_value : FnZ := runB 1 (g_check_value)
theorem t_check_value [TB] {P : Program} {w : World} {K : PySem.W.Frag} {mg : Str → Option Value} {base : Heap} (T : Txt w K mg) (c_is_value : CalZ P w K mg base 17 "is_value" 1 F_is_value) : CalZ P w K mg base 18 "check_value" 1 F_check_value :=
  (T.d_check_value.cal (k := 17) (N := N_check_value) sc_check_value (fun f cdv A outer s H E hr => (zb_one (zs_if (zt_not (zt_truth (ze_call c_is_value hr (za_cons (ze_name (i := 0)) za_nil)))) (zb_one (zs_raise T.x_InvalidValue)) zb_nil))))
/-! with_item_at -/
abbrev s_with_item_at : Stmt := topS 36
abbrev N_with_item_at : List Str := ["value", "path", "item", "at"]
theorem sc_with_item_at : FnScope N_with_item_at ["value", "path", "item"] (defScope s_with_item_at) := ⟨rfl, rfl, rfl, by decide +kernel, rfl, by decide +kernel, by decide +kernel⟩
def g_with_item_at (self : FnZ) : UEnv → Store → R Fl := sSeq (sIf (dTest (dBin oEq (dName 1) (dTup (dNil)))) (sRet (dName 2)) (sNext)) (sSeq (sSet 3 (dBin ixU (dName 1) (dC (.int 0)))) (sRet (dBin oAdd (dBin oAdd (dSlice (dName 0) (pNone) (pSome (dName 3))) (dTup (dCons (dCall self (dCons (dBin ixU (dName 0) (dName 3)) (dCons (dSlice (dName 1) (pSome (dC (.int 1))) (pNone)) (dCons (dName 2) (dNil))))) (dNil)))) (dSlice (dName 0) (pSome (dBin oAdd (dName 3) (dC (.int 1)))) (pNone)))))
def FF_with_item_at : Nat → FnZ
  | 0 => fun _ _ => .stuck
  | n + 1 => runB 4 (g_with_item_at (FF_with_item_at n))
abbrev F_with_item_at : FnZ := FF_with_item_at 14
theorem cc_with_item_at [TB] {P : Program} {w : World} {K : PySem.W.Frag} {mg : Str → Option Value} {base : Heap} (T : Txt w K mg)  : ∀ n, CalZ P w K mg base (1 + n) "with_item_at" 3 (FF_with_item_at n)
  | 0 => T.d_with_item_at.stuck _ _
  | n + 1 => (T.d_with_item_at.cal (k := 1 + n) (N := N_with_item_at) sc_with_item_at (fun f cdv A outer s H E hr => by
    have cself := cc_with_item_at (P := P) (base := base) T  n
    exact (zb_cons (zs_if (zt_cmp (z_eq hr.units) (ze_name (i := 1)) (ze_tup za_nil)) (zb_one (zs_ret (ze_name (i := 2)))) zb_nil) (zb_cons (zs_set (i := 3) sc_with_item_at.nd (ze_ix (room65 hr) (ze_name (i := 1)) ze_int)) (zb_one (zs_ret (ze_bin z_add (ze_bin z_add (ze_slice (ze_name (i := 0)) zo_none (zo_some (ze_name (i := 3)))) (ze_tup (za_cons (ze_call cself hr (za_cons (ze_ix (room65 hr) (ze_name (i := 0)) (ze_name (i := 3))) (za_cons (ze_slice (ze_name (i := 1)) (zo_some ze_int) zo_none) (za_cons (ze_name (i := 2)) za_nil))) (Nat.le_refl _)) za_nil))) (ze_slice (ze_name (i := 0)) (zo_some (ze_bin z_add (ze_name (i := 3)) ze_int)) zo_none))))))))
theorem t_with_item_at [TB] {P : Program} {w : World} {K : PySem.W.Frag} {mg : Str → Option Value} {base : Heap} (T : Txt w K mg)  : CalZ P w K mg base 15 "with_item_at" 3 F_with_item_at := cc_with_item_at T  14
/-! is_path_of -/
abbrev s_is_path_of : Stmt := topS 33
abbrev N_is_path_of : List Str := ["value", "path", "index"]
theorem sc_is_path_of : FnScope N_is_path_of ["value", "path"] (defScope s_is_path_of) := ⟨rfl, rfl, rfl, by decide +kernel, rfl, by decide +kernel, by decide +kernel⟩
def B_is_path_of_1 : UEnv → Store → R Fl := sSeq (sIf (tOrZ (tNotZ (dTru (dIsi "tuple" (dName 0)))) (tNotZ (dTru (dCall F_is_integer (dCons (dName 2) (dCons (dC (.int 0)) (dCons (dBin oSub (dUn oLen (dName 0)) (dC (.int 1))) (dNil)))))))) (sRet (dC (.bl false))) (sNext)) (sSet 0 (dBin ixU (dName 0) (dName 2)))
def g_is_path_of : UEnv → Store → R Fl := sSeq (sIf (tNotZ (dTru (dIsi "tuple" (dName 1)))) (sRet (dC (.bl false))) (sNext)) (sSeq (sFor (dIter (dName 1)) (gNm 2) (B_is_path_of_1)) (sRet (dC (.bl true))))
def F_is_path_of : FnZ := runB 3 (g_is_path_of)
theorem t_is_path_of [TB] {P : Program} {w : World} {K : PySem.W.Frag} {mg : Str → Option Value} {base : Heap} (T : Txt w K mg) (c_is_integer : CalZ P w K mg base 1 "is_integer" 3 F_is_integer) : CalZ P w K mg base 2 "is_path_of" 2 F_is_path_of :=
  (T.d_is_path_of.cal (k := 1) (N := N_is_path_of) sc_is_path_of (fun f cdv A outer s H E hr => (zb_cons (zs_if (zt_not (zt_truth (ze_isi isi_tuple T.b_isinstance T.b_tuple (ze_name (i := 1))))) (zb_one (zs_ret ze_bl)) zb_nil) (zb_cons (zs_for rfl (zi_any (ze_name (i := 1))) (zg_name (i := 2) sc_is_path_of.nd) (zb_cons (zs_if (ZW.zt (zw_or (zt_not (zt_truth (ze_isi isi_tuple T.b_isinstance T.b_tuple (ze_name (i := 0))))) (zw_or1 (zt_not (zt_truth (ze_call c_is_integer hr (za_cons (ze_name (i := 2)) (za_cons ze_int (za_cons (ze_bin z_sub (ze_b1 b_len T.b_len (ze_name (i := 0))) ze_int) za_nil))))))))) (zb_one (zs_ret ze_bl)) zb_nil) (zb_one (zs_set (i := 0) sc_is_path_of.nd (ze_ix (room65 hr) (ze_name (i := 0)) (ze_name (i := 2))))))) (zb_one (zs_ret ze_bl))))))
/-! are_single_changes -/
abbrev s_are_single_changes : Stmt := topS 34
abbrev N_are_single_changes : List Str := ["value", "changes", "change"]
theorem sc_are_single_changes : FnScope N_are_single_changes ["value", "changes"] (defScope s_are_single_changes) := ⟨rfl, rfl, rfl, by decide +kernel, rfl, by decide +kernel, by decide +kernel⟩
def B_are_single_changes_1 : UEnv → Store → R Fl := sIf (tOrZ (tNotZ (dTru (dCall F_is_tuple (dCons (dName 2) (dCons (dC (.int 2)) (dCons (dC (.int 2)) (dNil))))))) (tOrZ (tNotZ (dTru (dCall F_is_path_of (dCons (dName 0) (dCons (dBin ixU (dName 2) (dC (.int 0))) (dNil)))))) (tNotZ (dTru (dCall F_is_value (dCons (dBin ixU (dName 2) (dC (.int 1))) (dNil))))))) (sRet (dC (.bl false))) (sNext)
def g_are_single_changes : UEnv → Store → R Fl := sSeq (sIf (tNotZ (dTru (dCall F_is_tuple (dCons (dName 1) (dCons (dC (.int 0)) (dCons (dC u_MOST_CHANGES) (dNil))))))) (sRet (dC (.bl false))) (sNext)) (sSeq (sFor (dIter (dName 1)) (gNm 2) (B_are_single_changes_1)) (sRet (dC (.bl true))))
def F_are_single_changes : FnZ := runB 3 (g_are_single_changes)
theorem t_are_single_changes [TB] {P : Program} {w : World} {K : PySem.W.Frag} {mg : Str → Option Value} {base : Heap} (T : Txt w K mg) (c_is_tuple : CalZ P w K mg base 1 "is_tuple" 3 F_is_tuple) (c_is_path_of : CalZ P w K mg base 2 "is_path_of" 2 F_is_path_of) (c_is_value : CalZ P w K mg base 17 "is_value" 1 F_is_value) : CalZ P w K mg base 18 "are_single_changes" 2 F_are_single_changes :=
  (T.d_are_single_changes.cal (k := 17) (N := N_are_single_changes) sc_are_single_changes (fun f cdv A outer s H E hr => (zb_cons (zs_if (zt_not (zt_truth (ze_call c_is_tuple hr (za_cons (ze_name (i := 1)) (za_cons ze_int (za_cons (ze_glob T.g_MOST_CHANGES) za_nil)))))) (zb_one (zs_ret ze_bl)) zb_nil) (zb_cons (zs_for rfl (zi_any (ze_name (i := 1))) (zg_name (i := 2) sc_are_single_changes.nd) (zb_one (zs_if (ZW.zt (zw_or (zt_not (zt_truth (ze_call c_is_tuple hr (za_cons (ze_name (i := 2)) (za_cons ze_int (za_cons ze_int za_nil)))))) (zw_or (zt_not (zt_truth (ze_call c_is_path_of hr (za_cons (ze_name (i := 0)) (za_cons (ze_ix (room65 hr) (ze_name (i := 2)) ze_int) za_nil))))) (zw_or1 (zt_not (zt_truth (ze_call c_is_value hr (za_cons (ze_ix (room65 hr) (ze_name (i := 2)) ze_int) za_nil)))))))) (zb_one (zs_ret ze_bl)) zb_nil))) (zb_one (zs_ret ze_bl))))))
/-! is_ascending -/
abbrev s_is_ascending : Stmt := topS 6
abbrev N_is_ascending : List Str := ["items", "at"]
theorem sc_is_ascending : FnScope N_is_ascending ["items"] (defScope s_is_ascending) := ⟨rfl, rfl, rfl, by decide +kernel, rfl, by decide +kernel, by decide +kernel⟩
def B_is_ascending_1 : UEnv → Store → R Fl := sIf (tNotZ (dTest (dBin oLt (dBin ixU (dName 0) (dBin oSub (dName 1) (dC (.int 1)))) (dBin ixU (dName 0) (dName 1))))) (sRet (dC (.bl false))) (sNext)
def g_is_ascending : UEnv → Store → R Fl := sSeq (sFor (dRange2 (dC (.int 1)) (dUn oLen (dName 0))) (gNm 1) (B_is_ascending_1)) (sRet (dC (.bl true)))
def F_is_ascending : FnZ := runB 2 (g_is_ascending)
theorem t_is_ascending [TB] {P : Program} {w : World} {K : PySem.W.Frag} {mg : Str → Option Value} {base : Heap} (T : Txt w K mg)  : CalZ P w K mg base 1 "is_ascending" 1 F_is_ascending :=
  (T.d_is_ascending.cal (k := 0) (N := N_is_ascending) sc_is_ascending (fun f cdv A outer s H E hr => (zb_cons (zs_for rfl (zi_range2 T.b_range ze_int (ze_b1 b_len T.b_len (ze_name (i := 0)))) (zg_name (i := 1) sc_is_ascending.nd) (zb_one (zs_if (zt_not (zt_cmp (z_lt hr.units) (ze_ix (room65 hr) (ze_name (i := 0)) (ze_bin z_sub (ze_name (i := 1)) ze_int)) (ze_ix (room65 hr) (ze_name (i := 0)) (ze_name (i := 1))))) (zb_one (zs_ret ze_bl)) zb_nil))) (zb_one (zs_ret ze_bl)))))
/-! are_apart -/
abbrev s_are_apart : Stmt := topS 35
abbrev N_are_apart : List Str := ["paths", "at"]
theorem sc_are_apart : FnScope N_are_apart ["paths"] (defScope s_are_apart) := ⟨rfl, rfl, rfl, by decide +kernel, rfl, by decide +kernel, by decide +kernel⟩
def B_are_apart_1 : UEnv → Store → R Fl := sIf (dTest (dBin oEq (dSlice (dBin ixU (dName 0) (dName 1)) (pNone) (pSome (dUn oLen (dBin ixU (dName 0) (dBin oSub (dName 1) (dC (.int 1))))))) (dBin ixU (dName 0) (dBin oSub (dName 1) (dC (.int 1)))))) (sRet (dC (.bl false))) (sNext)
def g_are_apart : UEnv → Store → R Fl := sSeq (sFor (dRange2 (dC (.int 1)) (dUn oLen (dName 0))) (gNm 1) (B_are_apart_1)) (sRet (dCall F_is_ascending (dCons (dName 0) (dNil))))
def F_are_apart : FnZ := runB 2 (g_are_apart)
theorem t_are_apart [TB] {P : Program} {w : World} {K : PySem.W.Frag} {mg : Str → Option Value} {base : Heap} (T : Txt w K mg) (c_is_ascending : CalZ P w K mg base 1 "is_ascending" 1 F_is_ascending) : CalZ P w K mg base 2 "are_apart" 1 F_are_apart :=
  (T.d_are_apart.cal (k := 1) (N := N_are_apart) sc_are_apart (fun f cdv A outer s H E hr => (zb_cons (zs_for rfl (zi_range2 T.b_range ze_int (ze_b1 b_len T.b_len (ze_name (i := 0)))) (zg_name (i := 1) sc_are_apart.nd) (zb_one (zs_if (zt_cmp (z_eq hr.units) (ze_slice (ze_ix (room65 hr) (ze_name (i := 0)) (ze_name (i := 1))) zo_none (zo_some (ze_b1 b_len T.b_len (ze_ix (room65 hr) (ze_name (i := 0)) (ze_bin z_sub (ze_name (i := 1)) ze_int))))) (ze_ix (room65 hr) (ze_name (i := 0)) (ze_bin z_sub (ze_name (i := 1)) ze_int))) (zb_one (zs_ret ze_bl)) zb_nil))) (zb_one (zs_ret (ze_call c_is_ascending hr (za_cons (ze_name (i := 0)) za_nil)))))))
/-! changed_value -/
abbrev s_changed_value : Stmt := topS 37
abbrev N_changed_value : List Str := ["value", "changes", "changed", "path", "item", "change"]
theorem sc_changed_value : FnScope N_changed_value ["value", "changes"] (defScope s_changed_value) := ⟨rfl, rfl, rfl, by decide +kernel, rfl, by decide +kernel, by decide +kernel⟩
def B_changed_value_1 : UEnv → Store → R Fl := sSet 2 (dCall F_with_item_at (dCons (dName 2) (dCons (dName 3) (dCons (dName 4) (dNil)))))
def E_changed_value_2 : UEnv → Store → R U := dBin ixU (dName 5) (dC (.int 0))
def g_changed_value : UEnv → Store → R Fl := sSeq (sExpr (dCall F_check_value (dCons (dName 0) (dNil)))) (sSeq (sIf (tOrZ (tNotZ (dTru (dCall F_are_single_changes (dCons (dName 0) (dCons (dName 1) (dNil)))))) (tNotZ (dTru (dCall F_are_apart (dCons (dComp [5] (dIter (dName 1)) (ctName 5) cYes (E_changed_value_2)) (dNil)))))) (sRaise "InvalidChange") (sNext)) (sSeq (sSet 2 (dName 0)) (sSeq (sFor (dIter (dName 1)) (gTp 2 (gsCons (gNm 3) (gsCons (gNm 4) (gsNil)))) (B_changed_value_1)) (sSeq (sIf (tNotZ (dTru (dCall F_is_value (dCons (dName 2) (dNil))))) (sRaise "InvalidChange") (sNext)) (sRet (dName 2))))))
def F_changed_value : FnZ := runB 6 (g_changed_value)
theorem t_changed_value [TB] {P : Program} {w : World} {K : PySem.W.Frag} {mg : Str → Option Value} {base : Heap} (T : Txt w K mg) (c_check_value : CalZ P w K mg base 18 "check_value" 1 F_check_value) (c_with_item_at : CalZ P w K mg base 15 "with_item_at" 3 F_with_item_at) (c_is_value : CalZ P w K mg base 17 "is_value" 1 F_is_value) (c_are_single_changes : CalZ P w K mg base 18 "are_single_changes" 2 F_are_single_changes) (c_are_apart : CalZ P w K mg base 2 "are_apart" 1 F_are_apart) : CalZ P w K mg base 19 "changed_value" 2 F_changed_value :=
  (T.d_changed_value.cal (k := 18) (N := N_changed_value) sc_changed_value (fun f cdv A outer s H E hr => (zb_cons (zs_expr (ze_call c_check_value hr (za_cons (ze_name (i := 0)) za_nil))) (zb_cons (zs_if (ZW.zt (zw_or (zt_not (zt_truth (ze_call c_are_single_changes hr (za_cons (ze_name (i := 0)) (za_cons (ze_name (i := 1)) za_nil))))) (zw_or1 (zt_not (zt_truth (ze_call c_are_apart hr (za_cons (ze_lc (own := [("change", 5)]) (g := gName 5) rfl sc_changed_value.nd (zi_any (ze_name (i := 1))) (ct_name (by decide)) (fun _ _ _ _ _ => pg_name (i := 5) sc_changed_value.nd rfl (by first | exact Or.inl rfl | exact Or.inr rfl)) (fun _ _ _ _ _ => (ze_ix (room65 hr) (ze_name (i := 5)) ze_int)) (ok := show blkC N_changed_value (defScope s_changed_value) _ _ = true by decide +kernel)) za_nil))))))) (zb_one (zs_raise T.x_InvalidChange)) zb_nil) (zb_cons (zs_set (i := 2) sc_changed_value.nd (ze_name (i := 0))) (zb_cons (zs_for rfl (zi_any (ze_name (i := 1))) (zg_tup (n := 2) rfl (zgs_cons (zg_name (i := 3) sc_changed_value.nd) (zgs_cons (zg_name (i := 4) sc_changed_value.nd) zgs_nil))) (zb_one (zs_set (i := 2) sc_changed_value.nd (ze_call c_with_item_at hr (za_cons (ze_name (i := 2)) (za_cons (ze_name (i := 3)) (za_cons (ze_name (i := 4)) za_nil))))))) (zb_cons (zs_if (zt_not (zt_truth (ze_call c_is_value hr (za_cons (ze_name (i := 2)) za_nil)))) (zb_one (zs_raise T.x_InvalidChange)) zb_nil) (zb_one (zs_ret (ze_name (i := 2)))))))))))
/-! _law_put -/
abbrev s__law_put : Stmt := topS 51
abbrev N__law_put : List Str := ["_law_value_here", "_law_path", "_law_fresh"]
theorem sc__law_put : FnScope N__law_put ["_law_value_here", "_law_path", "_law_fresh"] (defScope s__law_put) := ⟨rfl, rfl, rfl, by decide +kernel, rfl, by decide +kernel, by decide +kernel⟩
def g__law_put (self : FnZ) : UEnv → Store → R Fl := sSeq (sIf (dTest (dBin oEq (dName 1) (dTup (dNil)))) (sRet (dName 2)) (sNext)) (sRet (dBin oAdd (dBin oAdd (dSlice (dName 0) (pNone) (pSome (dBin ixU (dName 1) (dC (.int 0))))) (dTup (dCons (dCall self (dCons (dBin ixU (dName 0) (dBin ixU (dName 1) (dC (.int 0)))) (dCons (dSlice (dName 1) (pSome (dC (.int 1))) (pNone)) (dCons (dName 2) (dNil))))) (dNil)))) (dSlice (dName 0) (pSome (dBin oAdd (dBin ixU (dName 1) (dC (.int 0))) (dC (.int 1)))) (pNone))))
def FF__law_put : Nat → FnZ
  | 0 => fun _ _ => .stuck
  | n + 1 => runB 3 (g__law_put (FF__law_put n))
abbrev F__law_put : FnZ := FF__law_put 12
theorem cc__law_put [TB] {P : Program} {w : World} {K : PySem.W.Frag} {mg : Str → Option Value} {base : Heap} (T : Txt w K mg)  : ∀ n, CalZ P w K mg base (1 + n) "_law_put" 3 (FF__law_put n)
  | 0 => T.d__law_put.stuck _ _
  | n + 1 => (T.d__law_put.cal (k := 1 + n) (N := N__law_put) sc__law_put (fun f cdv A outer s H E hr => by
    have cself := cc__law_put (P := P) (base := base) T  n
    exact (zb_cons (zs_if (zt_cmp (z_eq hr.units) (ze_name (i := 1)) (ze_tup za_nil)) (zb_one (zs_ret (ze_name (i := 2)))) zb_nil) (zb_one (zs_ret (ze_bin z_add (ze_bin z_add (ze_slice (ze_name (i := 0)) zo_none (zo_some (ze_ix (room65 hr) (ze_name (i := 1)) ze_int))) (ze_tup (za_cons (ze_call cself hr (za_cons (ze_ix (room65 hr) (ze_name (i := 0)) (ze_ix (room65 hr) (ze_name (i := 1)) ze_int)) (za_cons (ze_slice (ze_name (i := 1)) (zo_some ze_int) zo_none) (za_cons (ze_name (i := 2)) za_nil))) (Nat.le_refl _)) za_nil))) (ze_slice (ze_name (i := 0)) (zo_some (ze_bin z_add (ze_ix (room65 hr) (ze_name (i := 1)) ze_int) ze_int)) zo_none)))))))
theorem t__law_put [TB] {P : Program} {w : World} {K : PySem.W.Frag} {mg : Str → Option Value} {base : Heap} (T : Txt w K mg)  : CalZ P w K mg base 13 "_law_put" 3 F__law_put := cc__law_put T  12
/-! _law_paths -/
abbrev s__law_paths : Stmt := topS 52
abbrev N__law_paths : List Str := ["_law_value_here", "_law_found", "_law_at_here", "_law_item", "_law_path"]
theorem sc__law_paths : FnScope N__law_paths ["_law_value_here"] (defScope s__law_paths) := ⟨rfl, rfl, rfl, by decide +kernel, rfl, by decide +kernel, by decide +kernel⟩
def E__law_paths_1 : UEnv → Store → R U := dBin oAdd (dTup (dCons (dName 2) (dNil))) (dName 4)
def B__law_paths_2 (self : FnZ) : UEnv → Store → R Fl := sSet 1 (dBin oAdd (dName 1) (dComp [4] (dIter (dCall self (dCons (dName 3) (dNil)))) (ctName 4) cYes (E__law_paths_1)))
def g__law_paths (self : FnZ) : UEnv → Store → R Fl := sSeq (sSet 1 (dLst (dCons (dTup (dNil)) (dNil)))) (sSeq (sIf (dTru (dIsi "tuple" (dName 0))) (sFor (dEnum (dName 0)) (gTp 2 (gsCons (gNm 2) (gsCons (gNm 3) (gsNil)))) (B__law_paths_2 self)) (sNext)) (sRet (dName 1)))
def FF__law_paths : Nat → FnZ
  | 0 => fun _ _ => .stuck
  | n + 1 => runB 5 (g__law_paths (FF__law_paths n))
abbrev F__law_paths : FnZ := FF__law_paths 12
theorem cc__law_paths [TB] {P : Program} {w : World} {K : PySem.W.Frag} {mg : Str → Option Value} {base : Heap} (T : Txt w K mg)  : ∀ n, CalZ P w K mg base (1 + n) "_law_paths" 1 (FF__law_paths n)
  | 0 => T.d__law_paths.stuck _ _
  | n + 1 => (T.d__law_paths.cal (k := 1 + n) (N := N__law_paths) sc__law_paths (fun f cdv A outer s H E hr => by
    have cself := cc__law_paths (P := P) (base := base) T  n
    exact (zb_cons (zs_set (i := 1) sc__law_paths.nd (ze_lst (za_cons (ze_tup za_nil) za_nil))) (zb_cons (zs_if (zt_truth (ze_isi isi_tuple T.b_isinstance T.b_tuple (ze_name (i := 0)))) (zb_one (zs_for rfl (zi_enum T.b_enumerate (ze_name (i := 0))) (zg_tup (n := 2) rfl (zgs_cons (zg_name (i := 2) sc__law_paths.nd) (zgs_cons (zg_name (i := 3) sc__law_paths.nd) zgs_nil))) (zb_one (zs_set (i := 1) sc__law_paths.nd (ze_bin z_add (ze_name (i := 1)) (ze_lc (own := [("_law_path", 4)]) (g := gName 4) rfl sc__law_paths.nd (zi_any (ze_call cself hr (za_cons (ze_name (i := 3)) za_nil) (Nat.le_refl _))) (ct_name (by decide)) (fun _ _ _ _ _ => pg_name (i := 4) sc__law_paths.nd rfl (by first | exact Or.inl rfl | exact Or.inr rfl)) (fun _ _ _ _ _ => (ze_bin z_add (ze_tup (za_cons (ze_name (i := 2)) za_nil)) (ze_name (i := 4)))) (ok := show blkC N__law_paths (defScope s__law_paths) _ _ = true by decide +kernel))))))) zb_nil) (zb_one (zs_ret (ze_name (i := 1))))))))
theorem t__law_paths [TB] {P : Program} {w : World} {K : PySem.W.Frag} {mg : Str → Option Value} {base : Heap} (T : Txt w K mg)  : CalZ P w K mg base 13 "_law_paths" 1 F__law_paths := cc__law_paths T  12
/-! _law_same -/
abbrev s__law_same : Stmt := topS 45
abbrev N__law_same : List Str := ["_law_told", "_law_due_here"]
theorem sc__law_same : FnScope N__law_same ["_law_told", "_law_due_here"] (defScope s__law_same) := ⟨rfl, rfl, rfl, by decide +kernel, rfl, by decide +kernel, by decide +kernel⟩
def g__law_same : UEnv → Store → R Fl := sRet (dBin oEq (dUn oRepr (dName 0)) (dUn oRepr (dName 1)))
def F__law_same : FnZ := runB 2 (g__law_same)
theorem t__law_same [TB] {P : Program} {w : World} {K : PySem.W.Frag} {mg : Str → Option Value} {base : Heap} (T : Txt w K mg)  : CalG P w K mg base 1 "_law_same" 2 F__law_same :=
  (T.d__law_same.calG (k := 0) (N := N__law_same) sc__law_same (fun f cdv A outer s H E hg hr => (zb_one (zs_ret (ze_cmp (z_eq hr.units) (ze_b1 (b_repr hg (room65 hr)) T.b_repr (ze_name (i := 0))) (ze_b1 (b_repr hg (room65 hr)) T.b_repr (ze_name (i := 1))))))))
/-! outermost_changes -/
abbrev s_outermost_changes : Stmt := topS 31
abbrev N_outermost_changes : List Str := ["one", "other", "changes", "at", "path", "value"]
theorem sc_outermost_changes : FnScope N_outermost_changes ["one", "other"] (defScope s_outermost_changes) := ⟨rfl, rfl, rfl, by decide +kernel, rfl, by decide +kernel, by decide +kernel⟩
def E_outermost_changes_1 : UEnv → Store → R U := dTup (dCons (dBin oAdd (dTup (dCons (dName 3) (dNil))) (dName 4)) (dCons (dName 5) (dNil)))
def B_outermost_changes_2 (self : FnZ) : UEnv → Store → R Fl := sExpr (dMut extAt (dName 2) (dComp [4, 5] (dIter (dCall self (dCons (dBin ixU (dName 0) (dName 3)) (dCons (dBin ixU (dName 1) (dName 3)) (dNil))))) (ctPair 4 5) cYes (E_outermost_changes_1)))
def g_outermost_changes (self : FnZ) : UEnv → Store → R Fl := sSeq (sIf (tAndZ (dTru (dIsi "tuple" (dName 0))) (tAndZ (dTru (dIsi "tuple" (dName 1))) (dTest (dBin oEq (dUn oLen (dName 0)) (dUn oLen (dName 1)))))) (sSeq (sSet 2 (dNew (dNil))) (sSeq (sFor (dRange1 (dUn oLen (dName 0))) (gNm 3) (B_outermost_changes_2 self)) (sRet (dName 2)))) (sNext)) (sSeq (sIf (tAndZ (dTest (dBin oEq (dName 0) (dName 1))) (dTest (dBin oEq (dIsi "bool" (dName 0)) (dIsi "bool" (dName 1))))) (sRet (dLst (dNil))) (sNext)) (sRet (dLst (dCons (dTup (dCons (dTup (dNil)) (dCons (dName 1) (dNil)))) (dNil)))))
def FF_outermost_changes : Nat → FnZ
  | 0 => fun _ _ => .stuck
  | n + 1 => runT 6 (g_outermost_changes (FF_outermost_changes n))
abbrev F_outermost_changes : FnZ := FF_outermost_changes 14
theorem cc_outermost_changes [TB] {P : Program} {w : World} {K : PySem.W.Frag} {mg : Str → Option Value} {base : Heap} (T : Txt w K mg)  : ∀ n, CalZ P w K mg base (1 + n) "outermost_changes" 2 (FF_outermost_changes n)
  | 0 => T.d_outermost_changes.stuck _ _
  | n + 1 => (T.d_outermost_changes.cal (k := 1 + n) (N := N_outermost_changes) sc_outermost_changes (fun f cdv A outer s H E hr => by
    have cself := cc_outermost_changes (P := P) (base := base) T  n
    exact (zb_cons (zs_if (ZW.zt (zw_and (zt_truth (ze_isi isi_tuple T.b_isinstance T.b_tuple (ze_name (i := 0)))) (zw_and (zt_truth (ze_isi isi_tuple T.b_isinstance T.b_tuple (ze_name (i := 1)))) (zw_and1 (zt_cmp (z_eq hr.units) (ze_b1 b_len T.b_len (ze_name (i := 0))) (ze_b1 b_len T.b_len (ze_name (i := 1)))))))) (zb_cons (zs_set (i := 2) sc_outermost_changes.nd (ze_new za_nil)) (zb_cons (zs_for rfl (zi_range1 T.b_range (ze_b1 b_len T.b_len (ze_name (i := 0)))) (zg_name (i := 3) sc_outermost_changes.nd) (zb_one (zs_expr (ze_extend (ze_name (i := 2)) (ze_lc (own := [("path", 4), ("value", 5)])  rfl sc_outermost_changes.nd (zi_any (ze_call cself hr (za_cons (ze_ix (room65 hr) (ze_name (i := 0)) (ze_name (i := 3))) (za_cons (ze_ix (room65 hr) (ze_name (i := 1)) (ze_name (i := 3))) za_nil)) (Nat.le_refl _))) (ct_pair (by decide) (by decide)) (fun _ _ _ _ _ => pg_tup rfl (pgs_cons (pg_name (i := 4) sc_outermost_changes.nd rfl (by first | exact Or.inl rfl | exact Or.inr rfl)) (pgs_cons (pg_name (i := 5) sc_outermost_changes.nd rfl (by first | exact Or.inl rfl | exact Or.inr rfl)) pgs_nil))) (fun _ _ _ _ _ => (ze_tup (za_cons (ze_bin z_add (ze_tup (za_cons (ze_name (i := 3)) za_nil)) (ze_name (i := 4))) (za_cons (ze_name (i := 5)) za_nil)))) (ok := show blkC N_outermost_changes (defScope s_outermost_changes) _ _ = true by decide +kernel)))))) (zb_one (zs_ret (ze_name (i := 2)))))) zb_nil) (zb_cons (zs_if (ZW.zt (zw_and (zt_cmp (z_eq hr.units) (ze_name (i := 0)) (ze_name (i := 1))) (zw_and1 (zt_cmp (z_eq hr.units) (ze_isi isi_bool T.b_isinstance T.b_bool (ze_name (i := 0))) (ze_isi isi_bool T.b_isinstance T.b_bool (ze_name (i := 1))))))) (zb_one (zs_ret (ze_lst za_nil))) zb_nil) (zb_one (zs_ret (ze_lst (za_cons (ze_tup (za_cons (ze_tup za_nil) (za_cons (ze_name (i := 1)) za_nil))) za_nil)))))))).trim
theorem t_outermost_changes [TB] {P : Program} {w : World} {K : PySem.W.Frag} {mg : Str → Option Value} {base : Heap} (T : Txt w K mg)  : CalZ P w K mg base 15 "outermost_changes" 2 F_outermost_changes := cc_outermost_changes T  14
/-! changes_of -/
abbrev s_changes_of : Stmt := topS 32
abbrev N_changes_of : List Str := ["one", "other"]
theorem sc_changes_of : FnScope N_changes_of ["one", "other"] (defScope s_changes_of) := ⟨rfl, rfl, rfl, by decide +kernel, rfl, by decide +kernel, by decide +kernel⟩
def g_changes_of : UEnv → Store → R Fl := sSeq (sExpr (dCall F_check_value (dCons (dName 0) (dNil)))) (sSeq (sExpr (dCall F_check_value (dCons (dName 1) (dNil)))) (sRet (dUn oTuple (dCall F_outermost_changes (dCons (dName 0) (dCons (dName 1) (dNil)))))))
def F_changes_of : FnZ := runB 2 (g_changes_of)
theorem t_changes_of [TB] {P : Program} {w : World} {K : PySem.W.Frag} {mg : Str → Option Value} {base : Heap} (T : Txt w K mg) (c_check_value : CalZ P w K mg base 18 "check_value" 1 F_check_value) (c_outermost_changes : CalZ P w K mg base 15 "outermost_changes" 2 F_outermost_changes) : CalZ P w K mg base 19 "changes_of" 2 F_changes_of :=
  (T.d_changes_of.cal (k := 18) (N := N_changes_of) sc_changes_of (fun f cdv A outer s H E hr => (zb_cons (zs_expr (ze_call c_check_value hr (za_cons (ze_name (i := 0)) za_nil))) (zb_cons (zs_expr (ze_call c_check_value hr (za_cons (ze_name (i := 1)) za_nil))) (zb_one (zs_ret (ze_ty1 b_tuple T.b_tuple (ze_call c_outermost_changes hr (za_cons (ze_name (i := 0)) (za_cons (ze_name (i := 1)) za_nil))))))))))
/-! _law_at -/
abbrev s__law_at : Stmt := topS 50
abbrev N__law_at : List Str := ["_law_value_here", "_law_path", "_law_index"]
theorem sc__law_at : FnScope N__law_at ["_law_value_here", "_law_path"] (defScope s__law_at) := ⟨rfl, rfl, rfl, by decide +kernel, rfl, by decide +kernel, by decide +kernel⟩
def B__law_at_1 : UEnv → Store → R Fl := sSet 0 (dBin ixU (dName 0) (dName 2))
def g__law_at : UEnv → Store → R Fl := sSeq (sFor (dIter (dName 1)) (gNm 2) (B__law_at_1)) (sRet (dName 0))
def F__law_at : FnZ := runB 3 (g__law_at)
theorem t__law_at [TB] {P : Program} {w : World} {K : PySem.W.Frag} {mg : Str → Option Value} {base : Heap} (T : Txt w K mg)  : CalZ P w K mg base 1 "_law_at" 2 F__law_at :=
  (T.d__law_at.cal (k := 0) (N := N__law_at) sc__law_at (fun f cdv A outer s H E hr => (zb_cons (zs_for rfl (zi_any (ze_name (i := 1))) (zg_name (i := 2) sc__law_at.nd) (zb_one (zs_set (i := 0) sc__law_at.nd (ze_ix (room65 hr) (ze_name (i := 0)) (ze_name (i := 2)))))) (zb_one (zs_ret (ze_name (i := 0)))))))
/-! _law_alike -/
abbrev s__law_alike : Stmt := topS 53
abbrev N__law_alike : List Str := ["_law_one", "_law_other"]
theorem sc__law_alike : FnScope N__law_alike ["_law_one", "_law_other"] (defScope s__law_alike) := ⟨rfl, rfl, rfl, by decide +kernel, rfl, by decide +kernel, by decide +kernel⟩
def g__law_alike : UEnv → Store → R Fl := sRet (dAnd (dIsi "tuple" (dName 0)) (dAnd (dIsi "tuple" (dName 1)) (dBin oEq (dUn oLen (dName 0)) (dUn oLen (dName 1)))))
def F__law_alike : FnZ := runB 2 (g__law_alike)
theorem t__law_alike [TB] {P : Program} {w : World} {K : PySem.W.Frag} {mg : Str → Option Value} {base : Heap} (T : Txt w K mg)  : CalZ P w K mg base 1 "_law_alike" 2 F__law_alike :=
  (T.d__law_alike.cal (k := 0) (N := N__law_alike) sc__law_alike (fun f cdv A outer s H E hr => (zb_one (zs_ret (ze_and (ze_isi isi_tuple T.b_isinstance T.b_tuple (ze_name (i := 0))) (ze_and (ze_isi isi_tuple T.b_isinstance T.b_tuple (ze_name (i := 1))) (ze_one (ze_cmp (z_eq hr.units) (ze_b1 b_len T.b_len (ze_name (i := 0))) (ze_b1 b_len T.b_len (ze_name (i := 1)))))))))))
/-! _law_due -/
abbrev s__law_due : Stmt := topS 54
abbrev N__law_due : List Str := ["_law_one", "_law_other", "_law_found", "_law_path", "_law_inside", "_law_own", "_law_more", "_law_done", "_law_value_here", "_law_at_here"]
theorem sc__law_due : FnScope N__law_due ["_law_one", "_law_other"] (defScope s__law_due) := ⟨rfl, rfl, rfl, by decide +kernel, rfl, by decide +kernel, by decide +kernel⟩
def T__law_due_1 : UEnv → Store → R Bool := tNotZ (dTru (dCall F__law_alike (dCons (dCall F__law_at (dCons (dName 0) (dCons (dSlice (dName 3) (pNone) (pSome (dName 9))) (dNil)))) (dCons (dCall F__law_at (dCons (dName 1) (dCons (dSlice (dName 3) (pNone) (pSome (dName 9))) (dNil)))) (dNil)))))
def T__law_due_2 : UEnv → Store → R Bool := dTest (dBin oEq (dSlice (dName 3) (pNone) (pSome (dUn oLen (dName 7)))) (dName 7))
def B__law_due_3 : UEnv → Store → R Fl := sSeq (sSet 4 (dBin oEq (dCompC [7, 8] (dName 2) (ctPair 7 8) (T__law_due_2) (dC (.int 1))) (dLst (dNil)))) (sIf (tAndZ (dTru (dName 4)) (dTest (dBin oEq (dComp [9] (dRange1 (dUn oLen (dName 3))) (ctName 9) (T__law_due_1) (dC (.int 1))) (dLst (dNil))))) (sSeq (sPar [5, 6] (dCons (dCall F__law_at (dCons (dName 0) (dCons (dName 3) (dNil)))) (dCons (dCall F__law_at (dCons (dName 1) (dCons (dName 3) (dNil)))) (dNil)))) (sIf (tAndZ (tNotZ (dTru (dCall F__law_alike (dCons (dName 5) (dCons (dName 6) (dNil)))))) (tNotZ (dTru (dCall F__law_same (dCons (dName 5) (dCons (dName 6) (dNil))))))) (sExpr (dMut appAt (dName 2) (dTup (dCons (dName 3) (dCons (dName 6) (dNil)))))) (sNext))) (sNext))
def g__law_due : UEnv → Store → R Fl := sSeq (sSet 2 (dNew (dNil))) (sSeq (sFor (dIter (dCall F__law_paths (dCons (dName 0) (dNil)))) (gNm 3) (B__law_due_3)) (sRet (dUn oTuple (dName 2))))
def F__law_due : FnZ := runT 10 (g__law_due)
theorem t__law_due [TB] {P : Program} {w : World} {K : PySem.W.Frag} {mg : Str → Option Value} {base : Heap} (T : Txt w K mg) (c__law_paths : CalZ P w K mg base 13 "_law_paths" 1 F__law_paths) (c__law_at : CalZ P w K mg base 1 "_law_at" 2 F__law_at) (c__law_alike : CalZ P w K mg base 1 "_law_alike" 2 F__law_alike) (c__law_same : CalG P w K mg base 1 "_law_same" 2 F__law_same) : CalG P w K mg base 14 "_law_due" 2 F__law_due :=
  (T.d__law_due.calG (k := 13) (N := N__law_due) sc__law_due (fun f cdv A outer s H E hg hr => (zb_cons (zs_set (i := 2) sc__law_due.nd (ze_new za_nil)) (zb_cons (zs_for rfl (zi_any (ze_call c__law_paths hr (za_cons (ze_name (i := 0)) za_nil))) (zg_name (i := 3) sc__law_due.nd) (zb_cons (zs_set (i := 4) sc__law_due.nd (ze_cmp (z_eq hr.units) (ze_lcIfC (own := [("_law_done", 7), ("_law_value_here", 8)])  rfl sc__law_due.nd (ze_name (i := 2)) (ct_pair (by decide) (by decide)) (fun _ _ _ _ _ => pg_tup rfl (pgs_cons (pg_name (i := 7) sc__law_due.nd rfl (by first | exact Or.inl rfl | exact Or.inr rfl)) (pgs_cons (pg_name (i := 8) sc__law_due.nd rfl (by first | exact Or.inl rfl | exact Or.inr rfl)) pgs_nil))) (fun _ _ _ _ _ => (zt_cmp (z_eq hr.units) (ze_slice (ze_name (i := 3)) zo_none (zo_some (ze_b1 b_len T.b_len (ze_name (i := 7))))) (ze_name (i := 7)))) (fun _ _ _ _ _ => ze_int) (ok := show blkC N__law_due (defScope s__law_due) _ _ = true by decide +kernel)) (ze_lst za_nil))) (zb_one (zs_if (ZW.zt (zw_and (zt_truth (ze_name (i := 4))) (zw_and1 (zt_cmp (z_eq hr.units) (ze_lcIf (own := [("_law_at_here", 9)]) (g := gName 9) rfl sc__law_due.nd (zi_range1 T.b_range (ze_b1 b_len T.b_len (ze_name (i := 3)))) (ct_name (by decide)) (fun _ _ _ _ _ => pg_name (i := 9) sc__law_due.nd rfl (by first | exact Or.inl rfl | exact Or.inr rfl)) (fun _ _ _ _ _ => (zt_not (zt_truth (ze_call c__law_alike hr (za_cons (ze_call c__law_at hr (za_cons (ze_name (i := 0)) (za_cons (ze_slice (ze_name (i := 3)) zo_none (zo_some (ze_name (i := 9)))) za_nil))) (za_cons (ze_call c__law_at hr (za_cons (ze_name (i := 1)) (za_cons (ze_slice (ze_name (i := 3)) zo_none (zo_some (ze_name (i := 9)))) za_nil))) za_nil)))))) (fun _ _ _ _ _ => ze_int) (ok := show blkC N__law_due (defScope s__law_due) _ _ = true by decide +kernel)) (ze_lst za_nil))))) (zb_cons (zs_par (i := 5) (j := 6) rfl sc__law_due.nd (za_cons (ze_call c__law_at hr (za_cons (ze_name (i := 0)) (za_cons (ze_name (i := 3)) za_nil))) (za_cons (ze_call c__law_at hr (za_cons (ze_name (i := 1)) (za_cons (ze_name (i := 3)) za_nil))) za_nil))) (zb_one (zs_if (ZW.zt (zw_and (zt_not (zt_truth (ze_call c__law_alike hr (za_cons (ze_name (i := 5)) (za_cons (ze_name (i := 6)) za_nil))))) (zw_and1 (zt_not (zt_truth (ze_callG c__law_same hg hr (za_cons (ze_name (i := 5)) (za_cons (ze_name (i := 6)) za_nil)))))))) (zb_one (zs_expr (ze_append (ze_name (i := 2)) (ze_tup (za_cons (ze_name (i := 3)) (za_cons (ze_name (i := 6)) za_nil)))))) zb_nil))) zb_nil)))) (zb_one (zs_ret (ze_ty1 b_tuple T.b_tuple (ze_name (i := 2))))))))).trim
/-! _law_right -/
abbrev s__law_right : Stmt := topS 55
abbrev N__law_right : List Str := ["_law_one", "_law_other", "_law_told", "_law_due_here"]
theorem sc__law_right : FnScope N__law_right ["_law_one", "_law_other"] (defScope s__law_right) := ⟨rfl, rfl, rfl, by decide +kernel, rfl, by decide +kernel, by decide +kernel⟩
def g__law_right : UEnv → Store → R Fl := sSeq (sPar [2, 3] (dCons (dCall F_changes_of (dCons (dName 0) (dCons (dName 1) (dNil)))) (dCons (dCall F__law_due (dCons (dName 0) (dCons (dName 1) (dNil)))) (dNil)))) (sSeq (sIf (tOrZ (tNotZ (dTru (dCall F__law_same (dCons (dName 2) (dCons (dName 3) (dNil)))))) (tNotZ (dTru (dCall F__law_same (dCons (dCall F_changed_value (dCons (dName 0) (dCons (dName 3) (dNil)))) (dCons (dName 1) (dNil))))))) (sRet (dC (.bl false))) (sNext)) (sRet (dAnd (dBin oEq (dBin oEq (dName 2) (dTup (dNil))) (dCall F__law_same (dCons (dName 0) (dCons (dName 1) (dNil))))) (dAnd (dCall F__law_same (dCons (dCall F_changed_value (dCons (dName 0) (dCons (dTup (dNil)) (dNil)))) (dCons (dName 0) (dNil)))) (dCall F__law_same (dCons (dCall F_changes_of (dCons (dName 0) (dCons (dName 1) (dNil)))) (dCons (dName 3) (dNil))))))))
def F__law_right : FnZ := runB 4 (g__law_right)
theorem t__law_right [TB] {P : Program} {w : World} {K : PySem.W.Frag} {mg : Str → Option Value} {base : Heap} (T : Txt w K mg) (c_changes_of : CalZ P w K mg base 19 "changes_of" 2 F_changes_of) (c__law_due : CalG P w K mg base 14 "_law_due" 2 F__law_due) (c__law_same : CalG P w K mg base 1 "_law_same" 2 F__law_same) (c_changed_value : CalZ P w K mg base 19 "changed_value" 2 F_changed_value) : CalG P w K mg base 20 "_law_right" 2 F__law_right :=
  (T.d__law_right.calG (k := 19) (N := N__law_right) sc__law_right (fun f cdv A outer s H E hg hr => (zb_cons (zs_par (i := 2) (j := 3) rfl sc__law_right.nd (za_cons (ze_call c_changes_of hr (za_cons (ze_name (i := 0)) (za_cons (ze_name (i := 1)) za_nil))) (za_cons (ze_callG c__law_due hg hr (za_cons (ze_name (i := 0)) (za_cons (ze_name (i := 1)) za_nil))) za_nil))) (zb_cons (zs_if (ZW.zt (zw_or (zt_not (zt_truth (ze_callG c__law_same hg hr (za_cons (ze_name (i := 2)) (za_cons (ze_name (i := 3)) za_nil))))) (zw_or1 (zt_not (zt_truth (ze_callG c__law_same hg hr (za_cons (ze_call c_changed_value hr (za_cons (ze_name (i := 0)) (za_cons (ze_name (i := 3)) za_nil))) (za_cons (ze_name (i := 1)) za_nil)))))))) (zb_one (zs_ret ze_bl)) zb_nil) (zb_one (zs_ret (ze_and (ze_cmp (z_eq hr.units) (ze_cmp (z_eq hr.units) (ze_name (i := 2)) (ze_tup za_nil)) (ze_callG c__law_same hg hr (za_cons (ze_name (i := 0)) (za_cons (ze_name (i := 1)) za_nil)))) (ze_and (ze_callG c__law_same hg hr (za_cons (ze_call c_changed_value hr (za_cons (ze_name (i := 0)) (za_cons (ze_tup za_nil) za_nil))) (za_cons (ze_name (i := 0)) za_nil))) (ze_one (ze_callG c__law_same hg hr (za_cons (ze_call c_changes_of hr (za_cons (ze_name (i := 0)) (za_cons (ze_name (i := 1)) za_nil))) (za_cons (ze_name (i := 3)) za_nil))))))))))))
/-! law -/
abbrev s_law : Stmt := topS 56
abbrev N_law : List Str := ["_law_script", "_law_cup_here", "_law_turn", "_law_one", "_law_other", "_law_near", "_law_again", "_law_path", "_law_fresh", "_law_nine", "_law_own", "_law_words", "_law_some_here", "_law_odd"]
theorem sc_law : FnScope N_law ["_law_script"] (defScope s_law) := ⟨rfl, rfl, rfl, by decide +kernel, rfl, by decide +kernel, by decide +kernel⟩
def E_law_1 : UEnv → Store → R U := dTellF t_sub l__law_error (dCall F_changed_value (dCons (dName 10) (dCons (dName 13) (dNil))))
def E_law_2 : UEnv → Store → R U := dTellF t_sub l__law_error (dCall F_changed_value (dCons (dName 10) (dCons (dName 13) (dNil))))
def E_law_3 : UEnv → Store → R U := dTellF t_sub l__law_error (dCall F_changes_of (dCons (dTup (dNil)) (dCons (dName 13) (dNil))))
def E_law_4 : UEnv → Store → R U := dTellF t_sub l__law_error (dCall F_changes_of (dCons (dName 13) (dCons (dC .non) (dNil))))
def B_law_5 : UEnv → Store → R Fl := sSet 5 (dCall F__law_put (dCons (dName 5) (dCons (dCall F__law_some (dCons (dName 1) (dCons (dCall F__law_paths (dCons (dName 5) (dNil))) (dNil)))) (dCons (dCall F__law_value (dCons (dName 1) (dCons (dC (.int 1)) (dNil)))) (dNil)))))
def B_law_6 : UEnv → Store → R Fl := sSeq (sPar [3, 4] (dCons (dCall F__law_value (dCons (dName 1) (dCons (dC (.int 2)) (dNil)))) (dCons (dCall F__law_value (dCons (dName 1) (dCons (dC (.int 2)) (dNil)))) (dNil)))) (sSeq (sSet 5 (dName 3)) (sSeq (sFor (dRange1 (dBin oAdd (dC (.int 1)) (dCall F__law_roll (dCons (dName 1) (dCons (dC (.int 2)) (dNil)))))) (gNm 6) (B_law_5)) (sSeq (sIf (tOrZ (tNotZ (dTru (dCall F__law_right (dCons (dName 3) (dCons (dName 4) (dNil)))))) (tOrZ (tNotZ (dTru (dCall F__law_right (dCons (dName 3) (dCons (dName 5) (dNil)))))) (tNotZ (dTru (dCall F__law_right (dCons (dName 5) (dCons (dName 3) (dNil)))))))) (sRet (dC (.bl false))) (sNext)) (sSeq (sSet 7 (dCall F__law_some (dCons (dName 1) (dCons (dCall F__law_paths (dCons (dName 3) (dNil))) (dNil))))) (sSeq (sSet 8 (dCall F__law_value (dCons (dName 1) (dCons (dC (.int 1)) (dNil))))) (sIf (tNotZ (dTru (dCall F__law_same (dCons (dCall F_changed_value (dCons (dName 3) (dCons (dTup (dCons (dTup (dCons (dName 7) (dCons (dName 8) (dNil)))) (dNil))) (dNil)))) (dCons (dCall F__law_put (dCons (dName 3) (dCons (dName 7) (dCons (dName 8) (dNil))))) (dNil)))))) (sRet (dC (.bl false))) (sNext)))))))
def g_law : UEnv → Store → R Fl := sSeq (sSet 1 (dCall F__law_cup (dCons (dName 0) (dNil)))) (sSeq (sFor (dRange1 (dC (.int 2))) (gNm 2) (B_law_6)) (sSeq (sIf (tOrZ (tNotZ (dTru (dCall F__law_same (dCons (dCall F_changes_of (dCons (dTup (dCons (dC (.int 1)) (dCons (dTup (dCons (dC (.int 2)) (dCons (dC (.int 3)) (dNil)))) (dCons (dC (.str "a")) (dNil))))) (dCons (dTup (dCons (dC (.int 1)) (dCons (dTup (dCons (dC (.int 2)) (dCons (dC (.int 4)) (dNil)))) (dCons (dC (.str "b")) (dNil))))) (dNil)))) (dCons (dTup (dCons (dTup (dCons (dTup (dCons (dC (.int 1)) (dCons (dC (.int 1)) (dNil)))) (dCons (dC (.int 4)) (dNil)))) (dCons (dTup (dCons (dTup (dCons (dC (.int 2)) (dNil))) (dCons (dC (.str "b")) (dNil)))) (dNil)))) (dNil)))))) (tNotZ (dTru (dCall F__law_same (dCons (dCall F_changes_of (dCons (dTup (dCons (dC (.int 1)) (dCons (dC (.int 0)) (dNil)))) (dCons (dTup (dCons (dC (.bl true)) (dCons (dC (.int 0)) (dNil)))) (dNil)))) (dCons (dTup (dCons (dTup (dCons (dTup (dCons (dC (.int 0)) (dNil))) (dCons (dC (.bl true)) (dNil)))) (dNil))) (dNil))))))) (sRet (dC (.bl false))) (sNext)) (sSeq (sIf (tOrZ (tNotZ (dTru (dCall F__law_same (dCons (dCall F_changes_of (dCons (dTup (dCons (dC (.int 1)) (dCons (dC (.int 2)) (dNil)))) (dCons (dTup (dCons (dC (.int 1)) (dCons (dC (.int 2)) (dCons (dC (.int 3)) (dNil))))) (dNil)))) (dCons (dTup (dCons (dTup (dCons (dTup (dNil)) (dCons (dTup (dCons (dC (.int 1)) (dCons (dC (.int 2)) (dCons (dC (.int 3)) (dNil))))) (dNil)))) (dNil))) (dNil)))))) (tOrZ (dTest (dBin oNe (dCall F_changes_of (dCons (dC (.int 5)) (dCons (dC (.int 5)) (dNil)))) (dTup (dNil)))) (tNotZ (dTru (dCall F__law_same (dCons (dCall F_changes_of (dCons (dTup (dCons (dTup (dNil)) (dCons (dC (.int 1)) (dNil)))) (dCons (dTup (dCons (dTup (dNil)) (dCons (dC (.int 2)) (dNil)))) (dNil)))) (dCons (dTup (dCons (dTup (dCons (dTup (dCons (dC (.int 1)) (dNil))) (dCons (dC (.int 2)) (dNil)))) (dNil))) (dNil)))))))) (sRet (dC (.bl false))) (sNext)) (sSeq (sIf (tOrZ (tNotZ (dTru (dCall F__law_same (dCons (dCall F_changed_value (dCons (dTup (dCons (dC (.int 1)) (dCons (dTup (dCons (dC (.int 2)) (dCons (dC (.int 3)) (dNil)))) (dNil)))) (dCons (dTup (dCons (dTup (dCons (dTup (dCons (dC (.int 0)) (dNil))) (dCons (dTup (dNil)) (dNil)))) (dCons (dTup (dCons (dTup (dCons (dC (.int 1)) (dCons (dC (.int 0)) (dNil)))) (dCons (dC (.str "z")) (dNil)))) (dNil)))) (dNil)))) (dCons (dTup (dCons (dTup (dNil)) (dCons (dTup (dCons (dC (.str "z")) (dCons (dC (.int 3)) (dNil)))) (dNil)))) (dNil)))))) (tNotZ (dTru (dCall F__law_same (dCons (dCall F_changed_value (dCons (dTup (dCons (dC (.int 1)) (dNil))) (dCons (dTup (dCons (dTup (dCons (dTup (dCons (dC (.int 0)) (dNil))) (dCons (dC (.int 1)) (dNil)))) (dNil))) (dNil)))) (dCons (dTup (dCons (dC (.int 1)) (dNil))) (dNil))))))) (sRet (dC (.bl false))) (sNext)) (sSeq (sAsg (dTup (dCons (dCall F__law_deep (dCons (dC (.int 9)) (dNil))) (dCons (dTup (dCons (dC (.int 1)) (dCons (dTup (dCons (dC (.int 2)) (dCons (dC (.int 3)) (dNil)))) (dNil)))) (dNil)))) (gTp 2 (gsCons (gNm 9) (gsCons (gNm 10) (gsNil))))) (sSeq (sIf (dTest (dBin oNe (dCall F_changed_value (dCons (dTup (dCons (dName 9) (dNil))) (dCons (dTup (dCons (dTup (dCons (dTup (dCons (dC (.int 0)) (dNil))) (dCons (dName 9) (dNil)))) (dNil))) (dNil)))) (dTup (dCons (dName 9) (dNil))))) (sRet (dC (.bl false))) (sNext)) (sSeq (sSet 11 (dCompN [13] (dIter (dTup (dCons (dC .non) (dCons (dUn oNeg (dC (.int 2))) (dCons (dTup (dCons (dC .non) (dNil))) (dCons (dCall F__law_deep (dCons (dC (.int 11)) (dNil))) (dNil))))))) (ctName 13) cYes (E_law_4))) (sSeq (sSet 11 (dAddN (dName 11) (dComp [13] (dIter (dTup (dCons (dC .non) (dCons (dLst (dCons (dC (.int 1)) (dNil))) (dNil))))) (ctName 13) cYes (E_law_3)))) (sSeq (sExpr (dMut appAt (dName 11) (dTellF t_sub l__law_error (dCall F_changed_value (dCons (dC (.str "A")) (dCons (dC .non) (dNil))))))) (sSeq (sSet 12 (dLst (dCons (dC .non) (dCons (dLst (dNil)) (dCons (dTup (dCons (dC (.int 1)) (dNil))) (dCons (dTup (dCons (dTup (dCons (dTup (dCons (dC (.int 2)) (dNil))) (dCons (dC (.int 1)) (dNil)))) (dNil))) (dCons (dTup (dCons (dTup (dCons (dTup (dCons (dC (.int 0)) (dCons (dC (.int 0)) (dNil)))) (dCons (dC (.int 1)) (dNil)))) (dNil))) (dCons (dTup (dCons (dTup (dCons (dTup (dCons (dC (.int 0)) (dNil))) (dCons (dC .non) (dNil)))) (dNil))) (dCons (dTup (dCons (dTup (dCons (dTup (dCons (dC (.int 0)) (dNil))) (dNil))) (dNil))) (dCons (dTup (dCons (dTup (dCons (dC (.int 0)) (dCons (dC (.int 1)) (dNil)))) (dNil))) (dCons (dTup (dCons (dTup (dCons (dTup (dCons (dUn oNeg (dC (.int 1))) (dNil))) (dCons (dC (.int 1)) (dNil)))) (dNil))) (dCons (dTup (dCons (dTup (dCons (dTup (dCons (dC (.bl true)) (dNil))) (dCons (dC (.int 1)) (dNil)))) (dNil))) (dCons (dTup (dCons (dTup (dCons (dTup (dCons (dC (.int 0)) (dNil))) (dCons (dC (.int 1)) (dCons (dC (.int 2)) (dNil))))) (dNil))) (dNil)))))))))))))) (sSeq (sSet 11 (dAddN (dName 11) (dComp [13] (dIter (dName 12)) (ctName 13) cYes (E_law_2)))) (sSeq (sSet 12 (dLst (dCons (dTup (dCons (dTup (dCons (dTup (dCons (dC (.int 1)) (dNil))) (dCons (dC (.int 5)) (dNil)))) (dCons (dTup (dCons (dTup (dCons (dC (.int 0)) (dNil))) (dCons (dC (.int 5)) (dNil)))) (dNil)))) (dCons (dTup (dCons (dTup (dCons (dTup (dCons (dC (.int 0)) (dNil))) (dCons (dC (.int 5)) (dNil)))) (dCons (dTup (dCons (dTup (dCons (dC (.int 0)) (dNil))) (dCons (dC (.int 6)) (dNil)))) (dNil)))) (dCons (dTup (dCons (dTup (dCons (dTup (dCons (dC (.int 1)) (dNil))) (dCons (dC (.int 5)) (dNil)))) (dCons (dTup (dCons (dTup (dCons (dC (.int 1)) (dCons (dC (.int 0)) (dNil)))) (dCons (dC (.int 6)) (dNil)))) (dNil)))) (dCons (dTup (dCons (dTup (dCons (dTup (dNil)) (dCons (dC (.int 1)) (dNil)))) (dCons (dTup (dCons (dTup (dCons (dC (.int 0)) (dNil))) (dCons (dC (.int 2)) (dNil)))) (dNil)))) (dCons (dLst (dCons (dTup (dCons (dTup (dCons (dC (.int 0)) (dNil))) (dCons (dC (.int 1)) (dNil)))) (dNil))) (dCons (dTup (dCons (dTup (dCons (dTup (dCons (dC (.int 1)) (dCons (dC (.int 0)) (dNil)))) (dCons (dUn oNeg (dC (.int 2))) (dNil)))) (dNil))) (dNil))))))))) (sSeq (sSet 11 (dAddN (dName 11) (dComp [13] (dIter (dName 12)) (ctName 13) cYes (E_law_1)))) (sSeq (sExpr (dMut appAt (dName 11) (dTellF t_sub l__law_error (dCall F_changed_value (dCons (dTup (dCons (dName 9) (dNil))) (dCons (dTup (dCons (dTup (dCons (dTup (dCons (dC (.int 0)) (dNil))) (dCons (dTup (dCons (dName 9) (dNil))) (dNil)))) (dNil))) (dNil))))))) (sRet (dBin oEq (dName 11) (dBin oAdd (dBin oMul (dLst (dCons (dC (.str "value")) (dNil))) (dC (.int 7))) (dBin oMul (dLst (dCons (dC (.str "change")) (dNil))) (dC (.int 18))))))))))))))))))))
def F_law : FnZ := runB 14 (g_law)
theorem t_law [TB] {P : Program} {w : World} {K : PySem.W.Frag} {mg : Str → Option Value} {base : Heap} (T : Txt w K mg) (c__law_cup : CalZ P w K mg base 1 "_law_cup" 1 F__law_cup) (c__law_some : CalZ P w K mg base 2 "_law_some" 2 F__law_some) (c__law_value : CalZ P w K mg base 10 "_law_value" 2 F__law_value) (c__law_deep : CalZ P w K mg base 1 "_law_deep" 1 F__law_deep) (c_changed_value : CalZ P w K mg base 19 "changed_value" 2 F_changed_value) (c__law_put : CalZ P w K mg base 13 "_law_put" 3 F__law_put) (c__law_paths : CalZ P w K mg base 13 "_law_paths" 1 F__law_paths) (c__law_same : CalG P w K mg base 1 "_law_same" 2 F__law_same) (c_changes_of : CalZ P w K mg base 19 "changes_of" 2 F_changes_of) (c__law_roll : CalZ P w K mg base 1 "_law_roll" 2 F__law_roll) (c__law_right : CalG P w K mg base 20 "_law_right" 2 F__law_right) : ∀ (f : Addr) (fd : FuncData) (c Pt : Addr), FunC K "law" "law" s_law f fd (.ref c) → LamX.TabB base mg c Pt → (Pt, ("law" : Str) ++ ".<locals>." ++ "<lambda>") ∈ TB.T → (∀ p ∈ TB.T, p.1 = Pt → p.2 = ("law" : Str) ++ ".<locals>." ++ "<lambda>") → FnG P w K mg base (L2.CX P w) 22 f fd ["_law_script"] (spZ ⟨K, mg, TB.T, w⟩ 1 F_law) :=
  fun f fd c Pt Fn tb hmT hu => fnGC (k := 21) (N := N_law) (ps := ["_law_script"]) (g := g_law) Fn sc_law (fun A outer s H E hg hr => (zb_cons (zs_set (i := 1) sc_law.nd (ze_call c__law_cup hr (za_cons (ze_name (i := 0)) za_nil))) (zb_cons (zs_for rfl (zi_range1 T.b_range ze_int) (zg_name (i := 2) sc_law.nd) (zb_cons (zs_par (i := 3) (j := 4) rfl sc_law.nd (za_cons (ze_call c__law_value hr (za_cons (ze_name (i := 1)) (za_cons ze_int za_nil))) (za_cons (ze_call c__law_value hr (za_cons (ze_name (i := 1)) (za_cons ze_int za_nil))) za_nil))) (zb_cons (zs_set (i := 5) sc_law.nd (ze_name (i := 3))) (zb_cons (zs_for rfl (zi_range1 T.b_range (ze_bin z_add ze_int (ze_call c__law_roll hr (za_cons (ze_name (i := 1)) (za_cons ze_int za_nil))))) (zg_name (i := 6) sc_law.nd) (zb_one (zs_set (i := 5) sc_law.nd (ze_call c__law_put hr (za_cons (ze_name (i := 5)) (za_cons (ze_call c__law_some hr (za_cons (ze_name (i := 1)) (za_cons (ze_call c__law_paths hr (za_cons (ze_name (i := 5)) za_nil)) za_nil))) (za_cons (ze_call c__law_value hr (za_cons (ze_name (i := 1)) (za_cons ze_int za_nil))) za_nil))))))) (zb_cons (zs_if (ZW.zt (zw_or (zt_not (zt_truth (ze_callG c__law_right hg hr (za_cons (ze_name (i := 3)) (za_cons (ze_name (i := 4)) za_nil))))) (zw_or (zt_not (zt_truth (ze_callG c__law_right hg hr (za_cons (ze_name (i := 3)) (za_cons (ze_name (i := 5)) za_nil))))) (zw_or1 (zt_not (zt_truth (ze_callG c__law_right hg hr (za_cons (ze_name (i := 5)) (za_cons (ze_name (i := 3)) za_nil))))))))) (zb_one (zs_ret ze_bl)) zb_nil) (zb_cons (zs_set (i := 7) sc_law.nd (ze_call c__law_some hr (za_cons (ze_name (i := 1)) (za_cons (ze_call c__law_paths hr (za_cons (ze_name (i := 3)) za_nil)) za_nil)))) (zb_cons (zs_set (i := 8) sc_law.nd (ze_call c__law_value hr (za_cons (ze_name (i := 1)) (za_cons ze_int za_nil)))) (zb_one (zs_if (zt_not (zt_truth (ze_callG c__law_same hg hr (za_cons (ze_call c_changed_value hr (za_cons (ze_name (i := 3)) (za_cons (ze_tup (za_cons (ze_tup (za_cons (ze_name (i := 7)) (za_cons (ze_name (i := 8)) za_nil))) za_nil)) za_nil))) (za_cons (ze_call c__law_put hr (za_cons (ze_name (i := 3)) (za_cons (ze_name (i := 7)) (za_cons (ze_name (i := 8)) za_nil)))) za_nil))))) (zb_one (zs_ret ze_bl)) zb_nil))))))))) (zb_cons (zs_if (ZW.zt (zw_or (zt_not (zt_truth (ze_callG c__law_same hg hr (za_cons (ze_call c_changes_of hr (za_cons (ze_tup (za_cons ze_int (za_cons (ze_tup (za_cons ze_int (za_cons ze_int za_nil))) (za_cons ze_str za_nil)))) (za_cons (ze_tup (za_cons ze_int (za_cons (ze_tup (za_cons ze_int (za_cons ze_int za_nil))) (za_cons ze_str za_nil)))) za_nil))) (za_cons (ze_tup (za_cons (ze_tup (za_cons (ze_tup (za_cons ze_int (za_cons ze_int za_nil))) (za_cons ze_int za_nil))) (za_cons (ze_tup (za_cons (ze_tup (za_cons ze_int za_nil)) (za_cons ze_str za_nil))) za_nil))) za_nil))))) (zw_or1 (zt_not (zt_truth (ze_callG c__law_same hg hr (za_cons (ze_call c_changes_of hr (za_cons (ze_tup (za_cons ze_int (za_cons ze_int za_nil))) (za_cons (ze_tup (za_cons ze_bl (za_cons ze_int za_nil))) za_nil))) (za_cons (ze_tup (za_cons (ze_tup (za_cons (ze_tup (za_cons ze_int za_nil)) (za_cons ze_bl za_nil))) za_nil)) za_nil)))))))) (zb_one (zs_ret ze_bl)) zb_nil) (zb_cons (zs_if (ZW.zt (zw_or (zt_not (zt_truth (ze_callG c__law_same hg hr (za_cons (ze_call c_changes_of hr (za_cons (ze_tup (za_cons ze_int (za_cons ze_int za_nil))) (za_cons (ze_tup (za_cons ze_int (za_cons ze_int (za_cons ze_int za_nil)))) za_nil))) (za_cons (ze_tup (za_cons (ze_tup (za_cons (ze_tup za_nil) (za_cons (ze_tup (za_cons ze_int (za_cons ze_int (za_cons ze_int za_nil)))) za_nil))) za_nil)) za_nil))))) (zw_or (zt_cmp (z_ne hr.units) (ze_call c_changes_of hr (za_cons ze_int (za_cons ze_int za_nil))) (ze_tup za_nil)) (zw_or1 (zt_not (zt_truth (ze_callG c__law_same hg hr (za_cons (ze_call c_changes_of hr (za_cons (ze_tup (za_cons (ze_tup za_nil) (za_cons ze_int za_nil))) (za_cons (ze_tup (za_cons (ze_tup za_nil) (za_cons ze_int za_nil))) za_nil))) (za_cons (ze_tup (za_cons (ze_tup (za_cons (ze_tup (za_cons ze_int za_nil)) (za_cons ze_int za_nil))) za_nil)) za_nil))))))))) (zb_one (zs_ret ze_bl)) zb_nil) (zb_cons (zs_if (ZW.zt (zw_or (zt_not (zt_truth (ze_callG c__law_same hg hr (za_cons (ze_call c_changed_value hr (za_cons (ze_tup (za_cons ze_int (za_cons (ze_tup (za_cons ze_int (za_cons ze_int za_nil))) za_nil))) (za_cons (ze_tup (za_cons (ze_tup (za_cons (ze_tup (za_cons ze_int za_nil)) (za_cons (ze_tup za_nil) za_nil))) (za_cons (ze_tup (za_cons (ze_tup (za_cons ze_int (za_cons ze_int za_nil))) (za_cons ze_str za_nil))) za_nil))) za_nil))) (za_cons (ze_tup (za_cons (ze_tup za_nil) (za_cons (ze_tup (za_cons ze_str (za_cons ze_int za_nil))) za_nil))) za_nil))))) (zw_or1 (zt_not (zt_truth (ze_callG c__law_same hg hr (za_cons (ze_call c_changed_value hr (za_cons (ze_tup (za_cons ze_int za_nil)) (za_cons (ze_tup (za_cons (ze_tup (za_cons (ze_tup (za_cons ze_int za_nil)) (za_cons ze_int za_nil))) za_nil)) za_nil))) (za_cons (ze_tup (za_cons ze_int za_nil)) za_nil)))))))) (zb_one (zs_ret ze_bl)) zb_nil) (zb_cons (zs_asg (ze_tup (za_cons (ze_call c__law_deep hr (za_cons ze_int za_nil)) (za_cons (ze_tup (za_cons ze_int (za_cons (ze_tup (za_cons ze_int (za_cons ze_int za_nil))) za_nil))) za_nil))) (zg_tup (n := 2) rfl (zgs_cons (zg_name (i := 9) sc_law.nd) (zgs_cons (zg_name (i := 10) sc_law.nd) zgs_nil)))) (zb_cons (zs_if (zt_cmp (z_ne hr.units) (ze_call c_changed_value hr (za_cons (ze_tup (za_cons (ze_name (i := 9)) za_nil)) (za_cons (ze_tup (za_cons (ze_tup (za_cons (ze_tup (za_cons ze_int za_nil)) (za_cons (ze_name (i := 9)) za_nil))) za_nil)) za_nil))) (ze_tup (za_cons (ze_name (i := 9)) za_nil))) (zb_one (zs_ret ze_bl)) zb_nil) (zb_cons (zs_setLcN (i := 11) (own := [("_law_odd", 13)]) (g := gName 13) rfl sc_law.nd (zi_any (ze_tup (za_cons ze_non (za_cons (ze_neg ze_int) (za_cons (ze_tup (za_cons ze_non za_nil)) (za_cons (ze_call c__law_deep hr (za_cons ze_int za_nil)) za_nil)))))) (ct_name (by decide)) (fun _ _ _ _ _ => pg_name (i := 13) sc_law.nd rfl (by first | exact Or.inl rfl | exact Or.inr rfl)) (fun _ _ _ _ _ => (ze_tellF (k := 19) T.d__law_error ⟨_, _, tb, rfl, hmT, hu⟩ (hr.mono (by decide)) sc__law_error (by first | exact Or.inl rfl | exact Or.inr (Or.inl rfl) | exact Or.inr (Or.inr rfl)) (fun g cdv => tg__law_error T g cdv) T.subs (by decide +kernel) (fun A outer s H E f c1 hr => (ze_call c_changes_of hr (za_cons (ze_name (i := 13)) (za_cons ze_non za_nil)))))) (ok := show blkC N_law (defScope s_law) _ _ = true by decide +kernel) (sw_true rfl rfl rfl (by decide +kernel))) (zb_cons (zs_set (i := 11) sc_law.nd (ze_addN (ze_name (i := 11)) (ze_lc (own := [("_law_odd", 13)]) (g := gName 13) rfl sc_law.nd (zi_any (ze_tup (za_cons ze_non (za_cons (ze_lst (za_cons ze_int za_nil)) za_nil)))) (ct_name (by decide)) (fun _ _ _ _ _ => pg_name (i := 13) sc_law.nd rfl (by first | exact Or.inl rfl | exact Or.inr rfl)) (fun _ _ _ _ _ => (ze_tellF (k := 19) T.d__law_error ⟨_, _, tb, rfl, hmT, hu⟩ (hr.mono (by decide)) sc__law_error (by first | exact Or.inl rfl | exact Or.inr (Or.inl rfl) | exact Or.inr (Or.inr rfl)) (fun g cdv => tg__law_error T g cdv) T.subs (by decide +kernel) (fun A outer s H E f c1 hr => (ze_call c_changes_of hr (za_cons (ze_tup za_nil) (za_cons (ze_name (i := 13)) za_nil)))))) (ok := show blkC N_law (defScope s_law) _ _ = true by decide +kernel)))) (zb_cons (zs_expr (ze_append (ze_name (i := 11)) (ze_tellF (k := 19) T.d__law_error ⟨_, _, tb, rfl, hmT, hu⟩ (hr.mono (by decide)) sc__law_error (by first | exact Or.inl rfl | exact Or.inr (Or.inl rfl) | exact Or.inr (Or.inr rfl)) (fun g cdv => tg__law_error T g cdv) T.subs (by decide +kernel) (fun A outer s H E f c1 hr => (ze_call c_changed_value hr (za_cons ze_str (za_cons ze_non za_nil))))))) (zb_cons (zs_set (i := 12) sc_law.nd (ze_lst (za_cons ze_non (za_cons (ze_lst za_nil) (za_cons (ze_tup (za_cons ze_int za_nil)) (za_cons (ze_tup (za_cons (ze_tup (za_cons (ze_tup (za_cons ze_int za_nil)) (za_cons ze_int za_nil))) za_nil)) (za_cons (ze_tup (za_cons (ze_tup (za_cons (ze_tup (za_cons ze_int (za_cons ze_int za_nil))) (za_cons ze_int za_nil))) za_nil)) (za_cons (ze_tup (za_cons (ze_tup (za_cons (ze_tup (za_cons ze_int za_nil)) (za_cons ze_non za_nil))) za_nil)) (za_cons (ze_tup (za_cons (ze_tup (za_cons (ze_tup (za_cons ze_int za_nil)) za_nil)) za_nil)) (za_cons (ze_tup (za_cons (ze_tup (za_cons ze_int (za_cons ze_int za_nil))) za_nil)) (za_cons (ze_tup (za_cons (ze_tup (za_cons (ze_tup (za_cons (ze_neg ze_int) za_nil)) (za_cons ze_int za_nil))) za_nil)) (za_cons (ze_tup (za_cons (ze_tup (za_cons (ze_tup (za_cons ze_bl za_nil)) (za_cons ze_int za_nil))) za_nil)) (za_cons (ze_tup (za_cons (ze_tup (za_cons (ze_tup (za_cons ze_int za_nil)) (za_cons ze_int (za_cons ze_int za_nil)))) za_nil)) za_nil))))))))))))) (zb_cons (zs_set (i := 11) sc_law.nd (ze_addN (ze_name (i := 11)) (ze_lc (own := [("_law_odd", 13)]) (g := gName 13) rfl sc_law.nd (zi_any (ze_name (i := 12))) (ct_name (by decide)) (fun _ _ _ _ _ => pg_name (i := 13) sc_law.nd rfl (by first | exact Or.inl rfl | exact Or.inr rfl)) (fun _ _ _ _ _ => (ze_tellF (k := 19) T.d__law_error ⟨_, _, tb, rfl, hmT, hu⟩ (hr.mono (by decide)) sc__law_error (by first | exact Or.inl rfl | exact Or.inr (Or.inl rfl) | exact Or.inr (Or.inr rfl)) (fun g cdv => tg__law_error T g cdv) T.subs (by decide +kernel) (fun A outer s H E f c1 hr => (ze_call c_changed_value hr (za_cons (ze_name (i := 10)) (za_cons (ze_name (i := 13)) za_nil)))))) (ok := show blkC N_law (defScope s_law) _ _ = true by decide +kernel)))) (zb_cons (zs_set (i := 12) sc_law.nd (ze_lst (za_cons (ze_tup (za_cons (ze_tup (za_cons (ze_tup (za_cons ze_int za_nil)) (za_cons ze_int za_nil))) (za_cons (ze_tup (za_cons (ze_tup (za_cons ze_int za_nil)) (za_cons ze_int za_nil))) za_nil))) (za_cons (ze_tup (za_cons (ze_tup (za_cons (ze_tup (za_cons ze_int za_nil)) (za_cons ze_int za_nil))) (za_cons (ze_tup (za_cons (ze_tup (za_cons ze_int za_nil)) (za_cons ze_int za_nil))) za_nil))) (za_cons (ze_tup (za_cons (ze_tup (za_cons (ze_tup (za_cons ze_int za_nil)) (za_cons ze_int za_nil))) (za_cons (ze_tup (za_cons (ze_tup (za_cons ze_int (za_cons ze_int za_nil))) (za_cons ze_int za_nil))) za_nil))) (za_cons (ze_tup (za_cons (ze_tup (za_cons (ze_tup za_nil) (za_cons ze_int za_nil))) (za_cons (ze_tup (za_cons (ze_tup (za_cons ze_int za_nil)) (za_cons ze_int za_nil))) za_nil))) (za_cons (ze_lst (za_cons (ze_tup (za_cons (ze_tup (za_cons ze_int za_nil)) (za_cons ze_int za_nil))) za_nil)) (za_cons (ze_tup (za_cons (ze_tup (za_cons (ze_tup (za_cons ze_int (za_cons ze_int za_nil))) (za_cons (ze_neg ze_int) za_nil))) za_nil)) za_nil)))))))) (zb_cons (zs_set (i := 11) sc_law.nd (ze_addN (ze_name (i := 11)) (ze_lc (own := [("_law_odd", 13)]) (g := gName 13) rfl sc_law.nd (zi_any (ze_name (i := 12))) (ct_name (by decide)) (fun _ _ _ _ _ => pg_name (i := 13) sc_law.nd rfl (by first | exact Or.inl rfl | exact Or.inr rfl)) (fun _ _ _ _ _ => (ze_tellF (k := 19) T.d__law_error ⟨_, _, tb, rfl, hmT, hu⟩ (hr.mono (by decide)) sc__law_error (by first | exact Or.inl rfl | exact Or.inr (Or.inl rfl) | exact Or.inr (Or.inr rfl)) (fun g cdv => tg__law_error T g cdv) T.subs (by decide +kernel) (fun A outer s H E f c1 hr => (ze_call c_changed_value hr (za_cons (ze_name (i := 10)) (za_cons (ze_name (i := 13)) za_nil)))))) (ok := show blkC N_law (defScope s_law) _ _ = true by decide +kernel)))) (zb_cons (zs_expr (ze_append (ze_name (i := 11)) (ze_tellF (k := 19) T.d__law_error ⟨_, _, tb, rfl, hmT, hu⟩ (hr.mono (by decide)) sc__law_error (by first | exact Or.inl rfl | exact Or.inr (Or.inl rfl) | exact Or.inr (Or.inr rfl)) (fun g cdv => tg__law_error T g cdv) T.subs (by decide +kernel) (fun A outer s H E f c1 hr => (ze_call c_changed_value hr (za_cons (ze_tup (za_cons (ze_name (i := 9)) za_nil)) (za_cons (ze_tup (za_cons (ze_tup (za_cons (ze_tup (za_cons ze_int za_nil)) (za_cons (ze_tup (za_cons (ze_name (i := 9)) za_nil)) za_nil))) za_nil)) za_nil))))))) (zb_one (zs_ret (ze_cmp (z_eq hr.units) (ze_name (i := 11)) (ze_bin z_add (ze_bin z_mul (ze_lst (za_cons ze_str za_nil)) ze_int) (ze_bin z_mul (ze_lst (za_cons ze_str za_nil)) ze_int)))))))))))))))))))))
end Z

namespace Z
open PySem PySem.Spec PyProof.Rows L2

/-! ### the drawing of numbers -/
def Cup (a b : Int) : Cell := .lst [.int a, .int b]
def CupOk (a b : Int) : Prop := 0 ≤ a ∧ 0 ≤ b ∧ b < 4294967296
/-- the store with the cup at n, whatever it holds -/
def CupAt (n : Nat) (st : Store) : Prop := ∃ a b, st[n]? = some (Cup a b) ∧ CupOk a b
/-- drawn from the cup at n -/
def Drew (n : Nat) (st st' : Store) : Prop := ∃ a b, st' = st.set n (Cup a b) ∧ CupOk a b
theorem CupAt.lt {n : Nat} {st : Store} (h : CupAt n st) : n < st.length := by
  obtain ⟨a, b, e, _⟩ := h
  exact (List.getElem?_eq_some_iff.mp e).1
theorem Drew.cup {n : Nat} {st st' : Store} (d : Drew n st st') (h : CupAt n st) : CupAt n st' := by
  obtain ⟨a, b, rfl, ok⟩ := d
  exact ⟨a, b, by rw [List.getElem?_set_self h.lt], ok⟩
theorem Drew.trans {n : Nat} {st st1 st2 : Store} (d : Drew n st st1) (d2 : Drew n st1 st2) : Drew n st st2 := by
  obtain ⟨a, b, rfl, _⟩ := d
  obtain ⟨a2, b2, rfl, ok⟩ := d2
  exact ⟨a2, b2, by rw [List.set_set], ok⟩
theorem deref_cup {n : Nat} {st : Store} {a b : Int} (e : st[n]? = some (Cup a b)) : deref st (.hdl n) = .lst [.int a, .int b] := by
  unfold deref Cup at *
  simp [e]
theorem ix_cup0 {n : Nat} {st : Store} {a b : Int} (e : st[n]? = some (Cup a b)) : ixU st (.hdl n) (.int 0) = some (.int a) := by
  unfold ixU
  rw [deref_cup e]
  rfl
theorem ix_cup1 {n : Nat} {st : Store} {a b : Int} (e : st[n]? = some (Cup a b)) : ixU st (.hdl n) (.int 1) = some (.int b) := by
  unfold ixU
  rw [deref_cup e]
  rfl
theorem set_cup0 {n : Nat} {st : Store} {a b c : Int} (e : st[n]? = some (Cup a b)) : setAt st (.hdl n) (.int 0) (.int c) = some (st.set n (Cup c b)) := by
  unfold setAt
  simp only [e, Cup]
  rfl
theorem set_cup1 {n : Nat} {st : Store} {a b c : Int} (e : st[n]? = some (Cup a b)) : setAt st (.hdl n) (.int 1) (.int c) = some (st.set n (Cup a c)) := by
  unfold setAt
  simp only [e, Cup]
  rfl
theorem mulOk_r {i j : Int} (h : -18446744073709551616 < j ∧ j < 18446744073709551616) : mulOk i j = true := (mulOk_iff i j).mpr (.inr h)
theorem mulOk_l {i j : Int} (h : -18446744073709551616 < i ∧ i < 18446744073709551616) : mulOk i j = true := (mulOk_iff i j).mpr (.inl h)
theorem roll_ok {n : Nat} {st : Store} {many : Int} (h : CupAt n st) (h1 : 0 < many) (h2 : many < 18446744073709551616) : Ok (F__law_roll [.hdl n, .int many] st) (fun u st' => ∃ r : Int, u = .int r ∧ 0 ≤ r ∧ r < many ∧ Drew n st st' ∧ CupAt n st') := by
  obtain ⟨a, b, e, ok⟩ := id h
  obtain ⟨ha, hb, hb2⟩ := ok
  unfold F__law_roll runB g__law_roll
  by_cases ha0 : 0 < a
  · refine Ok.eq (r' := .ok (.int (a % many)) (st.set n (Cup (a / many) b))) ?_ (Ok.pure ⟨a % many, rfl, Int.emod_nonneg _ (by omega), Int.emod_lt_of_pos _ h1, ?_, ?_⟩)
    · simp [ix_cup0 e, set_cup0 e, oMod_i, oDivW_i, ha0, h1, h2]
    · exact ⟨_, b, rfl, Int.ediv_nonneg ha (by omega), hb, hb2⟩
    · exact Drew.cup ⟨_, b, rfl, Int.ediv_nonneg ha (by omega), hb, hb2⟩ h
  · have hm : mulOk b 31051 = true := mulOk_r (by omega)
    have hc := Int.emod_nonneg (b * 31051 + 7993) (show (2147483543 : Int) ≠ 0 by decide)
    have hc2 := Int.emod_lt_of_pos (b * 31051 + 7993) (show (0 : Int) < 2147483543 by decide)
    generalize hC : (b * 31051 + 7993) % 2147483543 = c at hc hc2
    have hm2 : mulOk c (c + 233) = true := mulOk_l (by omega)
    have e' : (st.set n (Cup a c))[n]? = some (Cup a c) := by rw [List.getElem?_set_self h.lt]
    refine Ok.eq (r' := .ok (.int (c * (c + 233) % 2147483587 / 823 % many)) (st.set n (Cup a c))) ?_ (Ok.pure ⟨_, rfl, Int.emod_nonneg _ (by omega), Int.emod_lt_of_pos _ h1, ?_, ?_⟩)
    · simp [ix_cup0 e, ix_cup1 e, ix_cup1 e', set_cup1 e, oMod_i, oDivW_i, oMul_i, ha0, h1, h2, hm, hm2, hC]
    · exact ⟨a, c, rfl, ha, hc, by omega⟩
    · exact Drew.cup ⟨a, c, rfl, ha, hc, by omega⟩ h
end Z
namespace Z
open PySem PySem.Spec PyProof.Rows L2
theorem cup_ok (ns : List Int) (h : ns.length ≤ 63) (u : U) (hu : u = .frz (ns.map .int) ∨ u = .lst (ns.map .int)) : ∃ a b, F__law_cup [u] [] = .ok (.hdl 0) [Cup a b] ∧ CupOk a b := by
  have ol : oList [] u = some (.lst (ns.map .int)) := by rcases hu with rfl | rfl <;> rfl
  clear hu
  have key : ∃ c : Int, atI (ns.map U.int ++ [.int 0]) 0 = some (.int c) := by
    cases ns with
    | nil => exact ⟨0, by simp⟩
    | cons n ns => exact ⟨n, by simp⟩
  obtain ⟨c, hc⟩ := key
  have h2 : oAdd [] (.lst (ns.map U.int)) (.lst [.int 0]) = some (.lst (ns.map U.int ++ [.int 0])) := by
    simp only [oAdd, deref]
    rw [if_pos (by simp; omega)]
  generalize hd : (if c < 0 then -c else c) = d
  have hd0 : 0 ≤ d := by
    rw [← hd]
    split <;> omega
  have hm : mulOk d 281 = true := mulOk_r (by omega)
  have hp : oPow [] (.int 10) (.int 18) = some (.int 1000000000000000000) := by
    simp [oPow]
  have q1 := Int.emod_nonneg (d * 281 + 2683) (show (2077503161 : Int) ≠ 0 by decide)
  have q2 := Int.emod_lt_of_pos (d * 281 + 2683) (show (0 : Int) < 2077503161 by decide)
  refine ⟨if 1000000000000000000 ≤ d then d / 71 else 0, (d * 281 + 2683) % 2077503161 + 167, ?_, ?_, by omega, by omega⟩
  · unfold F__law_cup runB g__law_cup
    by_cases hb : 1000000000000000000 ≤ d
    · simp [ol, h2, hc, hd, hp, hb, oMod_i, oDiv_i, oMul_i, hm, Cup]
    · simp [ol, h2, hc, hd, hp, hb, oMod_i, oDiv_i, oMul_i, hm, Cup]
  · split
    · exact Int.ediv_nonneg hd0 (by decide)
    · exact Int.le_refl _
theorem some_ok {n : Nat} {st : Store} {xs : List U} (h : CupAt n st) (h1 : xs ≠ []) (h2 : xs.length < 1073741824) : Ok (F__law_some [.hdl n, .lst xs] st) (fun u st' => u ∈ xs ∧ Drew n st st' ∧ CupAt n st') := by
  have hl : 0 < xs.length := List.length_pos_iff.mpr h1
  unfold F__law_some runB g__law_some
  obtain ⟨u, st', e, r, rfl, r1, r2, d, c⟩ := roll_ok (many := (xs.length : Int)) h (by omega) (by omega)
  have e3 : atI xs r = some (xs[r.toNat]'(by omega)) := by
    have := atI_n xs r.toNat (by omega)
    rwa [Int.toNat_of_nonneg r1] at this
  refine ⟨xs[r.toNat]'(by omega), st', ?_, List.getElem_mem _, d, c⟩
  simp [e, e3]
theorem someT_ok {n : Nat} {st : Store} {xs : List U} (h : CupAt n st) (h1 : xs ≠ []) (h2 : xs.length < 1073741824) : Ok (F__law_some [.hdl n, .tup xs] st) (fun u st' => u ∈ xs ∧ Drew n st st' ∧ CupAt n st') := by
  have hl : 0 < xs.length := List.length_pos_iff.mpr h1
  unfold F__law_some runB g__law_some
  obtain ⟨u, st', e, r, rfl, r1, r2, d, c⟩ := roll_ok (many := (xs.length : Int)) h (by omega) (by omega)
  have e3 : atI xs r = some (xs[r.toNat]'(by omega)) := by
    have := atI_n xs r.toNat (by omega)
    rwa [Int.toNat_of_nonneg r1] at this
  refine ⟨xs[r.toNat]'(by omega), st', ?_, List.getElem_mem _, d, c⟩
  simp [e, e3]
/-- a drawn value -/
def Dp (P : U → Prop) (n : Nat) (st : Store) (u : U) (st' : Store) : Prop := P u ∧ Drew n st st' ∧ CupAt n st'
theorem some_all {n : Nat} {st : Store} {xs : List U} (P : U → Prop) (h : CupAt n st) (hp : ∀ x ∈ xs, P x) (h1 : xs ≠ []) (h2 : xs.length < 1073741824) : Ok (F__law_some [.hdl n, .lst xs] st) (Dp P n st) :=
  (some_ok h h1 h2).imp fun u st' ⟨hm, d, c⟩ => ⟨hp u hm, d, c⟩
theorem roll_all {n : Nat} {st : Store} {many : Int} (h : CupAt n st) (h1 : 0 < many) (h2 : many < 18446744073709551616) : Ok (F__law_roll [.hdl n, .int many] st) (Dp (fun u => ∃ r : Int, u = .int r ∧ 0 ≤ r ∧ r < many) n st) :=
  (roll_ok h h1 h2).imp fun u st' ⟨r, e, a, b, d, c⟩ => ⟨⟨r, e, a, b⟩, d, c⟩
theorem Dp.then {P P' : U → Prop} {n : Nat} {st st1 st2 : Store} {u w : U} (a : Dp P n st u st1) (b : Dp P' n st1 w st2) : Dp P' n st w st2 := ⟨b.1, a.2.1.trans b.2.1, b.2.2⟩
/-! ### cells behind the cup's -/
theorem set_app {n : Nat} {st r : Store} {c : Cell} (h : n < st.length) : (st ++ r).set n c = st.set n c ++ r := by
  rw [List.set_append_left _ _ h]
theorem CupAt.app {n : Nat} {st : Store} (h : CupAt n st) (r : Store) : CupAt n (st ++ r) := by
  obtain ⟨a, b, e, ok⟩ := id h
  exact ⟨a, b, by rw [List.getElem?_append_left h.lt]; exact e, ok⟩
theorem Drew.app {n : Nat} {st r st' : Store} (d : Drew n (st ++ r) st') (h : n < st.length) : ∃ st1, st' = st1 ++ r ∧ Drew n st st1 := by
  obtain ⟨a, b, rfl, ok⟩ := d
  exact ⟨_, set_app h, a, b, rfl, ok⟩
theorem Drew.len {n : Nat} {st st' : Store} (d : Drew n st st') : st'.length = st.length := by
  obtain ⟨a, b, rfl, _⟩ := d
  simp
theorem Drew.refl {n : Nat} {st : Store} (h : CupAt n st) : Drew n st st := by
  obtain ⟨a, b, e, ok⟩ := h
  refine ⟨a, b, ?_, ok⟩
  obtain ⟨hn, e⟩ := List.getElem?_eq_some_iff.mp e
  rw [← e, List.set_getElem_self]
theorem okCells_set {m : Nat} {c : Cell} (hc : hltC m c = true) : ∀ (st r : Store) (n : Nat), okCells m st (st.set n c ++ r) = true
  | [], _, _ => rfl
  | d :: st, r, 0 => by simp [okCells, hc]
  | d :: st, r, n + 1 => by simp [okCells, beqC_refl, okCells_set hc st r n]
theorem trim_drew {n : Nat} {st st1 r : Store} {u : U} (d : Drew n st st1) (h : hltU st.length u = true) : trimV st u (st1 ++ r) = .ok u st1 := by
  have l := d.len
  obtain ⟨a, b, rfl, _⟩ := d
  unfold trimV
  rw [okCells_set (by rfl), melt_hlt _ _ _ h]
  simp only [if_true]
  rw [← l, List.take_left]
end Z

namespace Z
open PySem PySem.Spec PyProof.Rows L2

/-! ### whole numbers, tuples, words -/
def wholeB (lo hi : Int) : U → Bool
  | .int i => decide (lo ≤ i) && decide (i ≤ hi)
  | _ => false
def tupB (lo hi : Int) : U → Bool
  | .tup xs => decide (lo ≤ xs.length) && decide ((xs.length : Int) ≤ hi)
  | _ => false
def blB : U → Bool
  | .bl _ => true
  | _ => false
def alph : List Nat := (Str.ofString "0123456789abcdefghijklmnopqrstuvwxyz").cps.toList
def signB (c : Nat) : Bool := decide (c ∈ alph)
def signsB (lo hi : Int) : U → Bool
  | .str x => decide (lo ≤ x.length) && decide ((x.length : Int) ≤ hi) && x.cps.toList.all signB
  | _ => false
def wordB (u : U) : Bool := signsB 1 12 u
def wordsB (lo hi : Int) (u : U) : Bool := tupB lo hi u && (match u with
  | .tup xs => xs.all wordB
  | _ => false)
section
variable {d : Nat} {v : U} {lo hi : Int} {st : Store}
theorem is_integer_eq (h : pl d v = true) : F_is_integer [v, .int lo, .int hi] st = .ok (.bl (wholeB lo hi v)) st := by
  unfold F_is_integer runB g_is_integer
  rcases pl_cases h with rfl | ⟨b, rfl⟩ | ⟨i, rfl⟩ | ⟨x, rfl⟩ | ⟨xs, rfl, _⟩ | ⟨xs, rfl, _⟩
  case inr.inr.inl =>
    by_cases h1 : lo ≤ i
    · by_cases h2 : i ≤ hi <;> simp [wholeB, h1, h2]
    · simp [wholeB, h1]
  all_goals simp [wholeB]
theorem is_truth_eq (h : pl d v = true) : F_is_truth [v] st = .ok (.bl (blB v)) st := by
  unfold F_is_truth runB g_is_truth
  rcases pl_cases h with rfl | ⟨b, rfl⟩ | ⟨i, rfl⟩ | ⟨x, rfl⟩ | ⟨xs, rfl, _⟩ | ⟨xs, rfl, _⟩ <;> simp [blB]
theorem is_tuple_eq (h : pl d v = true) : F_is_tuple [v, .int lo, .int hi] st = .ok (.bl (tupB lo hi v)) st := by
  unfold F_is_tuple runB g_is_tuple
  rcases pl_cases h with rfl | ⟨b, rfl⟩ | ⟨i, rfl⟩ | ⟨x, rfl⟩ | ⟨xs, rfl, _⟩ | ⟨xs, rfl, _⟩
  case inr.inr.inr.inr.inl =>
    by_cases h1 : lo ≤ (xs.length : Int)
    · by_cases h2 : (xs.length : Int) ≤ hi <;> simp [tupB, h1, h2]
    · simp [tupB, h1]
  all_goals simp [tupB]
theorem are_signs_eq (h : pl d v = true) : F_are_signs [v, .int lo, .int hi] st = .ok (.bl (signsB lo hi v)) st := by
  unfold F_are_signs runB g_are_signs
  rcases pl_cases h with rfl | ⟨b, rfl⟩ | ⟨i, rfl⟩ | ⟨x, rfl⟩ | ⟨xs, rfl, _⟩ | ⟨xs, rfl, _⟩
  case inr.inr.inr.inl =>
    by_cases h1 : lo ≤ (x.length : Int)
    · by_cases h2 : (x.length : Int) ≤ hi
      · obtain ⟨o', e⟩ := forU_all (P := fun u => match u with | .str ⟨a⟩ => a.toList.all signB | _ => false) (B := B_are_signs_1) (i := 3) (E := fun o => [some (.str x), some (.int lo), some (.int hi), o]) (st := st) (u := .bl false) (signsOf x) none (by
            intro y hy o
            obtain ⟨c, hc, rfl⟩ := List.mem_map.mp hy
            simp only [B_are_signs_1, u_SIGNS, gNm, sIf, dTest, dBin, dName, dC, oNotIn, inU_sign, R.bind_ok, List.set, List.getElem?_cons_succ, List.getElem?_cons_zero, R.ofO_some, Option.map_some, asB_bl, sRet, sNext]
            by_cases hs : c ∈ alph
            · simp [signB, hs, alph] at *
            · simp [signB, hs, alph] at *)
        have e2 : ((signsOf x).all fun u => match u with | .str ⟨a⟩ => a.toList.all signB | _ => false) = x.cps.toList.all signB := by
          unfold signsOf
          rw [List.all_map]
          simp [Function.comp_def]
        simp only [e2] at e
        cases ha : x.cps.toList.all signB with
        | true =>
          rw [ha] at e
          simp [signsB, h1, h2, itemsOf, e, ha]
        | false =>
          rw [ha] at e
          simp [signsB, h1, h2, itemsOf, e, ha]
      · simp [signsB, h1, h2]
    · simp [signsB, h1]
  all_goals simp [signsB]
end
/-! ### ascending rows -/
def ascB : List U → Bool
  | x :: y :: r => ltU x y && ascB (y :: r)
  | _ => true
theorem oLt_c {st : Store} {x y : U} (hx : pl 60 x = true) (hy : pl 60 y = true) (hc : canLt x y = true) (hb : nb x = true) : oLt st x y = some (.bl (ltU x y)) := by
  cases x with
  | int i => cases y with
    | int j => rfl
    | _ => simp [canLt] at hc
  | str i => cases y with
    | str j => rfl
    | _ => simp [canLt] at hc
  | tup xs => cases y with
    | tup ys =>
      have h1 : pls 60 xs = true := pls_up (pl_tups hx)
      have h2 : pls 60 ys = true := pls_up (pl_tups hy)
      have h3 : canLts xs ys = true := hc
      unfold oLt
      simp only [h1, h2, h3, Bool.and_self, if_true]
      rfl
    | _ => simp [canLt] at hc
  | bl _ => simp [nb] at hb
  | _ => cases y <;> simp [canLt] at hc
def ltAt (xs : List U) : U → Bool
  | .int i => ltU (xs.getD (i - 1).toNat .non) (xs.getD i.toNat .non)
  | _ => false
theorem rangeU_succ (lo : Int) (n : Nat) : rangeU lo (lo + (n + 1 : Nat)) = .int lo :: rangeU (lo + 1) (lo + 1 + (n : Nat)) := by
  unfold rangeU
  rw [show (lo + ((n + 1 : Nat) : Int) - lo).toNat = n + 1 by omega, show (lo + 1 + (n : Int) - (lo + 1)).toNat = n by omega, List.range_succ_eq_map]
  simp only [List.map_cons, List.map_map]
  congr 1
  · simp
  · apply List.map_congr_left
    intro a _
    simp only [Function.comp_apply]
    congr 1
    push_cast
    omega
theorem asc_range (pre : List U) : ∀ (xs : List U) (x : U), (rangeU (pre.length + 1 : Nat) ((pre.length + 1 : Nat) + (xs.length : Nat))).all (ltAt (pre ++ x :: xs)) = ascB (x :: xs)
  | [], x => by simp [rangeU, ascB]
  | y :: ys, x => by
    have ih := asc_range (pre ++ [x]) ys y
    rw [List.append_assoc, List.length_append] at ih
    simp only [List.length_cons, List.length_nil, Nat.zero_add, List.singleton_append] at ih
    rw [List.length_cons, rangeU_succ, List.all_cons, ascB]
    have e : ((pre.length + 1 + 1 : Nat) : Int) = ((pre.length + 1 : Nat) : Int) + 1 := by push_cast; rfl
    rw [← e, ih]
    congr 1
    simp only [ltAt]
    have e1 : (((pre.length + 1 : Nat) : Int) - 1).toNat = pre.length := by omega
    have e2 : (((pre.length + 1 : Nat) : Int)).toNat = pre.length + 1 := by omega
    rw [e1, e2]
    simp [List.getD_eq_getElem?_getD, List.getElem?_append_right]
theorem asc_all (xs : List U) : (rangeU 1 xs.length).all (ltAt xs) = ascB xs := by
  cases xs with
  | nil => rfl
  | cons x xs =>
    have := asc_range [] xs x
    simp only [List.length_nil, Nat.zero_add, List.nil_append] at this
    rw [← this]
    congr 2
    simp only [List.length_cons]
    push_cast
    omega
theorem rg_len {n : Nat} (h : n ≤ 16777216) : rgOk (n : Int) := by
  rw [rgOk_iff]
  omega
theorem is_asc_gen {st : Store} {u : U} {xs : List U} (hx : pls 60 xs = true) (hc : ∀ x ∈ xs, ∀ y ∈ xs, canLt x y = true) (hb : ∀ x ∈ xs, nb x = true) (hu : u = .tup xs ∨ u = .lst xs) (hl : xs.length ≤ 16777216) : F_is_ascending [u] st = .ok (.bl (ascB xs)) st := by
  unfold F_is_ascending runB g_is_ascending
  have ol : oLen st u = some (.int xs.length) := by rcases hu with rfl | rfl <;> rfl
  have hix : ∀ i : Int, 0 ≤ i → i < xs.length → ixU st u (.int i) = some (xs.getD i.toNat .non) ∧ xs.getD i.toNat .non ∈ xs := by
    intro i h0 h1
    have hn : i.toNat < xs.length := by omega
    have e := atI_n xs i.toNat hn
    rw [Int.toNat_of_nonneg h0] at e
    have e2 : xs.getD i.toNat .non = xs[i.toNat] := by simp [List.getD_eq_getElem?_getD, hn]
    rw [e2]
    refine ⟨?_, List.getElem_mem _⟩
    rcases hu with rfl | rfl <;> exact e
  obtain ⟨o', e⟩ := forU_all (P := ltAt xs) (B := B_is_ascending_1) (i := 1) (E := fun o => [some u, o]) (st := st) (u := .bl false) (rangeU 1 xs.length) none (by
    intro x hx' o
    obtain ⟨i, rfl, h1, h2⟩ := rangeU_mem hx'
    obtain ⟨a1, a2⟩ := hix (i - 1) (by omega) (by omega)
    obtain ⟨b1, b2⟩ := hix i (by omega) (by omega)
    have el := oLt_c (st := st) (pls_mem.mp hx _ a2) (pls_mem.mp hx _ b2) (hc _ a2 _ b2) (hb _ a2)
    unfold B_is_ascending_1
    have ew : ltAt xs (.int i) = ltU (xs.getD (i - 1).toNat .non) (xs.getD i.toNat .non) := rfl
    rw [ew]
    clear ew a2 b2
    generalize xs.getD (i - 1).toNat .non = p at a1 el ⊢
    generalize xs.getD i.toNat .non = q at b1 el ⊢
    cases hw : ltU p q with
    | true =>
      rw [hw] at el
      simp [a1, b1, el]
    | false =>
      rw [hw] at el
      simp [a1, b1, el])
  have r1 : rgOk 1 := by decide
  have r2 : rgOk (xs.length : Int) := rg_len hl
  rw [asc_all] at e
  cases ha : ascB xs with
  | true =>
    rw [ha] at e
    simp [ol, r1, r2, e]
  | false =>
    rw [ha] at e
    simp [ol, r1, r2, e]
/-- a tuple of these, ascending -/
def ascOf (P : U → Bool) (lo hi : Int) (u : U) : Bool := tupB lo hi u && (match u with
  | .tup xs => xs.all P && ascB xs
  | _ => false)
end Z

namespace Z
open PySem PySem.Spec PyProof.Rows L2

/-! ### subtrees, other names -/
def subtreeB (u : U) : Bool := match u with
  | .tup [k, a] => (eqD k (.str "house") || eqD k (.str "name")) && wordsB 0 4 a
  | .tup [k, a, b] => if eqD k (.str "letter") = true then (eqD a (.str "") || wordB a) && wordsB 0 4 b else eqD k (.str "number") && (wholeB 0 65535 a && (wholeB 0 65535 b && (match a, b with
    | .int i, .int j => decide (i ≤ j)
    | _, _ => false)))
  | _ => false
def otherB (u : U) : Bool := match u with
  | .tup [k, a] => if eqD k (.str "house") = true then wordsB 1 4 a else eqD k (.str "number") && wholeB 0 65535 a
  | .tup [k, a, b] => eqD k (.str "letter") && (wordB a && wordsB 1 4 b)
  | _ => false
theorem wholeB_int {lo hi : Int} {u : U} (h : wholeB lo hi u = true) : ∃ i, u = .int i ∧ lo ≤ i ∧ i ≤ hi := by
  cases u with
  | int i => simp only [wholeB, Bool.and_eq_true, decide_eq_true_eq] at h; exact ⟨i, rfl, h⟩
  | _ => simp [wholeB] at h
theorem wordB_str {u : U} (h : wordB u = true) : ∃ x, u = .str x := by
  cases u with
  | str x => exact ⟨x, rfl⟩
  | _ => simp [wordB, signsB] at h
theorem wordsB_tup {lo hi : Int} {u : U} (h : wordsB lo hi u = true) : ∃ xs, u = .tup xs ∧ (∀ x ∈ xs, wordB x = true) ∧ lo ≤ xs.length ∧ (xs.length : Int) ≤ hi := by
  cases u with
  | tup xs =>
    simp only [wordsB, tupB, Bool.and_eq_true, decide_eq_true_eq] at h
    exact ⟨xs, rfl, List.all_eq_true.mp h.2, h.1.1, h.1.2⟩
  | _ => simp [wordsB, tupB] at h
section
variable {d : Nat} {v : U} {lo hi : Int} {st : Store}
theorem len23 {xs : List U} (h1 : 2 ≤ xs.length) (h2 : xs.length ≤ 3) : (∃ a b, xs = [a, b]) ∨ ∃ a b c, xs = [a, b, c] := by
  match xs, h1, h2 with
  | [a, b], _, _ => exact .inl ⟨a, b, rfl⟩
  | [a, b, c], _, _ => exact .inr ⟨a, b, c, rfl⟩
  | _ :: _ :: _ :: _ :: _, _, h => simp at h
theorem tup23 {xs : List U} : tupB 2 3 (.tup xs) = true ↔ (∃ a b, xs = [a, b]) ∨ ∃ a b c, xs = [a, b, c] := by
  simp only [tupB, Bool.and_eq_true, decide_eq_true_eq]
  constructor
  · intro h
    exact len23 (by omega) (by omega)
  · rintro (⟨a, b, rfl⟩ | ⟨a, b, c, rfl⟩) <;> simp
theorem not23 {xs : List U} (h : tupB 2 3 (.tup xs) = false) : subtreeB (.tup xs) = false ∧ otherB (.tup xs) = false := by
  match xs, h with
  | [], _ => exact ⟨rfl, rfl⟩
  | [_], _ => exact ⟨rfl, rfl⟩
  | [_, _], h => simp [tupB] at h
  | [_, _, _], h => simp [tupB] at h
  | _ :: _ :: _ :: _ :: _, _ => exact ⟨rfl, rfl⟩
end

/-! ### what can be put in order -/
theorem canLt_words : ∀ (xs ys : List U), (∀ x ∈ xs, wordB x = true) → (∀ y ∈ ys, wordB y = true) → canLts xs ys = true
  | [], _, _, _ => by cases ‹List U› <;> rfl
  | _ :: _, [], _, _ => rfl
  | x :: xs, y :: ys, hx, hy => by
    obtain ⟨a, rfl⟩ := wordB_str (hx x (by simp))
    obtain ⟨b, rfl⟩ := wordB_str (hy y (by simp))
    have ih := canLt_words xs ys (fun z hz => hx z (by simp [hz])) (fun z hz => hy z (by simp [hz]))
    simp only [canLts, tyN, beq_self_eq_true, Bool.true_and]
    split
    · exact ih
    · rfl
theorem canLt_word {x y : U} (hx : wordB x = true) (hy : wordB y = true) : canLt x y = true := by
  obtain ⟨a, rfl⟩ := wordB_str hx
  obtain ⟨b, rfl⟩ := wordB_str hy
  rfl
theorem canLt_name {lo hi lo' hi' : Int} {x y : U} (hx : wordsB lo hi x = true) (hy : wordsB lo' hi' y = true) : canLt x y = true := by
  obtain ⟨a, rfl, ha, _⟩ := wordsB_tup hx
  obtain ⟨b, rfl, hb, _⟩ := wordsB_tup hy
  exact canLt_words a b ha hb
theorem tyN_name {lo hi : Int} {x : U} (hx : wordsB lo hi x = true) : tyN x = 4 := by
  obtain ⟨a, rfl, ha, _⟩ := wordsB_tup hx
  rfl
theorem tyN_word {x : U} (hx : wordB x = true) : tyN x = 3 := by
  obtain ⟨a, rfl⟩ := wordB_str hx
  rfl
theorem nb_word {x : U} (hx : wordB x = true) : nb x = true := by
  obtain ⟨a, rfl⟩ := wordB_str hx
  rfl
theorem nb_name {lo hi : Int} {x : U} (hx : wordsB lo hi x = true) : nb x = true := by
  obtain ⟨a, rfl, _⟩ := wordsB_tup hx
  rfl
/-- what an other name is -/
theorem otherB_cases {u : U} (h : otherB u = true) : (∃ a, u = .tup [.str "house", a] ∧ wordsB 1 4 a = true) ∨ (∃ i, u = .tup [.str "number", .int i] ∧ 0 ≤ i ∧ i ≤ 65535) ∨ ∃ a b, u = .tup [.str "letter", a, b] ∧ wordB a = true ∧ wordsB 1 4 b = true := by
  unfold otherB at h
  split at h
  · rename_i k a
    split at h
    · rename_i q
      rw [eqD_str] at q; subst q
      exact .inl ⟨a, rfl, h⟩
    · rw [Bool.and_eq_true, eqD_str] at h
      obtain ⟨rfl, h⟩ := h
      obtain ⟨i, rfl, h2⟩ := wholeB_int h
      exact .inr (.inl ⟨i, rfl, h2⟩)
  · rename_i k a b
    rw [Bool.and_eq_true, Bool.and_eq_true, eqD_str] at h
    obtain ⟨rfl, h1, h2⟩ := h
    exact .inr (.inr ⟨a, b, rfl, h1, h2⟩)
  · cases h
theorem subtreeB_cases {u : U} (h : subtreeB u = true) : (∃ a, u = .tup [.str "house", a] ∧ wordsB 0 4 a = true) ∨ (∃ a, u = .tup [.str "name", a] ∧ wordsB 0 4 a = true) ∨ (∃ i j, u = .tup [.str "number", .int i, .int j] ∧ 0 ≤ i ∧ i ≤ j ∧ j ≤ 65535) ∨
    ∃ x b, u = .tup [.str "letter", .str x, b] ∧ (x = "" ∨ wordB (.str x) = true) ∧ wordsB 0 4 b = true := by
  unfold subtreeB at h
  split at h
  · rename_i k a
    rw [Bool.and_eq_true, Bool.or_eq_true, eqD_str, eqD_str] at h
    obtain ⟨rfl | rfl, h⟩ := h
    · exact .inl ⟨a, rfl, h⟩
    · exact .inr (.inl ⟨a, rfl, h⟩)
  · rename_i k a b
    split at h
    · rename_i q
      rw [eqD_str] at q; subst q
      rw [Bool.and_eq_true, Bool.or_eq_true, eqD_str] at h
      obtain ⟨rfl | h1, h⟩ := h
      · exact .inr (.inr (.inr ⟨_, b, rfl, .inl rfl, h⟩))
      · obtain ⟨x, rfl⟩ := wordB_str h1
        exact .inr (.inr (.inr ⟨x, b, rfl, .inr h1, h⟩))
    · rw [Bool.and_eq_true, Bool.and_eq_true, Bool.and_eq_true, eqD_str] at h
      obtain ⟨rfl, h1, h2, h3⟩ := h
      obtain ⟨i, rfl, a1, a2⟩ := wholeB_int h1
      obtain ⟨j, rfl, b1, b2⟩ := wholeB_int h2
      have h3 : i ≤ j := by simpa using h3
      exact .inr (.inr (.inl ⟨i, j, rfl, a1, h3, b2⟩))
  · cases h
theorem nb_other {x : U} (hx : otherB x = true) : nb x = true := by
  rcases otherB_cases hx with ⟨_, rfl, _⟩ | ⟨_, rfl, _⟩ | ⟨_, _, rfl, _⟩ <;> rfl
theorem nb_subtree {x : U} (hx : subtreeB x = true) : nb x = true := by
  rcases subtreeB_cases hx with ⟨_, rfl, _⟩ | ⟨_, rfl, _⟩ | ⟨_, _, rfl, _⟩ | ⟨_, _, rfl, _⟩ <;> rfl
theorem canLts_one {a b : U} (h : canLt a b = true) (t : tyN a = tyN b) : canLts [a] [b] = true := by
  simp only [canLts, t, beq_self_eq_true, Bool.true_and]
  split
  · rfl
  · exact h
theorem canLts_two {a b c e : U} (h : canLt a b = true) (t : tyN a = tyN b) (h2 : canLt c e = true) (t2 : tyN c = tyN e) : canLts [a, c] [b, e] = true := by
  simp only [canLts, t, t2, beq_self_eq_true, Bool.true_and]
  split
  · split
    · rfl
    · exact h2
  · exact h
theorem canLts_kind {k k' : Str} {xs ys : List U} (h : k = k' → canLts xs ys = true) : canLt (.tup (.str k :: xs)) (.tup (.str k' :: ys)) = true := by
  simp only [canLt, canLts, tyN, beq_self_eq_true, Bool.true_and]
  by_cases q : eqD (.str k) (.str k') = true
  · rw [if_pos q]; exact h (by simpa [eqD] using q)
  · rw [if_neg q]
theorem canLt_other {x y : U} (hx : otherB x = true) (hy : otherB y = true) : canLt x y = true := by
  rcases otherB_cases hx with ⟨a, rfl, ha⟩ | ⟨i, rfl, _⟩ | ⟨a, b, rfl, ha, hb⟩ <;> rcases otherB_cases hy with ⟨a', rfl, ha'⟩ | ⟨i', rfl, _⟩ | ⟨a', b', rfl, ha', hb'⟩ <;> refine canLts_kind fun q => ?_
  · exact canLts_one (canLt_name ha ha') (by rw [tyN_name ha, tyN_name ha'])
  · exact absurd q (by decide)
  · exact absurd q (by decide)
  · exact absurd q (by decide)
  · exact canLts_one rfl rfl
  · exact absurd q (by decide)
  · exact absurd q (by decide)
  · exact absurd q (by decide)
  · exact canLts_two (canLt_word ha ha') (by rw [tyN_word ha, tyN_word ha']) (canLt_name hb hb') (by rw [tyN_name hb, tyN_name hb'])
theorem canLt_subtree {x y : U} (hx : subtreeB x = true) (hy : subtreeB y = true) : canLt x y = true := by
  rcases subtreeB_cases hx with ⟨a, rfl, ha⟩ | ⟨a, rfl, ha⟩ | ⟨i, j, rfl, _⟩ | ⟨a, b, rfl, ha, hb⟩ <;> rcases subtreeB_cases hy with ⟨a', rfl, ha'⟩ | ⟨a', rfl, ha'⟩ | ⟨i', j', rfl, _⟩ | ⟨a', b', rfl, ha', hb'⟩ <;> refine canLts_kind fun q => ?_
  all_goals first
    | exact absurd q (by decide)
    | exact canLts_one (canLt_name ha ha') (by rw [tyN_name ha, tyN_name ha'])
    | exact canLts_two rfl rfl rfl rfl
    | exact canLts_two rfl rfl (canLt_name hb hb') (by rw [tyN_name hb, tyN_name hb'])
end Z

namespace Z
open PySem PySem.Spec PyProof.Rows L2

/-! ### parts -/
def policyB (u : U) : Bool := wordB u && !eqD u (.str "any")
def pairB (P Q : U → Bool) (u : U) : Bool := match u with
  | .tup [a, b] => P a && Q b
  | _ => false
def mappingB (u : U) : Bool := pairB policyB policyB u
def oddB (u : U) : Bool := pairB blB wordB u
def basicB (u : U) : Bool := match u with
  | .tup [.bl t, .int n] => decide (-1 ≤ n) && (decide (n ≤ 8) && (t || n == -1))
  | _ => false
def limitsB (u : U) : Bool := match u with
  | .tup [.int a, .int b] => decide (-1 ≤ a) && (decide (a ≤ 8) && (decide (-1 ≤ b) && (decide (b ≤ 8) && (decide (0 ≤ a) || decide (0 ≤ b)))))
  | _ => false
def inWs (ws : List Str) : U → Bool
  | .str z => decide (z ∈ ws)
  | _ => false
def someOfB (ws : List Str) (u : U) : Bool := tupB 0 ws.length u && (match u with
  | .tup xs => xs.all (inWs ws) && ascB xs
  | _ => false)
theorem tup22 {xs : List U} : tupB 2 2 (.tup xs) = true ↔ ∃ a b, xs = [a, b] := by
  simp only [tupB, Bool.and_eq_true, decide_eq_true_eq]
  constructor
  · intro h
    match xs, h with
    | [a, b], _ => exact ⟨a, b, rfl⟩
    | [], h => simp at h
    | [_], h => simp at h
    | _ :: _ :: _ :: _, h => simp at h; omega
  · rintro ⟨a, b, rfl⟩; simp
theorem not22 {xs : List U} (h : tupB 2 2 (.tup xs) = false) (P Q : U → Bool) : pairB P Q (.tup xs) = false ∧ basicB (.tup xs) = false ∧ limitsB (.tup xs) = false := by
  match xs, h with
  | [], _ => simp [pairB, basicB, limitsB]
  | [_], _ => simp [pairB, basicB, limitsB]
  | [_, _], h => simp [tupB] at h
  | _ :: _ :: _ :: _, _ => simp [pairB, basicB, limitsB]
section
variable {v : U} {lo hi : Int} {st : Store}
theorem canLt_strs {x y : U} {ws : List Str} (hx : inWs ws x = true) (hy : inWs ws y = true) : canLt x y = true ∧ nb x = true := by
  cases x with
  | str x => cases y with
    | str y => exact ⟨rfl, rfl⟩
    | _ => simp [inWs] at hy
  | _ => simp [inWs] at hx
theorem any_ws (ws : List Str) (u : U) : ((ws.map U.str).any fun y => eqD y u) = inWs ws u := by
  rw [any_strs]; cases u <;> rfl
end
end Z

namespace Z
open PySem PySem.Spec PyProof.Rows L2

/-! ### the parts' checks -/
def purposesAny : List Str := ["any", "call", "serve", "sign", "stamp"]
def usesAll : List Str := ["agree", "certs", "lists", "sign"]
def checks : List (Str × Str × (U → Bool)) := [("anylimit", "is_any_limit", wholeB 0 8), ("basic", "is_basic", basicB), ("excluded", "are_part_subtrees", ascOf subtreeB 1 8), ("lists", "are_part_lists", ascOf (wordsB 1 4) 1 4),
  ("mappings", "are_mappings", ascOf mappingB 1 8), ("names", "are_part_names", ascOf otherB 1 8), ("odd", "is_odd", oddB), ("permitted", "are_part_subtrees", ascOf subtreeB 1 8), ("policies", "are_policies", ascOf wordB 1 8),
  ("policylimits", "are_policy_limits", limitsB), ("purposes", "are_part_purposes", someOfB purposesAny), ("uses", "are_part_uses", someOfB usesAll)]
def checkOf : List (Str × Str × (U → Bool)) → Str → Option (Str × (U → Bool))
  | [], _ => none
  | (k, f, P) :: r, x => if x = k then some (f, P) else checkOf r x
def partB (u : U) : Bool := match u with
  | .tup [.str k, v] => (match checkOf checks k with
    | some (_, P) => P v
    | none => false)
  | _ => false
def fstU : U → U
  | .tup (a :: _) => a
  | _ => .non
def partsB (u : U) : Bool := tupB 0 12 u && (match u with
  | .tup xs => xs.all partB && ascB (xs.map fstU)
  | _ => false)
def spanB (a b : U) : Bool := wholeB 0 1000000000 a && (wholeB 0 1000000000 b && (match a, b with
  | .int i, .int j => decide (i ≤ j)
  | _, _ => false))
def certB (u : U) : Bool := match u with
  | .tup [serial, issuer, subject, key, sealer, since, until_, parts, seal_] => (wholeB 0 1000000 serial && (wordsB 1 4 issuer && wordsB 1 4 subject)) && ((wholeB 0 4294967295 key && (wholeB 0 4294967295 sealer && spanB since until_)) && (partsB parts && wholeB 0 4294967295 seal_))
  | _ => false
section
variable {v : U} {lo hi : Int} {st : Store}
theorem canLt_mapping {x y : U} (hx : mappingB x = true) (hy : mappingB y = true) : canLt x y = true := by
  unfold mappingB pairB at hx hy
  split at hx
  · rename_i a b
    split at hy
    · rename_i a' b'
      simp only [Bool.and_eq_true, policyB] at hx hy
      exact canLts_two (canLt_word hx.1.1 hy.1.1) (by rw [tyN_word hx.1.1, tyN_word hy.1.1]) (canLt_word hx.2.1 hy.2.1) (by rw [tyN_word hx.2.1, tyN_word hy.2.1])
    · cases hy
  · cases hx
theorem nb_mapping {x : U} (hx : mappingB x = true) : nb x = true := by
  unfold mappingB pairB at hx
  split at hx
  · rfl
  · cases hx
theorem partB_cases {u : U} (h : partB u = true) : ∃ k v, u = .tup [.str k, v] := by
  unfold partB at h
  split at h
  · rename_i k v; exact ⟨k, v, rfl⟩
  · cases h
theorem tup99 {xs : List U} : tupB 9 9 (.tup xs) = true ↔ ∃ a b c e f g h i j, xs = [a, b, c, e, f, g, h, i, j] := by
  simp only [tupB, Bool.and_eq_true, decide_eq_true_eq]
  constructor
  · intro h
    have hl : xs.length = 9 := by omega
    match xs, hl with
    | [a, b, c, e, f, g, h, i, j], _ => exact ⟨a, b, c, e, f, g, h, i, j, rfl⟩
  · rintro ⟨a, b, c, e, f, g, h, i, j, rfl⟩; simp
end
end Z

namespace Z
open PySem PySem.Spec PyProof.Rows L2

/-! ### what follows a statement -/
theorem Ok.seq {f g : UEnv → Store → R Fl} {ρ : UEnv} {st : Store} {Q : Fl → Store → Prop} (I : UEnv → Store → Prop) (h : ∀ Q' : Fl → Store → Prop, (∀ ρ' st', I ρ' st' → Q' (.nx ρ') st') → Ok (f ρ st) Q') (hk : ∀ ρ' st', I ρ' st' → Ok (g ρ' st') Q) : Ok (sSeq f g ρ st) Q := by
  obtain ⟨r, st', e, ρ', rfl, i⟩ := h (fun r st' => ∃ ρ', r = .nx ρ' ∧ I ρ' st') fun ρ' st' i => ⟨ρ', rfl, i⟩
  unfold sSeq
  rw [e]
  exact hk ρ' st' i
theorem Ok.seqE {f g : UEnv → Store → R Fl} {ρ ρ1 : UEnv} {st st1 : Store} {Q : Fl → Store → Prop} (h : f ρ st = .ok (.nx ρ1) st1) (hk : Ok (g ρ1 st1) Q) : Ok (sSeq f g ρ st) Q := by
  unfold sSeq
  rw [h]
  exact hk
theorem Ok.ite {α : Type} {c : Prop} [Decidable c] {r1 r2 : R α} {Q : α → Store → Prop} (h1 : c → Ok r1 Q) (h2 : ¬ c → Ok r2 Q) : Ok (if c then r1 else r2) Q := by
  split
  · exact h1 ‹_›
  · exact h2 ‹_›
/-- a draw with cells behind the cup's -/
def Db (P : U → Prop) (n : Nat) (st r : Store) (u : U) (st' : Store) : Prop := ∃ st1, st' = st1 ++ r ∧ P u ∧ Drew n st st1 ∧ CupAt n st1
theorem roll_app {n : Nat} {st : Store} {many : Int} (r : Store) (h : CupAt n st) (h1 : 0 < many) (h2 : many < 1073741824) : Ok (F__law_roll [.hdl n, .int many] (st ++ r)) (Db (fun u => ∃ i : Int, u = .int i ∧ 0 ≤ i ∧ i < many) n st r) := by
  refine (roll_all (h.app r) h1 (by omega)).imp fun u st' ⟨p, d, _⟩ => ?_
  obtain ⟨st1, rfl, d2⟩ := d.app h.lt
  exact ⟨st1, rfl, p, d2, d2.cup h⟩
theorem some_app {n : Nat} {st : Store} {xs : List U} (P : U → Prop) (r : Store) (h : CupAt n st) (hp : ∀ x ∈ xs, P x) (h1 : xs ≠ []) (h2 : xs.length < 1073741824) : Ok (F__law_some [.hdl n, .lst xs] (st ++ r)) (Db P n st r) := by
  refine (some_all P (h.app r) hp h1 h2).imp fun u st' ⟨p, d, _⟩ => ?_
  obtain ⟨st1, rfl, d2⟩ := d.app h.lt
  exact ⟨st1, rfl, p, d2, d2.cup h⟩
theorem set_dct {st : Store} {L : Nat} (hl : st.length = L) (ks us : List U) (k : Str) (v : U) (hk : ks.length < 16777216) : setAt (st ++ [.dct ks us]) (.hdl L) (.str k) v = some (st ++ [.dct (dSetK ks (.str k)) (dSetV ks us (.str k) v)]) := by
  subst hl
  unfold setAt
  simp [isKey, hk]
theorem deref_dct {st : Store} {L : Nat} (hl : st.length = L) (ks us : List U) : deref (st ++ [.dct ks us]) (.hdl L) = .dct ks us := by
  subst hl
  unfold deref
  simp

/-! ### a drawn certificate -/
def mkC (s i j k l a b : U) (ps : List U) (z : U) : U := .tup [s, i, j, k, l, a, b, .tup ps, z]
def bU : Option (Bool × Int) → List U
  | none => []
  | some (t, n) => [.tup [.str "basic", .tup [.bl t, .int n]]]
def pU (w : Str) : Option (List Str) → List U
  | none => []
  | some xs => [.tup [.str w, .tup (xs.map U.str)]]
def psU (bp : Option (Bool × Int)) (pp up : Option (List Str)) : List U := bU bp ++ pU "purposes" pp ++ pU "uses" up
def bpOk : Option (Bool × Int) → Prop
  | none => True
  | some (t, n) => -1 ≤ n ∧ n ≤ 8 ∧ (t = true ∨ n = -1)
def purpL : List (List Str) := [["serve"], ["call", "serve"], ["any"], ["any", "call"], ["stamp"], [], ["call", "serve", "sign", "stamp"]]
def usesL : List (List Str) := [["certs"], ["certs", "lists"], ["sign"], ["agree"], [], ["agree", "certs", "lists", "sign"]]
def ppOk (L : List (List Str)) : Option (List Str) → Prop
  | none => True
  | some xs => xs ∈ L
theorem purp_ok : ∀ xs ∈ purpL, someOfB purposesAny (.tup (xs.map U.str)) = true := by decide +kernel
theorem uses_ok : ∀ xs ∈ usesL, someOfB usesAll (.tup (xs.map U.str)) = true := by decide +kernel
/-- ascending keys of the parts -/
theorem basicB_ok {t : Bool} {n : Int} (h : bpOk (some (t, n))) : basicB (.tup [.bl t, .int n]) = true := by
  obtain ⟨h1, h2, h3⟩ := h
  simp only [basicB, Bool.and_eq_true, decide_eq_true_eq, Bool.or_eq_true, beq_iff_eq]
  exact ⟨h1, h2, h3⟩
theorem partB_basic {v : U} (h : basicB v = true) : partB (.tup [.str "basic", v]) = true := h
theorem partB_purp {v : U} (h : someOfB purposesAny v = true) : partB (.tup [.str "purposes", v]) = true := h
theorem partB_uses {v : U} (h : someOfB usesAll v = true) : partB (.tup [.str "uses", v]) = true := h
theorem partsB_ok {bp : Option (Bool × Int)} {pp up : Option (List Str)} (h1 : bpOk bp) (h2 : ppOk purpL pp) (h3 : ppOk usesL up) : partsB (.tup (psU bp pp up)) = true := by
  have q1 : ∀ x ∈ bU bp, partB x = true := by
    cases bp with
    | none => simp [bU]
    | some p => obtain ⟨t, n⟩ := p; simp only [bU, List.mem_singleton, forall_eq]; exact partB_basic (basicB_ok h1)
  have q2 : ∀ x ∈ pU "purposes" pp, partB x = true := by
    cases pp with
    | none => simp [pU]
    | some p => simp only [pU, List.mem_singleton, forall_eq]; exact partB_purp (purp_ok p h2)
  have q3 : ∀ x ∈ pU "uses" up, partB x = true := by
    cases up with
    | none => simp [pU]
    | some p => simp only [pU, List.mem_singleton, forall_eq]; exact partB_uses (uses_ok p h3)
  have q : (psU bp pp up).all partB = true := by
    rw [List.all_eq_true]
    intro x hx
    simp only [psU, List.mem_append] at hx
    rcases hx with (hx | hx) | hx
    · exact q1 x hx
    · exact q2 x hx
    · exact q3 x hx
  have l : tupB 0 12 (.tup (psU bp pp up)) = true := by
    rcases bp with _ | ⟨t, n⟩ <;> cases pp <;> cases up <;> rfl
  have a : ascB ((psU bp pp up).map fstU) = true := by
    rcases bp with _ | ⟨t, n⟩ <;> cases pp <;> cases up <;> rfl
  simp only [partsB, l, q, a, Bool.and_self]
def NmOk (u : U) : Prop := wordsB 1 4 u = true ∧ pl 2 u = true
/-- what is drawn -/
structure CertP (u : U) (bp : Option (Bool × Int)) (pp up : Option (List Str)) : Prop where
  sh : ∃ s i j k l a b z, u = mkC s i j k l a b (psU bp pp up) z
  ok : certB u = true
  pl : pl 10 u = true
  b : bpOk bp
  p : ppOk purpL pp
  u : ppOk usesL up
end Z

namespace Z
open PySem PySem.Spec PyProof.Rows L2

theorem insU_mem {x y : U} : ∀ {ys : List U}, y ∈ insU x ys ↔ y = x ∨ y ∈ ys
  | [] => by simp [insU]
  | z :: ys => by
    unfold insU
    split
    · rw [List.mem_cons, insU_mem, List.mem_cons]
      constructor
      · rintro (h | h | h)
        · exact .inr (.inl h)
        · exact .inl h
        · exact .inr (.inr h)
      · rintro (h | h | h)
        · exact .inr (.inl h)
        · exact .inl h
        · exact .inr (.inr h)
    · rw [List.mem_cons]
theorem sortU_mem {y : U} : ∀ {ys : List U}, y ∈ sortU ys ↔ y ∈ ys
  | [] => by simp [sortU]
  | z :: ys => by rw [sortU, insU_mem, sortU_mem, List.mem_cons]
theorem insU_length (x : U) : ∀ ys : List U, (insU x ys).length = ys.length + 1
  | [] => rfl
  | z :: ys => by
    unfold insU
    split
    · rw [List.length_cons, insU_length x ys, List.length_cons]
    · rfl
theorem sortU_length : ∀ ys : List U, (sortU ys).length = ys.length
  | [] => rfl
  | z :: ys => by rw [sortU, insU_length, sortU_length, List.length_cons]
theorem strsU_mem : ∀ {ks : List U} {xs : List Str}, strsU ks = some xs → ∀ k ∈ ks, ∃ x, k = .str x := fun {ks xs} h k hk => by
  have := strsU_eq h
  subst this
  obtain ⟨x, _, rfl⟩ := List.mem_map.mp hk
  exact ⟨x, rfl⟩
/-- the parts of a dict with texts -/
def pairsU (ks us : List U) : List U := (sortU ks).map fun k => .tup [k, (dGetU ks us k).getD .non]
theorem Ok.runB {n : Nat} {g : UEnv → Store → R Fl} {us : List U} {st : Store} {Q : U → Store → Prop} (h : ∀ Q' : Fl → Store → Prop, (∀ u st', Q u st' → Q' (.rt u) st') → Ok (g (us.map some ++ List.replicate (n - us.length) none) st) Q') : Ok (runB n g us st) Q := by
  obtain ⟨r, st', e, u, rfl, q⟩ := h (fun r st' => ∃ u, r = .rt u ∧ Q u st') fun u st' q => ⟨u, rfl, q⟩
  unfold Z.runB
  rw [e]
  exact ⟨u, st', rfl, q⟩
/-- with the cells that were made let go -/
theorem Ok.runT {k n d : Nat} {g : UEnv → Store → R Fl} {us : List U} {st : Store} {P : U → Prop} (hp : ∀ u, P u → pl d u = true) (h : ∀ Q' : Fl → Store → Prop, (∀ u st1 c, P u → Drew n st st1 → CupAt n st1 → Q' (.rt u) (st1 ++ c)) → Ok (g (us.map some ++ List.replicate (k - us.length) none) st) Q') : Ok (runT k g us st) (Dp P n st) := by
  obtain ⟨r, st', e, u, st1, c, rfl, rfl, p, dr, cu⟩ := h (fun r st' => ∃ u st1 c, r = .rt u ∧ st' = st1 ++ c ∧ P u ∧ Drew n st st1 ∧ CupAt n st1) fun u st1 c p d cu => ⟨u, st1, c, rfl, rfl, p, d, cu⟩
  unfold Z.runT Z.runB
  rw [e]
  refine ⟨u, st1, ?_, p, dr, cu⟩
  exact trim_drew dr (pl_hlt st.length u (hp u p))
/-! ### the maker -/
def kD {α : Type} (w : Str) : Option α → List U
  | none => []
  | some _ => [.str w]
def vB : Option (Bool × Int) → List U
  | none => []
  | some (t, n) => [.tup [.bl t, .int n]]
def vP : Option (List Str) → List U
  | none => []
  | some xs => [.tup (xs.map U.str)]
abbrev dctC (bp : Option (Bool × Int)) (up pp : Option (List Str)) : Cell := .dct (kD "basic" bp ++ kD "uses" up ++ kD "purposes" pp) (vB bp ++ vP up ++ vP pp)
end Z

namespace Z
open PySem PySem.Spec PyProof.Rows L2
theorem forU_ok {g : Asg} {f : UEnv → Store → R Fl} {Inv : UEnv → Store → Prop} : ∀ (xs : List U) (ρ : UEnv) (st : Store), Inv ρ st → (∀ x ∈ xs, ∀ ρ st, Inv ρ st → ∀ Q' : Fl → Store → Prop, (∀ ρ' st', Inv ρ' st' → Q' (.nx ρ') st') → (∀ ρ' st', Inv ρ' st' → Q' (.ct ρ') st') → Ok ((g x ρ st).bind f) Q') → ∀ Q' : Fl → Store → Prop, (∀ ρ' st', Inv ρ' st' → Q' (.nx ρ') st') → Ok (forU g f xs ρ st) Q'
  | [], ρ, st, h, _, Q', k => ⟨_, _, by simp [forU], k _ _ h⟩
  | x :: xs, ρ, st, h, hb, Q', k => by
    obtain ⟨r, st1, e, ρ1, hr, h1⟩ := hb x (by simp) ρ st h (fun r st' => ∃ ρ', (r = .nx ρ' ∨ r = .ct ρ') ∧ Inv ρ' st') (fun ρ' st' i => ⟨ρ', .inl rfl, i⟩) (fun ρ' st' i => ⟨ρ', .inr rfl, i⟩)
    have ih := forU_ok xs ρ1 st1 h1 (fun y hy => hb y (by simp [hy])) Q' k
    simp only [forU]
    rw [← R.bind_bind, e]
    rcases hr with rfl | rfl <;> simpa using ih
end Z

namespace Z
open PySem PySem.Spec PyProof.Rows L2
/-! ### values, and what repr shows of them -/
def LW : List Str := ["", "a", "z9", "0", "policylimits", "abcdefghij0123456789", "aa", "a0"]
def Vl : Nat → U → Prop
  | _, .int i => -1 ≤ i ∧ i ≤ 4294967295
  | _, .bl _ => True
  | _, .str w => w ∈ LW
  | d + 1, .tup us => us.length ≤ 4 ∧ ∀ x ∈ us, Vl d x
  | _, _ => False
/-- the kinds of values -/
inductive VlC (d : Nat) : U → Prop
  | int (i : Int) (h1 : -1 ≤ i) (h2 : i ≤ 4294967295) : VlC d (.int i)
  | bl (b : Bool) : VlC d (.bl b)
  | str (w : Str) (h : w ∈ LW) : VlC d (.str w)
  | tup (k : Nat) (e : d = k + 1) (us : List U) (hl : us.length ≤ 4) (h : ∀ x ∈ us, Vl k x) : VlC d (.tup us)
theorem Vl.c {d : Nat} {u : U} (h : Vl d u) : VlC d u := by
  cases u with
  | int i => cases d <;> exact .int i h.1 h.2
  | bl b => exact .bl b
  | str w => cases d <;> exact .str w h
  | tup us =>
    cases d with
    | zero => exact h.elim
    | succ k => exact .tup k rfl us h.1 h.2
  | _ => cases d <;> exact h.elim
theorem Vl.up : ∀ {d k : Nat} {u : U}, Vl d u → d ≤ k → Vl k u := by
  intro d
  induction d with
  | zero =>
    intro k u h hk
    cases h.c with
    | int i h1 h2 => cases k <;> exact ⟨h1, h2⟩
    | bl b => cases k <;> trivial
    | str w h => cases k <;> exact h
    | tup j e us hl h => cases e
  | succ d ih =>
    intro k u h hk
    cases h.c with
    | int i h1 h2 => cases k <;> exact ⟨h1, h2⟩
    | bl b => cases k <;> trivial
    | str w h => cases k <;> exact h
    | tup j e us hl h =>
      cases e
      cases k with
      | zero => omega
      | succ k => exact ⟨hl, fun x hx => ih (h x hx) (by omega)⟩
theorem dats_map {us : List U} (h : ∀ x ∈ us, ∃ D, dat x = some D) : ∃ Ds, dats us = some Ds ∧ Ds.map PyData.shown = us.map rpT := by
  induction us with
  | nil => exact ⟨[], by simp [dats], rfl⟩
  | cons x us ih =>
    obtain ⟨D, e⟩ := h x (.head _)
    obtain ⟨Ds, e2, e3⟩ := ih fun y hy => h y (.tail _ hy)
    refine ⟨D :: Ds, by simp [dats, e, e2], ?_⟩
    rw [List.map_cons, List.map_cons, e3]
    congr 1
    unfold rpT
    rw [e]
    rfl
theorem rpT_tup {us : List U} (h : ∀ x ∈ us, ∃ D, dat x = some D) : rpT (.tup us) = tupleText (us.map rpT) := by
  obtain ⟨Ds, e, e2⟩ := dats_map h
  unfold rpT
  simp only [dat, e, Option.map_some, Option.getD_some]
  show tupleText (PyData.shownAll Ds) = _
  rw [shownAll_eq_map, e2]
  rfl
theorem vl_dat : ∀ {d : Nat} {u : U}, Vl d u → ∃ D, dat u = some D := by
  intro d
  induction d with
  | zero =>
    intro u h
    cases h.c with
    | int i h1 h2 => exact ⟨_, rfl⟩
    | bl b => exact ⟨_, rfl⟩
    | str w h => exact ⟨_, rfl⟩
    | tup j e us hl h => cases e
  | succ d ih =>
    intro u h
    cases h.c with
    | int i h1 h2 => exact ⟨_, rfl⟩
    | bl b => exact ⟨_, rfl⟩
    | str w h => exact ⟨_, rfl⟩
    | tup j e us hl h =>
      cases e
      obtain ⟨Ds, e, _⟩ := dats_map fun x hx => ih (h x hx)
      exact ⟨.tuple Ds, by simp [dat, e]⟩
def tx (u : U) : List Nat := (rpT u).cps.toList
def txK : Bool → List U → List Nat
  | _, [] => [41]
  | f, [x] => tx x ++ (if f = true then [44, 41] else [41])
  | _, x :: y :: r => tx x ++ 44 :: 32 :: txK false (y :: r)
theorem app_cps (a b : Str) : (a ++ b).cps.toList = a.cps.toList ++ b.cps.toList := by
  show (a.cps ++ b.cps).toList = _
  rw [Array.toList_append]
theorem join_K : ∀ (x : U) (r : List U), (Str.join ", " ((x :: r).map rpT)).cps.toList ++ [41] = txK false (x :: r)
  | x, [] => by
    show (rpT x).cps.toList ++ [41] = _
    rfl
  | x, y :: r => by
    have ih := join_K y r
    show (rpT x ++ ", " ++ Str.join ", " ((y :: r).map rpT)).cps.toList ++ [41] = tx x ++ 44 :: 32 :: txK false (y :: r)
    rw [app_cps, app_cps, List.append_assoc, ih, List.append_assoc]
    rfl
theorem tx_tup {us : List U} (h : ∀ x ∈ us, ∃ D, dat x = some D) : tx (.tup us) = 40 :: txK true us := by
  unfold tx
  rw [rpT_tup h]
  unfold tupleText
  cases us with
  | nil => decide
  | cons x r =>
    cases r with
    | nil =>
      rw [app_cps, app_cps]
      show [40] ++ (rpT x).cps.toList ++ [44, 41] = 40 :: (tx x ++ [44, 41])
      unfold tx
      simp
    | cons y r =>
      rw [app_cps, app_cps]
      have e : ((if ((x :: y :: r).map rpT).length == 1 then ",)" else ")" : String) : Str).cps.toList = [41] := by
        have : (((x :: y :: r).map rpT).length == 1) = false := by simp
        rw [this]
        decide
      rw [e, List.append_assoc, join_K]
      rfl
/-! ### the text tells the value -/
def Stp (r : List Nat) : Prop := ∀ c t, r = c :: t → c = 44 ∨ c = 41
theorem stp_44 (t : List Nat) : Stp (44 :: t) := fun c t' e => by
  injection e with e _
  exact .inl e.symm
theorem stp_41 (t : List Nat) : Stp (41 :: t) := fun c t' e => by
  injection e with e _
  exact .inr e.symm
/-- two runs of other signs before a stop -/
theorem run_eq {P : Nat → Prop} (h44 : ¬ P 44) (h41 : ¬ P 41) : ∀ (a b r s : List Nat), (∀ c ∈ a, P c) → (∀ c ∈ b, P c) → Stp r → Stp s → a ++ r = b ++ s → a = b ∧ r = s
  | [], [], r, s, _, _, _, _, e => ⟨rfl, e⟩
  | [], c :: b, r, s, _, hb, hr, _, e => by
    have hc := hb c (.head _)
    rcases hr c (b ++ s) e with rfl | rfl
    · exact absurd hc h44
    · exact absurd hc h41
  | c :: a, [], r, s, ha, _, _, hs, e => by
    have hc := ha c (.head _)
    rcases hs c (a ++ r) e.symm with rfl | rfl
    · exact absurd hc h44
    · exact absurd hc h41
  | c :: a, c' :: b, r, s, ha, hb, hr, hs, e => by
    injection e with e1 e2
    obtain ⟨e3, e4⟩ := run_eq h44 h41 a b r s (fun x hx => ha x (.tail _ hx)) (fun x hx => hb x (.tail _ hx)) hr hs e2
    exact ⟨by rw [e1, e3], e4⟩
def PI15 (c : Nat) : Prop := c = 45 ∨ (48 ≤ c ∧ c ≤ 57)
theorem tx_int (i : Int) : tx (.int i) = (Str.ofString (toString i)).cps.toList := rfl
theorem int_chars (i : Int) : ∀ c ∈ tx (.int i), PI15 c := fun c hc => by
  refine Classical.byContradiction fun z => ?_
  refine shown_int_free' (k := c) ?_ i hc
  unfold PI15 at z
  omega
theorem int_head (i : Int) : ∃ c t, tx (.int i) = c :: t ∧ PI15 c := by
  have h := int_chars i
  cases e : tx (.int i) with
  | nil =>
    exfalso
    rw [tx_int] at e
    cases i with
    | ofNat m =>
      have := PySem.W.KIN.signs_num m
      have e' : (Nat.toDigits 10 m).map Char.toNat = [] := this.symm.trans e
      have h1 := tDigits_len_ge 10 m
      have := congrArg List.length e'
      rw [List.length_map] at this
      simp only [List.length_nil] at this
      omega
    | negSucc m =>
      have : (Str.ofString (toString (Int.negSucc m))).cps.toList = (toString (Int.negSucc m)).toList.map Char.toNat := signs_ofString _
      rw [this] at e
      have e' := List.map_eq_nil_iff.mp e
      have : (toString (Int.negSucc m)) = "-" ++ Nat.repr (m + 1) := rfl
      rw [this] at e'
      simp at e'
  | cons c t => exact ⟨c, t, rfl, h c (by rw [e]; exact .head _)⟩
theorem int_inj {i j : Int} (hi : -1 ≤ i) (hj : -1 ≤ j) (h : tx (.int i) = tx (.int j)) : i = j := by
  have neg : tx (.int (-1)) = [45, 49] := by decide
  have pos : ∀ m : Nat, tx (.int (m : Int)) = (Nat.toDigits 10 m).map Char.toNat := fun m => PySem.W.KIN.signs_num m
  have no45 : ∀ m : Nat, ∀ t, tx (.int (m : Int)) ≠ 45 :: t := fun m t e => by
    have : (45 : Nat) ∈ (Nat.toDigits 10 m).map Char.toNat := by rw [← pos, e]; exact .head _
    obtain ⟨ch, hc, e2⟩ := List.mem_map.mp this
    have := Nat.isDigit_of_mem_toDigits (by decide) (by decide) hc
    have := digit_range this
    omega
  rcases Int.eq_ofNat_of_zero_le (a := i + 1) (by omega) with ⟨m, hm⟩
  rcases Int.eq_ofNat_of_zero_le (a := j + 1) (by omega) with ⟨k, hk⟩
  cases m with
  | zero =>
    have ei : i = -1 := by omega
    subst ei
    cases k with
    | zero => omega
    | succ k =>
      have ej : j = (k : Int) := by omega
      subst ej
      rw [neg] at h
      exact absurd h.symm (no45 k _)
  | succ m =>
    have ei : i = (m : Int) := by omega
    subst ei
    cases k with
    | zero =>
      have ej : j = -1 := by omega
      subst ej
      rw [neg] at h
      exact absurd h (no45 m _)
    | succ k =>
      have ej : j = (k : Int) := by omega
      subst ej
      rw [pos, pos] at h
      have := congrArg NumText.digitsVal h
      rw [PySem.W.KIN.val_back, PySem.W.KIN.val_back] at this
      rw [this]
theorem lw_text : ∀ w ∈ LW, tx (.str w) = 39 :: (w.cps.toList ++ [39]) ∧ ∀ c ∈ tx (.str w), c ≠ 44 ∧ c ≠ 41 := by decide +kernel
theorem lw_inj : ∀ w ∈ LW, ∀ v ∈ LW, tx (.str w) = tx (.str v) → w = v := by decide +kernel
theorem bl_text (b : Bool) : tx (.bl b) = (if b = true then [84, 114, 117, 101] else [70, 97, 108, 115, 101]) := by cases b <;> decide
/-- whole numbers, texts and truths -/
def Atm : U → Prop
  | .int i => -1 ≤ i
  | .str w => w ∈ LW
  | .bl _ => True
  | _ => False
theorem atm_chars {a : U} (h : Atm a) : ∀ c ∈ tx a, c ≠ 44 ∧ c ≠ 41 := by
  cases a with
  | int i =>
    intro c hc
    have := int_chars i c hc
    unfold PI15 at this
    omega
  | str w => exact (lw_text w h).2
  | bl b =>
    rw [bl_text]
    cases b <;> decide
  | _ => exact h.elim
theorem atm_head {a : U} (h : Atm a) : ∃ c t, tx a = c :: t ∧ c ≠ 40 ∧ c ≠ 41 := by
  cases a with
  | int i =>
    obtain ⟨c, t, e, hc⟩ := int_head i
    unfold PI15 at hc
    exact ⟨c, t, e, by omega, by omega⟩
  | str w => exact ⟨39, _, (lw_text w h).1, by decide, by decide⟩
  | bl b =>
    rw [bl_text]
    cases b
    · exact ⟨70, _, rfl, by decide, by decide⟩
    · exact ⟨84, _, rfl, by decide, by decide⟩
  | _ => exact h.elim
theorem atm_inj {a b : U} (ha : Atm a) (hb : Atm b) (e : tx a = tx b) : a = b := by
  have ih : ∀ i : Int, ∀ w ∈ LW, tx (.int i) ≠ tx (.str w) := fun i w hw e => by
    obtain ⟨c, t, e1, hc⟩ := int_head i
    rw [e1, (lw_text w hw).1] at e
    injection e with e _
    unfold PI15 at hc
    omega
  have ib : ∀ (i : Int) (x : Bool), tx (.int i) ≠ tx (.bl x) := fun i x e => by
    obtain ⟨c, t, e1, hc⟩ := int_head i
    rw [e1, bl_text] at e
    unfold PI15 at hc
    cases x <;> (injection e with e _; omega)
  have sb : ∀ w ∈ LW, ∀ x : Bool, tx (.str w) ≠ tx (.bl x) := fun w hw x e => by
    rw [(lw_text w hw).1, bl_text] at e
    cases x <;> (injection e with e _; cases e)
  cases a with
  | int i =>
    cases b with
    | int j => rw [int_inj ha hb e]
    | str w => exact absurd e (ih i w hb)
    | bl x => exact absurd e (ib i x)
    | _ => exact hb.elim
  | str w =>
    cases b with
    | int j => exact absurd e.symm (ih j w ha)
    | str v => rw [lw_inj w ha v hb e]
    | bl x => exact absurd e (sb w ha x)
    | _ => exact hb.elim
  | bl x =>
    cases b with
    | int j => exact absurd e.symm (ib j x)
    | str v => exact absurd e.symm (sb v hb x)
    | bl y =>
      rw [bl_text, bl_text] at e
      cases x <;> cases y <;> first | rfl | (injection e with e _; cases e)
    | _ => exact hb.elim
  | _ => exact ha.elim
theorem vl_cases {d : Nat} {u : U} (h : Vl d u) : Atm u ∨ ∃ k us, d = k + 1 ∧ u = .tup us ∧ us.length ≤ 4 ∧ ∀ x ∈ us, Vl k x := by
  cases h.c with
  | int i h1 h2 => exact .inl h1
  | bl b => exact .inl trivial
  | str w hw => exact .inl hw
  | tup j e us hl hx => exact .inr ⟨j, us, e, rfl, hl, hx⟩
theorem tup_dat {k : Nat} {us : List U} (h : ∀ x ∈ us, Vl k x) : ∀ x ∈ us, ∃ D, dat x = some D := fun x hx => vl_dat (h x hx)
theorem vl_head {d : Nat} {u : U} (h : Vl d u) : ∃ c t, tx u = c :: t ∧ c ≠ 41 := by
  rcases vl_cases h with ha | ⟨k, us, _, rfl, _, hx⟩
  · obtain ⟨c, t, e, _, h2⟩ := atm_head ha
    exact ⟨c, t, e, h2⟩
  · exact ⟨40, _, tx_tup (tup_dat hx), by decide⟩
def Inj (d : Nat) : Prop := ∀ (a b : U), Vl d a → Vl d b → ∀ r s, Stp r → Stp s → tx a ++ r = tx b ++ s → a = b ∧ r = s
theorem txK_inj {d : Nat} (hI : Inj d) : ∀ (us ws : List U) (f : Bool) (r s : List Nat), (∀ x ∈ us, Vl d x) → (∀ x ∈ ws, Vl d x) → txK f us ++ r = txK f ws ++ s → us = ws ∧ r = s
  | [], [], f, r, s, _, _, e => ⟨rfl, by injection e⟩
  | [], y :: ws, f, r, s, _, hw, e => by
    exfalso
    obtain ⟨c, t, e1, hc⟩ := vl_head (hw y (.head _))
    cases ws with
    | nil =>
      have e : 41 :: r = (tx y ++ _) ++ s := e
      rw [e1] at e
      injection e with e _
      exact hc e.symm
    | cons z ws =>
      have e : 41 :: r = (tx y ++ _) ++ s := e
      rw [e1] at e
      injection e with e _
      exact hc e.symm
  | x :: us, [], f, r, s, hu, _, e => by
    exfalso
    obtain ⟨c, t, e1, hc⟩ := vl_head (hu x (.head _))
    cases us with
    | nil =>
      have e : (tx x ++ _) ++ r = 41 :: s := e
      rw [e1] at e
      injection e with e _
      exact hc e
    | cons z us =>
      have e : (tx x ++ _) ++ r = 41 :: s := e
      rw [e1] at e
      injection e with e _
      exact hc e
  | [x], [y], f, r, s, hu, hw, e => by
    have e : (tx x ++ (if f = true then [44, 41] else [41])) ++ r = (tx y ++ (if f = true then [44, 41] else [41])) ++ s := e
    rw [List.append_assoc, List.append_assoc] at e
    have sp : ∀ r : List Nat, Stp ((if f = true then [44, 41] else [41]) ++ r) := fun r => by
      cases f
      · exact stp_41 _
      · exact stp_44 _
    obtain ⟨e1, e2⟩ := hI x y (hu x (.head _)) (hw y (.head _)) _ _ (sp r) (sp s) e
    exact ⟨by rw [e1], List.append_cancel_left e2⟩
  | [x], y :: z :: ws, f, r, s, hu, hw, e => by
    exfalso
    have e : (tx x ++ (if f = true then [44, 41] else [41])) ++ r = (tx y ++ 44 :: 32 :: txK false (z :: ws)) ++ s := e
    rw [List.append_assoc, List.append_assoc] at e
    have sp : ∀ r : List Nat, Stp ((if f = true then [44, 41] else [41]) ++ r) := fun r => by
      cases f
      · exact stp_41 _
      · exact stp_44 _
    obtain ⟨e1, e2⟩ := hI x y (hu x (.head _)) (hw y (.head _)) _ _ (sp r) (stp_44 _) e
    cases f
    · injection e2 with e2 _
      cases e2
    · injection e2 with _ e2
      injection e2 with e2 _
      cases e2
  | x :: z :: us, [y], f, r, s, hu, hw, e => by
    exfalso
    have e : (tx x ++ 44 :: 32 :: txK false (z :: us)) ++ r = (tx y ++ (if f = true then [44, 41] else [41])) ++ s := e
    rw [List.append_assoc, List.append_assoc] at e
    have sp : ∀ r : List Nat, Stp ((if f = true then [44, 41] else [41]) ++ r) := fun r => by
      cases f
      · exact stp_41 _
      · exact stp_44 _
    obtain ⟨e1, e2⟩ := hI x y (hu x (.head _)) (hw y (.head _)) _ _ (stp_44 _) (sp s) e
    cases f
    · injection e2 with e2 _
      cases e2
    · injection e2 with _ e2
      injection e2 with e2 _
      cases e2
  | x :: z :: us, y :: v :: ws, f, r, s, hu, hw, e => by
    have e : (tx x ++ 44 :: 32 :: txK false (z :: us)) ++ r = (tx y ++ 44 :: 32 :: txK false (v :: ws)) ++ s := e
    rw [List.append_assoc, List.append_assoc] at e
    obtain ⟨e1, e2⟩ := hI x y (hu x (.head _)) (hw y (.head _)) _ _ (stp_44 _) (stp_44 _) e
    injection e2 with _ e2
    injection e2 with _ e2
    obtain ⟨e3, e4⟩ := txK_inj hI (z :: us) (v :: ws) false r s (fun q hq => hu q (.tail _ hq)) (fun q hq => hw q (.tail _ hq)) e2
    exact ⟨by rw [e1, e3], e4⟩
theorem inj_all : ∀ d : Nat, Inj d := by
  intro d
  induction d with
  | zero =>
    intro a b ha hb r s hr hs e
    rcases vl_cases ha with ha | ⟨k, us, e1, _⟩
    · rcases vl_cases hb with hb | ⟨k, us, e1, _⟩
      · obtain ⟨e1, e2⟩ := run_eq (P := fun c => c ≠ 44 ∧ c ≠ 41) (fun h => h.1 rfl) (fun h => h.2 rfl) _ _ r s (atm_chars ha) (atm_chars hb) hr hs e
        exact ⟨atm_inj ha hb e1, e2⟩
      · cases e1
    · cases e1
  | succ d ih =>
    intro a b ha hb r s hr hs e
    rcases vl_cases ha with ha | ⟨k, us, e1, rfl, _, hu⟩
    · rcases vl_cases hb with hb | ⟨k, ws, e1, rfl, _, hw⟩
      · obtain ⟨e1, e2⟩ := run_eq (P := fun c => c ≠ 44 ∧ c ≠ 41) (fun h => h.1 rfl) (fun h => h.2 rfl) _ _ r s (atm_chars ha) (atm_chars hb) hr hs e
        exact ⟨atm_inj ha hb e1, e2⟩
      · exfalso
        obtain ⟨c, t, e2, h1, _⟩ := atm_head ha
        rw [e2, tx_tup (tup_dat hw)] at e
        injection e with e _
        exact h1 e
    · cases e1
      rcases vl_cases hb with hb | ⟨k, ws, e1, rfl, _, hw⟩
      · exfalso
        obtain ⟨c, t, e2, h1, _⟩ := atm_head hb
        rw [e2, tx_tup (tup_dat hu)] at e
        injection e with e _
        exact h1 e.symm
      · cases e1
        rw [tx_tup (tup_dat hu), tx_tup (tup_dat hw)] at e
        injection e with _ e
        obtain ⟨e3, e4⟩ := txK_inj ih us ws true r s hu hw e
        exact ⟨by rw [e3], e4⟩
theorem rp_inj {d : Nat} {a b : U} (ha : Vl d a) (hb : Vl d b) (e : rpT a = rpT b) : a = b := by
  have e' : tx a ++ [] = tx b ++ [] := by unfold tx; rw [e]
  exact (inj_all d a b ha hb [] [] (fun c t h => nomatch h) (fun c t h => nomatch h) e').1
end Z

namespace Z
open PySem PySem.Spec PyProof.Rows L2
/-! ### what is plain, what is shown -/
def shB (v : U) : Bool := rpD v && (pl 60 v && (rpQ v && decide (rpM v ≤ 16777216)))
theorem sh_eq {v : U} (h : shB v = true) (st : Store) : oRepr st v = some (.str (rpT v)) := by
  have hd : deref st v = v := by
    cases v with
    | hdl n => simp [shB, rpD] at h
    | _ => rfl
  unfold oRepr
  rw [hd]
  unfold shB at h
  rw [if_pos h]
theorem rpQs_mem {us : List U} (h : ∀ u ∈ us, rpQ u = true) : rpQs us = true := by
  induction us with
  | nil => rfl
  | cons u us ih =>
    show (rpQ u && rpQs us) = true
    rw [h u (.head _), ih fun x hx => h x (.tail _ hx)]
    rfl
theorem rpMs_le {us : List U} {B : Nat} (h : ∀ u ∈ us, rpM u ≤ B) : rpMs us ≤ us.length * (B + 2) := by
  induction us with
  | nil => simp [rpMs]
  | cons u us ih =>
    have h1 := h u (.head _)
    have h2 := ih fun x hx => h x (.tail _ hx)
    show rpM u + 2 + rpMs us ≤ _
    rw [List.length_cons, Nat.add_mul]
    omega
theorem vl_pl : ∀ {d : Nat} {u : U}, Vl d u → pl d u = true := by
  intro d
  induction d with
  | zero =>
    intro u h
    cases h.c with
    | int i h1 h2 => rfl
    | bl b => rfl
    | str w h => rfl
    | tup j e us hl h => cases e
  | succ d ih =>
    intro u h
    cases h.c with
    | int i h1 h2 => rfl
    | bl b => rfl
    | str w h => rfl
    | tup j e us hl h =>
      cases e
      exact pls_mem.mpr fun x hx => ih (h x hx)
theorem lw_rep : ∀ w ∈ LW, rpQ (.str w) = true ∧ rpM (.str w) ≤ 25 := by decide +kernel
theorem int_rep {i : Int} (h1 : -1 ≤ i) (h2 : i ≤ 4294967295) : rpQ (.int i) = true := by
  unfold rpQ smallI
  simp
  omega
theorem vl_rep : ∀ {d : Nat} {u : U}, Vl d u → rpQ u = true ∧ rpM u ≤ 25 * 5 ^ d := by
  intro d
  induction d with
  | zero =>
    intro u h
    cases h.c with
    | int i h1 h2 => exact ⟨int_rep h1 h2, by unfold rpM; decide⟩
    | bl b => exact ⟨rfl, by unfold rpM; decide⟩
    | str w h => exact ⟨(lw_rep w h).1, (lw_rep w h).2⟩
    | tup j e us hl h => cases e
  | succ d ih =>
    intro u h
    have p5 : 1 ≤ 5 ^ d := Nat.one_le_pow _ _ (by decide)
    have e5 : 25 * 5 ^ (d + 1) = 5 * (25 * 5 ^ d) := by rw [Nat.pow_succ]; omega
    rw [e5]
    cases h.c with
    | int i h1 h2 => exact ⟨int_rep h1 h2, by unfold rpM; omega⟩
    | bl b => exact ⟨rfl, by unfold rpM; omega⟩
    | str w h => exact ⟨(lw_rep w h).1, by have := (lw_rep w h).2; omega⟩
    | tup j e us hl h =>
      cases e
      refine ⟨rpQs_mem fun x hx => (ih (h x hx)).1, ?_⟩
      have := rpMs_le (us := us) (B := 25 * 5 ^ d) fun x hx => (ih (h x hx)).2
      show 2 + rpMs us ≤ _
      have h4 : us.length * (25 * 5 ^ d + 2) ≤ 4 * (25 * 5 ^ d + 2) := Nat.mul_le_mul_right _ hl
      omega
theorem vl_repr {d : Nat} {u : U} {st : Store} (h : Vl d u) (hd : d ≤ 6) : oRepr st u = some (.str (rpT u)) := by
  have h2 := pl_mono (d' := 60) _ (by omega) (vl_pl h)
  obtain ⟨h3, h4⟩ := vl_rep h
  have h5 : 25 * 5 ^ d ≤ 25 * 5 ^ 6 := Nat.mul_le_mul_left _ (Nat.pow_le_pow_right (by decide) hd)
  have h6 : rpM u ≤ 16777216 := by
    have : 25 * 5 ^ 6 = 390625 := by decide
    omega
  cases h.c with
  | int i k1 k2 =>
    have s : smallI i = true := int_rep k1 k2
    show (if _ then _ else if smallI i = true then some (U.str (Str.ofString (toString i))) else none) = _
    rw [s]
    rfl
  | bl b => cases b <;> rfl
  | str w h =>
    have s : (PyData.strOk (reprText w) && decide ((reprText w).length ≤ 1000)) = true := h3
    show (if _ then _ else if (PyData.strOk (reprText w) && decide ((reprText w).length ≤ 1000)) = true then some (U.str (reprText w)) else none) = _
    rw [s]
    rfl
  | tup j e us hl h =>
    refine sh_eq ?_ st
    unfold shB
    rw [h2, h3, decide_eq_true h6]
    rfl
/-! ### paths and changes -/
abbrev Pt := List Nat
abbrev Ch := Pt × U
def ptU (p : Pt) : U := .tup (p.map fun (n : Nat) => U.int (n : Int))
def chU (c : Ch) : U := .tup [ptU c.1, c.2]
def leafO (a b : U) : List Ch := if rpT a = rpT b then [] else [([], b)]
def preC (i : Nat) (c : Ch) : Ch := (i :: c.1, c.2)
def outs (F : U → U → List Ch) : Nat → List U → List U → List Ch
  | i, x :: xs, y :: ys => (F x y).map (preC i) ++ outs F (i + 1) xs ys
  | _, _, _ => []
def outU : Nat → U → U → List Ch
  | d + 1, .tup xs, .tup ys => if xs.length = ys.length then outs (outU d) 0 xs ys else leafO (.tup xs) (.tup ys)
  | _, a, b => leafO a b
def alk : U → U → Bool
  | .tup xs, .tup ys => decide (xs.length = ys.length)
  | _, _ => false
theorem out_leaf {d : Nat} {a b : U} (h : alk a b = false) : outU d a b = leafO a b := by
  cases d with
  | zero => cases a <;> rfl
  | succ d =>
    cases a with
    | tup xs =>
      cases b with
      | tup ys =>
        have : ¬ xs.length = ys.length := of_decide_eq_false h
        show (if xs.length = ys.length then _ else _) = _
        rw [if_neg this]
      | _ => rfl
    | _ => rfl
def isTp : U → Bool
  | .tup _ => true
  | _ => false
def isBl : U → Bool
  | .bl _ => true
  | _ => false
theorem eqDs_len : ∀ (xs ys : List U), eqDs xs ys = true → xs.length = ys.length
  | [], [], _ => rfl
  | [], _ :: _, h => by simp [eqDs] at h
  | _ :: _, [], h => by simp [eqDs] at h
  | x :: xs, y :: ys, h => by
    simp only [eqDs, Bool.and_eq_true] at h
    rw [List.length_cons, List.length_cons, eqDs_len xs ys h.2]
theorem non_eq {d : Nat} {a b : U} (ha : Vl d a) (hb : Vl d b) (h : alk a b = false) : (eqD a b && (isBl a == isBl b)) = decide (rpT a = rpT b) := by
  by_cases e : rpT a = rpT b
  · have := rp_inj ha hb e
    subst this
    rw [eqD_refl d a (vl_pl ha)]
    simp
  · rw [decide_eq_false e]
    have ne : a ≠ b := fun z => e (by rw [z])
    cases ha.c with
    | int i h1 h2 =>
      cases hb.c with
      | int j h3 h4 =>
        have : i ≠ j := fun z => ne (by rw [z])
        simp [eqD, this]
      | bl y => simp [isBl]
      | str w h => rfl
      | tup j e us hl h => rfl
    | bl x =>
      cases hb.c with
      | int j h3 h4 => simp [isBl]
      | bl y =>
        have : x ≠ y := fun z => ne (by rw [z])
        simp [eqD, this]
      | str w h => rfl
      | tup j e us hl h => rfl
    | str v hv =>
      cases hb.c with
      | int j h3 h4 => rfl
      | bl y => rfl
      | str w h =>
        have : v ≠ w := fun z => ne (by rw [z])
        simp [eqD, this]
      | tup j e us hl h => rfl
    | tup k ek us hl hu =>
      cases hb.c with
      | int j h3 h4 => rfl
      | bl y => rfl
      | str w h => rfl
      | tup j e ws hl h2 =>
        have h : decide (us.length = ws.length) = false := h
        have : ¬ us.length = ws.length := of_decide_eq_false h
        have : eqD (.tup us) (.tup ws) = false := by
          cases q : eqD (.tup us) (.tup ws) with
          | false => rfl
          | true => exact absurd (eqDs_len us ws q) this
        rw [this]
        rfl
section
variable {st : Store} {d : Nat} {a b : U}
theorem vl_ty (h : Vl d a) : ∃ t, tyU st a = some t ∧ isiU t "tuple" = isTp a ∧ isiU t "bool" = isBl a := by
  cases h.c with
  | int i h1 h2 => exact ⟨"int", rfl, by show isiU "int" "tuple" = false; decide, by show isiU "int" "bool" = false; decide⟩
  | bl b => exact ⟨"bool", rfl, by show isiU "bool" "tuple" = false; decide, by show isiU "bool" "bool" = true; decide⟩
  | str w h => exact ⟨"str", rfl, by show isiU "str" "tuple" = false; decide, by show isiU "str" "bool" = false; decide⟩
  | tup j e us hl h => exact ⟨"tuple", rfl, by show isiU "tuple" "tuple" = true; decide, by show isiU "tuple" "bool" = false; decide⟩
theorem same_eq (r1 : oRepr st a = some (.str (rpT a))) (r2 : oRepr st b = some (.str (rpT b))) : F__law_same [a, b] st = .ok (.bl (decide (rpT a = rpT b))) st := by
  have e : (rpT a == rpT b) = decide (rpT a = rpT b) := by
    by_cases h : rpT a = rpT b
    · rw [decide_eq_true h]; exact beq_iff_eq.mpr h
    · rw [decide_eq_false h]; exact beq_eq_false_iff_ne.mpr h
  unfold F__law_same runB g__law_same
  rw [← e]
  generalize rpT a = x at *
  generalize rpT b = y at *
  simp [r1, r2, oEq]
end
end Z

namespace Z
open PySem PySem.Spec PyProof.Rows L2
/-! ### the outermost changes -/
theorem trim_lst {st : Store} (xs : List U) (h : hltUs st.length xs = true) : trimV st (.hdl st.length) (st ++ [.lst xs]) = .ok (.lst xs) st := by
  unfold trimV
  rw [okCells_same]
  simp [melt, h]
theorem vl_kid {d : Nat} {us : List U} (h : Vl (d + 1) (.tup us)) : us.length ≤ 4 ∧ ∀ x ∈ us, Vl d x := h
theorem outs_mem {F : U → U → List Ch} {P : Ch → Prop} : ∀ (xs ys : List U) (i : Nat), (∀ x ∈ xs, ∀ y ∈ ys, ∀ j, ∀ c ∈ F x y, P (preC j c)) → ∀ c ∈ outs F i xs ys, P c
  | x :: xs, y :: ys, i, h, c, hc => by
    rcases List.mem_append.mp (show c ∈ (F x y).map (preC i) ++ outs F (i + 1) xs ys from hc) with hc | hc
    · obtain ⟨q, hq, rfl⟩ := List.mem_map.mp hc
      exact h x (.head _) y (.head _) i q hq
    · exact outs_mem xs ys (i + 1) (fun a ha b hb j q hq => h a (.tail _ ha) b (.tail _ hb) j q hq) c hc
  | [], _, _, _, _, hc => by cases hc
  | _ :: _, [], _, _, _, hc => by cases hc
theorem out_mem : ∀ {d : Nat} {a b : U}, Vl d a → Vl d b → ∀ c ∈ outU d a b, c.1.length ≤ d ∧ Vl d c.2 := by
  intro d
  induction d with
  | zero =>
    intro a b ha hb c hc
    have e : outU 0 a b = leafO a b := by cases a <;> rfl
    rw [e] at hc
    unfold leafO at hc
    split at hc
    · cases hc
    · rw [List.mem_singleton] at hc
      subst hc
      exact ⟨Nat.le_refl _, hb⟩
  | succ d ih =>
    intro a b ha hb c hc
    cases hk : alk a b with
    | false =>
      rw [out_leaf hk] at hc
      unfold leafO at hc
      split at hc
      · cases hc
      · rw [List.mem_singleton] at hc
        subst hc
        exact ⟨Nat.zero_le _, hb⟩
    | true =>
      cases a with
      | tup xs =>
        cases b with
        | tup ys =>
          have hl : xs.length = ys.length := of_decide_eq_true hk
          have e : outU (d + 1) (.tup xs) (.tup ys) = outs (outU d) 0 xs ys := if_pos hl
          rw [e] at hc
          refine outs_mem (P := fun c => c.1.length ≤ d + 1 ∧ Vl (d + 1) c.2) xs ys 0 (fun x hx y hy j q hq => ?_) c hc
          obtain ⟨h1, h2⟩ := ih ((vl_kid ha).2 x hx) ((vl_kid hb).2 y hy) q hq
          exact ⟨by show (j :: q.1).length ≤ d + 1; rw [List.length_cons]; omega, h2.up (by omega)⟩
        | _ => cases hk
      | _ => cases hk
theorem outs_len {F : U → U → List Ch} {B : Nat} : ∀ (xs ys : List U) (i : Nat), (∀ x ∈ xs, ∀ y ∈ ys, (F x y).length ≤ B) → (outs F i xs ys).length ≤ xs.length * B
  | x :: xs, y :: ys, i, h => by
    have h1 := h x (.head _) y (.head _)
    have h2 := outs_len xs ys (i + 1) fun a ha b hb => h a (.tail _ ha) b (.tail _ hb)
    show ((F x y).map (preC i) ++ outs F (i + 1) xs ys).length ≤ _
    rw [List.length_append, List.length_map, List.length_cons, Nat.add_mul]
    omega
  | [], _, _, _ => by show (0 : Nat) ≤ _; exact Nat.zero_le _
  | _ :: _, [], _, _ => by show (0 : Nat) ≤ _; exact Nat.zero_le _
theorem out_len : ∀ {d : Nat} {a b : U}, Vl d a → Vl d b → (outU d a b).length ≤ 4 ^ d := by
  intro d
  induction d with
  | zero =>
    intro a b ha hb
    have e : outU 0 a b = leafO a b := by cases a <;> rfl
    rw [e]
    unfold leafO
    split <;> simp
  | succ d ih =>
    intro a b ha hb
    have p : 1 ≤ 4 ^ (d + 1) := Nat.one_le_pow _ _ (by decide)
    cases hk : alk a b with
    | false =>
      rw [out_leaf hk]
      unfold leafO
      split <;> simp <;> omega
    | true =>
      cases a with
      | tup xs =>
        cases b with
        | tup ys =>
          have hl : xs.length = ys.length := of_decide_eq_true hk
          have e : outU (d + 1) (.tup xs) (.tup ys) = outs (outU d) 0 xs ys := if_pos hl
          rw [e]
          have := outs_len (F := outU d) (B := 4 ^ d) xs ys 0 fun x hx y hy => ih ((vl_kid ha).2 x hx) ((vl_kid hb).2 y hy)
          have h4 : xs.length * 4 ^ d ≤ 4 * 4 ^ d := Nat.mul_le_mul_right _ (vl_kid ha).1
          rw [Nat.pow_succ]
          omega
        | _ => cases hk
      | _ => cases hk
section
variable {st : Store} {n : Nat}
theorem pt_pl (p : Pt) : pl 1 (ptU p) = true := pls_mem.mpr fun x hx => by
  obtain ⟨k, _, rfl⟩ := List.mem_map.mp hx
  rfl
theorem pt_add (i : Nat) {p : Pt} (h : p.length ≤ 1000) (st : Store) : oAdd st (.tup [.int (i : Int)]) (ptU p) = some (ptU (i :: p)) := by
  unfold ptU
  rw [oAdd_t st (by rw [List.length_map]; simp; omega)]
  rfl
theorem pre_lc {ρ : UEnv} {i : Nat} (hρ : ρ.length = 6) (h3 : ρ[3]? = some (some (.int (i : Int)))) : ∀ L : List Ch, (∀ c ∈ L, c.1.length ≤ 1000) → lcU (ctPair 4 5) cYes E_outermost_changes_1 (L.map chU) ρ st = .ok ((L.map (preC i)).map chU) st
  | [], _ => rfl
  | c :: L, h => by
    have ih := pre_lc hρ h3 L fun x hx => h x (.tail _ hx)
    have g4 : ((ρ.set 4 (some (ptU c.1))).set 5 (some c.2))[4]? = some (some (ptU c.1)) := by
      rw [List.getElem?_set_ne (by decide), List.getElem?_set_self (by omega)]
    have g5 : ((ρ.set 4 (some (ptU c.1))).set 5 (some c.2))[5]? = some (some c.2) := by
      rw [List.getElem?_set_self (by rw [List.length_set]; omega)]
    have g3 : ((ρ.set 4 (some (ptU c.1))).set 5 (some c.2))[3]? = some (some (.int (i : Int))) := by
      rw [List.getElem?_set_ne (by decide), List.getElem?_set_ne (by decide)]
      exact h3
    have ad := pt_add i (h c (.head _)) st
    have e1 : E_outermost_changes_1 ((ρ.set 4 (some (ptU c.1))).set 5 (some c.2)) st = .ok (chU (preC i c)) st := by
      show _ = R.ok (U.tup [ptU (i :: c.1), c.2]) st
      unfold E_outermost_changes_1
      clear ih
      generalize (ρ.set 4 (some (ptU c.1))).set 5 (some c.2) = rr at *
      generalize ptU (i :: c.1) = q at *
      generalize ptU c.1 = p at *
      simp [g4, g5, g3, ad]
    rw [List.map_cons]
    simp only [lcU, ctPair, chU, Z.R.bind_ok, cYes, if_true]
    rw [e1]
    simp only [Z.R.bind_ok]
    rw [ih]
    rfl
abbrev E6o (a b : U) (L : Nat) (o3 : Option U) : UEnv := [some a, some b, some (.hdl L), o3, none, none]
theorem out_loop {self : FnZ} {d : Nat} {xs ys : List U} (hs : ∀ x ∈ xs, ∀ y ∈ ys, ∀ S, self [x, y] S = .ok (.lst ((outU d x y).map chU)) S) (hv : ∀ x ∈ xs, Vl d x) (hw : ∀ y ∈ ys, Vl d y) (hd : d ≤ 6) : ∀ (xr yr px py : List U) (acc : List Ch) (o3 : Option U), xs = px ++ xr → ys = py ++ yr → px.length = py.length → xr.length = yr.length → acc.length + xr.length * 4096 ≤ 16000000 → ∃ o3', forU (gNm 3) (B_outermost_changes_2 self) (rangeU (px.length : Nat) ((px.length : Nat) + (xr.length : Nat))) (E6o (.tup xs) (.tup ys) st.length o3) (st ++ [.lst (acc.map chU)]) = .ok (.nx (E6o (.tup xs) (.tup ys) st.length o3')) (st ++ [.lst ((acc ++ outs (outU d) px.length xr yr).map chU)])
  | [], [], px, py, acc, o3, _, _, _, _, _ => ⟨o3, by
    have e : rangeU (px.length : Nat) ((px.length : Nat) + (([] : List U).length : Nat)) = [] := by
      unfold rangeU
      simp
    rw [e]
    show _ = R.ok _ (st ++ [.lst ((acc ++ []).map chU)])
    rw [List.append_nil]
    rfl⟩
  | x :: xr, y :: yr, px, py, acc, o3, ex, ey, hp, hl, hb => by
    have hx : x ∈ xs := by rw [ex]; simp
    have hy : y ∈ ys := by rw [ey]; simp
    have e1 := hs x hx y hy (st ++ [.lst (acc.map chU)])
    have l1 := out_len (hv x hx) (hw y hy)
    have p4 : 4 ^ d ≤ 4 ^ 6 := Nat.pow_le_pow_right (by decide) hd
    have p46 : 4 ^ 6 = 4096 := by decide
    have hpl : ∀ c ∈ outU d x y, c.1.length ≤ 1000 := fun c hc => by
      have := (out_mem (hv x hx) (hw y hy) c hc).1
      omega
    have x0 : ∀ S, ixU S (.tup xs) (.int (px.length : Int)) = some x := fun S => by
      rw [ixU_t]
      refine atI_get ?_
      rw [ex]
      simp
    have y0 : ∀ S, ixU S (.tup ys) (.int (px.length : Int)) = some y := fun S => by
      rw [ixU_t]
      refine atI_get ?_
      rw [ey, hp]
      simp
    have lc := pre_lc (st := st ++ [.lst (acc.map chU)]) (i := px.length) (ρ := E6o (.tup xs) (.tup ys) st.length (some (.int (px.length : Int)))) rfl rfl (outU d x y) hpl
    have ext : extAt (st ++ [.lst (acc.map chU)]) (.hdl st.length) (.lst (((outU d x y).map (preC px.length)).map chU)) = some (st ++ [.lst ((acc ++ (outU d x y).map (preC px.length)).map chU)]) := by
      have h0 : (st ++ [Cell.lst (acc.map chU)])[st.length]? = some (.lst (acc.map chU)) := by simp
      unfold extAt
      simp only [h0]
      show (if (acc.map chU).length + (((outU d x y).map (preC px.length)).map chU).length ≤ 16777216 then _ else _) = _
      rw [if_pos (by simp only [List.length_map]; rw [List.length_cons, Nat.add_mul] at hb; omega), List.map_append]
      congr 1
      rw [List.set_append_right _ _ (Nat.le_refl _), Nat.sub_self]
      rfl
    have isl : isLst (st ++ [.lst (acc.map chU)]) (.hdl st.length) = true := by
      have h0 : deref (st ++ [Cell.lst (acc.map chU)]) (.hdl st.length) = .lst (acc.map chU) := by
        unfold deref
        simp
      unfold isLst
      rw [h0]
    have il : itemsOf (.lst ((outU d x y).map chU)) = some ((outU d x y).map chU) := rfl
    have hl5 : ((outU d x y).map chU).length ≤ 16777216 := by rw [List.length_map]; omega
    have hbody : B_outermost_changes_2 self (E6o (.tup xs) (.tup ys) st.length (some (.int (px.length : Int)))) (st ++ [.lst (acc.map chU)]) = .ok (.nx (E6o (.tup xs) (.tup ys) st.length (some (.int (px.length : Int))))) (st ++ [.lst ((acc ++ (outU d x y).map (preC px.length)).map chU)]) := by
      have x1 := x0 (st ++ [.lst (acc.map chU)])
      have y1 := y0 (st ++ [.lst (acc.map chU)])
      clear x0 y0 hs
      unfold E6o at *
      generalize st ++ [Cell.lst (acc.map chU)] = S1 at *
      generalize st ++ [Cell.lst ((acc ++ (outU d x y).map (preC px.length)).map chU)] = S2 at *
      generalize ((outU d x y).map (preC px.length)).map chU = l2 at *
      generalize (outU d x y).map chU = l1' at *
      generalize U.tup xs = ux at *
      generalize U.tup ys = uy at *
      generalize (px.length : Int) = pi at *
      generalize st.length = L at *
      unfold B_outermost_changes_2
      simp [isl, x1, y1, e1, il, hl5, wipeU, lc, ext]
    obtain ⟨o3', ih⟩ := out_loop hs hv hw hd xr yr (px ++ [x]) (py ++ [y]) (acc ++ (outU d x y).map (preC px.length)) (some (.int (px.length : Int))) (by rw [ex]; simp) (by rw [ey]; simp) (by simp [hp]) (by simpa using hl) (by
      rw [List.length_append, List.length_map]
      rw [List.length_cons, Nat.add_mul] at hb
      omega)
    refine ⟨o3', ?_⟩
    rw [List.length_cons, rangeU_succ]
    unfold forU
    simp only [gNm, Z.R.bind_ok]
    show (B_outermost_changes_2 self (E6o (.tup xs) (.tup ys) st.length (some (.int (px.length : Int)))) (st ++ [.lst (acc.map chU)])).bind _ = _
    rw [hbody]
    simp only [Z.R.bind_ok]
    have el : (px ++ [x]).length = px.length + 1 := by simp
    rw [el] at ih
    have ec : ((px.length + 1 : Nat) : Int) = (px.length : Int) + 1 := by push_cast; rfl
    rw [ec, List.append_assoc] at ih
    exact ih
  | [], _ :: _, _, _, _, _, _, _, _, h, _ => by cases h
  | _ :: _, [], _, _, _, _, _, _, _, h, _ => by cases h
theorem ch_pl {d : Nat} {c : Ch} (h : Vl d c.2) : pl (d + 2) (chU c) = true := by
  have h1 := pl_mono (d' := d + 1) _ (by omega) (pt_pl c.1)
  have h2 := pl_mono (d' := d + 1) _ (by omega) (vl_pl h)
  show (pl (d + 1) (ptU c.1) && (pl (d + 1) c.2 && true)) = true
  rw [h1, h2]
  rfl
theorem trim_self {u : U} (h : hltU st.length u = true) : trim st (.ok u st) = .ok u st := by
  show trimV st u st = _
  unfold trimV
  rw [okCells_self, melt_hlt _ _ _ h]
  simp
theorem out_leaf_run {self : FnZ} {d : Nat} {a b : U} (ha : Vl d a) (hb : Vl d b) (hd : d ≤ 6) (hk : alk a b = false) : runT 6 (g_outermost_changes self) [a, b] st = .ok (.lst ((leafO a b).map chU)) st := by
  obtain ⟨ta, t1, t2, t3⟩ := vl_ty (st := st) ha
  obtain ⟨tb, t4, t5, t6⟩ := vl_ty (st := st) hb
  have eq := eqU_p (st := st) (vl_pl ha) (vl_pl hb) (by omega) (by omega)
  have ne := non_eq ha hb hk
  have eb : eqU st (.bl (isBl a)) (.bl (isBl b)) = some (isBl a == isBl b) := by cases isBl a <;> cases isBl b <;> rfl
  have res : (.lst ((leafO a b).map chU) : U) = if (eqD a b && (isBl a == isBl b)) = true then .lst [] else .lst [.tup [.tup [], b]] := by
    rw [ne]
    unfold leafO
    by_cases e : rpT a = rpT b
    · rw [if_pos e, decide_eq_true e]
      rfl
    · rw [if_neg e, decide_eq_false e]
      rfl
  have tr1 : trim st (.ok (.lst []) st) = .ok (.lst []) st := trim_self (by simp [hltU, hltUs])
  have tr2 : trim st (.ok (.lst [.tup [.tup [], b]]) st) = .ok (.lst [.tup [.tup [], b]]) st := trim_self (pl_hlt (d := d + 3) _ _ (by
    show (pl (d + 2) (.tup [.tup [], b]) && true) = true
    rw [Bool.and_true]
    show (pl (d + 1) (.tup []) && (pl (d + 1) b && true)) = true
    rw [pl_mono (d' := d + 1) _ (by omega) (vl_pl hb)]
    rfl))
  rw [res]
  have cnd : (isTp a = false) ∨ (isTp a = true ∧ isTp b = false) ∨ ∃ xs ys, a = .tup xs ∧ b = .tup ys ∧ xs.length ≠ ys.length := by
    cases a with
    | tup xs =>
      cases b with
      | tup ys => exact .inr (.inr ⟨xs, ys, rfl, rfl, of_decide_eq_false hk⟩)
      | _ => exact .inr (.inl ⟨rfl, rfl⟩)
    | _ => exact .inl rfl
  clear res ne
  unfold runT runB g_outermost_changes
  generalize eqD a b = x at *
  generalize hY : isBl a = p at *
  generalize hZ : isBl b = q at *
  have body : ∀ (c : Z.R Fl), c = .ok (.nx [some a, some b, none, none, none, none]) st → True := fun _ _ => trivial
  rcases cnd with h | ⟨h, h'⟩ | ⟨xs, ys, rfl, rfl, hl⟩
  · rw [h] at t2
    cases x <;> cases p <;> cases q <;> simp [t1, t2, t3, t4, t5, t6, oEq, eq] <;> first | exact tr1 | exact tr2
  · rw [h] at t2
    rw [h'] at t5
    cases x <;> cases p <;> cases q <;> simp [t1, t2, t3, t4, t5, t6, oEq, eq] <;> first | exact tr1 | exact tr2
  · have ol1 : oLen st (.tup xs) = some (.int (xs.length : Int)) := rfl
    have ol2 : oLen st (.tup ys) = some (.int (ys.length : Int)) := rfl
    have e2 : isTp (.tup xs) = true := rfl
    have e5 : isTp (.tup ys) = true := rfl
    rw [e2] at t2
    rw [e5] at t5
    generalize U.tup xs = a at *
    generalize U.tup ys = b at *
    have hl' : ¬ (xs.length : Int) = (ys.length : Int) := by omega
    cases x <;> cases p <;> cases q <;> simp [t1, t2, t3, t4, t5, t6, oEq, eq, ol1, ol2, hl'] <;> first | exact tr1 | exact tr2
theorem out_eq : ∀ (n d : Nat) (a b : U), Vl d a → Vl d b → d ≤ n → d ≤ 6 → ∀ st : Store, FF_outermost_changes (n + 1) [a, b] st = .ok (.lst ((outU d a b).map chU)) st := by
  intro n
  induction n with
  | zero =>
    intro d a b ha hb hd hd6 st
    have : d = 0 := by omega
    subst this
    have hk : alk a b = false := by
      cases a with
      | tup xs => exact ha.elim
      | _ => rfl
    rw [out_leaf hk]
    exact out_leaf_run (self := FF_outermost_changes 0) ha hb (by decide) hk
  | succ n ih =>
    intro d a b ha hb hd hd6 st
    cases hk : alk a b with
    | false =>
      rw [out_leaf hk]
      exact out_leaf_run (self := FF_outermost_changes (n + 1)) ha hb hd6 hk
    | true =>
      cases a with
      | tup xs =>
        cases b with
        | tup ys =>
          cases d with
          | zero => exact ha.elim
          | succ d =>
            have hl : xs.length = ys.length := of_decide_eq_true hk
            have e : outU (d + 1) (.tup xs) (.tup ys) = outs (outU d) 0 xs ys := if_pos hl
            have hvx := vl_kid ha
            have hvy := vl_kid hb
            obtain ⟨o3', lp⟩ := out_loop (st := st) (self := FF_outermost_changes (n + 1)) (d := d) (xs := xs) (ys := ys) (fun x hx y hy S => ih d x y (hvx.2 x hx) (hvy.2 y hy) (by omega) (by omega) S) hvx.2 hvy.2 (by omega) xs ys [] [] [] none rfl rfl rfl hl (by have := hvx.1; simp; omega)
            have ol1 : oLen st (.tup xs) = some (.int (xs.length : Int)) := rfl
            have ol1' : ∀ S, oLen S (.tup xs) = some (.int (xs.length : Int)) := fun S => rfl
            have ol2 : oLen st (.tup ys) = some (.int (xs.length : Int)) := by rw [hl]; rfl
            have ty1 : tyU st (.tup xs) = some "tuple" := rfl
            have ty2 : tyU st (.tup ys) = some "tuple" := rfl
            have hg : rgOk (xs.length : Int) := (rgOk_iff _).mpr (by have := hvx.1; omega)
            have ft := trim_lst (st := st) ((outs (outU d) 0 xs ys).map chU) (by
              have := pl_hlt (d := d + 4) st.length (.lst ((outs (outU d) 0 xs ys).map chU)) (pls_mem.mpr fun x hx => by
                obtain ⟨c, hc, rfl⟩ := List.mem_map.mp hx
                rw [← e] at hc
                exact ch_pl (out_mem ha hb c hc).2)
              exact this)
            rw [e]
            have l0 : (([] : List U).length : Nat) = 0 := rfl
            rw [l0] at lp
            simp only [List.map_nil, List.nil_append, Int.natCast_zero, Int.zero_add] at lp
            show runT 6 (g_outermost_changes (FF_outermost_changes (n + 1))) [.tup xs, .tup ys] st = _
            unfold runT runB g_outermost_changes
            unfold E6o at lp
            generalize (outs (outU d) 0 xs ys).map chU = res at *
            generalize U.tup xs = ux at *
            generalize U.tup ys = uy at *
            generalize FF_outermost_changes (n + 1) = self at *
            simp [ty1, ty2, ol1, ol1', ol2, hg, lp, oEq]
            exact ft
        | _ => cases hk
      | _ => cases hk
end
end Z

namespace Z
open PySem PySem.Spec PyProof.Rows L2
/-! ### paths -/
def pths (F : U → List Pt) : Nat → List U → List Pt
  | i, x :: xs => (F x).map (fun p => i :: p) ++ pths F (i + 1) xs
  | _, [] => []
def pathsU : Nat → U → List Pt
  | d + 1, .tup us => [] :: pths (pathsU d) 0 us
  | _, _ => [[]]
def atP : U → Pt → Option U
  | a, [] => some a
  | .tup us, i :: p => (us[i]?).bind fun x => atP x p
  | _, _ :: _ => none
theorem atP_nil (a : U) : atP a [] = some a := by cases a <;> rfl
theorem atP_app : ∀ (p q : Pt) (a : U), atP a (p ++ q) = (atP a p).bind fun x => atP x q
  | [], q, a => by rw [List.nil_append, atP_nil]; rfl
  | i :: p, q, a => by
    cases a with
    | tup us =>
      show (us[i]?).bind (fun x => atP x (p ++ q)) = ((us[i]?).bind fun x => atP x p).bind fun x => atP x q
      cases us[i]? with
      | none => rfl
      | some x => exact atP_app p q x
    | _ => rfl
theorem pths_mem {F : U → List Pt} {P : Pt → Prop} : ∀ (xs : List U) (i : Nat), (∀ x ∈ xs, ∀ j, ∀ p ∈ F x, P (j :: p)) → ∀ p ∈ pths F i xs, P p
  | x :: xs, i, h, p, hp => by
    rcases List.mem_append.mp (show p ∈ (F x).map (fun p => i :: p) ++ pths F (i + 1) xs from hp) with hp | hp
    · obtain ⟨q, hq, rfl⟩ := List.mem_map.mp hp
      exact h x (.head _) i q hq
    · exact pths_mem xs (i + 1) (fun a ha j q hq => h a (.tail _ ha) j q hq) p hp
  | [], _, _, _, hp => by cases hp
theorem pths_len {F : U → List Pt} {B : Nat} : ∀ (xs : List U) (i : Nat), (∀ x ∈ xs, (F x).length ≤ B) → (pths F i xs).length ≤ xs.length * B
  | x :: xs, i, h => by
    have h1 := h x (.head _)
    have h2 := pths_len xs (i + 1) fun a ha => h a (.tail _ ha)
    show ((F x).map (fun p => i :: p) ++ pths F (i + 1) xs).length ≤ _
    rw [List.length_append, List.length_map, List.length_cons, Nat.add_mul]
    omega
  | [], _, _ => by show (0 : Nat) ≤ _; exact Nat.zero_le _
theorem paths_atom {d : Nat} {a : U} (h : isTp a = false) : pathsU d a = [[]] := by
  cases d with
  | zero => cases a <;> rfl
  | succ d =>
    cases a with
    | tup us => cases h
    | _ => rfl
theorem paths_len : ∀ {d : Nat} {a : U}, Vl d a → (∀ p ∈ pathsU d a, p.length ≤ d) ∧ (pathsU d a).length ≤ 5 ^ d := by
  intro d
  induction d with
  | zero =>
    intro a ha
    have e : pathsU 0 a = [[]] := by cases a <;> rfl
    rw [e]
    exact ⟨fun p hp => by rw [List.mem_singleton] at hp; rw [hp]; exact Nat.le_refl _, by simp⟩
  | succ d ih =>
    intro a ha
    have p5 : 1 ≤ 5 ^ d := Nat.one_le_pow _ _ (by decide)
    cases a with
    | tup us =>
      have hk := vl_kid ha
      have e : pathsU (d + 1) (.tup us) = [] :: pths (pathsU d) 0 us := rfl
      rw [e]
      refine ⟨fun p hp => ?_, ?_⟩
      · rcases List.mem_cons.mp hp with rfl | hp
        · exact Nat.zero_le _
        · exact pths_mem (P := fun p => p.length ≤ d + 1) us 0 (fun x hx j q hq => by
            have := (ih (hk.2 x hx)).1 q hq
            rw [List.length_cons]
            omega) p hp
      · have := pths_len (F := pathsU d) (B := 5 ^ d) us 0 fun x hx => (ih (hk.2 x hx)).2
        have h4 : us.length * 5 ^ d ≤ 4 * 5 ^ d := Nat.mul_le_mul_right _ hk.1
        rw [List.length_cons, Nat.pow_succ]
        omega
    | _ =>
      rw [paths_atom rfl]
      exact ⟨fun p hp => by rw [List.mem_singleton] at hp; rw [hp]; exact Nat.zero_le _, by rw [Nat.pow_succ]; simp; omega⟩
section
variable {st : Store}
theorem pth_lc {ρ : UEnv} {i : Nat} (hρ : ρ.length = 5) (h2 : ρ[2]? = some (some (.int (i : Int)))) : ∀ L : List Pt, (∀ p ∈ L, p.length ≤ 1000) → lcU (ctName 4) cYes E__law_paths_1 (L.map ptU) ρ st = .ok ((L.map fun p => i :: p).map ptU) st
  | [], _ => rfl
  | p :: L, h => by
    have ih := pth_lc hρ h2 L fun x hx => h x (.tail _ hx)
    have g4 : (ρ.set 4 (some (ptU p)))[4]? = some (some (ptU p)) := List.getElem?_set_self (by omega)
    have g2 : (ρ.set 4 (some (ptU p)))[2]? = some (some (.int (i : Int))) := by
      rw [List.getElem?_set_ne (by decide)]
      exact h2
    have ad := pt_add i (h p (.head _)) st
    have e1 : E__law_paths_1 (ρ.set 4 (some (ptU p))) st = .ok (ptU (i :: p)) st := by
      unfold E__law_paths_1
      clear ih
      generalize ρ.set 4 (some (ptU p)) = rr at *
      generalize ptU (i :: p) = q at *
      generalize ptU p = p at *
      simp [g4, g2, ad]
    rw [List.map_cons]
    simp only [lcU, ctName, Z.R.bind_ok, cYes, if_true]
    rw [e1]
    simp only [Z.R.bind_ok]
    rw [ih]
    rfl
abbrev E5p (a : U) (F : List Pt) (o2 o3 : Option U) : UEnv := [some a, some (.lst (F.map ptU)), o2, o3, none]
theorem paths_loop {self : FnZ} {d : Nat} {a : U} (hd : d ≤ 6) : ∀ (xs : List U) (i : Nat) (F : List Pt) (o2 o3 : Option U), (∀ x ∈ xs, self [x] st = .ok (.lst ((pathsU d x).map ptU)) st) → (∀ x ∈ xs, Vl d x) → F.length + xs.length * 15625 ≤ 16000000 → ∃ o2' o3', forU (gTp 2 (gsCons (gNm 2) (gsCons (gNm 3) (gsNil)))) (B__law_paths_2 self) (enumFrom i xs) (E5p a F o2 o3) st = .ok (.nx (E5p a (F ++ pths (pathsU d) i xs) o2' o3')) st
  | [], i, F, o2, o3, _, _, _ => ⟨o2, o3, by
    show (R.ok (Fl.nx (E5p a F o2 o3)) st : Z.R Fl) = R.ok (Fl.nx (E5p a (F ++ []) o2 o3)) st
    rw [List.append_nil]⟩
  | x :: xs, i, F, o2, o3, hs, hv, hb => by
    have e1 := hs x (.head _)
    obtain ⟨k1, k2⟩ := paths_len (hv x (.head _))
    have p5 : 5 ^ d ≤ 5 ^ 6 := Nat.pow_le_pow_right (by decide) hd
    have p56 : 5 ^ 6 = 15625 := by decide
    have lc := pth_lc (st := st) (i := i) (ρ := E5p a F (some (.int (i : Int))) (some x)) rfl rfl (pathsU d x) fun p hp => by have := k1 p hp; omega
    have il : itemsOf (.lst ((pathsU d x).map ptU)) = some ((pathsU d x).map ptU) := rfl
    have hl5 : ((pathsU d x).map ptU).length ≤ 16777216 := by rw [List.length_map]; omega
    have ad : oAdd st (.lst (F.map ptU)) (.lst (((pathsU d x).map fun p => i :: p).map ptU)) = some (.lst ((F ++ (pathsU d x).map fun p => i :: p).map ptU)) := by
      rw [oAdd_l st (by simp only [List.length_map]; rw [List.length_cons, Nat.add_mul] at hb; omega), List.map_append]
    obtain ⟨o2', o3', ih⟩ := paths_loop (self := self) (a := a) hd xs (i + 1) (F ++ (pathsU d x).map fun p => i :: p) (some (.int (i : Int))) (some x) (fun y hy => hs y (.tail _ hy)) (fun y hy => hv y (.tail _ hy)) (by
      rw [List.length_append, List.length_map]
      rw [List.length_cons, Nat.add_mul] at hb
      omega)
    refine ⟨o2', o3', ?_⟩
    have hbody : B__law_paths_2 self (E5p a F (some (.int (i : Int))) (some x)) st = .ok (.nx (E5p a (F ++ (pathsU d x).map fun p => i :: p) (some (.int (i : Int))) (some x))) st := by
      unfold E5p at *
      clear ih
      generalize (F ++ (pathsU d x).map fun p => i :: p).map ptU = l3 at *
      generalize ((pathsU d x).map fun p => i :: p).map ptU = l2 at *
      generalize (pathsU d x).map ptU = l1 at *
      generalize F.map ptU = l0 at *
      unfold B__law_paths_2
      simp [e1, il, hl5, wipeU, lc, ad]
    unfold enumFrom
    unfold forU
    simp only [gTp, gsCons, gsNil, gNm, List.length_cons, List.length_nil, Z.R.bind_ok, List.set]
    simp only [Nat.reduceAdd, BEq.rfl, if_true, Z.R.bind_ok]
    show (B__law_paths_2 self (E5p a F (some (.int (i : Int))) (some x)) st).bind _ = _
    rw [hbody]
    simp only [Z.R.bind_ok]
    rw [List.append_assoc] at ih
    exact ih
theorem paths_eq : ∀ (n d : Nat) (a : U), Vl d a → d ≤ n → d ≤ 6 → ∀ st : Store, FF__law_paths (n + 1) [a] st = .ok (.lst ((pathsU d a).map ptU)) st := by
  have atom : ∀ (self : FnZ) (d : Nat) (a : U) (st : Store), Vl d a → isTp a = false → runB 5 (g__law_paths self) [a] st = .ok (.lst ((pathsU d a).map ptU)) st := fun self d a st ha h => by
    obtain ⟨ta, t1, t2, _⟩ := vl_ty (st := st) ha
    rw [paths_atom h]
    rw [h] at t2
    have e : ([[]] : List Pt).map ptU = [.tup []] := rfl
    rw [e]
    unfold runB g__law_paths
    simp [t1, t2]
  intro n
  induction n with
  | zero =>
    intro d a ha hd hd6 st
    have : d = 0 := by omega
    subst this
    exact atom (FF__law_paths 0) 0 a st ha (by cases a with
      | tup xs => exact ha.elim
      | _ => rfl)
  | succ n ih =>
    intro d a ha hd hd6 st
    cases hk : isTp a with
    | false => exact atom (FF__law_paths (n + 1)) d a st ha hk
    | true =>
      cases a with
      | tup us =>
        cases d with
        | zero => exact ha.elim
        | succ d =>
          have hv := vl_kid ha
          obtain ⟨o2', o3', lp⟩ := paths_loop (st := st) (self := FF__law_paths (n + 1)) (d := d) (a := .tup us) (by omega) us 0 [[]] none none (fun x hx => ih d x (hv.2 x hx) (by omega) (by omega) st) hv.2 (by have := hv.1; simp; omega)
          have ty : tyU st (.tup us) = some "tuple" := rfl
          have en : enumOfU (.tup us) = some (enumFrom 0 us) := rfl
          have e : pathsU (d + 1) (.tup us) = [[]] ++ pths (pathsU d) 0 us := rfl
          rw [e]
          have e0 : ([[]] : List Pt).map ptU = [.tup []] := rfl
          unfold E5p at lp
          rw [e0] at lp
          show runB 5 (g__law_paths (FF__law_paths (n + 1))) [.tup us] st = _
          unfold runB g__law_paths
          generalize ([[]] ++ pths (pathsU d) 0 us).map ptU = res at *
          generalize enumFrom 0 us = eu at *
          generalize U.tup us = ux at *
          generalize FF__law_paths (n + 1) = self at *
          simp [ty, en, lp]
      | _ => cases hk
theorem at_eq : ∀ (p : Pt) (a v : U) (o1 : Option U) (o2 : Option U), atP a p = some v → ∃ o2', forU (gNm 2) B__law_at_1 (p.map fun (n : Nat) => U.int (n : Int)) [some a, o1, o2] st = .ok (.nx [some v, o1, o2']) st
  | [], a, v, o1, o2, h => by
    rw [atP_nil] at h
    injection h with h
    exact ⟨o2, by rw [h]; rfl⟩
  | i :: p, a, v, o1, o2, h => by
    cases a with
    | tup us =>
      have h : (us[i]?).bind (fun x => atP x p) = some v := h
      cases hx : us[i]? with
      | none => rw [hx] at h; cases h
      | some x =>
        rw [hx] at h
        obtain ⟨o2', ih⟩ := at_eq p x v o1 (some (.int (i : Int))) h
        refine ⟨o2', ?_⟩
        have x0 : ixU st (.tup us) (.int (i : Int)) = some x := by
          rw [ixU_t]
          exact atI_get hx
        rw [List.map_cons]
        unfold forU
        simp only [gNm, Z.R.bind_ok, List.set]
        have hb : B__law_at_1 [some (.tup us), o1, some (.int (i : Int))] st = .ok (.nx [some x, o1, some (.int (i : Int))]) st := by
          unfold B__law_at_1
          generalize U.tup us = tu at *
          simp [x0]
        rw [hb]
        exact ih
    | _ => cases h
theorem law_at_eq {p : Pt} {a v : U} (h : atP a p = some v) : F__law_at [a, ptU p] st = .ok v st := by
  obtain ⟨o2', e⟩ := at_eq (st := st) p a v (some (ptU p)) none h
  have il : itemsOf (ptU p) = some (p.map fun (n : Nat) => U.int (n : Int)) := rfl
  unfold F__law_at runB g__law_at
  generalize ptU p = pu at *
  generalize (p.map fun (n : Nat) => U.int (n : Int)) = pl at *
  simp [il, e]
theorem alike_eq {d k : Nat} {a b : U} (ha : Vl d a) (hb : Vl k b) : F__law_alike [a, b] st = .ok (.bl (alk a b)) st := by
  obtain ⟨ta, t1, t2, _⟩ := vl_ty (st := st) ha
  obtain ⟨tb, t4, t5, _⟩ := vl_ty (st := st) hb
  unfold F__law_alike runB g__law_alike
  have cnd : (isTp a = false ∧ alk a b = false) ∨ (isTp a = true ∧ isTp b = false ∧ alk a b = false) ∨ ∃ xs ys, a = .tup xs ∧ b = .tup ys ∧ alk a b = decide (xs.length = ys.length) := by
    cases a with
    | tup xs =>
      cases b with
      | tup ys => exact .inr (.inr ⟨xs, ys, rfl, rfl, rfl⟩)
      | _ => exact .inr (.inl ⟨rfl, rfl, rfl⟩)
    | _ => exact .inl ⟨rfl, rfl⟩
  rcases cnd with ⟨h, h'⟩ | ⟨h, h2, h'⟩ | ⟨xs, ys, rfl, rfl, h'⟩
  · rw [h] at t2
    rw [h']
    simp [t1, t2]
  · rw [h] at t2
    rw [h2] at t5
    rw [h']
    simp [t1, t2, t4, t5]
  · have ol1 : oLen st (.tup xs) = some (.int (xs.length : Int)) := rfl
    have ol2 : oLen st (.tup ys) = some (.int (ys.length : Int)) := rfl
    have e2 : isTp (.tup xs) = true := rfl
    have e5 : isTp (.tup ys) = true := rfl
    rw [e2] at t2
    rw [e5] at t5
    rw [h']
    generalize U.tup xs = a at *
    generalize U.tup ys = b at *
    by_cases hl : xs.length = ys.length
    · simp [t1, t2, t4, t5, oEq, ol1, ol2, hl]
    · have hl' : ¬ (xs.length : Int) = (ys.length : Int) := by omega
      simp [t1, t2, t4, t5, oEq, ol1, ol2, hl, hl']
end
end Z

namespace Z
open PySem PySem.Spec PyProof.Rows L2
/-! ### what the law calls the changes -/
theorem pt_eqDs : ∀ a b : Pt, eqDs (a.map fun (n : Nat) => U.int (n : Int)) (b.map fun (n : Nat) => U.int (n : Int)) = decide (a = b)
  | [], [] => rfl
  | [], _ :: _ => rfl
  | _ :: _, [] => rfl
  | x :: a, y :: b => by
    have ih := pt_eqDs a b
    show (eqD (.int (x : Int)) (.int (y : Int)) && eqDs (a.map fun (n : Nat) => U.int (n : Int)) (b.map fun (n : Nat) => U.int (n : Int))) = _
    rw [ih]
    have e : eqD (.int (x : Int)) (.int (y : Int)) = decide (x = y) := by
      by_cases h : x = y
      · rw [h, decide_eq_true rfl]; simp [eqD]
      · rw [decide_eq_false h]
        have : ¬ (x : Int) = (y : Int) := by omega
        simp [eqD, this]
    rw [e]
    by_cases h : x = y <;> by_cases h2 : a = b <;> simp [h, h2]
theorem cut_tk15 {α : Type} (xs : List α) (k : Nat) : cutU xs none (some (k : Int)) = xs.take k := by
  have h1 : HT.sIx xs.length 0 none = 0 := rfl
  have h2 : HT.sIx xs.length xs.length (some (k : Int)) = min k xs.length := by
    simp [HT.sIx]
    try omega
  unfold cutU
  rw [h1, h2, List.drop_zero, Nat.sub_zero]
  rcases Nat.le_total k xs.length with h | h
  · rw [Nat.min_eq_left h]
  · rw [Nat.min_eq_right h, List.take_of_length_le (Nat.le_refl _), List.take_of_length_le h]
section
variable {st : Store}
theorem pt_eq (a b : Pt) (st : Store) : eqU st (ptU a) (ptU b) = some (decide (a = b)) := by
  rw [eqU_p (pt_pl a) (pt_pl b)]
  show some (eqDs _ _) = _
  rw [pt_eqDs]
theorem pt_sl (p : Pt) (k : Nat) (st : Store) : slU st (ptU p) none (some (k : Int)) = some (ptU (p.take k)) := by
  show some (U.tup (cutU (p.map fun (n : Nat) => U.int (n : Int)) none (some (k : Int)))) = _
  rw [cut_tk15, ← List.map_take]
  rfl
theorem pt_len (p : Pt) (st : Store) : oLen st (ptU p) = some (.int (p.length : Int)) := by
  show some (U.int ((p.map fun (n : Nat) => U.int (n : Int)).length : Int)) = _
  rw [List.length_map]
theorem ones15 {α : Type} (xs : List α) (st : Store) : eqU st (.lst (xs.map fun _ => U.int 1)) (.lst []) = some xs.isEmpty := by
  have h1 : pl 2 (.lst (xs.map fun _ => U.int 1)) = true := pls_mem.mpr fun x hx => by
    obtain ⟨t, _, rfl⟩ := List.mem_map.mp hx
    rfl
  rw [eqU_p h1 (d' := 1) rfl]
  cases xs <;> rfl
theorem lcC_eq {g : Ct} {c : UEnv → Store → R Bool} {f : UEnv → Store → R U} {n : Nat} {xs : List U} {ρ : UEnv} (h : st[n]? = some (.lst xs)) (hc : ∀ x ∈ xs, ∀ ρ1, g x ρ = some ρ1 → ∃ b, c ρ1 st = .ok b st) (hf : ∀ ρ1, ∃ y, f ρ1 st = .ok y st) : ∀ k i, xs.length - i < k → lcC g c f n k i ρ st = lcU g c f (xs.drop i) ρ st
  | 0, i, hk => by omega
  | k + 1, i, hk => by
    unfold lcC
    simp only [h]
    by_cases hi : i < xs.length
    · have e : xs[i]? = some xs[i] := List.getElem?_eq_getElem hi
      rw [List.drop_eq_getElem_cons hi]
      simp only [e, lcU]
      have ih := lcC_eq h hc hf k (i + 1) (by omega)
      cases hg : g xs[i] ρ with
      | none => rfl
      | some ρ1 =>
        obtain ⟨b, hb⟩ := hc _ (List.getElem_mem hi) ρ1 hg
        obtain ⟨y, hy⟩ := hf ρ1
        simp only [hb, Z.R.bind_ok]
        cases b with
        | true =>
          simp only [if_true, hy, Z.R.bind_ok]
          rw [ih]
        | false =>
          simp only [Bool.false_eq_true, if_false]
          exact ih
    · have e : xs[i]? = none := List.getElem?_eq_none (by omega)
      rw [List.drop_of_length_le (by omega)]
      simp only [e]
      rfl
abbrev E10d (a b : U) (L : Nat) (o3 o4 o5 o6 : Option U) : UEnv := [some a, some b, some (.hdl L), o3, o4, o5, o6, none, none, none]
theorem in_T {ρ : UEnv} {p : Pt} {e : Ch} (hρ : ρ.length = 10) (h3 : ρ[3]? = some (some (ptU p))) : T__law_due_2 ((ρ.set 7 (some (ptU e.1))).set 8 (some e.2)) st = .ok (decide (p.take e.1.length = e.1)) st := by
  have g7 : ((ρ.set 7 (some (ptU e.1))).set 8 (some e.2))[7]? = some (some (ptU e.1)) := by
    rw [List.getElem?_set_ne (by decide), List.getElem?_set_self (by omega)]
  have g3 : ((ρ.set 7 (some (ptU e.1))).set 8 (some e.2))[3]? = some (some (ptU p)) := by
    rw [List.getElem?_set_ne (by decide), List.getElem?_set_ne (by decide)]
    exact h3
  have ol := pt_len e.1 st
  have sl := pt_sl p e.1.length st
  have eq := pt_eq (p.take e.1.length) e.1 st
  unfold T__law_due_2
  generalize (ρ.set 7 (some (ptU e.1))).set 8 (some e.2) = rr at *
  generalize decide (p.take e.1.length = e.1) = bb at *
  generalize ptU (p.take e.1.length) = p1 at *
  generalize ptU p = p2 at *
  generalize ptU e.1 = p3 at *
  simp [g7, g3, ol, sl, oEq, eq]
theorem in_lc {ρ : UEnv} {p : Pt} (hρ : ρ.length = 10) (h3 : ρ[3]? = some (some (ptU p))) : ∀ F : List Ch, lcU (ctPair 7 8) T__law_due_2 (dC (.int 1)) (F.map chU) ρ st = .ok ((F.filter fun e => decide (p.take e.1.length = e.1)).map fun _ => U.int 1) st
  | [] => rfl
  | e :: F => by
    have ih := in_lc hρ h3 F
    have e1 := in_T (st := st) (e := e) hρ h3
    rw [List.map_cons]
    simp only [lcU, ctPair, chU, Z.R.bind_ok]
    rw [e1]
    simp only [Z.R.bind_ok]
    rw [List.filter_cons]
    cases decide (p.take e.1.length = e.1) with
    | true =>
      simp only [if_true, dC, Z.R.bind_ok]
      rw [ih]
      rfl
    | false =>
      simp only [Bool.false_eq_true, if_false]
      exact ih
theorem in_eq {a b : U} {p : Pt} {F : List Ch} {o4 o5 o6 : Option U} (hF : F.length ≤ 16000000) : lcA (ctPair 7 8) T__law_due_2 (dC (.int 1)) (.hdl st.length) (E10d a b st.length (some (ptU p)) o4 o5 o6) (st ++ [.lst (F.map chU)]) = .ok ((F.filter fun e => decide (p.take e.1.length = e.1)).map fun _ => U.int 1) (st ++ [.lst (F.map chU)]) := by
  have h0 : (st ++ [Cell.lst (F.map chU)])[st.length]? = some (.lst (F.map chU)) := by simp
  have hl : lenC (st ++ [Cell.lst (F.map chU)]) st.length = F.length := by
    unfold lenC
    rw [h0]
    simp
  unfold lcA
  simp only [hl]
  rw [if_pos (by omega)]
  rw [lcC_eq (f := dC (.int 1)) h0 (fun x hx ρ1 hg => ?_) (fun ρ1 => ⟨.int 1, rfl⟩) _ _ (by rw [List.length_map]; omega), List.drop_zero]
  · exact in_lc rfl rfl F
  · obtain ⟨e, _, rfl⟩ := List.mem_map.mp hx
    have : some ((((E10d a b st.length (some (ptU p)) o4 o5 o6).set 7 (some (ptU e.1))).set 8 (some e.2))) = some ρ1 := hg
    injection this with this
    rw [← this]
    exact ⟨_, in_T (e := e) rfl rfl⟩
/-- below a change nothing is told -/
theorem due_skip {a b : U} {p : Pt} {F : List Ch} {o4 o5 o6 : Option U} (hF : F.length ≤ 16000000) (h : ∃ e ∈ F, p.take e.1.length = e.1) : B__law_due_3 (E10d a b st.length (some (ptU p)) o4 o5 o6) (st ++ [.lst (F.map chU)]) = .ok (.nx (E10d a b st.length (some (ptU p)) (some (.bl false)) o5 o6)) (st ++ [.lst (F.map chU)]) := by
  have e1 := in_eq (st := st) (a := a) (b := b) (p := p) (o4 := o4) (o5 := o5) (o6 := o6) hF
  have e2 := ones15 (F.filter fun e => decide (p.take e.1.length = e.1)) (st ++ [.lst (F.map chU)])
  have ne : (F.filter fun e => decide (p.take e.1.length = e.1)).isEmpty = false := by
    obtain ⟨e, he, hp⟩ := h
    cases q : F.filter fun e => decide (p.take e.1.length = e.1) with
    | nil =>
      have : e ∈ F.filter fun e => decide (p.take e.1.length = e.1) := List.mem_filter.mpr ⟨he, decide_eq_true hp⟩
      rw [q] at this
      cases this
    | cons x xs => rfl
  rw [ne] at e2
  unfold E10d at *
  generalize ((F.filter fun e => decide (p.take e.1.length = e.1)).map fun _ => U.int 1) = l1 at *
  generalize st ++ [Cell.lst (F.map chU)] = S at *
  generalize ptU p = pu at *
  unfold B__law_due_3
  simp [dCompC, wipeU, e1, oEq, e2]
theorem due_node {a b x y : U} {p : Pt} {F : List Ch} {o4 o5 o6 : Option U} (hF : F.length ≤ 15000000) (hp : p.length ≤ 1000) (hn : ∀ e ∈ F, ¬ p.take e.1.length = e.1) (hx : atP a p = some x) (hy : atP b p = some y) (vx : Vl 6 x) (vy : Vl 6 y)
    (hP : ∀ k, k < p.length → ∃ x' y', atP a (p.take k) = some x' ∧ atP b (p.take k) = some y' ∧ alk x' y' = true ∧ Vl 6 x' ∧ Vl 6 y') :
    B__law_due_3 (E10d a b st.length (some (ptU p)) o4 o5 o6) (st ++ [.lst (F.map chU)]) = .ok (.nx (E10d a b st.length (some (ptU p)) (some (.bl true)) (some x) (some y))) (st ++ [.lst ((F ++ if alk x y = false ∧ rpT x ≠ rpT y then [(p, y)] else []).map chU)]) := by
  have e1 := in_eq (st := st) (a := a) (b := b) (p := p) (o4 := o4) (o5 := o5) (o6 := o6) (by omega : F.length ≤ 16000000)
  have ne : (F.filter fun e => decide (p.take e.1.length = e.1)) = [] := List.filter_eq_nil_iff.mpr fun e he z => hn e he (of_decide_eq_true z)
  rw [ne] at e1
  have e1 : lcA (ctPair 7 8) T__law_due_2 (dC (.int 1)) (.hdl st.length) (E10d a b st.length (some (ptU p)) o4 o5 o6) (st ++ [.lst (F.map chU)]) = .ok [] (st ++ [.lst (F.map chU)]) := e1
  have lc : lcU (ctName 9) T__law_due_1 (dC (.int 1)) (rangeU 0 (p.length : Int)) (E10d a b st.length (some (ptU p)) (some (.bl true)) o5 o6) (st ++ [.lst (F.map chU)]) = .ok [] (st ++ [.lst (F.map chU)]) := by
    have key : ∀ ks : List Nat, (∀ k ∈ ks, k < p.length) → lcU (ctName 9) T__law_due_1 (dC (.int 1)) (ks.map fun (k : Nat) => U.int (0 + (k : Int))) (E10d a b st.length (some (ptU p)) (some (.bl true)) o5 o6) (st ++ [.lst (F.map chU)]) = .ok [] (st ++ [.lst (F.map chU)]) := by
      intro ks
      induction ks with
      | nil => intro _; rfl
      | cons k ks ih =>
        intro hk
        have ih := ih fun j hj => hk j (.tail _ hj)
        obtain ⟨x', y', h1, h2, h3, h4, h5⟩ := hP k (hk k (.head _))
        have w1 := law_at_eq (st := st ++ [.lst (F.map chU)]) h1
        have w2 := law_at_eq (st := st ++ [.lst (F.map chU)]) h2
        have w3 := alike_eq (st := st ++ [.lst (F.map chU)]) h4 h5
        rw [h3] at w3
        have sl := pt_sl p k (st ++ [.lst (F.map chU)])
        have z0 : (0 : Int) + (k : Int) = (k : Int) := by omega
        have hT : T__law_due_1 ((E10d a b st.length (some (ptU p)) (some (.bl true)) o5 o6).set 9 (some (.int (k : Int)))) (st ++ [.lst (F.map chU)]) = .ok false (st ++ [.lst (F.map chU)]) := by
          unfold T__law_due_1 E10d
          clear ih
          generalize st ++ [Cell.lst (F.map chU)] = S at *
          generalize ptU (p.take k) = p1 at *
          generalize ptU p = p2 at *
          simp [sl, w1, w2, w3]
        rw [List.map_cons, z0]
        simp only [lcU, ctName, Z.R.bind_ok]
        rw [hT]
        simp only [Z.R.bind_ok, Bool.false_eq_true, if_false]
        exact ih
    have er : rangeU 0 (p.length : Int) = (List.range p.length).map fun (k : Nat) => U.int (0 + (k : Int)) := by
      unfold rangeU
      rw [show ((p.length : Int) - 0).toNat = p.length by omega]
    rw [er]
    exact key _ fun k hk => List.mem_range.mp hk
  have ol := pt_len p (st ++ [.lst (F.map chU)])
  have rg : rgOk (p.length : Int) := (rgOk_iff _).mpr (by omega)
  have rl : (rangeU 0 (p.length : Int)).length ≤ 16777216 := by rw [rangeU_len]; omega
  have w1 := law_at_eq (st := st ++ [.lst (F.map chU)]) hx
  have w2 := law_at_eq (st := st ++ [.lst (F.map chU)]) hy
  have w3 := alike_eq (st := st ++ [.lst (F.map chU)]) vx vy
  have w4 := same_eq (st := st ++ [.lst (F.map chU)]) (vl_repr vx (by decide)) (vl_repr vy (by decide))
  have en : ∀ S, eqU S (.lst []) (.lst []) = some true := fun S => rfl
  have isl : isLst (st ++ [.lst (F.map chU)]) (.hdl st.length) = true := by
    have h0 : deref (st ++ [Cell.lst (F.map chU)]) (.hdl st.length) = .lst (F.map chU) := by
      unfold deref
      simp
    unfold isLst
    rw [h0]
  have app : appAt (st ++ [.lst (F.map chU)]) (.hdl st.length) (.tup [ptU p, y]) = some (st ++ [.lst ((F ++ [(p, y)]).map chU)]) := by
    have h0 : (st ++ [Cell.lst (F.map chU)])[st.length]? = some (.lst (F.map chU)) := by simp
    unfold appAt
    simp only [h0]
    rw [if_pos (by rw [List.length_map]; omega), List.map_append]
    congr 1
    rw [List.set_append_right _ _ (Nat.le_refl _), Nat.sub_self]
    rfl
  have res : st ++ [Cell.lst ((F ++ if alk x y = false ∧ rpT x ≠ rpT y then [(p, y)] else []).map chU)] = if (!alk x y && !decide (rpT x = rpT y)) = true then st ++ [Cell.lst ((F ++ [(p, y)]).map chU)] else st ++ [Cell.lst (F.map chU)] := by
    cases alk x y <;> by_cases h : rpT x = rpT y <;> simp [h]
  rw [res]
  clear res hn hP ne
  unfold E10d at *
  generalize st ++ [Cell.lst ((F ++ [(p, y)]).map chU)] = S2 at *
  generalize st ++ [Cell.lst (F.map chU)] = S at *
  generalize (p.length : Int) = pl at *
  generalize ptU p = pu at *
  generalize alk x y = b1 at *
  generalize decide (rpT x = rpT y) = b2 at *
  unfold B__law_due_3
  cases b1 <;> cases b2 <;> simp [dCompC, e1, oEq, en, ol, rg, rl, wipeU, lc, w1, w2, w3, w4, isl, app]
end
end Z

namespace Z
open PySem PySem.Spec PyProof.Rows L2
def appQ (q : Pt) (c : Ch) : Ch := (q ++ c.1, c.2)
section
variable {st : Store} {a b : U}
theorem due_cons {p : Pt} {xs : List U} {L : Nat} {o3 o4 o5 o6 : Option U} {S S' : Store} {ρ' : UEnv} (h : B__law_due_3 (E10d a b L (some (ptU p)) o4 o5 o6) S = .ok (.nx ρ') S') : forU (gNm 3) B__law_due_3 (ptU p :: xs) (E10d a b L o3 o4 o5 o6) S = forU (gNm 3) B__law_due_3 xs ρ' S' := by
  conv => lhs; unfold forU
  simp only [gNm, Z.R.bind_ok]
  show (B__law_due_3 (E10d a b L (some (ptU p)) o4 o5 o6) S).bind _ = _
  rw [h]
  rfl
theorem due_skips {F : List Ch} (hF : F.length ≤ 16000000) (rest : List U) : ∀ (ps : List Pt) (o3 o4 o5 o6 : Option U), (∀ p ∈ ps, ∃ e ∈ F, p.take e.1.length = e.1) → ∃ o3' o4' o5' o6', forU (gNm 3) B__law_due_3 (ps.map ptU ++ rest) (E10d a b st.length o3 o4 o5 o6) (st ++ [.lst (F.map chU)]) = forU (gNm 3) B__law_due_3 rest (E10d a b st.length o3' o4' o5' o6') (st ++ [.lst (F.map chU)])
  | [], o3, o4, o5, o6, _ => ⟨o3, o4, o5, o6, rfl⟩
  | p :: ps, o3, o4, o5, o6, h => by
    obtain ⟨o3', o4', o5', o6', ih⟩ := due_skips hF rest ps (some (ptU p)) (some (.bl false)) o5 o6 fun x hx => h x (.tail _ hx)
    refine ⟨o3', o4', o5', o6', ?_⟩
    rw [List.map_cons, List.cons_append, due_cons (due_skip hF (h p (.head _)))]
    exact ih
def Ext (F : List Ch) (q : Pt) : Prop := ∀ e ∈ F, ∀ p, ¬ ((q ++ p).take e.1.length = e.1)
def PreA (a b : U) (q : Pt) : Prop := ∀ k, k < q.length → ∃ x' y', atP a (q.take k) = some x' ∧ atP b (q.take k) = some y' ∧ alk x' y' = true ∧ Vl 6 x' ∧ Vl 6 y'
/-- what one subtree adds -/
def SubOk (d : Nat) (a b : U) (st : Store) : Prop := ∀ (q : Pt) (x y : U) (F : List Ch) (o3 o4 o5 o6 : Option U) (rest : List U), Vl d x → Vl d y → atP a q = some x → atP b q = some y → PreA a b q → Ext F q → q.length + d ≤ 900 → F.length + 4 ^ d ≤ 1000000 →
  ∃ o3' o4' o5' o6', forU (gNm 3) B__law_due_3 (((pathsU d x).map fun p => q ++ p).map ptU ++ rest) (E10d a b st.length o3 o4 o5 o6) (st ++ [.lst (F.map chU)]) = forU (gNm 3) B__law_due_3 rest (E10d a b st.length o3' o4' o5' o6') (st ++ [.lst ((F ++ (outU d x y).map (appQ q)).map chU)])
theorem take_ne {q p p' : Pt} {i k : Nat} (h : k ≠ i) : ¬ (q ++ k :: p).take (q ++ i :: p').length = q ++ i :: p' := fun e => by
  have h1 : ((q ++ k :: p).take (q ++ i :: p').length)[q.length]? = (q ++ i :: p')[q.length]? := by rw [e]
  rw [List.getElem?_take] at h1
  simp at h1
  exact h h1
theorem due_kids {d : Nat} (ih : SubOk d a b st) {q : Pt} (hq : q.length + d + 1 ≤ 900) (rest : List U) : ∀ (xr yr : List U) (i : Nat) (F : List Ch) (o3 o4 o5 o6 : Option U), xr.length = yr.length → (∀ x ∈ xr, Vl d x) → (∀ y ∈ yr, Vl d y) → (∀ j x, xr[j]? = some x → atP a (q ++ [i + j]) = some x) → (∀ j y, yr[j]? = some y → atP b (q ++ [i + j]) = some y) → (∀ j, PreA a b (q ++ [j])) → (∀ e ∈ F, ∀ k p, i ≤ k → ¬ ((q ++ k :: p).take e.1.length = e.1)) → F.length + xr.length * 4 ^ d ≤ 1000000 →
    ∃ o3' o4' o5' o6', forU (gNm 3) B__law_due_3 (((pths (pathsU d) i xr).map fun p => q ++ p).map ptU ++ rest) (E10d a b st.length o3 o4 o5 o6) (st ++ [.lst (F.map chU)]) = forU (gNm 3) B__law_due_3 rest (E10d a b st.length o3' o4' o5' o6') (st ++ [.lst ((F ++ (outs (outU d) i xr yr).map (appQ q)).map chU)])
  | [], [], i, F, o3, o4, o5, o6, _, _, _, _, _, _, _, _ => ⟨o3, o4, o5, o6, by
    show _ = forU (gNm 3) B__law_due_3 rest _ (st ++ [.lst ((F ++ []).map chU)])
    rw [List.append_nil]
    rfl⟩
  | x :: xr, y :: yr, i, F, o3, o4, o5, o6, hl, hv, hw, hx, hy, hP, hE, hF => by
    have hF' : F.length + 4 ^ d ≤ 1000000 := by
      rw [List.length_cons, Nat.add_mul] at hF
      omega
    have lo := out_len (hv x (.head _)) (hw y (.head _))
    obtain ⟨p3, p4, p5, p6, e1⟩ := ih (q ++ [i]) x y F o3 o4 o5 o6 (((pths (pathsU d) (i + 1) xr).map fun p => q ++ p).map ptU ++ rest) (hv x (.head _)) (hw y (.head _)) (hx 0 x rfl) (hy 0 y rfl) (hP i) (fun e he p z => by
      rw [List.append_assoc] at z
      exact hE e he i p (Nat.le_refl _) z) (by rw [List.length_append]; simp; omega) hF'
    obtain ⟨r3, r4, r5, r6, e2⟩ := due_kids ih hq rest xr yr (i + 1) (F ++ (outU d x y).map (appQ (q ++ [i]))) p3 p4 p5 p6 (by simpa using hl) (fun z hz => hv z (.tail _ hz)) (fun z hz => hw z (.tail _ hz)) (fun j z hz => by
      have := hx (j + 1) z (by simpa using hz)
      rw [show i + (j + 1) = i + 1 + j by omega] at this
      exact this) (fun j z hz => by
      have := hy (j + 1) z (by simpa using hz)
      rw [show i + (j + 1) = i + 1 + j by omega] at this
      exact this) hP (fun e he k p hk => by
      rcases List.mem_append.mp he with he | he
      · exact hE e he k p (by omega)
      · obtain ⟨c, _, rfl⟩ := List.mem_map.mp he
        show ¬ (q ++ k :: p).take (q ++ [i] ++ c.1).length = q ++ [i] ++ c.1
        rw [List.append_assoc]
        exact take_ne (by omega)) (by
      rw [List.length_append, List.length_map]
      rw [List.length_cons, Nat.add_mul] at hF
      omega)
    refine ⟨r3, r4, r5, r6, ?_⟩
    have el : ((pths (pathsU d) i (x :: xr)).map fun p => q ++ p).map ptU ++ rest = ((pathsU d x).map fun p => (q ++ [i]) ++ p).map ptU ++ (((pths (pathsU d) (i + 1) xr).map fun p => q ++ p).map ptU ++ rest) := by
      show (((pathsU d x).map (fun p => i :: p) ++ pths (pathsU d) (i + 1) xr).map fun p => q ++ p).map ptU ++ rest = _
      rw [List.map_append, List.map_append, List.append_assoc]
      congr 1
      rw [List.map_map, List.map_map, List.map_map]
      apply List.map_congr_left
      intro p _
      show ptU (q ++ i :: p) = ptU (q ++ [i] ++ p)
      rw [List.append_assoc]
      rfl
    have er : (F ++ (outU d x y).map (appQ (q ++ [i]))) ++ (outs (outU d) (i + 1) xr yr).map (appQ q) = F ++ (outs (outU d) i (x :: xr) (y :: yr)).map (appQ q) := by
      show _ = F ++ ((outU d x y).map (preC i) ++ outs (outU d) (i + 1) xr yr).map (appQ q)
      rw [List.map_append, List.append_assoc, List.map_map]
      congr 2
      apply List.map_congr_left
      intro c _
      show ((q ++ [i]) ++ c.1, c.2) = (q ++ i :: c.1, c.2)
      rw [List.append_assoc]
      rfl
    rw [er] at e2
    rw [el, e1, e2]
  | [], _ :: _, _, _, _, _, _, _, h, _, _, _, _, _, _, _ => by cases h
  | _ :: _, [], _, _, _, _, _, _, h, _, _, _, _, _, _, _ => by cases h
theorem due_sub : ∀ d : Nat, d ≤ 6 → SubOk d a b st := by
  intro d
  induction d with
  | zero =>
    intro _ q x y F o3 o4 o5 o6 rest hx hy ax ay hP hE hq hF
    have tx : isTp x = false := by cases x with
      | tup xs => exact hx.elim
      | _ => rfl
    have ak : alk x y = false := by cases x with
      | tup xs => exact hx.elim
      | _ => rfl
    rw [paths_atom tx, out_leaf ak]
    have hn := due_node (st := st) (o4 := o4) (o5 := o5) (o6 := o6) (p := q) (F := F) (by omega) (by omega) (fun e he z => hE e he [] (by rw [List.append_nil]; exact z)) ax ay (hx.up (by decide)) (hy.up (by decide)) hP
    refine ⟨some (ptU q), some (.bl true), some x, some y, ?_⟩
    have e0 : (([[]] : List Pt).map fun p => q ++ p).map ptU ++ rest = ptU q :: rest := by
      show ptU (q ++ []) :: rest = _
      rw [List.append_nil]
    rw [e0, due_cons hn]
    congr 3
    unfold leafO
    by_cases e : rpT x = rpT y
    · simp [e]
    · simp [e, ak, appQ]
  | succ d ihd =>
    intro hd q x y F o3 o4 o5 o6 rest hx hy ax ay hP hE hq hF
    have p4 : 1 ≤ 4 ^ (d + 1) := Nat.one_le_pow _ _ (by decide)
    have hn := due_node (st := st) (o4 := o4) (o5 := o5) (o6 := o6) (p := q) (F := F) (by omega) (by omega) (fun e he z => hE e he [] (by rw [List.append_nil]; exact z)) ax ay (hx.up hd) (hy.up hd) hP
    have e0 : ∀ ps : List Pt, (([] :: ps).map fun p => q ++ p).map ptU ++ rest = ptU q :: ((ps.map fun p => q ++ p).map ptU ++ rest) := fun ps => by
      show ptU (q ++ []) :: _ = _
      rw [List.append_nil]
      rfl
    have tail : ∃ ps, pathsU (d + 1) x = [] :: ps := by
      cases x with
      | tup us => exact ⟨_, rfl⟩
      | _ => exact ⟨[], rfl⟩
    cases ak : alk x y with
    | false =>
      rw [out_leaf ak]
      obtain ⟨ps, ep⟩ := tail
      by_cases e : rpT x = rpT y
      · have exy := rp_inj hx hy e
        subst exy
        have tx : isTp x = false := by cases x with
          | tup xs =>
            have : decide (xs.length = xs.length) = false := ak
            simp at this
          | _ => rfl
        refine ⟨some (ptU q), some (.bl true), some x, some x, ?_⟩
        rw [paths_atom tx, e0, due_cons hn]
        have z : (if alk x x = false ∧ rpT x ≠ rpT x then [(q, x)] else ([] : List Ch)) = (leafO x x).map (appQ q) := by
          unfold leafO
          simp
        rw [z]
        rfl
      · have z : (if alk x y = false ∧ rpT x ≠ rpT y then [(q, y)] else ([] : List Ch)) = (leafO x y).map (appQ q) := by
          unfold leafO
          simp [ak, e, appQ]
        have mem : (q, y) ∈ F ++ (leafO x y).map (appQ q) := by
          rw [← z]
          simp [ak, e]
        have lf : (F ++ (leafO x y).map (appQ q)).length ≤ 16000000 := by
          rw [← z, List.length_append]
          simp [ak, e]
          omega
        obtain ⟨o3', o4', o5', o6', sk⟩ := due_skips (st := st) (a := a) (b := b) lf rest (ps.map fun p => q ++ p) (some (ptU q)) (some (.bl true)) (some x) (some y) fun p hp => by
          obtain ⟨p', _, rfl⟩ := List.mem_map.mp hp
          refine ⟨(q, y), mem, ?_⟩
          show (q ++ p').take q.length = q
          simp
        refine ⟨o3', o4', o5', o6', ?_⟩
        rw [ep, e0, due_cons hn, z]
        exact sk
    | true =>
      cases x with
      | tup xs =>
        cases y with
        | tup ys =>
          have hl : xs.length = ys.length := of_decide_eq_true ak
          have e : outU (d + 1) (.tup xs) (.tup ys) = outs (outU d) 0 xs ys := if_pos hl
          have kx := vl_kid hx
          have ky := vl_kid hy
          have hF4 : F.length + xs.length * 4 ^ d ≤ 1000000 := by
            have h4 : xs.length * 4 ^ d ≤ 4 * 4 ^ d := Nat.mul_le_mul_right _ kx.1
            rw [Nat.pow_succ] at hF
            omega
          obtain ⟨o3', o4', o5', o6', kd⟩ := due_kids (ihd (by omega)) (q := q) (by omega) rest xs ys 0 F (some (ptU q)) (some (.bl true)) (some (.tup xs)) (some (.tup ys)) hl kx.2 ky.2 (fun j z hz => by
            rw [atP_app, ax, Nat.zero_add]
            show (xs[j]?).bind (fun x => atP x []) = some z
            rw [hz]
            exact atP_nil z) (fun j z hz => by
            rw [atP_app, ay, Nat.zero_add]
            show (ys[j]?).bind (fun x => atP x []) = some z
            rw [hz]
            exact atP_nil z) (fun j k hk => by
            rw [List.length_append] at hk
            by_cases hkq : k < q.length
            · rw [List.take_append_of_le_length (by omega)]
              exact hP k hkq
            · have : k = q.length := by simp at hk; omega
              rw [this, List.take_left]
              exact ⟨_, _, ax, ay, ak, hx.up hd, hy.up hd⟩) (fun e he k p _ z => hE e he (k :: p) z) hF4
          refine ⟨o3', o4', o5', o6', ?_⟩
          have z : (if alk (.tup xs) (.tup ys) = false ∧ rpT (.tup xs) ≠ rpT (.tup ys) then [(q, U.tup ys)] else ([] : List Ch)) = [] := by simp [ak]
          rw [z, List.append_nil] at hn
          rw [e]
          have ep : pathsU (d + 1) (.tup xs) = [] :: pths (pathsU d) 0 xs := rfl
          rw [ep, e0, due_cons hn]
          exact kd
        | _ => cases ak
      | _ => cases ak
theorem due_eq {d : Nat} {A B : U} (hA : Vl d A) (hB : Vl d B) (hd : d ≤ 6) : F__law_due [A, B] st = .ok (.tup ((outU d A B).map chU)) st := by
  have lo := out_len hA hB
  have p4 : 4 ^ d ≤ 4 ^ 6 := Nat.pow_le_pow_right (by decide) hd
  have p46 : 4 ^ 6 = 4096 := by decide
  obtain ⟨o3', o4', o5', o6', e⟩ := due_sub (a := A) (b := B) (st := st) d hd [] A B [] none none none none [] hA hB (atP_nil A) (atP_nil B) (fun k hk => by cases hk) (fun e he => nomatch he) (by simp; omega) (by simp; omega)
  have pe : F__law_paths [A] (st ++ [.lst []]) = .ok (.lst ((pathsU d A).map ptU)) (st ++ [.lst []]) := paths_eq 11 d A hA (by omega) hd _
  have e1 : ((pathsU d A).map fun p => ([] : Pt) ++ p) = pathsU d A := by
    have : (fun p : Pt => ([] : Pt) ++ p) = id := by funext p; rfl
    rw [this, List.map_id]
  have e2 : (outU d A B).map (appQ []) = outU d A B := by
    have : appQ [] = id := by funext c; rfl
    rw [this, List.map_id]
  rw [e1, e2, List.append_nil, List.nil_append] at e
  have e : forU (gNm 3) B__law_due_3 ((pathsU d A).map ptU) (E10d A B st.length none none none none) (st ++ [.lst []]) = .ok (.nx (E10d A B st.length o3' o4' o5' o6')) (st ++ [.lst ((outU d A B).map chU)]) := e
  have il : itemsOf (.lst ((pathsU d A).map ptU)) = some ((pathsU d A).map ptU) := rfl
  have ot : oTuple (st ++ [.lst ((outU d A B).map chU)]) (.hdl st.length) = some (.tup ((outU d A B).map chU)) := by
    have h0 : deref (st ++ [Cell.lst ((outU d A B).map chU)]) (.hdl st.length) = .lst ((outU d A B).map chU) := by
      unfold deref
      simp
    unfold oTuple
    rw [h0]
  have ft : trimV st (.tup ((outU d A B).map chU)) (st ++ [.lst ((outU d A B).map chU)]) = .ok (.tup ((outU d A B).map chU)) st := by
    have hp : pl (d + 3) (.tup ((outU d A B).map chU)) = true := pls_mem.mpr fun x hx => by
      obtain ⟨c, hc, rfl⟩ := List.mem_map.mp hx
      exact ch_pl (out_mem hA hB c hc).2
    unfold trimV
    rw [okCells_same, melt_hlt _ _ _ (pl_hlt _ _ hp)]
    simp
  unfold F__law_due runT runB g__law_due
  unfold E10d at e
  generalize (outU d A B).map chU = res at *
  generalize (pathsU d A).map ptU = pu at *
  simp [pe, il, e, ot]
  exact ft
end
end Z

namespace Z
open PySem PySem.Spec PyProof.Rows L2
/-! ### a value with changes -/
def putP : U → Pt → U → Option U
  | _, [], v => some v
  | .tup us, i :: p, v => if us.length ≤ 1000 then (us[i]?).bind fun x => (putP x p v).map fun y => .tup (us.set i y) else none
  | _, _ :: _, _ => none
theorem putP_nil (a v : U) : putP a [] v = some v := by cases a <;> rfl
theorem putP_cons {a v c : U} {i : Nat} {p : Pt} (h : putP a (i :: p) v = some c) : ∃ us x y, a = .tup us ∧ us.length ≤ 1000 ∧ us[i]? = some x ∧ putP x p v = some y ∧ c = .tup (us.set i y) := by
  cases a with
  | tup us =>
    have h : (if us.length ≤ 1000 then (us[i]?).bind (fun x => (putP x p v).map fun y => U.tup (us.set i y)) else none) = some c := h
    split at h
    · rename_i hl
      cases hx : us[i]? with
      | none => rw [hx] at h; cases h
      | some x =>
        rw [hx] at h
        cases hy : putP x p v with
        | none => simp [hy] at h
        | some y =>
          simp [hy] at h
          exact ⟨us, x, y, rfl, hl, hx, hy, h.symm⟩
    · cases h
  | _ => cases h
section
variable {st : Store}
theorem pt_sl1 (i : Nat) (p : Pt) (st : Store) : slU st (ptU (i :: p)) (some 1) none = some (ptU p) := by
  show some (U.tup (cutU (((i :: p)).map fun (n : Nat) => U.int (n : Int)) (some 1) none)) = _
  have : ∀ xs : List U, ∀ x : U, cutU (x :: xs) (some 1) none = xs := fun xs x => by
    have h1 : HT.sIx (x :: xs).length 0 (some 1) = 1 := by
      simp [HT.sIx]
    have h2 : HT.sIx (x :: xs).length (x :: xs).length none = (x :: xs).length := rfl
    unfold cutU
    rw [h1, h2]
    simp
  rw [List.map_cons, this]
  rfl
theorem cut_drop15 {α : Type} (xs : List α) (k : Nat) (h : k ≤ xs.length) : cutU xs (some (k : Int)) none = xs.drop k := by
  have h1 : HT.sIx xs.length 0 (some (k : Int)) = k := by
    simp [HT.sIx]
    split <;> omega
  have h2 : HT.sIx xs.length xs.length none = xs.length := rfl
  unfold cutU
  rw [h1, h2, List.take_of_length_le]
  rw [List.length_drop]
  omega
theorem put_facts {us : List U} {i : Nat} {x y : U} (hl : us.length ≤ 1000) (hx : us[i]? = some x) (S : Store) : ixU S (.tup us) (.int (i : Int)) = some x ∧ slU S (.tup us) none (some (i : Int)) = some (.tup (us.take i)) ∧ slU S (.tup us) (some ((i : Int) + 1)) none = some (.tup (us.drop (i + 1))) ∧ oAdd S (.tup (us.take i)) (.tup [y]) = some (.tup (us.take i ++ [y])) ∧ oAdd S (.tup (us.take i ++ [y])) (.tup (us.drop (i + 1))) = some (.tup (us.set i y)) := by
  have hi : i < us.length := (List.getElem?_eq_some_iff.mp hx).1
  refine ⟨?_, ?_, ?_, ?_, ?_⟩
  · rw [ixU_t]
    exact atI_get hx
  · show some (U.tup (cutU us none (some (i : Int)))) = _
    rw [cut_tk15]
  · show some (U.tup (cutU us (some ((i : Int) + 1)) none)) = _
    have : ((i : Int) + 1) = ((i + 1 : Nat) : Int) := by push_cast; rfl
    rw [this, cut_drop15 _ _ (by omega)]
  · exact oAdd_t S (by simp; omega)
  · rw [oAdd_t S (by simp; omega), List.set_eq_take_append_cons_drop, if_pos hi]
    simp
theorem with_eq : ∀ (n : Nat) (p : Pt) (a v c : U), p.length ≤ n → putP a p v = some c → FF_with_item_at (n + 1) [a, ptU p, v] st = .ok c st := by
  have base : ∀ (self : FnZ) (a v : U), runB 4 (g_with_item_at self) [a, ptU [], v] st = .ok v st := fun self a v => by
    have e := pt_eq [] [] st
    have e0 : ptU [] = .tup [] := rfl
    rw [e0] at e ⊢
    unfold runB g_with_item_at
    have e : eqU st (.tup []) (.tup []) = some true := e
    simp [oEq, e]
  intro n
  induction n with
  | zero =>
    intro p a v c hp h
    have : p = [] := List.length_eq_zero_iff.mp (by omega)
    subst this
    rw [putP_nil] at h
    injection h with h
    subst h
    exact base _ a v
  | succ n ih =>
    intro p a v c hp h
    cases p with
    | nil =>
      rw [putP_nil] at h
      injection h with h
      subst h
      exact base _ a v
    | cons i p =>
      obtain ⟨us, x, y, rfl, hl, hx, hy, rfl⟩ := putP_cons h
      have ih := ih p x v y (by simpa using hp) hy
      have e := pt_eq (i :: p) [] st
      have e : eqU st (ptU (i :: p)) (.tup []) = some false := e
      have x0 : ixU st (ptU (i :: p)) (.int 0) = some (.int (i : Int)) := by
        show ixU st (.tup ((i :: p).map fun (n : Nat) => U.int (n : Int))) (.int 0) = _
        rw [ixU_t]
        exact atI_get (n := 0) rfl
      have s1 := pt_sl1 i p st
      obtain ⟨f1, f2, f3, f4, f5⟩ := put_facts (y := y) hl hx st
      show runB 4 (g_with_item_at (FF_with_item_at (n + 1))) [.tup us, ptU (i :: p), v] st = _
      unfold runB g_with_item_at
      generalize U.tup (us.take i ++ [y]) = t1 at *
      generalize U.tup (us.take i) = t2 at *
      generalize U.tup (us.drop (i + 1)) = t3 at *
      generalize U.tup (us.set i y) = t4 at *
      generalize U.tup us = t5 at *
      generalize ptU (i :: p) = p1 at *
      generalize ptU p = p2 at *
      generalize FF_with_item_at (n + 1) = self at *
      simp [oEq, e, x0, s1, f1, f2, f3, f4, f5, ih]
theorem law_put_eq : ∀ (n : Nat) (p : Pt) (a v c : U), p.length ≤ n → putP a p v = some c → FF__law_put (n + 1) [a, ptU p, v] st = .ok c st := by
  have base : ∀ (self : FnZ) (a v : U), runB 3 (g__law_put self) [a, ptU [], v] st = .ok v st := fun self a v => by
    have e := pt_eq [] [] st
    have e0 : ptU [] = .tup [] := rfl
    rw [e0] at e ⊢
    unfold runB g__law_put
    have e : eqU st (.tup []) (.tup []) = some true := e
    simp [oEq, e]
  intro n
  induction n with
  | zero =>
    intro p a v c hp h
    have : p = [] := List.length_eq_zero_iff.mp (by omega)
    subst this
    rw [putP_nil] at h
    injection h with h
    subst h
    exact base _ a v
  | succ n ih =>
    intro p a v c hp h
    cases p with
    | nil =>
      rw [putP_nil] at h
      injection h with h
      subst h
      exact base _ a v
    | cons i p =>
      obtain ⟨us, x, y, rfl, hl, hx, hy, rfl⟩ := putP_cons h
      have ih := ih p x v y (by simpa using hp) hy
      have e := pt_eq (i :: p) [] st
      have e : eqU st (ptU (i :: p)) (.tup []) = some false := e
      have x0 : ixU st (ptU (i :: p)) (.int 0) = some (.int (i : Int)) := by
        show ixU st (.tup ((i :: p).map fun (n : Nat) => U.int (n : Int))) (.int 0) = _
        rw [ixU_t]
        exact atI_get (n := 0) rfl
      have s1 := pt_sl1 i p st
      obtain ⟨f1, f2, f3, f4, f5⟩ := put_facts (y := y) hl hx st
      show runB 3 (g__law_put (FF__law_put (n + 1))) [.tup us, ptU (i :: p), v] st = _
      unfold runB g__law_put
      generalize U.tup (us.take i ++ [y]) = t1 at *
      generalize U.tup (us.take i) = t2 at *
      generalize U.tup (us.drop (i + 1)) = t3 at *
      generalize U.tup (us.set i y) = t4 at *
      generalize U.tup us = t5 at *
      generalize ptU (i :: p) = p1 at *
      generalize ptU p = p2 at *
      generalize FF__law_put (n + 1) = self at *
      simp [oEq, e, x0, s1, f1, f2, f3, f4, f5, ih]
/-! ### what is a value -/
theorem sgn_ok : ∀ w ∈ LW, F_are_signs [.str w, .int 0, .int 20] st = .ok (.bl true) st := by
  intro w hw
  simp only [LW, List.mem_cons, List.not_mem_nil, or_false] at hw
  rcases hw with rfl | rfl | rfl | rfl | rfl | rfl | rfl | rfl <;> kernel_rfl
theorem within_eq : ∀ (n d : Nat) (a : U) (k : Nat), Vl d a → d ≤ n → d ≤ k → k ≤ 100 → ∀ st : Store, FF_is_value_within (n + 1) [a, .int (k : Int)] st = .ok (.bl true) st := by
  have atom : ∀ (self : FnZ) (d : Nat) (a : U) (k : Nat) (st : Store), Vl d a → isTp a = false → runB 3 (g_is_value_within self) [a, .int (k : Int)] st = .ok (.bl true) st := fun self d a k st ha h => by
    obtain ⟨ta, t1, t2, _⟩ := vl_ty (st := st) ha
    rw [h] at t2
    have m1 : u_MOST_VALUE = .int 4294967295 := rfl
    have m2 : u_MOST_SIGNS = .int 20 := rfl
    unfold runB g_is_value_within
    cases ha.c with
    | bl b =>
      have e : F_is_truth [.bl b] st = .ok (.bl true) st := by cases b <;> kernel_rfl
      simp [t1, t2, e]
    | int i h1 h2 =>
      have e : F_is_truth [.int i] st = .ok (.bl false) st := by kernel_rfl
      have e2 := is_integer_eq (st := st) (d := 1) (v := .int i) (lo := -1) (hi := 4294967295) rfl
      have wb : wholeB (-1) 4294967295 (.int i) = true := by simp [wholeB]; omega
      rw [wb] at e2
      simp [t1, t2, e, m1, e2, oNeg]
    | str w hw =>
      have e : F_is_truth [.str w] st = .ok (.bl false) st := by kernel_rfl
      have e2 := is_integer_eq (st := st) (d := 1) (v := .str w) (lo := -1) (hi := 4294967295) rfl
      have wb : wholeB (-1) 4294967295 (.str w) = false := rfl
      rw [wb] at e2
      have e3 := sgn_ok (st := st) w hw
      simp [t1, t2, e, m1, m2, e2, e3, oNeg]
    | tup j e us hl hx => cases h
  intro n
  induction n with
  | zero =>
    intro d a k ha hd hk hk2 st
    have : d = 0 := by omega
    subst this
    exact atom _ 0 a k st ha (by cases a with
      | tup xs => exact ha.elim
      | _ => rfl)
  | succ n ih =>
    intro d a k ha hd hk hk2 st
    cases hT : isTp a with
    | false => exact atom _ d a k st ha hT
    | true =>
      cases a with
      | tup us =>
        cases d with
        | zero => exact ha.elim
        | succ d =>
          have hv := vl_kid ha
          have ty : tyU st (.tup us) = some "tuple" := rfl
          have mi : u_MOST_ITEMS = .int 60 := rfl
          have it := is_tuple_eq (st := st) (d := d + 1) (v := .tup us) (lo := 0) (hi := 60) (vl_pl ha)
          have tb : tupB 0 60 (.tup us) = true := by
            have := hv.1
            simp [tupB]
            omega
          rw [tb] at it
          have k0 : ¬ k = 0 := by omega
          have k1 : (k : Int) - 1 = ((k - 1 : Nat) : Int) := by omega
          have il : itemsOf (.tup us) = some us := rfl
          obtain ⟨o', lp⟩ := forU_all (P := fun _ => true) (B := B_is_value_within_1 (FF_is_value_within (n + 1))) (i := 2) (E := fun o => [some (.tup us), some (.int (k : Int)), o]) (st := st) (u := .bl false) us none (by
            intro x hx o
            have e := ih d x (k - 1) (hv.2 x hx) (by omega) (by omega) (by omega) st
            rw [← k1] at e
            generalize FF_is_value_within (n + 1) = self at *
            generalize U.tup us = tu at *
            simp [B_is_value_within_1, e])
          have ha' : us.all (fun _ => true) = true := List.all_eq_true.mpr fun _ _ => rfl
          rw [ha', if_pos rfl] at lp
          show runB 3 (g_is_value_within (FF_is_value_within (n + 1))) [.tup us, .int (k : Int)] st = _
          unfold runB g_is_value_within
          generalize FF_is_value_within (n + 1) = self at *
          generalize U.tup us = tu at *
          simp [ty, oEq, k0, mi, it, il, lp]
      | _ => cases hT
end
end Z

namespace Z
open PySem PySem.Spec PyProof.Rows L2
section
variable {st : Store}
theorem is_value_eq {d : Nat} {a : U} (h : Vl d a) (hd : d ≤ 10) : F_is_value [a] st = .ok (.bl true) st := by
  have m : u_MOST_DEEP = .int 10 := rfl
  have e : F_is_value_within [a, .int 10] st = .ok (.bl true) st := within_eq 13 d a 10 h (by omega) hd (by decide) st
  unfold F_is_value runB g_is_value
  simp [m, e]
theorem check_eq {d : Nat} {a : U} (h : Vl d a) (hd : d ≤ 10) : F_check_value [a] st = .ok .non st := by
  have e := is_value_eq (st := st) h hd
  unfold F_check_value runB g_check_value
  simp [e]
theorem changes_eq {d : Nat} {a b : U} (ha : Vl d a) (hb : Vl d b) (hd : d ≤ 6) : F_changes_of [a, b] st = .ok (.tup ((outU d a b).map chU)) st := by
  have c1 := check_eq (st := st) ha (by omega)
  have c2 := check_eq (st := st) hb (by omega)
  have e : F_outermost_changes [a, b] st = .ok (.lst ((outU d a b).map chU)) st := out_eq 13 d a b ha hb (by omega) hd st
  have ot : oTuple st (.lst ((outU d a b).map chU)) = some (.tup ((outU d a b).map chU)) := rfl
  unfold F_changes_of runB g_changes_of
  generalize (outU d a b).map chU = res at *
  simp [c1, c2, e, ot]
/-! ### changes laid upon a value -/
theorem path_loop15 : ∀ (p : Pt) (a x : U) (o1 o2 : Option U) (d : Nat), Vl d a → d ≤ 20 → atP a p = some x → ∃ o2', forU (gNm 2) B_is_path_of_1 (p.map fun (n : Nat) => U.int (n : Int)) [some a, o1, o2] st = .ok (.nx [some x, o1, o2']) st
  | [], a, x, o1, o2, d, _, _, h => by
    rw [atP_nil] at h
    injection h with h
    exact ⟨o2, by rw [h]; rfl⟩
  | i :: p, a, x, o1, o2, d, ha, hd, h => by
    cases a with
    | tup us =>
      have h : (us[i]?).bind (fun x => atP x p) = some x := h
      cases hx : us[i]? with
      | none => rw [hx] at h; cases h
      | some z =>
        rw [hx] at h
        cases d with
        | zero => exact ha.elim
        | succ d =>
          have hv := vl_kid ha
          have hi := (List.getElem?_eq_some_iff.mp hx).1
          have hm : z ∈ us := List.mem_of_getElem? hx
          obtain ⟨o2', ih⟩ := path_loop15 p z x o1 (some (.int (i : Int))) d (hv.2 z hm) (by omega) h
          refine ⟨o2', ?_⟩
          have x0 : ixU st (.tup us) (.int (i : Int)) = some z := by
            rw [ixU_t]
            exact atI_get hx
          have ty : tyU st (.tup us) = some "tuple" := rfl
          have ol : oLen st (.tup us) = some (.int (us.length : Int)) := rfl
          have e2 := is_integer_eq (st := st) (d := 1) (v := .int (i : Int)) (lo := 0) (hi := (us.length : Int) - 1) rfl
          have wb : wholeB 0 ((us.length : Int) - 1) (.int (i : Int)) = true := by simp [wholeB]; omega
          rw [wb] at e2
          rw [List.map_cons]
          unfold forU
          simp only [gNm, Z.R.bind_ok, List.set]
          have hb : B_is_path_of_1 [some (.tup us), o1, some (.int (i : Int))] st = .ok (.nx [some z, o1, some (.int (i : Int))]) st := by
            unfold B_is_path_of_1
            generalize U.tup us = tu at *
            generalize (us.length : Int) = ul at *
            simp [ty, ol, e2, x0]
          rw [hb]
          exact ih
    | _ => cases h
theorem path_of_eq {d : Nat} {a x : U} {p : Pt} (ha : Vl d a) (hd : d ≤ 20) (h : atP a p = some x) : F_is_path_of [a, ptU p] st = .ok (.bl true) st := by
  obtain ⟨o2', e⟩ := path_loop15 (st := st) p a x (some (ptU p)) none d ha hd h
  have ty : tyU st (ptU p) = some "tuple" := rfl
  have il : itemsOf (ptU p) = some (p.map fun (n : Nat) => U.int (n : Int)) := rfl
  unfold F_is_path_of runB g_is_path_of
  generalize ptU p = pu at *
  generalize (p.map fun (n : Nat) => U.int (n : Int)) = pl at *
  simp [ty, il, e]
/-- q comes behind p, and neither begins the other -/
def Dv (p q : Pt) : Prop := ∃ r i j p' q', p = r ++ i :: p' ∧ q = r ++ j :: q' ∧ i < j
theorem Dv.ne {p q : Pt} (h : Dv p q) : ¬ q.take p.length = p := by
  obtain ⟨r, i, j, p', q', rfl, rfl, hij⟩ := h
  exact take_ne (by omega)
theorem Dv.lt {p q : Pt} (h : Dv p q) : ltU (ptU p) (ptU q) = true := by
  obtain ⟨r, i, j, p', q', rfl, rfl, hij⟩ := h
  show ltUs (((r ++ i :: p')).map fun (n : Nat) => U.int (n : Int)) (((r ++ j :: q')).map fun (n : Nat) => U.int (n : Int)) = true
  induction r with
  | nil =>
    show ltUs (U.int (i : Int) :: _) (U.int (j : Int) :: _) = true
    have ne : ¬ (i : Int) = (j : Int) := by omega
    have lt : (i : Int) < (j : Int) := by omega
    simp [ltUs, eqD, ltU, ne, lt]
  | cons x r ih =>
    show ltUs (U.int (x : Int) :: _) (U.int (x : Int) :: _) = true
    have : ltUs (((r ++ i :: p')).map fun (n : Nat) => U.int (n : Int)) (((r ++ j :: q')).map fun (n : Nat) => U.int (n : Int)) = true := ih
    simp [ltUs, eqD]
    simpa using this
theorem Dv.cons {p q : Pt} (k : Nat) (h : Dv p q) : Dv (k :: p) (k :: q) := by
  obtain ⟨r, i, j, p', q', rfl, rfl, hij⟩ := h
  exact ⟨k :: r, i, j, p', q', rfl, rfl, hij⟩
theorem asc15 : ∀ {xs : List U}, xs.Pairwise (fun a b => ltU a b = true) → ascB xs = true
  | [], _ => rfl
  | [_], _ => rfl
  | x :: y :: r, h => by
    obtain ⟨h1, h2⟩ := List.pairwise_cons.mp h
    simp only [ascB, Bool.and_eq_true]
    exact ⟨h1 y (.head _), asc15 h2⟩
theorem outs_dv {F : U → U → List Ch} : ∀ (xs ys : List U) (i : Nat), (∀ x ∈ xs, ∀ y ∈ ys, ((F x y).map (·.1)).Pairwise Dv) → ((outs F i xs ys).map (·.1)).Pairwise Dv ∧ ∀ c ∈ outs F i xs ys, ∃ k p, c.1 = k :: p ∧ i ≤ k
  | x :: xs, y :: ys, i, h => by
    obtain ⟨h1, h2⟩ := outs_dv (F := F) xs ys (i + 1) fun a ha b hb => h a (.tail _ ha) b (.tail _ hb)
    have e : outs F i (x :: xs) (y :: ys) = (F x y).map (preC i) ++ outs F (i + 1) xs ys := rfl
    rw [e]
    refine ⟨?_, fun c hc => ?_⟩
    · rw [List.map_append]
      refine List.pairwise_append.mpr ⟨?_, h1, fun p hp q hq => ?_⟩
      · rw [List.map_map]
        have : ((fun c : Ch => c.1) ∘ preC i) = (fun p : Pt => i :: p) ∘ (fun c : Ch => c.1) := by funext c; rfl
        rw [this, ← List.map_map]
        exact List.Pairwise.map _ (fun a b hab => hab.cons i) (h x (.head _) y (.head _))
      · obtain ⟨c, hc, rfl⟩ := List.mem_map.mp hp
        obtain ⟨c', hc', rfl⟩ := List.mem_map.mp hc
        obtain ⟨e, he, rfl⟩ := List.mem_map.mp hq
        obtain ⟨k, p, ek, hk⟩ := h2 e he
        rw [ek]
        exact ⟨[], i, k, c'.1, p, rfl, rfl, by omega⟩
    · rcases List.mem_append.mp hc with hc | hc
      · obtain ⟨c', _, rfl⟩ := List.mem_map.mp hc
        exact ⟨i, c'.1, rfl, Nat.le_refl _⟩
      · obtain ⟨k, p, e1, e2⟩ := h2 c hc
        exact ⟨k, p, e1, by omega⟩
  | [], _, _, _ => ⟨.nil, fun c hc => by cases hc⟩
  | _ :: _, [], _, _ => ⟨.nil, fun c hc => by cases hc⟩
theorem out_dv : ∀ (d : Nat) (a b : U), ((outU d a b).map (·.1)).Pairwise Dv := by
  have leaf : ∀ a b, ((leafO a b).map (·.1)).Pairwise Dv := fun a b => by
    unfold leafO
    split
    · exact .nil
    · exact List.pairwise_singleton _ _
  intro d
  induction d with
  | zero =>
    intro a b
    have e : outU 0 a b = leafO a b := by cases a <;> rfl
    rw [e]
    exact leaf a b
  | succ d ih =>
    intro a b
    cases hk : alk a b with
    | false =>
      rw [out_leaf hk]
      exact leaf a b
    | true =>
      cases a with
      | tup xs =>
        cases b with
        | tup ys =>
          have e : outU (d + 1) (.tup xs) (.tup ys) = outs (outU d) 0 xs ys := if_pos (of_decide_eq_true hk)
          rw [e]
          exact (outs_dv xs ys 0 fun x _ y _ => ih x y).1
        | _ => cases hk
      | _ => cases hk
/-- all changes, one after the other -/
def putAll : List Ch → U → Option U
  | [], a => some a
  | c :: L, a => (putP a c.1 c.2).bind fun a' => putAll L a'
theorem putAll_app : ∀ (L M : List Ch) (a : U), putAll (L ++ M) a = (putAll L a).bind fun b => putAll M b
  | [], M, a => rfl
  | c :: L, M, a => by
    show (putP a c.1 c.2).bind (fun a' => putAll (L ++ M) a') = ((putP a c.1 c.2).bind fun a' => putAll L a').bind fun b => putAll M b
    cases putP a c.1 c.2 with
    | none => rfl
    | some a' => exact putAll_app L M a'
theorem putAll_kid {dn xr : List U} (hl : dn.length + xr.length + 1 ≤ 1000) : ∀ (L : List Ch) (z : U), putAll (L.map (preC dn.length)) (.tup (dn ++ z :: xr)) = (putAll L z).map fun y => .tup (dn ++ y :: xr)
  | [], z => rfl
  | c :: L, z => by
    show (putP (.tup (dn ++ z :: xr)) (dn.length :: c.1) c.2).bind (fun a' => putAll (L.map (preC dn.length)) a') = ((putP z c.1 c.2).bind fun a' => putAll L a').map _
    have e : putP (.tup (dn ++ z :: xr)) (dn.length :: c.1) c.2 = (putP z c.1 c.2).map fun y => .tup (dn ++ y :: xr) := by
      show (if (dn ++ z :: xr).length ≤ 1000 then ((dn ++ z :: xr)[dn.length]?).bind (fun x => (putP x c.1 c.2).map fun y => U.tup ((dn ++ z :: xr).set dn.length y)) else none) = _
      rw [if_pos (by simp; omega)]
      have : (dn ++ z :: xr)[dn.length]? = some z := by simp
      rw [this]
      have : ∀ y, (dn ++ z :: xr).set dn.length y = dn ++ y :: xr := fun y => by
        rw [List.set_append_right _ _ (Nat.le_refl _), Nat.sub_self]
        rfl
      simp [this]
    rw [e]
    cases putP z c.1 c.2 with
    | none => rfl
    | some a' => exact putAll_kid hl L a'
theorem putAll_kids {F : U → U → List Ch} : ∀ (xr yr dn : List U), xr.length = yr.length → dn.length + xr.length ≤ 1000 → (∀ x ∈ xr, ∀ y ∈ yr, putAll (F x y) x = some y) → putAll (outs F dn.length xr yr) (.tup (dn ++ xr)) = some (.tup (dn ++ yr))
  | [], [], dn, _, _, _ => rfl
  | x :: xr, y :: yr, dn, hl, hb, h => by
    show putAll ((F x y).map (preC dn.length) ++ outs F (dn.length + 1) xr yr) (.tup (dn ++ x :: xr)) = _
    rw [putAll_app, putAll_kid (by simp at hb; omega), h x (.head _) y (.head _)]
    have := putAll_kids xr yr (dn ++ [y]) (by simpa using hl) (by simp at hb ⊢; omega) fun a ha b hb => h a (.tail _ ha) b (.tail _ hb)
    rw [List.length_append] at this
    simp only [List.append_assoc, List.singleton_append] at this
    exact this
  | [], _ :: _, _, h, _, _ => by cases h
  | _ :: _, [], _, h, _, _ => by cases h
theorem putAll_out : ∀ (d : Nat) (a b : U), Vl d a → Vl d b → putAll (outU d a b) a = some b := by
  have leaf : ∀ d a b, Vl d a → Vl d b → putAll (leafO a b) a = some b := fun d a b ha hb => by
    unfold leafO
    by_cases e : rpT a = rpT b
    · rw [if_pos e, rp_inj ha hb e]
      rfl
    · rw [if_neg e]
      show (putP a [] b).bind (fun a' => some a') = some b
      rw [putP_nil]
      rfl
  intro d
  induction d with
  | zero =>
    intro a b ha hb
    have e : outU 0 a b = leafO a b := by cases a <;> rfl
    rw [e]
    exact leaf 0 a b ha hb
  | succ d ih =>
    intro a b ha hb
    cases hk : alk a b with
    | false =>
      rw [out_leaf hk]
      exact leaf _ a b ha hb
    | true =>
      cases a with
      | tup xs =>
        cases b with
        | tup ys =>
          have hl : xs.length = ys.length := of_decide_eq_true hk
          have e : outU (d + 1) (.tup xs) (.tup ys) = outs (outU d) 0 xs ys := if_pos hl
          rw [e]
          have hx := vl_kid ha
          have hy := vl_kid hb
          exact putAll_kids xs ys [] hl (by have := hx.1; simp; omega) fun x hx' y hy' => ih x y (hx.2 x hx') (hy.2 y hy')
        | _ => cases hk
      | _ => cases hk
theorem outs_at {F : U → U → List Ch} : ∀ (xr yr dn : List U), (∀ x ∈ xr, ∀ y ∈ yr, ∀ c ∈ F x y, ∃ v, atP x c.1 = some v) → ∀ c ∈ outs F dn.length xr yr, ∃ v, atP (.tup (dn ++ xr)) c.1 = some v
  | x :: xr, y :: yr, dn, h, c, hc => by
    rcases List.mem_append.mp (show c ∈ (F x y).map (preC dn.length) ++ outs F (dn.length + 1) xr yr from hc) with hc | hc
    · obtain ⟨c', hc', rfl⟩ := List.mem_map.mp hc
      obtain ⟨v, hv⟩ := h x (.head _) y (.head _) c' hc'
      refine ⟨v, ?_⟩
      show ((dn ++ x :: xr)[dn.length]?).bind (fun x => atP x c'.1) = some v
      simp [hv]
    · have := outs_at xr yr (dn ++ [x]) (fun a ha b hb => h a (.tail _ ha) b (.tail _ hb)) c (by rw [List.length_append]; exact hc)
      simpa using this
  | [], _, _, _, _, hc => by cases hc
  | _ :: _, [], _, _, _, hc => by cases hc
theorem out_at : ∀ (d : Nat) (a b : U), ∀ c ∈ outU d a b, ∃ v, atP a c.1 = some v := by
  have leaf : ∀ a b, ∀ c ∈ leafO a b, ∃ v, atP a c.1 = some v := fun a b c hc => by
    unfold leafO at hc
    split at hc
    · cases hc
    · rw [List.mem_singleton] at hc
      subst hc
      exact ⟨a, atP_nil a⟩
  intro d
  induction d with
  | zero =>
    intro a b
    have e : outU 0 a b = leafO a b := by cases a <;> rfl
    rw [e]
    exact leaf a b
  | succ d ih =>
    intro a b
    cases hk : alk a b with
    | false =>
      rw [out_leaf hk]
      exact leaf a b
    | true =>
      cases a with
      | tup xs =>
        cases b with
        | tup ys =>
          have e : outU (d + 1) (.tup xs) (.tup ys) = outs (outU d) 0 xs ys := if_pos (of_decide_eq_true hk)
          rw [e]
          exact outs_at xs ys [] fun x _ y _ => ih x y
        | _ => cases hk
      | _ => cases hk
end
end Z

namespace Z
open PySem PySem.Spec PyProof.Rows L2
section
variable {st : Store}
theorem apart15 {qs : List Pt} (hp : qs.Pairwise Dv) (hl : qs.length ≤ 1000) : F_are_apart [.lst (qs.map ptU)] st = .ok (.bl true) st := by
  have ol : oLen st (.lst (qs.map ptU)) = some (.int qs.length) := by
    show some (U.int ((qs.map ptU).length : Int)) = _
    rw [List.length_map]
  have ix : ∀ (i : Nat) (hi : i < qs.length), ixU st (.lst (qs.map ptU)) (.int i) = some (ptU qs[i]) := fun i hi => by
    show atI (qs.map ptU) (i : Int) = _
    refine atI_get ?_
    rw [List.getElem?_map, List.getElem?_eq_getElem hi]
    rfl
  obtain ⟨o', e⟩ := forU_all (P := fun _ => true) (B := B_are_apart_1) (i := 1) (E := fun o => [some (.lst (qs.map ptU)), o]) (st := st) (u := .bl false) (rangeU 1 (qs.length : Int)) none (by
    intro x hx o
    obtain ⟨i, rfl, i1, i2⟩ : ∃ i : Nat, x = .int (i : Int) ∧ 1 ≤ i ∧ i < qs.length := by
      unfold rangeU at hx
      obtain ⟨k, hk, rfl⟩ := List.mem_map.mp hx
      rw [List.mem_range] at hk
      exact ⟨k + 1, by congr 1; omega, by omega, by omega⟩
    have a0 := ix i i2
    have a1 := ix (i - 1) (by omega)
    have hd := List.pairwise_iff_getElem.mp hp (i - 1) i (by omega) i2 (by omega)
    have ez : ((i - 1 : Nat) : Int) = (i : Int) - 1 := by omega
    rw [ez] at a1
    have ln := pt_len qs[i - 1] st
    have sl := pt_sl qs[i] qs[i - 1].length st
    have eq := pt_eq (qs[i].take qs[i - 1].length) qs[i - 1] st
    rw [decide_eq_false hd.ne] at eq
    generalize ptU (qs[i].take qs[i - 1].length) = p1 at *
    generalize ptU qs[i] = p2 at *
    generalize ptU qs[i - 1] = p3 at *
    generalize U.lst (qs.map ptU) = su at *
    unfold B_are_apart_1
    simp [a0, a1, ln, sl, oEq, eq])
  have hall : (rangeU 1 (qs.length : Int)).all (fun _ => true) = true := List.all_eq_true.mpr fun _ _ => rfl
  rw [hall, if_pos rfl] at e
  have e3 : F_is_ascending [.lst (qs.map ptU)] st = .ok (.bl (ascB (qs.map ptU))) st := by
    refine is_asc_gen (pls_mem.mpr fun x hx => ?_) (fun x hx y hy => ?_) (fun x hx => ?_) (.inr rfl) (by rw [List.length_map]; omega)
    · obtain ⟨p, _, rfl⟩ := List.mem_map.mp hx
      exact pl_mono _ (by decide) (pt_pl p)
    · obtain ⟨p, _, rfl⟩ := List.mem_map.mp hx
      obtain ⟨q, _, rfl⟩ := List.mem_map.mp hy
      show canLts (p.map fun (n : Nat) => U.int (n : Int)) (q.map fun (n : Nat) => U.int (n : Int)) = true
      have key : ∀ p q : Pt, canLts (p.map fun (n : Nat) => U.int (n : Int)) (q.map fun (n : Nat) => U.int (n : Int)) = true := by
        intro p
        induction p with
        | nil => intro q; cases q <;> rfl
        | cons x p ih =>
          intro q
          cases q with
          | nil => rfl
          | cons y q =>
            rw [List.map_cons, List.map_cons]
            unfold canLts
            rw [ih q]
            have c : canLt (.int (x : Int)) (.int (y : Int)) = true := rfl
            have ty : (tyN (.int (x : Int)) == tyN (.int (y : Int))) = true := rfl
            rw [c, ty]
            split <;> rfl
      exact key p q
    · obtain ⟨p, _, rfl⟩ := List.mem_map.mp hx
      rfl
  have asc : ascB (qs.map ptU) = true := asc15 (List.Pairwise.map _ (fun a b h => Dv.lt h) hp)
  rw [asc] at e3
  have hg : rgOk 1 := by decide
  have hg2 : rgOk (qs.length : Int) := (rgOk_iff _).mpr (by omega)
  unfold F_are_apart runB g_are_apart
  generalize U.lst (qs.map ptU) = su at *
  simp [ol, hg, hg2, e, e3]
theorem lay_loop {a0 cs : U} {o5 : Option U} : ∀ (L : List Ch) (a b : U) (o3 o4 : Option U), (∀ c ∈ L, c.1.length ≤ 12) → putAll L a = some b → ∃ o3' o4', forU (gTp 2 (gsCons (gNm 3) (gsCons (gNm 4) (gsNil)))) B_changed_value_1 (L.map chU) [some a0, some cs, some a, o3, o4, o5] st = .ok (.nx [some a0, some cs, some b, o3', o4', o5]) st
  | [], a, b, o3, o4, _, h => ⟨o3, o4, by
    have : a = b := by injection h
    rw [this]
    rfl⟩
  | c :: L, a, b, o3, o4, hl, h => by
    have h : (putP a c.1 c.2).bind (fun a' => putAll L a') = some b := h
    cases hp : putP a c.1 c.2 with
    | none => rw [hp] at h; cases h
    | some a' =>
      rw [hp] at h
      obtain ⟨o3', o4', ih⟩ := lay_loop (a0 := a0) (cs := cs) (o5 := o5) L a' b (some (ptU c.1)) (some c.2) (fun x hx => hl x (.tail _ hx)) h
      have e : F_with_item_at [a, ptU c.1, c.2] st = .ok a' st := with_eq 13 c.1 a c.2 a' (by have := hl c (.head _); omega) hp
      refine ⟨o3', o4', ?_⟩
      have hb : B_changed_value_1 [some a0, some cs, some a, some (ptU c.1), some c.2, o5] st = .ok (.nx [some a0, some cs, some a', some (ptU c.1), some c.2, o5]) st := by
        unfold B_changed_value_1
        generalize ptU c.1 = pu at *
        simp [e]
      rw [List.map_cons]
      unfold forU
      simp only [gTp, gsCons, gsNil, gNm, chU, List.length_cons, List.length_nil, Z.R.bind_ok, List.set]
      simp only [Nat.reduceAdd, BEq.rfl, if_true, Z.R.bind_ok]
      rw [hb]
      exact ih
theorem changed_eq {d e k : Nat} {a b : U} {L : List Ch} (ha : Vl d a) (hd : d ≤ 10) (hL : ∀ c ∈ L, (∃ v, atP a c.1 = some v) ∧ Vl e c.2 ∧ c.1.length ≤ 12) (he : e ≤ 10) (hp : (L.map (·.1)).Pairwise Dv) (hb : putAll L a = some b) (vb : Vl k b) (hk : k ≤ 10) (hl : L.length ≤ 1000) : F_changed_value [a, .tup (L.map chU)] st = .ok b st := by
  have c1 := check_eq (st := st) ha hd
  have cpl : pl 13 (.tup (L.map chU)) = true := pls_mem.mpr fun x hx => by
    obtain ⟨c, hc, rfl⟩ := List.mem_map.mp hx
    exact pl_mono (d' := 12) _ (by omega) (ch_pl (hL c hc).2.1)
  have sg : F_are_single_changes [a, .tup (L.map chU)] st = .ok (.bl true) st := by
    have it := is_tuple_eq (st := st) (d := 13) (v := .tup (L.map chU)) (lo := 0) (hi := 1000) cpl
    have tb : tupB 0 1000 (.tup (L.map chU)) = true := by
      simp [tupB]
      omega
    rw [tb] at it
    have mc : u_MOST_CHANGES = .int 1000 := rfl
    have il : itemsOf (.tup (L.map chU)) = some (L.map chU) := rfl
    obtain ⟨o', lp⟩ := forU_all (P := fun _ => true) (B := B_are_single_changes_1) (i := 2) (E := fun o => [some a, some (.tup (L.map chU)), o]) (st := st) (u := .bl false) (L.map chU) none (by
      intro x hx o
      obtain ⟨c, hc, rfl⟩ := List.mem_map.mp hx
      obtain ⟨⟨v, hv⟩, v2, _⟩ := hL c hc
      have i2 := is_tuple_eq (st := st) (d := e + 2) (v := chU c) (lo := 2) (hi := 2) (ch_pl v2)
      have t2 : tupB 2 2 (chU c) = true := rfl
      rw [t2] at i2
      have x0 : ixU st (chU c) (.int 0) = some (ptU c.1) := rfl
      have x1 : ixU st (chU c) (.int 1) = some c.2 := rfl
      have p1 := path_of_eq (st := st) ha (by omega) hv
      have p2 := is_value_eq (st := st) v2 he
      generalize U.tup (L.map chU) = lu at *
      generalize ptU c.1 = pu at *
      generalize chU c = cu at *
      simp [B_are_single_changes_1, i2, x0, x1, p1, p2])
    have ha' : (L.map chU).all (fun _ => true) = true := List.all_eq_true.mpr fun _ _ => rfl
    rw [ha', if_pos rfl] at lp
    unfold F_are_single_changes runB g_are_single_changes
    generalize L.map chU = lc at *
    generalize U.tup lc = lu at *
    simp [mc, it, il, lp]
  have lc : lcU (ctName 5) cYes E_changed_value_2 (L.map chU) [some a, some (.tup (L.map chU)), none, none, none, none] st = .ok ((L.map (·.1)).map ptU) st := by
    rw [lcU_map (F := fun x => match x with
      | .tup [k, _] => k
      | _ => .non)]
    · rw [List.map_map, List.map_map]
      rfl
    · intro x hx
      obtain ⟨c, _, rfl⟩ := List.mem_map.mp hx
      refine ⟨_, rfl, (show E_changed_value_2 (([some a, some (.tup (L.map chU)), none, none, none, none] : UEnv).set 5 (some (chU c))) st = .ok (ptU c.1) st from ?_)⟩
      have x0 : ixU st (chU c) (.int 0) = some (ptU c.1) := rfl
      clear hx
      generalize U.tup (L.map chU) = lu at *
      generalize ptU c.1 = wm at *
      generalize chU c = mm at *
      simp [E_changed_value_2, x0]
  have ap := apart15 (st := st) hp (by rw [List.length_map]; exact hl)
  obtain ⟨o3', o4', ll⟩ := lay_loop (st := st) (a0 := a) (cs := .tup (L.map chU)) (o5 := none) L a b none none (fun c hc => (hL c hc).2.2) hb
  have vv := is_value_eq (st := st) vb hk
  have il : itemsOf (.tup (L.map chU)) = some (L.map chU) := rfl
  have hl5 : (L.map chU).length ≤ 16777216 := by rw [List.length_map]; omega
  unfold F_changed_value runB g_changed_value
  generalize (L.map (·.1)).map ptU = pu at *
  generalize L.map chU = lu at *
  generalize U.tup lu = tu at *
  simp [c1, sg, il, hl5, wipeU, lc, ap, ll, vv]
/-! ### both ways -/
theorem at_small : ∀ (p : Pt) (a v : U) (d : Nat), Vl d a → atP a p = some v → ∀ k ∈ p, k < 4
  | [], _, _, _, _, _, k, hk => by cases hk
  | i :: p, a, v, d, ha, h, k, hk => by
    cases a with
    | tup us =>
      have h : (us[i]?).bind (fun x => atP x p) = some v := h
      cases hx : us[i]? with
      | none => rw [hx] at h; cases h
      | some x =>
        rw [hx] at h
        cases d with
        | zero => exact ha.elim
        | succ d =>
          have hv := vl_kid ha
          have hi := (List.getElem?_eq_some_iff.mp hx).1
          rcases List.mem_cons.mp hk with rfl | hk
          · omega
          · exact at_small p x v d (hv.2 x (List.mem_of_getElem? hx)) h k hk
    | _ => cases h
theorem enc_sh {L : List Ch} (hL : ∀ c ∈ L, (∀ k ∈ c.1, k < 4) ∧ c.1.length ≤ 4 ∧ Vl 4 c.2) (hl : L.length ≤ 256) : oRepr st (.tup (L.map chU)) = some (.str (rpT (.tup (L.map chU)))) := by
  refine sh_eq ?_ st
  have one : ∀ c ∈ L, rpQ (chU c) = true ∧ rpM (chU c) ≤ 15800 := fun c hc => by
    obtain ⟨h1, h2, h3⟩ := hL c hc
    have q1 : rpQ (ptU c.1) = true := rpQs_mem fun x hx => by
      obtain ⟨k, hk, rfl⟩ := List.mem_map.mp hx
      have := h1 k hk
      exact int_rep (by omega) (by omega)
    have m1 : rpM (ptU c.1) ≤ 86 := by
      have := rpMs_le (us := c.1.map fun (n : Nat) => U.int (n : Int)) (B := 19) fun x hx => by
        obtain ⟨k, hk, rfl⟩ := List.mem_map.mp hx
        unfold rpM
        exact Nat.le_refl _
      show 2 + rpMs (c.1.map fun (n : Nat) => U.int (n : Int)) ≤ 86
      rw [List.length_map] at this
      omega
    obtain ⟨q2, m2⟩ := vl_rep h3
    have p5 : 25 * 5 ^ 4 = 15625 := by decide
    refine ⟨?_, ?_⟩
    · show (rpQ (ptU c.1) && (rpQ c.2 && true)) = true
      rw [q1, q2]
      rfl
    · show 2 + (rpM (ptU c.1) + 2 + (rpM c.2 + 2 + 0)) ≤ 15800
      omega
  have q : rpQ (.tup (L.map chU)) = true := rpQs_mem fun x hx => by
    obtain ⟨c, hc, rfl⟩ := List.mem_map.mp hx
    exact (one c hc).1
  have m : rpM (.tup (L.map chU)) ≤ 16777216 := by
    have := rpMs_le (us := L.map chU) (B := 15800) fun x hx => by
      obtain ⟨c, hc, rfl⟩ := List.mem_map.mp hx
      exact (one c hc).2
    show 2 + rpMs (L.map chU) ≤ _
    rw [List.length_map] at this
    have h2 : L.length * 15802 ≤ 256 * 15802 := Nat.mul_le_mul_right _ hl
    omega
  have pq : pl 60 (.tup (L.map chU)) = true := pls_mem.mpr fun x hx => by
    obtain ⟨c, hc, rfl⟩ := List.mem_map.mp hx
    exact pl_mono (d' := 59) _ (by decide) (ch_pl (hL c hc).2.2)
  unfold shB
  rw [pq, q, decide_eq_true m]
  rfl
theorem outs_self {F : U → U → List Ch} : ∀ (xs : List U) (i : Nat), (∀ x ∈ xs, F x x = []) → outs F i xs xs = []
  | [], _, _ => rfl
  | x :: xs, i, h => by
    show (F x x).map (preC i) ++ outs F (i + 1) xs xs = []
    rw [h x (.head _), outs_self xs (i + 1) fun y hy => h y (.tail _ hy)]
    rfl
theorem out_self : ∀ (d : Nat) (a : U), outU d a a = [] := by
  have leaf : ∀ a, leafO a a = [] := fun a => by unfold leafO; simp
  intro d
  induction d with
  | zero =>
    intro a
    have e : outU 0 a a = leafO a a := by cases a <;> rfl
    rw [e, leaf]
  | succ d ih =>
    intro a
    cases hk : alk a a with
    | false => rw [out_leaf hk, leaf]
    | true =>
      cases a with
      | tup xs =>
        have e : outU (d + 1) (.tup xs) (.tup xs) = outs (outU d) 0 xs xs := if_pos rfl
        rw [e, outs_self xs 0 fun x _ => ih x]
      | _ => cases hk
theorem right15 {a b : U} (ha : Vl 4 a) (hb : Vl 4 b) : F__law_right [a, b] st = .ok (.bl true) st := by
  have e1 := changes_eq (st := st) ha hb (by decide)
  have e2 := due_eq (st := st) ha hb (by decide)
  have lo := out_len ha hb
  have l4 : (4 : Nat) ^ 4 = 256 := by decide
  have mem := fun c hc => out_mem ha hb c hc
  have at4 := out_at 4 a b
  have sh := enc_sh (st := st) (L := outU 4 a b) (fun c hc => by
    obtain ⟨v, hv⟩ := at4 c hc
    exact ⟨at_small c.1 a v 4 ha hv, (mem c hc).1, (mem c hc).2⟩) (by omega)
  have s1 := same_eq (st := st) sh sh
  have c1 := changed_eq (st := st) ha (by decide) (fun c hc => ⟨at4 c hc, (mem c hc).2, by have := (mem c hc).1; omega⟩) (by decide) (out_dv 4 a b) (putAll_out 4 a b ha hb) hb (by decide) (by omega)
  have ra := vl_repr (st := st) ha (by decide)
  have rb := vl_repr (st := st) hb (by decide)
  have s2 := same_eq (st := st) rb rb
  have s3 := same_eq (st := st) ra rb
  have s4 := same_eq (st := st) ra ra
  have c2 : F_changed_value [a, .tup []] st = .ok a st := changed_eq (L := []) (e := 0) ha (by decide) (fun c hc => nomatch hc) (by decide) .nil rfl ha (by decide) (by decide)
  have em : eqU st (.tup ((outU 4 a b).map chU)) (.tup []) = some (outU 4 a b).isEmpty := by
    have pq : pl 7 (.tup ((outU 4 a b).map chU)) = true := pls_mem.mpr fun x hx => by
      obtain ⟨c, hc, rfl⟩ := List.mem_map.mp hx
      exact ch_pl (mem c hc).2
    rw [eqU_p pq (d' := 1) rfl]
    cases outU 4 a b <;> rfl
  have ie : (outU 4 a b).isEmpty = decide (rpT a = rpT b) := by
    by_cases h : rpT a = rpT b
    · rw [decide_eq_true h, rp_inj ha hb h, out_self]
      rfl
    · rw [decide_eq_false h]
      cases q : outU 4 a b with
      | nil =>
        have := putAll_out 4 a b ha hb
        rw [q] at this
        have : a = b := by injection this
        exact absurd (by rw [this]) h
      | cons x xs => rfl
  rw [ie] at em
  simp only [decide_true] at s1 s2 s4
  unfold F__law_right runB g__law_right
  clear mem at4 sh ra rb ie
  generalize (outU 4 a b).map chU = res at *
  generalize U.tup res = tr at *
  generalize decide (rpT a = rpT b) = bb at *
  have eb : eqU st (.bl bb) (.bl bb) = some true := by cases bb <;> rfl
  simp [e1, e2, s1, c1, s2, oEq, em, s3, eb, c2, s4]
end
end Z

namespace Z
open PySem PySem.Spec PyProof.Rows L2
theorem put_ok : ∀ (d : Nat) (a : U) (p : Pt) (v : U) (e : Nat), Vl d a → p ∈ pathsU d a → Vl e v → ∃ c, putP a p v = some c ∧ Vl (d + e) c ∧ ∃ x, atP a p = some x := by
  have one : ∀ (d : Nat) (a v : U) (e : Nat), Vl d a → Vl e v → ∃ c, putP a [] v = some c ∧ Vl (d + e) c ∧ ∃ x, atP a [] = some x := fun d a v e ha hv => ⟨v, putP_nil a v, hv.up (by omega), a, atP_nil a⟩
  have kids : ∀ (F : U → List Pt) (xr : List U) (i : Nat) (p : Pt), p ∈ pths F i xr → ∃ j x q, xr[j]? = some x ∧ p = (i + j) :: q ∧ q ∈ F x := by
    intro F xr
    induction xr with
    | nil => intro i p hp; cases hp
    | cons x xr ih =>
      intro i p hp
      rcases List.mem_append.mp (show p ∈ (F x).map (fun p => i :: p) ++ pths F (i + 1) xr from hp) with hp | hp
      · obtain ⟨q, hq, rfl⟩ := List.mem_map.mp hp
        exact ⟨0, x, q, rfl, rfl, hq⟩
      · obtain ⟨j, y, q, h1, h2, h3⟩ := ih (i + 1) p hp
        exact ⟨j + 1, y, q, by simpa using h1, by rw [h2]; congr 1; omega, h3⟩
  intro d
  induction d with
  | zero =>
    intro a p v e ha hp hv
    have e0 : pathsU 0 a = [[]] := by cases a <;> rfl
    rw [e0, List.mem_singleton] at hp
    subst hp
    exact one 0 a v e ha hv
  | succ d ih =>
    intro a p v e ha hp hv
    cases hT : isTp a with
    | false =>
      rw [paths_atom hT, List.mem_singleton] at hp
      subst hp
      exact one _ a v e ha hv
    | true =>
      cases a with
      | tup us =>
        have hp : p ∈ [] :: pths (pathsU d) 0 us := hp
        rcases List.mem_cons.mp hp with rfl | hp
        · exact one _ _ v e ha hv
        · obtain ⟨j, x, q, h1, rfl, h3⟩ := kids (pathsU d) us 0 p hp
          have hk := vl_kid ha
          have hm : x ∈ us := List.mem_of_getElem? h1
          obtain ⟨c, hc, vc, y, hy⟩ := ih x q v e (hk.2 x hm) h3 hv
          rw [Nat.zero_add]
          refine ⟨.tup (us.set j c), ?_, ?_, y, ?_⟩
          · show (if us.length ≤ 1000 then (us[j]?).bind (fun x => (putP x q v).map fun y => U.tup (us.set j y)) else none) = _
            rw [if_pos (by have := hk.1; omega), h1]
            show (putP x q v).map _ = _
            rw [hc]
            rfl
          · have : d + 1 + e = (d + e) + 1 := by omega
            rw [this]
            refine ⟨by rw [List.length_set]; exact hk.1, fun z hz => ?_⟩
            rcases List.mem_or_eq_of_mem_set hz with hz | rfl
            · exact (hk.2 z hz).up (by omega)
            · exact vc
          · show (us[j]?).bind (fun x => atP x q) = some y
            rw [h1]
            exact hy
      | _ => cases hT
section
variable {st : Store} {n : Nat}
theorem leaf_ok (hc : CupAt n st) : Ok (F__law_leaf [.hdl n] st) (Dp (Vl 0) n st) := by
  unfold F__law_leaf
  refine Ok.runB fun Q hQ => ?_
  unfold g__law_leaf
  simp [oNeg]
  repeat (with_reducible refine Ok.bb ?_)
  refine Ok.bind (roll_all hc (many := 4294967296) (by decide) (by decide)) fun v st1 ⟨⟨r1, e, a1, a2⟩, d1, c1⟩ => ?_
  subst e
  try simp
  repeat (with_reducible refine Ok.bb ?_)
  refine Ok.bind (roll_all c1 (many := 300) (by decide) (by decide)) fun v st2 ⟨⟨r2, e, b1, b2⟩, d2, c2⟩ => ?_
  subst e
  simp
  repeat (with_reducible refine Ok.bb ?_)
  refine Ok.bind (some_all (fun u => Vl 0 u) c2 (by
    intro x hx
    simp only [List.mem_cons, List.not_mem_nil, or_false] at hx
    rcases hx with rfl | rfl | rfl | rfl | rfl | rfl | rfl | rfl | rfl | rfl | rfl | rfl | rfl | rfl | rfl <;> exact ⟨by omega, by omega⟩) (by simp) (by simp)) fun v1 st3 ⟨hv1, d3, c3⟩ => ?_
  try simp
  repeat (with_reducible refine Ok.bb ?_)
  refine Ok.bind (some_all (fun u => Vl 0 u) c3 (by
    intro x hx
    simp only [List.mem_cons, List.not_mem_nil, or_false] at hx
    rcases hx with rfl | rfl | rfl | rfl | rfl | rfl | rfl | rfl <;> (show _ ∈ LW; simp [LW])) (by simp) (by simp)) fun v2 st4 ⟨hv2, d4, c4⟩ => ?_
  try simp
  repeat (with_reducible refine Ok.bb ?_)
  refine Ok.bind (some_all (fun u => Vl 0 u) c4 (by
    intro x hx
    simp only [List.mem_cons, List.not_mem_nil, or_false] at hx
    rcases hx with rfl | rfl | rfl | rfl | rfl | rfl | rfl
    · exact hv1
    · exact hv1
    · exact hv1
    · exact hv2
    · exact hv2
    · trivial
    · trivial) (by simp) (by simp)) fun v3 st5 ⟨hv3, d5, c5⟩ => ?_
  try simp
  exact Ok.pure (hQ _ _ ⟨hv3, d1.trans (d2.trans (d3.trans (d4.trans d5))), c5⟩)
theorem value_ok : ∀ (k d : Nat), d ≤ k → ∀ st : Store, CupAt n st → Ok (FF__law_value (k + 1) [.hdl n, .int (d : Int)] st) (Dp (Vl d) n st) := by
  intro k
  induction k with
  | zero =>
    intro d hd st hc
    have : d = 0 := by omega
    subst this
    show Ok (runB 3 (g__law_value (FF__law_value 0)) [.hdl n, .int ((0 : Nat) : Int)] st) _
    refine Ok.runB fun Q hQ => ?_
    have lf := leaf_ok hc
    unfold g__law_value
    simp [oEq]
    repeat (with_reducible refine Ok.bb ?_)
    refine Ok.bind lf fun v st1 ⟨hv, d1, c1⟩ => ?_
    try simp
    exact Ok.pure (hQ _ _ ⟨hv, d1, c1⟩)
  | succ k ih =>
    intro d hd st hc
    show Ok (runB 3 (g__law_value (FF__law_value (k + 1))) [.hdl n, .int (d : Int)] st) _
    refine Ok.runB fun Q hQ => ?_
    unfold g__law_value
    generalize FF__law_value (k + 1) = self at *
    cases d with
    | zero =>
      have lf := leaf_ok hc
      simp [oEq]
      repeat (with_reducible refine Ok.bb ?_)
      refine Ok.bind lf fun v st1 ⟨hv, d1, c1⟩ => ?_
      try simp
      exact Ok.pure (hQ _ _ ⟨hv, d1, c1⟩)
    | succ d =>
      have z1 : ¬ ((d : Int) + 1 = 0) := by omega
      simp [oEq, z1]
      repeat (with_reducible refine Ok.bb ?_)
      refine Ok.bind (roll_all hc (many := 3) (by decide) (by decide)) fun v st1 ⟨⟨r, e, a1, a2⟩, d1, c1⟩ => ?_
      subst e
      by_cases hr : r = 0
      · have lf := leaf_ok c1
        simp [hr]
        repeat (with_reducible refine Ok.bb ?_)
        refine Ok.bind lf fun v st2 ⟨hv, d2, c2⟩ => ?_
        try simp
        exact Ok.pure (hQ _ _ ⟨hv.up (Nat.zero_le _), d1.trans d2, c2⟩)
      · simp [hr]
        repeat (with_reducible refine Ok.bb ?_)
        refine Ok.bind (some_all (fun u => ∃ m : Nat, u = .int (m : Int) ∧ m ≤ 4) c1 (by
          intro x hx
          simp only [List.mem_cons, List.not_mem_nil, or_false] at hx
          rcases hx with rfl | rfl | rfl | rfl | rfl | rfl
          · exact ⟨0, rfl, by decide⟩
          · exact ⟨1, rfl, by decide⟩
          · exact ⟨2, rfl, by decide⟩
          · exact ⟨2, rfl, by decide⟩
          · exact ⟨3, rfl, by decide⟩
          · exact ⟨4, rfl, by decide⟩) (by simp) (by simp)) fun v2 st2 ⟨⟨m, e, hm⟩, d2, c2⟩ => ?_
        subst e
        have hg : rgOk (m : Int) := (rgOk_iff _).mpr (by omega)
        have hrl : (rangeU 0 (m : Int)).length ≤ 16777216 := by rw [rangeU_len]; omega
        obtain ⟨us, st3, e, hp, hlen, d3, c3⟩ := lcU_inv (g := ctName 2) (f := E__law_value_1 self) (ρ := [some (.hdl n), some (.int ((d : Int) + 1)), none]) (fun st' => Drew n st2 st' ∧ CupAt n st') (fun u => Vl d u) (fun x st' ⟨dd, cc⟩ => by
          have := ih d (by omega) st' cc
          have z2 : (d : Int) + 1 - 1 = (d : Int) := by omega
          simp [E__law_value_1, z2]
          exact this.imp fun u st2 ⟨p, d2, c2⟩ => ⟨p, dd.trans d2, c2⟩) (rangeU 0 (m : Int)) st2 ⟨Drew.refl c2, c2⟩
        rw [rangeU_len] at hlen
        have ot : ∀ S, oTuple S (.lst us) = some (.tup us) := fun S => rfl
        have fin := hQ (.tup us) st3 ⟨(⟨by omega, hp⟩ : Vl (d + 1) (.tup us)), d1.trans (d2.trans d3), c3⟩
        simp [hg, hrl, wipeU, e, ot]
        exact Ok.pure fin
abbrev L15 (u : U) (o2 o3 o4 o5 o6 o7 o8 : Option U) : UEnv := [some u, some (.hdl 0), o2, o3, o4, o5, o6, o7, o8, none, none, none, none, none]
theorem near_step {u a x : U} {d : Nat} {o2 o3 o4 o7 o8 : Option U} (ha : Vl d a) (hd : d ≤ 5) (hc : CupAt 0 st) (Q : Fl → Store → Prop) (k : ∀ c st', Vl (d + 1) c → Drew 0 st st' → CupAt 0 st' → Q (.nx (L15 u o2 o3 o4 (some c) (some x) o7 o8)) st') : Ok (B_law_5 (L15 u o2 o3 o4 (some a) (some x) o7 o8) st) Q := by
  have pe : F__law_paths [a] st = .ok (.lst ((pathsU d a).map ptU)) st := paths_eq 11 d a ha (by omega) (by omega) st
  obtain ⟨pl1, pl2⟩ := paths_len ha
  have p5 : 5 ^ d ≤ 5 ^ 5 := Nat.pow_le_pow_right (by decide) hd
  have p55 : 5 ^ 5 = 3125 := by decide
  have ne : (pathsU d a).map ptU ≠ [] := by
    have : ∃ ps, pathsU d a = [] :: ps := by
      cases d with
      | zero => cases a <;> exact ⟨[], rfl⟩
      | succ d =>
        cases a with
        | tup us => exact ⟨_, rfl⟩
        | _ => exact ⟨[], rfl⟩
    obtain ⟨ps, e⟩ := this
    rw [e]
    simp
  unfold B_law_5 L15
  simp [pe]
  repeat (with_reducible refine Ok.bb ?_)
  refine Ok.bind (some_all (fun u => ∃ p, u = ptU p ∧ p ∈ pathsU d a) hc (by
    intro x hx
    obtain ⟨p, hp, rfl⟩ := List.mem_map.mp hx
    exact ⟨p, rfl, hp⟩) ne (by rw [List.length_map]; omega)) fun v st1 ⟨⟨p, e, hp⟩, d1, c1⟩ => ?_
  subst e
  try simp
  repeat (with_reducible refine Ok.bb ?_)
  have vo : Ok (F__law_value [.hdl 0, .int 1] st1) _ := value_ok 5 1 (by decide) st1 c1
  refine Ok.bind vo fun v st2 ⟨hv, d2, c2⟩ => ?_
  obtain ⟨c, e1, vc, _⟩ := put_ok d a p v 1 ha hp hv
  have pu : F__law_put [a, ptU p, v] st2 = .ok c st2 := law_put_eq 11 p a v c (by have := pl1 p hp; omega) e1
  simp [pu]
  exact Ok.pure (k c st2 vc (d1.trans d2) c2)
theorem near_loop {u : U} {o2 o3 o4 o7 o8 : Option U} : ∀ (xs : List U) (d : Nat) (a : U) (o6 : Option U) (st : Store), Vl d a → d + xs.length ≤ 4 → CupAt 0 st → ∀ Q : Fl → Store → Prop, (∀ c o6 st', Vl 4 c → Drew 0 st st' → CupAt 0 st' → Q (.nx (L15 u o2 o3 o4 (some c) o6 o7 o8)) st') → Ok (forU (gNm 6) B_law_5 xs (L15 u o2 o3 o4 (some a) o6 o7 o8) st) Q
  | [], d, a, o6, st, ha, hd, hc, Q, k => ⟨_, _, rfl, k a o6 st (ha.up (by simpa using hd)) (Drew.refl hc) hc⟩
  | x :: xs, d, a, o6, st, ha, hd, hc, Q, k => by
    rw [List.length_cons] at hd
    obtain ⟨r, st1, e, c, rfl, vc, d1, c1⟩ := near_step (st := st) (u := u) (x := x) (o2 := o2) (o3 := o3) (o4 := o4) (o7 := o7) (o8 := o8) ha (by omega) hc (fun r st' => ∃ c, r = .nx (L15 u o2 o3 o4 (some c) (some x) o7 o8) ∧ Vl (d + 1) c ∧ Drew 0 st st' ∧ CupAt 0 st') fun c st' h1 h2 h3 => ⟨c, rfl, h1, h2, h3⟩
    have ih := near_loop (u := u) (o2 := o2) (o3 := o3) (o4 := o4) (o7 := o7) (o8 := o8) xs (d + 1) c (some x) st1 vc (by omega) c1 Q fun c' o6' st' h1 h2 h3 => k c' o6' st' h1 (d1.trans h2) h3
    unfold forU
    simp only [gNm, Z.R.bind_ok]
    show Ok ((B_law_5 (L15 u o2 o3 o4 (some a) (some x) o7 o8) st).bind _) Q
    rw [e]
    exact ih
theorem body15 {u x : U} {o3 o4 o5 o6 o7 o8 : Option U} (hc : CupAt 0 st) (Q : Fl → Store → Prop) (k : ∀ st' o3 o4 o5 o6 o7 o8, Drew 0 st st' → CupAt 0 st' → Q (.nx (L15 u (some x) o3 o4 o5 o6 o7 o8)) st') : Ok (B_law_6 (L15 u (some x) o3 o4 o5 o6 o7 o8) st) Q := by
  unfold B_law_6
  refine Ok.seq (fun ρ st' => ∃ a b, Vl 2 a ∧ Vl 2 b ∧ ρ = L15 u (some x) (some a) (some b) o5 o6 o7 o8 ∧ Drew 0 st st' ∧ CupAt 0 st') (fun Q' k' => ?_) ?_
  · unfold L15
    simp
    repeat (with_reducible refine Ok.bb ?_)
    have v1 : Ok (F__law_value [.hdl 0, .int 2] st) _ := value_ok 5 2 (by decide) st hc
    refine Ok.bind v1 fun a st1 ⟨ha, d1, c1⟩ => ?_
    try simp
    repeat (with_reducible refine Ok.bb ?_)
    have v2 : Ok (F__law_value [.hdl 0, .int 2] st1) _ := value_ok 5 2 (by decide) st1 c1
    refine Ok.bind v2 fun b st2 ⟨hb, d2, c2⟩ => ?_
    try simp
    exact Ok.pure (k' _ st2 ⟨a, b, ha, hb, rfl, d1.trans d2, c2⟩)
  rintro ρ st1 ⟨a, b, ha, hb, rfl, d1, c1⟩
  refine Ok.seqE (ρ1 := L15 u (some x) (some a) (some b) (some a) o6 o7 o8) (st1 := st1) (by unfold L15; simp) ?_
  refine Ok.seq (fun ρ st' => ∃ c o6, Vl 4 c ∧ ρ = L15 u (some x) (some a) (some b) (some c) o6 o7 o8 ∧ Drew 0 st st' ∧ CupAt 0 st') (fun Q' k' => ?_) ?_
  · simp
    repeat (with_reducible refine Ok.bb ?_)
    refine Ok.bind (roll_all c1 (many := 2) (by decide) (by decide)) fun v st2 ⟨⟨r, e, a1, a2⟩, d2, c2⟩ => ?_
    subst e
    have hg : rgOk (1 + r) := (rgOk_iff _).mpr (by omega)
    have hlen : (rangeU 0 (1 + r)).length ≤ 2 := by rw [rangeU_len]; omega
    have nl := near_loop (u := u) (o2 := some x) (o3 := some a) (o4 := some b) (o7 := o7) (o8 := o8) (rangeU 0 (1 + r)) 2 a o6 st2 ha (by omega) c2 Q' fun c o6' st' h1 h2 h3 => k' _ st' ⟨c, o6', h1, rfl, d1.trans (d2.trans h2), h3⟩
    simp [hg]
    exact nl
  rintro ρ st2 ⟨c, o6, hcv, rfl, d2, c2⟩
  have va := ha.up (k := 4) (by decide)
  have vb := hb.up (k := 4) (by decide)
  refine Ok.seqE (ρ1 := L15 u (some x) (some a) (some b) (some c) o6 o7 o8) (st1 := st2) ?_ ?_
  · have r1 := right15 (st := st2) va vb
    have r2 := right15 (st := st2) va hcv
    have r3 := right15 (st := st2) hcv va
    unfold L15
    simp [r1, r2, r3]
  refine Ok.seq (fun ρ st' => ∃ p, p ∈ pathsU 2 a ∧ ρ = L15 u (some x) (some a) (some b) (some c) o6 (some (ptU p)) o8 ∧ Drew 0 st st' ∧ CupAt 0 st') (fun Q' k' => ?_) ?_
  · have pe : F__law_paths [a] st2 = .ok (.lst ((pathsU 2 a).map ptU)) st2 := paths_eq 11 2 a ha (by decide) (by decide) st2
    obtain ⟨pl1, pl2⟩ := paths_len ha
    have ne : (pathsU 2 a).map ptU ≠ [] := by
      have : ∃ ps, pathsU 2 a = [] :: ps := by
        cases a with
        | tup us => exact ⟨_, rfl⟩
        | _ => exact ⟨[], rfl⟩
      obtain ⟨ps, e⟩ := this
      rw [e]
      simp
    unfold L15
    simp [pe]
    repeat (with_reducible refine Ok.bb ?_)
    refine Ok.bind (some_all (fun u => ∃ p, u = ptU p ∧ p ∈ pathsU 2 a) c2 (by
      intro x hx
      obtain ⟨p, hp, rfl⟩ := List.mem_map.mp hx
      exact ⟨p, rfl, hp⟩) ne (by rw [List.length_map]; have : (5 : Nat) ^ 2 = 25 := by decide
                                 omega)) fun v st3 ⟨⟨p, e, hp⟩, d3, c3⟩ => ?_
    subst e
    try simp
    exact Ok.pure (k' _ st3 ⟨p, hp, rfl, d2.trans d3, c3⟩)
  rintro ρ st3 ⟨p, hp, rfl, d3, c3⟩
  refine Ok.seq (fun ρ st' => ∃ v, Vl 1 v ∧ ρ = L15 u (some x) (some a) (some b) (some c) o6 (some (ptU p)) (some v) ∧ Drew 0 st st' ∧ CupAt 0 st') (fun Q' k' => ?_) ?_
  · have v1 : Ok (F__law_value [.hdl 0, .int 1] st3) _ := value_ok 5 1 (by decide) st3 c3
    unfold L15
    simp
    repeat (with_reducible refine Ok.bb ?_)
    refine Ok.bind v1 fun v st4 ⟨hv, d4, c4⟩ => ?_
    try simp
    exact Ok.pure (k' _ st4 ⟨v, hv, rfl, d3.trans d4, c4⟩)
  rintro ρ st4 ⟨v, hv, rfl, d4, c4⟩
  obtain ⟨pl1, pl2⟩ := paths_len ha
  have hp2 := pl1 p hp
  obtain ⟨w, e1, vw, z, hz⟩ := put_ok 2 a p v 1 ha hp hv
  have pu : F__law_put [a, ptU p, v] st4 = .ok w st4 := law_put_eq 11 p a v w (by omega) e1
  have ch : F_changed_value [a, .tup [.tup [ptU p, v]]] st4 = .ok w st4 := changed_eq (L := [(p, v)]) (e := 1) (k := 3) ha (by decide) (fun c hc => by
    rw [List.mem_singleton] at hc
    subst hc
    exact ⟨⟨z, hz⟩, hv, by show p.length ≤ 12; omega⟩) (by decide) (List.pairwise_singleton _ _) (by
    show (putP a p v).bind (fun a' => some a') = some w
    rw [e1]
    rfl) vw (by decide) (by simp)
  have rw1 := vl_repr (st := st4) vw (by decide)
  have sm := same_eq (st := st4) rw1 rw1
  simp only [decide_true] at sm
  have kk := k st4 (some a) (some b) (some c) o6 (some (ptU p)) (some v) d4 c4
  unfold L15 at *
  generalize ptU p = pp at *
  simp [pu, ch, sm]
  exact Ok.pure kk
end
/-! ### the law -/
def okT (r : R Fl) : Bool := match r with
  | .ok (.rt (.bl true)) _ => true
  | _ => false
theorem okT_ex {r : R Fl} (h : okT r = true) : ∃ st, r = .ok (.rt (.bl true)) st := by
  unfold okT at h
  split at h
  · exact ⟨_, rfl⟩
  · cases h
theorem ok_fin {r : R Fl} {Q : Fl → Store → Prop} (h : okT r = true) (hQ : ∀ st, Q (.rt (.bl true)) st) : Ok r Q := by
  obtain ⟨st, e⟩ := okT_ex h
  exact ⟨_, st, e, hQ st⟩
theorem law_true (ns : List Int) (hl : ns.length ≤ 63) (u : U) (hu : u = .frz (ns.map .int) ∨ u = .lst (ns.map .int)) : ∃ st, F_law [u] [] = .ok (.bl true) st := by
  obtain ⟨ca, cb, ec, hc⟩ := cup_ok ns hl u hu
  have h0 : CupAt 0 [Cup ca cb] := ⟨ca, cb, rfl, hc⟩
  suffices h : Ok (F_law [u] []) (fun v _ => v = .bl true) by
    obtain ⟨v, st, e, rfl⟩ := h
    exact ⟨st, e⟩
  unfold F_law
  refine Ok.runB fun Q hQ => ?_
  unfold g_law
  simp only [List.map, List.length_cons, List.length_nil, Nat.reduceSub, Nat.reduceAdd, List.replicate, List.cons_append, List.nil_append]
  refine Ok.seqE (ρ1 := L15 u none none none none none none none) (st1 := [Cup ca cb]) (by simp [ec]) ?_
  have hl1 : [Cup ca cb].length = 1 := rfl
  generalize [Cup ca cb] = st0 at *
  refine Ok.seq (fun ρ st' => ∃ o2 o3 o4 o5 o6 o7 o8, ρ = L15 u o2 o3 o4 o5 o6 o7 o8 ∧ CupAt 0 st' ∧ st'.length = 1) (fun Q' k => ?_) ?_
  · have hr : rgOk 2 := by decide
    have := forU_ok (g := gNm 2) (f := B_law_6) (Inv := fun ρ st' => ∃ o2 o3 o4 o5 o6 o7 o8, ρ = L15 u o2 o3 o4 o5 o6 o7 o8 ∧ CupAt 0 st' ∧ st'.length = 1) (rangeU 0 2) (L15 u none none none none none none none) st0 ⟨_, _, _, _, _, _, _, rfl, h0, hl1⟩ (fun x hx ρ st2 ⟨o2, o3, o4, o5, o6, o7, o8, e, c2, l2⟩ Q' k1 k2 => by
      subst e
      exact body15 (x := x) c2 Q' fun st' o3 o4 o5 o6 o7 o8 d c => k1 _ _ ⟨_, _, _, _, _, _, _, rfl, c, by rw [d.len]; exact l2⟩) Q' k
    simpa [hr] using this
  rintro ρ st ⟨o2, o3, o4, o5, o6, o7, o8, rfl, hc, hl⟩
  obtain ⟨a, b, e, _⟩ := hc
  have es : st = [Cup a b] := by
    match st, hl with
    | [c], _ => simpa using e
  subst es
  refine ok_fin ?_ fun st' => hQ _ _ rfl
  unfold L15
  kernel_rfl
end Z

namespace Z
open PySem PySem.Spec PyProof.Rows L2
theorem hexc (K : PySem.W.Frag) (h : hex K = true) : hcs.all (okG K) = true := (He.ba (He.ba h).1).1
theorem hexs (K : PySem.W.Frag) (h : hex K = true) : subsB t_sub K = true := (He.ba (He.ba h).1).2
theorem hexj_BadRow (K : PySem.W.Frag) (h : hex K = true) : iniB K "BadRow" "ChainError" "at" = true := (He.ba (He.ba h).2).1
theorem hexj_TooMany (K : PySem.W.Frag) (h : hex K = true) : iniB K "TooMany" "ChainError" "limit" = true := (He.ba (He.ba (He.ba h).2).2).1
theorem h_txt {w : World} {mg : Str → Option Value} {h : Heap} {K : PySem.W.Frag} (KX : K.In h) (N : h.Ns mainGlobals mg) (c : He.SaysX hfa hfn hts htf hex w h K) : letI : TB := ⟨tabsOf K htf⟩; Txt w K mg :=
  letI : TB := ⟨tabsOf K htf⟩
  Txt.mk (sx_free KX N c 43) (sx_free KX N c 44) (sx_free KX N c 45) (sx_free KX N c 46) (sx_free KX N c 47) (sx_free KX N c 48) (sx_free KX N c 49) (sx_free KX N c 50) (sx_free KX N c 51) (sx_free KX N c 52) (sx_free KX N c 53) (sx_const KX N c hexc 0 (fun xs us z => nomatch z)) (sx_const KX N c hexc 1 (fun xs us z => nomatch z)) (sx_const KX N c hexc 2 (fun xs us z => nomatch z)) (sx_const KX N c hexc 3 (fun xs us z => nomatch z)) (sx_const KX N c hexc 4 (fun xs us z => nomatch z)) (sx_const KX N c hexc 5 (fun xs us z => nomatch z)) (sx_exc KX N c 54 30) (sx_exc KX N c 55 31) (sx_exc KX N c 56 32) (sx_exc KX N c 57 33) (sx_exc KX N c 58 34) (sx_exc KX N c 59 35) (sx_exc KX N c 60 36) (sx_exc KX N c 61 37) (sx_exc KX N c 62 38) (sx_exc KX N c 63 39) (sx_exc KX N c 64 40) (sx_subs (hexs K c.more) (List.forall_mem_cons.mpr ⟨⟨He.glo_ok KX N (c.t.d.fact 34), He.glo_ok KX N (c.t.d.fact 41)⟩, (List.forall_mem_cons.mpr ⟨⟨He.glo_ok KX N (c.t.d.fact 34), He.glo_ok KX N (c.t.d.fact 30)⟩, (List.forall_mem_cons.mpr ⟨⟨He.glo_ok KX N (c.t.d.fact 34), He.glo_ok KX N (c.t.d.fact 31)⟩, (List.forall_mem_cons.mpr ⟨⟨He.glo_ok KX N (c.t.d.fact 34), He.glo_ok KX N (c.t.d.fact 32)⟩, (List.forall_mem_cons.mpr ⟨⟨He.glo_ok KX N (c.t.d.fact 34), He.glo_ok KX N (c.t.d.fact 33)⟩, (List.forall_mem_cons.mpr ⟨⟨He.glo_ok KX N (c.t.d.fact 34), He.glo_ok KX N (c.t.d.fact 34)⟩, (List.forall_mem_cons.mpr ⟨⟨He.glo_ok KX N (c.t.d.fact 34), He.glo_ok KX N (c.t.d.fact 35)⟩, (List.forall_mem_cons.mpr ⟨⟨He.glo_ok KX N (c.t.d.fact 34), He.glo_ok KX N (c.t.d.fact 36)⟩, (List.forall_mem_cons.mpr ⟨⟨He.glo_ok KX N (c.t.d.fact 34), He.glo_ok KX N (c.t.d.fact 37)⟩, (List.forall_mem_cons.mpr ⟨⟨He.glo_ok KX N (c.t.d.fact 34), He.glo_ok KX N (c.t.d.fact 38)⟩, (List.forall_mem_cons.mpr ⟨⟨He.glo_ok KX N (c.t.d.fact 34), He.glo_ok KX N (c.t.d.fact 39)⟩, (List.forall_mem_cons.mpr ⟨⟨He.glo_ok KX N (c.t.d.fact 34), He.glo_ok KX N (c.t.d.fact 40)⟩, (List.forall_mem_cons.mpr ⟨⟨He.glo_ok KX N (c.t.d.fact 34), He.glo_ok KX N (c.t.d.fact 42)⟩, (List.forall_mem_cons.mpr ⟨⟨He.glo_ok KX N (c.t.d.fact 40), He.glo_ok KX N (c.t.d.fact 41)⟩, (List.forall_mem_cons.mpr ⟨⟨He.glo_ok KX N (c.t.d.fact 40), He.glo_ok KX N (c.t.d.fact 30)⟩, (List.forall_mem_cons.mpr ⟨⟨He.glo_ok KX N (c.t.d.fact 40), He.glo_ok KX N (c.t.d.fact 31)⟩, (List.forall_mem_cons.mpr ⟨⟨He.glo_ok KX N (c.t.d.fact 40), He.glo_ok KX N (c.t.d.fact 32)⟩, (List.forall_mem_cons.mpr ⟨⟨He.glo_ok KX N (c.t.d.fact 40), He.glo_ok KX N (c.t.d.fact 33)⟩, (List.forall_mem_cons.mpr ⟨⟨He.glo_ok KX N (c.t.d.fact 40), He.glo_ok KX N (c.t.d.fact 34)⟩, (List.forall_mem_cons.mpr ⟨⟨He.glo_ok KX N (c.t.d.fact 40), He.glo_ok KX N (c.t.d.fact 35)⟩, (List.forall_mem_cons.mpr ⟨⟨He.glo_ok KX N (c.t.d.fact 40), He.glo_ok KX N (c.t.d.fact 36)⟩, (List.forall_mem_cons.mpr ⟨⟨He.glo_ok KX N (c.t.d.fact 40), He.glo_ok KX N (c.t.d.fact 37)⟩, (List.forall_mem_cons.mpr ⟨⟨He.glo_ok KX N (c.t.d.fact 40), He.glo_ok KX N (c.t.d.fact 38)⟩, (List.forall_mem_cons.mpr ⟨⟨He.glo_ok KX N (c.t.d.fact 40), He.glo_ok KX N (c.t.d.fact 39)⟩, (List.forall_mem_cons.mpr ⟨⟨He.glo_ok KX N (c.t.d.fact 40), He.glo_ok KX N (c.t.d.fact 40)⟩, (List.forall_mem_cons.mpr ⟨⟨He.glo_ok KX N (c.t.d.fact 40), He.glo_ok KX N (c.t.d.fact 42)⟩, (List.forall_mem_nil _)⟩)⟩)⟩)⟩)⟩)⟩)⟩)⟩)⟩)⟩)⟩)⟩)⟩)⟩)⟩)⟩)⟩)⟩)⟩)⟩)⟩)⟩)⟩)⟩)⟩)⟩)) (sx_ini KX N c (hexj_BadRow K c.more) 30 41 31) (sx_ini KX N c (hexj_TooMany K c.more) 31 42 31) (sx_def KX N c 0 0 (fun _ _ _ _ _ _ us hl => match us, hl with | [_], _ => rfl)) (sx_def KX N c 1 1 (fun _ _ _ _ _ _ us hl => match us, hl with | [_], _ => rfl)) (sx_def KX N c 2 2 (fun _ _ _ _ _ _ us hl => match us, hl with | [_, _], _ => rfl)) (sx_def KX N c 3 3 (fun _ _ _ _ _ _ us hl => match us, hl with | [_, _], _ => rfl)) (sx_def KX N c 4 4 (fun _ _ _ _ _ _ us hl => match us, hl with | [_], _ => rfl)) (sx_def KX N c 5 5 (fun _ _ _ _ _ _ us hl => match us, hl with | [_, _], _ => rfl)) (sx_def KX N c 6 6 (fun _ _ _ _ _ _ us hl => match us, hl with | [_], _ => rfl)) (sx_def KX N c 7 7 (fun _ _ _ _ _ _ us hl => match us, hl with | [_], _ => rfl)) (sx_def KX N c 8 8 (fun _ _ _ _ _ _ us hl => match us, hl with | [_, _, _], _ => rfl)) (sx_def KX N c 9 9 (fun _ _ _ _ _ _ us hl => match us, hl with | [_, _, _], _ => rfl)) (sx_def KX N c 10 10 (fun _ _ _ _ _ _ us hl => match us, hl with | [_, _, _], _ => rfl)) (sx_def KX N c 11 11 (fun _ _ _ _ _ _ us hl => match us, hl with | [_, _], _ => rfl)) (sx_def KX N c 12 12 (fun _ _ _ _ _ _ us hl => match us, hl with | [_], _ => rfl)) (sx_def KX N c 13 13 (fun _ _ _ _ _ _ us hl => match us, hl with | [_], _ => rfl)) (sx_def KX N c 14 14 (fun _ _ _ _ _ _ us hl => match us, hl with | [_, _, _], _ => rfl)) (sx_def KX N c 15 15 (fun _ _ _ _ _ _ us hl => match us, hl with | [_, _], _ => rfl)) (sx_def KX N c 16 16 (fun _ _ _ _ _ _ us hl => match us, hl with | [_, _], _ => rfl)) (sx_def KX N c 17 17 (fun _ _ _ _ _ _ us hl => match us, hl with | [_], _ => rfl)) (sx_def KX N c 18 18 (fun _ _ _ _ _ _ us hl => match us, hl with | [_], _ => rfl)) (sx_def KX N c 19 19 (fun _ _ _ _ _ _ us hl => match us, hl with | [_, _], _ => rfl)) (sx_def KX N c 20 20 (fun _ _ _ _ _ _ us hl => match us, hl with | [_, _, _], _ => rfl)) (sx_def KX N c 21 21 (fun _ _ _ _ _ _ us hl => match us, hl with | [_], _ => rfl)) (sx_def KX N c 22 22 (fun _ _ _ _ _ _ us hl => match us, hl with | [_, _], _ => rfl)) (sx_def KX N c 23 23 (fun _ _ _ _ _ _ us hl => match us, hl with | [_, _], _ => rfl)) (sx_def KX N c 24 24 (fun _ _ _ _ _ _ us hl => match us, hl with | [_, _], _ => rfl)) (sx_def KX N c 25 25 (fun _ _ _ _ _ _ us hl => match us, hl with | [_, _], _ => rfl)) (sx_def KX N c 26 26 (fun _ _ _ _ _ _ us hl => match us, hl with | [_, _], _ => rfl)) (sx_def KX N c 27 27 (fun _ _ _ _ _ _ us hl => match us, hl with | [_, _], _ => rfl)) (sx_def KX N c 28 28 (fun _ _ _ _ _ _ us hl => match us, hl with | [_, _], _ => rfl)) (sx_def KX N c 29 29 (fun _ _ _ _ _ _ us hl => match us, hl with | [_], _ => rfl))
abbrev hd : DefRec := HandSHeadRun.topDef HR.prog 56
theorem hd_name : hd.name = "law" := by kernel_rfl
theorem h_top (w : World) (mg : Str → Option Value) (f : Addr) (h : Heap) (K : PySem.W.Frag) (KX : K.In h) (N : h.Ns mainGlobals mg) (hm0 : mg hd.name = some (.ref f)) (c : He.SaysX hfa hfn hts htf hex w h K) :
    ∃ fd : FuncData, (∀ (s : Shared) (u : Value), BindsTo s fd ⟨[u], []⟩ [("_law_script", u)]) ∧ ∀ base : Heap, (∀ p ∈ htf, LamX.TabB base mg (He.cT K p).1 (He.cT K p).2) → FnG (PySem.Challenge.rw_chainpapers_k15_whole_changes_of_values).prog w K mg base (L2.CX (PySem.Challenge.rw_chainpapers_k15_whole_changes_of_values).prog w) 22 f fd ["_law_script"] (spZ ⟨K, mg, tabsOf K htf, w⟩ 1 F_law) := by
  rw [hd_name] at hm0
  have e := hm0.symm.trans (He.glo_ok KX N (c.t.d.fact 29))
  cases e
  letI : TB := ⟨tabsOf K htf⟩
  have T : Txt w K mg := h_txt KX N c
  obtain ⟨fd, Fn⟩ := sx_funC c 29 (x := "law")
  refine ⟨fd, ?_, fun base tb => ?_⟩
  · obtain ⟨oc, od, kV, doc, pm, an, ct, osl, rfl, _, _⟩ := Fn.ex
    exact fun s u => .of_eq rfl
  have c__law_cup := t__law_cup (P := (PySem.Challenge.rw_chainpapers_k15_whole_changes_of_values).prog) (w := w) (base := base) T 
  have c__law_roll := t__law_roll (P := (PySem.Challenge.rw_chainpapers_k15_whole_changes_of_values).prog) (w := w) (base := base) T 
  have c__law_some := t__law_some (P := (PySem.Challenge.rw_chainpapers_k15_whole_changes_of_values).prog) (w := w) (base := base) T c__law_roll
  have c__law_leaf := t__law_leaf (P := (PySem.Challenge.rw_chainpapers_k15_whole_changes_of_values).prog) (w := w) (base := base) T c__law_some c__law_roll
  have c__law_value := t__law_value (P := (PySem.Challenge.rw_chainpapers_k15_whole_changes_of_values).prog) (w := w) (base := base) T c__law_leaf c__law_roll c__law_some
  have c__law_deep := t__law_deep (P := (PySem.Challenge.rw_chainpapers_k15_whole_changes_of_values).prog) (w := w) (base := base) T 
  have c_is_truth := t_is_truth (P := (PySem.Challenge.rw_chainpapers_k15_whole_changes_of_values).prog) (w := w) (base := base) T 
  have c_is_integer := t_is_integer (P := (PySem.Challenge.rw_chainpapers_k15_whole_changes_of_values).prog) (w := w) (base := base) T 
  have c_are_signs := t_are_signs (P := (PySem.Challenge.rw_chainpapers_k15_whole_changes_of_values).prog) (w := w) (base := base) T 
  have c_is_tuple := t_is_tuple (P := (PySem.Challenge.rw_chainpapers_k15_whole_changes_of_values).prog) (w := w) (base := base) T 
  have c_is_value_within := t_is_value_within (P := (PySem.Challenge.rw_chainpapers_k15_whole_changes_of_values).prog) (w := w) (base := base) T c_is_truth c_is_integer c_are_signs c_is_tuple
  have c_is_value := t_is_value (P := (PySem.Challenge.rw_chainpapers_k15_whole_changes_of_values).prog) (w := w) (base := base) T c_is_value_within
  have c_check_value := t_check_value (P := (PySem.Challenge.rw_chainpapers_k15_whole_changes_of_values).prog) (w := w) (base := base) T c_is_value
  have c_with_item_at := t_with_item_at (P := (PySem.Challenge.rw_chainpapers_k15_whole_changes_of_values).prog) (w := w) (base := base) T 
  have c_is_path_of := t_is_path_of (P := (PySem.Challenge.rw_chainpapers_k15_whole_changes_of_values).prog) (w := w) (base := base) T c_is_integer
  have c_are_single_changes := t_are_single_changes (P := (PySem.Challenge.rw_chainpapers_k15_whole_changes_of_values).prog) (w := w) (base := base) T c_is_tuple c_is_path_of c_is_value
  have c_is_ascending := t_is_ascending (P := (PySem.Challenge.rw_chainpapers_k15_whole_changes_of_values).prog) (w := w) (base := base) T 
  have c_are_apart := t_are_apart (P := (PySem.Challenge.rw_chainpapers_k15_whole_changes_of_values).prog) (w := w) (base := base) T c_is_ascending
  have c_changed_value := t_changed_value (P := (PySem.Challenge.rw_chainpapers_k15_whole_changes_of_values).prog) (w := w) (base := base) T c_check_value c_with_item_at c_is_value c_are_single_changes c_are_apart
  have c__law_put := t__law_put (P := (PySem.Challenge.rw_chainpapers_k15_whole_changes_of_values).prog) (w := w) (base := base) T 
  have c__law_paths := t__law_paths (P := (PySem.Challenge.rw_chainpapers_k15_whole_changes_of_values).prog) (w := w) (base := base) T 
  have c__law_same := t__law_same (P := (PySem.Challenge.rw_chainpapers_k15_whole_changes_of_values).prog) (w := w) (base := base) T 
  have c_outermost_changes := t_outermost_changes (P := (PySem.Challenge.rw_chainpapers_k15_whole_changes_of_values).prog) (w := w) (base := base) T 
  have c_changes_of := t_changes_of (P := (PySem.Challenge.rw_chainpapers_k15_whole_changes_of_values).prog) (w := w) (base := base) T c_check_value c_outermost_changes
  have c__law_at := t__law_at (P := (PySem.Challenge.rw_chainpapers_k15_whole_changes_of_values).prog) (w := w) (base := base) T 
  have c__law_alike := t__law_alike (P := (PySem.Challenge.rw_chainpapers_k15_whole_changes_of_values).prog) (w := w) (base := base) T 
  have c__law_due := t__law_due (P := (PySem.Challenge.rw_chainpapers_k15_whole_changes_of_values).prog) (w := w) (base := base) T c__law_paths c__law_at c__law_alike c__law_same
  have c__law_right := t__law_right (P := (PySem.Challenge.rw_chainpapers_k15_whole_changes_of_values).prog) (w := w) (base := base) T c_changes_of c__law_due c__law_same c_changed_value
  have ml : (("law", none) : He.Defn) ∈ htf := by simp [htf]
  exact t_law T c__law_cup c__law_some c__law_value c__law_deep c_changed_value c__law_put c__law_paths c__law_same c_changes_of c__law_roll c__law_right _ _ _ _ Fn (tb _ ml) (List.mem_map_of_mem (f := fun p : He.Defn => ((He.cT K p).2, lamQ p)) ml) (fun p hp _ => by
    obtain ⟨q, hq, rfl⟩ := List.mem_map.mp hp
    rw [show q = (("law", none) : He.Defn) from by simpa [htf] using hq]; rfl)
end Z
open PySem PySem.W PySem.Calls PyProof.Rows in
set_option maxHeartbeats 0 in
theorem PySem.Challenge.cw_chainpapers_k15_whole_changes_of_values_holds : PySem.Challenge.rw_chainpapers_k15_whole_changes_of_values.Holds := by
  w_on; o_law
  refine HandSHeadRun.head_any (r := OpenLaw.row PySem.Challenge.rw_chainpapers_k15_whole_changes_of_values) (q := Z.hq) (H := Z.hk) (ob := Z.hob) (M := 20000) (loose := Z.hnames) (d := Z.hd) (kwd := []) Z.hob_eq (by kernel_rfl) (fun s => by kernel_rfl) Z.hrun (by kernel_rfl) (by kernel_rfl) (by kernel_rfl) (by rfl) (by first | assumption | decide +kernel) (by decide +kernel) ⟨rfl, rfl, rfl, rfl, rfl, by decide +kernel⟩ ?hw ?hc
  case hw => w_witness2
  case hc => exact Z.walkG (l := PySem.Challenge.rw_chainpapers_k15_whole_changes_of_values) (n := 2) (k := 22) (x := "_law_script") (F := Z.F_law) rfl (by kernel_rfl) ⟨rfl, by decide, by decide⟩ Z.law_true Z.h_top

