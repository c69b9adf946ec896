import PyProof.Rows.All
import Wide.All
import OpenK.AllK
import Wide.FinOn
import PyProof.EqAt
import PyProof.EqKinds
import PyProof.TupleCall
import KE.BitLaws
import Open.SpecLaws
import KE.OsHead
import KE.OsGo
import KE.KDictSum
import PyProof.Rows.SortShellAny
import PyProof.EnumMake
import PyProof.Rows.CallKwBuiltin
import PySem.Challenge.RW_actorplans_s01_answers
section
set_option Elab.async false
set_option compiler.extract_closed false
set_option linter.all false
set_option maxRecDepth 100000
namespace L2
open PySem PySem.Spec PyProof.Rows
noncomputable abbrev Key := Int
end L2
namespace L2
open PySem PySem.Spec PyProof.Rows
inductive V where
  | non | bl (b : Bool) | int (i : Int) | str (x : Str) | ref (a : Addr)
  deriving DecidableEq
noncomputable def RelV : V → Value → Prop
  | .non, u => u = Value.none
  | .bl b, u => u = Value.bool b
  | .int i, u => ∃ t, u = Value.int i t
  | .str x, u => ∃ t, u = Value.str x t
  | .ref a, u => u = Value.ref a
noncomputable abbrev Vals : List V → List Value → Prop := Paired RelV
theorem Vals.length {xs : List V} {us : List Value} (r : Vals xs us) : xs.length = us.length := Paired.length r
theorem Vals.get {xs : List V} {us : List Value} {i : Nat} {x : V} (r : Vals xs us) (e : xs[i]? = some x) : ∃ u, us[i]? = some u ∧ RelV x u := by
  induction r generalizing i with
  | nil => cases e
  | cons h t ih =>
    cases i with
    | zero => cases e; exact ⟨_, rfl, h⟩
    | succ i => exact ih e
theorem Vals.append {xs ys : List V} {us ws : List Value} (r : Vals xs us) (s : Vals ys ws) : Vals (xs ++ ys) (us ++ ws) := by
  induction r with
  | nil => exact s
  | cons h t ih => exact .cons h ih
theorem Vals.take : ∀ {xs : List V} {us : List Value} (n : Nat), Vals xs us → Vals (xs.take n) (us.take n)
  | _, _, 0, _ => .nil
  | _, _, _ + 1, .nil => .nil
  | _, _, n + 1, .cons r t => .cons r (Vals.take n t)
theorem Vals.drop : ∀ {xs : List V} {us : List Value} (n : Nat), Vals xs us → Vals (xs.drop n) (us.drop n)
  | _, _, 0, r => r
  | _, _, _ + 1, .nil => .nil
  | _, _, n + 1, .cons _ t => Vals.drop n t
noncomputable def RelO : Option V → Option Value → Prop
  | some v, some u => RelV v u
  | none, none => True
  | _, _ => False
noncomputable def KV {κ : Type} : List (κ × V) → List (κ × Value) → Prop := Paired fun (p : κ × V) (q : κ × Value) => p.1 = q.1 ∧ RelV p.2 q.2
noncomputable def kV (k : Key) : V := .int k
inductive HO where
  | lst (xs : List V)
  | tup (xs : List V)
  | dK (kvs : List (Key × V))
  | ins (C dx : Addr) (fs : List (Str × V))
  | own (x : Addr)
  | frz (o : Obj) (u : HO)
  | tbl (ps : Array Value)
noncomputable abbrev Hp := Addr → Option HO
noncomputable def upd (H : Hp) (a : Addr) (o : HO) : Hp := fun b => if b = a then some o else H b
theorem upd_same {H : Hp} {a : Addr} {o : HO} : upd H a o a = some o := by unfold upd; rw [if_pos rfl]
theorem upd_ne {H : Hp} {a b : Addr} {o : HO} (h : b ≠ a) : upd H a o b = H b := by unfold upd; rw [if_neg h]
theorem upd_upd {H : Hp} {a : Addr} {o u : HO} : upd (upd H a o) a u = upd H a u := by
  funext b; unfold upd; split <;> rfl
theorem ne_of {H : Hp} {a b : Addr} {o u : HO} (h : H a = some o) (h' : H b = some u) (d : o ≠ u) : a ≠ b := by
  intro e; subst e; rw [h] at h'; exact d (Option.some.inj h')
theorem ne_of_none {H : Hp} {a b : Addr} {o : HO} (h : H a = some o) (h' : H b = none) : a ≠ b := by
  intro e; subst e; rw [h] at h'; cases h'
section
variable (P : Program) (w : World)
noncomputable def ObjOk (H : Hp) (h : Heap) (a : Addr) : HO → Prop
  | .lst xs => xs.length ≤ sizeLine ∧ ∃ (its : List Value) (n : Nat), Vals xs its ∧ h.get? a = some { cls := .type "list", data := .seq its.toArray n }
  | .tup xs => xs.length ≤ sizeLine ∧ ∃ its : List Value, Vals xs its ∧ IsTup h a its.toArray
  | .dK kvs => kvs.length ≤ sizeLine ∧ (a == sysModules) = false ∧ ∃ vs, KV kvs vs ∧ h.DictOf (intKind P w) a vs
  | .ins C dx fs => H dx = some (.own a) ∧ fs.length ≤ 1000 ∧ dx ≠ a ∧ h.get? a = some (PySem.W.instObj C dx) ∧
      ∃ mA, h.Ns1 dx mA ∧ (∀ f, RelO (fs.lookup f) (mA f)) ∧ PySem.Within mA (fs.map (·.1))
  | .own _ => ∃ o, h.get? a = some o
  | .frz o u => h.get? a = some o ∧ ObjOk H h a u
  | .tbl ps => h.get? a = some { cls := .none, data := .fields ps }
noncomputable def HOk (H : Hp) (h : Heap) : Prop := ∀ a o, H a = some o → ObjOk P w H h a o
end
section
variable {P : Program} {w : World} {H H' : Hp} {h h' : Heap} {a : Addr} {o : HO}
theorem ObjOk.lt (x : ObjOk P w H h a o) : a < h.objs.size := by
  cases o with
  | lst xs => obtain ⟨_, _, _, _, e⟩ := x; exact Heap.lt_size e
  | tup xs => obtain ⟨_, _, _, p⟩ := x; exact p.lt
  | dK kvs => obtain ⟨_, _, _, _, o, _, _, e, _⟩ := x; exact Heap.lt_size e
  | ins C dx fs => obtain ⟨_, _, _, e, _⟩ := x; exact Heap.lt_size e
  | own y => obtain ⟨_, e⟩ := x; exact Heap.lt_size e
  | frz ob u => obtain ⟨e, _⟩ := x; exact Heap.lt_size e
  | tbl ps => exact Heap.lt_size (show h.get? a = some _ from x)
theorem ObjOk.stay (x : ObjOk P w H h a o) (k : ∀ b u, (b = a ∨ H b = some (.own a)) → h.get? b = some u → h'.get? b = some u)
    (ho : ∀ b, H b = some (.own a) → H' b = some (.own a)) (ht : ∀ b xs, H b = some (.tup xs) → H' b = some (.tup xs)) : ObjOk P w H' h' a o := by
  induction o with
  | lst xs => obtain ⟨z, its, n, r, e⟩ := x; exact ⟨z, its, n, r, k _ _ (.inl rfl) e⟩
  | tup xs => obtain ⟨z, its, r, ob, e, c⟩ := x; exact ⟨z, its, r, ob, k _ _ (.inl rfl) e, c⟩
  | dK kvs => obtain ⟨z, y, vs, r, ob, es, ep, e, c⟩ := x; exact ⟨z, y, vs, r, ob, es, ep, k _ _ (.inl rfl) e, c⟩
  | ins C dx fs =>
    obtain ⟨d, z, ne, e, mA, ⟨od, es, ep, e2, c⟩, r⟩ := x
    exact ⟨ho _ d, z, ne, k _ _ (.inl rfl) e, mA, ⟨od, es, ep, k _ _ (.inr d) e2, c⟩, r⟩
  | own y => obtain ⟨ob, e⟩ := x; exact ⟨ob, k _ _ (.inl rfl) e⟩
  | frz ob u ih => obtain ⟨e, q⟩ := x; exact ⟨k _ _ (.inl rfl) e, ih q⟩
  | tbl ps =>
    have e : h.get? a = some { cls := .none, data := .fields ps } := x
    show h'.get? a = some { cls := .none, data := .fields ps }
    exact k a _ (.inl rfl) e
theorem HOk.lt (x : HOk P w H h) (e : H a = some o) : a < h.objs.size := (x a o e).lt
theorem HOk.fresh (x : HOk P w H h) (e : h.objs.size ≤ a) : H a = none := by
  cases q : H a with
  | none => rfl
  | some u => exact absurd (Nat.lt_of_lt_of_le (x.lt q) e) (Nat.lt_irrefl _)
theorem HOk.kept (x : HOk P w H h) (k : ∀ b u, h.get? b = some u → h'.get? b = some u) : HOk P w H h' := fun a o e =>
  (x a o e).stay (fun b u _ q => k b u q) (fun _ q => q) fun _ _ q => q
theorem HOk.laid (x : HOk P w H h) (k : ∀ b u, h.get? b = some u → h'.get? b = some u) (hp : h.objs.size ≤ a) (new : ObjOk P w (upd H a o) h' a o) : HOk P w (upd H a o) h' := fun b u e => by
  have hn := x.fresh hp
  by_cases hb : b = a
  · subst hb; rw [upd_same] at e; cases e; exact new
  · rw [upd_ne hb] at e
    exact (x b u e).stay (fun c v _ q => k c v q) (fun c q => by rw [upd_ne (ne_of_none q hn)]; exact q) fun c xs q => by rw [upd_ne (ne_of_none q hn)]; exact q
end
noncomputable def Rd (H : Hp) (a : Addr) (u : HO) : Prop := H a = some u ∨ ∃ o, H a = some (.frz o u)
theorem Rd.ok {P : Program} {w : World} {H : Hp} {h : Heap} {a : Addr} {u : HO} (r : Rd H a u) (x : HOk P w H h) : ObjOk P w H h a u := by
  rcases r with r | ⟨o, r⟩
  · exact x a u r
  · obtain ⟨_, q⟩ := x a _ r
    exact q
noncomputable def Mut : Option HO → Prop
  | some (.lst _) => True
  | some (.dK _) => True
  | some (.ins _ _ _) => True
  | _ => False
section
variable {P : Program} {w : World} {H : Hp} {h h' : Heap} {x e : Addr} {o' : HO}
theorem HOk.write (ok : HOk P w H h) (mu : Mut (H x)) (he : e = x ∨ H e = some (.own x)) (k : ∀ b u, b ≠ e → h.get? b = some u → h'.get? b = some u) (heo : ∃ u, h'.get? e = some u)
    (new : ObjOk P w (upd H x o') h' x o') : HOk P w (upd H x o') h' := fun b u q => by
  have nown : ∀ c y, H c = some (.own y) → c ≠ x := fun c y r z => by subst z; rw [r] at mu; exact mu
  have ntup : ∀ c xs, H c = some (.tup xs) → c ≠ x := fun c xs r z => by subst z; rw [r] at mu; exact mu
  by_cases hb : b = x
  · subst hb; rw [upd_same] at q; cases q; exact new
  · rw [upd_ne hb] at q
    by_cases hbe : b = e
    · have q' : H b = some (.own x) := by
        rcases he with z | z
        · exact absurd (hbe.trans z) hb
        · rw [hbe]; exact z
      rw [q] at q'; cases q'
      obtain ⟨v, hv⟩ := heo
      exact ⟨v, by rw [hbe]; exact hv⟩
    · refine (ok b u q).stay (fun c v hc r => k c v ?_ r) (fun c r => by rw [upd_ne (nown c b r)]; exact r) fun c xs r => by rw [upd_ne (ntup c xs r)]; exact r
      rcases hc with rfl | hc
      · exact hbe
      · rintro rfl
        rcases he with z | z
        · exact nown c b hc z
        · rw [hc] at z; cases z; exact hb rfl
end
structure Un (fs ex : List Addr) (H H' : Hp) (h h' : Heap) : Prop where
  keep : ∀ b o, h.get? b = some o → H b = none → b ∉ fs → b ∉ ex → h'.get? b = some o
  slot : ∀ b o, h.get? b = some o → H b = none → b ∈ fs → b ∉ ex → ∃ sl, h'.get? b = some { o with slots := sl }
  free : ∀ b o, h.get? b = some o → H b = none → b ∉ ex → H' b = none
  there : ∀ b o, h.get? b = some o → b ∉ ex → ∃ o', h'.get? b = some o'
  tups : ∀ b xs, H b = some (.tup xs) → H' b = some (.tup xs)
  frzs : ∀ b o u, H b = some (.frz o u) → H' b = some (.frz o u)
  tbls : ∀ b ps, H b = some (.tbl ps) → ∃ more, H' b = some (.tbl (ps ++ more))
section
variable {fs fs' ex ex' : List Addr} {H H1 H2 : Hp} {h h1 h2 h' : Heap} {a x e : Addr} {o : HO}
theorem Un.any (u : Un fs ex H H1 h h1) {b : Addr} {ob : Obj} (q : h.get? b = some ob) (n : H b = none) (hx : b ∉ ex) : ∃ sl, h1.get? b = some { ob with slots := sl } := by
  by_cases hb : b ∈ fs
  · exact u.slot b ob q n hb hx
  · exact ⟨ob.slots, u.keep b ob q n hb hx⟩
theorem Un.kept (k : ∀ b u, h.get? b = some u → h'.get? b = some u) : Un fs ex H H h h' :=
  ⟨fun b ob q _ _ _ => k b ob q, fun b ob q _ _ _ => ⟨ob.slots, k b ob q⟩, fun _ _ _ n _ => n, fun b ob q _ => ⟨ob, k b ob q⟩, fun _ _ q => q, fun _ _ _ q => q, fun _ ps q => ⟨#[], by rw [q]; simp⟩⟩
theorem Un.refl : Un fs ex H H h h := Un.kept fun _ _ q => q
theorem Un.laid (k : ∀ b u, h.get? b = some u → h'.get? b = some u) (hp : h.objs.size ≤ a) (hn : H a = none) : Un fs ex H (upd H a o) h h' where
  keep := fun b u q _ _ _ => k b u q
  slot := fun b u q _ _ _ => ⟨u.slots, k b u q⟩
  free := fun b u q n _ => by rw [upd_ne (Nat.ne_of_lt (Nat.lt_of_lt_of_le (Heap.lt_size q) hp))]; exact n
  there := fun b u q _ => ⟨u, k b u q⟩
  tups := fun b xs q => by rw [upd_ne (ne_of_none q hn)]; exact q
  frzs := fun b u xs q => by rw [upd_ne (ne_of_none q hn)]; exact q
  tbls := fun b ps q => ⟨#[], by rw [upd_ne (ne_of_none q hn), q]; simp⟩
theorem Un.write (mu : Mut (H x)) (he : e = x ∨ H e = some (.own x)) (k : ∀ b u, b ≠ e → h.get? b = some u → h'.get? b = some u) (heo : ∃ u, h'.get? e = some u) : Un fs ex H (upd H x o) h h' := by
  have hx : ∀ b, H b = none → b ≠ x := fun b n z => by subst z; rw [n] at mu; exact mu
  have hb : ∀ b, H b = none → b ≠ e := fun b n z => by
    subst z
    rcases he with r | r
    · exact hx b n r
    · rw [n] at r; cases r
  have hm : ∀ b u, H b = some u → ¬ Mut (some u) → b ≠ x := fun b u q nm z => by subst z; rw [q] at mu; exact nm mu
  refine ⟨fun b u q n _ _ => k b u (hb b n) q, fun b u q n _ _ => ⟨u.slots, k b u (hb b n) q⟩, fun b u q n _ => by rw [upd_ne (hx b n)]; exact n, fun b u q _ => ?_,
    fun b xs q => by rw [upd_ne (hm b _ q fun z => z)]; exact q, fun b u xs q => by rw [upd_ne (hm b _ q fun z => z)]; exact q, fun b ps q => ⟨#[], by rw [upd_ne (hm b _ q fun z => z), q]; simp⟩⟩
  by_cases hbe : b = e
  · subst hbe; exact heo
  · exact ⟨u, k b u hbe q⟩
end
noncomputable def trk (h : Heap) (H : Hp) : List Addr := (List.range h.objs.size).filter fun a => (H a).isSome
noncomputable def hidT (h : Heap) (H : Hp) : Heap := PySem.W.hideAll h (trk h H)
theorem hidT_size (h : Heap) (H : Hp) : (hidT h H).objs.size = h.objs.size := PySem.W.hideAll_size _ _
theorem hidT_get {h : Heap} {H : Hp} {b : Addr} {o : Obj} (e : h.get? b = some o) (n : H b = none) : (hidT h H).get? b = some o :=
  PySem.W.hideAll_get _ e fun hm => by
    have q : (H b).isSome = true := (List.mem_filter.mp hm).2
    rw [n] at q; simp at q
theorem of_hidT {h : Heap} {H : Hp} {b : Addr} {o : Obj} (e : (hidT h H).get? b = some o) : h.get? b = some o ∧ H b = none := by
  have e' : h.get? b = some o := PySem.W.of_hideAll (trk h H) e
  refine ⟨e', ?_⟩
  cases q : H b with
  | none => rfl
  | some x =>
    have hm : b ∈ trk h H := List.mem_filter.mpr ⟨List.mem_range.mpr (Heap.lt_size e'), by simp [q]⟩
    have z : (hidT h H).get? b = none := PySem.W.hideAll_none (trk h H) hm
    rw [z] at e; cases e
end L2
namespace L2
open PySem PySem.Spec PyProof.Rows
structure Mod (K : PySem.W.Frag) (mg : Str → Option Value) (base : Heap) : Prop where
  kin : K.In base
  glob : base.Ns mainGlobals mg
  blt : ∃ mb, base.Ns builtinsNs mb ∧ ∀ x : Str, x ≠ "__name__" → mb x = bootBuiltins x
  nolimit : base.NoLimit
structure Cx where
  prog : Program
  w : World
  K : PySem.W.Frag
  mg : Str → Option Value
  base : Heap
  A : Around
  N : List Str
  s_0 : Shared
  H_0 : Hp
  env : Env
  outer : List Env
  stack : List Env
  ex : List Addr
  fn : Str → Bool
  calm : Bool
  pn : List (Addr × Obj)
  xe : Value → Shared → Prop
noncomputable def frs (l : List Env) : List Addr := l.filterMap (·.frame)
noncomputable abbrev Cx.fs (X : Cx) : List Addr := frs X.outer
noncomputable def Vis (sc : Scope) (x : Str) : Prop := sc.names.lookup x = some .local ∨ sc.names.lookup x = some .cell ∨ sc.names.lookup x = some .free
noncomputable def Loc (sc : Scope) (x : Str) : Prop := sc.names.lookup x = some .local ∨ sc.names.lookup x = some .cell
noncomputable def Look (env : Env) (h : Heap) (m : Str → Option Value) (x : Str) (u : Value) : Prop :=
  (env.kindOf x = some .local ∧ m x = some u) ∨ ((env.kindOf x = some .cell ∨ env.kindOf x = some .free) ∧ ∃ c, env.cells.lookup x = some c ∧ h.IsCell c (some u))
structure Cx.Ok (X : Cx) : Prop where
  mod : Mod X.K X.mg X.base
  kind : X.env.scope.kind = .function
  glob : X.env.globals = mainGlobals
  blt : X.env.builtins = builtinsNs
  above : X.s_0.heap.objs.size ≤ X.env.locals
  inj : ∀ x y c, X.env.cells.lookup x = some c → X.env.cells.lookup y = some c → x = y
  has : ∀ x, (X.env.kindOf x = some .cell ∨ X.env.kindOf x = some .free) → ∃ c, X.env.cells.lookup x = some c
  cab : ∀ x c, X.fn x = true → X.env.cells.lookup x = some c → X.s_0.heap.objs.size ≤ c
  hd : X.calm = true → X.A.handled = none
  frames : X.A.frames = some X.stack
  stk : X.stack = X.outer ∨ (X.stack = X.env :: X.outer ∧ X.env.frame = some X.env.locals)
  exf : ∀ b ∈ X.ex, b ≠ X.env.locals ∧ ∀ x c, X.env.cells.lookup x = some c → c ≠ b
  bs : ∀ b o, X.base.get? b = some o → X.s_0.heap.get? b = some o ∧ X.H_0 b = none
  bsz : X.base.objs.size ≤ X.s_0.heap.objs.size
  noex : ∀ b o, X.base.get? b = some o → b ∉ X.ex
  exfs : ∀ b ∈ X.ex, b ∉ X.fs
  funs : X.s_0.heap.FunFrames X.base X.outer
  frf : ∀ b ∈ X.fs, X.H_0 b = none
structure Inv (X : Cx) (pins : List (Addr × Obj)) (σ : List (Option V)) (H : Hp) (s : Shared) : Prop where
  ok : X.Ok
  os : s.os = X.s_0.os
  bare : AllBare s.gens
  base : Un X.fs X.ex X.H_0 H X.s_0.heap s.heap
  loc : ∃ m, s.heap.Ns X.env.locals m ∧ ∀ (i : Nat) (x : Str) (v : V), X.N[i]? = some x → σ[i]? = some (some v) → Vis X.env.scope x → ∃ u, RelV v u ∧ Look X.env s.heap m x u
  cell : ∀ x c, X.env.cells.lookup x = some c → ∃ v, s.heap.IsCell c v
  free : H X.env.locals = none
  freeC : ∀ x c, X.env.cells.lookup x = some c → H c = none
  pin : ∀ p ∈ X.pn ++ pins, s.heap.get? p.1 = some p.2 ∧ H p.1 = none ∧ p.1 ≠ X.env.locals ∧ p.1 ∉ X.fs ∧ ∀ v, p.2.data ≠ .cell v
  hok : HOk X.prog X.w H s.heap
  len : σ.length = X.N.length
section
variable {X : Cx} {pins : List (Addr × Obj)} {σ : List (Option V)} {H H' : Hp} {s : Shared} {h' : Heap}
theorem Cx.Ok.nofr (ok : X.Ok) {b : Addr} {o : Obj} (e : X.base.get? b = some o) : b ∉ X.fs := fun hb => by
  have := (ok.funs.mem hb).1
  rw [e] at this; cases this
theorem Inv.bs (I : Inv X pins σ H s) : ∀ b o, X.base.get? b = some o → s.heap.get? b = some o ∧ H b = none := fun b o e =>
  ⟨I.base.keep b o (I.ok.bs b o e).1 (I.ok.bs b o e).2 (I.ok.nofr e) (I.ok.noex b o e), I.base.free b o (I.ok.bs b o e).1 (I.ok.bs b o e).2 (I.ok.noex b o e)⟩
theorem Inv.bk (I : Inv X pins σ H s) : ∀ b o, X.base.get? b = some o → s.heap.get? b = some o := fun b o e => (I.bs b o e).1
theorem Inv.mod (I : Inv X pins σ H s) : Mod X.K X.mg X.base := I.ok.mod
theorem Inv.kIn (I : Inv X pins σ H s) : X.K.In s.heap := I.ok.mod.kin.keeps I.bk
theorem Inv.lt (I : Inv X pins σ H s) : X.env.locals < s.heap.objs.size := let ⟨_, hn, _⟩ := I.loc; hn.lt
theorem Inv.sz (I : Inv X pins σ H s) : X.s_0.heap.objs.size ≤ s.heap.objs.size := Nat.le_trans I.ok.above (Nat.le_of_lt I.lt)
theorem Inv.nofs (I : Inv X pins σ H s) {a : Addr} (h : s.heap.objs.size ≤ a) : a ∉ X.fs := fun hb => by
  obtain ⟨_, o, ho, _⟩ := I.ok.funs.mem hb
  exact absurd (Nat.lt_of_lt_of_le (Heap.lt_size ho) (Nat.le_trans I.sz h)) (Nat.lt_irrefl _)
theorem Inv.cne (I : Inv X pins σ H s) : ∀ x c, X.env.cells.lookup x = some c → c ≠ X.env.locals := fun x c e z => by
  obtain ⟨v, o, ho, hd⟩ := I.cell x c e
  obtain ⟨m, ⟨o', es, ep, ho', hd', _⟩, _⟩ := I.loc
  rw [z, ho'] at ho; cases ho; rw [hd'] at hd; cases hd
theorem Inv.funs (I : Inv X pins σ H s) : s.heap.FunFrames X.base X.outer := by
  have all : ∀ (l : List Env), (∀ b ∈ frs l, b ∈ X.fs) → X.s_0.heap.FunFrames X.base l → s.heap.FunFrames X.base l := by
    intro l
    induction l with
    | nil => intro _ _; trivial
    | cons env r ih =>
      intro hs hl
      obtain ⟨hk, ⟨L, o, hf, hn, ho, hd⟩, hr⟩ := hl
      have hL : L ∈ X.fs := hs L (by unfold frs; rw [List.filterMap_cons, hf]; exact List.mem_cons_self)
      obtain ⟨sl, e⟩ := I.base.slot L o ho (I.ok.frf L hL) hL fun z => I.ok.exfs L z hL
      exact ⟨hk, ⟨L, _, hf, hn, e, hd⟩, ih (fun b hb => hs b (by unfold frs; rw [List.filterMap_cons, hf]; exact List.mem_cons_of_mem _ hb)) hr⟩
  exact all X.outer (fun _ hb => hb) I.ok.funs
theorem Inv.stack (I : Inv X pins σ H s) : s.heap.FunFrames X.base X.stack := by
  rcases I.ok.stk with e | ⟨e, hf⟩
  · rw [e]; exact I.funs
  · rw [e]
    obtain ⟨m, hn, _⟩ := I.loc
    refine .cons (by rw [I.ok.kind]; decide) hf hn ?_ I.funs
    exact Heap.get?_none_of_le (Nat.le_trans I.ok.bsz I.ok.above)
theorem Inv.stkSub (I : Inv X pins σ H s) : ∀ b ∈ frs X.stack, b ∈ X.env.locals :: X.fs := fun b hb => by
  rcases I.ok.stk with e | ⟨e, hf⟩
  · rw [e] at hb; exact List.mem_cons_of_mem _ hb
  · rw [e] at hb
    unfold frs at hb
    rw [List.filterMap_cons, hf] at hb
    exact hb
theorem Inv.stkFree (I : Inv X pins σ H s) : ∀ b ∈ frs X.stack, H b = none := fun b hb => by
  rcases List.mem_cons.mp (I.stkSub b hb) with e | hb
  · rw [e]; exact I.free
  · obtain ⟨_, o, ho, _⟩ := I.ok.funs.mem hb
    exact I.base.free b o ho (I.ok.frf b hb) fun z => I.ok.exfs b z hb
theorem Inv.step {g' : Array GenState} {t' : Nat} {d' : Drawn} {ch : List Addr} (I : Inv X pins σ H s)
    (hch : ∀ b ∈ ch, (b ∈ X.ex ∨ X.s_0.heap.objs.size ≤ b) ∧ b ≠ X.env.locals ∧ (∀ x c, X.env.cells.lookup x = some c → c ≠ b) ∧ ∀ p ∈ X.pn ++ pins, p.1 ≠ b)
    (keep : ∀ b o, b ≠ X.env.locals → b ∉ X.fs → b ∉ ch → s.heap.get? b = some o → H b = none → h'.get? b = some o)
    (slot : ∀ b o, b ≠ X.env.locals → b ∈ X.fs → b ∉ ch → s.heap.get? b = some o → H b = none → ∃ sl, h'.get? b = some { o with slots := sl }) (free : ∀ b o, b ∉ ch → s.heap.get? b = some o → H b = none → H' b = none)
    (there : ∀ b o, b ∉ ch → s.heap.get? b = some o → ∃ o', h'.get? b = some o')
    (tups : ∀ b xs, H b = some (.tup xs) → H' b = some (.tup xs)) (frzs : ∀ b o u, H b = some (.frz o u) → H' b = some (.frz o u)) (tbls : ∀ b ps, H b = some (.tbl ps) → ∃ more, H' b = some (.tbl (ps ++ more)))
    (ns : ∀ m, s.heap.Ns X.env.locals m → h'.Ns X.env.locals m) (hok : HOk X.prog X.w H' h') (hg : AllBare g') :
    Inv X pins σ H' { s with heap := h', gens := g', drawn := d', toks := t' } := by
  have neL : ∀ b o, X.s_0.heap.get? b = some o → b ≠ X.env.locals := fun b o e => Nat.ne_of_lt (Nat.lt_of_lt_of_le (Heap.lt_size e) I.ok.above)
  have neC : ∀ b o, X.s_0.heap.get? b = some o → b ∉ X.ex → b ∉ ch := fun b o e hx hb => by
    rcases (hch b hb).1 with z | z
    · exact hx z
    · exact absurd (Nat.lt_of_lt_of_le (Heap.lt_size e) z) (Nat.lt_irrefl _)
  have cellK : ∀ x c, X.env.cells.lookup x = some c → ∀ v, s.heap.IsCell c v → h'.IsCell c v := fun x c e v ⟨o, ho, hd⟩ => by
    have nch : c ∉ ch := fun z => (hch c z).2.2.1 x c e rfl
    by_cases hc : c ∈ X.fs
    · obtain ⟨sl, q⟩ := slot c o (I.cne x c e) hc nch ho (I.freeC x c e)
      exact ⟨_, q, hd⟩
    · exact ⟨o, keep c o (I.cne x c e) hc nch ho (I.freeC x c e), hd⟩
  refine ⟨I.ok, I.os, hg, ⟨fun b o e n hb hx => ?_, fun b o e n hb hx => ?_, fun b o e n hx => ?_, fun b o e hx => ?_, fun b xs e => tups b xs (I.base.tups b xs e), fun b o xs e => frzs b o xs (I.base.frzs b o xs e), fun b ps e => ?_⟩, ?_, fun x c e => ?_, ?_, fun x c e => ?_, fun p hp => ?_, hok, I.len⟩
  · exact keep b o (neL b o e) hb (neC b o e hx) (I.base.keep b o e n hb hx) (I.base.free b o e n hx)
  · obtain ⟨sl, e1⟩ := I.base.slot b o e n hb hx
    obtain ⟨sl', e2⟩ := slot b _ (neL b o e) hb (neC b o e hx) e1 (I.base.free b o e n hx)
    exact ⟨sl', e2⟩
  · obtain ⟨o', e1⟩ := I.base.there b o e hx
    exact free b o' (neC b o e hx) e1 (I.base.free b o e n hx)
  · obtain ⟨o', e1⟩ := I.base.there b o e hx
    exact there b o' (neC b o e hx) e1
  · obtain ⟨m1, e1⟩ := I.base.tbls b ps e
    obtain ⟨m2, e2⟩ := tbls b _ e1
    exact ⟨m1 ++ m2, by rw [e2, Array.append_assoc]⟩
  · obtain ⟨m, hn, hl⟩ := I.loc
    refine ⟨m, ns m hn, fun i x v e1 e2 e3 => ?_⟩
    obtain ⟨u, r, l⟩ := hl i x v e1 e2 e3
    refine ⟨u, r, ?_⟩
    rcases l with l | ⟨k, c, e, z⟩
    · exact .inl l
    · exact .inr ⟨k, c, e, cellK x c e _ z⟩
  · obtain ⟨v, z⟩ := I.cell x c e
    exact ⟨v, cellK x c e v z⟩
  · obtain ⟨m, ⟨o, _, _, ho, _⟩, _⟩ := I.loc
    exact free _ o (fun z => (hch _ z).2.1 rfl) ho I.free
  · obtain ⟨v, o, ho, hd⟩ := I.cell x c e
    exact free c o (fun z => (hch c z).2.2.1 x c e rfl) ho (I.freeC x c e)
  · obtain ⟨e, n, ne, nf, d⟩ := I.pin p hp
    have nch : p.1 ∉ ch := fun z => (hch p.1 z).2.2.2 p hp rfl
    exact ⟨keep p.1 p.2 ne nf nch e n, free p.1 p.2 nch e n, ne, nf, d⟩
theorem Inv.un {t' : Nat} (I : Inv X pins σ H s) (u : Un X.fs [] H H' s.heap h') (hok : HOk X.prog X.w H' h') : Inv X pins σ H' { s with heap := h', toks := t' } := by
  obtain ⟨m, ⟨o, es, ep, ho, r⟩, _⟩ := id I.loc
  obtain ⟨sl, hL⟩ := u.any ho I.free (by simp)
  exact I.step (g' := s.gens) (d' := s.drawn) (ch := []) (fun _ z => nomatch z) (fun b o _ hb _ e n => u.keep b o e n hb (by simp)) (fun b o _ hb _ e n => u.slot b o e n hb (by simp)) (fun b o _ e n => u.free b o e n (by simp)) (fun b o _ e => u.there b o e (by simp)) u.tups u.frzs u.tbls (fun m' hm => by
    obtain ⟨o', es', ep', ho', r'⟩ := hm
    rw [ho] at ho'; cases ho'
    exact ⟨_, es', ep', hL, r'⟩) hok I.bare
theorem Inv.call {g' : Array GenState} {t' : Nat} {d' : Drawn} {ch : List Addr} (I : Inv X pins σ H s) (u : Un (frs X.stack) ch H H' s.heap h') (hok : HOk X.prog X.w H' h') (hg : AllBare g')
    (hch : ∀ b ∈ ch, (b ∈ X.ex ∨ X.s_0.heap.objs.size ≤ b) ∧ b ≠ X.env.locals ∧ (∀ x c, X.env.cells.lookup x = some c → c ≠ b) ∧ ∀ p ∈ X.pn ++ pins, p.1 ≠ b) :
    Inv X pins σ H' { s with heap := h', gens := g', drawn := d', toks := t' } := by
  obtain ⟨m, ⟨o, es, ep, ho, r⟩, _⟩ := id I.loc
  obtain ⟨sl, hL⟩ := u.any ho I.free fun z => (hch _ z).2.1 rfl
  exact I.step (ch := ch) hch (fun b o hL hb hc e n => u.keep b o e n (fun z => (List.mem_cons.mp (I.stkSub b z)).elim hL hb) hc) (fun b o _ _ hc e n => u.any e n hc) (fun b o hc e n => u.free b o e n hc) (fun b o hc e => u.there b o e hc) u.tups u.frzs u.tbls (fun m' hm => by
    obtain ⟨o', es', ep', ho', r'⟩ := hm
    rw [ho] at ho'; cases ho'
    exact ⟨_, es', ep', hL, r'⟩) hok hg
theorem Inv.turned {t' : Nat} {it : Addr} (I : Inv X pins σ H s) (k : ∀ b o, b ≠ it → s.heap.get? b = some o → h'.get? b = some o) (hn : H it = none) (hL : it ≠ X.env.locals)
    (h1 : it ∈ X.ex ∨ X.s_0.heap.objs.size ≤ it) (h2 : ∀ x c, X.env.cells.lookup x = some c → c ≠ it) (h3 : ∀ p ∈ X.pn ++ pins, p.1 ≠ it) : Inv X pins σ H { s with heap := h', toks := t' } := by
  have nit : ∀ b u, H b = some u → b ≠ it := fun b u e z => by rw [z, hn] at e; cases e
  refine I.step (g' := s.gens) (d' := s.drawn) (ch := [it]) (fun b hb => ?_) (fun b o _ _ hc e _ => k b o (fun z => hc (by simp [z])) e) (fun b o _ _ hc e _ => ⟨o.slots, k b o (fun z => hc (by simp [z])) e⟩) (fun _ _ _ _ n => n)
    (fun b o hc e => ⟨o, k b o (fun z => hc (by simp [z])) e⟩) (fun _ _ e => e) (fun _ _ _ e => e) (fun b ps e => ⟨#[], by rw [e]; simp⟩) (fun m hm => ?_) (fun b u e => ?_) I.bare
  · have e : b = it := by simpa using hb
    subst e
    exact ⟨h1, hL, h2, h3⟩
  · obtain ⟨o, es, ep, ho, r⟩ := hm
    exact ⟨o, es, ep, k _ o (Ne.symm hL) ho, r⟩
  · refine (I.hok b u e).stay (fun c v hc q => k c v ?_ q) (fun _ q => q) fun _ _ q => q
    rcases hc with z | z
    · rw [z]; exact nit b u e
    · exact nit c _ z
theorem Inv.tok (I : Inv X pins σ H s) (t : Nat) : Inv X pins σ H { s with toks := t } := I.un (h' := s.heap) (t' := t) Un.refl I.hok
theorem Inv.kept {t' : Nat} (I : Inv X pins σ H s) (k : ∀ b u, s.heap.get? b = some u → h'.get? b = some u) : Inv X pins σ H { s with heap := h', toks := t' } := I.un (Un.kept k) (I.hok.kept k)
theorem Inv.laid {a : Addr} {o : HO} {t' : Nat} (I : Inv X pins σ H s) (k : ∀ b u, s.heap.get? b = some u → h'.get? b = some u) (hp : s.heap.objs.size ≤ a) (new : ObjOk X.prog X.w (upd H a o) h' a o) :
    Inv X pins σ (upd H a o) { s with heap := h', toks := t' } := I.un (Un.laid k hp (I.hok.fresh hp)) (I.hok.laid k hp new)
theorem Inv.write {x e : Addr} {o : HO} {t' : Nat} (I : Inv X pins σ H s) (mu : Mut (H x)) (he : e = x ∨ H e = some (.own x)) (k : ∀ b u, b ≠ e → s.heap.get? b = some u → h'.get? b = some u) (heo : ∃ u, h'.get? e = some u)
    (new : ObjOk X.prog X.w (upd H x o) h' x o) : Inv X pins σ (upd H x o) { s with heap := h', toks := t' } := I.un (Un.write mu he k heo) (I.hok.write mu he k heo new)
theorem Inv.weak {σ' : List (Option V)} (I : Inv X pins σ H s) (hl : σ'.length = σ.length) (w : ∀ (i : Nat) v, σ'[i]? = some (some v) → σ[i]? = some (some v)) : Inv X pins σ' H s :=
  ⟨I.ok, I.os, I.bare, I.base, let ⟨m, hn, hl'⟩ := I.loc; ⟨m, hn, fun i x v e1 e2 e3 => hl' i x v e1 (w i v e2) e3⟩, I.cell, I.free, I.freeC, I.pin, I.hok, hl.trans I.len⟩
theorem Inv.pins_of {pins' : List (Addr × Obj)} (I : Inv X pins σ H s) (h : ∀ p ∈ pins', s.heap.get? p.1 = some p.2 ∧ H p.1 = none ∧ p.1 ≠ X.env.locals ∧ p.1 ∉ X.fs ∧ ∀ v, p.2.data ≠ .cell v) : Inv X pins' σ H s :=
  ⟨I.ok, I.os, I.bare, I.base, I.loc, I.cell, I.free, I.freeC, fun p hp => (List.mem_append.mp hp).elim (fun z => I.pin p (List.mem_append_left _ z)) (h p), I.hok, I.len⟩
theorem nodup_ix {N : List Str} (hN : N.Nodup) {i j : Nat} {x : Str} (a : N[i]? = some x) (b : N[j]? = some x) : i = j := by
  obtain ⟨h1, e1⟩ := List.getElem?_eq_some_iff.mp a
  obtain ⟨h2, e2⟩ := List.getElem?_eq_some_iff.mp b
  exact (List.getElem_inj hN).mp (e1.trans e2.symm)
theorem store_ok2 {M : Model} {A : Around} {E : Value → Shared → Prop} {i : Nat} {x : Str} {v : V} {u : Value} {Q : Unit → Shared → Prop} (I : Inv X pins σ H s) (hN : X.N.Nodup) (hi : X.N[i]? = some x) (hx : Loc X.env.scope x) (r : RelV v u)
    (h : ∀ s', Inv X pins (σ.set i (some v)) H s' → (∃ a, Heap.SameBut a s.heap s'.heap ∧ (a = X.env.locals ∨ X.env.cells.lookup x = some a)) → Q () s') (hf : X.fn x = true ∨ X.env.scope.names.lookup x = some .local := by exact .inl rfl) : wpAny M A (storeName X.env x u) Q E s := by
  obtain ⟨m, hn, hl⟩ := id I.loc
  have hcls : (X.env.scope.kind == .class || (X.env.scope.kind == .module && X.env.locals != X.env.globals)) = false := by rw [I.ok.kind]; rfl
  have hiσ : i < σ.length := by rw [I.len]; exact (List.getElem?_eq_some_iff.mp hi).1
  have cne := I.cne
  have tracked : ∀ {a : Addr} {h' : Heap}, (∃ o, s.heap.get? a = some o ∧ H a = none) → Heap.SameBut a s.heap h' → HOk X.prog X.w H h' := fun {a h'} ha hs b ob e => by
    obtain ⟨_, _, hfree⟩ := ha
    refine (I.hok b ob e).stay (fun c w' hc q => (hs.2 c ?_).trans q) (fun _ q => q) fun _ _ q => q
    rintro rfl
    rcases hc with rfl | hc
    · rw [hfree] at e; cases e
    · rw [hfree] at hc; cases hc
  rcases hx with hk | hk
  · refine wpAny_storeName_local hk hn (fun h' hn' hs => ?_) hcls
    obtain ⟨oL, _, _, hoL, _⟩ := id hn
    refine h _ ⟨I.ok, I.os, I.bare, ⟨fun b o e n hb hx => ?_, fun b o e n hb hx => ?_, I.base.free, fun b o e hx => ?_, I.base.tups, I.base.frzs, I.base.tbls⟩, ⟨_, hn', fun j y v' e1 e2 e3 => ?_⟩, fun y c e => ?_, I.free, I.freeC, fun p hp => ?_, tracked ⟨oL, hoL, I.free⟩ hs, by simpa using I.len⟩ ⟨_, hs, .inl rfl⟩
    · exact (hs.2 b (Nat.ne_of_lt (Nat.lt_of_lt_of_le (Heap.lt_size e) I.ok.above))).trans (I.base.keep b o e n hb hx)
    · obtain ⟨sl, e1⟩ := I.base.slot b o e n hb hx
      exact ⟨sl, (hs.2 b (Nat.ne_of_lt (Nat.lt_of_lt_of_le (Heap.lt_size e) I.ok.above))).trans e1⟩
    · obtain ⟨o', e1⟩ := I.base.there b o e hx
      exact ⟨o', (hs.2 b (Nat.ne_of_lt (Nat.lt_of_lt_of_le (Heap.lt_size e) I.ok.above))).trans e1⟩
    · by_cases hj : j = i
      · subst hj
        rw [hi] at e1; cases e1
        rw [List.getElem?_set_self hiσ] at e2
        cases e2
        exact ⟨u, r, .inl ⟨hk, by simp⟩⟩
      · rw [List.getElem?_set_ne (Ne.symm hj)] at e2
        obtain ⟨u', r', q⟩ := hl j y v' e1 e2 e3
        refine ⟨u', r', ?_⟩
        rcases q with ⟨k, e⟩ | ⟨k, c, e, z⟩
        · refine .inl ⟨k, ?_⟩
          have : y ≠ x := fun e => hj (nodup_ix hN e1 (e ▸ hi))
          simp [this, e]
        · exact .inr ⟨k, c, e, z.sameBut hs (cne y c e)⟩
    · obtain ⟨w', z⟩ := I.cell y c e
      exact ⟨w', z.sameBut hs (cne y c e)⟩
    · obtain ⟨e, n, ne, nf, d⟩ := I.pin p hp
      exact ⟨(hs.2 p.1 ne).trans e, n, ne, nf, d⟩
  · have hfn : X.fn x = true := by
      rcases hf with z | z
      · exact z
      · rw [z] at hk; cases hk
    obtain ⟨c, hc⟩ := I.ok.has x (.inl hk)
    obtain ⟨w', z⟩ := I.cell x c hc
    refine wpAny_storeName_cell I.ok.kind hk hc z (fun h' hc' hs => ?_)
    obtain ⟨oc, hoc, hocd⟩ := id z
    refine h { s with heap := h' } ⟨I.ok, I.os, I.bare, ⟨fun b o e n hb hx => ?_, fun b o e n hb hx => ?_, I.base.free, fun b o e hx => ?_, I.base.tups, I.base.frzs, I.base.tbls⟩, ⟨m, hn.sameBut hs (Ne.symm (cne x c hc)), fun j y v' e1 e2 e3 => ?_⟩, fun y c' e => ?_, I.free, I.freeC, fun p hp => ?_, tracked ⟨oc, hoc, I.freeC x c hc⟩ hs, by simpa using I.len⟩ ⟨c, hs, .inr hc⟩
    · exact (hs.2 b (Nat.ne_of_lt (Nat.lt_of_lt_of_le (Heap.lt_size e) (I.ok.cab x c hfn hc)))).trans (I.base.keep b o e n hb hx)
    · obtain ⟨sl, e1⟩ := I.base.slot b o e n hb hx
      exact ⟨sl, (hs.2 b (Nat.ne_of_lt (Nat.lt_of_lt_of_le (Heap.lt_size e) (I.ok.cab x c hfn hc)))).trans e1⟩
    · obtain ⟨o', e1⟩ := I.base.there b o e hx
      exact ⟨o', (hs.2 b (Nat.ne_of_lt (Nat.lt_of_lt_of_le (Heap.lt_size e) (I.ok.cab x c hfn hc)))).trans e1⟩
    · by_cases hj : j = i
      · subst hj
        rw [hi] at e1; cases e1
        rw [List.getElem?_set_self hiσ] at e2
        cases e2
        exact ⟨u, r, .inr ⟨.inl hk, c, hc, hc'⟩⟩
      · rw [List.getElem?_set_ne (Ne.symm hj)] at e2
        obtain ⟨u', r', q⟩ := hl j y v' e1 e2 e3
        refine ⟨u', r', ?_⟩
        rcases q with q | ⟨k, c', e, z'⟩
        · exact .inl q
        · refine .inr ⟨k, c', e, z'.sameBut hs ?_⟩
          rintro rfl
          exact hj (nodup_ix hN e1 (I.ok.inj _ _ _ e hc ▸ hi))
    · by_cases hcc : c' = c
      · subst hcc; exact ⟨_, hc'⟩
      · obtain ⟨w2, z2⟩ := I.cell y c' e
        exact ⟨w2, z2.sameBut hs hcc⟩
    · obtain ⟨e, n, ne, nf, d⟩ := I.pin p hp
      refine ⟨(hs.2 p.1 ?_).trans e, n, ne, nf, d⟩
      intro q
      rw [q, hoc] at e
      have q' : oc = p.2 := Option.some.inj e
      exact d w' (by rw [← q']; exact hocd)
theorem store_ok {M : Model} {A : Around} {E : Value → Shared → Prop} {i : Nat} {x : Str} {v : V} {u : Value} {Q : Unit → Shared → Prop} (I : Inv X pins σ H s) (hN : X.N.Nodup) (hi : X.N[i]? = some x) (hx : Loc X.env.scope x) (r : RelV v u)
    (h : ∀ s', Inv X pins (σ.set i (some v)) H s' → Q () s') (hf : X.fn x = true ∨ X.env.scope.names.lookup x = some .local := by exact .inl rfl) : wpAny M A (storeName X.env x u) Q E s :=
  store_ok2 I hN hi hx r (fun s' I' _ => h s' I') hf
theorem Inv.call' {s' : Shared} {ch : List Addr} (I : Inv X pins σ H s) (ho : s'.os = s.os) (u : Un (frs X.stack) ch H H' s.heap s'.heap) (hok : HOk X.prog X.w H' s'.heap) (hg : AllBare s'.gens)
    (hch : ∀ b ∈ ch, (b ∈ X.ex ∨ X.s_0.heap.objs.size ≤ b) ∧ b ≠ X.env.locals ∧ (∀ x c, X.env.cells.lookup x = some c → c ≠ b) ∧ ∀ p ∈ X.pn ++ pins, p.1 ≠ b) : Inv X pins σ H' s' := by
  obtain ⟨h', g', d', t', o'⟩ := s'
  have e : o' = s.os := ho
  subst e
  exact I.call (g' := g') (t' := t') (d' := d') u hok hg hch
end
noncomputable abbrev XK := Value → Option Addr → Hp → Prop
noncomputable abbrev St := List (Option V)
noncomputable abbrev VK := V → Hp → Prop
noncomputable abbrev TE := St → Hp → VK → Prop
noncomputable abbrev TT := St → Hp → (Bool → Hp → Prop) → Prop
noncomputable abbrev TA := St → Hp → (List V → Hp → Prop) → Prop
structure Ends where
  nx : St → Hp → Prop
  rt : VK
  bk : St → Hp → Prop := fun _ _ => False
  ct : St → Hp → Prop := fun _ _ => False
noncomputable abbrev TS := Ends → St → Hp → Prop
noncomputable def Ends.seq (D : Ends) (u : TS) : Ends := ⟨u D, D.rt, D.bk, D.ct⟩
noncomputable def Ends.loop (D : Ends) (N : St → Hp → Prop) : Ends := ⟨N, D.rt, D.nx, N⟩
inductive EP (X : Cx) (pins : List (Addr × Obj)) (σ : St) (Q : VK) (u : Value) (s' : Shared) : Prop
  | mk (v : V) (H' : Hp) (I : Inv X pins σ H' s') (r : RelV v u) (q : Q v H') : EP X pins σ Q u s'
inductive TP (X : Cx) (pins : List (Addr × Obj)) (σ : St) (Q : Bool → Hp → Prop) (b : Bool) (s' : Shared) : Prop
  | mk (H' : Hp) (I : Inv X pins σ H' s') (q : Q b H') : TP X pins σ Q b s'
inductive AP (X : Cx) (pins : List (Addr × Obj)) (σ : St) (Q : List V → Hp → Prop) (us : List Value) (s' : Shared) : Prop
  | mk (vs : List V) (H' : Hp) (I : Inv X pins σ H' s') (r : Vals vs us) (q : Q vs H') : AP X pins σ Q us s'
inductive VarI (o : Option (Option V)) (H : Hp) (Q : VK) : Prop
  | mk (v : V) (e : o = some (some v)) (q : Q v H) : VarI o H Q
inductive BlI (x : V) (H : Hp) (Q : Bool → Hp → Prop) : Prop
  | mk (c : Bool) (e : x = .bl c) (q : Q c H) : BlI x H Q
inductive RI (C : Int → Int → Prop) (g : Int → Int → V) (x y : V) (H : Hp) (Q : VK) : Prop
  | mk (i j : Int) (e1 : x = .int i) (e2 : y = .int j) (c : C i j) (q : Q (g i j) H) : RI C g x y H Q
inductive RI0 (g : Int → Int → V) (x y : V) (H : Hp) (Q : VK) : Prop
  | mk (i j : Int) (e1 : x = .int i) (e2 : y = .int j) (q : Q (g i j) H) : RI0 g x y H Q
inductive UI (g : Int → V) (x : V) (H : Hp) (Q : VK) : Prop
  | mk (i : Int) (e : x = .int i) (q : Q (g i) H) : UI g x H Q
inductive GCI (vs : List V) (R : V → List V → Prop) : Prop
  | mk (v : V) (r : List V) (e : vs = v :: r) (q : R v r) : GCI vs R
inductive PtI (x : V) (H : Hp) (Q : Option Int → Hp → Prop) : Prop
  | mk (i : Int) (e : x = .int i) (q : Q (some i) H) : PtI x H Q
inductive ApI (x : V) (vs : List V) (H : Hp) (Q : VK) : Prop
  | mk (l : Addr) (xs : List V) (y : V) (e : x = .ref l) (e2 : vs = [y]) (h : H l = some (.lst xs)) (z : xs.length < sizeLine) (q : Q .non (upd H l (.lst (xs ++ [y])))) : ApI x vs H Q
inductive ExI (x : V) (vs : List V) (H : Hp) (Q : VK) : Prop
  | mk (l b : Addr) (xs zs : List V) (e : x = .ref l) (e2 : vs = [.ref b]) (h : H l = some (.lst xs)) (h2 : H b = some (.lst zs)) (z : xs.length + zs.length ≤ sizeLine) (q : Q .non (upd H l (.lst (xs ++ zs)))) : ExI x vs H Q
inductive CaI (x y : V) (H : Hp) (Q : VK) : Prop
  | mk (l b : Addr) (xs zs : List V) (e : x = .ref l) (e2 : y = .ref b) (h : H l = some (.lst xs)) (h2 : H b = some (.lst zs)) (z : xs.length + zs.length ≤ sizeLine) (q : ∀ p, H p = none → Q (.ref p) (upd H p (.lst (xs ++ zs)))) : CaI x y H Q
inductive WhN (W : Nat → St → Hp → Prop) (m : Nat) (R : (St → Hp → Prop) → Prop) : Prop
  | mk (N : St → Hp → Prop) (h : ∀ σ' H', N σ' H' → ∃ m', m' < m ∧ W m' σ' H') (q : R N) : WhN W m R
inductive WhI (σ : St) (H : Hp) (R : (Nat → St → Hp → Prop) → Prop) : Prop
  | mk (W : Nat → St → Hp → Prop) (h : ∃ m, W m σ H) (q : R W) : WhI σ H R
noncomputable def SP (X : Cx) (pins : List (Addr × Obj)) (D : Ends) (f : Flow) (s' : Shared) : Prop :=
  match f with
  | .next => ∃ σ' H', Inv X pins σ' H' s' ∧ D.nx σ' H'
  | .brk => ∃ σ' H', Inv X pins σ' H' s' ∧ D.bk σ' H'
  | .cont => ∃ σ' H', Inv X pins σ' H' s' ∧ D.ct σ' H'
  | .ret u => ∃ v σ' H', Inv X pins σ' H' s' ∧ RelV v u ∧ D.rt v H'
noncomputable def PE (X : Cx) (e : Expr) (t : TE) : Prop :=
  ∀ (pins : List (Addr × Obj)) (s : Shared) (σ : St) (H : Hp) (Q : VK), Inv X pins σ H s → t σ H Q → wpAny (model X.prog X.w) X.A (eval e X.env) (EP X pins σ Q) X.xe s
noncomputable def PT (X : Cx) (e : Expr) (t : TT) : Prop :=
  ∀ (pins : List (Addr × Obj)) (s : Shared) (σ : St) (H : Hp) (Q : Bool → Hp → Prop), Inv X pins σ H s → t σ H Q → wpAny (model X.prog X.w) X.A (isTrue e X.env (eval e X.env)) (TP X pins σ Q) X.xe s
noncomputable def PW (X : Cx) (e : Expr) (t : TT) : Prop :=
  ∀ (whole : Sem Value) (pins : List (Addr × Obj)) (s : Shared) (σ : St) (H : Hp) (Q : Bool → Hp → Prop), Inv X pins σ H s → t σ H Q → wpAny (model X.prog X.w) X.A (isTrue e X.env whole) (TP X pins σ Q) X.xe s
theorem PW.pt {X : Cx} {e : Expr} {t : TT} (h : PW X e t) : PT X e t := h _
noncomputable def PA (X : Cx) (es : List Expr) (t : TA) : Prop :=
  ∀ (pos : Pos) (pins : List (Addr × Obj)) (s : Shared) (σ : St) (H : Hp) (Q : List V → Hp → Prop), Inv X pins σ H s → t σ H Q → wpAny (model X.prog X.w) X.A (spliced (backTo pos (starEach es X.env))) (AP X pins σ Q) X.xe s
noncomputable def PS (X : Cx) (st : Stmt) (t : TS) : Prop :=
  ∀ (pins : List (Addr × Obj)) (s : Shared) (σ : St) (H : Hp) (D : Ends), Inv X pins σ H s → t D σ H → wpAny (model X.prog X.w) X.A (exec st X.env) (SP X pins D) X.xe s
noncomputable def PSs (X : Cx) (st : List Stmt) (t : TS) : Prop :=
  ∀ (pins : List (Addr × Obj)) (s : Shared) (σ : St) (H : Hp) (D : Ends), Inv X pins σ H s → t D σ H → wpAny (model X.prog X.w) X.A (execs st X.env) (SP X pins D) X.xe s
theorem thn {α : Type} {t : Sem α} {Q Q' : α → Shared → Prop} {M : Model} {A : Around} {E : Value → Shared → Prop} {s : Shared} (h : wpAny M A t Q E s) (hQ : ∀ a s, Q a s → Q' a s) : wpAny M A t Q' E s := wpAny_mono h hQ fun _ _ x => x
end L2
namespace L2
open PySem PySem.Spec PyProof.Rows
section
variable {X : Cx}
noncomputable def tVar (i : Nat) : TE := fun σ H Q => VarI σ[i]? H Q
noncomputable def tC (v : V) : TE := fun _ H Q => Q v H
theorem pe_var {i : Nat} {x : Str} {pos : Pos} (hN : X.N[i]? = some x) (hv : Vis X.env.scope x) (hd : (x == ("__debug__" : Str)) = false := by decide) (hcd : (x == ("__classdict__" : Str)) = false := by decide) : PE X (.Name x pos) (tVar i) := by
  intro pins s σ H Q I h
  obtain ⟨v, e, h⟩ := h
  obtain ⟨m, hn, hl⟩ := I.loc
  obtain ⟨u, r, l⟩ := hl i x v hN e hv
  have fin : EP X pins σ Q u s := ⟨v, H, I, r, h⟩
  rcases l with ⟨hk, hm⟩ | ⟨hk, c, hc, hcell⟩
  · exact wpAny_Name (wpAny_loadName_local I.ok.kind hk hn hm fin) hd
  · rcases hk with hk | hk
    · exact wpAny_Name (wpAny_loadName_cell I.ok.kind hk hc hcell fin) hd
    · exact wpAny_Name (wpAny_loadName_free I.ok.kind hk hc hcell fin hcd) hd
theorem pe_int {i j pos} : PE X (.Constant (.int i) j pos) (tC (.int i)) := fun _ _ _ H _ I h => wpAny_Constant_int ⟨.int i, H, I.tok _, ⟨_, rfl⟩, h⟩
theorem pe_bl {b j pos} : PE X (.Constant (.bool b) j pos) (tC (.bl b)) := fun _ _ _ H _ I h => Constant_bool ⟨.bl b, H, I, rfl, h⟩
theorem pe_non {j pos} : PE X (.Constant .none j pos) (tC .non) := fun _ _ _ H _ I h => Constant_none ⟨.non, H, I, rfl, h⟩
theorem pe_str {x j pos} : PE X (.Constant (.str x) j pos) (tC (.str x)) := fun _ _ _ H _ I h => Calls.Constant_str ⟨.str x, H, I.tok _, ⟨_, rfl⟩, h⟩
noncomputable def Gl (X : Cx) (x : Str) : Prop := X.env.kindOf x = some .globalImplicit
theorem ld_glob {E : Value → Shared → Prop} {pins : List (Addr × Obj)} {s : Shared} {σ : St} {H : Hp} {x : Str} {u : Value} {pos : Pos} {Q : Value → Shared → Prop} (I : Inv X pins σ H s) (hg : Gl X x) (hm : X.mg x = some u) (h : Q u s)
    (hd : (x == ("__debug__" : Str)) = false := by decide) : wpAny (model X.prog X.w) X.A (eval (.Name x pos) X.env) Q E s :=
  Calls.Name_function_global I.ok.kind hg (Calls.loadGlobal_global (by rw [I.ok.glob]; exact I.mod.glob.keeps I.bk) hm h) hd
theorem ld_blt {E : Value → Shared → Prop} {pins : List (Addr × Obj)} {s : Shared} {σ : St} {H : Hp} {x : Str} {u : Value} {pos : Pos} {Q : Value → Shared → Prop} (I : Inv X pins σ H s) (hg : Gl X x) (hm : X.mg x = none) (hv : bootBuiltins x = some u) (h : Q u s)
    (hn : x ≠ "__name__" := by decide) (hd : (x == ("__debug__" : Str)) = false := by decide) : wpAny (model X.prog X.w) X.A (eval (.Name x pos) X.env) Q E s := by
  obtain ⟨mb, h1, h2⟩ := I.mod.blt
  exact Calls.Name_function_global I.ok.kind hg (Calls.loadGlobal_builtin (by rw [I.ok.glob]; exact I.mod.glob.keeps I.bk) hm (by rw [I.ok.blt]; exact h1.keeps I.bk) ((h2 x hn).trans hv) h) hd
theorem pe_glob {x : Str} {v : V} {u : Value} {pos : Pos} (hg : Gl X x) (hm : X.mg x = some u) (r : RelV v u) (hd : (x == ("__debug__" : Str)) = false := by decide) : PE X (.Name x pos) (tC v) :=
  fun _ _ _ H _ I h => ld_glob I hg hm ⟨v, H, I, r, h⟩ hd
variable {a b : Expr} {ta tb : TE} {pos : Pos}
noncomputable def PC (X : Cx) (op : CmpOp) (a b : Expr) (t : TE) : Prop :=
  ∀ (pins : List (Addr × Obj)) (s : Shared) (σ : St) (H : Hp) (Q : VK), Inv X pins σ H s → t σ H Q →
    wpAny (model X.prog X.w) X.A (eval a X.env) (fun v s₁ => wpAny (model X.prog X.w) X.A (eval b X.env) (fun u s₂ => wpAny (model X.prog X.w) X.A (compareOp op v u) (EP X pins σ Q) X.xe s₂) X.xe s₁) X.xe s
theorem nomark (b : Expr) {op : CmpOp} (h : (op == .In || op == .NotIn) = false := by rfl) : behindInMarks op b = false := by
  cases b with
  | Set elts k pos =>
    show (k == 0 && (op == CmpOp.In || op == CmpOp.NotIn) && _) = false
    rw [h, Bool.and_false, Bool.false_and]
  | _ => rfl
noncomputable def tIsN (ta : TE) : TE := fun σ H Q => ta σ H fun x H1 => Q (.bl (decide (x = .non))) H1
noncomputable def tNotN (ta : TE) : TE := fun σ H Q => ta σ H fun x H1 => Q (.bl (!decide (x = .non))) H1
theorem RelV.none_iff {x : V} {v : Value} (r : RelV x v) : (v == Value.none) = decide (x = .non) := by
  cases x with
  | non => cases r; rfl
  | bl _ => cases r; rfl
  | int _ => obtain ⟨t, rfl⟩ := r; rfl
  | str _ => obtain ⟨t, rfl⟩ := r; rfl
  | ref _ => cases r; rfl
theorem pc_isN {j pos'} (ha : PE X a ta) : PC X .Is a (.Constant .none j pos') (tIsN ta) := by
  intro pins s σ H Q I h
  refine thn (ha pins s σ H _ I h) fun v s1 ⟨x, H1, I1, r1, q1⟩ => ?_
  exact Constant_none (is_none_gen ⟨.bl _, H1, I1, by rw [r1.none_iff]; rfl, q1⟩)
theorem pc_notN {j pos'} (ha : PE X a ta) : PC X .IsNot a (.Constant .none j pos') (tNotN ta) := by
  intro pins s σ H Q I h
  refine thn (ha pins s σ H _ I h) fun v s1 ⟨x, H1, I1, r1, q1⟩ => ?_
  exact Constant_none (isnot_none_gen ⟨.bl _, H1, I1, by rw [r1.none_iff]; rfl, q1⟩)
noncomputable def tB (t : TE) : TT := fun σ H Q => t σ H fun x H1 => BlI x H1 Q
theorem pe_cmp {op : CmpOp} {t : TE} (h : PC X op a b t) (h1 : behindInMarks op b = false := by rfl) : PE X (.Compare a [op] [b] pos) t := fun pins s σ H Q I hw => wpAny_Compare1 (h pins s σ H Q I hw) h1
theorem pt_cmp {op : CmpOp} {t : TE} (h : PC X op a b t) (h1 : behindInMarks op b = false := by rfl) : PT X (.Compare a [op] [b] pos) (tB t) := by
  intro pins s σ H Q I hw
  refine wpAny_isTrue_Compare1 (thn (h pins s σ H _ I hw) fun v s1 h1 => thn h1 fun u s2 h2 => thn h2 fun c s3 ⟨x, H1, I1, r1, q1⟩ => ?_) h1
  obtain ⟨d, rfl, q⟩ := q1
  cases r1
  exact wpAny_truthy_bool ⟨H1, I1, q⟩
theorem pt_val {e : Expr} {t : TE} (h : PE X e t) (he : ∀ whole, isTrue e X.env whole = (do let v ← whole; standAt e.pos; holding [v] (truthy v)) := by intro _; rfl) : PT X e (tB t) := by
  intro pins s σ H Q I hw
  refine isTrue_plain (thn (h pins s σ H _ I hw) fun v s1 ⟨x, H1, I1, r1, q1⟩ => ?_) (he _)
  obtain ⟨d, rfl, q⟩ := q1
  cases r1
  exact wpAny_truthy_bool ⟨H1, I1, q⟩
variable {tA tB' : TT} {rest : List Expr}
noncomputable def tAnd (t u : TT) : TT := fun σ H Q => t σ H fun c H1 => if c = true then u σ H1 Q else Q false H1
noncomputable def tOr (t u : TT) : TT := fun σ H Q => t σ H fun c H1 => if c = true then Q true H1 else u σ H1 Q
noncomputable def tNot (t : TT) : TT := fun σ H Q => t σ H fun c H1 => Q (!c) H1
theorem pw_and1 (ha : PT X a tA) : PW X (.BoolOp .And [a] pos) tA := by
  intro wh pins s σ H Q I h
  refine isTrue_and (thn (ha pins s σ H Q I h) fun c s1 e => ?_)
  cases c with
  | true => exact isTrue_and_nil e
  | false => exact e
theorem pw_or1 (ha : PT X a tA) : PW X (.BoolOp .Or [a] pos) tA := by
  intro wh pins s σ H Q I h
  refine isTrue_or (thn (ha pins s σ H Q I h) fun c s1 e => ?_)
  cases c with
  | false => exact isTrue_or_nil e
  | true => exact e
theorem pw_and (ha : PT X a tA) (hb : PW X (.BoolOp .And (b :: rest) pos) tB') : PW X (.BoolOp .And (a :: b :: rest) pos) (tAnd tA tB') := by
  intro wh pins s σ H Q I h
  refine isTrue_and (thn (ha pins s σ H _ I h) fun c s1 ⟨H1, I1, q1⟩ => ?_)
  cases c with
  | true => exact hb wh pins s1 σ H1 Q I1 q1
  | false => exact ⟨H1, I1, q1⟩
theorem pw_or (ha : PT X a tA) (hb : PW X (.BoolOp .Or (b :: rest) pos) tB') : PW X (.BoolOp .Or (a :: b :: rest) pos) (tOr tA tB') := by
  intro wh pins s σ H Q I h
  refine isTrue_or (thn (ha pins s σ H _ I h) fun c s1 ⟨H1, I1, q1⟩ => ?_)
  cases c with
  | true => exact ⟨H1, I1, q1⟩
  | false => exact hb wh pins s1 σ H1 Q I1 q1
theorem pt_not (ha : PT X a tA) : PT X (.UnaryOp .Not a pos) (tNot tA) := by
  intro pins s σ H Q I h
  exact isTrue_not (thn (ha pins s σ H (fun c H1 => Q (!c) H1) I h) fun c s1 ⟨H1, I1, q⟩ => ⟨H1, I1, q⟩)
noncomputable def tAndV (ta tb : TE) : TE := fun σ H Q => ta σ H fun x H1 => BlI x H1 fun c H1 => if c = true then tb σ H1 Q else Q (.bl false) H1
theorem pe_one {op} {t : TE} (h : PE X a t) : PE X (.BoolOp op [a] pos) t := fun pins s σ H Q I hw => BoolOp_one (h pins s σ H Q I hw)
theorem pe_and (ha : PE X a ta) (hb : PE X (.BoolOp .And (b :: rest) pos) tb) : PE X (.BoolOp .And (a :: b :: rest) pos) (tAndV ta tb) := by
  intro pins s σ H Q I h
  refine BoolOp_and (thn (ha pins s σ H _ I h) fun v s1 ⟨x, H1, I1, r1, q1⟩ => ?_)
  obtain ⟨c, rfl, q1⟩ := q1
  cases r1
  refine wpAny_truthy_bool ?_
  cases c with
  | true => exact hb pins s1 σ H1 Q I1 q1
  | false => exact ⟨.bl false, H1, I1, rfl, q1⟩
noncomputable def tIf (t : TT) (ta tb : TE) : TE := fun σ H Q => t σ H fun c H1 => if c = true then ta σ H1 Q else tb σ H1 Q
theorem pe_ifExp {c : Expr} (hc : PT X c tA) (ha : PE X a ta) (hb : PE X b tb) : PE X (.IfExp c a b pos) (tIf tA ta tb) := by
  intro pins s σ H Q I h
  refine wpAny_IfExp (thn (hc pins s σ H _ I h) fun d s1 ⟨H1, I1, q1⟩ => ?_)
  cases d with
  | true => exact ha pins s1 σ H1 Q I1 q1
  | false => exact hb pins s1 σ H1 Q I1 q1
end
end L2
namespace L2
open PySem PySem.Spec PyProof.Rows
noncomputable def SqL (K : PySem.W.Frag) (H : Hp) (a : Addr) (xs : List V) : Prop :=
  Rd H a (.lst xs) ∨
    ∃ (o : Obj) (its : Array Value) (n : Nat), K.lookup a = some o ∧ o.cls = .type "list" ∧ o.dict = none ∧ o.data = .seq its n ∧ its.size ≤ sizeLine ∧ Vals xs its.toList
noncomputable def SqT (K : PySem.W.Frag) (H : Hp) (a : Addr) (xs : List V) : Prop :=
  Rd H a (.tup xs) ∨
    ∃ (o : Obj) (its : Array Value) (n : Nat), K.lookup a = some o ∧ o.cls = .type "tuple" ∧ o.data = .seq its n ∧ its.size ≤ sizeLine ∧ Vals xs its.toList
noncomputable def absV : Value → Option V
  | .none => some .non
  | .bool b => some (.bl b)
  | .int i _ => some (.int i)
  | .str x _ => some (.str x)
  | .ref a => some (.ref a)
  | _ => none
theorem RelV.abs {x : V} {u : Value} (r : RelV x u) : absV u = some x := by
  cases x with
  | non => cases r; rfl
  | bl _ => cases r; rfl
  | int _ => obtain ⟨t, rfl⟩ := r; rfl
  | str _ => obtain ⟨t, rfl⟩ := r; rfl
  | ref _ => cases r; rfl
theorem RelV.inj {x y : V} {u : Value} (r : RelV x u) (q : RelV y u) : x = y := Option.some.inj (r.abs.symm.trans q.abs)
theorem Vals.inj {xs ys : List V} {us : List Value} (r : Vals xs us) (q : Vals ys us) : xs = ys := by
  induction r generalizing ys with
  | nil => cases q; rfl
  | cons h t ih => cases q with
    | cons h' t' => rw [h.inj h', ih t']
section
variable {X : Cx} {pins : List (Addr × Obj)} {σ : St} {H : Hp} {s : Shared} {a : Addr} {xs ys : List V}
theorem SqL.of {K : PySem.W.Frag} (h : H a = some (.lst xs)) : SqL K H a xs := .inl (.inl h)
theorem SqT.of {K : PySem.W.Frag} (h : H a = some (.tup xs)) : SqT K H a xs := .inl (.inl h)
theorem Inv.list (I : Inv X pins σ H s) (h : SqL X.K H a xs) : ∃ its : List Value, Vals xs its ∧ PlainL s.heap a its.toArray ∧ xs.length ≤ sizeLine := by
  rcases h with h | ⟨o, its, n, hk, hc, hd, hs, hz, r⟩
  · obtain ⟨z, its, n, r, e⟩ := h.ok I.hok
    exact ⟨its, r, ⟨_, n, e, rfl, rfl, rfl⟩, z⟩
  · refine ⟨its.toList, r, ⟨o, n, I.kIn a o hk, hc, hd, by simpa using hs⟩, ?_⟩
    have e := r.length
    simp only [Array.length_toList] at e
    omega
theorem Inv.tuple (I : Inv X pins σ H s) (h : SqT X.K H a xs) : ∃ its : List Value, Vals xs its ∧ IsTup s.heap a its.toArray ∧ xs.length ≤ sizeLine := by
  rcases h with h | ⟨o, its, n, hk, hc, hs, hz, r⟩
  · obtain ⟨z, its, r, p⟩ := h.ok I.hok
    exact ⟨its, r, p, z⟩
  · refine ⟨its.toList, r, ⟨o, I.kIn a o hk, hc, n, by simpa using hs⟩, ?_⟩
    have e := r.length
    simp only [Array.length_toList] at e
    omega
theorem Inv.list_inj (I : Inv X pins σ H s) (h : SqL X.K H a xs) (h' : SqL X.K H a ys) : xs = ys := by
  obtain ⟨its, r, ⟨o, n, e, _, _, d⟩, _⟩ := I.list h
  obtain ⟨its', r', ⟨o', n', e', _, _, d'⟩, _⟩ := I.list h'
  rw [e] at e'; cases e'
  rw [d] at d'
  injection d' with d1 _
  have : its = its' := by simpa using congrArg Array.toList d1
  subst this
  exact r.inj r'
end
noncomputable abbrev Cx.wish (X : Cx) (E : Value → Shared → Prop) : Cx := { X with xe := E }
noncomputable abbrev Cx.nox (X : Cx) : Cx := X.wish fun _ _ => False
theorem Cx.Ok.wish {X : Cx} (ok : X.Ok) (E : Value → Shared → Prop) : (X.wish E).Ok :=
  ⟨ok.mod, ok.kind, ok.glob, ok.blt, ok.above, ok.inj, ok.has, ok.cab, ok.hd, ok.frames, ok.stk, ok.exf, ok.bs, ok.bsz, ok.noex, ok.exfs, ok.funs, ok.frf⟩
theorem Cx.Ok.unwish {X : Cx} {E : Value → Shared → Prop} (ok : (X.wish E).Ok) : X.Ok :=
  ⟨ok.mod, ok.kind, ok.glob, ok.blt, ok.above, ok.inj, ok.has, ok.cab, ok.hd, ok.frames, ok.stk, ok.exf, ok.bs, ok.bsz, ok.noex, ok.exfs, ok.funs, ok.frf⟩
section
variable {X : Cx} {pins : List (Addr × Obj)} {σ : St} {H : Hp} {s : Shared} {E : Value → Shared → Prop}
theorem Inv.wish (I : Inv X pins σ H s) (E : Value → Shared → Prop) : Inv (X.wish E) pins σ H s := ⟨I.ok.wish E, I.os, I.bare, I.base, I.loc, I.cell, I.free, I.freeC, I.pin, I.hok, I.len⟩
theorem Inv.unwish (I : Inv (X.wish E) pins σ H s) : Inv X pins σ H s := ⟨I.ok.unwish, I.os, I.bare, I.base, I.loc, I.cell, I.free, I.freeC, I.pin, I.hok, I.len⟩
theorem SP.unwish {D : Ends} {f : Flow} {s' : Shared} (h : SP (X.wish E) pins D f s') : SP X pins D f s' := by
  cases f with
  | next => obtain ⟨σ', H', I, q⟩ := h; exact ⟨σ', H', I.unwish, q⟩
  | brk => obtain ⟨σ', H', I, q⟩ := h; exact ⟨σ', H', I.unwish, q⟩
  | cont => obtain ⟨σ', H', I, q⟩ := h; exact ⟨σ', H', I.unwish, q⟩
  | ret u => obtain ⟨v, σ', H', I, r, q⟩ := h; exact ⟨v, σ', H', I.unwish, r, q⟩
theorem PSs.nox {st : List Stmt} {t : TS} (h : PSs X.nox st t) : PSs X st t := fun pins s σ H D I hw =>
  wpAny_mono (h pins s σ H D (I.wish _) hw) (fun _ _ q => q.unwish) fun _ _ z => False.elim z
end
section
variable {X : Cx} {st : Stmt} {rest : List Stmt} {t u : TS} {e : Expr} {te : TE} {pos : Pos}
noncomputable def tNext : TS := fun D σ H => D.nx σ H
noncomputable def tSeq (t u : TS) : TS := fun D σ H => t (D.seq u) σ H
theorem pss_nil : PSs X [] tNext := fun _ _ σ H _ I h => wpAny_execs_nil ⟨σ, H, I, h⟩
theorem pss_cons (h1 : PS X st t) (h2 : PSs X rest u) : PSs X (st :: rest) (tSeq t u) := by
  intro pins s σ H D I h
  refine wpAny_execs_cons (thn (h1 pins s σ H (D.seq u) I h) fun f s1 q => ?_)
  cases f with
  | next =>
    obtain ⟨σ', H', I', q⟩ := q
    exact h2 pins s1 σ' H' D I' q
  | ret v => exact q
  | brk => exact q
  | cont => exact q
theorem pss_one (h1 : PS X st t) : PSs X [st] t := by
  intro pins s σ H D I h
  refine wpAny_execs_cons (thn (h1 pins s σ H D I h) fun f s1 q => ?_)
  cases f with
  | next => exact wpAny_execs_nil q
  | ret v => exact q
  | brk => exact q
  | cont => exact q
theorem Inv.quiet {pins : List (Addr × Obj)} {σ : St} {H : Hp} {s : Shared} (I : Inv X pins σ H s) : interactive X.env = false := by simp [interactive, I.ok.kind]
noncomputable def tDrop (te : TE) : TS := fun D σ H => te σ H fun _ H1 => D.nx σ H1
theorem ps_expr (he : PE X e te) (hs : swapsWith e none pos.line X.env = pure false := by rfl) : PS X (.Expr e pos) (tDrop te) := by
  intro pins s σ H D I h
  exact wpAny_Expr_any (thn (he pins s σ H _ I h) fun v s1 ⟨x, H1, I1, r1, q1⟩ => ⟨σ, H1, I1, q1⟩) I.quiet hs
noncomputable def tRet (te : TE) : TS := fun D σ H => te σ H D.rt
theorem ps_ret (he : PE X e te) : PS X (.Return (some e) pos) (tRet te) := by
  intro pins s σ H D I h
  exact wpAny_Return_some (thn (he pins s σ H _ I h) fun v s1 ⟨x, H1, I1, r1, q1⟩ => ⟨x, σ, H1, I1, r1, q1⟩)
noncomputable def tIfS (c : TT) (t u : TS) : TS := fun D σ H => c σ H fun b H1 => if b = true then t D σ H1 else u D σ H1
theorem ps_if {c : Expr} {a b : List Stmt} {tc : TT} (hc : PT X c tc) (ha : PSs X a t) (hb : PSs X b u) : PS X (.If c a b pos) (tIfS tc t u) := by
  intro pins s σ H D I h
  refine wpAny_If (thn (hc pins s σ H _ I h) fun d s1 ⟨H1, I1, q1⟩ => ?_)
  cases d with
  | true => exact ha pins s1 σ H1 D I1 q1
  | false => exact hb pins s1 σ H1 D I1 q1
end
noncomputable abbrev TG := V → St → Hp → (St → Hp → Prop) → Prop
noncomputable abbrev TGs := List V → St → Hp → (St → Hp → Prop) → Prop
noncomputable def PG (X : Cx) (target : Expr) (t : TG) : Prop :=
  ∀ (pins : List (Addr × Obj)) (s : Shared) (σ : St) (H : Hp) (v : V) (u : Value) (Q : St → Hp → Prop), Inv X pins σ H s → RelV v u → t v σ H Q →
    wpAny (model X.prog X.w) X.A (assign target X.env u) (fun _ s' => ∃ σ' H', Inv X pins σ' H' s' ∧ Q σ' H') X.xe s
noncomputable def PGs (X : Cx) (ts : List Expr) (t : TGs) : Prop :=
  ∀ (pins : List (Addr × Obj)) (s : Shared) (σ : St) (H : Hp) (vs : List V) (us : List Value) (Q : St → Hp → Prop), Inv X pins σ H s → Vals vs us → t vs σ H Q →
    wpAny (model X.prog X.w) X.A (assignInOrder ((assignEach ts X.env).map (·.2)) us) (fun _ s' => ∃ σ' H', Inv X pins σ' H' s' ∧ Q σ' H') X.xe s
section
variable {X : Cx} {pos : Pos}
noncomputable def gName (i : Nat) : TG := fun v σ H Q => Q (σ.set i (some v)) H
theorem pg_name {i : Nat} {x : Str} (hN : X.N.Nodup) (hi : X.N[i]? = some x) (hx : Loc X.env.scope x) (hf : X.fn x = true ∨ X.env.scope.names.lookup x = some .local := by exact .inl rfl) : PG X (.Name x pos) (gName i) := by
  intro pins s σ H v u Q I r h
  exact wpAny_assign_Name (store_ok I hN hi hx r (fun s' I' => ⟨_, H, I', h⟩) hf)
noncomputable def gNil : TGs := fun vs σ H Q => vs = [] ∧ Q σ H
noncomputable def gCons (t : TG) (u : TGs) : TGs := fun vs σ H Q => GCI vs fun v r => t v σ H fun σ' H' => u r σ' H' Q
theorem pgs_nil : PGs X [] gNil := by
  intro pins s σ H vs us Q I r h
  obtain ⟨e, h⟩ := h
  subst e
  cases r
  exact assignInOrder_nil ⟨σ, H, I, h⟩
theorem pgs_cons {e : Expr} {es : List Expr} {t : TG} {u : TGs} (h1 : PG X e t) (h2 : PGs X es u)
    (hs : (assignEach (e :: es) X.env).map (·.2) = assign e X.env :: (assignEach es X.env).map (·.2) := by rfl) : PGs X (e :: es) (gCons t u) := by
  intro pins s σ H vs us Q I r h
  obtain ⟨v, vr, e1, h⟩ := h
  subst e1
  cases r with
  | cons r rr =>
    rw [hs]
    refine assignInOrder_cons (thn (h1 pins s σ H _ _ _ I r h) fun _ s1 ⟨σ1, H1, I1, q1⟩ => ?_)
    exact h2 pins s1 σ1 H1 _ _ Q I1 rr q1
inductive GTI (K : PySem.W.Frag) (n : Nat) (v : V) (H : Hp) (R : List V → Prop) : Prop
  | mk (a : Addr) (xs : List V) (e : v = .ref a) (s : SqT K H a xs) (l : xs.length = n) (q : R xs) : GTI K n v H R
noncomputable def gTup (K : PySem.W.Frag) (n : Nat) (t : TGs) : TG := fun v σ H Q => GTI K n v H fun xs => t xs σ H Q
theorem pg_tup {es : List Expr} {k : Nat} {t : TGs} {n : Nat} (hc : X.calm = true) (h : PGs X es t)
    (hn : (assignEach es X.env).length = n := by rfl) (hst : (assignEach es X.env).findIdx? (·.1) = none := by rfl) : PG X (.Tuple es k pos) (gTup X.K n t) := by
  intro pins s σ H v u Q I r hw
  obtain ⟨a, xs, e1, hq, hl, hw⟩ := hw
  subst e1
  cases r
  obtain ⟨its, rv, ht, hz⟩ := I.tuple hq
  refine assign_Tuple_tuple (I.ok.hd hc) ht (by simp [hn, ← hl, rv.length]) hst fun h' hx => ?_
  have I1 : Inv X pins σ H { s with heap := h' } := I.kept (t' := s.toks) fun b o e => hx b o (Nat.ne_of_lt (Heap.lt_size e)) e
  exact h pins _ σ H xs _ Q I1 (by simpa using rv) hw
noncomputable def tAsg (te : TE) (g : TG) : TS := fun D σ H => te σ H fun x H1 => g x σ H1 D.nx
theorem ps_set {i : Nat} {x : Str} {e : Expr} {te : TE} {pos' : Pos} (hN : X.N.Nodup) (hi : X.N[i]? = some x) (hx : Loc X.env.scope x) (he : PE X e te) (hs : swapsWith e (some (.Name x pos')) pos.line X.env = pure false := by rfl) (hf : X.fn x = true ∨ X.env.scope.names.lookup x = some .local := by exact .inl rfl) :
    PS X (.Assign [.Name x pos'] e pos) (tAsg te (gName i)) := by
  intro pins s σ H D I h
  refine wpAny_Assign_Name (thn (he pins s σ H _ I h) fun v s1 ⟨y, H1, I1, r1, q1⟩ => ?_) hs
  exact store_ok I1 hN hi hx r1 (fun s2 I2 => ⟨_, H1, I2, q1⟩) hf
end
section
variable {X : Cx} {pos : Pos}
noncomputable def tWhile (c : TT) (tb : TS) : TS := fun D σ H => WhI σ H fun W => ∀ m σ H, W m σ H →
  c σ H fun b H1 => if b = true then WhN W m fun N => tb (D.loop N) σ H1 else D.nx σ H1
inductive WhJ (X : Cx) (pins : List (Addr × Obj)) (W : Nat → St → Hp → Prop) (n : Nat) (s' : Shared) : Prop
  | mk (σ' : St) (H' : Hp) (I : Inv X pins σ' H' s') (w : W n σ' H') : WhJ X pins W n s'
theorem ps_while {c : Expr} {body : List Stmt} {tc : TT} {tb : TS} (hp : PassesOwn (model X.prog X.w) X.A X.env X.xe) (hc : PT X c tc) (hb : PSs X body tb) : PS X (.While c body [] pos) (tWhile tc tb) := by
  intro pins s σ H D I h
  obtain ⟨W, ⟨m0, w0⟩, turn⟩ := h
  refine wpAny_While (codeAny_whileLoop (WhJ X pins W) ?_ m0 ⟨σ, H, I, w0⟩)
  rintro n s1 ⟨σ1, H1, I1, w1⟩
  refine wpAny_passesOwn hp (thn (hc pins s1 σ1 H1 _ I1 (turn n σ1 H1 w1)) fun b s2 ⟨H2, I2, q2⟩ => ?_)
  cases b with
  | true =>
    obtain ⟨N, hN, q2⟩ := q2
    refine wpAny_passesOwn hp (thn (hb pins s2 σ1 H2 _ I2 q2) fun f s3 q3 => ?_)
    cases f with
    | next => obtain ⟨σ3, H3, I3, n3⟩ := q3; exact let ⟨m', hm, w3⟩ := hN σ3 H3 n3; ⟨m', hm, σ3, H3, I3, w3⟩
    | cont => obtain ⟨σ3, H3, I3, n3⟩ := q3; exact let ⟨m', hm, w3⟩ := hN σ3 H3 n3; ⟨m', hm, σ3, H3, I3, w3⟩
    | brk => exact q3
    | ret v => exact q3
  | false => exact wpAny_execs_nil ⟨σ1, H2, I2, q2⟩
end
structure It where
  go : Nat → Hp → Prop
  yld : Nat → Hp → V → Hp → Prop
  stop : Nat → Hp → Prop
noncomputable def FpOk (X : Cx) (pins : List (Addr × Obj)) (H : Hp) (b : Addr) : Prop :=
  H b = none ∧ b ≠ X.env.locals ∧ b ∉ X.fs ∧ (b ∈ X.ex ∨ X.s_0.heap.objs.size ≤ b) ∧ (∀ x c, X.env.cells.lookup x = some c → c ≠ b) ∧ ∀ p ∈ X.pn ++ pins, p.1 ≠ b
theorem Inv.fpOk {X : Cx} {pins : List (Addr × Obj)} {σ : St} {H H' : Hp} {s : Shared} {b : Addr} (I : Inv X pins σ H s) (hb : s.heap.objs.size ≤ b) (hn : H' b = none) : FpOk X pins H' b := by
  refine ⟨hn, Nat.ne_of_gt (Nat.lt_of_lt_of_le I.lt hb), I.nofs hb, .inr (Nat.le_trans I.sz hb), fun x c e z => ?_, fun p hp z => ?_⟩
  · obtain ⟨v, q⟩ := I.cell x c e
    exact absurd (Nat.lt_of_lt_of_le q.lt (by rw [z]; exact hb)) (Nat.lt_irrefl _)
  · exact absurd (Nat.lt_of_lt_of_le (Heap.lt_size (I.pin p hp).1) (by rw [z]; exact hb)) (Nat.lt_irrefl _)
structure Turn (P : Program) (w : World) (K : PySem.W.Frag) (tg : Expr) (J : It) (fp : List Addr) (it : Addr) (tn : Nat → Heap → Prop) : Prop where
  mem : it ∈ fp
  obj : ∀ i h, tn i h → ∀ b ∈ fp, ∃ o, h.get? b = some o ∧ ∀ v, o.data ≠ .cell v
  keep : ∀ i h h', tn i h → (∀ b ∈ fp, ∀ o, h.get? b = some o → h'.get? b = some o) → tn i h'
  item : ∀ (X : Cx), X.prog = P → X.w = w → X.K = K → X.calm = true → ∀ (i : Nat) (pins : List (Addr × Obj)) (s : Shared) (σ : St) (H : Hp) (E : Value → Shared → Prop), Inv X pins σ H s → (∀ b ∈ fp, FpOk X pins H b) → tn i s.heap → J.go i H →
    wpAny (model P w) X.A (pyNext (.ref it)) (fun r s1 => ∃ u, r = some u ∧
      wpAny (model P w) X.A (letOwnedTupleGo tg (.ref it) u) (fun _ s2 => ∃ x H', Inv X pins σ H' s2 ∧ RelV x u ∧ J.yld i H x H' ∧ tn (i + 1) s2.heap ∧ ∀ b ∈ fp, H' b = none) E s1) E s
  done : ∀ (X : Cx), X.prog = P → X.w = w → X.K = K → X.calm = true → ∀ (i : Nat) (pins : List (Addr × Obj)) (s : Shared) (σ : St) (H : Hp) (E : Value → Shared → Prop), Inv X pins σ H s → (∀ b ∈ fp, FpOk X pins H b) → tn i s.heap → J.stop i H →
    wpAny (model P w) X.A (pyNext (.ref it)) (fun r s1 => r = none ∧ Inv X pins σ H s1) E s
  self : ∀ (A : Around) (i : Nat) (s : Shared) (Q : Value → Shared → Prop) (E : Value → Shared → Prop), tn i s.heap → Q (.ref it) s → wpAny (model P w) A (pyIter (.ref it)) Q E s
noncomputable abbrev TI := St → Hp → (It → Hp → Prop) → Prop
noncomputable def PIE (X : Cx) (pins : List (Addr × Obj)) (σ : St) (tg : Expr) (R : It → Hp → Prop) (itv : Value) (s2 : Shared) : Prop :=
  ∃ (it : Addr) (fp : List Addr) (tn : Nat → Heap → Prop) (J : It) (H' : Hp), itv = .ref it ∧ Inv X pins σ H' s2 ∧ Turn X.prog X.w X.K tg J fp it tn ∧ tn 0 s2.heap ∧ (∀ b ∈ fp, FpOk X pins H' b) ∧ R J H'
noncomputable def PI (X : Cx) (tg iter : Expr) (wi : TI) : Prop :=
  ∀ (pins : List (Addr × Obj)) (s : Shared) (σ : St) (H : Hp) (R : It → Hp → Prop), Inv X pins σ H s → wi σ H R →
    wpAny (model X.prog X.w) X.A (eval iter X.env) (fun v s1 => wpAny (model X.prog X.w) X.A (pyIter v) (PIE X pins σ tg R) X.xe s1) X.xe s
theorem go_of {M : Model} {A : Around} {E : Value → Shared → Prop} {s : Shared} {tg : Expr} {it : Addr} {u : Value} {o : Obj} {n : String} {vs : Array Value} {Q : Unit → Shared → Prop} (ho : s.heap.get? it = some o) (hc : o.cls = .type n) (hd : o.data = .fields vs)
    (hn : ["enumerate", "zip", "dict_itemiterator", "dict_reverseitemiterator", "odict_iterator", "itertools.zip_longest", "itertools.pairwise"].contains n = false) (hQ : Q () s) : wpAny M A (letOwnedTupleGo tg (.ref it) u) Q E s := by
  unfold letOwnedTupleGo
  cases tg <;> first
    | exact wpAny_pure hQ
    | (cases u <;> first
        | exact wpAny_pure hQ
        | (refine wpAny_bind (wpAny_load ho ?_)
           rw [hc, hd]
           show wpAny M A (if (["enumerate", "zip", "dict_itemiterator", "dict_reverseitemiterator", "odict_iterator", "itertools.zip_longest", "itertools.pairwise"].contains n && vs[0]? == some (rawInt _)) = true then _ else _) Q E s
           rw [if_neg (by intro h; rw [hn, Bool.false_and] at h; cases h)]
           exact wpAny_pure hQ))
noncomputable def Itl (K : PySem.W.Frag) (a : Addr) : It :=
  ⟨fun i H => ∃ xs x, SqL K H a xs ∧ xs[i]? = some x, fun i H x H' => H' = H ∧ ∀ xs, SqL K H a xs → xs[i]? = some x, fun i H => ∃ xs, SqL K H a xs ∧ xs.length ≤ i⟩
noncomputable def Itr (lo : Int) (n : Nat) : It := ⟨fun i _ => i < n, fun i H x H' => H' = H ∧ x = .int (lo + i), fun i _ => n ≤ i⟩
theorem turn_list {P : Program} {w : World} {K : PySem.W.Frag} {tg : Expr} (a it : Addr) : Turn P w K tg (Itl K a) [it] it (fun i h => h.IsListIter it a i) where
  mem := List.mem_singleton.mpr rfl
  obj := fun i h st b hb => by
    cases List.mem_singleton.mp hb
    obtain ⟨o, e, c, d⟩ := st
    exact ⟨o, e, fun v z => nomatch d.symm.trans z⟩
  keep := fun i h h' st k => st.at fun o e => k it (List.mem_singleton.mpr rfl) o e
  item := by
    intro X hP hw hK hc i pins s σ H E I hf st hg
    subst hP hw hK
    obtain ⟨xs, x, hq, hx⟩ := hg
    obtain ⟨its, rv, p, hz⟩ := I.list hq
    obtain ⟨u, hu, ru⟩ := rv.get hx
    obtain ⟨f0, f1, f2, f3, f4, f5⟩ := hf it (List.mem_singleton.mpr rfl)
    refine wpAny_pyNext_list_item st p.isList (x := u) ((List.getElem?_toArray ..).trans hu) fun h' st' sb => ?_
    have I1 : Inv X pins σ H { s with heap := h' } := I.turned (t' := s.toks) (fun b o hb e => (sb.2 b hb).trans e) f0 f1 f3 f4 f5
    obtain ⟨o, e, c, d⟩ := id st'
    exact ⟨u, rfl, go_of (s := { s with heap := h' }) e c d (by decide) ⟨x, H, I1, ru, ⟨rfl, fun ys hy => by rw [I.list_inj hy hq]; exact hx⟩, st', fun b hb => (hf b hb).1⟩⟩
  done := by
    intro X hP hw hK hc i pins s σ H E I hf st hg
    subst hP hw hK
    obtain ⟨xs, hq, hx⟩ := hg
    obtain ⟨its, rv, p, hz⟩ := I.list hq
    obtain ⟨f0, f1, f2, f3, f4, f5⟩ := hf it (List.mem_singleton.mpr rfl)
    exact wpAny_pyNext_list_end (I.ok.hd hc) st p.isList ((List.getElem?_toArray ..).trans (List.getElem?_eq_none (by rw [← rv.length]; exact hx))) fun h' eb => ⟨rfl, I.turned (t' := s.toks) (fun b o hb e => eb b o hb e) f0 f1 f3 f4 f5⟩
  self := fun _ _ _ _ _ st h => wpAny_pyIter_listiter st h
theorem turn_range {P : Program} {w : World} {K : PySem.W.Frag} {tg : Expr} (it : Addr) (lo : Int) (n : Nat) : Turn P w K tg (Itr lo n) [it] it (fun i h => IsRangeIter h it (lo + (i : Nat) * 1) ((n : Int) - (i : Nat)) 1) where
  mem := List.mem_singleton.mpr rfl
  obj := fun i h st b hb => by
    cases List.mem_singleton.mp hb
    exact ⟨_, st, fun v z => by
      have z' : Data.fields _ = Data.cell v := z
      cases z'⟩
  keep := fun i h h' st k => k it (List.mem_singleton.mpr rfl) _ st
  item := by
    intro X hP hw hK hc i pins s σ H E I hf st hg
    subst hP hw hK
    obtain ⟨f0, f1, f2, f3, f4, f5⟩ := hf it (List.mem_singleton.mpr rfl)
    have W := Walks.range (prog := X.prog) (w := X.w) (I.ok.hd hc) it lo 1 n
    refine W.item i s _ _ hg st fun v h' tk hv st' kk => ?_
    obtain ⟨t, rfl⟩ := hv
    have I1 : Inv X pins σ H { s with heap := h', toks := tk } := I.turned (fun b o hb e => kk b o (fun z => hb (List.mem_singleton.mp z)) e) f0 f1 f3 f4 f5
    refine ⟨_, rfl, go_of (s := { s with heap := h', toks := tk }) (n := "range_iterator") st' rfl rfl (by decide) ⟨.int (lo + i), H, I1, ⟨t, ?_⟩, ⟨rfl, rfl⟩, st', fun b hb => (hf b hb).1⟩⟩
    rw [Int.mul_one]
  done := by
    intro X hP hw hK hc i pins s σ H E I hf st hg
    subst hP hw hK
    obtain ⟨f0, f1, f2, f3, f4, f5⟩ := hf it (List.mem_singleton.mpr rfl)
    exact wpAny_pyNext_range_end (I.ok.hd hc) st (by have : n ≤ i := hg; omega) fun h' eb => ⟨rfl, I.turned (t' := s.toks) (fun b o hb e => eb b o hb e) f0 f1 f3 f4 f5⟩
  self := fun _ _ _ _ _ st h => wpAny_pyIter_rangeiter st h
end L2
namespace L2
open PySem PySem.Spec PyProof.Rows
section
variable {X : Cx} {tg : Expr}
inductive ILI (K : PySem.W.Frag) (x : V) (H : Hp) (R : Addr → Prop) : Prop
  | mk (a : Addr) (e : x = .ref a) (s : ∃ xs, SqL K H a xs) (q : R a) : ILI K x H R
noncomputable def iList (K : PySem.W.Frag) (tl : TE) : TI := fun σ H R => tl σ H fun x H1 => ILI K x H1 fun a => R (Itl K a) H1
theorem pi_list {l : Expr} {tl : TE} (hl : PE X l tl) : PI X tg l (iList X.K tl) := by
  intro pins s σ H R I h
  refine thn (hl pins s σ H _ I h) fun v s1 ⟨x, H1, I1, r1, q1⟩ => ?_
  obtain ⟨a, e, ⟨xs, hq⟩, q⟩ := q1
  subst e
  cases r1
  obtain ⟨its, rv, p, hz⟩ := I1.list hq
  refine wpAny_pyIter_list p.isList ?_
  refine ⟨s1.heap.objs.size, [s1.heap.objs.size], _, _, H1, rfl, I1.kept (t' := s1.toks) fun b o e => Heap.get?_push_of_some _ e, turn_list a _, ⟨_, Heap.get?_push_size _ rfl, rfl, rfl⟩, fun b hb => ?_, q⟩
  have e : b = s1.heap.objs.size := by simpa using hb
  subst e
  exact I1.fpOk (Nat.le_refl _) (I1.hok.fresh (Nat.le_refl _))
theorem range_it {pins : List (Addr × Obj)} {σ : St} {H : Hp} {s : Shared} {R : It → Hp → Prop} {E : Value → Shared → Prop} {lo hi : Int} {t u v : Tok} {tk : Nat} (I : Inv X pins σ H s) (h1 : -(2 ^ 62) ≤ lo) (h2 : lo < 2 ^ 62) (h3 : -(2 ^ 62) ≤ hi) (h4 : hi < 2 ^ 62)
    (q : R (Itr lo (hi - lo).toNat) H) : wpAny (model X.prog X.w) X.A (pyIter (.ref s.heap.objs.size)) (PIE X pins σ tg R) E { s with heap := s.heap.push { cls := .type "range", data := .fields #[.int lo t, .int hi u, .int 1 v] }, toks := tk } := by
  refine wpAny_pyIter_range (IsRange.new ..) (small_one h1 h2 h3 h4) ?_
  have I1 : Inv X pins σ H { s with heap := s.heap.push { cls := .type "range", data := .fields #[.int lo t, .int hi u, .int 1 v] }, toks := tk } := I.kept fun b o e => Heap.get?_push_of_some _ e
  refine ⟨(s.heap.push { cls := .type "range", data := .fields #[.int lo t, .int hi u, .int 1 v] }).objs.size, [(s.heap.push { cls := .type "range", data := .fields #[.int lo t, .int hi u, .int 1 v] }).objs.size], _, _, H, rfl,
    I1.kept (t' := tk) fun b o e => Heap.get?_push_of_some _ e, turn_range _ lo (hi - lo).toNat, ?_, fun b hb => ?_, q⟩
  · have e1 : lo + ((0 : Nat) : Int) * 1 = lo := by simp
    have e2 : (((hi - lo).toNat : Nat) : Int) - ((0 : Nat) : Int) = Builtin.Range.rangeSize lo hi 1 := by rw [rangeSize_one]; split <;> omega
    show IsRangeIter _ _ (lo + ((0 : Nat) : Int) * 1) ((((hi - lo).toNat : Nat) : Int) - ((0 : Nat) : Int)) 1
    rw [e1, e2]
    exact Heap.get?_push_size _ rfl
  · have e : b = (s.heap.push { cls := .type "range", data := .fields #[.int lo t, .int hi u, .int 1 v] }).objs.size := by simpa using hb
    subst e
    exact I1.fpOk (Nat.le_refl _) (I1.hok.fresh (Nat.le_refl _))
noncomputable def iRng1 (ta : TA) : TI := fun σ H R => ta σ H fun vs H1 => ∃ j : Int, vs = [.int j] ∧ -(2 ^ 62) ≤ j ∧ j < 2 ^ 62 ∧ R (Itr 0 j.toNat) H1
theorem pi_range1 {a : Expr} {ta : TA} {p pos : Pos} (hg : Gl X "range") (hm : X.mg "range" = none) (ha : PA X [a] ta) (hs : starEach [a] X.env = [(false, eval a X.env)] := by rfl) : PI X tg (.Call (.Name "range" p) [a] [] pos) (iRng1 ta) := by
  intro pins s σ H R I h
  refine Call_ (ld_blt I hg hm boot_range (PyProof.Rows.callWith_type1 (thn (ha pos pins s σ H _ I h) fun us s1 ⟨vs, H1, I1, r1, q1⟩ => ?_) hs rfl))
  obtain ⟨j, e, q1, q2, q⟩ := q1
  subst e
  cases r1 with
  | cons r rr =>
    cases rr
    obtain ⟨t, rfl⟩ := r
    exact call_range_1 (range_it I1 (by omega) (by omega) q1 q2 (by simpa using q))
inductive ForW (J : It) (g : TG) (tb : TS) (D : Ends) (σ : St) (H : Hp) : Prop
  | mk (n : Nat) (Pv : Nat → St → Hp → Prop) (h0 : Pv 0 σ H) (go : ∀ i σ H, i < n → Pv i σ H → J.go i H) (hs : ∀ i σ H x H', i < n → Pv i σ H → J.yld i H x H' → g x σ H' (tb (D.loop (Pv (i + 1)))))
    (st : ∀ σ H, Pv n σ H → J.stop n H) (hd : ∀ σ H, Pv n σ H → D.nx σ H) : ForW J g tb D σ H
noncomputable def tFor (wi : TI) (g : TG) (tb : TS) : TS := fun D σ H => wi σ H fun J H1 => ForW J g tb D σ H1
noncomputable def pinsAt (fp : List Addr) (h : Heap) : List (Addr × Obj) := fp.filterMap fun b => (h.get? b).map fun o => (b, o)
theorem mem_pinsAt {fp : List Addr} {h : Heap} {b : Addr} {o : Obj} (hb : b ∈ fp) (e : h.get? b = some o) : (b, o) ∈ pinsAt fp h := List.mem_filterMap.mpr ⟨b, hb, by rw [e]; rfl⟩
theorem of_pinsAt {fp : List Addr} {h : Heap} {p : Addr × Obj} (hp : p ∈ pinsAt fp h) : p.1 ∈ fp ∧ h.get? p.1 = some p.2 := by
  obtain ⟨b, hb, e⟩ := List.mem_filterMap.mp hp
  cases q : h.get? b with
  | none => rw [q] at e; cases e
  | some o =>
    rw [q] at e
    have e' : (b, o) = p := Option.some.inj e
    subst e'
    exact ⟨hb, q⟩
theorem Inv.pinned {pins : List (Addr × Obj)} {σ : St} {H : Hp} {s : Shared} {fp : List Addr} (I : Inv X pins σ H s) (hf : ∀ b ∈ fp, FpOk X pins H b) (ho : ∀ b ∈ fp, ∃ o, s.heap.get? b = some o ∧ ∀ v, o.data ≠ .cell v) : Inv X (pins ++ pinsAt fp s.heap) σ H s :=
  I.pins_of fun p hp => (List.mem_append.mp hp).elim (fun z => I.pin p (List.mem_append_right _ z)) fun z => by
    obtain ⟨hb, e⟩ := of_pinsAt z
    obtain ⟨f0, f1, f2, _⟩ := hf p.1 hb
    obtain ⟨o, e', d⟩ := ho p.1 hb
    rw [e] at e'; cases e'
    exact ⟨e, f0, f1, f2, d⟩
theorem Inv.unpinned {pins pl : List (Addr × Obj)} {σ : St} {H : Hp} {s : Shared} (I : Inv X (pins ++ pl) σ H s) : Inv X pins σ H s := I.pins_of fun p hp => I.pin p (List.mem_append_right _ (List.mem_append_left _ hp))
inductive ForI (X : Cx) (pins : List (Addr × Obj)) (tn : Nat → Heap → Prop) (fp : List Addr) (Pv : Nat → St → Hp → Prop) (n m : Nat) (s' : Shared) : Prop
  | mk (i : Nat) (σ' : St) (H' : Hp) (I : Inv X pins σ' H' s') (t : tn i s'.heap) (f : ∀ b ∈ fp, H' b = none) (e : m + i = n) (p : Pv i σ' H') : ForI X pins tn fp Pv n m s'
section
variable {it : Addr} {fp : List Addr} {tn : Nat → Heap → Prop} {J : It} {Pv : Nat → St → Hp → Prop} {n m i : Nat} {pins : List (Addr × Obj)} {s : Shared}
theorem for_again {σ : St} {H : Hp} {h : Heap} (T : Turn X.prog X.w X.K tg J fp it tn) (st : tn (i + 1) h) (e : m + 1 + i = n) (I : Inv X (pins ++ pinsAt fp h) σ H s) (p : Pv (i + 1) σ H) : ∃ m', m' < m + 1 ∧ ForI X pins tn fp Pv n m' s :=
  have z : ∀ b ∈ fp, ∀ o, h.get? b = some o → s.heap.get? b = some o ∧ H b = none := fun b hb o e => let q := I.pin (b, o) (List.mem_append_right _ (List.mem_append_right _ (mem_pinsAt hb e))); ⟨q.1, q.2.1⟩
  ⟨m, Nat.lt_succ_self m, i + 1, σ, H, I.unpinned, T.keep _ _ _ st fun b hb o e => (z b hb o e).1, fun b hb => let ⟨o, q, _⟩ := T.obj _ _ st b hb; (z b hb o q).2, (Nat.succ_add_eq_add_succ m i).symm.trans e, p⟩
theorem for_body {body : List Stmt} {g : TG} {tb : TS} {D : Ends} {R : Flow → Shared → Prop} {σ3 : St} {H3 : Hp} {u : Value} {s5 : Shared} (hg : PG X tg g) (hb : PSs X body tb) (T : Turn X.prog X.w X.K tg J fp it tn) (stat : ∀ {H' : Hp}, (∀ b ∈ fp, H' b = none) → ∀ b ∈ fp, FpOk X pins H' b)
    (e : m + 1 + i = n) (hs : ∀ x H', J.yld i H3 x H' → g x σ3 H' (tb (D.loop (Pv (i + 1))))) (x : V) (H5 : Hp) (I5 : Inv X pins σ3 H5 s5) (r5 : RelV x u) (y5 : J.yld i H3 x H5) (st5 : tn (i + 1) s5.heap) (fr5 : ∀ b ∈ fp, H5 b = none)
    (hR : ∀ f s7, SP X (pins ++ pinsAt fp s5.heap) (D.loop (Pv (i + 1))) f s7 → R f s7) :
    wpAny (model X.prog X.w) X.A (assign tg X.env u) (fun _ s6 => wpAny (model X.prog X.w) X.A (execs body X.env) R X.xe s6) X.xe s5 :=
  thn (hg _ s5 σ3 H5 x u _ (I5.pinned (stat fr5) (T.obj _ _ st5)) r5 (hs x H5 y5)) fun _ s6 ⟨σ6, H6, I6, q6⟩ => thn (hb _ s6 σ6 H6 _ I6 q6) hR
end
theorem ps_for {iter : Expr} {body : List Stmt} {wi : TI} {g : TG} {tb : TS} {pos : Pos} (hp : PassesOwn (model X.prog X.w) X.A X.env X.xe) (hc : X.calm = true) (hi : PI X tg iter wi) (hg : PG X tg g) (hb : PSs X body tb)
    (hs : ∀ x, foldedSetIterable iter X.env x = pure x := by intro _; rfl) : PS X (.For tg iter body [] pos) (tFor wi g tb) := by
  intro pins s σ H D I h
  refine wpAny_For (thn (hi pins s σ H _ I h) fun v s1 h1 => thn h1 fun itv s2 h2 => ?_) hs
  obtain ⟨it, fp, tn, J, H2, e, I2, T, st2, f2, n, Pv, h0, go, hs, st, hd⟩ := h2
  subst e
  have stat : ∀ {H' : Hp}, (∀ b ∈ fp, H' b = none) → ∀ b ∈ fp, FpOk X pins H' b := fun hn b hb => ⟨hn b hb, (f2 b hb).2⟩
  refine codeAny_forLoop_any (ForI X pins tn fp Pv n) ?_ n ⟨0, σ, H2, I2, st2, fun b hb => (f2 b hb).1, rfl, h0⟩
  rintro m s3 ⟨i, σ3, H3, I3, st3, fr3, e, p⟩
  cases m with
  | zero =>
    cases (Nat.zero_add i).symm.trans e
    refine wpAny_passesOwn hp (thn (T.done X rfl rfl rfl hc _ pins s3 σ3 H3 X.xe I3 (stat fr3) st3 (st σ3 H3 p)) fun r s4 ⟨hr, I4⟩ => ?_)
    subst hr
    exact wpAny_execs_nil ⟨σ3, H3, I4, hd σ3 H3 p⟩
  | succ m =>
    have hi : i < n := e ▸ Nat.lt_add_of_pos_left (Nat.succ_pos m)
    refine wpAny_passesOwn hp (thn (T.item X rfl rfl rfl hc i pins s3 σ3 H3 X.xe I3 (stat fr3) st3 (go i σ3 H3 hi p)) fun r s4 ⟨u, hr, h4⟩ => ?_)
    subst hr
    refine wpAny_passesOwn hp (thn h4 fun _ s5 ⟨x, H5, I5, r5, y5, st5, fr5⟩ => wpAny_passesOwn hp (wpAny_mono (for_body hg hb T stat e (fun x H' => hs i σ3 H3 x H' hi p) x H5 I5 r5 y5 st5 fr5 fun f s7 q7 => ?_) (fun _ _ z => wpAny_passesOwn hp z) fun _ _ z => z))
    cases f with
    | next => obtain ⟨σ7, H7, I7, n7⟩ := q7; exact for_again T st5 e I7 n7
    | cont => obtain ⟨σ7, H7, I7, n7⟩ := q7; exact for_again T st5 e I7 n7
    | brk => obtain ⟨σ7, H7, I7, q7⟩ := q7; exact ⟨σ7, H7, I7.unpinned, q7⟩
    | ret v => obtain ⟨x7, σ7, H7, I7, r7, q7⟩ := q7; exact ⟨x7, σ7, H7, I7.unpinned, r7, q7⟩
end
theorem for_list {K : PySem.W.Frag} {a : Addr} {xs : List V} {g : TG} {tb : TS} {D : Ends} {σ : St} {H : Hp} (Pv : Nat → St → Hp → Prop) (h0 : Pv 0 σ H) (hl : ∀ i σ H, i ≤ xs.length → Pv i σ H → SqL K H a xs)
    (hs : ∀ i x σ H, xs[i]? = some x → Pv i σ H → g x σ H (tb (D.loop (Pv (i + 1))))) (hd : ∀ σ H, Pv xs.length σ H → D.nx σ H) : ForW (Itl K a) g tb D σ H :=
  ⟨xs.length, Pv, h0, fun i σ H hi p => ⟨xs, xs[i], hl i σ H (Nat.le_of_lt hi) p, List.getElem?_eq_getElem hi⟩, fun i σ H x H' hi p y => by
    obtain ⟨e, y⟩ := y
    subst e
    exact hs i x σ _ (y xs (hl i σ _ (Nat.le_of_lt hi) p)) p, fun σ H p => ⟨xs, hl _ σ H (Nat.le_refl _) p, Nat.le_refl _⟩, hd⟩
theorem for_range {lo : Int} {n : Nat} {g : TG} {tb : TS} {D : Ends} {σ : St} {H : Hp} (Pv : Nat → St → Hp → Prop) (h0 : Pv 0 σ H)
    (hs : ∀ i σ H, i < n → Pv i σ H → g (.int (lo + i)) σ H (tb (D.loop (Pv (i + 1))))) (hd : ∀ σ H, Pv n σ H → D.nx σ H) : ForW (Itr lo n) g tb D σ H :=
  ⟨n, Pv, h0, fun i σ H hi p => hi, fun i σ H x H' hi p y => by
    obtain ⟨e, y⟩ := y
    subst e y
    exact hs i σ _ hi p, fun σ H p => Nat.le_refl _, hd⟩
end L2
namespace L2
open PySem PySem.Spec PyProof.Rows
noncomputable abbrev R2 := V → V → Hp → VK → Prop
noncomputable def OpR (X : Cx) (f : Value → Value → Sem Value) (r : R2) : Prop :=
  ∀ (pins : List (Addr × Obj)) (s : Shared) (σ : St) (H : Hp) (x y : V) (v u : Value) (Q : VK), Inv X pins σ H s → RelV x v → RelV y u → r x y H Q →
    wpAny (model X.prog X.w) X.A (f v u) (EP X pins σ Q) X.xe s
noncomputable def UnR (X : Cx) (f : Value → Sem Value) (r : V → Hp → VK → Prop) : Prop :=
  ∀ (pins : List (Addr × Obj)) (s : Shared) (σ : St) (H : Hp) (x : V) (v : Value) (Q : VK), Inv X pins σ H s → RelV x v → r x H Q →
    wpAny (model X.prog X.w) X.A (f v) (EP X pins σ Q) X.xe s
noncomputable def CallR (X : Cx) (f : Value) (r : List V → Hp → VK → Prop) : Prop :=
  ∀ (pins : List (Addr × Obj)) (s : Shared) (σ : St) (H : Hp) (xs : List V) (us : List Value) (Q : VK), Inv X pins σ H s → Vals xs us → r xs H Q →
    wpAny (model X.prog X.w) X.A (call f us) (EP X pins σ Q) X.xe s
noncomputable def TruR (X : Cx) (r : V → Hp → (Bool → Hp → Prop) → Prop) : Prop :=
  ∀ (pins : List (Addr × Obj)) (s : Shared) (σ : St) (H : Hp) (x : V) (v : Value) (Q : Bool → Hp → Prop), Inv X pins σ H s → RelV x v → r x H Q →
    wpAny (model X.prog X.w) X.A (truthy v) (TP X pins σ Q) X.xe s
noncomputable def tOp (r : R2) (ta tb : TE) : TE := fun σ H Q => ta σ H fun x H1 => tb σ H1 fun y H2 => r x y H2 Q
noncomputable def tUn (r : V → Hp → VK → Prop) (ta : TE) : TE := fun σ H Q => ta σ H fun x H1 => r x H1 Q
noncomputable def rI (C : Int → Int → Prop) (g : Int → Int → V) : R2 := fun x y H Q => RI C g x y H Q
noncomputable def rI0 (g : Int → Int → V) : R2 := fun x y H Q => RI0 g x y H Q
noncomputable def rU (g : Int → V) : V → Hp → VK → Prop := fun x H Q => UI g x H Q
section
variable {X : Cx} {a b c : Expr} {ta tb tc : TE} {pos : Pos}
theorem binT (ha : PE X a ta) (hb : PE X b tb) {pins : List (Addr × Obj)} {s : Shared} {σ : St} {H : Hp} {R : V → V → Hp → Prop} (I : Inv X pins σ H s)
    (h : ta σ H fun x H1 => tb σ H1 fun y H2 => R x y H2) {Q : Value → Shared → Prop} {f : Value → Value → Sem Value}
    (hf : ∀ v u s2 x y H2, Inv X pins σ H2 s2 → RelV x v → RelV y u → R x y H2 → wpAny (model X.prog X.w) X.A (f v u) Q X.xe s2) :
    wpAny (model X.prog X.w) X.A (eval a X.env) (fun v s₁ => wpAny (model X.prog X.w) X.A (eval b X.env) (fun u s₂ => wpAny (model X.prog X.w) X.A (f v u) Q X.xe s₂) X.xe s₁) X.xe s := by
  refine thn (ha pins s σ H _ I h) fun v s1 ⟨x, H1, I1, r1, q1⟩ => ?_
  refine thn (hb pins s1 σ H1 _ I1 q1) fun u s2 ⟨y, H2, I2, r2, q2⟩ => ?_
  exact hf v u s2 x y H2 I2 r1 r2 q2
theorem pe_op {op : Operator} {r : R2} (ho : OpR X (binaryOp op) r) (ha : PE X a ta) (hb : PE X b tb) : PE X (.BinOp a op b pos) (tOp r ta tb) := by
  intro pins s σ H Q I h
  exact wpAny_BinOp (binT ha hb I h fun v u s2 x y H2 I2 rx ry q => ho pins s2 σ H2 x y v u Q I2 rx ry q)
theorem pe_un {op : UnaryOp} {r : V → Hp → VK → Prop} (ho : UnR X (unaryOp op) r) (ha : PE X a ta) : PE X (.UnaryOp op a pos) (tUn r ta) := by
  intro pins s σ H Q I h
  exact UnaryOp_ (thn (ha pins s σ H _ I h) fun v s1 ⟨x, H1, I1, r1, q1⟩ => ho pins s1 σ H1 x v Q I1 r1 q1)
theorem opI {f : Value → Value → Sem Value} {C : Int → Int → Prop} {g : Int → Int → Int}
    (rule : ∀ (i j : Int) (t u : Tok) (s : Shared) (Q : Value → Shared → Prop) (E : Value → Shared → Prop), C i j → Q (.int (g i j) s.toks) { s with toks := s.toks + 1 } → wpAny (model X.prog X.w) X.A (f (.int i t) (.int j u)) Q E s) :
    OpR X f (rI C fun i j => .int (g i j)) := by
  intro pins s σ H x y v u Q I rx ry h
  obtain ⟨i, j, rfl, rfl, hc, q⟩ := h
  obtain ⟨t, rfl⟩ := rx
  obtain ⟨t', rfl⟩ := ry
  exact rule i j t t' s _ _ hc ⟨.int (g i j), H, I.tok _, ⟨_, rfl⟩, q⟩
theorem opI0 {f : Value → Value → Sem Value} {g : Int → Int → Int}
    (rule : ∀ (i j : Int) (t u : Tok) (s : Shared) (Q : Value → Shared → Prop) (E : Value → Shared → Prop), Q (.int (g i j) s.toks) { s with toks := s.toks + 1 } → wpAny (model X.prog X.w) X.A (f (.int i t) (.int j u)) Q E s) :
    OpR X f (rI0 fun i j => .int (g i j)) := by
  intro pins s σ H x y v u Q I rx ry h
  obtain ⟨i, j, rfl, rfl, q⟩ := h
  obtain ⟨t, rfl⟩ := rx
  obtain ⟨t', rfl⟩ := ry
  exact rule i j t t' s _ _ ⟨.int (g i j), H, I.tok _, ⟨_, rfl⟩, q⟩
theorem opB0 {f : Value → Value → Sem Value} {g : Int → Int → Bool}
    (rule : ∀ (i j : Int) (t u : Tok) (s : Shared) (Q : Value → Shared → Prop) (E : Value → Shared → Prop), Q (.bool (g i j)) s → wpAny (model X.prog X.w) X.A (f (.int i t) (.int j u)) Q E s) :
    OpR X f (rI0 fun i j => .bl (g i j)) := by
  intro pins s σ H x y v u Q I rx ry h
  obtain ⟨i, j, rfl, rfl, q⟩ := h
  obtain ⟨t, rfl⟩ := rx
  obtain ⟨t', rfl⟩ := ry
  exact rule i j t t' s _ _ ⟨.bl (g i j), H, I, rfl, q⟩
noncomputable def CPow (i j : Int) : Prop := 0 ≤ j ∧ j ≤ 1000000 ∧ i.natAbs < 2 ^ 64
theorem op_add : OpR X (binaryOp .Add) (rI0 fun i j => .int (i + j)) := opI0 fun _ _ _ _ _ _ _ q => add_int q
theorem op_sub : OpR X (binaryOp .Sub) (rI0 fun i j => .int (i - j)) := opI0 fun _ _ _ _ _ _ _ q => sub_int q
theorem op_shl : OpR X (binaryOp .LShift) (rI CPow fun i j => .int (i * 2 ^ j.toNat)) := opI fun _ _ _ _ _ _ _ hc q => lshift_int_small hc.1 hc.2.1 hc.2.2 q
theorem op_and : OpR X (binaryOp .BitAnd) (rI0 fun i j => .int (Builtin.bitAnd i j)) := opI0 fun _ _ _ _ _ _ _ q => and_int q
theorem op_or : OpR X (binaryOp .BitOr) (rI0 fun i j => .int (Builtin.bitOr i j)) := opI0 fun _ _ _ _ _ _ _ q => or_int q
theorem unI {f : Value → Sem Value} {g : Int → Int}
    (rule : ∀ (i : Int) (t : Tok) (s : Shared) (Q : Value → Shared → Prop) (E : Value → Shared → Prop), Q (.int (g i) s.toks) { s with toks := s.toks + 1 } → wpAny (model X.prog X.w) X.A (f (.int i t)) Q E s) :
    UnR X f (rU fun i => .int (g i)) := by
  intro pins s σ H x v Q I rx h
  obtain ⟨i, rfl, q⟩ := h
  obtain ⟨t, rfl⟩ := rx
  exact rule i t s _ _ ⟨.int (g i), H, I.tok _, ⟨_, rfl⟩, q⟩
theorem un_inv : UnR X (unaryOp .Invert) (rU fun i => .int (Builtin.bitNot i)) := unI fun _ _ _ _ _ q => invert_int q
end
noncomputable def scal : V → V → Bool
  | .int _, .int _ => true | .str _, .str _ => true
  | _, _ => false
noncomputable def rEq : R2 := fun x y H Q => scal x y = true ∧ Q (.bl (decide (x = y))) H
noncomputable def rNe : R2 := fun x y H Q => scal x y = true ∧ Q (.bl (!decide (x = y))) H
theorem dec_int {i j : Int} : decide (V.int i = V.int j) = (i == j) := by
  rw [Bool.eq_iff_iff]
  simp
theorem dec_str {i j : Str} : decide (V.str i = V.str j) = (i == j) := by
  rw [Bool.eq_iff_iff]
  simp
section
variable {X : Cx} {a b c : Expr} {ta tb tc : TE} {pos : Pos}
theorem fin_bl {pins : List (Addr × Obj)} {σ : St} {H : Hp} {s : Shared} {Q : VK} {k k' : Bool} (I : Inv X pins σ H s) (q : Q (.bl k) H) (e : k = k') : EP X pins σ Q (.bool k') s := by
  subst e
  exact ⟨.bl k, H, I, rfl, q⟩
theorem op_eq : OpR X (compareOp .Eq) rEq := by
  intro pins s σ H x y v u Q I rx ry h
  obtain ⟨hs, q⟩ := h
  cases x with
  | int i =>
    obtain ⟨t, rfl⟩ := rx
    cases y with
    | int j => obtain ⟨t', rfl⟩ := ry; exact eq_int (fin_bl I q dec_int)
    | _ => exact absurd (show false = true from hs) Bool.false_ne_true
  | str i =>
    obtain ⟨t, rfl⟩ := rx
    cases y with
    | str j => obtain ⟨t', rfl⟩ := ry; exact eq_str (fin_bl I q dec_str)
    | _ => exact absurd (show false = true from hs) Bool.false_ne_true
  | _ => exact absurd (show false = true from hs) Bool.false_ne_true
theorem op_ne : OpR X (compareOp .NotEq) rNe := by
  intro pins s σ H x y v u Q I rx ry h
  obtain ⟨hs, q⟩ := h
  cases x with
  | int i =>
    obtain ⟨t, rfl⟩ := rx
    cases y with
    | int j => obtain ⟨t', rfl⟩ := ry; exact ne_int (fin_bl I q (congrArg not dec_int))
    | _ => exact absurd (show false = true from hs) Bool.false_ne_true
  | str i =>
    obtain ⟨t, rfl⟩ := rx
    cases y with
    | str j => obtain ⟨t', rfl⟩ := ry; exact ne_str (fin_bl I q (congrArg not dec_str))
    | _ => exact absurd (show false = true from hs) Bool.false_ne_true
  | _ => exact absurd (show false = true from hs) Bool.false_ne_true
theorem op_lt : OpR X (compareOp .Lt) (rI0 fun i j => .bl (decide (i < j))) := opB0 fun _ _ _ _ _ _ _ q => lt_int q
theorem op_ge : OpR X (compareOp .GtE) (rI0 fun i j => .bl (decide (j ≤ i))) := opB0 fun _ _ _ _ _ _ _ q => ge_int q
theorem pe_cmpR {op : CmpOp} {r : R2} (ho : OpR X (compareOp op) r) (ha : PE X a ta) (hb : PE X b tb) (hm : behindInMarks op b = false) : PE X (.Compare a [op] [b] pos) (tOp r ta tb) := by
  intro pins s σ H Q I h
  exact wpAny_Compare1 (binT ha hb I h fun v u s2 x y H2 I2 rx ry q => ho pins s2 σ H2 x y v u Q I2 rx ry q) hm
noncomputable def tTest (t : TE) : TT := fun σ H Q => t σ H fun x H' => BlI x H' Q
theorem pt_cmpR {op : CmpOp} {r : R2} (ho : OpR X (compareOp op) r) (ha : PE X a ta) (hb : PE X b tb) (hm : behindInMarks op b = false) : PT X (.Compare a [op] [b] pos) (tTest (tOp r ta tb)) := by
  intro pins s σ H Q I h
  refine wpAny_isTrue_Compare1 (thn (ha pins s σ H _ I h) fun v s1 ⟨x, H1, I1, r1, q1⟩ => thn (hb pins s1 σ H1 _ I1 q1) fun u s2 ⟨y, H2, I2, r2, q2⟩ =>
    thn (ho pins s2 σ H2 x y v u _ I2 r1 r2 q2) fun c s3 ⟨z, H3, I3, r3, k, e, q3⟩ => ?_) hm
  subst e
  cases r3
  exact wpAny_truthy_bool ⟨H3, I3, q3⟩
noncomputable def TruV (K : PySem.W.Frag) (x : V) (H : Hp) (k : Bool) : Prop :=
  match x with
  | .int i => k = (i != 0)
  | .ref p => (∃ xs, SqL K H p xs ∧ k = !xs.isEmpty)
  | _ => False
theorem isEmpty_of {xs : List V} {its : List Value} (r : Vals xs its) : (!its.toArray.isEmpty) = !xs.isEmpty := by
  cases r <;> simp
theorem line63 : (sizeLine : Nat) < 2 ^ 63 := by rw [sizeLine_eq]; decide
theorem tru_ok : TruR X (fun x H Q => ∃ k, TruV X.K x H k ∧ Q k H) := by
  intro pins s σ H x v Q I rx h
  obtain ⟨k, e, q⟩ := h
  cases x with
  | int i =>
    obtain ⟨t, rfl⟩ := rx
    exact PySem.P.truthy_int ⟨H, I, by rw [← (show k = (i != 0) from e)]; exact q⟩
  | ref p =>
    cases rx
    obtain ⟨xs, hx, e'⟩ := e
    obtain ⟨its, r, pl, hz⟩ := I.list hx
    exact wpAny_truthy_list pl.isList (by rw [List.size_toArray, ← r.length]; exact Int.ofNat_lt.mpr (Nat.lt_of_le_of_lt hz line63)) ⟨H, I.tok _, by rw [isEmpty_of r, ← e']; exact q⟩
  | _ => exact (show False from e).elim
theorem pt_truth (ha : PE X a ta) (he : ∀ whole, isTrue a X.env whole = (do let v ← whole; standAt a.pos; holding [v] (truthy v))) :
    PT X a (fun σ H Q => ta σ H fun x H' => ∃ k, TruV X.K x H' k ∧ Q k H') := by
  intro pins s σ H Q I h
  exact isTrue_plain (thn (ha pins s σ H _ I h) fun v s1 ⟨x, H1, I1, r1, q1⟩ => tru_ok pins s1 σ H1 x v Q I1 r1 q1) (he _)
theorem vals1 {x : V} {us : List Value} (r : Vals [x] us) : ∃ u, us = [u] ∧ RelV x u := by
  cases r with
  | cons r1 r2 => cases r2; exact ⟨_, rfl, r1⟩
end
end L2
namespace L2
open PySem PySem.Spec PyProof.Rows
structure ObjM (h : Heap) (x dx C : Addr) (mA : Str → Option Value) : Prop where
  obj : h.get? x = some (PySem.W.instObj C dx)
  ns : h.Ns1 dx mA
  ne : dx ≠ x
theorem lookIn_ns {h : Heap} {dx : Addr} {mA : Str → Option Value} (n : h.Ns1 dx mA) : ∃ od, h.get? dx = some od ∧ ∀ name, PySem.W.lookIn name od = some (mA name) := by
  obtain ⟨o, es, ep, ho, hd, hk, _, hm⟩ := n
  refine ⟨o, ho, fun name => ?_⟩
  have e := hm name
  unfold nsFind findBy at e
  rw [← Array.find?_toList] at e
  unfold PySem.W.lookIn
  rw [hd]
  dsimp only
  split
  · rename_i y q
    rw [q] at e
    exact congrArg some e
  · rename_i q
    rw [q] at e
    have a : es.toList.any (·.refKey) = false := by
      rw [List.any_eq_false]
      intro y hy
      obtain ⟨z, t, hkey⟩ := hk y (Array.mem_toList_iff.mp hy)
      simp [DictEntry.refKey, hkey]
    have a' : ¬ es.toList.any (·.refKey) = true := by rw [a]; exact Bool.false_ne_true
    rw [if_neg a']
    exact congrArg some e
theorem ObjM.look {h : Heap} {x dx C : Addr} {mA : Str → Option Value} (I : ObjM h x dx C mA) : ∃ od, PySem.W.InstAt h x (PySem.W.instObj C dx) C (some od) ∧ ∀ name, PySem.W.lookIn name od = some (mA name) :=
  let ⟨od, ho, hl⟩ := lookIn_ns I.ns
  ⟨od, ⟨I.obj, rfl, rfl, ho⟩, hl⟩
section
variable {prog : Program} {w : World} {A : Around} {E : Value → Shared → Prop} {s : Shared} {K : PySem.W.Frag} {x dx C f : Addr} {mA : Str → Option Value} {name : Str} {v : Value}
theorem get_map {expr : Bool} {Q : Value → Shared → Prop} (X : K.In s.heap) (I : ObjM s.heap x dx C mA) (hg : PySem.W.plainGet K C name = true) (hh : PySem.W.hasDictIn K C = true)
    (ha : PySem.W.findIn K (.ref C) name = some none) (hv : mA name = some v) (hv' : PySem.W.handedIn v = true) (h : Q v { s with toks := s.toks + 1 }) :
    wpAny (model prog w) A (getAttr (.ref x) name expr) Q E s := by
  obtain ⟨od, J, hl⟩ := I.look
  exact PySem.W.get_value X J (PySem.W.plainGet_of hg).1 (PySem.W.findObj_own hh ha rfl (by rw [hl, hv])) hv' h
theorem get_meth {pl : Sem Bool} {Q : Value × List Value → Shared → Prop} (X : K.In s.heap) (I : ObjM s.heap x dx C mA) (hg : PySem.W.plainGet K C name = true)
    (hf : PySem.W.findIn K (.ref C) name = some (some (.ref f))) (ht : PySem.W.isFn K (.ref f) = true) (hv : mA name = none) (h : Q (.ref f, [.ref x]) s) :
    wpAny (model prog w) A (getMethod (.ref x) name pl) Q E s := by
  obtain ⟨od, J, hl⟩ := I.look
  exact PySem.W.method_fn X J (PySem.W.plainGet_of hg).1 (PySem.W.plainGet_of hg).2 hf (beq_iff_eq.mp ht) (by show (PySem.W.lookIn name od).map (·.isSome) = some false; rw [hl, hv]; rfl) h
theorem set_map {ns : List Str} {Q : Unit → Shared → Prop} (X : K.In s.heap) (I : ObjM s.heap x dx C mA)
    (hs : PySem.W.findIn K (.ref C) "__setattr__" = some (some (.builtin "object.__setattr__"))) (hp : PySem.W.plainOver K C = true) (ht : PySem.W.takerIn K C name = some none) (hh : PySem.W.hasDictIn K C = true)
    (hw : PySem.Within mA ns) (hsz : ns.length ≤ sizeLine)
    (h : ∀ h', ObjM h' x dx C (fun y => if y = name then some v else mA y) → Heap.SameBut dx s.heap h' → Q () { s with heap := h', toks := s.toks + 2 }) :
    wpAny (model prog w) A (setAttr (.ref x) name v) Q E s := by
  obtain ⟨od, J, hl⟩ := I.look
  refine PySem.W.set_plain X J hs (PySem.W.osa_open (s := { s with toks := s.toks + 1 }) (r := none) X J hp ht fun b => ?_)
  obtain ⟨cd, hc, hd'⟩ := PySem.W.any_some hh
  have hx : s.heap.get? x = some ⟨.ref C, some dx, .plain, #[]⟩ := I.obj
  refine wpAny_bind (wpAny_pure (wpAny_bind (wpAny_bind (wpAny_loadPart hx (wpAny_bind (PySem.W.Looks.here (s := { s with toks := s.toks + 1 }) (PySem.W.looks_clsIn X hc) ?_))))))
  rw [hd']
  refine wpAny_pure (a := some dx) (wpAny_bind (wpAny_pure (wpAny_bind ?_)))
  refine wpAny_nsSet1 (s := { s with toks := s.toks + 1 }) I.ns fun h' hn2 hs2 => ?_
  obtain ⟨oD, esD, epD, hoD, hdD, hcD⟩ := hn2.count (PySem.Within.cons name v hw)
  refine wpAny_bind (wpAny_lookBehind hoD (by rw [hdD]; exact pastItsLine_dict (Nat.le_trans hcD (by rw [List.length_cons]; omega))) ?_)
  exact wpAny_pure (h _ ⟨(hs2.2 _ (Ne.symm I.ne)).trans I.obj, hn2, I.ne⟩ hs2)
theorem make_map {R : Result → Shared → Prop} {vs : List Value} {kw : List (Str × Value)} (X : K.In s.heap) (hm : PySem.W.makesIn K C = true)
    (hi : PySem.W.findIn K (.ref C) "__init__" = some (some (.ref f))) (hf : PySem.W.typeIn K (.ref f) = some (.type "function"))
    (h : codeAny (model prog w) (A.under (.builtin "type.__call__" ⟨.ref C :: vs, kw⟩)) (.call (.ref f) ⟨.ref (s.heap.objs.size + 1) :: vs, kw⟩) (PySem.W.InitBack (s.heap.objs.size + 1) R)
      { s with heap := (s.heap.push PySem.W.emptyDict).push (PySem.W.instObj C s.heap.objs.size) }) :
    codeAny (model prog w) A (.call (.ref C) ⟨vs, kw⟩) R s := by
  obtain ⟨hh, g, d, t, os⟩ := s
  exact PySem.W.make_core (PySem.W.makes_of X hm) (PySem.W.looks_findIn X hi) (fun self => PySem.W.bind_fn X self hf) (.inl rfl) h
end
noncomputable def putF (f : Str) (v : V) : List (Str × V) → List (Str × V)
  | [] => [(f, v)]
  | (g, x) :: r => if g = f then (g, v) :: r else (g, x) :: putF f v r
theorem lookup_putF (f g : Str) (v : V) : ∀ fs : List (Str × V), (putF f v fs).lookup g = if g = f then some v else fs.lookup g
  | [] => by
    show List.lookup g [(f, v)] = _
    by_cases h : g = f
    · have hb : (g == f) = true := beq_iff_eq.mpr h
      simp only [List.lookup, hb, if_pos h]
    · have hb : (g == f) = false := beq_eq_false_iff_ne.mpr h
      simp only [List.lookup, hb, if_neg h]
  | (k, x) :: r => by
    have ih := lookup_putF f g v r
    rw [show putF f v ((k, x) :: r) = (if k = f then (k, v) :: r else (k, x) :: putF f v r) from rfl]
    by_cases hk : k = f
    · rw [if_pos hk]
      by_cases h : g = k
      · have hb : (g == k) = true := beq_iff_eq.mpr h
        simp only [List.lookup, hb, if_pos (h.trans hk)]
      · have hb : (g == k) = false := beq_eq_false_iff_ne.mpr h
        simp only [List.lookup, hb, if_neg (fun e : g = f => h (e.trans hk.symm))]
    · rw [if_neg hk]
      by_cases h : g = k
      · have hb : (g == k) = true := beq_iff_eq.mpr h
        simp only [List.lookup, hb, if_neg (fun e : g = f => hk (h.symm.trans e))]
      · have hb : (g == k) = false := beq_eq_false_iff_ne.mpr h
        simp only [List.lookup, hb]
        exact ih
theorem keys_putF (f : Str) (v : V) : ∀ fs : List (Str × V), f ∈ (putF f v fs).map (·.1) ∧ ∀ g, g ∈ fs.map (·.1) → g ∈ (putF f v fs).map (·.1)
  | [] => ⟨by simp [putF], fun g h => by simp at h⟩
  | (k, x) :: r => by
    obtain ⟨i1, i2⟩ := keys_putF f v r
    rw [show putF f v ((k, x) :: r) = (if k = f then (k, v) :: r else (k, x) :: putF f v r) from rfl]
    by_cases hk : k = f
    · rw [if_pos hk]
      subst hk
      exact ⟨by simp, fun g h => by simpa using h⟩
    · rw [if_neg hk]
      refine ⟨?_, fun g h => ?_⟩
      · rw [List.map_cons]
        exact List.mem_cons_of_mem _ i1
      · rw [List.map_cons] at h ⊢
        rcases List.mem_cons.mp h with e | e
        · exact List.mem_cons.mpr (.inl e)
        · exact List.mem_cons_of_mem _ (i2 g e)
theorem length_putF (f : Str) (v : V) : ∀ fs : List (Str × V), (putF f v fs).length ≤ fs.length + 1
  | [] => by simp [putF]
  | (k, x) :: r => by
    have ih := length_putF f v r
    rw [show putF f v ((k, x) :: r) = (if k = f then (k, v) :: r else (k, x) :: putF f v r) from rfl]
    by_cases hk : k = f
    · rw [if_pos hk, List.length_cons, List.length_cons]; omega
    · rw [if_neg hk, List.length_cons, List.length_cons]; omega
theorem RelO.some_of {v : V} {o : Option Value} (r : RelO (some v) o) : ∃ u, o = some u ∧ RelV v u := by
  cases o with
  | none => exact (show False from r).elim
  | some u => exact ⟨u, rfl, r⟩
theorem RelO.none_of {o : Option Value} (r : RelO none o) : o = none := by
  cases o with
  | none => rfl
  | some u => exact (show False from r).elim
theorem handed_of {v : V} {u : Value} (r : RelV v u) : PySem.W.handedIn u = true := by
  cases v with
  | non => cases (show u = Value.none from r); rfl
  | bl b => cases (show u = Value.bool b from r); rfl
  | int i => obtain ⟨t, e⟩ := (show ∃ t, u = Value.int i t from r); cases e; rfl
  | str x => obtain ⟨t, e⟩ := (show ∃ t, u = Value.str x t from r); cases e; rfl
  | ref a => cases (show u = Value.ref a from r); rfl
section
variable {P : Program} {w : World} {H H' : Hp} {h h' : Heap} {a C dx : Addr} {fs fs' : List (Str × V)}
theorem ins_get (hok : HOk P w H h) (e : H a = some (.ins C dx fs)) : ∃ mA, ObjM h a dx C mA ∧ (∀ f, RelO (fs.lookup f) (mA f)) ∧ PySem.Within mA (fs.map (·.1)) ∧ fs.length ≤ 1000 ∧ H dx = some (.own a) := by
  obtain ⟨d, z, ne, ob, mA, n, r, q⟩ := (show ObjOk P w H h a (.ins C dx fs) from hok a _ e)
  exact ⟨mA, ⟨ob, n, ne⟩, r, q, z, d⟩
end
structure Cls (K : PySem.W.Frag) (C : Addr) : Prop where
  pg : PySem.W.plainGet K C Str.empty = true
  hd : PySem.W.hasDictIn K C = true
  po : PySem.W.plainOver K C = true
  sa : PySem.W.findIn K (.ref C) "__setattr__" = some (some (.builtin "object.__setattr__"))
theorem Cls.get {K : PySem.W.Frag} {C : Addr} (c : Cls K C) (f : Str) : PySem.W.plainGet K C f = true := c.pg
noncomputable def NoAttr (K : PySem.W.Frag) (C : Addr) (f : Str) : Prop := PySem.W.findIn K (.ref C) f = some none
theorem NoAttr.taker {K : PySem.W.Frag} {C : Addr} {f : Str} (n : NoAttr K C f) : PySem.W.takerIn K C f = some none := by
  unfold PySem.W.takerIn
  rw [show PySem.W.findIn K (.ref C) f = some none from n]
  rfl
structure Meth (K : PySem.W.Frag) (C : Addr) (m : Str) (f : Addr) : Prop where
  at_ : PySem.W.findIn K (.ref C) m = some (some (.ref f))
  fn : PySem.W.isFn K (.ref f) = true
  kp : PySem.W.keepIn K (.ref f) = true
section
variable {X : Cx} {pins : List (Addr × Obj)} {σ : St} {H : Hp} {s : Shared} {a C dx : Addr} {fs : List (Str × V)} {f : Str} {v : V} {A : Around} {E : Value → Shared → Prop}
theorem getattr_ok {b : Bool} {Q : Value → Shared → Prop} (I : Inv X pins σ H s) (e : H a = some (.ins C dx fs)) (c : Cls X.K C) (n : NoAttr X.K C f) (l : fs.lookup f = some v)
    (h : ∀ u s', Inv X pins σ H s' → RelV v u → Q u s') : wpAny (model X.prog X.w) A (getAttr (.ref a) f b) Q E s := by
  obtain ⟨mA, O, r, _, _, _⟩ := ins_get I.hok e
  obtain ⟨u, hu, ru⟩ := RelO.some_of (v := v) (o := mA f) (by rw [← l]; exact r f)
  exact get_map I.kIn O (c.get f) c.hd n hu (handed_of ru) (h u _ (I.tok _) ru)
theorem getmeth_ok {m : Str} {g : Addr} {pl : Sem Bool} {Q : Value × List Value → Shared → Prop} (I : Inv X pins σ H s) (e : H a = some (.ins C dx fs)) (c : Cls X.K C) (k : Meth X.K C m g) (l : fs.lookup m = none)
    (h : Q (.ref g, [.ref a]) s) : wpAny (model X.prog X.w) A (getMethod (.ref a) m pl) Q E s := by
  obtain ⟨mA, O, r, _, _, _⟩ := ins_get I.hok e
  have hn : mA m = none := RelO.none_of (by rw [← l]; exact r m)
  exact get_meth I.kIn O (c.get m) k.at_ k.fn hn h
theorem setattr_ok {y : V} {u : Value} {Q : Unit → Shared → Prop} (I : Inv X pins σ H s) (e : H a = some (.ins C dx fs)) (c : Cls X.K C) (n : NoAttr X.K C f) (hl : fs.length < 1000) (ry : RelV y u)
    (h : ∀ s', Inv X pins σ (upd H a (.ins C dx (putF f y fs))) s' → Q () s') : wpAny (model X.prog X.w) A (setAttr (.ref a) f u) Q E s := by
  obtain ⟨mA, O, r, wi, _, ho⟩ := ins_get I.hok e
  have hz : (fs.map (·.1)).length ≤ sizeLine := by rw [List.length_map, sizeLine_eq]; omega
  refine set_map I.kIn O c.sa c.po n.taker c.hd wi hz fun h' O' sb => h _ ?_
  have hd : ∃ o, h'.get? dx = some o := let ⟨o, _, _, e', _⟩ := O'.ns; ⟨o, e'⟩
  refine I.write (x := a) (e := dx) (by rw [e]; exact True.intro) (.inr ho) (fun b q hb z => (sb.2 b hb).trans z) hd ?_
  refine ⟨by rw [upd_ne O.ne]; exact ho, ?_, O.ne, O'.obj, _, O'.ns, fun g => ?_, fun g hg => ?_⟩
  · have := length_putF f y fs; omega
  · show RelO ((putF f y fs).lookup g) (if g = f then some u else mA g)
    rw [lookup_putF]
    by_cases q : g = f
    · rw [if_pos q, if_pos q]; exact ry
    · rw [if_neg q, if_neg q]; exact r g
  · by_cases q : g = f
    · rw [q]; exact (keys_putF f y fs).1
    · refine (keys_putF f y fs).2 g (wi g fun z => hg ?_)
      show (if g = f then some u else mA g) = none
      rw [if_neg q]; exact z
theorem Inv.made (I : Inv X pins σ H s) : Inv X pins σ (upd (upd H s.heap.objs.size (.own (s.heap.objs.size + 1))) (s.heap.objs.size + 1) (.ins C s.heap.objs.size []))
    { s with heap := (s.heap.push PySem.W.emptyDict).push (PySem.W.instObj C s.heap.objs.size) } := by
  have e1 : (s.heap.push PySem.W.emptyDict).get? s.heap.objs.size = some PySem.W.emptyDict := Heap.get?_push_size s.heap rfl
  have e2 : ((s.heap.push PySem.W.emptyDict).push (PySem.W.instObj C s.heap.objs.size)).get? (s.heap.objs.size + 1) = some (PySem.W.instObj C s.heap.objs.size) := by
    have := Heap.get?_push_size (s.heap.push PySem.W.emptyDict) (o := PySem.W.instObj C s.heap.objs.size) rfl
    rwa [Heap.size_push] at this
  have e3 : (s.heap.push PySem.W.emptyDict).Ns s.heap.objs.size (fun _ => none) := ⟨PySem.W.emptyDict, #[], _, e1, rfl, (fun e he => absurd he (by simp)), fun _ => rfl⟩
  have I1 := I.laid (a := s.heap.objs.size) (o := .own (s.heap.objs.size + 1)) (h' := s.heap.push PySem.W.emptyDict) (t' := s.toks) (fun b u q => Heap.get?_push_of_some _ q) (Nat.le_refl _) ⟨_, e1⟩
  refine I1.laid (a := s.heap.objs.size + 1) (o := .ins C s.heap.objs.size []) (t' := s.toks) (fun b u q => Heap.get?_push_of_some _ q) (Nat.le_of_eq (Heap.size_push _ _)) ?_
  have ne : s.heap.objs.size ≠ s.heap.objs.size + 1 := Nat.ne_of_lt (Nat.lt_succ_self _)
  refine ⟨by rw [upd_ne ne, upd_same], Nat.zero_le _, ne, e2, fun _ => none, (Heap.Ns1.of_empty e3).at fun o q => Heap.get?_push_of_some _ q, fun _ => True.intro, fun y hy => absurd rfl hy⟩
theorem attr_of {prog : Program} {w : World} {env : Env} {e : Expr} {f : Str} {pos : Pos} {s : Shared} {Q : Value → Shared → Prop} (hb : attributeBase e f env (eval e env) = eval e env)
    (h : wpAny (model prog w) A (eval e env) (fun o s₁ => wpAny (model prog w) A (getAttr o f true) Q E s₁) E s) : wpAny (model prog w) A (eval (.Attribute e f pos) env) Q E s :=
  Attribute_any_ h (by rw [arm_eval_Attribute, hb])
end
inductive FldI (K : PySem.W.Frag) (f : Str) (x : V) (H : Hp) (Q : VK) : Prop
  | mk (a C dx : Addr) (fs : List (Str × V)) (v : V) (e : x = .ref a) (h : H a = some (.ins C dx fs)) (c : Cls K C) (n : NoAttr K C f) (l : fs.lookup f = some v) (q : Q v H) : FldI K f x H Q
noncomputable def tFld (K : PySem.W.Frag) (ta : TE) (f : Str) : TE := fun σ H Q => ta σ H fun x H1 => FldI K f x H1 Q
inductive SFldI (K : PySem.W.Frag) (f : Str) (x y : V) (H : Hp) (R : Hp → Prop) : Prop
  | mk (a C dx : Addr) (fs : List (Str × V)) (e : x = .ref a) (h : H a = some (.ins C dx fs)) (c : Cls K C) (n : NoAttr K C f) (l : fs.length < 1000) (q : R (upd H a (.ins C dx (putF f y fs)))) : SFldI K f x y H R
noncomputable def sFld (K : PySem.W.Frag) (ta tv : TE) (f : Str) : TS := fun D σ H => tv σ H fun y H1 => ta σ H1 fun x H2 => SFldI K f x y H2 fun H3 => D.nx σ H3
section
variable {X : Cx} {o e value : Expr} {f : Str} {pos pos' tpos : Pos} {ta tv : TE}
theorem pe_fld (he : PE X e ta) (hb : attributeBase e f X.env (eval e X.env) = eval e X.env) : PE X (.Attribute e f pos) (tFld X.K ta f) := by
  intro pins s σ H Q I h
  refine attr_of hb (thn (he pins s σ H _ I h) fun u s1 ⟨x, H1, I1, rx, a, C, dx, fs, v, ex, ea, c, n, l, q⟩ => ?_)
  subst ex
  obtain rfl : u = Value.ref a := rx
  exact getattr_ok I1 ea c n l fun u' s2 I2 ru => ⟨v, H1, I2, ru, q⟩
theorem ps_fld (ha : PE X o ta) (hv : PE X value tv) (hs : swapsWith value (some (.Attribute o f pos')) pos.line X.env = pure false) : PS X (.Assign [.Attribute o f pos'] value pos) (sFld X.K ta tv f) := by
  intro pins s σ H D I h
  refine plainObj_wpAny_Assign_Attribute (thn (hv pins s σ H _ I h) fun u s1 ⟨y, H1, I1, ry, q⟩ => thn (ha pins s1 σ H1 _ I1 q) fun ov s2 ⟨x, H2, I2, rx, a, C, dx, fs, ex, ea, c, n, l, q2⟩ => ?_) hs
  subst ex
  obtain rfl : ov = Value.ref a := rx
  exact setattr_ok I2 ea c n l ry fun s3 I3 => ⟨σ, _, I3, q2⟩
end
section
variable {X : Cx} {pins : List (Addr × Obj)} {σ : St} {H : Hp} {s : Shared} {A : Around} {E : Value → Shared → Prop} {Q : Value → Shared → Prop} {c : Value} {b : Bool}
end
end L2
namespace L2
open PySem PySem.Spec PyProof.Rows
structure Room (k : Nat) (A : Around) : Prop where
  hd : A.handled = none
  dp : A.depth + 3 * k + 5 < recursionLimit
  un : A.units + 16 * k + 200 < cLine
theorem Room.mono {j k : Nat} {A : Around} (r : Room k A) (h : j ≤ k) : Room j A := ⟨r.hd, by have := r.dp; omega, by have := r.un; omega⟩
theorem Room.deeper {k : Nat} {A : Around} (r : Room (k + 1) A) (env : Env) : Room k (A.deeper env) :=
  ⟨r.hd, by have := r.dp; show A.depth + 1 + 3 * k + 5 < _; omega, by have := r.un; show A.units + 3 + 16 * k + 200 < _; omega⟩
theorem make_depth {A : Around} {C : Addr} {us : List Value} {kw : List (Str × Value)} : (A.under (.builtin "type.__call__" ⟨.ref C :: us, kw⟩)).depth = A.depth + 1 := by
  first | rfl | simp [Around.under, Code.weight, Code.isCreation, Code.isGuard, Code.isCaller, Code.frames, Code.isFrame, guardIds]
theorem make_units {A : Around} {C : Addr} {us : List Value} {kw : List (Str × Value)} : (A.under (.builtin "type.__call__" ⟨.ref C :: us, kw⟩)).units = A.units + 1 := by
  first | rfl | simp [Around.under, Code.cUnits, Code.frames, Code.isFrame]
theorem Room.make {k : Nat} {A : Around} (r : Room (k + 1) A) (C : Addr) (us : List Value) (kw : List (Str × Value)) : Room k (A.under (.builtin "type.__call__" ⟨.ref C :: us, kw⟩)) :=
  ⟨r.hd, by have := r.dp; rw [make_depth]; omega, by have := r.un; rw [make_units]; omega⟩
theorem Room.depth {k : Nat} {A : Around} (r : Room k A) : A.depth < recursionLimit := by have := r.dp; omega
noncomputable def tNil : TA := fun _ H Q => Q [] H
noncomputable def tCons (ta : TE) (tr : TA) : TA := fun σ H Q => ta σ H fun x H1 => tr σ H1 fun xs H2 => Q (x :: xs) H2
section
variable {X : Cx} {e : Expr} {es : List Expr} {te : TE} {t : TA} {pos : Pos}
theorem pa_nil : PA X [] tNil := fun _ _ _ _ H Q I h => Calls.spliced_nil ⟨[], H, I, .nil, h⟩
theorem pa_cons (ha : PE X e te) (hr : PA X es t) (hs : starEach (e :: es) X.env = (false, eval e X.env) :: starEach es X.env := by rfl) : PA X (e :: es) (tCons te t) := by
  intro pos pins s σ H Q I h
  rw [hs]
  show wpAny _ _ (spliced ((false, eval e X.env) :: backTo pos (starEach es X.env))) _ _ s
  refine Calls.spliced_cons (thn (ha pins s σ H _ I h) fun u s1 ⟨x, H1, I1, r1, q1⟩ => ?_)
  exact thn (hr pos pins s1 σ H1 _ I1 q1) fun us s2 ⟨xs, H2, I2, r2, q2⟩ => ⟨x :: xs, H2, I2, .cons r1 r2, q2⟩
noncomputable def tLst (t : TA) : TE := fun σ H Q => t σ H fun xs H1 => xs.length ≤ sizeLine ∧ ∀ p, H1 p = none → Q (.ref p) (upd H1 p (.lst xs))
theorem pe_lst (h : PA X es t) : PE X (.List es pos) (tLst t) := by
  intro pins s σ H Q I hq
  refine wpAny_List_spliced (thn (h pos pins s σ H _ I hq) fun us s1 ⟨xs, H1, I1, r, z, q⟩ => ⟨by rw [← r.length]; exact z, ?_⟩)
  have hf : H1 s1.heap.objs.size = none := I1.hok.fresh (Nat.le_refl _)
  refine ⟨.ref s1.heap.objs.size, upd H1 s1.heap.objs.size (.lst xs), I1.laid (t' := s1.toks) (fun b u e => Heap.get?_push_of_some _ e) (Nat.le_refl _) ?_, rfl, q _ hf⟩
  exact ⟨z, us, 0, r, Heap.get?_push_size _ rfl⟩
end
noncomputable abbrev Sp := List V → Hp → VK → XK → Prop
noncomputable abbrev CXT := List Env → Hp → Shared → XK → Value → Shared → Prop
structure Env0 (P : Program) (w : World) (K : PySem.W.Frag) (mg : Str → Option Value) (base : Heap) (A : Around) (outer : List Env) (s : Shared) (H : Hp) : Prop where
  frames : A.frames = some outer
  mod : Mod K mg base
  bs : ∀ b o, base.get? b = some o → s.heap.get? b = some o ∧ H b = none
  bsz : base.objs.size ≤ s.heap.objs.size
  funs : s.heap.FunFrames base outer
  frf : ∀ b ∈ frs outer, H b = none
  hok : HOk P w H s.heap
  bare : AllBare s.gens
noncomputable def CE (outer : List Env) (P : Program) (w : World) (H : Hp) (s : Shared) (Q : VK) (u : Value) (s' : Shared) : Prop :=
  ∃ v H', s'.os = s.os ∧ AllBare s'.gens ∧ Un (frs outer) [] H H' s.heap s'.heap ∧ HOk P w H' s'.heap ∧ RelV v u ∧ Q v H'
noncomputable def CR (CX : CXT) (outer : List Env) (P : Program) (w : World) (H : Hp) (s : Shared) (Q : VK) (E : XK) (r : Result) (s' : Shared) : Prop :=
  match r with
  | .ok (.ret u) => CE outer P w H s Q u s'
  | .ok _ => False
  | .error e => CX outer H s E e s'
structure FnOk (P : Program) (w : World) (K : PySem.W.Frag) (mg : Str → Option Value) (base : Heap) (CX : CXT) (k : Nat) (f : Addr) (fd : FuncData) (ps : List Str) (sp : Sp) : Prop where
  len : ∀ vs H Q E, sp vs H Q E → vs.length = ps.length
  run : ∀ (A : Around) (outer : List Env) (s : Shared) (H : Hp) (args : Args) (us : List Value) (vs : List V) (Q : VK) (E : XK), Room k A → Env0 P w K mg base A outer s H → BindsTo s fd args (ps.zip us) → Vals vs us → sp vs H Q E →
    codeAny (model P w) A (.call (.ref f) args) (CR CX outer P w H s Q E) s
theorem FnOk.mono {P : Program} {w : World} {K : PySem.W.Frag} {mg : Str → Option Value} {base : Heap} {CX : CXT} {j k : Nat} {f : Addr} {fd : FuncData} {ps : List Str} {sp : Sp} (F : FnOk P w K mg base CX j f fd ps sp) (h : j ≤ k) :
    FnOk P w K mg base CX k f fd ps sp := ⟨F.len, fun A outer s H args us vs Q E hr => F.run A outer s H args us vs Q E (hr.mono h)⟩
theorem Env0.make {P : Program} {w : World} {K : PySem.W.Frag} {mg : Str → Option Value} {base : Heap} {A : Around} {outer : List Env} {s : Shared} {H : Hp} (e : Env0 P w K mg base A outer s H) (C : Addr) (us : List Value) (kw : List (Str × Value)) :
    Env0 P w K mg base (A.under (.builtin "type.__call__" ⟨.ref C :: us, kw⟩)) outer s H := ⟨by first | exact e.frames | (simpa [Around.under, Code.envs, Code.isFrame, pushEnvs] using e.frames), e.mod, e.bs, e.bsz, e.funs, e.frf, e.hok, e.bare⟩
section
variable {X : Cx} {pins : List (Addr × Obj)} {σ : St} {H : Hp} {s s' : Shared}
theorem Inv.env0 (I : Inv X pins σ H s) : Env0 X.prog X.w X.K X.mg X.base X.A X.stack s H :=
  ⟨I.ok.frames, I.ok.mod, I.bs, Nat.le_trans I.ok.bsz I.sz, I.stack, I.stkFree, I.hok, I.bare⟩
theorem Inv.after {Q : VK} {u : Value} (I : Inv X pins σ H s) (h : CE X.stack X.prog X.w H s Q u s') : EP X pins σ Q u s' := by
  obtain ⟨v, H', os, bare, un, hok, r, q⟩ := h
  obtain ⟨hh, g, d, t, os'⟩ := s'
  obtain rfl : os' = s.os := os
  exact ⟨v, H', I.call (h' := hh) (g' := g) (d' := d) (t' := t) (ch := []) un hok bare (fun b z => absurd z (by simp)), r, q⟩
end
noncomputable def tCall (sp : Sp) (dvs : List V) (E : XK) (t : TA) : TE := fun σ H Q => t σ H fun vs H1 => sp (vs ++ dvs) H1 Q E
inductive MethI (C : Addr) (m : Str) (x : V) (H : Hp) (R : Prop) : Prop
  | mk (a dx : Addr) (fs : List (Str × V)) (e : x = .ref a) (h : H a = some (.ins C dx fs)) (l : fs.lookup m = none) (q : R) : MethI C m x H R
noncomputable def tMeth (C : Addr) (m : Str) (sp : Sp) (dvs : List V) (E : XK) (ta : TE) (t : TA) : TE := fun σ H Q => ta σ H fun x H1 => MethI C m x H1 (t σ H1 fun vs H2 => sp (x :: (vs ++ dvs)) H2 Q E)
noncomputable def tMake (C : Addr) (sp : Sp) (dvs : List V) (E : XK) (t : TA) : TE := fun σ H Q => t σ H fun vs H1 => ∀ x dx, H1 x = none → H1 dx = none → dx ≠ x →
  sp (.ref x :: (vs ++ dvs)) (upd (upd H1 dx (.own x)) x (.ins C dx [])) (fun v H2 => v = .non ∧ Q (.ref x) H2) E
noncomputable def Binds (K : PySem.W.Frag) (fd : FuncData) (ps : List Str) (ds : List Value) : Prop :=
  ∀ (s : Shared) (us : List Value), K.In s.heap → (us ++ ds).length = ps.length → BindsTo s fd ⟨us, []⟩ (ps.zip (us ++ ds))
theorem Binds.all {K : PySem.W.Frag} {fd : FuncData} {ps : List Str} (h : ∀ us : List Value, us.length = ps.length → bindArgs fd ⟨us, []⟩ = pure (ps.zip us)) : Binds K fd ps [] := fun s us _ hl => by
  rw [List.append_nil] at hl ⊢
  exact .of_eq (h us hl)
noncomputable def Passes (CX : CXT) (X : Cx) (E : XK) : Prop := ∀ (pins : List (Addr × Obj)) (σ : St) (H : Hp) (s : Shared) (e : Value) (s' : Shared), Inv X pins σ H s → CX X.stack H s E e s' → X.xe e s'
section
variable {X : Cx} {CX : CXT} {k : Nat} {f C : Addr} {fd : FuncData} {ps : List Str} {sp : Sp} {dvs : List V} {ds : List Value} {E : XK} {x m : Str} {p pos apos : Pos} {e o : Expr} {es : List Expr} {ta : TE} {t : TA}
theorem run_fn {pins : List (Addr × Obj)} {σ : St} {H : Hp} {s : Shared} {Q : VK} {us : List Value} {vs : List V} (F : FnOk X.prog X.w X.K X.mg X.base CX k f fd ps sp) (hr : Room k X.A) (hb : Binds X.K fd ps ds) (hd : Vals dvs ds) (hx : Passes CX X E)
    (I : Inv X pins σ H s) (r : Vals vs us) (h : sp (vs ++ dvs) H Q E) : wpAny (model X.prog X.w) X.A (call (.ref f) us) (EP X pins σ Q) X.xe s := by
  have r2 : Vals (vs ++ dvs) (us ++ ds) := r.append hd
  have hl : (us ++ ds).length = ps.length := by rw [← r2.length]; exact F.len _ _ _ _ h
  refine wpAny_call (codeAny_mono (F.run X.A X.stack s H ⟨us, []⟩ (us ++ ds) (vs ++ dvs) Q E hr I.env0 (hb s us I.kIn hl) r2 h) fun r s' hq => ?_)
  cases r with
  | error e => exact hx pins σ H s e s' I hq
  | ok fl =>
    cases fl with
    | ret u => exact I.after hq
    | next => exact False.elim hq
    | brk => exact False.elim hq
    | cont => exact False.elim hq
theorem pe_call (F : FnOk X.prog X.w X.K X.mg X.base CX k f fd ps sp) (hr : Room k X.A) (hg : Gl X x) (hm : X.mg x = some (.ref f)) (hk : PySem.W.keepIn X.K (.ref f) = true) (hb : Binds X.K fd ps ds) (hd : Vals dvs ds) (hx : Passes CX X E)
    (ha : PA X (e :: es) t) (hdb : (x == ("__debug__" : Str)) = false := by decide) (he : starEach (e :: es) X.env = (false, eval e X.env) :: starEach es X.env := by rfl) (hpl : (backTo pos (starEach es X.env)).any (·.1) = false := by rfl) :
    PE X (.Call (.Name x p) (e :: es) [] pos) (tCall sp dvs E t) := by
  intro pins s σ H Q I h
  refine wpAny_Call_Name_kw (ld_glob I hg hm ?_ hdb)
  refine PySem.W.callWith_K (h₀ := X.base) I.ok.mod.kin hk (thn (ha pos pins s σ H _ I h) fun us s1 ⟨vs, H1, I1, r, q⟩ => ⟨I1.kIn, ?_⟩) he hpl
  exact run_fn F hr hb hd hx I1 r q
theorem pe_meth {pl : Sem Bool} (he : PE X o ta) (c : Cls X.K C) (hm : Meth X.K C m f) (F : FnOk X.prog X.w X.K X.mg X.base CX k f fd ps sp) (hr : Room k X.A) (hb : Binds X.K fd ps ds) (hd : Vals dvs ds) (hx : Passes CX X E) (ha : PA X (e :: es) t)
    (hst : starEach (e :: es) X.env = (false, eval e X.env) :: starEach es X.env := by rfl) (hpl : (backTo pos (starEach es X.env)).any (·.1) = false := by rfl)
    (ht : eval (.Call (.Attribute o m apos) (e :: es) [] pos) X.env = (do
      let ov ← eval o X.env
      standAt apos.atName
      let (f, first) ← holding [ov] (getMethod ov m pl)
      callWith pos f first (backTo pos (starEach (e :: es) X.env)) (backToKw pos (keywordEach [] X.env))) := by rfl) :
    PE X (.Call (.Attribute o m apos) (e :: es) [] pos) (tMeth C m sp dvs E ta t) := by
  intro pins s σ H Q I h
  refine PySem.W.methodCall_KW (pl := pl) (thn (he pins s σ H _ I h) fun u s1 ⟨x, H1, I1, rx, a, dx, fs, ex, ea, l, q⟩ => ?_) ht
  subst ex
  obtain rfl : u = Value.ref a := rx
  refine getmeth_ok I1 ea c hm l ?_
  refine PySem.W.callWith_K (first := [.ref a]) (h₀ := X.base) I.ok.mod.kin hm.kp (thn (ha pos pins s1 σ H1 _ I1 q) fun us s2 ⟨vs, H2, I2, r, q2⟩ => ⟨I2.kIn, ?_⟩) hst hpl
  exact run_fn (us := .ref a :: us) (vs := .ref a :: vs) F hr hb hd hx I2 (.cons rfl r) q2
structure Mk (K : PySem.W.Frag) (C f : Addr) : Prop where
  makes : PySem.W.makesIn K C = true
  init : PySem.W.findIn K (.ref C) "__init__" = some (some (.ref f))
  fn : PySem.W.isFn K (.ref f) = true
  kp : PySem.W.keepIn K (.ref C) = true
theorem run_make {pins : List (Addr × Obj)} {σ : St} {H : Hp} {s : Shared} {Q : VK} {us : List Value} {vs : List V} (M : Mk X.K C f) (F : FnOk X.prog X.w X.K X.mg X.base CX k f fd ps sp) (hr : Room (k + 1) X.A) (hb : Binds X.K fd ps ds) (hd : Vals dvs ds)
    (hx : Passes CX X E) (I : Inv X pins σ H s) (r : Vals vs us)
    (h : ∀ x dx, H x = none → H dx = none → dx ≠ x → sp (.ref x :: (vs ++ dvs)) (upd (upd H dx (.own x)) x (.ins C dx [])) (fun v H2 => v = .non ∧ Q (.ref x) H2) E) :
    wpAny (model X.prog X.w) X.A (call (.ref C) us) (EP X pins σ Q) X.xe s := by
  have hq := h (s.heap.objs.size + 1) s.heap.objs.size (I.hok.fresh (Nat.le_succ _)) (I.hok.fresh (Nat.le_refl _)) (Nat.ne_of_lt (Nat.lt_succ_self _))
  have I2 := Inv.made (C := C) I
  have r2 : Vals (V.ref (s.heap.objs.size + 1) :: (vs ++ dvs)) (Value.ref (s.heap.objs.size + 1) :: (us ++ ds)) := .cons rfl (r.append hd)
  have hl : (Value.ref (s.heap.objs.size + 1) :: us ++ ds).length = ps.length := by
    have e := r2.length
    rw [F.len _ _ _ _ hq] at e
    exact e.symm
  refine wpAny_call (make_map (f := f) I.kIn M.makes M.init (beq_iff_eq.mp M.fn) (codeAny_mono (F.run _ X.stack _ _ ⟨Value.ref (s.heap.objs.size + 1) :: us, []⟩ (Value.ref (s.heap.objs.size + 1) :: (us ++ ds)) _ _ E (hr.make C us [])
    (I2.env0.make C us []) (hb _ (Value.ref (s.heap.objs.size + 1) :: us) I2.kIn hl) r2 hq) fun r s' hq' => ?_))
  cases r with
  | error e => exact hx pins σ _ _ e s' I2 hq'
  | ok fl =>
    cases fl with
    | ret u =>
      obtain ⟨v, H', I3, rv, ev, q3⟩ := I2.after hq'
      subst ev
      exact ⟨rv, ⟨V.ref (s.heap.objs.size + 1), H', I3, rfl, q3⟩⟩
    | next => exact False.elim hq'
    | brk => exact False.elim hq'
    | cont => exact False.elim hq'
theorem pe_make (M : Mk X.K C f) (F : FnOk X.prog X.w X.K X.mg X.base CX k f fd ps sp) (hr : Room (k + 1) X.A) (hg : Gl X x) (hm : X.mg x = some (.ref C)) (hb : Binds X.K fd ps ds) (hd : Vals dvs ds) (hx : Passes CX X E)
    (ha : PA X (e :: es) t) (hdb : (x == ("__debug__" : Str)) = false := by decide) (he : starEach (e :: es) X.env = (false, eval e X.env) :: starEach es X.env := by rfl) (hpl : (backTo pos (starEach es X.env)).any (·.1) = false := by rfl) :
    PE X (.Call (.Name x p) (e :: es) [] pos) (tMake C sp dvs E t) := by
  intro pins s σ H Q I h
  refine wpAny_Call_Name_kw (ld_glob I hg hm ?_ hdb)
  refine PySem.W.callWith_K (h₀ := X.base) I.ok.mod.kin M.kp (thn (ha pos pins s σ H _ I h) fun us s1 ⟨vs, H1, I1, r, q⟩ => ⟨I1.kIn, ?_⟩) he hpl
  exact run_make M F hr hb hd hx I1 r q
theorem pe_make0 (M : Mk X.K C f) (F : FnOk X.prog X.w X.K X.mg X.base CX k f fd ps sp) (hr : Room (k + 1) X.A) (hg : Gl X x) (hm : X.mg x = some (.ref C)) (hb : Binds X.K fd ps ds) (hd : Vals dvs ds) (hx : Passes CX X E)
    (hdb : (x == ("__debug__" : Str)) = false := by decide) : PE X (.Call (.Name x p) [] [] pos) (tMake C sp dvs E tNil) := by
  intro pins s σ H Q I h
  refine wpAny_Call_Name_kw (ld_glob I hg hm ?_ hdb)
  exact PySem.W.callWith_K0 I.kIn M.kp (run_make (us := []) M F hr hb hd hx I .nil h)
end
section
variable {X : Cx} {CX : CXT} {k : Nat} {f C : Addr} {fd : FuncData} {ps ks : List Str} {sp : Sp} {E : XK} {x m : Str} {p pos apos kpos : Pos} {e o : Expr} {es : List Expr} {kws : List Keyword} {te ta : TE} {t tk : TA} {nm : Option Str}
variable {g : List Value → List Value → List Value} {gV : List V → List V → List V}
end
structure FnScope (N P : List Str) (sc : Scope) : Prop where
  kind : sc.kind = .function
  co : sc.isCoroutine = false
  gen : sc.isGenerator = false
  nd : N.Nodup
  pre : N.take P.length = P
  par : ∀ x ∈ P, sc.names.lookup x = some .local ∨ sc.names.lookup x = some .cell
  nofree : ∀ y ∈ sc.names, y.2 ≠ .free
theorem bindL_out {kindOf : Str → Option NameKind} {x : Str} : ∀ {binds : List (Str × Value)} {m : Str → Option Value}, (∀ v, (x, v) ∉ binds) → bindL kindOf binds m x = m x
  | [], _, _ => rfl
  | (n, v) :: r, m, h => by
    unfold bindL
    rw [bindL_out fun w hw => h w (List.mem_cons_of_mem _ hw)]
    split
    · have : x ≠ n := by rintro rfl; exact h v List.mem_cons_self
      simp [this]
    · rfl
theorem bindC_out {kindOf : Str → Option NameKind} {x : Str} : ∀ {binds : List (Str × Value)} {m : Str → Option Value}, (∀ v, (x, v) ∉ binds) → bindC kindOf binds m x = m x
  | [], _, _ => rfl
  | (n, v) :: r, m, h => by
    unfold bindC
    rw [bindC_out fun w hw => h w (List.mem_cons_of_mem _ hw)]
    split
    · rfl
    · have : x ≠ n := by rintro rfl; exact h v List.mem_cons_self
      simp [this]
theorem bindL_get {kindOf : Str → Option NameKind} {x : Str} {v : Value} : ∀ {P : List Str} {vs : List Value} {i : Nat} {m : Str → Option Value}, P.Nodup → P[i]? = some x → vs[i]? = some v → kindOf x = some .local →
    bindL kindOf (P.zip vs) m x = some v
  | [], _, _, _, _, h, _, _ => by simp at h
  | _ :: _, [], _, _, _, _, h, _ => by simp at h
  | p :: P, w :: vs, 0, m, nd, h1, h2, hk => by
    simp at h1 h2; subst h1; subst h2
    show bindL kindOf ((p, w) :: P.zip vs) m p = _
    unfold bindL
    rw [bindL_out fun v hv => (List.nodup_cons.mp nd).1 (List.of_mem_zip hv).1, if_pos hk]
    simp
  | p :: P, w :: vs, i + 1, m, nd, h1, h2, hk => by
    show bindL kindOf ((p, w) :: P.zip vs) m x = _
    unfold bindL
    exact bindL_get (i := i) (List.nodup_cons.mp nd).2 (by simpa using h1) (by simpa using h2) hk
theorem bindC_get {kindOf : Str → Option NameKind} {x : Str} {v : Value} : ∀ {P : List Str} {vs : List Value} {i : Nat} {m : Str → Option Value}, P.Nodup → P[i]? = some x → vs[i]? = some v → kindOf x ≠ some .local →
    bindC kindOf (P.zip vs) m x = some v
  | [], _, _, _, _, h, _, _ => by simp at h
  | _ :: _, [], _, _, _, _, h, _ => by simp at h
  | p :: P, w :: vs, 0, m, nd, h1, h2, hk => by
    simp at h1 h2; subst h1; subst h2
    show bindC kindOf ((p, w) :: P.zip vs) m p = _
    unfold bindC
    rw [bindC_out fun v hv => (List.nodup_cons.mp nd).1 (List.of_mem_zip hv).1, if_neg hk]
    simp
  | p :: P, w :: vs, i + 1, m, nd, h1, h2, hk => by
    show bindC kindOf ((p, w) :: P.zip vs) m x = _
    unfold bindC
    exact bindC_get (i := i) (List.nodup_cons.mp nd).2 (by simpa using h1) (by simpa using h2) hk
noncomputable def start (N : List Str) (vs : List V) : St := vs.map some ++ List.replicate (N.length - vs.length) none
noncomputable def cxOf (CX : CXT) (P : Program) (w : World) (K : PySem.W.Frag) (mg : Str → Option Value) (base : Heap) (N : List Str) (qual : Str) (scope : Scope) (f : Addr) (cd : Value) (A : Around) (outer : List Env) (s : Shared) (H : Hp) (E : XK) : Cx where
  prog := P
  w := w
  K := K
  mg := mg
  base := base
  A := A.deeper (envOfC qual scope s.heap.objs.size f cd)
  N := N
  s_0 := s
  H_0 := H
  env := envOfC qual scope s.heap.objs.size f cd
  outer := outer
  stack := envOfC qual scope s.heap.objs.size f cd :: outer
  ex := []
  calm := true
  fn := fun _ => true
  pn := []
  xe := fun e s' => wpAny (model P w) (A.deeper (envOfC qual scope s.heap.objs.size f cd)) (leaving (envOfC qual scope s.heap.objs.size f cd) e) (fun _ s'' => CX outer H s E e s'') (fun e' s'' => CX outer H s E e' s'') s'
theorem cell_has {sc : Scope} {n : Nat} {x : Str} (h : sc.names.lookup x = some .cell) : ∃ c, (cellsFrom n sc.names []).lookup x = some c := by
  have q := PySem.W.cellsFrom_some sc.names n [] (.inl h)
  exact Option.isSome_iff_exists.mp q
theorem inv_start {CX : CXT} {P : Program} {w : World} {K : PySem.W.Frag} {mg : Str → Option Value} {base : Heap} {N ps : List Str} {qual : Str} {scope : Scope} {f : Addr} {cd : Value} {A : Around} {outer : List Env} {s s1 : Shared} {H : Hp} {E : XK} {us : List Value} {vs : List V}
    (S : FnScope N ps scope) (hd : A.handled = none) (e0 : Env0 P w K mg base A outer s H) (hl : vs.length = ps.length) (r : Vals vs us)
    (x : InCallC s s.heap.objs.size (bindL (envOfC qual scope s.heap.objs.size f cd).kindOf (ps.zip us) fun _ => none) (cellsFrom (s.heap.objs.size + 1) scope.names []) (bindC (envOfC qual scope s.heap.objs.size f cd).kindOf (ps.zip us) fun _ => none) s1) :
    Inv (cxOf CX P w K mg base N qual scope f cd A outer s H E) [] (start N vs) H s1 := by
  have hpl : ps.length ≤ N.length := by have := congrArg List.length S.pre; rw [List.length_take] at this; omega
  obtain ⟨h1, tk, rfl, hk⟩ := x.done
  have noA : ∀ b : Addr, b ∉ (cxOf CX P w K mg base N qual scope f cd A outer s H E).ex := fun b z => absurd (show b ∈ ([] : List Addr) from z) (by simp)
  refine ⟨⟨e0.mod, S.kind, rfl, rfl, Nat.le_refl _, fun y z c h1 h2 => ?_, fun y hy => ?_, fun y c _ h => ?_, fun _ => hd, Around.frames_deeper e0.frames, .inr ⟨rfl, rfl⟩, fun b z => absurd z (noA b), e0.bs, e0.bsz, fun b _ _ => noA b, fun b z => absurd z (noA b), e0.funs, e0.frf⟩,
    rfl, e0.bare, Un.kept hk, ⟨_, x.toInCall.ns, fun i y v h1 h2 h3 => ?_⟩, fun y c h => ⟨_, x.cell y c h⟩, e0.hok.fresh (Nat.le_refl _), fun y c h => ?_, fun p hp => absurd (show p ∈ ([] : List (Addr × Obj)) from hp) (by simp), e0.hok.kept hk, ?_⟩
  · exact name_of_addr x.apart (PySem.mem_of_lookup h1) (PySem.mem_of_lookup h2)
  · have hy : scope.names.lookup y = some .cell ∨ scope.names.lookup y = some .free := hy
    rcases hy with hy | hy
    · exact cell_has hy
    · exact absurd rfl (S.nofree _ (PySem.mem_of_lookup hy))
  · exact Nat.le_of_lt (x.above y c (PySem.mem_of_lookup h))
  · have hi : i < vs.length := by
      unfold start at h2
      by_cases hi : i < vs.length
      · exact hi
      · rw [List.getElem?_append_right (by simpa using hi)] at h2
        rw [List.getElem?_replicate] at h2
        split at h2 <;> cases h2
    have ha : vs[i]? = some v := by
      unfold start at h2
      rw [List.getElem?_append_left (by simpa using hi), List.getElem?_map] at h2
      cases e : vs[i]? with
      | none => rw [e] at h2; cases h2
      | some a => rw [e] at h2; cases h2; rfl
    obtain ⟨u, hu, rv⟩ := r.get ha
    have hp : ps[i]? = some y := by
      rw [← S.pre, List.getElem?_take_of_lt (by omega)]; exact h1
    have ndP : ps.Nodup := by rw [← S.pre]; exact S.nd.sublist (List.take_sublist _ _)
    refine ⟨u, rv, ?_⟩
    rcases S.par y (List.mem_of_getElem? hp) with k | k
    · exact .inl ⟨k, bindL_get ndP hp hu k⟩
    · obtain ⟨c, e⟩ := cell_has (n := s.heap.objs.size + 1) k
      refine .inr ⟨.inl k, c, e, ?_⟩
      have q := x.cell y c e
      rw [bindC_get ndP hp hu (by show scope.names.lookup y ≠ _; rw [k]; decide)] at q
      exact q
  · exact e0.hok.fresh (Nat.le_of_lt (x.above y c (PySem.mem_of_lookup h)))
  · unfold start
    show _ = N.length
    rw [List.length_append, List.length_map, List.length_replicate]
    omega
theorem fn_of {CX : CXT} {P : Program} {w : World} {K : PySem.W.Frag} {mg : Str → Option Value} {base : Heap} {k : Nat} {f : Addr} {name qual : Str} {params : Arguments} {body : List Stmt} {scope : Scope} {dV kV doc pm cdv ct oc : Value} {an od : Option Addr}
    {osl : Array (Option Value)} {N ps : List Str} {sp : Sp} (lk : K.lookup f = some ⟨oc, od, .func (PySem.W.fnOf name qual params body scope dV kV doc pm an cdv ct), osl⟩) (hcd : PySem.W.codeIn K cdv qual = true) (S : FnScope N ps scope)
    (len : ∀ vs H Q E, sp vs H Q E → vs.length = ps.length)
    (hbody : ∀ (A : Around) (outer : List Env) (s : Shared) (H : Hp) (vs : List V) (Q : VK) (E : XK), Room k (A.deeper (envOfC qual scope s.heap.objs.size f cdv)) → sp vs H Q E →
      ∃ t, PSs (cxOf CX P w K mg base N qual scope f cdv A outer s H E) body t ∧ t { nx := fun _ H' => Q .non H', rt := Q } (start N vs) H) :
    FnOk P w K mg base CX (k + 1) f (PySem.W.fnOf name qual params body scope dV kV doc pm an cdv ct) ps sp := by
  refine ⟨len, fun A outer s H args us vs Q E hr e0 hb r hsp => ?_⟩
  have hl := len _ _ _ _ hsp
  have KX : K.In s.heap := e0.mod.kin.keeps fun b o e => (e0.bs b o e).1
  have lim : s.heap.NoLimit := e0.mod.nolimit.keeps fun b o e => (e0.bs b o e).1
  have hkind : ∀ y ∈ ps.zip us, scope.names.lookup y.1 = some .local ∨ (scope.names.lookup y.1 = some .cell ∧ ((cellsFrom (s.heap.objs.size + 1) scope.names []).lookup y.1).isSome = true) := fun ⟨n, v⟩ hy => by
    rcases S.par n (List.of_mem_zip hy).1 with q | q
    · exact .inl q
    · exact .inr ⟨q, PySem.W.cellsFrom_some _ _ _ (.inl q)⟩
  refine codeAny_call_function hr.depth (KX _ _ lk) rfl S.co S.gen rfl (PySem.W.codeRec_of KX hcd) (hb _ _ _ _ ?_)
  refine wpAny_newFunctionEnv_cells S.kind hkind fun env he s1 x => ?_
  subst he
  refine ⟨lim.keeps x.toInCall.keep, codeAny_func ?_⟩
  obtain ⟨t, ht, hq⟩ := hbody A outer s H vs Q E (hr.deeper _) hsp
  have I : Inv (cxOf CX P w K mg base N qual scope f cdv A outer s H E) [] (start N vs) H s1 := inv_start S hr.hd e0 hl r x
  refine wpAny_mono (ht [] s1 (start N vs) H _ I hq) (fun fl s' hs => ?_) fun e s' hs => hs
  have fin : ∀ {σ' : St} {H' : Hp} {v : V} {u : Value}, Inv (cxOf CX P w K mg base N qual scope f cdv A outer s H E) [] σ' H' s' → RelV v u → Q v H' → CE outer P w H s Q u s' :=
    fun {σ' H' v u} J rv q => ⟨v, H', J.os, J.bare, J.base, J.hok, rv, q⟩
  cases fl with
  | ret u =>
    obtain ⟨v, σ', H', J, rv, q⟩ := hs
    exact fin J rv q
  | next =>
    obtain ⟨σ', H', J, q⟩ := hs
    exact fin (v := V.non) (u := Value.none) J rfl q
  | brk =>
    obtain ⟨_, _, _, q⟩ := hs
    exact False.elim q
  | cont =>
    obtain ⟨_, _, _, q⟩ := hs
    exact False.elim q
end L2
namespace L2
open PySem PySem.Spec PyProof.Rows
section
variable {X : Cx} {x : Str} {p pos : Pos} {e : Expr} {es : List Expr} {t : TA} {id T : String} {r : List V → Hp → VK → Prop}
noncomputable def tCB (r : List V → Hp → VK → Prop) (t : TA) : TE := fun σ H Q => t σ H fun vs H1 => r vs H1 Q
theorem pe_callB (hc : CallR X (.builtin id) r) (hg : Gl X x) (hm : X.mg x = none) (hv : bootBuiltins x = some (.builtin id)) (ha : PA X (e :: es) t) (hn : x ≠ "__name__" := by decide) (hdb : (x == ("__debug__" : Str)) = false := by decide)
    (he : starEach (e :: es) X.env = (false, eval e X.env) :: starEach es X.env := by rfl) (hpl : (backTo pos (starEach es X.env)).any (·.1) = false := by rfl) : PE X (.Call (.Name x p) (e :: es) [] pos) (tCB r t) := by
  intro pins s σ H Q I h
  refine wpAny_Call_Name_kw (ld_blt I hg hm hv ?_ hn hdb)
  exact PyProof.Rows.callWith_builtin1 (thn (ha pos pins s σ H _ I h) fun us s1 ⟨vs, H1, I1, r1, q1⟩ => hc pins s1 σ H1 vs us Q I1 r1 q1) he hpl
end
end L2
namespace HT
open PySem PyProof.Rows
section
open PySem.SeqAt
open PySem.AutoSeq1 (wpAny_loadPart')
open PySem.MeetsSeq PySem.MeetsSeq2 PySem.MeetsSeq3
end
section
variable {prog : Program} {w : World} {A : Around} {E : Value → Shared → Prop} {s : Shared}
noncomputable def sIx (n d : Nat) : Option Int → Nat
  | none => d
  | some v => (max 0 (min (if v < 0 then v + (n : Int) else v) (n : Int))).toNat
theorem sIx_nat (n d k : Nat) : sIx n d (some (k : Int)) = min k n := by
  show (max 0 (min (if (k : Int) < 0 then (k : Int) + (n : Int) else (k : Int)) (n : Int))).toNat = min k n
  rw [if_neg (Int.not_lt.mpr (Int.natCast_nonneg k))]
  rcases Nat.le_total k n with h | h
  · rw [Int.min_eq_left (Int.ofNat_le.mpr h), Nat.min_eq_left h, Int.max_eq_right (Int.natCast_nonneg _), Int.toNat_natCast]
  · rw [Int.min_eq_right (Int.ofNat_le.mpr h), Nat.min_eq_right h, Int.max_eq_right (Int.natCast_nonneg _), Int.toNat_natCast]
end
end HT
namespace L2
open PySem PySem.Spec PyProof.Rows
noncomputable abbrev TO := St → Hp → (Option Int → Hp → Prop) → Prop
noncomputable def PO (X : Cx) (e : Option Expr) (t : TO) : Prop :=
  ∀ (pins : List (Addr × Obj)) (s : Shared) (σ : St) (H : Hp) (Q : Option Int → Hp → Prop), Inv X pins σ H s → t σ H Q →
    wpAny (model X.prog X.w) X.A (evalPart e X.env) (fun u s' => ∃ o H', Inv X pins σ H' s' ∧ IsPart u o ∧ Q o H') X.xe s
noncomputable def tNoPart : TO := fun _ H Q => Q none H
noncomputable def tPart (t : TE) : TO := fun σ H Q => t σ H fun x H1 => PtI x H1 Q
section
variable {X : Cx} {e : Expr} {te : TE} {lo hi : Option Expr} {tl th : TO} {pos p2 : Pos}
theorem po_none : PO X none tNoPart := by
  intro pins s σ H Q I h
  rw [evalPart_none]
  exact wpAny_pure ⟨none, H, I, .none, h⟩
theorem po_some (h : PE X e te) : PO X (some e) (tPart te) := by
  intro pins s σ H Q I hw
  rw [evalPart_some]
  refine thn (h pins s σ H _ I hw) fun u s1 ⟨x, H1, I1, r1, q1⟩ => ?_
  obtain ⟨i, rfl, q⟩ := q1
  obtain ⟨t, rfl⟩ := r1
  exact ⟨some i, H1, I1, .int i t, q⟩
noncomputable def SlR (X : Cx) (r : V → Option Int → Option Int → Hp → VK → Prop) : Prop :=
  ∀ (pins : List (Addr × Obj)) (s : Shared) (σ : St) (H : Hp) (x : V) (v vl vu : Value) (lo hi : Option Int) (sl : Addr) (Q : VK), Inv X pins σ H s → RelV x v → s.heap.IsSliceOf sl vl vu .none → IsPart vl lo → IsPart vu hi → r x lo hi H Q →
    ∃ T id, typeLookup (.type T) "__getitem__" = pure (some (.builtin id)) ∧ s.TypeIs v T ∧ wpAny (model X.prog X.w) X.A (getItem v (.ref sl)) (EP X pins σ Q) X.xe s
noncomputable def tSl (r : V → Option Int → Option Int → Hp → VK → Prop) (te : TE) (tl th : TO) : TE := fun σ H Q => te σ H fun x H1 => tl σ H1 fun l H2 => th σ H2 fun u H3 => r x l u H3 Q
theorem pe_slice {r : V → Option Int → Option Int → Hp → VK → Prop} (hr : SlR X r) (he : PE X e te) (hl : PO X lo tl) (hu : PO X hi th) : PE X (.Subscript e (.Slice lo hi none p2) pos) (tSl r te tl th) := by
  intro pins s σ H Q I h
  refine Subscript_ (thn (he pins s σ H _ I h) fun v s1 ⟨x, H1, I1, r1, q1⟩ => ?_)
  refine wpAny_Slice (thn (hl pins s1 σ H1 _ I1 q1) fun vl s2 ⟨l, H2, I2, pl, q2⟩ => thn (hu pins s2 σ H2 _ I2 q2) fun vu s3 ⟨u, H3, I3, pu, q3⟩ => ?_)
  rw [evalPart_none]
  refine wpAny_pure ?_
  have I4 : Inv X pins σ H3 { s3 with heap := s3.heap.push { cls := .type "slice", data := .fields #[vl, vu, .none] } } := I3.kept (t' := s3.toks) fun b ob q => Heap.get?_push_of_some _ q
  obtain ⟨T, id, hT, ht, hg⟩ := hr pins { s3 with heap := s3.heap.push { cls := .type "slice", data := .fields #[vl, vu, .none] } } σ H3 x v vl vu l u s3.heap.objs.size Q I4 r1 (Heap.IsSliceOf.new ..) pl pu q3
  show wpAny (model X.prog X.w) X.A (subscriptTail e (.Slice lo hi none p2) v (.ref s3.heap.objs.size)) (EP X pins σ Q) X.xe { s3 with heap := s3.heap.push { cls := .type "slice", data := .fields #[vl, vu, .none] } }
  exact tail_any (ops := [.ref s3.heap.objs.size, v]) ht hT hg (by with_unfolding_all rfl)
noncomputable def cutV (xs : List V) (lo hi : Option Int) : List V := (xs.drop (HT.sIx xs.length 0 lo)).take (HT.sIx xs.length xs.length hi - HT.sIx xs.length 0 lo)
theorem cutV_length (xs : List V) (lo hi : Option Int) : (cutV xs lo hi).length ≤ xs.length := Nat.le_trans (List.length_take_le' _ _) (by rw [List.length_drop]; exact Nat.sub_le _ _)
end
end L2
namespace L2
open PySem PySem.Spec PyProof.Rows
noncomputable def atI {α : Type} (xs : List α) : Int → Option α
  | .ofNat j => xs[j]?
  | .negSucc _ => none
theorem atI_nat {α : Type} {xs : List α} {j : Nat} {v : α} (h : xs[j]? = some v) : atI xs (j : Int) = some v := h
theorem lt63 {xs : List V} {j : Nat} {z : V} (he : xs[j]? = some z) (hz : xs.length ≤ sizeLine) : ((j : Nat) : Int) < 2 ^ 63 := Int.ofNat_lt.mpr (Nat.lt_trans (Nat.lt_of_lt_of_le (List.getElem?_eq_some_iff.mp he).1 hz) line63)
noncomputable def PlainIx (b : Expr) : Prop := ∀ o i, subscripted b false o i = operate [o, i] (getItem o i)
noncomputable def IxR (X : Cx) (r : R2) : Prop :=
  ∀ (value slice : Expr) (pins : List (Addr × Obj)) (s : Shared) (σ : St) (H : Hp) (x y : V) (v u : Value) (Q : VK), Inv X pins σ H s → RelV x v → RelV y u → r x y H Q →
    subscripted slice false v u = operate [v, u] (getItem v u) → wpAny (model X.prog X.w) X.A (subscriptTail value slice v u) (EP X pins σ Q) X.xe s
noncomputable def MtR (X : Cx) (id : String) (r : V → List V → Hp → VK → Prop) : Prop :=
  ∀ (pins : List (Addr × Obj)) (s : Shared) (σ : St) (H : Hp) (x : V) (xs : List V) (v : Value) (us : List Value) (Q : VK), Inv X pins σ H s → RelV x v → Vals xs us → r x xs H Q →
    wpAny (model X.prog X.w) X.A (call (.builtin id) (v :: us)) (EP X pins σ Q) X.xe s
section
variable {X : Cx} {a b : Expr} {ta tb : TE} {pos : Pos}
theorem pe_ix {r : R2} (hr : IxR X r) (ha : PE X a ta) (hb : PE X b tb) (hs : PlainIx b) : PE X (.Subscript a b pos) (tOp r ta tb) := by
  intro pins s σ H Q I h
  exact Subscript_ (binT ha hb I h fun v u s2 x y H2 I2 rx ry q => hr a b pins s2 σ H2 x y v u Q I2 rx ry q (hs _ _))
inductive IrIxL (K : PySem.W.Frag) (x y : V) (H : Hp) (Q : VK) : Prop
  | mk (p : Addr) (xs : List V) (i : Int) (v : V) (e : x = .ref p) (e2 : y = .int i) (s : SqL K H p xs) (a : atI xs i = some v) (q : Q v H) : IrIxL K x y H Q
noncomputable def rIxL (K : PySem.W.Frag) : R2 := fun x y H Q => IrIxL K x y H Q
inductive IrIxT (K : PySem.W.Frag) (x y : V) (H : Hp) (Q : VK) : Prop
  | mk (p : Addr) (xs : List V) (i : Int) (v : V) (e : x = .ref p) (e2 : y = .int i) (s : SqT K H p xs) (a : atI xs i = some v) (q : Q v H) : IrIxT K x y H Q
noncomputable def rIxT (K : PySem.W.Frag) : R2 := fun x y H Q => IrIxT K x y H Q
theorem ix_list : IxR X (rIxL X.K) := by
  intro value slice pins s σ H x y v u Q I rx ry h hs
  obtain ⟨p, xs, i, z, rfl, rfl, hq, he, q⟩ := h
  cases i with
  | ofNat j =>
    cases rx
    obtain ⟨t, rfl⟩ := ry
    obtain ⟨its, r, pl, hz⟩ := I.list hq
    obtain ⟨w, ew, rw'⟩ := r.get he
    exact item_listR pl.isList (Int.natCast_nonneg j) (lt63 he hz) ((List.getElem?_toArray ..).trans ew) ⟨z, H, I, rw', q⟩ hs
  | negSucc j => cases he
theorem ix_tup : IxR X (rIxT X.K) := by
  intro value slice pins s σ H x y v u Q I rx ry h hs
  obtain ⟨p, xs, i, z, rfl, rfl, hq, he, q⟩ := h
  cases i with
  | ofNat j =>
    cases rx
    obtain ⟨t, rfl⟩ := ry
    obtain ⟨its, r, pl, hz⟩ := I.tuple hq
    obtain ⟨w, ew, rw'⟩ := r.get he
    exact subscriptTail_builtinR (x := w) pl.typeIs slot_tuple_getitem.lookup
      (getItem_tuple (j := j) (Q := fun r s' => r = w ∧ EP X pins σ Q r s') pl (Int.le_trans (by decide) (Int.natCast_nonneg j)) (lt63 he hz) (seqIndex_of (Int.natCast_nonneg j) (Int.ofNat_lt.mpr (List.getElem?_eq_some_iff.mp ew).1)) ((List.getElem?_toArray ..).trans ew) ⟨rfl, z, H, I, rw', q⟩) hs
  | negSucc j => cases he
theorem slice_bounds (lo hi : Option Int) (n : Nat) : (sliceBounds lo hi none n).1 = ((HT.sIx n 0 lo : Nat) : Int) ∧ (sliceBounds lo hi none n).2.1 = ((HT.sIx n n hi : Nat) : Int) ∧ (sliceBounds lo hi none n).2.2 = 1 := by
  refine ⟨?_, ?_, rfl⟩
  · cases lo with
    | none => rfl
    | some i => exact (Int.toNat_of_nonneg (Int.le_max_left _ _)).symm
  · cases hi with
    | none => rfl
    | some i => exact (Int.toNat_of_nonneg (Int.le_max_left _ _)).symm
theorem slicePick_cut (its : List Value) (lo hi : Option Int) : slicePick its.toArray lo hi none = ((its.drop (HT.sIx its.length 0 lo)).take (HT.sIx its.length its.length hi - HT.sIx its.length 0 lo)).toArray := by
  obtain ⟨h1, h2, h3⟩ := slice_bounds lo hi its.toArray.size
  unfold slicePick
  rw [h1, h2, h3]
  simp only [sliceRange_one, pick_run, List.size_toArray] <;> rfl
inductive SlI (K : PySem.W.Frag) (x : V) (lo hi : Option Int) (H : Hp) (Q : VK) : Prop
  | mk (a : Addr) (xs : List V) (e : x = .ref a) (s : SqL K H a xs) (q : ∀ p, H p = none → Q (.ref p) (upd H p (.lst (cutV xs lo hi)))) : SlI K x lo hi H Q
noncomputable def rSlL (K : PySem.W.Frag) : V → Option Int → Option Int → Hp → VK → Prop := fun x lo hi H Q => SlI K x lo hi H Q
theorem sl_list : SlR X (rSlL X.K) := by
  intro pins s σ H x v vl vu lo hi sl Q I rx hs pl pu h
  obtain ⟨a, xs, rfl, hx, q⟩ := h
  cases rx
  obtain ⟨its, r, ht, hz⟩ := I.list hx
  have hlen := r.length
  refine ⟨"list", _, slot_list_getitem.lookup, ht.isList.typeIs, ?_⟩
  refine wpAny_getItem_list_slice ht.isList hs pl pu .none (by simp) ?_ (by rw [List.size_toArray] <;> omega)
  rw [slicePick_cut, ← hlen]
  refine ⟨.ref s.heap.objs.size, _, I.laid (t' := s.toks) (o := .lst (cutV xs lo hi)) (fun b ob q => Heap.get?_push_of_some _ q) (Nat.le_refl _) ?_, rfl, q _ (I.hok.fresh (Nat.le_refl _))⟩
  exact ⟨Nat.le_trans (cutV_length xs lo hi) hz, _, 0, (r.drop (HT.sIx xs.length 0 lo)).take (HT.sIx xs.length xs.length hi - HT.sIx xs.length 0 lo), Heap.get?_push_size _ rfl⟩
inductive LenI (K : PySem.W.Frag) (xs : List V) (H : Hp) (Q : VK) : Prop
  | mk (p : Addr) (ys : List V) (e : xs = [.ref p]) (s : SqL K H p ys ∨ SqT K H p ys) (q : Q (.int ys.length) H) : LenI K xs H Q
theorem call_len_seq : CallR X (.builtin "len") (LenI X.K) := by
  intro pins s σ H xs us Q I r h
  obtain ⟨p, ys, rfl, hq, q⟩ := h
  obtain ⟨u, rfl, rx⟩ := vals1 r
  cases rx
  have hn := line63
  rcases hq with hq | hq
  · obtain ⟨its, r', pl, hz⟩ := I.list hq
    have hlen := r'.length
    exact Calls.call_len_list pl.isList (by simp only [List.size_toArray] <;> omega) ⟨.int ys.length, H, I.tok _, ⟨s.toks + 1, by rw [List.size_toArray, hlen]⟩, q⟩
  · obtain ⟨its, r', pl, hz⟩ := I.tuple hq
    have hlen := r'.length
    exact len_tuple pl (by simp only [List.size_toArray] <;> omega) ⟨.int ys.length, H, I.tok _, ⟨s.toks + 1, by rw [List.size_toArray, hlen]⟩, q⟩
noncomputable def tyV (K : PySem.W.Frag) (T : String) (x : V) (H : Hp) : Prop := match x with
  | .ref p => T = "list" ∧ ∃ xs, SqL K H p xs
  | _ => False
theorem tyV_is {pins : List (Addr × Obj)} {σ : St} {H : Hp} {s : Shared} {T : String} {x : V} {v : Value} (I : Inv X pins σ H s) (r : RelV x v) (ty : tyV X.K T x H) :
    s.TypeIs v T ∧ ∀ a, v = .ref a → ∃ ob, s.heap.get? a = some ob ∧ ob.dict = none := by
  cases x with
  | ref p =>
    cases r
    obtain ⟨rfl, xs, hq⟩ := ty
    obtain ⟨its, _, pl, _⟩ := I.list hq
    refine ⟨pl.isList.typeIs, fun a e => ?_⟩
    cases e
    obtain ⟨o, n, e, c, hd, _⟩ := pl
    exact ⟨o, e, hd⟩
  | _ => exact False.elim ty
noncomputable def tBM (K : PySem.W.Frag) (T : String) (r : V → List V → Hp → VK → Prop) (to : TE) (t : TA) : TE := fun σ H Q => to σ H fun x H1 => tyV K T x H1 ∧ t σ H1 fun xs H2 => r x xs H2 Q
variable {o e : Expr} {es : List Expr} {to : TE} {t : TA} {name : Str} {apos cpos : Pos} {T id : String} {r : V → List V → Hp → VK → Prop}
theorem pe_bm (pa : PlainAttrs T) (slot : Slot T name id) (hty : typeOf (.builtin id) = pure (.type "method_descriptor")) (hm : MtR X id r) (ho : PE X o to) (ha : PA X (e :: es) t)
    (hbase : attributeBase o name X.env (eval o X.env) = eval o X.env := by rfl)
    (hfew : ((backTo cpos (starEach (e :: es) X.env)).all (fun x => !x.1) && (backToKw cpos (keywordEach [] X.env)).all (fun x => x.1.isSome)
      && decide ((e :: es).length + ([] : List Keyword).length + (if ([] : List Keyword).isEmpty then 0 else 1) < 30)) = true := by rfl)
    (hline : (apos.endLine == cpos.line) = true := by rfl) (hs : starEach (e :: es) X.env = (false, eval e X.env) :: starEach es X.env := by rfl) (hplain : (backTo cpos (starEach es X.env)).any (·.1) = false := by rfl) :
    PE X (.Call (.Attribute o name apos) (e :: es) [] cpos) (tBM X.K T r to t) := by
  intro pins s σ H Q I h
  refine wpAny_Call_method_late hbase hfew hline rfl (thn (ho pins s σ H _ I h) fun v s1 ⟨x, H1, I1, r1, ty, q1⟩ => ?_)
  obtain ⟨h1, h2⟩ := tyV_is I1 r1 ty
  refine ⟨T, id, pa, slot, hty, h1, h2, ?_⟩
  have hA := ha cpos pins s1 σ H1 _ I1 q1
  rw [hs] at hA ⊢
  refine Calls.callWith_builtin (by show (false || (backTo cpos (starEach es X.env)).any (·.1)) = false; rw [hplain] <;> rfl) (Calls.evalArgs_plain ?_)
  exact thn hA fun us s2 ⟨vs, H2, I2, r2, q2⟩ => hm pins s2 σ H2 x vs v us Q I2 r1 r2 q2
end
end L2
namespace L2
open PySem PySem.Spec PyProof.Rows
noncomputable def MtM (X : Cx) (id : String) (r : V → List V → Hp → VK → Prop) : Prop :=
  ∀ (pins : List (Addr × Obj)) (s : Shared) (σ : St) (H : Hp) (x : V) (xs : List V) (v : Value) (us : List Value) (Q : VK), Inv X pins σ H s → RelV x v → Vals xs us → r x xs H Q →
    wpAny (model X.prog X.w) X.A (call (.builtin id) (v :: us)) (EP X pins σ Q) X.xe s
theorem Vals.one {x : V} {us : List Value} (r : Vals [x] us) : ∃ u, us = [u] ∧ RelV x u := vals1 r
section
variable {X : Cx} {pins : List (Addr × Obj)} {σ : St} {H : Hp} {s : Shared} {l b : Addr} {xs ys zs : List V}
theorem Inv.lset {its its' : List Value} {n : Nat} {f : Array Value → Array Value} {t' : Nat} (I : Inv X pins σ H s) (hH : H l = some (.lst xs))
    (e : s.heap.get? l = some { cls := .type "list", data := .seq its.toArray n }) (hf : f its.toArray = its'.toArray) (hv : Vals ys its') (hz : ys.length ≤ sizeLine) :
    Inv X pins σ (upd H l (.lst ys)) { s with heap := s.heap.update l (Obj.mapSeq f), toks := t' } := by
  have q := PySem.IsL.update e f
  rw [hf] at q
  refine I.write (x := l) (e := l) (by rw [hH]; exact trivial) (.inl rfl) (fun b' u hb hu => (Heap.get?_update_other s.heap (Obj.mapSeq f) (Ne.symm hb)).trans hu) ⟨_, q⟩ ?_
  exact ⟨hz, its', _, hv, q⟩
theorem Inv.lnew {its : List Value} {t' : Nat} (I : Inv X pins σ H s) (hv : Vals ys its) (hz : ys.length ≤ sizeLine) :
    Inv X pins σ (upd H s.heap.objs.size (.lst ys)) { s with heap := s.heap.push { cls := .type "list", data := .seq its.toArray }, toks := t' } :=
  I.laid (fun _ _ q => Heap.get?_push_of_some _ q) (Nat.le_refl _) ⟨hz, its, 0, hv, Heap.get?_push_size _ rfl⟩
theorem Inv.fresh (I : Inv X pins σ H s) : H s.heap.objs.size = none := I.hok.fresh (Nat.le_refl _)
theorem Inv.lstM (I : Inv X pins σ H s) (hH : H l = some (.lst xs)) : xs.length ≤ sizeLine ∧ ∃ (its : List Value) (n : Nat), Vals xs its ∧ xs.length = its.length ∧ s.heap.get? l = some { cls := .type "list", data := .seq its.toArray n } := by
  obtain ⟨z, its, n, r, e⟩ := I.hok l _ hH
  exact ⟨z, its, n, r, r.length, e⟩
theorem notLongL {n : Nat} (h : n ≤ sizeLine) : Builtin.List.listTooLong n = false := by
  unfold Builtin.List.listTooLong
  exact decide_eq_false (by omega)
end
section
variable {X : Cx}
noncomputable def rAppend : V → List V → Hp → VK → Prop := fun x vs H Q => ApI x vs H Q
theorem mt_append : MtM X "list.append" rAppend := by
  intro pins s σ H x vs v us Q I rx rv h
  obtain ⟨l, xs, y, rfl, rfl, hH, hz, q⟩ := h
  cases rx
  obtain ⟨u, rfl, ru⟩ := rv.one
  obtain ⟨z, its, n, r, hl, e⟩ := I.lstM hH
  refine call_meets F.slot_list_append ⟨_, e, rfl⟩ F.entry_list_append (F.args_list_append_2 _ _) (PySem.list_append l its.toArray n u (by rw [List.size_toArray]; omega)) ⟨e, ?_⟩
  refine ⟨.non, _, I.lset (its' := its ++ [u]) hH e (by simp) (r.append (.cons ru .nil)) ?_, rfl, q⟩
  rw [List.length_append, List.length_singleton]
  omega
noncomputable def rExtend : V → List V → Hp → VK → Prop := fun x vs H Q => ExI x vs H Q
theorem mt_extend : MtM X "list.extend" rExtend := by
  intro pins s σ H x vs v us Q I rx rv h
  obtain ⟨l, b, xs, zs, rfl, rfl, hH, hB, hz, q⟩ := h
  cases rx
  obtain ⟨u, rfl, ru⟩ := rv.one
  cases ru
  obtain ⟨z, its, n, r, hl, e⟩ := I.lstM hH
  obtain ⟨z2, its2, n2, r2, hl2, e2⟩ := I.lstM hB
  have hsz : its.toArray.size + its2.toArray.size ≤ sizeLine := by rw [List.size_toArray, List.size_toArray]; omega
  have hlong : ¬ (!its.toArray.isEmpty && Builtin.List.listTooLong (its.toArray.size + its2.toArray.size)) = true := by
    rw [notLongL hsz, Bool.and_false]
    exact Bool.false_ne_true
  refine call_meets F.slot_list_extend ⟨_, e, rfl⟩ F.entry_list_extend (F.args_list_extend_2 _ _)
    (AutoSeq1.list_extend_list_list_0 l its.toArray n b its2.toArray n2 hlong (by rw [List.size_toArray]; omega) (by omega)) ⟨e, e2, ?_⟩
  refine ⟨.non, _, I.lset (its' := its ++ its2) hH e (by simp) (r.append r2) ?_, rfl, q⟩
  rw [List.length_append]
  omega
noncomputable def rCat : R2 := fun x y H Q => CaI x y H Q
theorem op_cat : OpR X (binaryOp .Add) rCat := by
  intro pins s σ H x y v u Q I rx ry h
  obtain ⟨l, b, xs, zs, rfl, rfl, hH, hB, hz, q⟩ := h
  cases rx
  cases ry
  obtain ⟨z, its, n, r, hl, e⟩ := I.lstM hH
  obtain ⟨z2, its2, n2, r2, hl2, e2⟩ := I.lstM hB
  refine PySem.P.add_list e e2 ?_ (by rw [List.size_toArray, List.size_toArray]; omega)
  have ea : its.toArray ++ its2.toArray = (its ++ its2).toArray := by simp
  rw [ea]
  exact ⟨.ref _, _, I.lnew (t' := s.toks) (r.append r2) (by rw [List.length_append]; omega), rfl, q _ I.fresh⟩
end
section
variable {prog : Program} {w : World} {A : Around} {E : Value → Shared → Prop} {s : Shared}
set_option maxRecDepth 100000 in
end
section
variable {X : Cx}
end
end L2
namespace L2
open PySem PySem.Spec PyProof.Rows
theorem vals_of_ints : ∀ {us : List Value} {ns : List Int}, IntsAre us ns → Vals (ns.map V.int) us
  | _, _, .nil => by rw [List.map_nil]; exact Paired.nil
  | _, _, .cons n t h => by rw [List.map_cons]; exact Paired.cons (show RelV (V.int n) (Value.int n t) from ⟨t, rfl⟩) (vals_of_ints h)
theorem Vals.ref1 {a : Addr} {us : List Value} (r : Vals [V.ref a] us) : us = [Value.ref a] := by
  cases r with
  | cons r t =>
    cases t
    cases r
    rfl
section
variable {prog : Program} {w : World} {A : Around} {E : Value → Shared → Prop} {s : Shared} {l : Addr} {its : List Value} {ns : List Int} {Q : Value → Shared → Prop}
end
section
variable {X : Cx}
end
section
variable {X : Cx}
end
section
variable {X : Cx}
end
section
variable {X : Cx}
end
section
variable {X : Cx}
end
end L2
namespace L2
open PySem PySem.Spec PyProof.Rows
noncomputable abbrev CellAt (h : Heap) (c : Addr) (v : Option Value) : Prop := h.IsCell c v
noncomputable def relF (sc : Scope) : Str × NameKind → Str × NameKind := fun (n, k) => if (k == .free && sc.kind == .function && sc.names.lookup n == some .cell) then (n, .cell) else (n, k)
noncomputable def relS (scope sc : Scope) : Scope := { scope with names := scope.names.map (relF sc) }
noncomputable def cloFrom (cells : List (Str × Addr)) : List (Str × NameKind) → List (Str × Addr) → List (Str × Addr)
  | [], acc => acc
  | (n, k) :: r, acc => if k == .free then cloFrom cells r ((n, (cells.lookup n).getD 0) :: acc) else cloFrom cells r acc
theorem closure_loop (env : Env) (f : Str × NameKind → List (Str × Addr) → Sem (ForInStep (List (Str × Addr))))
    (hf : ∀ n k c, f (n, k) c = if k == .free then (do let a ← cellOf env n; pure (.yield ((n, a) :: c))) else pure (.yield c)) :
    ∀ (names : List (Str × NameKind)) (acc : List (Str × Addr)), (∀ y ∈ names, y.2 = .free → ∃ c, env.cells.lookup y.1 = some c) → forIn names acc f = pure (cloFrom env.cells names acc)
  | [], acc, _ => by rw [List.forIn_nil]; rfl
  | (n, k) :: r, acc, h => by
    rw [List.forIn_cons, hf]
    have ih := fun acc => closure_loop env f hf r acc fun y hy => h y (List.mem_cons_of_mem _ hy)
    unfold cloFrom
    by_cases hk : (k == NameKind.free) = true
    · rw [if_pos hk, if_pos hk]
      obtain ⟨c, hc⟩ := h (n, k) List.mem_cons_self (by simpa using hk)
      have e : cellOf env n = pure c := by unfold cellOf; rw [hc]
      rw [e]
      have e2 : (env.cells.lookup n).getD 0 = c := by rw [hc]; rfl
      rw [e2]
      exact ih _
    · rw [if_neg hk, if_neg hk]
      exact ih _
theorem closure_ok {scope : Scope} {env : Env} (h : ∀ y ∈ scope.names, y.2 = .free → ∃ c, env.cells.lookup y.1 = some c) : closureFor scope env = pure (cloFrom env.cells scope.names []) := by
  simp only [closureFor]
  rw [closure_loop env _ (fun n k c => rfl) scope.names [] h]
  rfl
theorem mem_lookup {α : Type} {l : List (Str × α)} {n : Str} {c : α} (h : (n, c) ∈ l) : ∃ c', l.lookup n = some c' := by
  induction l with
  | nil => cases h
  | cons p r ih =>
    rw [List.lookup_cons]
    cases hb : n == p.1 with
    | true => exact ⟨_, rfl⟩
    | false =>
      rcases List.mem_cons.mp h with e | h
      · rw [← e, beq_self_eq_true] at hb; cases hb
      · exact ih h
theorem cloFrom_mem {cells : List (Str × Addr)} : ∀ {names : List (Str × NameKind)} {acc : List (Str × Addr)} {n : Str} {c : Addr}, (n, c) ∈ cloFrom cells names acc → (n, c) ∈ acc ∨ ((n, .free) ∈ names ∧ c = (cells.lookup n).getD 0)
  | [], _, _, _, h => .inl h
  | (m, k) :: r, acc, n, c, h => by
    unfold cloFrom at h
    split at h
    · rename_i hk
      have hk : k = .free := by simpa using hk
      rcases cloFrom_mem h with h | ⟨h1, h2⟩
      · rcases List.mem_cons.mp h with e | h
        · cases e; exact .inr ⟨hk ▸ List.mem_cons_self, rfl⟩
        · exact .inl h
      · exact .inr ⟨List.mem_cons_of_mem _ h1, h2⟩
    · rcases cloFrom_mem h with h | ⟨h1, h2⟩
      · exact .inl h
      · exact .inr ⟨List.mem_cons_of_mem _ h1, h2⟩
theorem cloFrom_acc {cells : List (Str × Addr)} : ∀ {names : List (Str × NameKind)} {acc : List (Str × Addr)} {p : Str × Addr}, p ∈ acc → p ∈ cloFrom cells names acc
  | [], _, _, h => h
  | (m, k) :: r, acc, p, h => by
    unfold cloFrom
    split
    · exact cloFrom_acc (List.mem_cons_of_mem _ h)
    · exact cloFrom_acc h
theorem cloFrom_has {cells : List (Str × Addr)} : ∀ {names : List (Str × NameKind)} {acc : List (Str × Addr)} {n : Str}, (n, .free) ∈ names → (n, (cells.lookup n).getD 0) ∈ cloFrom cells names acc
  | (m, k) :: r, acc, n, h => by
    unfold cloFrom
    rcases List.mem_cons.mp h with e | h
    · cases e
      exact cloFrom_acc List.mem_cons_self
    · split
      · exact cloFrom_has h
      · exact cloFrom_has h
theorem cells_mem : ∀ {names : List (Str × NameKind)} {h : Heap} {acc : List (Str × Addr)} {x : Str} {c : Addr}, (x, c) ∈ cellsFrom h.objs.size names acc →
    (x, c) ∈ acc ∨ ((x, .cell) ∈ names ∧ h.objs.size ≤ c ∧ CellAt (pushCells h names) c none)
  | [], _, _, _, _, h => .inl h
  | (n, k) :: r, h, acc, x, c, hm => by
    unfold cellsFrom at hm
    unfold pushCells
    split at hm
    · rename_i hk
      rw [if_pos hk]
      have hk : k = .cell := by simpa using hk
      rw [← Heap.size_push h { cls := .type "cell", data := .cell none }] at hm
      rcases cells_mem hm with hm | ⟨h1, h2, h3⟩
      · rcases List.mem_cons.mp hm with e | hm
        · cases e
          exact .inr ⟨hk ▸ List.mem_cons_self, Nat.le_refl _, _, pushCells_keeps r _ _ _ (Heap.get?_push_size _ rfl), rfl⟩
        · exact .inl hm
      · rw [Heap.size_push] at h2
        exact .inr ⟨List.mem_cons_of_mem _ h1, Nat.le_of_succ_le h2, h3⟩
    · rename_i hk
      rw [if_neg hk]
      rcases cells_mem hm with hm | ⟨h1, h2, h3⟩
      · exact .inl hm
      · exact .inr ⟨List.mem_cons_of_mem _ h1, h2, h3⟩
theorem cells_acc : ∀ {names : List (Str × NameKind)} {n : Nat} {acc : List (Str × Addr)} {p : Str × Addr}, p ∈ acc → p ∈ cellsFrom n names acc
  | [], _, _, _, h => h
  | (m, k) :: r, n, acc, p, h => by
    unfold cellsFrom
    split
    · exact cells_acc (List.mem_cons_of_mem _ h)
    · exact cells_acc h
theorem cells_has : ∀ {names : List (Str × NameKind)} {n : Nat} {acc : List (Str × Addr)} {x : Str}, (x, .cell) ∈ names → ∃ c, (x, c) ∈ cellsFrom n names acc
  | (m, k) :: r, n, acc, x, h => by
    unfold cellsFrom
    rcases List.mem_cons.mp h with e | h
    · cases e
      exact ⟨n, cells_acc List.mem_cons_self⟩
    · split
      · exact cells_has h
      · exact cells_has h
theorem cells_inj : ∀ {names : List (Str × NameKind)} {h : Heap} {acc : List (Str × Addr)} {x y : Str} {c : Addr}, (∀ p ∈ acc, p.2 < h.objs.size) → (∀ x y c, (x, c) ∈ acc → (y, c) ∈ acc → x = y) →
    (x, c) ∈ cellsFrom h.objs.size names acc → (y, c) ∈ cellsFrom h.objs.size names acc → x = y
  | [], _, _, _, _, _, _, hi, h1, h2 => hi _ _ _ h1 h2
  | (n, k) :: r, h, acc, x, y, c, hl, hi, h1, h2 => by
    unfold cellsFrom at h1 h2
    split at h1
    · rename_i hk
      rw [if_pos hk] at h2
      rw [← Heap.size_push h { cls := .type "cell", data := .cell none }] at h1 h2
      refine cells_inj (h := h.push _) (fun p hp => ?_) (fun x y c a b => ?_) h1 h2
      · rw [Heap.size_push]
        rcases List.mem_cons.mp hp with rfl | hp
        · exact Nat.lt_succ_self _
        · exact Nat.lt_succ_of_lt (hl p hp)
      · rcases List.mem_cons.mp a with e | a <;> rcases List.mem_cons.mp b with e' | b
        · cases e; cases e'; rfl
        · cases e; exact absurd (hl _ b) (Nat.lt_irrefl _)
        · cases e'; exact absurd (hl _ a) (Nat.lt_irrefl _)
        · exact hi _ _ _ a b
    · rename_i hk
      rw [if_neg hk] at h2
      exact cells_inj hl hi h1 h2
theorem newEnv_comp {M : Model} {A : Around} {E : Value → Shared → Prop} {s : Shared} {scope : Scope} {globals : Addr} {closure : List (Str × Addr)} {qual : Str} {func : Option Addr} {code : Value} {around : Env} {builtins : Addr} {Q : Env → Shared → Prop}
    (h : Q (newEnv scope s.heap.objs.size globals (cellsFrom (s.heap.objs.size + 1) scope.names closure) qual func code (some around) builtins)
      { s with heap := pushCells (s.heap.push { cls := .type "dict", data := .dict #[] }) scope.names }) :
    wpAny M A (newFunctionEnv scope globals closure [] qual func code (some around) builtins) Q E s := by
  simp only [newFunctionEnv, Option.isSome_some, if_true]
  refine wpAny_bind (wpAny_alloc ?_)
  refine wpAny_bind (wpAny_layCells _ (fun n k c => rfl) scope.names closure _ _ ?_)
  rw [show ({ s with heap := s.heap.push { cls := .type "dict", data := .dict #[] } } : Shared).heap.objs.size = s.heap.objs.size + 1 from Heap.size_push ..]
  rw [List.forIn_nil]
  exact wpAny_bind (wpAny_pure (wpAny_pure h))
theorem relF_eq {sc : Scope} {n : Str} {k : NameKind} : ∃ k', relF sc (n, k) = (n, k') ∧ (k' = k ∨ (k = .free ∧ k' = .cell)) := by
  unfold relF
  by_cases h : (k == .free && sc.kind == .function && sc.names.lookup n == some .cell) = true
  · rw [Bool.and_eq_true, Bool.and_eq_true] at h
    exact ⟨.cell, if_pos (by rw [Bool.and_eq_true, Bool.and_eq_true]; exact h), .inr ⟨eq_of_beq h.1.1, rfl⟩⟩
  · exact ⟨k, if_neg h, .inl rfl⟩
theorem lookup_relS {sc : Scope} {names : List (Str × NameKind)} {x : Str} {k : NameKind} (h : (names.map (relF sc)).lookup x = some k) : ∃ k', names.lookup x = some k' ∧ (k = k' ∨ (k' = .free ∧ k = .cell)) := by
  induction names with
  | nil => cases h
  | cons p r ih =>
    obtain ⟨k', e, q⟩ := relF_eq (sc := sc) (n := p.1) (k := p.2)
    rw [List.map_cons, show relF sc p = (p.1, k') from e, List.lookup_cons] at h
    rw [List.lookup_cons]
    cases hx : x == p.1 with
    | true => rw [hx] at h; exact ⟨p.2, rfl, Option.some.inj h ▸ q⟩
    | false => rw [hx] at h; exact ih h
structure BlkOk (N : List Str) (sc scope : Scope) (own : List (Str × Nat)) : Prop where
  kind : scope.kind = .function
  uniq : ∀ y ∈ scope.names, scope.names.lookup y.1 = some y.2
  ix : ∀ p ∈ own, N[p.2]? = some p.1
  free : ∀ y ∈ scope.names, y.2 = .free → sc.names.lookup y.1 = some .cell ∨ sc.names.lookup y.1 = some .free
  own : ∀ y ∈ scope.names, y.2 = .local ∨ y.2 = .cell → y.1 ∈ own.map (·.1) ∨ y.1 ∉ N
noncomputable def wipe (σ : St) : List Nat → St
  | [] => σ
  | v :: vs => (wipe σ vs).set v none
theorem wipe_length (σ : St) : ∀ vs : List Nat, (wipe σ vs).length = σ.length
  | [] => rfl
  | v :: vs => by unfold wipe; rw [List.length_set, wipe_length σ vs]
theorem wipe_some {σ : St} {i : Nat} {x : V} : ∀ {vs : List Nat}, (wipe σ vs)[i]? = some (some x) → σ[i]? = some (some x) ∧ i ∉ vs
  | [], h => ⟨h, by simp⟩
  | v :: vs, h => by
    unfold wipe at h
    by_cases hi : v = i
    · subst hi
      by_cases hv : v < (wipe σ vs).length
      · rw [List.getElem?_set_self hv] at h; cases h
      · rw [List.getElem?_eq_none (by simpa using hv)] at h; cases h
    · rw [List.getElem?_set_ne hi] at h
      obtain ⟨h1, h2⟩ := wipe_some h
      exact ⟨h1, by simp only [List.mem_cons, not_or]; exact ⟨fun e => hi e.symm, h2⟩⟩
noncomputable abbrev Cx.blk (X : Cx) (s : Shared) (H : Hp) (scope : Scope) (cenv : Env) (fp : List Addr) : Cx := { X with s_0 := s, H_0 := H, env := cenv, outer := X.stack, ex := fp, fn := fun x => scope.names.lookup x == some .cell, pn := [], xe := fun _ _ => False }
section
variable {X : Cx} {pins : List (Addr × Obj)} {σ : St} {H : Hp} {s : Shared}
theorem block_start {scope : Scope} {own : List (Str × Nat)} {fp : List Addr} (I : Inv X pins σ H s) (ok : BlkOk X.N X.env.scope scope own) (hN : X.N.Nodup) (hfp : ∀ b ∈ fp, FpOk X pins H b ∧ b < s.heap.objs.size) :
    Inv (X.blk s H scope (compEnvC scope (cellsFrom (s.heap.objs.size + 1) scope.names (cloFrom X.env.cells scope.names [])) s.heap.objs.size X.env) fp) [] (wipe σ (own.map (·.2))) H { s with heap := pushCells (s.heap.push { cls := .type "dict", data := .dict #[] }) scope.names } := by
  have hfree : ∀ y ∈ scope.names, y.2 = .free → ∃ c, X.env.cells.lookup y.1 = some c := fun y hy e => by
    rcases ok.free y hy e with k | k
    · exact I.ok.has _ (.inl k)
    · exact I.ok.has _ (.inr k)
  generalize hcenv : compEnvC scope (cellsFrom (s.heap.objs.size + 1) scope.names (cloFrom X.env.cells scope.names [])) s.heap.objs.size X.env = cenv
  have kp : ∀ b o, s.heap.get? b = some o → (pushCells (s.heap.push { cls := .type "dict", data := .dict #[] }) scope.names).get? b = some o := fun b o e => pushCells_keeps _ _ _ _ (Heap.get?_push_of_some _ e)
  have hL : cenv.locals = s.heap.objs.size := by rw [← hcenv]; rfl
  have hcl : cenv.cells = cellsFrom (s.heap.objs.size + 1) scope.names (cloFrom X.env.cells scope.names []) := by rw [← hcenv]; rfl
  have hsc : cenv.scope = relS scope X.env.scope := by rw [← hcenv]; rfl
  rw [← Heap.size_push s.heap { cls := .type "dict", data := .dict #[] }] at hcl
  have cm : ∀ {y c}, (y, c) ∈ cloFrom X.env.cells scope.names [] → X.env.cells.lookup y = some c ∧ c < s.heap.objs.size := fun {y c} hm => by
    rcases cloFrom_mem hm with hm | ⟨h1, rfl⟩
    · cases hm
    · obtain ⟨c, hc⟩ := hfree _ h1 rfl
      rw [hc]
      obtain ⟨w, z⟩ := I.cell _ _ hc
      exact ⟨rfl, z.lt⟩
  have mem : ∀ {y c}, cenv.cells.lookup y = some c → (X.env.cells.lookup y = some c ∧ c < s.heap.objs.size) ∨ (s.heap.objs.size + 1 ≤ c ∧ CellAt (pushCells (s.heap.push { cls := .type "dict", data := .dict #[] }) scope.names) c none) := fun {y c} e => by
    rw [hcl] at e
    rcases cells_mem (PySem.mem_of_lookup e) with hm | ⟨_, h2, h3⟩
    · exact .inl (cm hm)
    · rw [Heap.size_push] at h2; exact .inr ⟨h2, h3⟩
  have look : ∀ {y}, scope.names.lookup y = some .free → ∃ c, cenv.cells.lookup y = some c ∧ X.env.cells.lookup y = some c := fun {y} hl => by
    have hy : (y, NameKind.free) ∈ scope.names := PySem.mem_of_lookup hl
    obtain ⟨c', e'⟩ := mem_lookup (cells_acc (names := scope.names) (n := (s.heap.push { cls := .type "dict", data := .dict #[] }).objs.size) (cloFrom_has (cells := X.env.cells) (acc := []) hy))
    rw [← hcl] at e'
    refine ⟨c', e', ?_⟩
    rw [hcl] at e'
    rcases cells_mem (PySem.mem_of_lookup e') with hm | ⟨h1, _, _⟩
    · exact (cm hm).1
    · have := ok.uniq _ h1
      rw [hl] at this; cases this
  have okB : (X.blk s H scope cenv fp).Ok := by
    refine ⟨I.ok.mod, by show cenv.scope.kind = _; rw [hsc]; exact ok.kind, by show cenv.globals = _; rw [← hcenv]; exact I.ok.glob, by show cenv.builtins = _; rw [← hcenv]; exact I.ok.blt, by show s.heap.objs.size ≤ cenv.locals; rw [hL]; exact Nat.le_refl _,
      fun y z c e1 e2 => ?_, fun y hy => ?_, fun y c z e => ?_, I.ok.hd, I.ok.frames, .inl rfl, fun b hb => ⟨?_, fun y c e z => ?_⟩, I.bs, Nat.le_trans I.ok.bsz I.sz, fun b o e hb => ?_, fun b hb z => ?_, I.stack, I.stkFree⟩
    · have e1 : cenv.cells.lookup y = some c := e1
      have e2 : cenv.cells.lookup z = some c := e2
      rw [hcl] at e1 e2
      refine cells_inj (fun p hp => ?_) (fun y z c a b => I.ok.inj y z c (cm a).1 (cm b).1) (PySem.mem_of_lookup e1) (PySem.mem_of_lookup e2)
      rw [Heap.size_push]
      exact Nat.lt_succ_of_lt (cm (y := p.1) (c := p.2) hp).2
    · show ∃ c, cenv.cells.lookup y = some c
      have key : ∀ k, cenv.kindOf y = some k → (k = .cell ∨ k = .free) → ∃ c, cenv.cells.lookup y = some c := fun k hk hk' => by
        unfold Env.kindOf at hk
        rw [hsc] at hk
        obtain ⟨k', e, r⟩ := lookup_relS hk
        have : k' = .cell ∨ k' = .free := by
          rcases r with rfl | ⟨rfl, _⟩
          · exact hk'
          · exact .inr rfl
        rcases this with rfl | rfl
        · obtain ⟨c, hm⟩ := cells_has (n := (s.heap.push { cls := .type "dict", data := .dict #[] }).objs.size) (acc := cloFrom X.env.cells scope.names []) (PySem.mem_of_lookup e)
          obtain ⟨c', e'⟩ := mem_lookup hm
          exact ⟨c', by rw [hcl]; exact e'⟩
        · obtain ⟨c, h1, _⟩ := look e
          exact ⟨c, h1⟩
      rcases hy with hy | hy
      · exact key _ hy (.inl rfl)
      · exact key _ hy (.inr rfl)
    · have z : (scope.names.lookup y == some NameKind.cell) = true := z
      have z : scope.names.lookup y = some .cell := by simpa using z
      have e : cenv.cells.lookup y = some c := e
      rw [hcl] at e
      rcases cells_mem (PySem.mem_of_lookup e) with hm | ⟨_, h2, _⟩
      · rcases cloFrom_mem hm with hm | ⟨h1, _⟩
        · cases hm
        · have q := ok.uniq _ h1
          rw [z] at q; cases q
      · rw [Heap.size_push] at h2
        exact Nat.le_of_succ_le h2
    · show b ≠ cenv.locals
      rw [hL]; exact Nat.ne_of_lt (hfp b hb).2
    · have e : cenv.cells.lookup y = some c := e
      rcases mem e with ⟨h1, _⟩ | ⟨h1, _⟩
      · exact (hfp b hb).1.2.2.2.2.1 y c h1 z
      · have h2 : s.heap.objs.size + 1 ≤ b := by rw [← z]; exact h1
        exact absurd (Nat.lt_of_lt_of_le (hfp b hb).2 (Nat.le_of_succ_le h2)) (Nat.lt_irrefl _)
    · rcases (hfp b hb).1.2.2.2.1 with z | z
      · exact I.ok.noex b o e z
      · exact absurd (Nat.lt_of_lt_of_le (Heap.lt_size e) (Nat.le_trans I.ok.bsz z)) (Nat.lt_irrefl _)
    · rcases List.mem_cons.mp (I.stkSub b z) with z | z
      · exact (hfp b hb).1.2.1 z
      · exact (hfp b hb).1.2.2.1 z
  refine ⟨okB, rfl, I.bare, Un.kept kp, ⟨fun _ => none, ?_, fun i y av e1 e2 e3 => ?_⟩, fun y c e => ?_, ?_, fun y c e => ?_, fun p hp => ?_, I.hok.kept kp, by rw [wipe_length]; exact I.len⟩
  · show Heap.Ns _ cenv.locals _
    rw [hL]
    exact Heap.Ns.keeps (Heap.Ns.new ..) fun b o e => pushCells_keeps _ _ _ _ e
  · obtain ⟨e2, hne⟩ := wipe_some e2
    have hfr : scope.names.lookup y = some .free ∧ (cenv.kindOf y = some .cell ∨ cenv.kindOf y = some .free) := by
      have key : ∀ k, cenv.scope.names.lookup y = some k → k = .local ∨ k = .cell ∨ k = .free → scope.names.lookup y = some .free ∧ (cenv.kindOf y = some .cell ∨ cenv.kindOf y = some .free) := fun k hk hk' => by
        have hk0 := hk
        rw [hsc] at hk
        obtain ⟨k', e, r⟩ := lookup_relS hk
        have no : ¬ (k' = .local ∨ k' = .cell) := fun hh => by
          rcases ok.own _ (PySem.mem_of_lookup e) hh with e' | e'
          · obtain ⟨p, hp, hpy⟩ := List.mem_map.mp e'
            have e3 := ok.ix p hp
            have : p.1 = y := hpy
            rw [this] at e3
            exact hne (List.mem_map.mpr ⟨p, hp, nodup_ix hN e3 e1⟩)
          · exact e' (List.mem_of_getElem? e1)
        rcases r with rfl | ⟨rfl, rfl⟩
        · rcases hk' with rfl | rfl | rfl
          · exact absurd (.inl rfl) no
          · exact absurd (.inr rfl) no
          · exact ⟨e, .inr hk0⟩
        · exact ⟨e, .inl hk0⟩
      have e3 : Vis cenv.scope y := e3
      rcases e3 with e3 | e3 | e3
      · exact key _ e3 (.inl rfl)
      · exact key _ e3 (.inr (.inl rfl))
      · exact key _ e3 (.inr (.inr rfl))
    obtain ⟨m, hn, hl⟩ := I.loc
    have hvis : Vis X.env.scope y := (ok.free _ (PySem.mem_of_lookup hfr.1) rfl).elim (fun k => .inr (.inl k)) (fun k => .inr (.inr k))
    obtain ⟨w, r, q⟩ := hl i y av e1 e2 hvis
    refine ⟨w, r, .inr ⟨hfr.2, ?_⟩⟩
    obtain ⟨c, h1, h2⟩ := look hfr.1
    rcases q with ⟨k, _⟩ | ⟨_, c', e', z⟩
    · have k : X.env.scope.names.lookup y = some .local := k
      rcases ok.free _ (PySem.mem_of_lookup hfr.1) rfl with k' | k' <;> rw [show X.env.scope.names.lookup y = _ from k'] at k <;> cases k
    · rw [h2] at e'; cases e'
      exact ⟨c, h1, z.keeps kp⟩
  · have e : cenv.cells.lookup y = some c := e
    rcases mem e with ⟨h1, _⟩ | ⟨_, z⟩
    · obtain ⟨w, z⟩ := I.cell y c h1
      exact ⟨w, z.keeps kp⟩
    · exact ⟨_, z⟩
  · show H cenv.locals = none
    rw [hL]; exact I.hok.fresh (Nat.le_refl _)
  · have e : cenv.cells.lookup y = some c := e
    rcases mem e with ⟨h1, _⟩ | ⟨h1, _⟩
    · exact I.freeC y c h1
    · exact I.hok.fresh (Nat.le_of_succ_le h1)
  · exact absurd (show p ∈ ([] : List (Addr × Obj)) ++ [] from hp) (by simp)
theorem app_ok {E : Value → Shared → Prop} {D : Addr} {xs : List V} {y : V} {v : Value} {Q : Value → Shared → Prop} (I : Inv X pins σ H s) (hD : H D = some (.lst xs)) (hz : xs.length < sizeLine) (r : RelV y v)
    (h : ∀ s', Inv X pins σ (upd H D (.lst (xs ++ [y]))) s' → Q .none s') : wpAny (model X.prog X.w) X.A (call (.builtin "list.append") [.ref D, v]) Q E s := by
  obtain ⟨hz', its, n, ri, e⟩ := I.hok D _ hD
  have hl := ri.length
  refine append_at (hsz := by rw [List.size_toArray]; omega) e fun h' sb ho' => ?_
  refine h { s with heap := h' } (I.write (t' := s.toks) (by rw [hD]; trivial) (.inl rfl) (fun b u hb q => (sb.2 b hb).trans q) ⟨_, ho'⟩ ⟨by rw [List.length_append]; exact hz, its ++ [v], n + 1, ri.append (.cons r .nil), ?_⟩)
  rw [ho']
  simp
noncomputable def PTs (X : Cx) (ifs : List Expr) (t : TT) : Prop :=
  ∀ (pins : List (Addr × Obj)) (s : Shared) (σ : St) (H : Hp) (Q : Bool → Hp → Prop), Inv X pins σ H s → t σ H Q →
    wpAny (model X.prog X.w) X.A (forIn ifs true fun c r => if r = true then do let ok ← isTrue c X.env (eval c X.env); pure (ForInStep.yield ok) else pure (ForInStep.yield r)) (TP X pins σ Q) X.xe s
theorem pts_one {c : Expr} {t : TT} (h : PT X c t) : PTs X [c] t := fun pins s σ H Q I hw => wpAny_tests_one (h pins s σ H Q I hw)
end
theorem thnX {α : Type} {t : Sem α} {Q Q' : α → Shared → Prop} {M : Model} {A : Around} {E E' : Value → Shared → Prop} {s : Shared} (hx : ∀ v s, E v s → False) (h : wpAny M A t Q E s) (hQ : ∀ a s, Q a s → Q' a s) : wpAny M A t Q' E' s := wpAny_mono h hQ fun v s z => (hx v s z).elim
theorem compLoop_any {prog : Program} {w : World} {A : Around} {R : Result → Shared → Prop} {s : Shared} {elt target iter : Expr} {ifs : List Expr} {scope : Scope} {pos : Pos} {it acc : Value} {env : Env} (I : Nat → Shared → Prop)
    (turn : ∀ n s, I n s → wpAny (model prog w) A (pyNext it) (fun r s₁ => match r with
      | none => R (.ok .next) s₁
      | some v => wpAny (model prog w) A (letOwnedTupleGo target it v) (fun _ s₁' => wpAny (model prog w) A (assign target env v) (fun _ s₂ =>
          wpAny (model prog w) A (forIn ifs true fun c r => if r = true then do let ok ← isTrue c env (eval c env); pure (ForInStep.yield ok) else pure (ForInStep.yield r)) (fun ok s₃ =>
            if ok = true then wpAny (model prog w) A (eval elt env) (fun x s₄ =>
              wpAny (model prog w) A (call (.builtin "list.append") [acc, x]) (fun _ s₅ => ∃ m, m < n ∧ I m s₅) (notedBy (model prog w) A env fun e s' => R (.error e) s') s₄) (notedBy (model prog w) A env fun e s' => R (.error e) s') s₃
            else ∃ m, m < n ∧ I m s₃) (notedBy (model prog w) A env fun e s' => R (.error e) s') s₂) (notedBy (model prog w) A env fun e s' => R (.error e) s') s₁') (notedBy (model prog w) A env fun e s' => R (.error e) s') s₁) (notedBy (model prog w) A env fun e s' => R (.error e) s') s)
    (n : Nat) (h : I n s) :
    codeAny (model prog w) A (.compLoop (.ListComp elt [⟨target, iter, ifs, 0⟩] scope pos) 0 it acc env) R s := by
  refine codeAny_loop rfl I (fun n s hI => ?_) n h
  show wpAny _ A ((compTurn (.ListComp elt [⟨target, iter, ifs, 0⟩] scope pos) 0 it acc env).onRaise (fun x => do noteFrame x env; theTreesLotGoes x)) _ _ s
  refine wpAny_noted ?_
  rw [compTurn_list]
  refine wpAny_bind (wpAny_standAt (wpAny_bind (wpAny_mono (turn n s hI) (fun r s₁ h₁ => ?_) fun _ _ h' => h')))
  cases r with
  | none => exact wpAny_pure h₁
  | some v =>
    refine wpAny_bind (wpAny_mono h₁ (fun _ s₁' h₁' => ?_) fun _ _ h' => h')
    refine wpAny_bind (wpAny_mono h₁' (fun _ s₂ h₂ => wpAny_bind (wpAny_mono h₂ (fun ok s₃ h₃ => ?_) fun _ _ h' => h')) fun _ _ h' => h')
    cases ok with
    | false => exact wpAny_pure ⟨rfl, h₃⟩
    | true =>
      exact wpAny_bind (wpAny_bind (wpAny_mono h₃ (fun x s₄ h₄ => wpAny_bind (wpAny_mono h₄ (fun _ s₅ h₅ => wpAny_pure (wpAny_pure ⟨rfl, h₅⟩)) fun _ _ h' => h')) fun _ _ h' => h'))
inductive LcA (D : Addr) (N : Hp → Prop) (y : V) (H : Hp) : Prop
  | mk (acc : List V) (e : H D = some (.lst acc)) (z : acc.length < sizeLine) (q : N (upd H D (.lst (acc ++ [y])))) : LcA D N y H
noncomputable def LcT (tt : TT) (te : TE) (vs : List Nat) (D : Addr) (σw : St) (N : Hp → Prop) : St → Hp → Prop := fun σ2 H2 => wipe σ2 vs = σw ∧ tt σ2 H2 fun b H3 => if b = true then te σ2 H3 (LcA D N) else N H3
inductive LcW (J : It) (g : TG) (tt : TT) (te : TE) (vs : List Nat) (D : Addr) (σw : St) (H : Hp) (Q : Hp → Prop) : Prop
  | mk (n : Nat) (Pv : Nat → Hp → Prop) (h0 : Pv 0 H) (go : ∀ i H, i < n → Pv i H → J.go i H) (hs : ∀ i H x H', i < n → Pv i H → J.yld i H x H' → g x σw H' (LcT tt te vs D σw (Pv (i + 1)))) (st : ∀ H, Pv n H → J.stop n H) (hd : ∀ H, Pv n H → Q H) : LcW J g tt te vs D σw H Q
noncomputable def tLc (wi : TI) (g : TG) (tt : TT) (te : TE) (vs : List Nat) : TE := fun σ H Q => wi σ H fun J H1 => ∀ D, H1 D = none → LcW J g tt te vs D (wipe σ vs) (upd H1 D (.lst [])) (Q (.ref D))
inductive LcI (Y : Cx) (tn : Nat → Heap → Prop) (Pv : Nat → Hp → Prop) (σw : St) (n m : Nat) (s' : Shared) : Prop
  | mk (i : Nat) (H' : Hp) (I : Inv Y [] σw H' s') (t : tn i s'.heap) (f : ∀ b ∈ Y.ex, H' b = none) (e : m + i = n) (p : Pv i H') : LcI Y tn Pv σw n m s'
section
variable {X : Cx} {tg elt iter : Expr} {ifs : List Expr} {scope : Scope} {pos : Pos} {g : TG} {tt : TT} {te : TE} {J : It} {it D : Addr} {tn : Nat → Heap → Prop} {Pv : Nat → Hp → Prop} {σ σw : St} {vs : List Nat} {n : Nat} {H : Hp} {s : Shared} {R : Result → Shared → Prop}
theorem Inv.stat (hp : X.pn = []) (I : Inv X [] σ H s) (hn : ∀ b ∈ X.ex, H b = none) : ∀ b ∈ X.ex, FpOk X [] H b := fun b hb =>
  ⟨hn b hb, (I.ok.exf b hb).1, I.ok.exfs b hb, .inl hb, (I.ok.exf b hb).2, fun p z => by rw [hp] at z; cases z⟩
theorem lc_again {h : Heap} {m i : Nat} (T : Turn X.prog X.w X.K tg J X.ex it tn) (st : tn (i + 1) h) (e : m + 1 + i = n) (hw : wipe σ vs = σw) (I : Inv X ([] ++ pinsAt X.ex h) σ H s) (p : Pv (i + 1) H) : ∃ m', m' < m + 1 ∧ LcI X tn Pv σw n m' s :=
  have z : ∀ b ∈ X.ex, ∀ o, h.get? b = some o → s.heap.get? b = some o ∧ H b = none := fun b hb o e => let q := I.pin (b, o) (List.mem_append_right _ (List.mem_append_right _ (mem_pinsAt hb e))); ⟨q.1, q.2.1⟩
  ⟨m, Nat.lt_succ_self m, i + 1, H, (I.unpinned (pins := [])).weak (by rw [← hw, wipe_length]) (fun j v e => (wipe_some (vs := vs) (by rw [hw]; exact e)).1), T.keep _ _ _ st fun b hb o e => (z b hb o e).1, fun b hb => let ⟨o, q, _⟩ := T.obj _ _ st b hb; (z b hb o q).2, (Nat.succ_add_eq_add_succ m i).symm.trans e, p⟩
theorem lc_loop (hx : ∀ v s, X.xe v s → False) (hp : X.pn = []) (hc : X.calm = true) (T : Turn X.prog X.w X.K tg J X.ex it tn) (pg : PG X tg g) (pt : PTs X ifs tt) (pe : PE X elt te) (go : ∀ i H, i < n → Pv i H → J.go i H)
    (hs : ∀ i H x H', i < n → Pv i H → J.yld i H x H' → g x σw H' (LcT tt te vs D σw (Pv (i + 1)))) (st : ∀ H, Pv n H → J.stop n H) (fin : ∀ H s, Inv X [] σw H s → Pv n H → R (.ok .next) s)
    (I4 : Inv X [] σw H s) (st4 : tn 0 s.heap) (nfp : ∀ b ∈ X.ex, H b = none) (h0 : Pv 0 H) : codeAny (model X.prog X.w) X.A (.compLoop (.ListComp elt [⟨tg, iter, ifs, 0⟩] scope pos) 0 (.ref it) (.ref D) X.env) R s := by
  refine compLoop_any (LcI X tn Pv σw n) ?_ n ⟨0, H, I4, st4, nfp, rfl, h0⟩
  rintro m s5 ⟨i, H5, I5, st5, n5, e, p⟩
  cases m with
  | zero =>
    cases (Nat.zero_add i).symm.trans e
    refine thnX hx (T.done X rfl rfl rfl hc _ [] s5 _ H5 X.xe I5 (I5.stat hp n5) st5 (st H5 p)) fun r s6 ⟨hr, I6⟩ => ?_
    subst hr
    exact fin H5 s6 I6 p
  | succ m =>
    have hi : i < n := e ▸ Nat.lt_add_of_pos_left (Nat.succ_pos m)
    refine thnX hx (T.item X rfl rfl rfl hc i [] s5 _ H5 X.xe I5 (I5.stat hp n5) st5 (go i H5 hi p)) fun r s6 ⟨u, hr, h6⟩ => ?_
    subst hr
    refine thnX hx h6 fun _ s7 ⟨x, H7, I7, r7, y7, st7, n7⟩ => ?_
    refine thnX hx (pg _ s7 _ H7 x u _ (I7.pinned (I7.stat hp n7) (T.obj _ _ st7)) r7 (hs i H5 x H7 hi p y7)) fun _ s8 ⟨σ8, H8, I8, hw8, q8⟩ => thnX hx (pt _ s8 σ8 H8 _ I8 q8) fun b s9 ⟨H9, I9, q9⟩ => ?_
    cases b with
    | false => exact lc_again T st7 e hw8 I9 q9
    | true => exact thnX hx (pe _ s9 σ8 H9 _ I9 q9) fun z s10 ⟨yv, H10, I10, r10, acc, hD10, hz10, nx⟩ => app_ok I10 hD10 hz10 r10 fun s11 I11 => lc_again T st7 e hw8 I11 nx
theorem lc_in {pins : List (Addr × Obj)} {own : List (Str × Nat)} {fp : List Addr} {Q : Hp → Prop} {R : Addr → Result → Shared → Prop} (hc : X.calm = true) (hN : X.N.Nodup) (ok : BlkOk X.N X.env.scope scope own)
    (hg : ∀ (s : Shared) (H : Hp) (C : Addr) (cl : List (Str × Addr)) (fp : List Addr), PG (X.blk s H scope (compEnvC scope cl C X.env) fp) tg g) (ht : ∀ (s : Shared) (H : Hp) (C : Addr) (cl : List (Str × Addr)) (fp : List Addr), PTs (X.blk s H scope (compEnvC scope cl C X.env) fp) ifs tt)
    (he : ∀ (s : Shared) (H : Hp) (C : Addr) (cl : List (Str × Addr)) (fp : List Addr), PE (X.blk s H scope (compEnvC scope cl C X.env) fp) elt te) (T : Turn X.prog X.w X.K tg J fp it tn) (I3 : Inv X pins σ H s) (f3 : ∀ b ∈ fp, FpOk X pins H b ∧ b < s.heap.objs.size)
    (st3 : tn 0 s.heap) (W : LcW J g tt te (own.map (·.2)) D (wipe σ (own.map (·.2))) H Q) (hRR : ∀ C s' m H', Inv X pins σ H' s' → Q H' → s'.heap.Ns C m → FpOk X pins H' C → R C (.ok .next) s') :
    codeAny (model X.prog X.w) X.A (.compStart (.ListComp elt [⟨tg, iter, ifs, 0⟩] scope pos) 0 (.ref it) (.ref D) (compEnvC scope (cellsFrom (s.heap.objs.size + 1) scope.names (cloFrom X.env.cells scope.names [])) s.heap.objs.size X.env)) (R s.heap.objs.size) { s with heap := pushCells (s.heap.push { cls := .type "dict", data := .dict #[] }) scope.names } := by
  obtain ⟨n, Pv, h0, go, hs, st, hd⟩ := W
  have st4 : tn 0 (pushCells (s.heap.push { cls := .type "dict", data := .dict #[] }) scope.names) := T.keep _ _ _ st3 fun b _ o e => pushCells_keeps _ _ _ _ (Heap.get?_push_of_some _ e)
  have loop := lc_loop (iter := iter) (scope := scope) (pos := pos) (R := R s.heap.objs.size) (X := X.blk s H scope (compEnvC scope (cellsFrom (s.heap.objs.size + 1) scope.names (cloFrom X.env.cells scope.names [])) s.heap.objs.size X.env) fp) (fun _ _ z => z) rfl hc T (hg _ _ _ _ _) (ht _ _ _ _ _) (he _ _ _ _ _) go hs st
    (fun H5 s6 I6 p => let ⟨m, hn, _⟩ := I6.loc; hRR s.heap.objs.size s6 m H5 (I3.call' (ch := fp) I6.os I6.base I6.hok I6.bare fun b hb => ⟨(f3 b hb).1.2.2.2.1, (f3 b hb).1.2.1, (f3 b hb).1.2.2.2.2.1, (f3 b hb).1.2.2.2.2.2⟩) (hd H5 p) hn (I3.fpOk (Nat.le_refl _) I6.free))
    (block_start I3 ok hN f3) st4 (fun b hb => (f3 b hb).1.1) h0
  exact codeAny_compStart_list loop (T.self X.A 0 _ _ _ st4 loop)
theorem pe_lc {own : List (Str × Nat)} {wi : TI} (hc : X.calm = true) (hN : X.N.Nodup) (hi : PI X tg iter wi) (ok : BlkOk X.N X.env.scope scope own)
    (hg : ∀ (s : Shared) (H : Hp) (C : Addr) (cl : List (Str × Addr)) (fp : List Addr), PG (X.blk s H scope (compEnvC scope cl C X.env) fp) tg g) (ht : ∀ (s : Shared) (H : Hp) (C : Addr) (cl : List (Str × Addr)) (fp : List Addr), PTs (X.blk s H scope (compEnvC scope cl C X.env) fp) ifs tt)
    (he : ∀ (s : Shared) (H : Hp) (C : Addr) (cl : List (Str × Addr)) (fp : List Addr), PE (X.blk s H scope (compEnvC scope cl C X.env) fp) elt te) (hs : ∀ x, foldedSetIterable iter X.env x = pure x := by intro _; rfl) :
    PE X (.ListComp elt [⟨tg, iter, ifs, 0⟩] scope pos) (tLc wi g tt te (own.map (·.2))) := by
  intro pins s σ H Q I h
  rw [eval_ListComp]
  refine wpAny_comprehension_free rfl hs (closure_ok fun y hy e => (ok.free y hy e).elim (fun k => I.ok.has _ (.inl k)) fun k => I.ok.has _ (.inr k)) ok.kind (fun y hy e => by rw [ok.uniq y hy, e])
    (thn (hi pins s σ H _ I h) fun xv s1 hx => thn hx fun itv s2 h2 => ?_)
  obtain ⟨it, fp, tn, J, H2, e, I2, T, st2, f2, q⟩ := h2
  subst e
  refine wpAny_newObj_type (newEnv_comp ?_) (by show 0 ≤ sizeLine; decide)
  have kp : ∀ b o, s2.heap.get? b = some o → (s2.heap.push { cls := .type "list", data := .seq ([] : List Value).toArray }).get? b = some o := fun b o e => Heap.get?_push_of_some _ e
  refine lc_in (s := { s2 with heap := s2.heap.push { cls := .type "list", data := .seq ([] : List Value).toArray } }) hc hN ok hg ht he T (I2.laid (a := s2.heap.objs.size) (o := .lst []) (t' := s2.toks) kp (Nat.le_refl _) ⟨Nat.zero_le _, [], 0, .nil, Heap.get?_push_size _ rfl⟩)
    (fun b hb => ?_) (T.keep _ _ _ st2 fun b _ o e => kp b o e) (q _ (I2.hok.fresh (Nat.le_refl _))) fun C s' m H' I' q hn f => ⟨m, hn, fun h'' sb => ?_⟩
  · obtain ⟨o, e, _⟩ := T.obj _ _ st2 b hb
    have hlt : b < s2.heap.objs.size := Heap.lt_size e
    exact ⟨⟨(upd_ne (Nat.ne_of_lt hlt)).trans (f2 b hb).1, (f2 b hb).2⟩, Heap.lt_size (kp b o e)⟩
  · obtain ⟨f0, f1, f2, f3, f4, f5⟩ := f
    exact ⟨.ref s2.heap.objs.size, H', I'.turned (t' := s'.toks) (fun b o hb e => (sb.2 b hb).trans e) f0 f1 f3 f4 f5, rfl, q⟩
end
end L2
namespace L2
open PySem PySem.Spec PyProof.Rows
section
variable {prog : Program} {w : World} {A : Around} {R : Result → Shared → Prop} {s : Shared} {elt t0 i0 t1 i1 : Expr} {ifs0 ifs1 : List Expr} {scope : Scope} {pos : Pos} {it acc : Value} {env : Env}
end
section
variable {X : Cx}
end
end L2
namespace L2
open PySem PySem.Spec PyProof.Rows
section
variable {κ : Type} [DecidableEq κ]
noncomputable def valV (kvs : List (κ × V)) (k : κ) : Option V := (kvs.find? fun kv => decide (kv.1 = k)).map (·.2)
noncomputable def putK (kvs : List (κ × V)) (k : κ) (v : V) : List (κ × V) :=
  if (kvs.any fun kv => decide (kv.1 = k)) = true then kvs.map (fun kv => if kv.1 = k then (kv.1, v) else kv) else kvs ++ [(k, v)]
theorem valV_pos {p : κ × V} {r : List (κ × V)} {k : κ} (e : p.1 = k) : valV (p :: r) k = some p.2 := by simp [valV, List.find?_cons, e]
theorem valV_neg {p : κ × V} {r : List (κ × V)} {k : κ} (e : ¬ p.1 = k) : valV (p :: r) k = valV r k := by simp [valV, List.find?_cons, e]
theorem valV_any (k : κ) : ∀ kvs : List (κ × V), (kvs.any fun kv => decide (kv.1 = k)) = (valV kvs k).isSome
  | [] => rfl
  | p :: r => by
    rw [List.any_cons]
    by_cases e : p.1 = k
    · simp only [valV_pos e, decide_eq_true e, Bool.true_or, Option.isSome_some]
    · rw [valV_neg e, decide_eq_false e, Bool.false_or]; exact valV_any k r
theorem valV_map (k j : κ) (y : V) : ∀ kvs : List (κ × V), valV (kvs.map fun kv => if kv.1 = k then (kv.1, y) else kv) j = (valV kvs j).map fun x => if j = k then y else x
  | [] => rfl
  | p :: r => by
    have ih := valV_map k j y r
    rw [List.map_cons]
    by_cases h : p.1 = k
    · rw [if_pos h]
      by_cases e : p.1 = j
      · rw [valV_pos (p := (p.1, y)) e, valV_pos e, Option.map_some, if_pos (e.symm.trans h)]
      · rw [valV_neg (p := (p.1, y)) e, valV_neg e, ih]
    · rw [if_neg h]
      by_cases e : p.1 = j
      · rw [valV_pos (p := p) e, valV_pos e, Option.map_some, if_neg (fun z => h (e.trans z))]
      · rw [valV_neg (p := p) e, valV_neg e, ih]
theorem valV_snoc (k j : κ) (y : V) : ∀ kvs : List (κ × V), valV kvs k = none → valV (kvs ++ [(k, y)]) j = if j = k then some y else valV kvs j
  | [], _ => by
    by_cases e : k = j
    · rw [if_pos e.symm]; exact valV_pos (p := (k, y)) e
    · rw [if_neg (fun z => e z.symm)]; exact valV_neg (p := (k, y)) e
  | p :: r, hn => by
    rw [List.cons_append]
    have hk : ¬ p.1 = k := fun z => by rw [valV_pos z] at hn; cases hn
    rw [valV_neg hk] at hn
    have ih := valV_snoc k j y r hn
    by_cases e : p.1 = j
    · rw [valV_pos e, valV_pos e, if_neg (fun z => hk (e.trans z))]
    · rw [valV_neg e, valV_neg e, ih]
theorem valV_put (kvs : List (κ × V)) (k j : κ) (y : V) : valV (putK kvs k y) j = if j = k then some y else valV kvs j := by
  unfold putK
  by_cases a : (kvs.any fun kv => decide (kv.1 = k)) = true
  · rw [if_pos a, valV_map]
    rw [valV_any] at a
    by_cases e : j = k
    · obtain ⟨x, hx⟩ := Option.isSome_iff_exists.mp a
      rw [if_pos e, e, hx, Option.map_some, if_pos rfl]
    · rw [if_neg e]
      cases valV kvs j with
      | none => rfl
      | some x => rw [Option.map_some, if_neg e]
  · rw [if_neg a]
    refine valV_snoc k j y kvs ?_
    rw [valV_any] at a
    cases q : valV kvs k with
    | none => rfl
    | some x => rw [q] at a; exact (a rfl).elim
theorem length_putK (kvs : List (κ × V)) (k : κ) (v : V) : (putK kvs k v).length ≤ kvs.length + 1 := by
  unfold putK
  split
  · rw [List.length_map]; omega
  · rw [List.length_append, List.length_cons, List.length_nil]; omega
theorem putK_new {kvs : List (κ × V)} {k : κ} (v : V) (h : valV kvs k = none) : putK kvs k v = kvs ++ [(k, v)] := by
  unfold putK
  rw [valV_any, h]
  exact if_neg (by decide)
theorem RelO.isSome_eq {o : Option V} {u : Option Value} (r : RelO o u) : o.isSome = u.isSome := by
  cases o with
  | none => cases u with
    | none => rfl
    | some _ => exact (show False from r).elim
  | some _ => cases u with
    | none => exact (show False from r).elim
    | some _ => rfl
theorem KV.val {kvs : List (κ × V)} {vs : List (κ × Value)} (r : KV kvs vs) (k : κ) : RelO (valV kvs k) (valueAt vs k) := by
  unfold KV at r
  induction r with
  | nil => exact True.intro
  | @cons p q ps qs h t ih =>
    obtain ⟨h1, h2⟩ := h
    by_cases e : p.1 = k
    · have e' : q.1 = k := h1.symm.trans e
      have b : valueAt (q :: qs) k = some q.2 := by simp [valueAt, List.find?_cons, e']
      rw [valV_pos e, b]; exact h2
    · have e' : ¬ q.1 = k := fun z => e (h1.trans z)
      have b : valueAt (q :: qs) k = valueAt qs k := by simp [valueAt, List.find?_cons, e']
      rw [valV_neg e, b]; exact ih
theorem KV.any {kvs : List (κ × V)} {vs : List (κ × Value)} (r : KV kvs vs) (k : κ) : (kvs.any fun kv => decide (kv.1 = k)) = vs.any fun kv => decide (kv.1 = k) := by
  unfold KV at r
  induction r with
  | nil => rfl
  | cons h t ih => rw [List.any_cons, List.any_cons, ih, h.1]
theorem KV.repl {kvs : List (κ × V)} {vs : List (κ × Value)} (r : KV kvs vs) (k : κ) {y : V} {u : Value} (ry : RelV y u) :
    KV (kvs.map fun kv => if kv.1 = k then (kv.1, y) else kv) (vs.map fun kv => if kv.1 = k then (kv.1, u) else kv) := by
  unfold KV at r ⊢
  induction r with
  | nil => exact .nil
  | @cons p q ps qs h t ih =>
    rw [List.map_cons, List.map_cons]
    refine .cons ?_ ih
    obtain ⟨h1, h2⟩ := h
    by_cases e : p.1 = k
    · rw [if_pos e, if_pos (h1.symm.trans e)]; exact ⟨h1, ry⟩
    · rw [if_neg e, if_neg (fun z => e (h1.trans z))]; exact ⟨h1, h2⟩
theorem KV.put {kvs : List (κ × V)} {vs : List (κ × Value)} (r : KV kvs vs) (k : κ) {y : V} {u : Value} (ry : RelV y u) : KV (putK kvs k y) (stored vs k u) := by
  unfold putK stored
  rw [r.any k]
  by_cases e : (vs.any fun kv => decide (kv.1 = k)) = true
  · rw [if_pos e, if_pos e]; exact r.repl k ry
  · rw [if_neg e, if_neg e]; exact Paired.snoc r ⟨rfl, ry⟩
theorem KV.length {kvs : List (κ × V)} {vs : List (κ × Value)} (r : KV kvs vs) : kvs.length = vs.length := Paired.length r
end
theorem kV_is {P : Program} {w : World} {k : Key} {u : Value} (r : RelV (kV k) u) : (intKind P w).is k u = true := by
  obtain ⟨t, e⟩ := (show ∃ t, u = Value.int k t from r)
  subst e
  exact beq_self_eq_true k
section
variable {P : Program} {w : World} {H : Hp} {h : Heap} {a : Addr}
theorem rd_of {u : HO} (ok : HOk P w H h) (e : Rd H a u) : ObjOk P w H h a u := e.ok ok
theorem dk_rd {kvs : List (Key × V)} (ok : HOk P w H h) (e : Rd H a (.dK kvs)) : kvs.length ≤ sizeLine ∧ (a == sysModules) = false ∧ ∃ vs, KV kvs vs ∧ h.DictOf (intKind P w) a vs :=
  show ObjOk P w H h a (.dK kvs) from rd_of ok e
theorem dk_of {kvs : List (Key × V)} (ok : HOk P w H h) (e : H a = some (.dK kvs)) : kvs.length ≤ sizeLine ∧ (a == sysModules) = false ∧ ∃ vs, KV kvs vs ∧ h.DictOf (intKind P w) a vs := dk_rd ok (.inl e)
end
inductive DGet (H : Hp) (a : Addr) (y : V) (r : Option V) : Prop
  | mk (kvs : List (Key × V)) (k : Key) (e : Rd H a (.dK kvs)) (ey : y = kV k) (l : r = valV kvs k) : DGet H a y r
inductive DPut (H : Hp) (a : Addr) (y v : V) (H' : Hp) : Prop
  | mk (kvs : List (Key × V)) (k : Key) (e : H a = some (.dK kvs)) (ey : y = kV k) (l : kvs.length < sizeLine) (eH : H' = upd H a (.dK (putK kvs k v))) : DPut H a y v H'
theorem DGet.k {H : Hp} {a : Addr} {kvs : List (Key × V)} {k : Key} (e : H a = some (.dK kvs)) : DGet H a (kV k) (valV kvs k) := ⟨kvs, k, .inl e, rfl, rfl⟩
theorem DPut.k {H : Hp} {a : Addr} {kvs : List (Key × V)} {k : Key} {v : V} (e : H a = some (.dK kvs)) (hl : kvs.length < sizeLine) : DPut H a (kV k) v (upd H a (.dK (putK kvs k v))) := ⟨kvs, k, e, rfl, hl, rfl⟩
section
variable {X : Cx} {pins : List (Addr × Obj)} {σ : St} {H : Hp} {s : Shared} {a : Addr} {y v : V} {u r : Value} {o : Option V} {A : Around} {E : Value → Shared → Prop}
theorem Inv.big (I : Inv X pins σ H s) : sysModules < s.heap.objs.size := by
  have h : mainGlobals < s.heap.objs.size := (I.mod.glob.keeps I.bk).lt
  exact Nat.lt_trans (by decide) h
theorem d_getItem {Q : Value → Shared → Prop} (I : Inv X pins σ H s) (g : DGet H a y (some v)) (ry : RelV y u) (h : ∀ w' s', Inv X pins σ H s' → RelV v w' → Q w' s') :
    wpAny (model X.prog X.w) A (getItem (.ref a) u) Q E s := by
  obtain ⟨kvs, k, e, ey, l⟩ := g
  subst ey
  obtain ⟨z, hd, vs, rel, dd⟩ := dk_rd I.hok e
  obtain ⟨w', hw, rw'⟩ := RelO.some_of (v := v) (o := valueAt vs k) (by rw [l]; exact rel.val k)
  exact wpAny_getItem_of (kV_is ry) dd.mapOf hw (h w' _ (I.tok _) rw')
theorem d_notIn {Q : Value → Shared → Prop} (I : Inv X pins σ H s) (g : DGet H a y o) (ry : RelV y u) (h : ∀ s', Inv X pins σ H s' → Q (.bool (!o.isSome)) s') :
    wpAny (model X.prog X.w) A (compareOp .NotIn u (.ref a)) Q E s := by
  obtain ⟨kvs, k, e, ey, l⟩ := g
  subst ey
  obtain ⟨z, hd, vs, rel, dd⟩ := dk_rd I.hok e
  refine wpAny_notIn_of (kV_is ry) hd dd.mapOf ?_
  rw [← (rel.val k).isSome_eq, ← l]
  exact h _ (I.tok _)
theorem d_write {h' : Heap} {t' : Nat} {ob : HO} (I : Inv X pins σ H s) (mu : Mut (H a)) (hs : Heap.SameBut a s.heap h') (he : ∃ q, h'.get? a = some q) (new : ObjOk X.prog X.w (upd H a ob) h' a ob) :
    Inv X pins σ (upd H a ob) { s with heap := h', toks := t' } :=
  I.write (x := a) (e := a) mu (.inl rfl) (fun b q hb z => (hs.2 b hb).trans z) he new
theorem dk_new {P : Program} {w : World} {H' : Hp} {h' : Heap} {kvs : List (Key × V)} {vs : List (Key × Value)} (z : kvs.length ≤ sizeLine) (hd : (a == sysModules) = false) (rel : KV kvs vs) (dd : h'.DictOf (intKind P w) a vs) :
    ObjOk P w H' h' a (.dK kvs) := ⟨z, hd, vs, rel, dd⟩
theorem d_setItem {H' : Hp} {Q : Unit → Shared → Prop} (I : Inv X pins σ H s) (g : DPut H a y v H') (ry : RelV y u) (rv : RelV v r) (h : ∀ s', Inv X pins σ H' s' → Q () s') :
    wpAny (model X.prog X.w) A (setItem (.ref a) u r) Q E s := by
  obtain ⟨kvs, k, e, ey, l, eH⟩ := g
  subst ey eH
  obtain ⟨z, hd, vs, rel, dd⟩ := dk_of I.hok e
  have hz : vs.length ≤ sizeLine := by rw [← rel.length]; exact z
  have hl : (putK kvs k v).length ≤ sizeLine := Nat.le_trans (length_putK kvs k v) l
  refine wpAny_setItem_pairs (hsz := hz) (kV_is ry) dd fun h' dd' hs => h _ ?_
  have he : ∃ q, h'.get? a = some q := let ⟨q, _, _, hq, _⟩ := dd'; ⟨q, hq⟩
  exact d_write I (by rw [e]; exact True.intro) hs he (dk_new hl hd (rel.put k rv) dd')
end
section
variable {X : Cx} {pins : List (Addr × Obj)} {σ : St} {H : Hp} {s : Shared} {a : Addr} {kvs : List (Key × V)} {k : Key} {u : Value} {A : Around} {E : Value → Shared → Prop}
end
noncomputable def NoSl (i : Expr) : Prop := ∀ ov iv, subscripted i false ov iv = operate [ov, iv] (getItem ov iv)
theorem subD_of {prog : Program} {w : World} {A : Around} {E : Value → Shared → Prop} {s : Shared} {env : Env} {value slice : Expr} {pos : Pos} {T id : String} {Q : Value → Shared → Prop}
    (hl : typeLookup (.type T) "__getitem__" = pure (some (.builtin id))) (hs : NoSl slice)
    (h : wpAny (model prog w) A (eval value env) (fun o s₁ => wpAny (model prog w) A (eval slice env) (fun i s₂ => s₂.TypeIs o T ∧ wpAny (model prog w) A (getItem o i) Q E s₂) E s₁) E s) :
    wpAny (model prog w) A (eval (.Subscript value slice pos) env) Q E s := by
  refine Subscript_ (wpAny_mono h (fun o s₁ h₁ => wpAny_mono h₁ (fun i s₂ h₂ => ?_) fun _ _ x => x) fun _ _ x => x)
  obtain ⟨hT, h₂⟩ := h₂
  unfold subscriptTail
  refine wpAny_bind ?_
  rw [getitemInPython_of_ne hT.not_modules]
  refine wpAny_bind (wpAny_specialOf hT hl ?_)
  have fin : wpAny (model prog w) A (subscripted slice false o i) (fun r s₃ => wpAny (model prog w) A (letTemporaryGo value o r >>= fun _ => pure r) Q E s₃) E s₂ := by
    rw [hs o i]
    exact wpAny_operating (wpAny_mono h₂ (fun r s₃ h₃ => wpAny_bind (wpAny_letTemporaryGo (wpAny_pure h₃))) fun _ _ x => x)
  first
    | exact wpAny_pure (wpAny_bind fin)
    | exact wpAny_bind (wpAny_pure (wpAny_bind fin))
    | exact wpAny_bind fin
theorem dict_typeIs {X : Cx} {pins : List (Addr × Obj)} {σ : St} {H : Hp} {s : Shared} {a : Addr} {y : V} {o : Option V} (I : Inv X pins σ H s) (g : DGet H a y o) : s.TypeIs (.ref a) "dict" := by
  obtain ⟨kvs, k, e, _, _⟩ := g
  obtain ⟨_, _, vs, _, dd⟩ := dk_rd I.hok e
  exact dd.typeIs
inductive DGI (x y : V) (H : Hp) (Q : VK) : Prop
  | mk (a : Addr) (v : V) (e : x = .ref a) (g : DGet H a y (some v)) (q : Q v H) : DGI x y H Q
noncomputable def tDGet (td ty : TE) : TE := fun σ H Q => td σ H fun x H1 => ty σ H1 fun y H2 => DGI x y H2 Q
inductive DNI (x y : V) (H : Hp) (Q : VK) : Prop
  | mk (a : Addr) (o : Option V) (e : x = .ref a) (g : DGet H a y o) (q : Q (.bl (!o.isSome)) H) : DNI x y H Q
noncomputable def tDNotIn (ty td : TE) : TE := fun σ H Q => ty σ H fun y H1 => td σ H1 fun x H2 => DNI x y H2 Q
inductive DPI (x y v : V) (H : Hp) (R : Hp → Prop) : Prop
  | mk (a : Addr) (H4 : Hp) (e : x = .ref a) (g : DPut H a y v H4) (q : R H4) : DPI x y v H R
noncomputable def sDPut (td ty tv : TE) : TS := fun D σ H => tv σ H fun v H1 => td σ H1 fun x H2 => ty σ H2 fun y H3 => DPI x y v H3 fun H4 => D.nx σ H4
section
variable {X : Cx} {o i e value : Expr} {pos pos' tpos : Pos} {td ty tv : TE}
theorem pe_dget (ho : PE X o td) (hi : PE X i ty) (hs : NoSl i) : PE X (.Subscript o i pos) (tDGet td ty) := by
  intro pins s σ H Q I h
  refine subD_of PySem.F.slot_dict_getitem.lookup hs (thn (ho pins s σ H _ I h) fun u s1 ⟨x, H1, I1, rx, q1⟩ => thn (hi pins s1 σ H1 _ I1 q1) fun iv s2 ⟨y, H2, I2, ry, a, v, ex, g, q2⟩ => ?_)
  subst ex
  obtain rfl : u = Value.ref a := rx
  exact ⟨dict_typeIs I2 g, d_getItem I2 g ry fun w' s3 I3 rw' => ⟨v, H2, I3, rw', q2⟩⟩
theorem pc_dnotin (hi : PE X i ty) (ho : PE X o td) : PC X .NotIn i o (tDNotIn ty td) := by
  intro pins s σ H Q I h
  refine thn (hi pins s σ H _ I h) fun iv s1 ⟨y, H1, I1, ry, q1⟩ => thn (ho pins s1 σ H1 _ I1 q1) fun u s2 ⟨x, H2, I2, rx, a, ov, ex, g, q2⟩ => ?_
  subst ex
  obtain rfl : u = Value.ref a := rx
  exact d_notIn I2 g ry fun s3 I3 => ⟨.bl (!ov.isSome), H2, I3, rfl, q2⟩
theorem ps_dput (ho : PE X o td) (hi : PE X i ty) (hv : PE X value tv) (hs : swapsWith value (some (.Subscript o i pos')) pos.line X.env = pure false) :
    PS X (.Assign [.Subscript o i pos'] value pos) (sDPut td ty tv) := by
  intro pins s σ H D I h
  refine wpAny_Assign_Subscript (thn (hv pins s σ H _ I h) fun r s1 ⟨v, H1, I1, rv, q1⟩ => thn (ho pins s1 σ H1 _ I1 q1) fun u s2 ⟨x, H2, I2, rx, q2⟩ => thn (hi pins s2 σ H2 _ I2 q2) fun iv s3 ⟨y, H3, I3, ry, a, H4, ex, g, q3⟩ => ?_) hs
  subst ex
  obtain rfl : u = Value.ref a := rx
  exact d_setItem I3 g ry rv fun s4 I4 => ⟨σ, H4, I4, q3⟩
end
theorem dk_empty {P : Program} {w : World} {H : Hp} (h : Heap) (hb : sysModules < h.objs.size) : ObjOk P w H (h.push { cls := .type "dict", data := .dict #[] }) h.objs.size (.dK []) :=
  ⟨Nat.zero_le _, beq_eq_false_iff_ne.mpr (Ne.symm (Nat.ne_of_lt hb)), [], .nil, Heap.DictOf.new h⟩
noncomputable def tDNewK : TE := fun _ H Q => ∀ p, H p = none → Q (.ref p) (upd H p (.dK []))
section
variable {X : Cx} {pos : Pos}
theorem pe_dnewK : PE X (.Dict [] [] pos) tDNewK := fun pins s σ H Q I h =>
  wpAny_Dict_empty ⟨.ref s.heap.objs.size, _, I.laid (a := s.heap.objs.size) (o := .dK []) (t' := s.toks) (fun _ _ q => Heap.get?_push_of_some _ q) (Nat.le_refl _) (dk_empty s.heap I.big), rfl, h _ (I.hok.fresh (Nat.le_refl _))⟩
end
noncomputable def tPairs : List (TE × TE) → St → Hp → (List (V × V) → Hp → Prop) → Prop
  | [], _, H, Q => Q [] H
  | (tk, tv) :: r, σ, H, Q => tk σ H fun x H1 => tv σ H1 fun y H2 => tPairs r σ H2 fun ps H3 => Q ((x, y) :: ps) H3
noncomputable abbrev VV : List (V × V) → List (Value × Value) → Prop := Paired fun p q => RelV p.1 q.1 ∧ RelV p.2 q.2
noncomputable def PPs (X : Cx) (pos : Pos) (keys : List (Option Expr)) (values : List Expr) (trs : List (TE × TE)) : Prop :=
  ∀ (pins : List (Addr × Obj)) (s : Shared) (σ : St) (H : Hp) (Q : List (V × V) → Hp → Prop), Inv X pins σ H s → tPairs trs σ H Q →
    wpAny (model X.prog X.w) X.A (evalPairs (pairTrees keys values X.env pos)) (fun vs s' => ∃ ps H', Inv X pins σ H' s' ∧ VV ps vs ∧ Q ps H') X.xe s
theorem pps_nil {X : Cx} {pos : Pos} : PPs X pos [] [] [] := fun pins s σ H Q I h => pairTrees_nil_walk ⟨[], H, I, .nil, h⟩
theorem pps_cons {X : Cx} {pos : Pos} {k v : Expr} {ks : List (Option Expr)} {vs : List Expr} {tk tv : TE} {trs : List (TE × TE)} (hk : PE X k tk) (hv : PE X v tv) (hr : PPs X pos ks vs trs) :
    PPs X pos (some k :: ks) (v :: vs) ((tk, tv) :: trs) := fun pins s σ H Q I h =>
  pairTrees_cons_walk (thn (hk pins s σ H _ I h) fun u s1 ⟨x, H1, I1, rx, q1⟩ => thn (hv pins s1 σ H1 _ I1 q1) fun w2 s2 ⟨y, H2, I2, ry, q2⟩ =>
    thn (hr pins s2 σ H2 _ I2 q2) fun ws s3 ⟨ps, H3, I3, rel, q3⟩ => ⟨(x, y) :: ps, H3, I3, .cons ⟨rx, ry⟩ rel, q3⟩)
noncomputable def mergeK (kvs more : List (Key × V)) : List (Key × V) := more.foldl (fun acc kv => putK acc kv.1 kv.2) kvs
theorem KV.merge : ∀ {more : List (Key × V)} {rs : List (Key × Value)} {kvs : List (Key × V)} {vs : List (Key × Value)}, KV more rs → KV kvs vs → KV (mergeK kvs more) (merged vs rs) := by
  intro more rs kvs vs r
  unfold KV at r
  induction r generalizing kvs vs with
  | nil => intro q; exact q
  | @cons p q ps qs h t ih =>
    intro r0
    have e : KV (putK kvs p.1 p.2) (stored vs q.1 q.2) := by
      have := r0.put p.1 h.2
      rw [← h.1]; exact this
    exact ih e
theorem length_mergeK : ∀ (more kvs : List (Key × V)), (mergeK kvs more).length ≤ kvs.length + more.length
  | [], kvs => by show kvs.length ≤ kvs.length + 0; omega
  | p :: r, kvs => by
    have h1 := length_mergeK r (putK kvs p.1 p.2)
    have h2 := length_putK kvs p.1 p.2
    show (mergeK (putK kvs p.1 p.2) r).length ≤ _
    rw [List.length_cons]; omega
theorem carries_of {P : Program} {w : World} : ∀ {kvs : List (Key × V)} {ws : List (Value × Value)}, VV (kvs.map fun kv => (kV kv.1, kv.2)) ws → ∃ rs, Carries (intKind P w) ws rs ∧ KV kvs rs
  | [], _, r => by rw [List.map_nil] at r; cases r; exact ⟨[], True.intro, .nil⟩
  | p :: kvs, _, r => by
    rw [List.map_cons] at r
    cases r with
    | @cons a b as bs h t =>
      obtain ⟨rs, c, q⟩ := carries_of (P := P) (w := w) t
      obtain ⟨b1, b2⟩ := b
      exact ⟨(p.1, b2) :: rs, ⟨kV_is h.1, rfl, c⟩, .cons ⟨rfl, h.2⟩ q⟩
noncomputable def tDisp (trs : List (TE × TE)) : TE := fun σ H Q => ∀ p, H p = none → tPairs trs σ (upd H p (.dK [])) fun ps H2 => H2 p = some (.dK []) ∧ ∃ kvs : List (Key × V), ps = kvs.map (fun kv => (kV kv.1, kv.2)) ∧ kvs.length ≤ 15 ∧ Q (.ref p) (upd H2 p (.dK (mergeK [] kvs)))
theorem pe_disp {X : Cx} {pos : Pos} {keys : List (Option Expr)} {values : List Expr} {trs : List (TE × TE)} (h : PPs X pos keys values trs) (hall : keys.all (·.isSome) = true) (hl : keys.length = values.length) (h0 : keys ≠ [])
    (h15 : keys.length ≤ 15) : PE X (.Dict keys values pos) (tDisp trs) := by
  intro pins s σ H Q I q
  have hn := I.hok.fresh (Nat.le_refl s.heap.objs.size)
  have I1 := I.laid (a := s.heap.objs.size) (o := .dK []) (h' := s.heap.push { cls := .type "dict", data := .dict #[] }) (t' := s.toks) (fun _ _ q => Heap.get?_push_of_some _ q) (Nat.le_refl _) (dk_empty s.heap I.big)
  refine wpAny_Dict_walk (knd := intKind X.prog X.w) hall hl h0 h15 (thn (h pins _ σ _ _ I1 (q _ hn)) fun ws s2 ⟨ps, H2, I2, rel, e, kvs, ep, lk, q2⟩ => ?_)
  subst ep
  obtain ⟨rs, c, rk⟩ := carries_of (P := X.prog) (w := X.w) rel
  obtain ⟨z, hd, vs0, r0, dd⟩ := dk_of I2.hok e
  cases r0
  refine ⟨rs, c, dd, fun h' dd' hs => ⟨.ref s.heap.objs.size, _, ?_, rfl, q2⟩⟩
  have hz : (mergeK [] kvs).length ≤ sizeLine := by
    have h1 := length_mergeK kvs []
    rw [List.length_nil] at h1
    rw [sizeLine_eq]; omega
  have he : ∃ q, h'.get? s.heap.objs.size = some q := let ⟨q, _, _, hq, _⟩ := dd'; ⟨q, hq⟩
  exact d_write I2 (by rw [e]; exact True.intro) hs he (dk_new hz hd (rk.merge .nil) dd')
section
variable {X : Cx} {pins : List (Addr × Obj)} {σ : St} {H : Hp} {s : Shared} {a : Addr} {y d : V} {u r : Value} {o : Option V} {A : Around} {E : Value → Shared → Prop}
end
section
variable {X : Cx} {o e f : Expr} {apos cpos : Pos} {td ty tx : TE}
end
section
variable {X : Cx} {pins : List (Addr × Obj)} {σ : St} {H : Hp} {s : Shared} {a : Addr} {kvs : List (Key × V)} {A : Around} {E : Value → Shared → Prop}
end
section
variable {X : Cx} {pins : List (Addr × Obj)} {σ : St} {H : Hp} {s : Shared} {a : Addr} {y : V} {u : Value} {A : Around} {E : Value → Shared → Prop}
end
end L2
namespace L2
open PySem PySem.Spec PyProof.Rows
section
variable {prog : Program} {w : World} {A : Around} {E : Value → Shared → Prop}
end
section
variable {X : Cx}
end
end L2
namespace L2
open PySem PySem.Spec PyProof.Rows
section
variable {X : Cx} {pins : List (Addr × Obj)} {σ : St} {H : Hp} {s : Shared} {h' : Heap}
theorem Inv.turnedNew {t' : Nat} {ch : List Addr} {T : Addr} {ob : HO} (I : Inv X pins σ H s) (k : ∀ b o, b ∉ ch → s.heap.get? b = some o → h'.get? b = some o) (hf : ∀ b ∈ ch, FpOk X pins H b) (hT : s.heap.objs.size ≤ T)
    (new : ObjOk X.prog X.w (upd H T ob) h' T ob) : Inv X pins σ (upd H T ob) { s with heap := h', toks := t' } := by
  have hn : H T = none := I.hok.fresh hT
  have nit : ∀ b u, H b = some u → b ∉ ch := fun b u e z => by
    have q := (hf b z).1
    rw [q] at e; cases e
  refine I.step (g' := s.gens) (d' := s.drawn) (ch := ch) (fun b hb => ⟨(hf b hb).2.2.2.1, (hf b hb).2.1, (hf b hb).2.2.2.2.1, (hf b hb).2.2.2.2.2⟩) (fun b o _ _ hc e _ => k b o hc e) (fun b o _ _ hc e _ => ⟨o.slots, k b o hc e⟩)
    (fun b o _ e n => ?_) (fun b o hc e => ⟨o, k b o hc e⟩) (fun b xs e => ?_) (fun b o u e => ?_) (fun b ps e => ⟨#[], ?_⟩) (fun m hm => ?_) (fun b u e => ?_) I.bare
  · rw [upd_ne (Nat.ne_of_lt (Nat.lt_of_lt_of_le (Heap.lt_size e) hT))]; exact n
  · rw [upd_ne (ne_of_none e hn)]; exact e
  · rw [upd_ne (ne_of_none e hn)]; exact e
  · rw [upd_ne (ne_of_none e hn), e]; simp
  · obtain ⟨o, es, ep, ho, r⟩ := hm
    exact ⟨o, es, ep, k _ o (fun z => (hf _ z).2.1 rfl) ho, r⟩
  · by_cases hb : b = T
    · subst hb
      rw [upd_same] at e
      cases e
      exact new
    · rw [upd_ne hb] at e
      refine (I.hok b u e).stay (fun c v hc q => k c v ?_ q) (fun c q => by rw [upd_ne (ne_of_none q hn)]; exact q) fun c xs q => by rw [upd_ne (ne_of_none q hn)]; exact q
      rcases hc with z | z
      · rw [z]; exact nit b u e
      · exact nit c _ z
theorem Inv.lock {d : Addr} {u : HO} (I : Inv X pins σ H s) (h : H d = some u) (mu : Mut (some u)) : ∃ od, Inv X pins σ (upd H d (.frz od u)) s := by
  have x := I.hok d u h
  have ex : ∃ od, s.heap.get? d = some od := by
    cases u with
    | lst xs => obtain ⟨_, _, _, _, e⟩ := x; exact ⟨_, e⟩
    | dK kvs => obtain ⟨_, _, _, _, o, _, _, e, _⟩ := x; exact ⟨o, e⟩
    | ins C dx fs => obtain ⟨_, _, _, e, _⟩ := x; exact ⟨_, e⟩
    | _ => exact False.elim mu
  obtain ⟨od, e⟩ := ex
  have new : ObjOk X.prog X.w (upd H d (.frz od u)) s.heap d (.frz od u) := by
    refine ⟨e, x.stay (fun b v _ q => q) (fun b q => ?_) fun b xs q => ?_⟩
    · rw [upd_ne (fun z => by rw [z, h] at q; cases q; exact mu)]; exact q
    · rw [upd_ne (fun z => by rw [z, h] at q; cases q; exact mu)]; exact q
  exact ⟨od, I.write (x := d) (e := d) (t' := s.toks) (h' := s.heap) (by rw [h]; exact mu) (.inl rfl) (fun b v _ q => q) ⟨od, e⟩ new⟩
theorem Inv.nofrz {d : Addr} {u : HO} (I : Inv X pins σ H s) (h : H d = some u) (mu : Mut (some u)) : ∀ o' u', X.H_0 d ≠ some (.frz o' u') := fun o' u' e => by
  have q := I.base.frzs d o' u' e
  rw [h] at q
  cases q
  exact mu
theorem Inv.unlock {d : Addr} {od : Obj} {u : HO} (I : Inv X pins σ H s) (h : H d = some (.frz od u)) (hn : ∀ o' u', X.H_0 d ≠ some (.frz o' u')) : Inv X pins σ (upd H d u) s := by
  have neH : ∀ b o, H b = some o → (∀ o' u', o ≠ .frz o' u') → b ≠ d := fun b o e hne z => by
    rw [z, h] at e
    cases e
    exact hne _ _ rfl
  have neN : ∀ b, H b = none → b ≠ d := fun b e z => by rw [z, h] at e; cases e
  refine ⟨I.ok, I.os, I.bare, ⟨I.base.keep, I.base.slot, fun b o e n hx => ?_, I.base.there, fun b xs e => ?_, fun b o x e => ?_, fun b ps e => ?_⟩, I.loc, I.cell, ?_, fun x c e => ?_, fun p hp => ?_, fun b o e => ?_, I.len⟩
  · rw [upd_ne (neN b (I.base.free b o e n hx))]; exact I.base.free b o e n hx
  · have q := I.base.tups b xs e
    rw [upd_ne (neH b _ q (fun _ _ z => nomatch z))]; exact q
  · have q := I.base.frzs b o x e
    rw [upd_ne (fun z => by rw [z] at e; exact hn _ _ e)]; exact q
  · obtain ⟨m, q⟩ := I.base.tbls b ps e
    exact ⟨m, by rw [upd_ne (neH b _ q (fun _ _ z => nomatch z))]; exact q⟩
  · rw [upd_ne (neN _ I.free)]; exact I.free
  · rw [upd_ne (neN c (I.freeC x c e))]; exact I.freeC x c e
  · obtain ⟨e, n, r⟩ := I.pin p hp
    exact ⟨e, by rw [upd_ne (neN _ n)]; exact n, r⟩
  · by_cases hb : b = d
    · rw [hb, upd_same] at e
      cases e
      rw [hb]
      obtain ⟨_, x⟩ := I.hok d _ h
      exact x.stay (fun c v _ q => q) (fun c q => by rw [upd_ne (neH c _ q (fun _ _ z => nomatch z))]; exact q) fun c xs q => by rw [upd_ne (neH c _ q (fun _ _ z => nomatch z))]; exact q
    · rw [upd_ne hb] at e
      exact (I.hok b o e).stay (fun c v _ q => q) (fun c q => by rw [upd_ne (neH c _ q (fun _ _ z => nomatch z))]; exact q) fun c xs q => by rw [upd_ne (neH c _ q (fun _ _ z => nomatch z))]; exact q
end
noncomputable def Ends.lock (D : Ends) (d : Addr) (od : Obj) (u : HO) : Ends := ⟨fun σ' H' => H' d = some (.frz od u) ∧ D.nx σ' (upd H' d u), fun v H' => H' d = some (.frz od u) ∧ D.rt v (upd H' d u), fun σ' H' => H' d = some (.frz od u) ∧ D.bk σ' (upd H' d u), fun σ' H' => H' d = some (.frz od u) ∧ D.ct σ' (upd H' d u)⟩
noncomputable def tLock (t : TS) : TS := fun D σ H => ∃ d u, H d = some u ∧ Mut (some u) ∧ ∀ od, t (D.lock d od u) σ (upd H d (.frz od u))
section
variable {X : Cx}
theorem ps_lock {st : Stmt} {t : TS} (h : PS X st t) : PS X st (tLock t) := by
  intro pins s σ H D I hw
  obtain ⟨d, u, hd, mu, hw⟩ := hw
  obtain ⟨od, I1⟩ := I.lock hd mu
  refine thn (h pins s σ _ _ I1 (hw od)) fun f s1 q => ?_
  cases f with
  | next => obtain ⟨σ', H', I2, e, q⟩ := q; exact ⟨σ', _, I2.unlock e (I.nofrz hd mu), q⟩
  | brk => obtain ⟨σ', H', I2, e, q⟩ := q; exact ⟨σ', _, I2.unlock e (I.nofrz hd mu), q⟩
  | cont => obtain ⟨σ', H', I2, e, q⟩ := q; exact ⟨σ', _, I2.unlock e (I.nofrz hd mu), q⟩
  | ret v => obtain ⟨x, σ', H', I2, r, e, q⟩ := q; exact ⟨x, σ', _, I2.unlock e (I.nofrz hd mu), r, q⟩
theorem pi_one {tg : Expr} {pins : List (Addr × Obj)} {σ : St} {H : Hp} {s : Shared} {R : It → Hp → Prop} {J : It} {tn : Nat → Heap → Prop} {tk : Nat} (I : Inv X pins σ H s) (o : Obj)
    (T : Turn X.prog X.w X.K tg J [s.heap.objs.size] s.heap.objs.size tn) (st : tn 0 (s.heap.push o)) (q : R J H) : PIE X pins σ tg R (.ref s.heap.objs.size) { s with heap := s.heap.push o, toks := tk } := by
  refine ⟨s.heap.objs.size, [s.heap.objs.size], tn, J, H, rfl, I.kept fun b ob e => Heap.get?_push_of_some _ e, T, st, fun b hb => ?_, q⟩
  have e : b = s.heap.objs.size := by simpa using hb
  subst e
  exact I.fpOk (Nat.le_refl _) (I.hok.fresh (Nat.le_refl _))
end
section
variable {X : Cx} {tg : Expr}
end
section
variable {X : Cx} {tg : Expr}
end
theorem kv_get {κ : Type} {kvs : List (κ × V)} {vs : List (κ × Value)} (h : KV kvs vs) : ∀ {i : Nat} {k : κ} {v : V}, kvs[i]? = some (k, v) → ∃ u, vs[i]? = some (k, u) ∧ RelV v u := by
  unfold KV at h
  induction h with
  | nil => intro i k v e; simp at e
  | @cons a b l₁ l₂ r t ih =>
    intro i k v e
    cases i with
    | zero =>
      simp only [List.getElem?_cons_zero, Option.some.injEq] at e
      subst e
      refine ⟨b.2, ?_, r.2⟩
      simp only [List.getElem?_cons_zero]
      exact congrArg some (Prod.ext r.1.symm rfl)
    | succ j =>
      simp only [List.getElem?_cons_succ] at e ⊢
      exact ih e
theorem relV_key {P : Program} {w : World} {k : Key} {u : Value} (h : (intKind P w).is k u = true) : RelV (kV k) u := by
  obtain ⟨t, e⟩ := Value.isInt_shape h
  exact ⟨t, e⟩
section
variable {X : Cx} {pins : List (Addr × Obj)} {σ : St} {H : Hp} {s : Shared} {d : Addr} {o : Obj}
inductive FrzK (P : Program) (w : World) (h : Heap) (d : Addr) (o : Obj) (kvs : List (Key × V)) : Prop
  | mk (hs : (d == sysModules) = false) (es : Array DictEntry) (ep : Nat) (vs : List (Key × Value)) (hdt : o.data = .dict es ep) (kv : KV kvs vs) (hm : h.DictAt (intKind P w) d vs ep) : FrzK P w h d o kvs
theorem Inv.frzK {kvs : List (Key × V)} (I : Inv X pins σ H s) (h : H d = some (.frz o (.dK kvs))) : FrzK X.prog X.w s.heap d o kvs := by
  obtain ⟨hd, z, hs, vs, kv, o', es, ep, ho, r⟩ := I.hok d _ h
  cases hd.symm.trans ho
  exact ⟨hs, es, ep, vs, r.2.1, kv, o, es, ho, r⟩
end
noncomputable def Itk (d : Addr) (o : Obj) (kvs : List (Key × V)) : It :=
  ⟨fun i H => H d = some (.frz o (.dK kvs)) ∧ i < kvs.length, fun i H x H' => H' = H ∧ ∃ k v, kvs[i]? = some (k, v) ∧ x = kV k, fun i H => H d = some (.frz o (.dK kvs)) ∧ kvs.length ≤ i⟩
theorem dict_ep {o : Obj} {es es' : Array DictEntry} {ep ep' : Nat} (h : o.data = .dict es ep) (h' : o.data = .dict es' ep') : ep' = ep := by
  cases h.symm.trans h'
  rfl
section
variable {P : Program} {w : World} {K : PySem.W.Frag} {tg : Expr} {d : Addr} {o : Obj} {es : Array DictEntry} {ep : Nat}
theorem turn_keys {kvs : List (Key × V)} (it : Addr) (hod : o.data = .dict es ep) : Turn P w K tg (Itk d o kvs) [it] it (fun i h => h.IsKeyIter it d i kvs.length ep) where
  mem := List.mem_singleton.mpr rfl
  obj := fun i h st b hb => by
    cases List.mem_singleton.mp hb
    obtain ⟨oi, e, c, dd⟩ := st
    exact ⟨oi, e, fun v z => nomatch dd.symm.trans z⟩
  keep := fun i h h' st k => st.at fun oi e => k it (List.mem_singleton.mpr rfl) oi e
  item := by
    intro X hP hw hK hc i pins s σ H E I hf st hg
    subst hP hw hK
    obtain ⟨hd, hi⟩ := hg
    obtain ⟨f0, f1, f2, f3, f4, f5⟩ := hf it (List.mem_singleton.mpr rfl)
    obtain ⟨hs, es', ep', vs, hdt, kv, hm⟩ := I.frzK hd
    cases dict_ep hod hdt
    have hkv := List.getElem?_eq_getElem hi
    obtain ⟨u, hu, ru⟩ := kv_get kv hkv
    have hl : kvs.length = vs.length := Paired.length kv
    rw [hl] at st ⊢
    refine wpAny_pyNext_dict_item st hm hu fun key h' hkey st' sb => ?_
    obtain ⟨oi, e, c, dd⟩ := id st'
    exact ⟨key, rfl, go_of (s := { s with heap := h' }) e c dd (by decide) ⟨kV _, H, I.turned (t' := s.toks) (fun b ob hb e => (sb.2 b hb).trans e) f0 f1 f3 f4 f5, relV_key hkey, ⟨rfl, _, _, hkv, rfl⟩, st', fun b hb => (hf b hb).1⟩⟩
  done := by
    intro X hP hw hK hc i pins s σ H E I hf st hg
    subst hP hw hK
    obtain ⟨hd, hi⟩ := hg
    obtain ⟨f0, f1, f2, f3, f4, f5⟩ := hf it (List.mem_singleton.mpr rfl)
    obtain ⟨hs, es', ep', vs, hdt, kv, hm⟩ := I.frzK hd
    cases dict_ep hod hdt
    have hl : kvs.length = vs.length := Paired.length kv
    rw [hl] at st hi
    exact wpAny_pyNext_dict_end (I.ok.hd hc) st hm (List.getElem?_eq_none hi) fun h' eb => ⟨rfl, I.turned (t' := s.toks) (fun b ob hb e => eb b ob hb e) f0 f1 f3 f4 f5⟩
  self := fun A i s Q E st h => wpAny_pyIter_keyiter st h
end
inductive IKI (x : V) (H : Hp) (R : It → Hp → Prop) : Prop
  | mk (d : Addr) (o : Obj) (e : x = .ref d) (kvs : List (Key × V)) (h : H d = some (.frz o (.dK kvs))) (q : R (Itk d o kvs) H) : IKI x H R
noncomputable def iKeys (td : TE) : TI := fun σ H R => td σ H fun x H1 => IKI x H1 R
section
variable {X : Cx} {tg e : Expr} {td : TE} {apos cpos : Pos}
theorem pi_keys (he : PE X e td) : PI X tg e (iKeys td) := by
  intro pins s σ H R I h
  refine thn (he pins s σ H _ I h) fun u s1 ⟨x, H1, I1, rx, d, o, ex, kvs, hd, q⟩ => ?_
  subst ex
  obtain rfl : u = Value.ref d := rx
  obtain ⟨hs, es, ep, vs, hdt, kv, hm⟩ := I1.frzK hd
  refine wpAny_pyIter_dict hs hm (pi_one (tk := s1.toks) I1 _ (turn_keys _ hdt) ⟨_, Heap.get?_push_size _ rfl, rfl, ?_⟩ q)
  rw [show kvs.length = vs.length from Paired.length kv] <;> rfl
end
end L2
section 
namespace Bits
open PySem PyProof.Rows
end Bits
end 
section 
namespace TL
open PySem PySem.Builtin PySem.Builtin.Str PySem.StrLaws
end TL
end 
namespace L2
open PySem PySem.Spec PyProof.Rows
section
variable {X : Cx} {pins : List (Addr × Obj)} {σ : St} {H : Hp} {s : Shared} {Q : VK}
end
section
variable {X : Cx}
end
section
variable {X : Cx} {o e : Expr} {to te : TE}
end
end L2
namespace L2
open PySem PySem.Spec PyProof.Rows
section
variable {X : Cx}
end
end L2
namespace Att
open PySem PySem.W PySem.Calls PyProof.Rows
section
variable {prog : Program} {w : World} {A : Around} {E : Value → Shared → Prop} {s : Shared} {K : Frag}
end
end Att
namespace L2
open PySem PySem.Spec PyProof.Rows
end L2
namespace L2
open PySem PySem.Spec PyProof.Rows
end L2
namespace L2
open PySem PySem.Spec PyProof.Rows
noncomputable def inClass (s : Stmt) (j : Nat) : Stmt := match s with
  | .ClassDef _ _ _ body _ _ _ _ _ _ _ => body.getD j (.Pass ⟨0, 0, 0, 0⟩)
  | _ => .Pass ⟨0, 0, 0, 0⟩
noncomputable def defArgs (s : Stmt) : Arguments := match s with
  | .FunctionDef _ a _ _ _ _ _ _ _ _ => a
  | _ => { posonlyargs := [], args := [], vararg := none, kwonlyargs := [], kw_defaults := [], kwarg := none, defaults := [] }
noncomputable def defBody (s : Stmt) : List Stmt := match s with
  | .FunctionDef _ _ b _ _ _ _ _ _ _ => b
  | _ => []
noncomputable def defScope (s : Stmt) : Scope := match s with
  | .FunctionDef _ _ _ _ _ _ sc _ _ _ => sc
  | _ => { kind := .function, names := [], isGenerator := false, isCoroutine := false }
noncomputable abbrev CX0 : CXT := fun _ _ _ _ _ _ => False
noncomputable abbrev E0 : XK := fun _ _ _ => False
theorem pass0 {X : Cx} : Passes CX0 X E0 := fun _ _ _ _ _ _ _ h => h.elim
structure Fun (K : PySem.W.Frag) (x qual : Str) (st : Stmt) (f : Addr) (fd : FuncData) : Prop where
  ex : ∃ (oc : Value) (od : Option Addr) (kV doc pm : Value) (an : Option Addr) (cdv ct : Value) (osl : Array (Option Value)),
    fd = PySem.W.fnOf x qual (defArgs st) (defBody st) (defScope st) .none kV doc pm an cdv ct ∧ K.lookup f = some ⟨oc, od, .func fd, osl⟩ ∧ PySem.W.codeIn K cdv qual = true
  kp : PySem.W.keepIn K (.ref f) = true
section
variable {P : Program} {w : World} {K : PySem.W.Frag} {mg : Str → Option Value} {base : Heap}
theorem Fun.ok {x qual : Str} {st : Stmt} {f : Addr} {fd : FuncData} {N ps : List Str} {k : Nat} {sp : Sp} (F : Fun K x qual st f fd) (S : FnScope N ps (defScope st)) (len : ∀ vs H Q E, sp vs H Q E → vs.length = ps.length)
    (hbody : ∀ (cdv : Value) (A : Around) (outer : List Env) (s : Shared) (H : Hp) (vs : List V) (Q : VK) (E : XK), Room k (A.deeper (envOfC qual (defScope st) s.heap.objs.size f cdv)) → sp vs H Q E →
      ∃ t, PSs (cxOf CX0 P w K mg base N qual (defScope st) f cdv A outer s H E).nox (defBody st) t ∧ t { nx := fun _ H' => Q .non H', rt := Q } (start N vs) H) : FnOk P w K mg base CX0 (k + 1) f fd ps sp := by
  obtain ⟨oc, od, kV, doc, pm, an, cdv, ct, osl, rfl, lk, hcd⟩ := F.ex
  refine fn_of lk hcd S len fun A outer s H vs Q E hr hsp => ?_
  obtain ⟨t, h, q⟩ := hbody cdv A outer s H vs Q E hr hsp
  exact ⟨t, h.nox, q⟩
theorem Fun.binds {x qual : Str} {st : Stmt} {f : Addr} {fd : FuncData} {ps : List Str} (F : Fun K x qual st f fd)
    (h : ∀ (kV doc pm : Value) (an : Option Addr) (cdv ct : Value) (us : List Value), us.length = ps.length → bindArgs (PySem.W.fnOf x qual (defArgs st) (defBody st) (defScope st) .none kV doc pm an cdv ct) ⟨us, []⟩ = pure (ps.zip us)) : Binds K fd ps [] := by
  obtain ⟨oc, od, kV, doc, pm, an, cdv, ct, osl, rfl, lk, hcd⟩ := F.ex
  exact .all (h kV doc pm an cdv ct)
theorem fun_mk {x qual : Str} {st : Stmt} {f : Addr} {oc : Value} {od an : Option Addr} {osl : Array (Option Value)} {kV doc pm cdv ct : Value} (l : K.lookup f = some ⟨oc, od, .func (PySem.W.fnOf x qual (defArgs st) (defBody st) (defScope st) .none kV doc pm an cdv ct), osl⟩)
    (c : PySem.W.codeIn K cdv qual = true) (k : PySem.W.keepIn K (.ref f) = true) : Fun K x qual st f (PySem.W.fnOf x qual (defArgs st) (defBody st) (defScope st) .none kV doc pm an cdv ct) := ⟨⟨oc, od, kV, doc, pm, an, cdv, ct, osl, rfl, l, c⟩, k⟩
end
section
variable {X : Cx}
noncomputable def visB (sc : Scope) (x : Str) : Bool := match sc.names.lookup x with
  | some .local => true
  | some .cell => true
  | some .free => true
  | _ => false
theorem vis_of {sc : Scope} {x : Str} (h : visB sc x = true) : Vis sc x := by
  unfold visB at h
  cases e : sc.names.lookup x with
  | none => rw [e] at h; cases h
  | some k =>
    rw [e] at h
    cases k with
    | «local» => exact .inl e
    | cell => exact .inr (.inl e)
    | free => exact .inr (.inr e)
    | _ => cases h
theorem pv (i : Nat) {x : Str} {pos : Pos} (hN : X.N[i]? = some x := by rfl) (hv : visB X.env.scope x = true := by rfl) (hd : (x == ("__debug__" : Str)) = false := by decide)
    (hcd : (x == ("__classdict__" : Str)) = false := by decide) : PE X (.Name x pos) (tVar i) := pe_var hN (vis_of hv) hd hcd
end
theorem iteF {A B : Prop} (h : B) : if false = true then A else B := by
  rw [if_neg Bool.false_ne_true]
  exact h
theorem iteT {A B : Prop} (h : A) : if true = true then A else B := by
  rw [if_pos rfl]
  exact h
noncomputable def Same (H H' : Hp) : Prop := ∀ b o, H b = some o → H' b = some o
section
variable {κ : Type} [DecidableEq κ]
end
theorem at_of {xs : List V} {z : Int} {j : Nat} {v : V} (e : z = (j : Int)) (h : xs[j]? = some v) : atI xs z = some v := by
  rw [e]
  exact atI_nat h
theorem nd_ix {α : Type} {l : List α} (hN : l.Nodup) {i j : Nat} {x : α} (a : l[i]? = some x) (b : l[j]? = some x) : i = j := by
  obtain ⟨h1, e1⟩ := List.getElem?_eq_some_iff.mp a
  obtain ⟨h2, e2⟩ := List.getElem?_eq_some_iff.mp b
  exact (List.getElem_inj hN).mp (e1.trans e2.symm)
end L2
end
section
section
set_option Elab.async false
set_option linter.all false
set_option maxRecDepth 100000
set_option maxHeartbeats 2000000
set_option genInjectivity false
set_option genSizeOf false
namespace L2
open PySem PySem.Spec PyProof.Rows
open PySem.W (WData Codec OpenSpec Well WellAll ReadsW ReadsAllW)
inductive LI (K : PySem.W.Frag) (ns : List Int) (v : V) (H : Hp) : Prop
  | mk (a : Addr) (e : v = .ref a) (s : SqL K H a (ns.map V.int)) : LI K ns v H
theorem vals_ws {P : Params} {h : Heap} : ∀ (ns : List Int) (vs : List Value), WellAll P h vs (ns.map WData.int) → Vals (ns.map V.int) vs := fun ns => by
  induction ns with
  | nil => intro vs x; cases x; exact .nil
  | cons n r ih =>
    intro vs x
    cases x with
    | cons x1 x2 => cases x1; exact .cons ⟨_, rfl⟩ (ih _ x2)
theorem reads_ws {R : PySem.W.WRecords} {cl : Str → Option Addr} {h : Heap} : ∀ (ns : List Int) (us : List Value), Vals (ns.map V.int) us → ∃ as, ReadsAllW R cl h us (ns.map WData.int) as := fun ns => by
  induction ns with
  | nil => intro us r; cases r; exact ⟨_, .nil⟩
  | cons n r ih =>
    intro us x
    cases x with
    | cons r1 r2 =>
      obtain ⟨t, rfl⟩ := r1
      obtain ⟨bs, q⟩ := ih _ r2
      exact ⟨_, .cons (.int n t) q⟩
theorem well_ws {P : Params} {h : Heap} {vals : List Value} {ds : List WData} (x : WellAll P h vals [.list ds]) : ∃ (a : Addr) (vs : List Value), vals = [.ref a] ∧ h.get? a = some { cls := .type "list", data := .seq vs.toArray } ∧ WellAll P h vs ds := by
  cases x with
  | cons x1 x2 =>
    cases x2
    cases x1 with
    | list ho hall => exact ⟨_, _, rfl, ho, hall⟩
noncomputable def OnlyF (H : Hp) : Prop := ∀ b, H b = none ∨ ∃ o u, H b = some (.frz o u)
noncomputable def argH (K : PySem.W.Frag) (a : Addr) (u : HO) : Hp := fun b => if b = a ∧ K.lookup a = none then some u else none
theorem argH_is {K : PySem.W.Frag} {a b : Addr} {u u' : HO} (q : argH K a u b = some u') : b = a ∧ K.lookup a = none ∧ u' = u := by
  unfold argH at q
  by_cases z : b = a ∧ K.lookup a = none
  · rw [if_pos z] at q
    exact ⟨z.1, z.2, (Option.some.inj q).symm⟩
  · rw [if_neg z] at q
    exact absurd q.symm (Option.some_ne_none _)
theorem argH_only {K : PySem.W.Frag} {a : Addr} {o : Obj} {u : HO} : OnlyF (argH K a (.frz o u)) := fun b => by
  cases q : argH K a (.frz o u) b with
  | none => exact .inl rfl
  | some u' => exact .inr ⟨o, u, by rw [(argH_is q).2.2]⟩
theorem spec_call {P : Program} {w : World} {K : PySem.W.Frag} {mg mb : Str → Option Value} {CX : CXT} {k : Nat} {fa : Addr} {fd : FuncData} {ps : List Str} {sp : Sp} {s₁ : Shared} {vals : List Value} {ns ms : List Int} {R : PySem.W.WRecords} {cl : Str → Option Addr}
    (KX : K.In s₁.heap) (hns : s₁.heap.Ns mainGlobals mg) (hb : s₁.heap.Ns builtinsNs mb) (hbb : ∀ x : Str, x ≠ "__name__" → mb x = bootBuiltins x) (hlim : s₁.heap.NoLimit) (hg : s₁.gens = #[])
    (hwl : WellAll w.params s₁.heap vals [.list (ns.map .int)]) (hwt : ns.length ≤ sizeLine) (hr : Room k callerA)
    (F : ∀ base : Heap, K.In base → base.Ns mainGlobals mg → FnOk P w K mg base CX k fa fd ps sp) (hbind : ∀ (s : Shared) (us : List Value), us.length = ps.length → BindsTo s fd ⟨us, []⟩ (ps.zip us)) (hlen : 1 = ps.length)
    (hsp : ∀ (H : Hp) (a : Addr), OnlyF H → SqL K H a (ns.map V.int) → sp [.ref a] H (LI K ms) fun _ _ _ => False)
    (hCX : ∀ H e s', CX [] H s₁ (fun _ _ _ => False) e s' → False) :
    codeAny (model P w) callerA (.call (.ref fa) ⟨vals, []⟩) (fun r s' => ∃ u as, r = .ok (.ret u) ∧ ReadsW R cl s'.heap u (.list (ms.map .int)) as ∧ OldK s₁.heap s'.heap ∧ s'.os = s₁.os ∧ AllBare s'.gens) s₁ := by
  obtain ⟨a, vs, rfl, ea, hall⟩ := well_ws hwl
  have hV := vals_ws ns vs hall
  have hz : (ns.map V.int).length ≤ sizeLine := by rw [List.length_map]; exact hwt
  have hO : OnlyF (argH K a (.frz { cls := .type "list", data := .seq vs.toArray } (.lst (ns.map V.int)))) := argH_only
  have hok : HOk P w (argH K a (.frz { cls := .type "list", data := .seq vs.toArray } (.lst (ns.map V.int)))) s₁.heap := fun b u q => by
    obtain ⟨rfl, _, rfl⟩ := argH_is q
    exact ⟨ea, hz, vs, _, hV, ea⟩
  have hS : SqL K (argH K a (.frz { cls := .type "list", data := .seq vs.toArray } (.lst (ns.map V.int)))) a (ns.map V.int) := by
    cases hk : K.lookup a with
    | none => exact .inl (.inr ⟨_, if_pos ⟨rfl, hk⟩⟩)
    | some o =>
      have e2 := KX a o hk
      rw [ea] at e2
      obtain rfl := Option.some.inj e2
      exact .inr ⟨_, vs.toArray, _, hk, rfl, rfl, rfl, by rw [List.size_toArray, ← hV.length]; exact hz, hV⟩
  have noA : ∀ {b : Addr} {o : Obj} {es : Array DictEntry} {ep : Nat}, s₁.heap.get? b = some o → o.data = .dict es ep → argH K a (.frz { cls := .type "list", data := .seq vs.toArray } (.lst (ns.map V.int))) b = none := fun {b o es ep} e d => by
    cases q : argH K a (.frz { cls := .type "list", data := .seq vs.toArray } (.lst (ns.map V.int))) b with
    | none => rfl
    | some u =>
      obtain ⟨rfl, _, _⟩ := argH_is q
      rw [ea] at e
      obtain rfl := Option.some.inj e
      exact Data.noConfusion d
  have hK : ∀ b u, argH K a (.frz { cls := .type "list", data := .seq vs.toArray } (.lst (ns.map V.int))) b = some u → K.lookup b = none := fun b u q => by
    obtain ⟨rfl, q2, _⟩ := argH_is q
    exact q2
  generalize argH K a (.frz { cls := .type "list", data := .seq vs.toArray } (.lst (ns.map V.int))) = H at hO hok hS hK noA
  have base_of : ∀ {b : Addr} {o : Obj}, s₁.heap.get? b = some o → H b = none → (hidT s₁.heap H).get? b = some o := fun e n => hidT_get e n
  have nsK : ∀ {b : Addr} {m : Str → Option Value}, s₁.heap.Ns b m → (hidT s₁.heap H).Ns b m := fun {b m} ⟨o, es, ep, e, d, r⟩ => ⟨o, es, ep, base_of e (noA e d), d, r⟩
  have nK : ∀ b o, K.lookup b = some o → H b = none := fun b o e => by
    cases q : H b with
    | none => rfl
    | some u => exact absurd (e.symm.trans (hK b u q)) (Option.some_ne_none _)
  have hKb : K.In (hidT s₁.heap H) := fun b o e => base_of (KX b o e) (nK b o e)
  have hM : Mod K mg (hidT s₁.heap H) := ⟨hKb, nsK hns, ⟨mb, nsK hb, hbb⟩, let ⟨mc, h1, h2⟩ := hlim; ⟨mc, nsK h1, h2⟩⟩
  have e0 : Env0 P w K mg (hidT s₁.heap H) callerA [] s₁ H := ⟨rfl, hM, fun b o e => of_hidT e, Nat.le_of_eq (hidT_size _ _), trivial, fun b hb => (nomatch (show b ∈ ([] : List Addr) from hb)), hok, .of_eq hg⟩
  refine codeAny_mono ((F _ hKb (nsK hns)).run callerA [] s₁ H ⟨[.ref a], []⟩ [.ref a] [.ref a] _ _ hr e0 (hbind s₁ _ hlen) (.cons rfl .nil) (hsp H a hO hS)) fun r s' x => ?_
  cases r with
  | error e => exact (hCX H e s' x).elim
  | ok fl =>
    cases fl with
    | next => exact False.elim x
    | brk => exact False.elim x
    | cont => exact False.elim x
    | ret u =>
      obtain ⟨v, H', os, bare, un, hok', r', b, rfl, q⟩ := x
      have kept : ∀ b o, s₁.heap.get? b = some o → s'.heap.get? b = some o := fun b o e => by
        rcases hO b with z | ⟨ob, u3, z⟩
        · exact un.keep b o e z (fun z => nomatch (show b ∈ ([] : List Addr) from z)) (by simp)
        · rw [(Option.some.inj (e.symm.trans (hok b _ z).1))]
          exact (hok' b _ (un.frzs b ob _ z)).1
      obtain rfl : u = .ref b := r'
      rcases q with q | ⟨o, its, n, e, hc, _, hd, _, hv⟩
      · obtain ⟨_, its, n, hv, e⟩ := (show ObjOk P w H' s'.heap b (.lst (ms.map V.int)) from q.ok hok')
        obtain ⟨as, hr⟩ := reads_ws (R := R) (cl := cl) (h := s'.heap) ms its hv
        exact ⟨_, _, rfl, ReadsW.list e rfl rfl hr, OldK.of_keep kept, os, bare⟩
      · obtain ⟨as, hr⟩ := reads_ws (R := R) (cl := cl) (h := s'.heap) ms its.toList hv
        exact ⟨_, _, rfl, ReadsW.list (kept _ _ (KX _ _ e)) hc hd hr, OldK.of_keep kept, os, bare⟩
theorem layable_weight {ds : List WData} (h : WData.layableAll [.list ds] = true) : ds.length ≤ sizeLine :=
  Nat.le_trans (Nat.le_trans (PySem.W.length_le_weightAllW ds) (PySem.W.layableW_iff.mp (List.all_eq_true.mp h (.list ds) (List.mem_cons_self ..))).2.2) (by decide : 1048576 ≤ sizeLine)
theorem walk_specK {r : OpenSpec} {k : Nat} {q : Program} {loose : List Str} {XP : (Str → Option Value) → Heap → Prop} {YP : World → Heap → Prop} {d : DefRec} {K : Params → PySem.W.Frag} {CX : CXT} {ps : List Str} {sp : PySem.W.Frag → Sp}
    (gi go : Codec.denoteAll r.args → List Int) (hi : ∀ a, Codec.encAll r.args a = [.list ((gi a).map .int)]) (ho : ∀ a, r.ret.enc (Codec.app r.args r.f a) = .list ((go a).map .int))
    (hwell : r.wellSaid = true) (hlen : 1 = ps.length) (hr : Room k callerA)
    (hY : ∀ (w : World) (h : Heap), YP w h → (K w.params).In h)
    (F : ∀ (w : World) (mg : Str → Option Value) (fa : Addr) (h : Heap), YP w h → (K w.params).In h → h.Ns mainGlobals mg → mg d.name = some (.ref fa) →
      ∃ fd : FuncData, (∀ (s : Shared) (us : List Value), us.length = ps.length → BindsTo s fd ⟨us, []⟩ (ps.zip us)) ∧
        ∀ base : Heap, (K w.params).In base → base.Ns mainGlobals mg → FnOk r.prog w (K w.params) mg base CX k fa fd ps (sp (K w.params)))
    (hsp : ∀ (K : PySem.W.Frag) (H : Hp) (b : Addr) (a : Codec.denoteAll r.args), Codec.withinAll r.args a = true → Codec.app r.args r.asked a = true → SqL K H b ((gi a).map V.int) → sp K [.ref b] H (LI K (go a)) fun _ _ _ => False)
    (hCX : ∀ (H : Hp) (s : Shared) (e : Value) (s' : Shared), CX [] H s (fun _ _ _ => False) e s' → False) :
    PySem.W.WalkOS q loose XP YP r d [] (fun f vs => PySem.call f vs) := by
  intro w s_0 s₁ mg mb G Y fa o pm cd doc dV kV ho' hd hcd hD hmg hg args vals as hpre hlay hrd hwl hlo
  obtain ⟨a, e1, e2⟩ := PySem.W.os_pre_some hpre
  obtain ⟨e3, hwi⟩ := Codec.encAll_of_decAll r.args args a e1
  subst e3
  rw [hi] at hlay hwl
  have KX := hY w _ Y
  obtain ⟨fd, hb, hF⟩ := F w mg fa _ Y KX G.T.g hmg
  refine PySem.W.enter_call (codeAny_mono (spec_call (R := []) (cl := classAt s_0.heap) (ms := go a) KX G.T.g G.T.b G.T.builtins G.T.nolimit hg hwl (by have z := layable_weight hlay; rw [List.length_map] at z; exact z) hr hF hb hlen
    (fun H b _ hS => hsp _ H b a hwi e2 hS) fun H e s' => hCX H s₁ e s') fun r' s' hq => ?_)
  obtain ⟨u, as', rfl, h1, h2, h3, h4⟩ := hq
  rw [← ho] at h1
  exact ⟨.inl ⟨u, _, as', rfl, fun _ => rfl, h1, (OpenSpec.post_iff hwell hwi _ _).mpr rfl, fun z => Bool.noConfusion (show false = true from z)⟩, h2, h3, h4⟩
end L2
end
end
section
set_option Elab.async false
set_option linter.all false
namespace My
open Vbtaaf
noncomputable def lx : List Nat → List Nat → Prop
  | a :: r, b :: t => a < b ∨ (a = b ∧ lx r t)
  | _, _ => False
noncomputable def sl (a b : List Nat) : Prop := a.length < b.length ∨ (a.length = b.length ∧ lx a b)
noncomputable def sle (a b : List Nat) : Prop := a = b ∨ sl a b
theorem lx_irrefl : ∀ {a : List Nat}, ¬ lx a a
  | [], h => h
  | a :: r, h => by
    rcases h with h | ⟨_, h⟩
    · omega
    · exact lx_irrefl h
theorem lx_trans : ∀ {a b c : List Nat}, lx a b → lx b c → lx a c
  | [], _, _, h, _ => h.elim
  | _ :: _, [], _, h, _ => h.elim
  | _ :: _, _ :: _, [], _, h => h.elim
  | a :: r, b :: t, c :: u, h, h' => by
    rcases h with h | ⟨e, h⟩
    · rcases h' with h' | ⟨e', _⟩
      · exact .inl (by omega)
      · exact .inl (by omega)
    · rcases h' with h' | ⟨e', h'⟩
      · exact .inl (by omega)
      · exact .inr ⟨by omega, lx_trans h h'⟩
theorem lx_app {c d : List Nat} : ∀ {a b : List Nat}, lx a b → lx (a ++ c) (b ++ d)
  | [], _, h => h.elim
  | _ :: _, [], h => h.elim
  | a :: r, b :: t, h => by
    rcases h with h | ⟨e, h⟩
    · exact .inl h
    · exact .inr ⟨e, lx_app h⟩
theorem lx_app_left {c d : List Nat} (h : lx c d) : ∀ (a : List Nat), lx (a ++ c) (a ++ d)
  | [] => h
  | a :: r => .inr ⟨rfl, lx_app_left h r⟩
theorem sl_irrefl {a : List Nat} : ¬ sl a a := fun h => by
  rcases h with h | ⟨_, h⟩
  · omega
  · exact lx_irrefl h
theorem sl_trans {a b c : List Nat} (h : sl a b) (h' : sl b c) : sl a c := by
  rcases h with h | ⟨e, h⟩
  · rcases h' with h' | ⟨e', _⟩
    · exact .inl (by omega)
    · exact .inl (by omega)
  · rcases h' with h' | ⟨e', h'⟩
    · exact .inl (by omega)
    · exact .inr ⟨by omega, lx_trans h h'⟩
theorem sle_sl {a b c : List Nat} (h : sle a b) (h' : sl b c) : sl a c := by
  rcases h with rfl | h
  · exact h'
  · exact sl_trans h h'
theorem sl_sle {a b c : List Nat} (h : sl a b) (h' : sle b c) : sl a c := by
  rcases h' with rfl | h'
  · exact h
  · exact sl_trans h h'
theorem sle_trans {a b c : List Nat} (h : sle a b) (h' : sle b c) : sle a c := by
  rcases h with rfl | h
  · exact h'
  · exact .inr (sl_sle h h')
theorem sle_antisymm {a b : List Nat} (h : sle a b) (h' : sle b a) : a = b := by
  rcases h with h | h
  · exact h
  · exact absurd (sl_sle h h') sl_irrefl
theorem sl_snoc {a b : List Nat} (h : sl a b) (k k' : Nat) : sl (a ++ [k]) (b ++ [k']) := by
  rcases h with h | ⟨e, h⟩
  · exact .inl (by simp; omega)
  · exact .inr ⟨by simp; omega, lx_app h⟩
theorem sle_snoc {a b : List Nat} (h : sle a b) (k : Nat) : sle (a ++ [k]) (b ++ [k]) := by
  rcases h with rfl | h
  · exact .inl rfl
  · exact .inr (sl_snoc h k k)
theorem sl_self_snoc (a : List Nat) (k : Nat) : sl a (a ++ [k]) := .inl (by simp)
theorem sl_snoc_lt (a : List Nat) {k k' : Nat} (h : k < k') : sl (a ++ [k]) (a ++ [k']) := .inr ⟨by simp, lx_app_left (show lx [k] [k'] from Or.inl h) a⟩
theorem sle_nil (a : List Nat) : sle [] a := by
  cases a with
  | nil => exact .inl rfl
  | cons x r => exact .inr (.inl (by simp))
theorem nodup_le : ∀ (N : Nat) (l : List Nat), l.Nodup → (∀ x ∈ l, x < N) → l.length ≤ N
  | 0, l, _, h => by
    cases l with
    | nil => simp
    | cons x r => exact absurd (h x (by simp)) (by omega)
  | N + 1, l, hn, h => by
    have h1 := nodup_le N (l.erase N) (hn.erase N) (fun x hx => by
      have h2 : x ∈ l := List.mem_of_mem_erase hx
      have h3 := h x h2
      have h4 : x ≠ N := fun e => by
        subst e
        exact (List.Nodup.not_mem_erase hn) hx
      omega)
    rw [List.length_erase] at h1
    split at h1 <;> omega
end My
end
section
set_option Elab.async false
set_option linter.all false
namespace My
open Vbtaaf
noncomputable abbrev Own := List (Nat × Deed)
noncomputable def Go (n : Nat) (own : Own) : List Nat → Nat → Nat → Prop
  | [], w, v => w = v
  | k :: ks, w, v => ∃ d, (k, d) ∈ own ∧ can d w = true ∧ Go n own ks (done n d w) v
noncomputable def IsPlan (n : Nat) (own : Own) (g : Nat → Bool) (w : Nat) (ks : List Nat) : Prop := ∃ v, Go n own ks w v ∧ g v = true
noncomputable def Best (n : Nat) (own : Own) (g : Nat → Bool) (w : Nat) (ks : List Nat) : Prop := IsPlan n own g w ks ∧ ∀ ks', IsPlan n own g w ks' → sle ks ks'
theorem Best.same {n : Nat} {own : Own} {g : Nat → Bool} {w : Nat} {a b : List Nat} (ha : Best n own g w a) (hb : Best n own g w b) : a = b := sle_antisymm (ha.2 b hb.1) (hb.2 a ha.1)
theorem Go.snoc {n : Nat} {own : Own} {k : Nat} {d : Deed} (hm : (k, d) ∈ own) : ∀ {ks : List Nat} {w v : Nat}, Go n own ks w v → can d v = true → Go n own (ks ++ [k]) w (done n d v)
  | [], w, v, h, hc => by
    have e : w = v := h
    subst e
    exact ⟨d, hm, hc, rfl⟩
  | k' :: ks, w, v, ⟨d', h1, h2, h3⟩, hc => ⟨d', h1, h2, Go.snoc hm h3 hc⟩
theorem Go.unsnoc {n : Nat} {own : Own} {k : Nat} : ∀ {ks : List Nat} {w x : Nat}, Go n own (ks ++ [k]) w x → ∃ v d, Go n own ks w v ∧ (k, d) ∈ own ∧ can d v = true ∧ x = done n d v
  | [], w, x, ⟨d, h1, h2, h3⟩ => ⟨w, d, rfl, h1, h2, Eq.symm h3⟩
  | k' :: ks, w, x, ⟨d', h1, h2, h3⟩ => by
    obtain ⟨v, d, a, b, c, e⟩ := Go.unsnoc h3
    exact ⟨v, d, ⟨d', h1, h2, a⟩, b, c, e⟩
noncomputable def OwnOk (n : Nat) (own : Own) : Prop := ∀ p ∈ own, p.2.add < 2 ^ n
theorem done_lt {n : Nat} {d : Deed} {w : Nat} (ha : d.add < 2 ^ n) (hw : w < 2 ^ n) : done n d w < 2 ^ n := by
  unfold done without
  exact Nat.or_lt_two_pow (Nat.lt_of_le_of_lt Nat.and_le_left hw) ha
theorem Go.lt {n : Nat} {own : Own} (ho : OwnOk n own) : ∀ {ks : List Nat} {w v : Nat}, w < 2 ^ n → Go n own ks w v → v < 2 ^ n
  | [], w, v, hw, h => by
    have e : w = v := h
    omega
  | k :: ks, w, v, hw, ⟨d, h1, h2, h3⟩ => Go.lt ho (done_lt (ho _ h1) hw) h3
noncomputable def D (n : Nat) (ds : List Deed) (g : Nat → Bool) : Nat → Nat → Prop
  | 0, w => g w = true
  | m + 1, w => ∃ d ∈ ds, can d w = true ∧ D n ds g m (done n d w)
noncomputable def Dist (n : Nat) (ds : List Deed) (g : Nat → Bool) (w m : Nat) : Prop := D n ds g m w ∧ ∀ j, j < m → ¬ D n ds g j w
theorem Dist.inj {n : Nat} {ds : List Deed} {g : Nat → Bool} {w a b : Nat} (ha : Dist n ds g w a) (hb : Dist n ds g w b) : a = b := by
  rcases Nat.lt_trichotomy a b with h | h | h
  · exact absurd ha.1 (hb.2 a h)
  · exact h
  · exact absurd hb.1 (ha.2 b h)
theorem Dist.ex {n : Nat} {ds : List Deed} {g : Nat → Bool} {w : Nat} : ∀ {m : Nat}, D n ds g m w → ∃ j, j ≤ m ∧ Dist n ds g w j := by
  intro m
  induction m using Nat.strongRecOn with
  | ind m ih =>
    intro h
    by_cases e : ∃ j, j < m ∧ D n ds g j w
    · obtain ⟨j, hj, hd⟩ := e
      obtain ⟨i, hi, hx⟩ := ih j hj hd
      exact ⟨i, by omega, hx⟩
    · exact ⟨m, Nat.le_refl _, h, fun j hj hd => e ⟨j, hj, hd⟩⟩
theorem Dist.step {n : Nat} {ds : List Deed} {g : Nat → Bool} {w m : Nat} {d : Deed} (hd : d ∈ ds) (hc : can d w = true) (hm : D n ds g m (done n d w)) (h : ∀ j, j < m + 1 → ¬ D n ds g j w) : Dist n ds g (done n d w) m :=
  ⟨hm, fun j hj h' => h (j + 1) (by omega) ⟨d, hd, hc, h'⟩⟩
theorem Dist.down {n : Nat} {ds : List Deed} {g : Nat → Bool} {w m : Nat} (h : Dist n ds g w (m + 1)) : ∃ d ∈ ds, can d w = true ∧ Dist n ds g (done n d w) m := by
  obtain ⟨⟨d, hd, hc, hm⟩, hj⟩ := h
  exact ⟨d, hd, hc, Dist.step hd hc hm hj⟩
noncomputable def DsOk (n : Nat) (ds : List Deed) : Prop := ∀ d ∈ ds, d.add < 2 ^ n
theorem Dist.to {n : Nat} {ds : List Deed} {g : Nat → Bool} (ho : DsOk n ds) : ∀ {m w : Nat}, w < 2 ^ n → Dist n ds g w m → ∀ j, j ≤ m → ∃ v, v < 2 ^ n ∧ Dist n ds g v j
  | 0, w, hw, h, j, hj => ⟨w, hw, by have e : j = 0 := by omega
                                     subst e; exact h⟩
  | m + 1, w, hw, h, j, hj => by
    by_cases e : j = m + 1
    · subst e; exact ⟨w, hw, h⟩
    · obtain ⟨d, hd, hc, h'⟩ := h.down
      exact Dist.to ho (done_lt (ho d hd) hw) h' j (by omega)
theorem Dist.chain {n : Nat} {ds : List Deed} {g : Nat → Bool} (ho : DsOk n ds) : ∀ {m w : Nat}, w < 2 ^ n → Dist n ds g w m → ∃ l : List Nat, l.length = m + 1 ∧ l.Nodup ∧ ∀ x ∈ l, x < 2 ^ n ∧ ∃ j, j ≤ m ∧ Dist n ds g x j
  | 0, w, hw, h => ⟨[w], rfl, by simp, fun x hx => by
      have e : x = w := by simpa using hx
      subst e; exact ⟨hw, 0, Nat.le_refl _, h⟩⟩
  | m + 1, w, hw, h => by
    obtain ⟨d, hd, hc, h'⟩ := h.down
    obtain ⟨l, e1, e2, e3⟩ := Dist.chain ho (done_lt (ho d hd) hw) h'
    refine ⟨w :: l, by simp [e1], List.nodup_cons.mpr ⟨fun hm => ?_, e2⟩, fun x hx => ?_⟩
    · obtain ⟨_, j, hj, hx⟩ := e3 w hm
      have := hx.inj h
      omega
    · rcases List.mem_cons.mp hx with e | hx
      · subst e; exact ⟨hw, m + 1, Nat.le_refl _, h⟩
      · obtain ⟨h1, j, hj, h2⟩ := e3 x hx
        exact ⟨h1, j, by omega, h2⟩
theorem Dist.lt {n : Nat} {ds : List Deed} {g : Nat → Bool} (ho : DsOk n ds) {m w : Nat} (hw : w < 2 ^ n) (h : Dist n ds g w m) : m < 2 ^ n := by
  obtain ⟨l, e1, e2, e3⟩ := h.chain ho hw
  have := nodup_le (2 ^ n) l e2 fun x hx => (e3 x hx).1
  omega
structure ROk (n : Nat) (ds : List Deed) (g : Nat → Bool) (k : Nat) (t : Ranks) : Prop where
  len : t.length = 2 ^ n
  at_ : ∀ w, w < 2 ^ n → ∀ m, rank t w = m + 1 ↔ (m < k ∧ Dist n ds g w m)
theorem rank_goals {n : Nat} {a : Actor} {w : Nat} (hw : w < 2 ^ n) : rank (goals n a) w = if reached a w = true then 1 else 0 := by
  unfold rank goals
  rw [List.getD_eq_getElem?_getD, List.getElem?_map, List.getElem?_range hw]
  rfl
theorem goals_ok (n : Nat) (ds : List Deed) (a : Actor) : ROk n ds (reached a) 1 (goals n a) := by
  refine ⟨by simp [goals], fun w hw m => ?_⟩
  rw [rank_goals hw]
  constructor
  · intro h
    split at h
    · rename_i hr
      have e : m = 0 := by omega
      subst e
      exact ⟨by omega, hr, fun j hj => absurd hj (by omega)⟩
    · omega
  · rintro ⟨h1, h2⟩
    have e : m = 0 := by omega
    subst e
    rw [if_pos (show reached a w = true from h2.1)]
theorem rank_further {n : Nat} {ds : List Deed} {k : Nat} {t : Ranks} (hl : t.length = 2 ^ n) {w : Nat} (hw : w < 2 ^ n) :
    rank (further n ds k t) w = if rank t w = 0 ∧ (ds.any fun d => can d w && rank t (done n d w) == k) = true then k + 1 else rank t w := by
  have e : t[w]? = some (rank t w) := by
    unfold rank
    rw [List.getD_eq_getElem?_getD, List.getElem?_eq_getElem (by omega)]
    rfl
  unfold further
  show (List.map _ _).getD w 0 = _
  rw [List.getD_eq_getElem?_getD, List.getElem?_map, (List.getElem?_zip_eq_some (z := (w, rank t w))).mpr ⟨List.getElem?_range hw, e⟩]
  rfl
theorem ROk.further {n : Nat} {ds : List Deed} {g : Nat → Bool} {k : Nat} {t : Ranks} (ho : DsOk n ds) (hk : 1 ≤ k) (h : ROk n ds g k t) : ROk n ds g (k + 1) (Vbtaaf.further n ds k t) := by
  obtain ⟨k, rfl⟩ : ∃ j, k = j + 1 := ⟨k - 1, by omega⟩
  refine ⟨by unfold Vbtaaf.further; simp [h.len], fun w hw m => ?_⟩
  rw [rank_further h.len hw]
  have hz : rank t w = 0 → ∀ j, j < k + 1 → ¬ D n ds g j w := fun h0 j hj hd => by
    obtain ⟨i, hi, hx⟩ := Dist.ex hd
    have := (h.at_ w hw i).mpr ⟨by omega, hx⟩
    omega
  have hany : rank t w = 0 → ((ds.any fun d => can d w && rank t (done n d w) == k + 1) = true ↔ Dist n ds g w (k + 1)) := fun h0 => by
    rw [List.any_eq_true]
    constructor
    · rintro ⟨d, hd, hh⟩
      rw [Bool.and_eq_true] at hh
      have h1 := eq_of_beq hh.2
      have h2 := (h.at_ _ (done_lt (ho d hd) hw) k).mp h1
      exact ⟨⟨d, hd, hh.1, h2.2.1⟩, hz h0⟩
    · intro hx
      obtain ⟨d, hd, hc, h'⟩ := hx.down
      refine ⟨d, hd, ?_⟩
      rw [Bool.and_eq_true]
      exact ⟨hc, beq_iff_eq.mpr ((h.at_ _ (done_lt (ho d hd) hw) k).mpr ⟨by omega, h'⟩)⟩
  by_cases h0 : rank t w = 0
  · by_cases ha : (ds.any fun d => can d w && rank t (done n d w) == k + 1) = true
    · rw [if_pos ⟨h0, ha⟩]
      have hx := (hany h0).mp ha
      constructor
      · intro e
        have e : m = k + 1 := by omega
        subst e
        exact ⟨by omega, hx⟩
      · rintro ⟨_, h2⟩
        have := h2.inj hx
        omega
    · rw [if_neg (fun z => ha z.2)]
      constructor
      · intro e
        omega
      · rintro ⟨h1, h2⟩
        by_cases e : m = k + 1
        · subst e
          exact absurd ((hany h0).mpr h2) ha
        · exact absurd h2.1 (hz h0 m (by omega))
  · rw [if_neg (fun z => h0 z.1)]
    rw [h.at_ w hw m]
    constructor
    · rintro ⟨h1, h2⟩
      exact ⟨by omega, h2⟩
    · rintro ⟨h1, h2⟩
      refine ⟨?_, h2⟩
      obtain ⟨m', hm'⟩ : ∃ m', rank t w = m' + 1 := ⟨rank t w - 1, by omega⟩
      have h3 := (h.at_ w hw m').mp hm'
      have := h3.2.inj h2
      omega
noncomputable def RFin (n : Nat) (ds : List Deed) (g : Nat → Bool) (t : Ranks) : Prop := ∀ w, w < 2 ^ n → ∀ m, rank t w = m + 1 ↔ Dist n ds g w m
theorem ranksFrom_ok {n : Nat} {ds : List Deed} {g : Nat → Bool} (ho : DsOk n ds) : ∀ (f k : Nat) (t : Ranks), 1 ≤ k → k + f = 2 ^ n + 1 → ROk n ds g k t → RFin n ds g (ranksFrom n ds f k t)
  | 0, k, t, hk, hf, h => fun w hw m => by
    show rank t w = m + 1 ↔ _
    rw [h.at_ w hw m]
    constructor
    · exact fun z => z.2
    · intro z
      have := z.lt ho hw
      exact ⟨by omega, z⟩
  | f + 1, k, t, hk, hf, h => by
    unfold ranksFrom
    split
    · exact ranksFrom_ok ho f (k + 1) _ (by omega) (by omega) (h.further ho hk)
    · rename_i hn
      intro w hw m
      rw [h.at_ w hw m]
      constructor
      · exact fun z => z.2
      · intro z
        refine ⟨?_, z⟩
        by_cases hm : m < k
        · exact hm
        · obtain ⟨v, hv, hx⟩ := Dist.to ho hw z (k - 1) (by omega)
          have h1 := (h.at_ v hv (k - 1)).mpr ⟨by omega, hx⟩
          exfalso
          apply hn
          rw [List.any_eq_true]
          have h2 : v < t.length := by rw [h.len]; exact hv
          refine ⟨rank t v, ?_, beq_iff_eq.mpr (by omega)⟩
          unfold rank
          rw [List.getD_eq_getElem?_getD, List.getElem?_eq_getElem h2]
          exact List.getElem_mem h2
theorem ranks_ok {n : Nat} {ds : List Deed} (ho : DsOk n ds) (a : Actor) : RFin n ds (reached a) (ranks n ds a) := ranksFrom_ok ho (2 ^ n) 1 _ (by omega) (by omega) (goals_ok n ds a)
theorem firstDeed_some {n : Nat} {t : Ranks} {w k : Nat} : ∀ {ds : List Deed} {i : Nat} {p : Nat × Deed}, firstDeed n t w k i ds = some p →
    ∃ r, p.1 = i + r ∧ ds[r]? = some p.2 ∧ can p.2 w = true ∧ rank t (done n p.2 w) = k ∧ ∀ r' d', r' < r → ds[r']? = some d' → ¬ (can d' w = true ∧ rank t (done n d' w) = k)
  | [], i, p, h => by cases h
  | d :: ds, i, p, h => by
    unfold firstDeed at h
    split at h
    · rename_i hc
      cases h
      exact ⟨0, rfl, rfl, hc.1, hc.2, fun r' _ hr => absurd hr (by omega)⟩
    · rename_i hc
      obtain ⟨r, e1, e2, e3, e4, e5⟩ := firstDeed_some h
      refine ⟨r + 1, by omega, by simpa using e2, e3, e4, fun r' d' hr hd => ?_⟩
      cases r' with
      | zero =>
        have e : d = d' := by simpa using hd
        subst e
        exact hc
      | succ r' => exact e5 r' d' (by omega) (by simpa using hd)
theorem firstDeed_none {n : Nat} {t : Ranks} {w k : Nat} : ∀ {ds : List Deed} {i : Nat}, firstDeed n t w k i ds = none → ∀ d ∈ ds, ¬ (can d w = true ∧ rank t (done n d w) = k)
  | [], i, h, d, hd => by simp at hd
  | d :: ds, i, h, d', hd => by
    unfold firstDeed at h
    split at h
    · cases h
    · rename_i hc
      rcases List.mem_cons.mp hd with e | hd
      · subst e; exact hc
      · exact firstDeed_none h d' hd
noncomputable def dsOf (own : Own) : List Deed := own.map fun x => x.2
noncomputable def numOf (own : Own) (i : Nat) : Nat := (own[i]?.map fun x => x.1).getD 0
theorem D_of_plan {n : Nat} {own : Own} {g : Nat → Bool} : ∀ {ks : List Nat} {w : Nat}, IsPlan n own g w ks → D n (dsOf own) g ks.length w
  | [], w, ⟨v, h, hg⟩ => by
    have e : w = v := h
    subst e; exact hg
  | k :: ks, w, ⟨v, ⟨d, h1, h2, h3⟩, hg⟩ => ⟨d, List.mem_map.mpr ⟨_, h1, rfl⟩, h2, D_of_plan ⟨v, h3, hg⟩⟩
theorem planFrom_best {n : Nat} {own : Own} {g : Nat → Bool} {t : Ranks} (ho : OwnOk n own) (hp : own.Pairwise fun x y => x.1 < y.1) (ht : RFin n (dsOf own) g t) :
    ∀ {k w : Nat}, w < 2 ^ n → rank t w = k + 1 → (planFrom n (dsOf own) t k w).length = k ∧ Best n own g w ((planFrom n (dsOf own) t k w).map (numOf own))
  | 0, w, hw, hr => by
    have hd := (ht w hw 0).mp hr
    exact ⟨rfl, ⟨w, rfl, hd.1⟩, fun ks' _ => sle_nil ks'⟩
  | k + 1, w, hw, hr => by
    have ho' : DsOk n (dsOf own) := fun d hd => by
      obtain ⟨p, hp, rfl⟩ := List.mem_map.mp hd
      exact ho p hp
    have hd := (ht w hw (k + 1)).mp hr
    unfold planFrom
    cases e : firstDeed n t w (k + 1) 0 (dsOf own) with
    | none =>
      obtain ⟨d, hd1, hc, h'⟩ := hd.down
      exact absurd ⟨hc, (ht _ (done_lt (ho' d hd1) hw) k).mpr h'⟩ (firstDeed_none e d hd1)
    | some p =>
      obtain ⟨r, e1, e2, e3, e4, e5⟩ := firstDeed_some e
      have e1 : p.1 = r := by omega
      obtain ⟨x, hx, e6⟩ : ∃ x, own[r]? = some x ∧ x.2 = p.2 := by
        unfold dsOf at e2
        rw [List.getElem?_map] at e2
        cases q : own[r]? with
        | none => rw [q] at e2; cases e2
        | some x => rw [q] at e2; exact ⟨x, rfl, Option.some.inj e2⟩
      have hxm : x ∈ own := List.mem_of_getElem? hx
      have hnum : numOf own p.1 = x.1 := by unfold numOf; rw [e1, hx]; rfl
      have hlt : done n p.2 w < 2 ^ n := done_lt (by rw [← e6]; exact ho x hxm) hw
      obtain ⟨ih1, ⟨v, ih2, ih3⟩, ih4⟩ := planFrom_best ho hp ht hlt e4
      refine ⟨by simp [ih1], ⟨v, ⟨p.2, ?_, e3, ih2⟩, ih3⟩, ?_⟩
      · rw [hnum, ← e6]; exact hxm
      · intro ks' hk'
        show sle (numOf own p.1 :: (planFrom n (dsOf own) t k (done n p.2 w)).map (numOf own)) ks'
        have hD := D_of_plan hk'
        have hlen : k + 1 ≤ ks'.length := by
          apply Nat.le_of_not_lt
          intro hh
          exact hd.2 _ hh hD
        by_cases hlen2 : ks'.length = k + 1
        · obtain ⟨v', hgo, hgv⟩ := hk'
          cases ks' with
          | nil => simp at hlen2
          | cons k1 r1 =>
            obtain ⟨d1, m1, c1, g1⟩ := hgo
            have hr1 : r1.length = k := by simpa using hlen2
            have pl1 : IsPlan n own g (done n d1 w) r1 := ⟨v', g1, hgv⟩
            have D1 : D n (dsOf own) g k (done n d1 w) := by rw [← hr1]; exact D_of_plan pl1
            have m1' : d1 ∈ dsOf own := List.mem_map.mpr ⟨_, m1, rfl⟩
            have dist1 := Dist.step m1' c1 D1 hd.2
            have rk1 := (ht _ (done_lt (ho' d1 m1') hw) k).mpr dist1
            obtain ⟨j1, hj1⟩ := List.getElem?_of_mem m1
            have hge : r ≤ j1 := by
              apply Nat.le_of_not_lt
              intro hh
              refine e5 j1 d1 hh ?_ ⟨c1, rk1⟩
              unfold dsOf
              rw [List.getElem?_map, hj1]
              rfl
            by_cases hjr : j1 = r
            · subst hjr
              rw [hx] at hj1
              have ex : x = (k1, d1) := Option.some.inj hj1
              have ed : d1 = p.2 := by rw [← e6, ex]
              subst ed
              have en : numOf own p.1 = k1 := by rw [hnum, ex]
              rw [en]
              rcases ih4 r1 pl1 with h | h
              · exact .inl (by rw [h])
              · rcases h with h | ⟨h1, h2⟩
                · exact .inr (.inl (by simpa using h))
                · exact .inr (.inr ⟨by simpa using h1, .inr ⟨rfl, h2⟩⟩)
            · have hlt2 : x.1 < k1 := by
                obtain ⟨b1, q1⟩ := List.getElem?_eq_some_iff.mp hx
                obtain ⟨b2, q2⟩ := List.getElem?_eq_some_iff.mp hj1
                have h := (List.pairwise_iff_getElem.mp hp) r j1 b1 b2 (by omega)
                rw [q1, q2] at h
                exact h
              refine .inr (.inr ⟨by simp [ih1, hr1], .inl ?_⟩)
              rw [hnum]
              exact hlt2
        · refine .inr (.inl ?_)
          simp [ih1]
          omega
theorem no_plan {n : Nat} {own : Own} {g : Nat → Bool} {t : Ranks} (ht : RFin n (dsOf own) g t) {w : Nat} (hw : w < 2 ^ n) (hr : rank t w = 0) : ∀ ks, ¬ IsPlan n own g w ks := fun ks h => by
  obtain ⟨j, _, hx⟩ := Dist.ex (D_of_plan h)
  have := (ht w hw j).mpr hx
  omega
end My
end
section
set_option Elab.async false
set_option linter.all false
namespace My
open Vbtaaf
noncomputable abbrev Qu := List (Nat × List Nat)
noncomputable def tryDeed (n here : Nat) (plan : List Nat) (q : Qu) (p : Nat × Deed) : Qu :=
  if can p.2 here = true ∧ ¬ done n p.2 here ∈ q.map (·.1) then q ++ [(done n p.2 here, plan ++ [p.1])] else q
structure Bfs (n : Nat) (own : Own) (g : Nat → Bool) (w0 : Nat) (at_ : Nat) (q : Qu) : Prop where
  head : q[0]? = some (w0, [])
  go : ∀ e ∈ q, Go n own e.2 w0 e.1
  nd : (q.map (·.1)).Nodup
  lt : ∀ e ∈ q, e.1 < 2 ^ n
  srt : (q.map (·.2)).Pairwise sl
  len : ∀ (i : Nat) e, q[i]? = some e → e.2.length ≤ i
  le : at_ ≤ q.length
  cl : ∀ (i : Nat), i < at_ → ∀ u ks, q[i]? = some (u, ks) → g u = false ∧ ∀ k d, (k, d) ∈ own → can d u = true → ∃ ks', (done n d u, ks') ∈ q ∧ sle ks' (ks ++ [k])
  bd : ∀ u ks, q[at_]? = some (u, ks) → ∀ e ∈ q, ∀ k, sl e.2 (ks ++ [k])
theorem Bfs.start {n : Nat} {own : Own} {g : Nat → Bool} {w : Nat} (hw : w < 2 ^ n) : Bfs n own g w 0 [(w, [])] := by
  refine ⟨rfl, fun e he => ?_, by simp, fun e he => ?_, by simp, fun i e he => ?_, by simp, fun i hi => absurd hi (by omega), fun u ks h e he k => ?_⟩
  · have e1 : e = (w, []) := by simpa using he
    subst e1; exact rfl
  · have e1 : e = (w, []) := by simpa using he
    subst e1; exact hw
  · cases i with
    | zero =>
      have e1 : (w, []) = e := by simpa using he
      subst e1; simp
    | succ i => simp at he
  · have e1 : e = (w, []) := by simpa using he
    have e2 : w = u ∧ [] = ks := by simpa using h
    subst e1
    rw [← e2.2]
    exact .inl (by simp)
theorem Bfs.bound {n : Nat} {own : Own} {g : Nat → Bool} {w a : Nat} {q : Qu} (B : Bfs n own g w a q) : q.length ≤ 2 ^ n := by
  have := nodup_le (2 ^ n) (q.map (·.1)) B.nd fun x hx => by
    obtain ⟨e, he, rfl⟩ := List.mem_map.mp hx
    exact B.lt e he
  simpa using this
structure In (n : Nat) (own : Own) (w0 : Nat) (a u : Nat) (ks : List Nat) (q : Qu) (pre : Own) (q' : Qu) : Prop where
  ext : ∃ more, q' = q ++ more
  go : ∀ e ∈ q', Go n own e.2 w0 e.1
  nd : (q'.map (·.1)).Nodup
  lt : ∀ e ∈ q', e.1 < 2 ^ n
  srt : (q'.map (·.2)).Pairwise sl
  len : ∀ (i : Nat) e, q'[i]? = some e → e.2.length ≤ i
  tried : ∀ k d, (k, d) ∈ pre → can d u = true → ∃ ks', (done n d u, ks') ∈ q' ∧ sle ks' (ks ++ [k])
  up : ∀ e ∈ q', ∀ k, (∀ p ∈ pre, p.1 < k) → sl e.2 (ks ++ [k])
  up' : ∀ e ∈ q', ∃ k, sle e.2 (ks ++ [k])
theorem In.start {n : Nat} {own : Own} {g : Nat → Bool} {w a u : Nat} {ks : List Nat} {q : Qu} (B : Bfs n own g w a q) (h : q[a]? = some (u, ks)) : In n own w a u ks q [] q :=
  ⟨⟨[], by simp⟩, B.go, B.nd, B.lt, B.srt, B.len, fun k d h => by simp at h, fun e he k _ => B.bd u ks h e he k, fun e he => ⟨0, .inr (B.bd u ks h e he 0)⟩⟩
theorem In.step {n : Nat} {own : Own} {w a u : Nat} {ks : List Nat} {q q' : Qu} {pre : Own} {p : Nat × Deed} (ho : OwnOk n own) (hp : p ∈ own) (hlt : ∀ x ∈ pre, x.1 < p.1) (ha : q[a]? = some (u, ks)) (I : In n own w a u ks q pre q') :
    In n own w a u ks q (pre ++ [p]) (tryDeed n u ks q' p) := by
  obtain ⟨k, d⟩ := p
  obtain ⟨more, hm⟩ := I.ext
  have hal : a < q.length := (List.getElem?_eq_some_iff.mp ha).1
  have ha' : q'[a]? = some (u, ks) := by rw [hm, List.getElem?_append_left hal]; exact ha
  have hmem : (u, ks) ∈ q' := List.mem_of_getElem? ha'
  unfold tryDeed
  split
  · rename_i hc
    have hc1 : can d u = true := hc.1
    have hc2 : ¬ done n d u ∈ q'.map (·.1) := hc.2
    refine ⟨⟨more ++ [(done n d u, ks ++ [k])], by rw [hm, List.append_assoc]⟩, fun e he => ?_, ?_, fun e he => ?_, ?_, fun i e he => ?_, fun k1 d1 h1 c1 => ?_, fun e he k1 hk1 => ?_, fun e he => ?_⟩
    · rcases List.mem_append.mp he with he | he
      · exact I.go e he
      · have e1 : e = (done n d u, ks ++ [k]) := by simpa using he
        subst e1
        exact Go.snoc hp (I.go _ hmem) hc1
    · rw [List.map_append]
      refine List.nodup_append.mpr ⟨I.nd, by simp, fun x hx y hy => ?_⟩
      have e1 : y = done n d u := by simpa using hy
      subst e1
      exact fun z => hc2 (z ▸ hx)
    · rcases List.mem_append.mp he with he | he
      · exact I.lt e he
      · have e1 : e = (done n d u, ks ++ [k]) := by simpa using he
        subst e1
        exact done_lt (ho _ hp) (I.lt _ hmem)
    · rw [List.map_append]
      refine List.pairwise_append.mpr ⟨I.srt, by simp, fun x hx y hy => ?_⟩
      have e1 : y = ks ++ [k] := by simpa using hy
      subst e1
      obtain ⟨e, he, rfl⟩ := List.mem_map.mp hx
      exact I.up e he k hlt
    · by_cases hi : i < q'.length
      · rw [List.getElem?_append_left hi] at he
        exact I.len i e he
      · have hi2 := (List.getElem?_eq_some_iff.mp he).1
        simp at hi2
        have hi3 : i = q'.length := by omega
        subst hi3
        have e1 : (done n d u, ks ++ [k]) = e := by simpa using he
        subst e1
        have h1 := I.len a _ ha'
        have h2 : a < q'.length := (List.getElem?_eq_some_iff.mp ha').1
        simp at h1 ⊢
        omega
    · rcases List.mem_append.mp h1 with h1 | h1
      · obtain ⟨ks', h2, h3⟩ := I.tried k1 d1 h1 c1
        exact ⟨ks', List.mem_append_left _ h2, h3⟩
      · have e1 : k1 = k ∧ d1 = d := by simpa using h1
        obtain ⟨rfl, rfl⟩ := e1
        exact ⟨ks ++ [k1], by simp, .inl rfl⟩
    · rcases List.mem_append.mp he with he | he
      · exact I.up e he k1 fun x hx => hk1 x (List.mem_append_left _ hx)
      · have e1 : e = (done n d u, ks ++ [k]) := by simpa using he
        subst e1
        exact sl_snoc_lt ks (hk1 (k, d) (by simp))
    · rcases List.mem_append.mp he with he | he
      · exact I.up' e he
      · have e1 : e = (done n d u, ks ++ [k]) := by simpa using he
        subst e1
        exact ⟨k, .inl rfl⟩
  · rename_i hc
    refine ⟨⟨more, hm⟩, I.go, I.nd, I.lt, I.srt, I.len, fun k1 d1 h1 c1 => ?_, fun e he k1 hk1 => I.up e he k1 fun x hx => hk1 x (List.mem_append_left _ hx), I.up'⟩
    rcases List.mem_append.mp h1 with h1 | h1
    · exact I.tried k1 d1 h1 c1
    · have e1 : k1 = k ∧ d1 = d := by simpa using h1
      obtain ⟨rfl, rfl⟩ := e1
      have hin : done n d1 u ∈ q'.map (·.1) := Classical.byContradiction fun z => hc ⟨c1, z⟩
      obtain ⟨e, he, e2⟩ := List.mem_map.mp hin
      refine ⟨e.2, by rw [← e2]; exact he, .inr (I.up e he k1 hlt)⟩
theorem In.next {n : Nat} {own : Own} {g : Nat → Bool} {w a u : Nat} {ks : List Nat} {q q' : Qu} (B : Bfs n own g w a q) (ha : q[a]? = some (u, ks)) (hg : g u = false) (I : In n own w a u ks q own q') : Bfs n own g w (a + 1) q' := by
  obtain ⟨more, hm⟩ := I.ext
  have hal : a < q.length := (List.getElem?_eq_some_iff.mp ha).1
  have ha' : q'[a]? = some (u, ks) := by rw [hm, List.getElem?_append_left hal]; exact ha
  refine ⟨?_, I.go, I.nd, I.lt, I.srt, I.len, ?_, fun i hi u1 ks1 h1 => ?_, fun u1 ks1 h1 e he k => ?_⟩
  · rw [hm, List.getElem?_append_left (by omega)]; exact B.head
  · rw [hm, List.length_append]; omega
  · by_cases hia : i = a
    · subst hia
      rw [ha'] at h1
      have e1 : u = u1 ∧ ks = ks1 := by simpa using h1
      obtain ⟨rfl, rfl⟩ := e1
      exact ⟨hg, fun k d hkd hc => I.tried k d hkd hc⟩
    · have h2 : q[i]? = some (u1, ks1) := by rw [hm, List.getElem?_append_left (by omega)] at h1; exact h1
      obtain ⟨h3, h4⟩ := B.cl i (by omega) u1 ks1 h2
      refine ⟨h3, fun k d hkd hc => ?_⟩
      obtain ⟨ks', h5, h6⟩ := h4 k d hkd hc
      exact ⟨ks', by rw [hm]; exact List.mem_append_left _ h5, h6⟩
  · obtain ⟨k0, h0⟩ := I.up' e he
    have h2 : sl ks ks1 := by
      obtain ⟨b1, q1⟩ := List.getElem?_eq_some_iff.mp ha'
      obtain ⟨b2, q2⟩ := List.getElem?_eq_some_iff.mp h1
      have h := (List.pairwise_iff_getElem.mp I.srt) a (a + 1) (by simpa using b1) (by simpa using b2) (by omega)
      rw [List.getElem_map, List.getElem_map, q1, q2] at h
      exact h
    exact sle_sl h0 (sl_snoc h2 k0 k)
theorem In.bound {n : Nat} {own : Own} {w a u : Nat} {ks : List Nat} {q q' : Qu} {pre : Own} (I : In n own w a u ks q pre q') : q'.length ≤ 2 ^ n := by
  have := nodup_le (2 ^ n) (q'.map (·.1)) I.nd fun x hx => by
    obtain ⟨e, he, rfl⟩ := List.mem_map.mp hx
    exact I.lt e he
  simpa using this
theorem Bfs.path {n : Nat} {own : Own} {g : Nat → Bool} {w a b u : Nat} {ks : List Nat} {q : Qu} (B : Bfs n own g w b q) (hab : a ≤ b) (ha : q[a]? = some (u, ks)) : ∀ (m : Nat) (ps : List Nat) (x : Nat), ps.length = m → Go n own ps w x →
    (∃ (i : Nat) (ks' : List Nat), i < a ∧ q[i]? = some (x, ks') ∧ sle ks' ps) ∨ sle ks ps
  | 0, ps, x, hl, h => by
    have e : ps = [] := List.eq_nil_of_length_eq_zero hl
    subst e
    have e : w = x := h
    subst e
    by_cases h0 : a = 0
    · subst h0
      rw [B.head] at ha
      have e1 : w = u ∧ [] = ks := by simpa using ha
      exact .inr (.inl e1.2.symm)
    · exact .inl ⟨0, [], by omega, B.head, .inl rfl⟩
  | m + 1, ps, x, hl, h => by
    obtain ⟨ps', k, rfl⟩ : ∃ ps' k, ps = ps' ++ [k] := ⟨ps.dropLast, ps.getLast (by intro e; subst e; simp at hl), (List.dropLast_concat_getLast _).symm⟩
    obtain ⟨v, d, h1, h2, h3, rfl⟩ := Go.unsnoc h
    rcases B.path hab ha m ps' v (by simpa using hl) h1 with ⟨i, ks', hi, hq, hs⟩ | hs
    · obtain ⟨_, hcl⟩ := B.cl i (Nat.lt_of_lt_of_le hi hab) v ks' hq
      obtain ⟨ks3, hm, hs3⟩ := hcl k d h2 h3
      obtain ⟨j, hj⟩ := List.getElem?_of_mem hm
      have hs4 : sle ks3 (ps' ++ [k]) := sle_trans hs3 (sle_snoc hs k)
      by_cases hja : j < a
      · exact .inl ⟨j, ks3, hja, hj, hs4⟩
      · refine .inr (sle_trans ?_ hs4)
        by_cases hja2 : j = a
        · subst hja2
          rw [ha] at hj
          have e1 : u = done n d v ∧ ks = ks3 := by simpa using hj
          exact .inl e1.2
        · obtain ⟨b1, q1⟩ := List.getElem?_eq_some_iff.mp ha
          obtain ⟨b2, q2⟩ := List.getElem?_eq_some_iff.mp hj
          have h := (List.pairwise_iff_getElem.mp B.srt) a j (by simpa using b1) (by simpa using b2) (by omega)
          rw [List.getElem_map, List.getElem_map, q1, q2] at h
          exact .inr h
    · exact .inr (sle_trans hs (.inr (sl_self_snoc ps' k)))
theorem Bfs.first {n : Nat} {own : Own} {g g' : Nat → Bool} {w a u : Nat} {ks : List Nat} {q : Qu} (B : Bfs n own g' w q.length q) (ha : q[a]? = some (u, ks)) (hg : g u = true) (hb : ∀ i v l, i < a → q[i]? = some (v, l) → g v = false) : Best n own g w ks := by
  refine ⟨⟨u, B.go _ (List.mem_of_getElem? ha), hg⟩, fun ks' ⟨v, h1, h2⟩ => ?_⟩
  rcases B.path (Nat.le_of_lt (List.getElem?_eq_some_iff.mp ha).1) ha _ ks' v rfl h1 with ⟨i, ks2, hi, hq, _⟩ | h
  · have := hb i v ks2 hi hq
    rw [h2] at this
    cases this
  · exact h
theorem Bfs.all {n : Nat} {own : Own} {g : Nat → Bool} {w : Nat} {q : Qu} (B : Bfs n own g w q.length q) : ∀ (m : Nat) (ps : List Nat) (x : Nat), ps.length = m → Go n own ps w x → x ∈ q.map (·.1)
  | 0, ps, x, hl, h => by
    have e : ps = [] := List.eq_nil_of_length_eq_zero hl
    subst e
    have e : w = x := h
    subst e
    exact List.mem_map.mpr ⟨_, List.mem_of_getElem? B.head, rfl⟩
  | m + 1, ps, x, hl, h => by
    obtain ⟨ps', k, rfl⟩ : ∃ ps' k, ps = ps' ++ [k] := ⟨ps.dropLast, ps.getLast (by intro e; subst e; simp at hl), (List.dropLast_concat_getLast _).symm⟩
    obtain ⟨v, d, h1, h2, h3, rfl⟩ := Go.unsnoc h
    obtain ⟨e, he, e2⟩ := List.mem_map.mp (B.all m ps' v (by simpa using hl) h1)
    obtain ⟨j, hj⟩ := List.getElem?_of_mem he
    have hjl := (List.getElem?_eq_some_iff.mp hj).1
    obtain ⟨ks', h5, _⟩ := (B.cl j hjl e.1 e.2 hj).2 k d h2 (by rw [e2]; exact h3)
    rw [← e2]
    exact List.mem_map.mpr ⟨_, h5, rfl⟩
theorem Bfs.mem_iff {n : Nat} {own : Own} {g : Nat → Bool} {w : Nat} {q : Qu} (B : Bfs n own g w q.length q) (x : Nat) : x ∈ q.map (·.1) ↔ ∃ ks, Go n own ks w x := by
  constructor
  · intro h
    obtain ⟨e, he, rfl⟩ := List.mem_map.mp h
    exact ⟨e.2, B.go e he⟩
  · rintro ⟨ks, h⟩
    exact B.all _ ks x rfl h
theorem Bfs.noneAt {n : Nat} {own : Own} {g g' : Nat → Bool} {w : Nat} {q : Qu} (B : Bfs n own g' w q.length q) (hb : ∀ e ∈ q, g e.1 = false) (ks : List Nat) : ¬ IsPlan n own g w ks := fun ⟨v, h1, h2⟩ => by
  obtain ⟨e, he, e2⟩ := List.mem_map.mp (B.all _ ks v rfl h1)
  have h3 := hb e he
  rw [e2, h2] at h3
  cases h3
theorem numbered_lt (s : State) (p : Nat) : (numbered s p).Pairwise fun x y => x.1 < y.1 := by
  unfold numbered
  refine List.Pairwise.filter _ ?_
  rw [List.pairwise_iff_getElem]
  intro i j hi hj hij
  rw [List.getElem_zip, List.getElem_zip]
  simpa using hij
theorem planOf_best {s : State} {p w : Nat} (ho : OwnOk s.facts (numbered s p)) (hw : w < 2 ^ s.facts) {ks : List Nat} (h : Best s.facts (numbered s p) (reached (actorOf s p)) w ks) :
    planOf s p w = some ks ∧ rank (ranks s.facts (deedsOf s p) (actorOf s p)) w = ks.length + 1 := by
  have ho' : DsOk s.facts (deedsOf s p) := fun d hd => by
    obtain ⟨x, hx, rfl⟩ := List.mem_map.mp hd
    exact ho x hx
  have ht := ranks_ok ho' (actorOf s p)
  have hr : rank (ranks s.facts (deedsOf s p) (actorOf s p)) w ≠ 0 := fun h0 => no_plan (own := numbered s p) ht hw h0 ks h.1
  obtain ⟨k, hk⟩ : ∃ k, rank (ranks s.facts (deedsOf s p) (actorOf s p)) w = k + 1 := ⟨_, (Nat.succ_pred hr).symm⟩
  obtain ⟨h1, h2⟩ := planFrom_best (own := numbered s p) ho (numbered_lt s p) ht hw hk
  have e := h2.same h
  have e' : (planFrom s.facts (deedsOf s p) (ranks s.facts (deedsOf s p) (actorOf s p)) k w).map (numberAt s p) = ks := e
  constructor
  · unfold planOf
    simp only [hk]
    rw [if_neg (by omega)]
    exact congrArg some e'
  · rw [hk, ← e', List.length_map]
    exact congrArg (· + 1) h1.symm
theorem planOf_none {s : State} {p w : Nat} (ho : OwnOk s.facts (numbered s p)) (hw : w < 2 ^ s.facts) (h : ∀ ks, ¬ IsPlan s.facts (numbered s p) (reached (actorOf s p)) w ks) :
    planOf s p w = none ∧ rank (ranks s.facts (deedsOf s p) (actorOf s p)) w = 0 := by
  have ho' : DsOk s.facts (deedsOf s p) := fun d hd => by
    obtain ⟨x, hx, rfl⟩ := List.mem_map.mp hd
    exact ho x hx
  have ht := ranks_ok ho' (actorOf s p)
  have hr : rank (ranks s.facts (deedsOf s p) (actorOf s p)) w = 0 := by
    apply Classical.byContradiction
    intro hr
    obtain ⟨k, hk⟩ : ∃ k, rank (ranks s.facts (deedsOf s p) (actorOf s p)) w = k + 1 := ⟨_, (Nat.succ_pred hr).symm⟩
    exact h _ (planFrom_best (own := numbered s p) ho (numbered_lt s p) ht hw hk).2.1
  refine ⟨?_, hr⟩
  unfold planOf
  simp only [hr]
  rfl
end My
end
section
set_option Elab.async false
set_option linter.all false
namespace My
open Vbtaaf
noncomputable def Mk (n : Nat) (own : Own) (w : Nat) (m : List Bool) : Prop :=
  m.length = 2 ^ n ∧ m.getD w false = true ∧ ∀ x, m.getD x false = true → ∃ ks, Go n own ks w x
theorem spread_at {n : Nat} {ds : List Deed} {m : List Bool} (hl : m.length = 2 ^ n) {x : Nat} (hx : x < 2 ^ n) :
    (spread n ds m).getD x false = (m.getD x false || (((List.range (2 ^ n)).filter fun w => m.getD w false).flatMap fun w => (ds.filter fun d => can d w).map fun d => done n d w).contains x) := by
  have e : m[x]? = some (m.getD x false) := by
    rw [List.getD_eq_getElem?_getD, List.getElem?_eq_getElem (by omega)]
    rfl
  unfold spread
  show (List.map _ _).getD x false = _
  rw [List.getD_eq_getElem?_getD, List.getElem?_map, (List.getElem?_zip_eq_some (z := (x, m.getD x false))).mpr ⟨List.getElem?_range hx, e⟩]
  rfl
theorem spread_len {n : Nat} {ds : List Deed} {m : List Bool} (hl : m.length = 2 ^ n) : (spread n ds m).length = 2 ^ n := by
  unfold spread
  simp [hl]
theorem getD_lt {m : List Bool} {x : Nat} (h : m.getD x false = true) : x < m.length := by
  apply Classical.byContradiction
  intro hx
  rw [List.getD_eq_getElem?_getD, List.getElem?_eq_none (by omega)] at h
  cases h
theorem spread_mem {n : Nat} {ds : List Deed} {m : List Bool} {x : Nat} :
    x ∈ (((List.range (2 ^ n)).filter fun w => m.getD w false).flatMap fun w => (ds.filter fun d => can d w).map fun d => done n d w) ↔ ∃ w d, w < 2 ^ n ∧ m.getD w false = true ∧ d ∈ ds ∧ can d w = true ∧ done n d w = x := by
  rw [List.mem_flatMap]
  constructor
  · rintro ⟨w, hw, hx⟩
    rw [List.mem_filter, List.mem_range] at hw
    obtain ⟨d, hd, rfl⟩ := List.mem_map.mp hx
    rw [List.mem_filter] at hd
    exact ⟨w, d, hw.1, hw.2, hd.1, hd.2, rfl⟩
  · rintro ⟨w, d, h1, h2, h3, h4, rfl⟩
    exact ⟨w, List.mem_filter.mpr ⟨List.mem_range.mpr h1, h2⟩, List.mem_map.mpr ⟨d, List.mem_filter.mpr ⟨h3, h4⟩, rfl⟩⟩
theorem Mk.spread {n : Nat} {own : Own} {w : Nat} {m : List Bool} (hw : w < 2 ^ n) (h : Mk n own w m) : Mk n own w (Vbtaaf.spread n (dsOf own) m) := by
  obtain ⟨h1, h2, h3⟩ := h
  refine ⟨spread_len h1, by rw [spread_at h1 hw, h2]; rfl, fun x hx => ?_⟩
  have hxl : x < 2 ^ n := by have := getD_lt hx; rw [spread_len h1] at this; exact this
  rw [spread_at h1 hxl, Bool.or_eq_true] at hx
  rcases hx with hx | hx
  · exact h3 x hx
  · rw [List.contains_iff_mem] at hx
    obtain ⟨v, d, a1, a2, a3, a4, rfl⟩ := spread_mem.mp hx
    obtain ⟨ks, hk⟩ := h3 v a2
    obtain ⟨p, hp, rfl⟩ := List.mem_map.mp a3
    exact ⟨ks ++ [p.1], Go.snoc hp hk a4⟩
theorem sameMarks_eq : ∀ {a b : List Bool}, sameMarks a b = true → a = b
  | [], [], _ => rfl
  | [], _ :: _, h => by cases h
  | _ :: _, [], h => by cases h
  | a :: r, b :: t, h => by
    unfold sameMarks at h
    rw [Bool.and_eq_true] at h
    rw [eq_of_beq h.1, sameMarks_eq h.2]
theorem sameMarks_refl : ∀ (a : List Bool), sameMarks a a = true
  | [] => rfl
  | a :: r => by
    unfold sameMarks
    rw [Bool.and_eq_true]
    exact ⟨beq_self_eq_true a, sameMarks_refl r⟩
noncomputable def unm (m : List Bool) : Nat := m.countP fun b => !b
theorem unm_le : ∀ {a b : List Bool}, a.length = b.length → (∀ x, a.getD x false = true → b.getD x false = true) → unm b ≤ unm a ∧ (unm b = unm a → a = b)
  | [], [], _, _ => ⟨Nat.le_refl _, fun _ => rfl⟩
  | [], _ :: _, h, _ => by simp at h
  | _ :: _, [], h, _ => by simp at h
  | x :: a, y :: b, hl, h => by
    have ih := unm_le (a := a) (b := b) (by simpa using hl) (fun i hi => by simpa using h (i + 1) (by simpa using hi))
    have h0 : x = true → y = true := fun e => by simpa using h 0 (by simpa using e)
    unfold unm at ih ⊢
    rw [List.countP_cons, List.countP_cons]
    cases x with
    | true =>
      rw [h0 rfl]
      refine ⟨by simpa using ih.1, fun e => ?_⟩
      rw [ih.2 (by simpa using e)]
    | false =>
      cases y with
      | true =>
        refine ⟨by have := ih.1; simp; omega, fun e => ?_⟩
        have := ih.1
        simp at e
        omega
      | false =>
        refine ⟨by simpa using ih.1, fun e => ?_⟩
        rw [ih.2 (by simpa using e)]
noncomputable def Clo (n : Nat) (own : Own) (m : List Bool) : Prop := ∀ x k d, m.getD x false = true → (k, d) ∈ own → can d x = true → m.getD (done n d x) false = true
theorem closure_ok {n : Nat} {own : Own} (ho : OwnOk n own) {w : Nat} (hw : w < 2 ^ n) : ∀ (f : Nat) (m : List Bool), unm m ≤ f → Mk n own w m → Mk n own w (closure n (dsOf own) f m) ∧ Clo n own (closure n (dsOf own) f m)
  | 0, m, hf, h => by
    refine ⟨h, fun x k d hx hk hc => ?_⟩
    show m.getD (done n d x) false = true
    have hxl : x < m.length := getD_lt hx
    rw [h.1] at hxl
    have hd : done n d x < 2 ^ n := done_lt (ho _ hk) hxl
    have h0 : unm m = 0 := by omega
    have h1 := (List.countP_eq_zero.mp h0) (m.getD (done n d x) false) (by
      rw [List.getD_eq_getElem?_getD, List.getElem?_eq_getElem (by rw [h.1]; exact hd)]
      exact List.getElem_mem _)
    simpa using h1
  | f + 1, m, hf, h => by
    unfold closure
    have hs := h.spread hw
    by_cases e : sameMarks (spread n (dsOf own) m) m = true
    · simp only [e, if_true]
      refine ⟨h, fun x k d hx hk hc => ?_⟩
      have e2 := sameMarks_eq e
      have hxl := getD_lt hx
      rw [h.1] at hxl
      have hd : done n d x < 2 ^ n := done_lt (ho _ hk) hxl
      rw [← e2, spread_at h.1 hd, Bool.or_eq_true]
      refine .inr ?_
      rw [List.contains_iff_mem]
      exact spread_mem.mpr ⟨x, d, hxl, hx, List.mem_map.mpr ⟨_, hk, rfl⟩, hc, rfl⟩
    · simp only [e, if_false]
      refine closure_ok ho hw f _ ?_ hs
      have h1 := unm_le (a := m) (b := spread n (dsOf own) m) (by rw [h.1, spread_len h.1]) (fun x hx => by
        have hxl := getD_lt hx
        rw [h.1] at hxl
        rw [spread_at h.1 hxl, hx]
        rfl)
      have h2 : unm (spread n (dsOf own) m) ≠ unm m := fun z => e (by rw [← h1.2 z]; exact sameMarks_refl m)
      omega
theorem Clo.all {n : Nat} {own : Own} {m : List Bool} (hc : Clo n own m) : ∀ {ks : List Nat} {w x : Nat}, m.getD w false = true → Go n own ks w x → m.getD x false = true
  | [], w, x, hm, h => by
    have e : w = x := h
    subst e; exact hm
  | k :: ks, w, x, hm, ⟨d, h1, h2, h3⟩ => Clo.all hc (hc w k d hm h1 h2) h3
theorem start_mk {n : Nat} {own : Own} {w : Nat} (hw : w < 2 ^ n) : Mk n own w ((List.range (2 ^ n)).map fun x => x == w) := by
  refine ⟨by simp, ?_, fun x hx => ?_⟩
  · rw [List.getD_eq_getElem?_getD, List.getElem?_map, List.getElem?_range hw]
    simp
  · have hxl := getD_lt hx
    simp at hxl
    rw [List.getD_eq_getElem?_getD, List.getElem?_map, List.getElem?_range hxl] at hx
    have e : x = w := by simpa using hx
    subst e
    exact ⟨[], rfl⟩
theorem mem_reachable {n : Nat} {own : Own} (ho : OwnOk n own) {w : Nat} (hw : w < 2 ^ n) (x : Nat) : x ∈ reachable n (dsOf own) w ↔ ∃ ks, Go n own ks w x := by
  have hu : unm ((List.range (2 ^ n)).map fun x => x == w) ≤ 2 ^ n := by
    unfold unm
    refine Nat.le_trans List.countP_le_length ?_
    simp
  obtain ⟨h1, h2⟩ := closure_ok ho hw (2 ^ n) _ hu (start_mk (own := own) hw)
  unfold reachable
  simp only [List.mem_filter, List.mem_range]
  constructor
  · rintro ⟨_, h⟩
    exact h1.2.2 x h
  · rintro ⟨ks, h⟩
    exact ⟨Go.lt ho hw h, h2.all h1.2.1 h⟩
theorem reachable_sorted (n : Nat) (ds : List Deed) (w : Nat) : (reachable n ds w).Pairwise (· < ·) := by
  unfold reachable
  exact List.Pairwise.filter _ List.pairwise_lt_range
theorem sorted_ext : ∀ {a b : List Nat}, a.Pairwise (· < ·) → b.Pairwise (· < ·) → (∀ x, x ∈ a ↔ x ∈ b) → a = b
  | [], [], _, _, _ => rfl
  | [], y :: b, _, _, h => by have := (h y).mpr (by simp); simp at this
  | x :: a, [], _, _, h => by have := (h x).mp (by simp); simp at this
  | x :: a, y :: b, ha, hb, h => by
    rw [List.pairwise_cons] at ha hb
    have e : x = y := by
      have h1 := (h x).mp (by simp)
      have h2 := (h y).mpr (by simp)
      rcases List.mem_cons.mp h1 with e | h1
      · exact e
      · rcases List.mem_cons.mp h2 with e | h2
        · exact e.symm
        · have := ha.1 y h2
          have := hb.1 x h1
          omega
    subst e
    rw [sorted_ext ha.2 hb.2 fun z => ?_]
    have hz := h z
    simp only [List.mem_cons] at hz
    constructor
    · intro hz1
      have := ha.1 z hz1
      rcases hz.mp (.inr hz1) with e | h'
      · omega
      · exact h'
    · intro hz1
      have := hb.1 z hz1
      rcases hz.mpr (.inr hz1) with e | h'
      · omega
      · exact h'
theorem reachable_eq {n : Nat} {own : Own} {g : Nat → Bool} (ho : OwnOk n own) {w : Nat} (hw : w < 2 ^ n) {q : Qu} (B : Bfs n own g w q.length q) {l : List Nat} (hs : l.Pairwise (· < ·)) (hm : ∀ x, x ∈ l ↔ x ∈ q.map (·.1)) :
    l = reachable n (dsOf own) w := sorted_ext hs (reachable_sorted _ _ _) fun x => by rw [hm, B.mem_iff, mem_reachable ho hw]
end My
end
section
set_option Elab.async false
set_option linter.all false
namespace My
open Vbtaaf
theorem without_eq0 : ∀ n < 7, ∀ w < 2 ^ n, ∀ c < 2 ^ n, without n w c = w - (w &&& c) := by decide +kernel
theorem without_eq {n w c : Nat} (hn : n ≤ 6) (hw : w < 2 ^ n) (hc : c < 2 ^ n) : without n w c = w - (w &&& c) := without_eq0 n (by omega) w hw c hc
theorem without_lt {n w c : Nat} (hw : w < 2 ^ n) : without n w c < 2 ^ n := Nat.lt_of_le_of_lt Nat.and_le_left hw
theorem corrected_lt {n m w b : Nat} (hw : w < 2 ^ n) (hb : b < 2 ^ n) : corrected n m w b < 2 ^ n := Nat.or_lt_two_pow (without_lt hb) (Nat.lt_of_le_of_lt Nat.and_le_left hw)
theorem tell_one0 : ∀ n < 7, ∀ f < n, ∀ b < 2 ^ n, corrected n (2 ^ f) (2 ^ f) b = b ||| 2 ^ f := by decide +kernel
theorem tell_zero0 : ∀ n < 7, ∀ f < n, ∀ b < 2 ^ n, corrected n (2 ^ f) 0 b = without n b (2 ^ f) := by decide +kernel
theorem see_bit0 : ∀ f < 6, ∀ b < 64, (b &&& 2 ^ f ≠ 0) ↔ b.testBit f = true := by decide +kernel
structure DeedOk (n m : Nat) (d : Deed) : Prop where
  actor : d.actor < m
  on : d.on < 2 ^ n
  off : d.off < 2 ^ n
  add : d.add < 2 ^ n
  del : d.del < 2 ^ n
structure ActorOk (n : Nat) (a : Actor) : Prop where
  sight : a.sight < 2 ^ n
  on : a.on < 2 ^ n
  off : a.off < 2 ^ n
  belief : a.belief < 2 ^ n
structure SOk (s : State) : Prop where
  facts : s.facts ≤ 6
  world : s.world < 2 ^ s.facts
  dlen : s.deeds.length ≤ 24
  alen : s.actors.length ≤ 4
  deeds : ∀ d ∈ s.deeds, DeedOk s.facts s.actors.length d
  actors : ∀ a ∈ s.actors, ActorOk s.facts a
theorem start_ok : SOk start := ⟨by decide, by decide, by decide, by decide, fun d h => by simp [start] at h, fun a h => by simp [start] at h⟩
theorem SOk.own {s : State} (h : SOk s) (p : Nat) : OwnOk s.facts (numbered s p) := fun x hx => by
  unfold numbered at hx
  rw [List.mem_filter] at hx
  exact (h.deeds x.2 (List.of_mem_zip hx.1).2).add
theorem SOk.pow {s : State} (h : SOk s) : 2 ^ s.facts ≤ 64 := Nat.pow_le_pow_right (n := 2) (by decide) h.facts
theorem mem_numbered {s : State} {p k : Nat} {d : Deed} : (k, d) ∈ numbered s p ↔ s.deeds[k]? = some d ∧ d.actor = p := by
  unfold numbered
  rw [List.mem_filter]
  constructor
  · rintro ⟨h1, h2⟩
    obtain ⟨i, hi⟩ := List.getElem?_of_mem h1
    obtain ⟨a1, a2⟩ := List.getElem?_zip_eq_some.mp hi
    have h3 := (List.getElem?_eq_some_iff.mp a1)
    obtain ⟨h3, h4⟩ := h3
    have h5 : i = k := by simpa using h4
    subst h5
    exact ⟨a2, by simpa using h2⟩
  · rintro ⟨h1, h2⟩
    refine ⟨?_, by simpa using h2⟩
    have hk : k < s.deeds.length := (List.getElem?_eq_some_iff.mp h1).1
    exact List.mem_of_getElem? (i := k) (List.getElem?_zip_eq_some.mpr ⟨List.getElem?_range hk, h1⟩)
theorem mem_set_or {α : Type} {l : List α} {i : Nat} {a x : α} (h : x ∈ l.set i a) : x ∈ l ∨ x = a := List.mem_or_eq_of_mem_set h
theorem mem_modify {α : Type} {f : α → α} : ∀ {l : List α} {i : Nat} {x : α}, x ∈ l.modify i f → x ∈ l ∨ ∃ y ∈ l, x = f y
  | [], i, x, h => by simp at h
  | a :: l, 0, x, h => by
    simp only [List.modify_zero_cons, List.mem_cons] at h
    rcases h with rfl | h
    · exact .inr ⟨a, by simp, rfl⟩
    · exact .inl (by simp [h])
  | a :: l, i + 1, x, h => by
    simp only [List.modify_succ_cons, List.mem_cons] at h
    rcases h with rfl | h
    · exact .inl (by simp)
    · rcases mem_modify h with h | ⟨y, hy, e⟩
      · exact .inl (by simp [h])
      · exact .inr ⟨y, by simp [hy], e⟩
theorem SOk.modify {s : State} (h : SOk s) (p : Nat) {f : Actor → Actor} (hf : ∀ a ∈ s.actors, ActorOk s.facts (f a)) : SOk { s with actors := s.actors.modify p f } := by
  refine ⟨h.facts, h.world, h.dlen, by simpa using h.alen, fun d hd => by simpa using h.deeds d hd, fun a ha => ?_⟩
  rcases mem_modify ha with ha | ⟨y, hy, rfl⟩
  · exact h.actors a ha
  · exact hf y hy
theorem SOk.seen {s : State} (h : SOk s) : SOk (Vbtaaf.seen s) := by
  refine ⟨h.facts, h.world, h.dlen, by simpa [Vbtaaf.seen] using h.alen, fun d hd => by simpa [Vbtaaf.seen] using h.deeds d hd, fun a ha => ?_⟩
  obtain ⟨y, hy, rfl⟩ := List.mem_map.mp ha
  obtain ⟨h1, h2, h3, h4⟩ := h.actors y hy
  exact ⟨h1, h2, h3, corrected_lt h.world h4⟩
theorem SOk.setw {s : State} (h : SOk s) {w : Nat} (hw : w < 2 ^ s.facts) : SOk { s with world := w } := ⟨h.facts, hw, h.dlen, h.alen, h.deeds, h.actors⟩
theorem SOk.deedOf {s : State} (h : SOk s) (k : Nat) : (Vbtaaf.deedOf s k).on < 2 ^ s.facts ∧ (Vbtaaf.deedOf s k).off < 2 ^ s.facts ∧ (Vbtaaf.deedOf s k).add < 2 ^ s.facts ∧ (Vbtaaf.deedOf s k).del < 2 ^ s.facts := by
  have hp : 0 < 2 ^ s.facts := Nat.two_pow_pos _
  unfold Vbtaaf.deedOf
  rw [List.getD_eq_getElem?_getD]
  cases e : s.deeds[k]? with
  | none => exact ⟨hp, hp, hp, hp⟩
  | some d =>
    obtain ⟨_, h1, h2, h3, h4⟩ := h.deeds d (List.mem_of_getElem? e)
    exact ⟨h1, h2, h3, h4⟩
theorem SOk.turn {s : State} (h : SOk s) (p : Nat) : SOk (Vbtaaf.turn s p).1 := by
  unfold Vbtaaf.turn
  simp only
  split
  · exact h
  · exact h
  · rename_i k r e
    obtain ⟨h1, h2, h3, h4⟩ := h.deedOf k
    split
    · refine SOk.seen ?_
      refine (SOk.modify (s := { s with world := done s.facts (Vbtaaf.deedOf s k) s.world }) (h.setw (done_lt h3 h.world)) p (f := fun x => { x with belief := done s.facts (Vbtaaf.deedOf s k) x.belief }) fun a ha => ?_)
      obtain ⟨a1, a2, a3, a4⟩ := h.actors a ha
      exact ⟨a1, a2, a3, done_lt h3 a4⟩
    · refine h.modify p fun a ha => ?_
      obtain ⟨a1, a2, a3, a4⟩ := h.actors a ha
      exact ⟨a1, a2, a3, corrected_lt h.world a4⟩
theorem turn_len {s : State} (p : Nat) : (Vbtaaf.turn s p).1.actors.length = s.actors.length := by
  unfold Vbtaaf.turn
  simp only
  split
  · rfl
  · rfl
  · split
    · simp [Vbtaaf.seen]
    · simp
theorem SOk.round : ∀ {k : Nat} {s : State} {p : Nat} {b : Bool}, SOk s → SOk (Vbtaaf.round s k p b).1
  | 0, s, p, b, h => h
  | k + 1, s, p, b, h => SOk.round (k := k) (h.turn p)
theorem SOk.rounds : ∀ {k : Nat} {s : State} {i : Nat}, SOk s → SOk (Vbtaaf.rounds s k i).1
  | 0, s, i, h => h
  | k + 1, s, i, h => by
    unfold Vbtaaf.rounds
    simp only
    split
    · exact SOk.rounds h.round
    · exact h.round
theorem from_iff {n lo hi : Int} : from_ n lo hi = true ↔ lo ≤ n ∧ n ≤ hi := by unfold from_; rw [decide_eq_true_iff]
theorem full_cast (n : Nat) : ((full n : Nat) : Int) = (2 ^ n : Nat) - 1 := by
  have := Nat.two_pow_pos n
  unfold full
  omega
theorem isSet_iff {s : State} {m : Int} : isSet s m = true ↔ 0 ≤ m ∧ m.toNat < 2 ^ s.facts := by
  unfold isSet
  rw [from_iff, full_cast]
  omega
theorem isActor_iff {s : State} {p : Int} : isActor s p = true ↔ 0 ≤ p ∧ p.toNat < s.actors.length := by
  unfold isActor
  rw [from_iff]
  omega
theorem sif {c : Prop} [Decidable c] {x y : State × List Int} (h1 : c → SOk x.1) (h2 : ¬ c → SOk y.1) : SOk (if c then x else y).1 := by
  by_cases h : c
  · rw [if_pos h]; exact h1 h
  · rw [if_neg h]; exact h2 h
theorem SOk.step {s : State} (h : SOk s) (c : Call) : SOk (Vbtaaf.step s c).1 := by
  cases c with
  | facts n =>
    simp only [Vbtaaf.step]
    refine sif (fun _ => h) fun h1 => sif (fun _ => h) fun h2 => ?_
    have h1 : from_ n 0 FACTS = true := by simpa using h1
    rw [from_iff] at h1
    have h2 : s.deeds.isEmpty = true ∧ s.actors.isEmpty = true := by simpa [not_or] using h2
    rw [List.isEmpty_iff, List.isEmpty_iff] at h2
    have h3 : n ≤ 6 := h1.2
    exact ⟨by show n.toNat ≤ 6; omega, Nat.two_pow_pos _, h.dlen, h.alen, fun d hd => by rw [show (yes { s with facts := n.toNat, world := 0 } []).1.deeds = s.deeds from rfl, h2.1] at hd; simp at hd, fun a ha => by rw [show (yes { s with facts := n.toNat, world := 0 } []).1.actors = s.actors from rfl, h2.2] at ha; simp at ha⟩
  | deed p on off add del =>
    simp only [Vbtaaf.step]
    refine sif (fun _ => h) fun h1 => sif (fun _ => h) fun h2 => sif (fun _ => h) fun h3 => ?_
    simp only [not_or, Bool.not_eq_false] at h1
    obtain ⟨a1, a2, a3, a4, a5⟩ := h1
    rw [isActor_iff] at a1
    rw [isSet_iff] at a2 a3 a4 a5
    have h3 : s.deeds.length < 24 := Nat.lt_of_not_le h3
    refine ⟨h.facts, h.world, by show (s.deeds ++ [_]).length ≤ 24; simp; omega, h.alen, fun d hd => ?_, h.actors⟩
    rcases List.mem_append.mp (show d ∈ s.deeds ++ [_] from hd) with hd | hd
    · exact h.deeds d hd
    · rw [List.mem_singleton] at hd
      subst hd
      exact ⟨a1.2, a2.2, a3.2, a4.2, a5.2⟩
  | actor sight on off =>
    simp only [Vbtaaf.step]
    refine sif (fun _ => h) fun h1 => sif (fun _ => h) fun h2 => sif (fun _ => h) fun h3 => ?_
    simp only [not_or, Bool.not_eq_false] at h1
    obtain ⟨a1, a2, a3⟩ := h1
    rw [isSet_iff] at a1 a2 a3
    have h3 : s.actors.length < 4 := Nat.lt_of_not_le h3
    refine ⟨h.facts, h.world, h.dlen, by show (s.actors ++ [_]).length ≤ 4; simp; omega, fun d hd => ?_, fun a ha => ?_⟩
    · obtain ⟨d1, d2, d3, d4, d5⟩ := h.deeds d hd
      exact ⟨by show d.actor < (s.actors ++ [_]).length; simp; omega, d2, d3, d4, d5⟩
    · rcases List.mem_append.mp (show a ∈ s.actors ++ [_] from ha) with ha | ha
      · exact h.actors a ha
      · rw [List.mem_singleton] at ha
        subst ha
        exact ⟨a1.2, a2.2, a3.2, Nat.lt_of_le_of_lt Nat.and_le_left h.world⟩
  | world w =>
    simp only [Vbtaaf.step]
    refine sif (fun _ => h) fun h1 => ?_
    have h1 : isSet s w = true := by simpa using h1
    rw [isSet_iff] at h1
    exact SOk.seen (h.setw h1.2)
  | tell p f v =>
    simp only [Vbtaaf.step]
    refine sif (fun _ => h) fun h1 => sif (fun _ => h) fun h2 => ?_
    simp only [not_or, Bool.not_eq_false] at h1
    obtain ⟨a1, a2, a3⟩ := h1
    rw [from_iff] at a2
    refine h.modify _ fun a ha => ?_
    obtain ⟨b1, b2, b3, b4⟩ := h.actors a ha
    refine ⟨b1, b2, b3, ?_⟩
    have hp : 2 ^ f.toNat < 2 ^ s.facts := Nat.pow_lt_pow_right (by decide) (by omega)
    refine corrected_lt ?_ b4
    split
    · exact hp
    · exact Nat.two_pow_pos _
  | goal p on off =>
    simp only [Vbtaaf.step]
    refine sif (fun _ => h) fun h1 => sif (fun _ => h) fun h2 => ?_
    simp only [not_or, Bool.not_eq_false] at h1
    obtain ⟨a1, a2, a3⟩ := h1
    rw [isSet_iff] at a2 a3
    refine h.modify _ fun a ha => ?_
    obtain ⟨b1, b2, b3, b4⟩ := h.actors a ha
    exact ⟨b1, a2.2, a3.2, b4⟩
  | plan p =>
    simp only [Vbtaaf.step]
    exact sif (fun _ => h) fun _ => by split <;> exact h
  | far p w =>
    simp only [Vbtaaf.step]
    exact sif (fun _ => h) fun _ => h
  | proof p =>
    simp only [Vbtaaf.step]
    exact sif (fun _ => h) fun _ => by split <;> exact h
  | check p l =>
    simp only [Vbtaaf.step]
    exact sif (fun _ => h) fun _ => h
  | follow p l =>
    simp only [Vbtaaf.step]
    exact sif (fun _ => h) fun _ => by split <;> exact h
  | turn p =>
    simp only [Vbtaaf.step]
    exact sif (fun _ => h) fun _ => h.turn _
  | rounds k =>
    simp only [Vbtaaf.step]
    exact sif (fun _ => h) fun _ => h.rounds
  | belief p =>
    simp only [Vbtaaf.step]
    exact sif (fun _ => h) fun _ => h
  | state => exact h
  | deeds => exact h
theorem calls_nil {shape : Int → Option (Nat × Nat)} {f : Nat} {cs : List (List (List Int))} (h : PyFlat.calls shape f [] = some cs) : cs = [] := by
  cases f <;> (unfold PyFlat.calls at h; exact (Option.some.inj h).symm)
inductive CallsI (shape : Int → Option (Nat × Nat)) (f : Nat) (p : Int) (r : List Int) (cs : List (List (List Int))) : Prop
  | mk (f' n k : Nat) (xs : List (List Int)) (t : List Int) (cs' : List (List (List Int))) (ef : f = f' + 1) (e1 : shape p = some (n, k)) (hl : n ≤ r.length) (e2 : PyFlat.rows k (r.drop n) = some (xs, t)) (ec : cs = ((p :: r.take n) :: xs) :: cs') (e3 : PyFlat.calls shape f' t = some cs') : CallsI shape f p r cs
theorem calls_cons {shape : Int → Option (Nat × Nat)} {f : Nat} {p : Int} {r : List Int} {cs : List (List (List Int))} (h : PyFlat.calls shape f (p :: r) = some cs) : CallsI shape f p r cs := by
  cases f with
  | zero => unfold PyFlat.calls at h; cases h
  | succ f' =>
    unfold PyFlat.calls PyFlat.call at h
    dsimp only at h
    cases e1 : shape p with
    | none => rw [e1] at h; cases h
    | some nk =>
      rw [e1] at h
      dsimp only at h
      by_cases hl : r.length < nk.1
      · rw [if_pos hl] at h; cases h
      · rw [if_neg hl] at h
        cases e2 : PyFlat.rows nk.2 (r.drop nk.1) with
        | none => rw [e2] at h; cases h
        | some xt =>
          rw [e2] at h
          dsimp only at h
          cases e3 : PyFlat.calls shape f' xt.2 with
          | none => rw [e3] at h; cases h
          | some cs' =>
            rw [e3] at h
            exact ⟨f', nk.1, nk.2, xt.1, xt.2, cs', rfl, e1, Nat.le_of_not_lt hl, e2, (Option.some.inj h).symm, e3⟩
theorem rows_zero {r : List Int} {xs : List (List Int)} {t : List Int} (h : PyFlat.rows 0 r = some (xs, t)) : xs = [] ∧ t = r := by
  unfold PyFlat.rows at h
  have e := Option.some.inj h
  exact ⟨(congrArg Prod.fst e).symm, (congrArg Prod.snd e).symm⟩
theorem rows_one {r : List Int} {xs : List (List Int)} {t : List Int} (h : PyFlat.rows 1 r = some (xs, t)) : ∃ m r', r = m :: r' ∧ 0 ≤ m ∧ m.toNat ≤ r'.length ∧ xs = [r'.take m.toNat] ∧ t = r'.drop m.toNat := by
  unfold PyFlat.rows at h
  cases r with
  | nil => simp [PyFlat.row] at h
  | cons m r' =>
    unfold PyFlat.row at h
    by_cases hm : 0 ≤ m ∧ m.toNat ≤ r'.length
    · simp only [if_pos hm, PyFlat.rows] at h
      have e := Option.some.inj h
      exact ⟨m, r', rfl, hm.1, hm.2, (congrArg Prod.fst e).symm, (congrArg Prod.snd e).symm⟩
    · simp only [if_neg hm] at h
      cases h
end My
end
section
set_option Elab.async false
set_option linter.all false
namespace My
open Vbtaaf
theorem set_nat {s : State} {m : Nat} (h : m < 2 ^ s.facts) : isSet s (m : Int) = true := isSet_iff.mpr ⟨by omega, by omega⟩
theorem act_nat {s : State} {p : Nat} (h : p < s.actors.length) : isActor s (p : Int) = true := isActor_iff.mpr ⟨by omega, by omega⟩
theorem step_facts3 {s : State} {n : Nat} (hn : n ≤ 6) (h : s.deeds ≠ [] ∨ s.actors ≠ []) : step s (.facts n) = (s, [-3]) := by
  have h1 : from_ (n : Int) 0 FACTS = true := from_iff.mpr ⟨by omega, by show (n : Int) ≤ 6; omega⟩
  have h2 : s.deeds.isEmpty = false ∨ s.actors.isEmpty = false := by
    rcases h with h | h
    · exact .inl (by simpa using h)
    · exact .inr (by simpa using h)
  simp only [step, h1, Bool.true_eq_false, if_false, if_pos h2]
  rfl
theorem step_facts {s : State} {n : Nat} (hn : n ≤ 6) (hd : s.deeds = []) (ha : s.actors = []) : step s (.facts n) = ({ s with facts := n, world := 0 }, [0]) := by
  have h1 : from_ (n : Int) 0 FACTS = true := from_iff.mpr ⟨by omega, by show (n : Int) ≤ 6; omega⟩
  simp only [step, h1, Bool.true_eq_false, if_false, hd, ha, List.isEmpty_nil, or_self, Int.toNat_natCast]
  rfl
theorem step_deed2 {s : State} {p a b c d : Nat} (hp : p < s.actors.length) (ha : a < 2 ^ s.facts) (hb : b < 2 ^ s.facts) (hc : c < 2 ^ s.facts) (hd : d < 2 ^ s.facts) (h : a &&& b ≠ 0 ∨ c &&& d ≠ 0) : step s (.deed p a b c d) = (s, [-2]) := by
  simp only [step, act_nat hp, set_nat ha, set_nat hb, set_nat hc, set_nat hd, Bool.true_eq_false, or_self, if_false, Int.toNat_natCast, if_pos h]
  rfl
theorem step_deed5 {s : State} {p a b c d : Nat} (hp : p < s.actors.length) (ha : a < 2 ^ s.facts) (hb : b < 2 ^ s.facts) (hc : c < 2 ^ s.facts) (hd : d < 2 ^ s.facts) (h1 : a &&& b = 0) (h2 : c &&& d = 0) (h3 : 24 ≤ s.deeds.length) : step s (.deed p a b c d) = (s, [-5]) := by
  simp only [step, act_nat hp, set_nat ha, set_nat hb, set_nat hc, set_nat hd, Bool.true_eq_false, or_self, if_false, Int.toNat_natCast, h1, h2, ne_eq, not_true_eq_false, if_pos (show DEEDS ≤ s.deeds.length from h3)]
  rfl
theorem step_deed {s : State} {p a b c d : Nat} (hp : p < s.actors.length) (ha : a < 2 ^ s.facts) (hb : b < 2 ^ s.facts) (hc : c < 2 ^ s.facts) (hd : d < 2 ^ s.facts) (h1 : a &&& b = 0) (h2 : c &&& d = 0) (h3 : ¬ 24 ≤ s.deeds.length) :
    step s (.deed p a b c d) = ({ s with deeds := s.deeds ++ [⟨p, a, b, c, d⟩] }, [0, (s.deeds.length : Int)]) := by
  simp only [step, act_nat hp, set_nat ha, set_nat hb, set_nat hc, set_nat hd, Bool.true_eq_false, or_self, if_false, Int.toNat_natCast, h1, h2, ne_eq, not_true_eq_false, if_neg (show ¬ DEEDS ≤ s.deeds.length from h3)]
  rfl
theorem step_actor2 {s : State} {a b c : Nat} (ha : a < 2 ^ s.facts) (hb : b < 2 ^ s.facts) (hc : c < 2 ^ s.facts) (h : b &&& c ≠ 0) : step s (.actor a b c) = (s, [-2]) := by
  simp only [step, set_nat ha, set_nat hb, set_nat hc, Bool.true_eq_false, or_self, if_false, Int.toNat_natCast, if_pos h]
  rfl
theorem step_actor5 {s : State} {a b c : Nat} (ha : a < 2 ^ s.facts) (hb : b < 2 ^ s.facts) (hc : c < 2 ^ s.facts) (h1 : b &&& c = 0) (h2 : 4 ≤ s.actors.length) : step s (.actor a b c) = (s, [-5]) := by
  simp only [step, set_nat ha, set_nat hb, set_nat hc, Bool.true_eq_false, or_self, if_false, Int.toNat_natCast, h1, ne_eq, not_true_eq_false, if_pos (show ACTORS ≤ s.actors.length from h2)]
  rfl
theorem step_actor {s : State} {a b c : Nat} (ha : a < 2 ^ s.facts) (hb : b < 2 ^ s.facts) (hc : c < 2 ^ s.facts) (h1 : b &&& c = 0) (h2 : ¬ 4 ≤ s.actors.length) : step s (.actor a b c) = ({ s with actors := s.actors ++ [⟨a, b, c, s.world &&& a⟩] }, [0, (s.actors.length : Int)]) := by
  simp only [step, set_nat ha, set_nat hb, set_nat hc, Bool.true_eq_false, or_self, if_false, Int.toNat_natCast, h1, ne_eq, not_true_eq_false, if_neg (show ¬ ACTORS ≤ s.actors.length from h2)]
  rfl
theorem step_world {s : State} {v : Nat} (hv : v < 2 ^ s.facts) : step s (.world v) = (seen { s with world := v }, [0]) := by
  simp only [step, set_nat hv, Bool.true_eq_false, if_false, Int.toNat_natCast]
  rfl
theorem fact_nat {s : State} {f : Nat} (h : f < s.facts) : from_ (f : Int) 0 ((s.facts : Int) - 1) = true := from_iff.mpr ⟨by omega, by omega⟩
theorem step_tell4 {s : State} {p f v : Nat} (hp : p < s.actors.length) (hf : f < s.facts) (hv : v ≤ 1) (h : (actorOf s p).sight.testBit f = true) : step s (.tell p f v) = (s, [-4]) := by
  have h1 : from_ (v : Int) 0 1 = true := from_iff.mpr ⟨by omega, by omega⟩
  simp only [step, act_nat hp, fact_nat hf, h1, Bool.true_eq_false, or_self, if_false, Int.toNat_natCast, if_pos h]
  rfl
theorem step_tell {s : State} {p f v : Nat} (hp : p < s.actors.length) (hf : f < s.facts) (hv : v ≤ 1) (h : ¬ (actorOf s p).sight.testBit f = true) :
    step s (.tell p f v) = ({ s with actors := s.actors.modify p fun a => { a with belief := corrected s.facts (2 ^ f) (if (v : Int) = 1 then 2 ^ f else 0) a.belief } }, [0]) := by
  have h1 : from_ (v : Int) 0 1 = true := from_iff.mpr ⟨by omega, by omega⟩
  simp only [step, act_nat hp, fact_nat hf, h1, Bool.true_eq_false, or_self, if_false, Int.toNat_natCast, if_neg h]
  rfl
theorem step_goal2 {s : State} {p a b : Nat} (hp : p < s.actors.length) (ha : a < 2 ^ s.facts) (hb : b < 2 ^ s.facts) (h : a &&& b ≠ 0) : step s (.goal p a b) = (s, [-2]) := by
  simp only [step, act_nat hp, set_nat ha, set_nat hb, Bool.true_eq_false, or_self, if_false, Int.toNat_natCast, if_pos h]
  rfl
theorem step_goal {s : State} {p a b : Nat} (hp : p < s.actors.length) (ha : a < 2 ^ s.facts) (hb : b < 2 ^ s.facts) (h : a &&& b = 0) : step s (.goal p a b) = ({ s with actors := s.actors.modify p fun x => { x with on := a, off := b } }, [0]) := by
  simp only [step, act_nat hp, set_nat ha, set_nat hb, Bool.true_eq_false, or_self, if_false, Int.toNat_natCast, h, ne_eq, not_true_eq_false]
  rfl
theorem step_plan0 {s : State} {p : Nat} (hp : p < s.actors.length) (h : planOf s p (actorOf s p).belief = none) : step s (.plan p) = (s, [0, 0]) := by
  simp only [step, act_nat hp, Bool.true_eq_false, if_false, Int.toNat_natCast, h]
  rfl
theorem step_plan {s : State} {p : Nat} {l : List Nat} (hp : p < s.actors.length) (h : planOf s p (actorOf s p).belief = some l) : step s (.plan p) = (s, 0 :: 1 :: l.map fun (k : Nat) => (k : Int)) := by
  simp only [step, act_nat hp, Bool.true_eq_false, if_false, Int.toNat_natCast, h]
  rfl
theorem step_far {s : State} {p v : Nat} (hp : p < s.actors.length) (hv : v < 2 ^ s.facts) : step s (.far p v) = (s, [0, ((rank (ranks s.facts (deedsOf s p) (actorOf s p)) v : Nat) : Int)]) := by
  simp only [step, act_nat hp, set_nat hv, Bool.true_eq_false, or_self, if_false, Int.toNat_natCast]
  rfl
theorem modify_set {α : Type} {f : α → α} : ∀ {l : List α} {i : Nat} {a : α}, l[i]? = some a → l.modify i f = l.set i (f a)
  | [], i, a, h => by simp at h
  | x :: l, 0, a, h => by
    have e : x = a := by simpa using h
    subst e
    rfl
  | x :: l, i + 1, a, h => by
    have ih := modify_set (f := f) (l := l) (i := i) (a := a) (by simpa using h)
    simp only [List.modify_succ_cons, List.set_cons_succ, ih]
theorem mix_set {α : Type} {f : α → α} : ∀ {l : List α} {i : Nat} {a : α}, l[i]? = some a → ((l.map f).take i ++ l.drop i).set i (f a) = (l.map f).take (i + 1) ++ l.drop (i + 1)
  | [], i, a, h => by simp at h
  | x :: l, 0, a, h => by
    have e : x = a := by simpa using h
    subst e
    simp
  | x :: l, i + 1, a, h => by
    have ih := mix_set (f := f) (l := l) (i := i) (a := a) (by simpa using h)
    simpa using ih
theorem mix_get {α : Type} {f : α → α} : ∀ {l : List α} {i : Nat} {a : α}, l[i]? = some a → ((l.map f).take i ++ l.drop i)[i]? = some a
  | [], i, a, h => by simp at h
  | x :: l, 0, a, h => by simpa using h
  | x :: l, i + 1, a, h => by
    have ih := mix_get (f := f) (l := l) (i := i) (a := a) (by simpa using h)
    simpa using ih
end My
end
section
set_option Elab.async false
set_option linter.all false
namespace My
open Vbtaaf
noncomputable def mkCall (p : Int) (ns row : List Int) : Call :=
  if p = 0 then (match ns with | [a] => .facts a | _ => .state)
  else if p = 1 then (match ns with | [a, b, c, d, e] => .deed a b c d e | _ => .state)
  else if p = 2 then (match ns with | [a, b, c] => .actor a b c | _ => .state)
  else if p = 3 then (match ns with | [a] => .world a | _ => .state)
  else if p = 4 then (match ns with | [a, b, c] => .tell a b c | _ => .state)
  else if p = 5 then (match ns with | [a, b, c] => .goal a b c | _ => .state)
  else if p = 6 then (match ns with | [a] => .plan a | _ => .state)
  else if p = 7 then (match ns with | [a, b] => .far a b | _ => .state)
  else if p = 8 then (match ns with | [a] => .proof a | _ => .state)
  else if p = 9 then (match ns with | [a] => .check a row | _ => .state)
  else if p = 10 then (match ns with | [a] => .follow a row | _ => .state)
  else if p = 11 then (match ns with | [a] => .turn a | _ => .state)
  else if p = 12 then (match ns with | [a] => .rounds a | _ => .state)
  else if p = 13 then (match ns with | [a] => .belief a | _ => .state)
  else if p = 14 then .state
  else .deeds
noncomputable def numsOf (p : Nat) : Nat := [1, 5, 3, 1, 3, 3, 1, 2, 1, 1, 1, 1, 1, 1, 0, 0].getD p 0
noncomputable def rowsOf (p : Nat) : Nat := if p = 9 ∨ p = 10 then 1 else 0
inductive Sh (p : Int) (n k : Nat) : Prop
  | mk (c : Nat) (e : p = (c : Int)) (h : c < 16) (en : n = numsOf c) (ek : k = rowsOf c) : Sh p n k
theorem sh_if {p z : Int} {c : Nat} {a : Nat × Nat} {x : Option (Nat × Nat)} {n k : Nat} (hc : c < 16) (hz : z = (c : Int)) (ha : a = (numsOf c, rowsOf c)) (hx : x = some (n, k) → Sh p n k) (h : (if p = z then some a else x) = some (n, k)) : Sh p n k := by
  by_cases e : p = z
  · rw [if_pos e] at h
    cases ha.symm.trans (Option.some.inj h)
    exact ⟨c, e.trans hz, hc, rfl, rfl⟩
  · rw [if_neg e] at h
    exact hx h
theorem shape_some {p : Int} {n k : Nat} (h : PyVbtaaf.shape p = some (n, k)) : Sh p n k := by
  unfold PyVbtaaf.shape at h
  exact (sh_if (c := 0) (by decide) rfl rfl <| sh_if (c := 1) (by decide) rfl rfl <| sh_if (c := 2) (by decide) rfl rfl <| sh_if (c := 3) (by decide) rfl rfl <| sh_if (c := 4) (by decide) rfl rfl <| sh_if (c := 5) (by decide) rfl rfl <| sh_if (c := 6) (by decide) rfl rfl <| sh_if (c := 7) (by decide) rfl rfl <| sh_if (c := 8) (by decide) rfl rfl <| sh_if (c := 9) (by decide) rfl rfl <| sh_if (c := 10) (by decide) rfl rfl <| sh_if (c := 11) (by decide) rfl rfl <| sh_if (c := 12) (by decide) rfl rfl <| sh_if (c := 13) (by decide) rfl rfl <| sh_if (c := 14) (by decide) rfl rfl <| sh_if (c := 15) (by decide) rfl rfl <| fun (h : (none : Option (Nat × Nat)) = some (n, k)) => nomatch h) h
theorem len0 {l : List Int} (h : l.length = 0) : l = [] := List.eq_nil_of_length_eq_zero h
theorem len1 {l : List Int} (h : l.length = 1) : ∃ a, l = [a] := by
  match l, h with
  | [a], _ => exact ⟨a, rfl⟩
theorem len2 {l : List Int} (h : l.length = 2) : ∃ a b, l = [a, b] := by
  match l, h with
  | [a, b], _ => exact ⟨a, b, rfl⟩
theorem len3 {l : List Int} (h : l.length = 3) : ∃ a b c, l = [a, b, c] := by
  match l, h with
  | [a, b, c], _ => exact ⟨a, b, c, rfl⟩
theorem len5 {l : List Int} (h : l.length = 5) : ∃ a b c d e, l = [a, b, c, d, e] := by
  match l, h with
  | [a, b, c, d, e], _ => exact ⟨a, b, c, d, e, rfl⟩
theorem step_call (s : State) : ∀ {c : Nat} {ns : List Int} {xs : List (List Int)}, c < 16 → ns.length = numsOf c → xs.length = rowsOf c → VbtaafNeutral.step s (PyVbtaaf.whole (((c : Int) :: ns) :: xs)) = step s (mkCall c ns (xs.headD []))
  | 0, ns, xs, _, hn, hx => by
    obtain ⟨a, rfl⟩ := len1 hn
    have e : xs = [] := List.eq_nil_of_length_eq_zero hx
    subst e; rfl
  | 1, ns, xs, _, hn, hx => by
    obtain ⟨a, b, c, d, f, rfl⟩ := len5 hn
    have e : xs = [] := List.eq_nil_of_length_eq_zero hx
    subst e; rfl
  | 2, ns, xs, _, hn, hx => by
    obtain ⟨a, b, c, rfl⟩ := len3 hn
    have e : xs = [] := List.eq_nil_of_length_eq_zero hx
    subst e; rfl
  | 3, ns, xs, _, hn, hx => by
    obtain ⟨a, rfl⟩ := len1 hn
    have e : xs = [] := List.eq_nil_of_length_eq_zero hx
    subst e; rfl
  | 4, ns, xs, _, hn, hx => by
    obtain ⟨a, b, c, rfl⟩ := len3 hn
    have e : xs = [] := List.eq_nil_of_length_eq_zero hx
    subst e; rfl
  | 5, ns, xs, _, hn, hx => by
    obtain ⟨a, b, c, rfl⟩ := len3 hn
    have e : xs = [] := List.eq_nil_of_length_eq_zero hx
    subst e; rfl
  | 6, ns, xs, _, hn, hx => by
    obtain ⟨a, rfl⟩ := len1 hn
    have e : xs = [] := List.eq_nil_of_length_eq_zero hx
    subst e; rfl
  | 7, ns, xs, _, hn, hx => by
    obtain ⟨a, b, rfl⟩ := len2 hn
    have e : xs = [] := List.eq_nil_of_length_eq_zero hx
    subst e; rfl
  | 8, ns, xs, _, hn, hx => by
    obtain ⟨a, rfl⟩ := len1 hn
    have e : xs = [] := List.eq_nil_of_length_eq_zero hx
    subst e; rfl
  | 9, ns, xs, _, hn, hx => by
    obtain ⟨a, rfl⟩ := len1 hn
    match xs, hx with
    | [x], _ => rfl
  | 10, ns, xs, _, hn, hx => by
    obtain ⟨a, rfl⟩ := len1 hn
    match xs, hx with
    | [x], _ => rfl
  | 11, ns, xs, _, hn, hx => by
    obtain ⟨a, rfl⟩ := len1 hn
    have e : xs = [] := List.eq_nil_of_length_eq_zero hx
    subst e; rfl
  | 12, ns, xs, _, hn, hx => by
    obtain ⟨a, rfl⟩ := len1 hn
    have e : xs = [] := List.eq_nil_of_length_eq_zero hx
    subst e; rfl
  | 13, ns, xs, _, hn, hx => by
    obtain ⟨a, rfl⟩ := len1 hn
    have e : xs = [] := List.eq_nil_of_length_eq_zero hx
    subst e; rfl
  | 14, ns, xs, _, hn, hx => by
    have e1 := len0 hn
    have e : xs = [] := List.eq_nil_of_length_eq_zero hx
    subst e e1; rfl
  | 15, ns, xs, _, hn, hx => by
    have e1 := len0 hn
    have e : xs = [] := List.eq_nil_of_length_eq_zero hx
    subst e e1; rfl
  | c + 16, _, _, h, _, _ => absurd h (by omega)
theorem played_cons (s : State) (a : List (List Int)) (b : List (List (List Int))) : PyFlat.played VbtaafNeutral.step s (a :: b) = (VbtaafNeutral.step s a).2 :: PyFlat.played VbtaafNeutral.step (VbtaafNeutral.step s a).1 b := rfl
theorem told_cons (a : List Int) (b : List (List Int)) : PyFlat.told (a :: b) = ((a.length : Int) :: a) ++ PyFlat.told b := by
  unfold PyFlat.told
  rw [List.flatMap_cons]
structure Left (s : State) (l : List Int) (m : Nat) (due : List Int) : Prop where
  ex : ∃ f cs, PyFlat.calls PyVbtaaf.shape f l = some cs ∧ cs.length ≤ m ∧ (∀ c ∈ cs.map PyVbtaaf.whole, VbtaafNeutral.asked1 c = true) ∧ due = PyFlat.told (PyFlat.played VbtaafNeutral.step s (cs.map PyVbtaaf.whole))
theorem Left.start {l : List Int} (h : PyVbtaaf.answers_asked l = true) : Left start l 400 (PyVbtaaf.answers l) := by
  unfold PyVbtaaf.answers_asked PyVbtaaf.calls at h
  cases e : PyFlat.calls PyVbtaaf.shape l.length l with
  | none => rw [e] at h; cases h
  | some cs =>
    rw [e] at h
    simp only [Bool.and_eq_true, PyFlat.atMost, decide_eq_true_eq, VbtaafNeutral.asked, List.all_eq_true] at h
    refine ⟨l.length, cs, e, by simpa using h.1, h.2.1, ?_⟩
    unfold PyVbtaaf.answers PyVbtaaf.calls
    rw [e]
    rfl
theorem Left.done {s : State} {m : Nat} {due : List Int} (h : Left s [] m due) : due = [] := by
  obtain ⟨f, cs, h1, _, _, h4⟩ := h.ex
  rw [calls_nil h1] at h4
  exact h4
noncomputable abbrev nst (s : State) (c : Nat) (r row : List Int) : State × List Int := step s (mkCall c (r.take (numsOf c)) row)
inductive NextI (s : State) (r : List Int) (c m' : Nat) (due due' : List Int) : Prop
  | none (h : rowsOf c = 0) (e : due = (((nst s c r []).2.length : Int) :: (nst s c r []).2) ++ due') (l : Left (nst s c r []).1 (r.drop (numsOf c)) m' due') : NextI s r c m' due due'
  | row (h : rowsOf c = 1) (n : Nat) (r' : List Int) (e1 : r.drop (numsOf c) = (n : Int) :: r') (e2 : n ≤ r'.length) (e3 : n ≤ 300) (e : due = (((nst s c r (r'.take n)).2.length : Int) :: (nst s c r (r'.take n)).2) ++ due') (l : Left (nst s c r (r'.take n)).1 (r'.drop n) m' due') : NextI s r c m' due due'
inductive NextP (s : State) (p : Int) (r : List Int) (m : Nat) (due : List Int) : Prop
  | mk (c m' : Nat) (due' : List Int) (e : p = (c : Int)) (hc : c < 16) (em : m = m' + 1) (hl : numsOf c ≤ r.length) (x : NextI s r c m' due due') : NextP s p r m due
theorem row_300 {c : Nat} {r ns : List Int} (hrow : c = 9 ∨ c = 10) (hn : ns.length = numsOf c) (hw : VbtaafNeutral.asked1 (PyVbtaaf.whole (((c : Int) :: ns) :: [r])) = true) : r.length ≤ 300 := by
  rcases hrow with e | e
  · subst e
    obtain ⟨a, rfl⟩ := len1 hn
    have hw : (VbtaafNeutral.whole60 a && (decide (r.length ≤ 300) && r.all (fun (z : Int) => VbtaafNeutral.whole60 z))) = true := hw
    rw [Bool.and_eq_true, Bool.and_eq_true] at hw
    exact of_decide_eq_true hw.2.1
  · subst e
    obtain ⟨a, rfl⟩ := len1 hn
    have hw : (VbtaafNeutral.whole60 a && (decide (r.length ≤ 300) && r.all (fun (z : Int) => VbtaafNeutral.whole60 z))) = true := hw
    rw [Bool.and_eq_true, Bool.and_eq_true] at hw
    exact of_decide_eq_true hw.2.1
theorem due_eq {s : State} {c : Nat} {r due : List Int} {xs : List (List Int)} {cs' : List (List (List Int))} (hc16 : c < 16) (hlen : (r.take (numsOf c)).length = numsOf c) (hx : xs.length = rowsOf c)
    (h4 : due = PyFlat.told (PyFlat.played VbtaafNeutral.step s ((((((c : Int) :: r.take (numsOf c)) :: xs)) :: cs').map PyVbtaaf.whole))) :
    due = (((nst s c r (xs.headD [])).2.length : Int) :: (nst s c r (xs.headD [])).2) ++ PyFlat.told (PyFlat.played VbtaafNeutral.step (nst s c r (xs.headD [])).1 (cs'.map PyVbtaaf.whole)) := by
  rw [h4, List.map_cons, played_cons, step_call s hc16 hlen hx, told_cons]
theorem Left.next {s : State} {p : Int} {r : List Int} {m : Nat} {due : List Int} (h : Left s (p :: r) m due) : NextP s p r m due := by
  obtain ⟨f, cs, h1, h2, h3, h4⟩ := h.ex
  obtain ⟨f', n, k, xs, t, cs', rfl, hs, hl, hr, rfl, hc⟩ := calls_cons h1
  obtain ⟨c, rfl, hc16, rfl, rfl⟩ := shape_some hs
  have hlen : (r.take (numsOf c)).length = numsOf c := by rw [List.length_take]; exact Nat.min_eq_left hl
  cases m with
  | zero => exact absurd h2 (Nat.not_succ_le_zero _)
  | succ m' =>
    have h3' : ∀ c ∈ cs'.map PyVbtaaf.whole, VbtaafNeutral.asked1 c = true := fun x hx => h3 x (List.mem_cons_of_mem _ hx)
    by_cases hrow : c = 9 ∨ c = 10
    · have hk : rowsOf c = 1 := if_pos hrow
      rw [hk] at hr
      obtain ⟨mm, r', e1, e2, e3, rfl, rfl⟩ := rows_one hr
      refine ⟨c, m', _, rfl, hc16, rfl, hl, .row hk mm.toNat r' (by rw [Int.toNat_of_nonneg e2]; exact e1) e3 (by have z := row_300 hrow hlen (h3 _ List.mem_cons_self); rw [List.length_take, Nat.min_eq_left e3] at z; exact z)
        (due_eq (xs := [_]) hc16 hlen (by rw [hk]; rfl) h4) ⟨f', cs', hc, Nat.le_of_succ_le_succ h2, h3', rfl⟩⟩
    · have hk : rowsOf c = 0 := if_neg hrow
      rw [hk] at hr
      obtain ⟨rfl, rfl⟩ := rows_zero hr
      exact ⟨c, m', _, rfl, hc16, rfl, hl, .none hk (due_eq (xs := []) hc16 hlen (by rw [hk]; rfl) h4) ⟨f', cs', hc, Nat.le_of_succ_le_succ h2, h3', rfl⟩⟩
end My
end
section
set_option Elab.async false
set_option linter.all false
namespace My
open Vbtaaf
theorem planFrom_le {n : Nat} {ds : List Deed} {t : Ranks} : ∀ {k w : Nat}, (planFrom n ds t k w).length ≤ k
  | 0, w => Nat.le_refl _
  | k + 1, w => by
    unfold planFrom
    split
    · simp
    · have := planFrom_le (n := n) (ds := ds) (t := t) (k := k) (w := done n (by assumption : Nat × Deed).2 w)
      simp only [List.length_cons]
      omega
theorem planOf_le {s : State} (h : SOk s) {p w : Nat} (hw : w < 2 ^ s.facts) {l : List Nat} (e : planOf s p w = some l) : l.length ≤ 64 := by
  have ho : DsOk s.facts (deedsOf s p) := fun d hd => by
    obtain ⟨x, hx, rfl⟩ := List.mem_map.mp hd
    exact h.own p x hx
  have ht := ranks_ok ho (actorOf s p)
  unfold planOf at e
  simp only at e
  split at e
  · cases e
  · rename_i hk
    have e := Option.some.inj e
    have hm : rank (ranks s.facts (deedsOf s p) (actorOf s p)) w = (rank (ranks s.facts (deedsOf s p) (actorOf s p)) w - 1) + 1 := by omega
    have hd := ((ht w hw _).mp hm).lt ho hw
    have := h.pow
    rw [← e, List.length_map]
    have := planFrom_le (n := s.facts) (ds := deedsOf s p) (t := ranks s.facts (deedsOf s p) (actorOf s p)) (k := rank (ranks s.facts (deedsOf s p) (actorOf s p)) w - 1) (w := w)
    omega
theorem belief_lt {s : State} (h : SOk s) (p : Nat) : (actorOf s p).belief < 2 ^ s.facts := by
  unfold actorOf
  rw [List.getD_eq_getElem?_getD]
  cases e : s.actors[p]? with
  | none => exact Nat.two_pow_pos _
  | some a => exact (h.actors a (List.mem_of_getElem? e)).belief
theorem no_len (s : State) (k : Nat) : (no s k).2.length = 1 := rfl
theorem yes_len (s : State) (l : List Nat) : (yes s l).2.length = l.length + 1 := by simp [yes]
theorem flat_len (f : Deed → List Nat) (hf : ∀ d, (f d).length = 5) : ∀ l : List Deed, (l.flatMap f).length = 5 * l.length
  | [] => rfl
  | d :: l => by
    rw [List.flatMap_cons, List.length_append, hf d, flat_len f hf l, List.length_cons]
    omega
theorem SOk.answer_len {s : State} (h : SOk s) (c : Call) : (Vbtaaf.step s c).2.length ≤ 130 := by
  cases c with
  | facts n =>
    simp only [Vbtaaf.step]
    repeat' split
    all_goals simp [no_len, yes_len]
  | deed p on off add del =>
    simp only [Vbtaaf.step]
    repeat' split
    all_goals simp [no_len, yes_len]
  | actor a b c =>
    simp only [Vbtaaf.step]
    repeat' split
    all_goals simp [no_len, yes_len]
  | world v => simp only [Vbtaaf.step]; split <;> simp [no_len, yes_len]
  | tell p f v =>
    simp only [Vbtaaf.step]
    repeat' split
    all_goals simp [no_len, yes_len]
  | goal p a b =>
    simp only [Vbtaaf.step]
    repeat' split
    all_goals simp [no_len, yes_len]
  | plan p =>
    simp only [Vbtaaf.step]
    split
    · simp [no_len]
    · split
      · simp [yes_len]
      · rename_i l e
        have := planOf_le h (belief_lt h _) e
        rw [yes_len, List.length_cons]
        omega
  | far p v => simp only [Vbtaaf.step]; split <;> simp [no_len, yes_len]
  | proof p =>
    simp only [Vbtaaf.step]
    split
    · simp [no_len]
    · split
      · simp [no_len]
      · rw [yes_len]
        have h1 : (reachable s.facts (deedsOf s p.toNat) (actorOf s p.toNat).belief).length ≤ 2 ^ s.facts := by
          unfold reachable
          refine Nat.le_trans (List.length_filter_le _ _) ?_
          simp
        have := h.pow
        omega
  | check p l => simp only [Vbtaaf.step]; split <;> simp [no_len, yes_len]
  | follow p l =>
    simp only [Vbtaaf.step]
    repeat' split
    all_goals simp [no_len, yes_len]
  | turn p =>
    simp only [Vbtaaf.step]
    split
    · simp [no_len]
    · rw [yes_len]
      split <;> simp
  | rounds k => simp only [Vbtaaf.step]; split <;> simp [no_len, yes_len]
  | belief p => simp only [Vbtaaf.step]; split <;> simp [no_len, yes_len]
  | state => simp [Vbtaaf.step, yes_len]
  | deeds =>
    simp only [Vbtaaf.step]
    rw [yes_len, flat_len _ (fun d => rfl)]
    have := h.dlen
    omega
end My
end
section
set_option Elab.async false
set_option linter.all false
namespace My
open Vbtaaf
theorem step_facts1 {s : State} {n : Int} (h : from_ n 0 FACTS = false) : step s (.facts n) = (s, [-1]) := by
  simp only [step, if_pos h]
  rfl
theorem step_deed1 {s : State} {p a b c d : Int} (h : isActor s p = false ∨ isSet s a = false ∨ isSet s b = false ∨ isSet s c = false ∨ isSet s d = false) : step s (.deed p a b c d) = (s, [-1]) := by
  simp only [step, if_pos h]
  rfl
theorem step_actor1 {s : State} {a b c : Int} (h : isSet s a = false ∨ isSet s b = false ∨ isSet s c = false) : step s (.actor a b c) = (s, [-1]) := by
  simp only [step, if_pos h]
  rfl
theorem step_world1 {s : State} {v : Int} (h : isSet s v = false) : step s (.world v) = (s, [-1]) := by
  simp only [step, if_pos h]
  rfl
theorem step_tell1 {s : State} {p f v : Int} (h : isActor s p = false ∨ from_ f 0 ((s.facts : Int) - 1) = false ∨ from_ v 0 1 = false) : step s (.tell p f v) = (s, [-1]) := by
  simp only [step, if_pos h]
  rfl
theorem step_goal1 {s : State} {p a b : Int} (h : isActor s p = false ∨ isSet s a = false ∨ isSet s b = false) : step s (.goal p a b) = (s, [-1]) := by
  simp only [step, if_pos h]
  rfl
theorem step_plan1 {s : State} {p : Int} (h : isActor s p = false) : step s (.plan p) = (s, [-1]) := by
  simp only [step, if_pos h]
  rfl
theorem step_far1 {s : State} {p v : Int} (h : isActor s p = false ∨ isSet s v = false) : step s (.far p v) = (s, [-1]) := by
  simp only [step, if_pos h]
  rfl
theorem step_proof1 {s : State} {p : Int} (h : isActor s p = false) : step s (.proof p) = (s, [-1]) := by
  simp only [step, if_pos h]
  rfl
theorem step_check1 {s : State} {p : Int} {l : List Int} (h : isActor s p = false ∨ (l.all (isSet s)) = false) : step s (.check p l) = (s, [-1]) := by
  simp only [step, if_pos h]
  rfl
theorem step_follow1 {s : State} {p : Int} {l : List Int} (h : isActor s p = false ∨ (l.all fun k => from_ k 0 ((s.deeds.length : Int) - 1) && (deedOf s k.toNat).actor == p.toNat) = false) : step s (.follow p l) = (s, [-1]) := by
  simp only [step, if_pos h]
  rfl
theorem step_turn1 {s : State} {p : Int} (h : isActor s p = false) : step s (.turn p) = (s, [-1]) := by
  simp only [step, if_pos h]
  rfl
theorem step_rounds1 {s : State} {k : Int} (h : from_ k 1 20 = false) : step s (.rounds k) = (s, [-1]) := by
  simp only [step, if_pos h]
  rfl
theorem step_belief1 {s : State} {p : Int} (h : isActor s p = false) : step s (.belief p) = (s, [-1]) := by
  simp only [step, if_pos h]
  rfl
noncomputable def nInts (l : List Nat) : List Int := l.map fun (n : Nat) => (n : Int)
theorem step_proof4 {s : State} {p : Nat} {l : List Nat} (hp : p < s.actors.length) (h : planOf s p (actorOf s p).belief = some l) : step s (.proof p) = (s, [-4]) := by
  simp only [step, act_nat hp, Bool.true_eq_false, if_false, Int.toNat_natCast, h]
  rfl
theorem step_proof {s : State} {p : Nat} (hp : p < s.actors.length) (h : planOf s p (actorOf s p).belief = none) : step s (.proof p) = (s, 0 :: nInts (reachable s.facts (deedsOf s p) (actorOf s p).belief)) := by
  simp only [step, act_nat hp, Bool.true_eq_false, if_false, Int.toNat_natCast, h]
  rfl
theorem step_check {s : State} {p : Nat} {l : List Int} (hp : p < s.actors.length) (h : l.all (isSet s) = true) : step s (.check p l) = (s, [0, ((bit (proves s.facts (deedsOf s p) (actorOf s p) (actorOf s p).belief (l.map Int.toNat)) : Nat) : Int)]) := by
  simp only [step, act_nat hp, h, Bool.true_eq_false, or_self, if_false, Int.toNat_natCast]
  rfl
theorem step_follow {s : State} {p : Nat} {l : List Int} (hp : p < s.actors.length) (h : (l.all fun k => from_ k 0 ((s.deeds.length : Int) - 1) && (deedOf s k.toNat).actor == p) = true) : step s (.follow p l) =
    (s, match follow s.facts s.deeds (actorOf s p) 1 (l.map Int.toNat) (actorOf s p).belief with | none => [0, 1] | some i => [0, 0, (i : Int)]) := by
  simp only [step, act_nat hp, Bool.true_eq_false, Int.toNat_natCast, h, or_self, if_false]
  split <;> rename_i e <;> simp only [e] <;> rfl
theorem step_turn {s : State} {p : Nat} (hp : p < s.actors.length) : step s (.turn p) = ((turn s p).1, 0 :: nInts (if (turn s p).2.1 < 2 then [(turn s p).2.1] else [(turn s p).2.1, (turn s p).2.2])) := by
  simp only [step, act_nat hp, Bool.true_eq_false, if_false, Int.toNat_natCast]
  rfl
theorem step_rounds {s : State} {k : Nat} (h1 : 1 ≤ k) (h2 : k ≤ 20) : step s (.rounds k) = ((rounds s k 0).1, [0, ((rounds s k 0).2 : Int), ((rounds s k 0).1.world : Int)]) := by
  have h : from_ (k : Int) 1 20 = true := from_iff.mpr ⟨by omega, by omega⟩
  simp only [step, h, Bool.true_eq_false, if_false, Int.toNat_natCast]
  rfl
theorem step_belief {s : State} {p : Nat} (hp : p < s.actors.length) : step s (.belief p) = (s, [0, ((actorOf s p).sight : Int), ((actorOf s p).on : Int), ((actorOf s p).off : Int), ((actorOf s p).belief : Int), ((bit (reached (actorOf s p) s.world) : Nat) : Int)]) := by
  simp only [step, act_nat hp, Bool.true_eq_false, if_false, Int.toNat_natCast]
  rfl
theorem step_state {s : State} : step s .state = (s, [0, (s.facts : Int), (s.world : Int), (s.actors.length : Int), (s.deeds.length : Int)]) := rfl
theorem step_deeds {s : State} : step s .deeds = (s, 0 :: nInts (s.deeds.flatMap fun d => [d.actor, d.on, d.off, d.add, d.del])) := rfl
theorem turn_none {s : State} {p : Nat} (h : planOf s p (actorOf s p).belief = none) : turn s p = (s, 1, 0) := by
  unfold turn
  simp only [h]
theorem turn_nil {s : State} {p : Nat} (h : planOf s p (actorOf s p).belief = some []) : turn s p = (s, 0, 0) := by
  unfold turn
  simp only [h]
theorem turn_done {s : State} {p k : Nat} {r : List Nat} (h : planOf s p (actorOf s p).belief = some (k :: r)) (hc : can (deedOf s k) s.world = true) :
    turn s p = (seen { s with world := done s.facts (deedOf s k) s.world, actors := s.actors.modify p fun x => { x with belief := done s.facts (deedOf s k) x.belief } }, 2, k) := by
  unfold turn
  simp only [h, if_pos hc]
theorem turn_stopped {s : State} {p k : Nat} {r : List Nat} (h : planOf s p (actorOf s p).belief = some (k :: r)) (hc : ¬ can (deedOf s k) s.world = true) :
    turn s p = ({ s with actors := s.actors.modify p fun x => { x with belief := corrected s.facts ((deedOf s k).on ||| (deedOf s k).off) s.world x.belief } }, 3, k) := by
  unfold turn
  simp only [h, if_neg hc]
theorem plan_cons {s : State} (hs : SOk s) {p w k : Nat} {r : List Nat} (hw : w < 2 ^ s.facts) (h : planOf s p w = some (k :: r)) : ∃ d, s.deeds[k]? = some d ∧ d.actor = p ∧ deedOf s k = d := by
  have ho := hs.own p
  have ho' : DsOk s.facts (deedsOf s p) := fun d hd => by
    obtain ⟨x, hx, rfl⟩ := List.mem_map.mp hd
    exact ho x hx
  have ht := ranks_ok ho' (actorOf s p)
  have hb : Best s.facts (numbered s p) (reached (actorOf s p)) w (k :: r) := by
    unfold planOf at h
    simp only at h
    split at h
    · cases h
    · rename_i hk
      obtain ⟨j, hj⟩ : ∃ j, rank (ranks s.facts (deedsOf s p) (actorOf s p)) w = j + 1 := ⟨_, (Nat.succ_pred hk).symm⟩
      have hb := planFrom_best (own := numbered s p) ho (numbered_lt s p) ht hw hj
      rw [hj] at h
      have h := Option.some.inj h
      rw [← h]
      exact hb.2
  obtain ⟨v, ⟨d, hm, _, _⟩, _⟩ := hb.1
  obtain ⟨h1, h2⟩ := mem_numbered.mp hm
  refine ⟨d, h1, h2, ?_⟩
  unfold deedOf
  rw [List.getD_eq_getElem?_getD, h1]
  rfl
end My
end
section
set_option Elab.async false
set_option linter.all false
namespace My
open Vbtaaf
theorem ways_plan {s : State} {p w : Nat} (ho : OwnOk s.facts (numbered s p)) (hw : w < 2 ^ s.facts) {q : Qu} (B : Bfs s.facts (numbered s p) (fun _ => false) w q.length q) {a u : Nat} {ks : List Nat} (ha : q[a]? = some (u, ks)) (hg : reached (actorOf s p) u = true)
    (hb : ∀ i v l, i < a → q[i]? = some (v, l) → reached (actorOf s p) v = false) : planOf s p w = some ks ∧ rank (ranks s.facts (deedsOf s p) (actorOf s p)) w = ks.length + 1 := planOf_best ho hw (B.first ha hg hb)
theorem ways_none {s : State} {p w : Nat} (ho : OwnOk s.facts (numbered s p)) (hw : w < 2 ^ s.facts) {q : Qu} (B : Bfs s.facts (numbered s p) (fun _ => false) w q.length q) (hb : ∀ e ∈ q, reached (actorOf s p) e.1 = false) :
    planOf s p w = none ∧ rank (ranks s.facts (deedsOf s p) (actorOf s p)) w = 0 := planOf_none ho hw (B.noneAt hb)
theorem perm_lt : ∀ {l : List Int}, l.Nodup → l.Pairwise (· ≤ ·) → l.Pairwise (· < ·)
  | [], _, _ => .nil
  | a :: l, hn, hp => by
    rw [List.nodup_cons] at hn
    rw [List.pairwise_cons] at hp
    refine .cons (fun b hb => ?_) (perm_lt hn.2 hp.2)
    have h1 := hp.1 b hb
    have h2 : a ≠ b := fun e => hn.1 (e ▸ hb)
    omega
theorem ways_sorted {s : State} {p w : Nat} (ho : OwnOk s.facts (numbered s p)) (hw : w < 2 ^ s.facts) {q : Qu} (B : Bfs s.facts (numbered s p) (fun _ => false) w q.length q) {l : List Int} (hp : l.Perm (q.map fun e => (e.1 : Int))) (hs : l.Pairwise (· ≤ ·)) :
    l = nInts (reachable s.facts (deedsOf s p) w) := by
  have hnn : ∀ x ∈ l, 0 ≤ x := fun x hx => by
    obtain ⟨e, _, rfl⟩ := List.mem_map.mp (hp.mem_iff.mp hx)
    omega
  have hl : l = nInts (l.map Int.toNat) := by
    unfold nInts
    rw [List.map_map]
    refine (List.map_id l).symm.trans (List.map_congr_left fun x hx => ?_)
    have := hnn x hx
    show x = ((x.toNat : Nat) : Int)
    omega
  have hnd : l.Nodup := by
    rw [hp.nodup_iff]
    have := B.nd
    rw [List.nodup_iff_pairwise_ne, List.pairwise_map] at this ⊢
    exact this.imp fun h e => h (by omega)
  have hlt := perm_lt hnd hs
  have hs2 : (l.map Int.toNat).Pairwise (· < ·) := by
    rw [List.pairwise_map]
    refine hlt.imp_of_mem fun {a b} ha hb h => ?_
    have := hnn a ha
    have := hnn b hb
    omega
  have e := reachable_eq (own := numbered s p) ho hw B hs2 fun x => by
    constructor
    · intro h
      obtain ⟨y, hy, rfl⟩ := List.mem_map.mp h
      obtain ⟨e, he, rfl⟩ := List.mem_map.mp (hp.mem_iff.mp hy)
      exact List.mem_map.mpr ⟨e, he, by simp⟩
    · intro h
      obtain ⟨e, he, rfl⟩ := List.mem_map.mp h
      exact List.mem_map.mpr ⟨(e.1 : Int), hp.mem_iff.mpr (List.mem_map.mpr ⟨e, he, rfl⟩), by simp⟩
  rw [hl, e]
  rfl
noncomputable def Pv (n : Nat) (own : Own) (a : Actor) (w : Nat) (l : List Nat) : Prop := w ∈ l ∧ ∀ x ∈ l, reached a x = false ∧ ∀ k d, (k, d) ∈ own → can d x = true → done n d x ∈ l
theorem proves_iff {n : Nat} {own : Own} {a : Actor} {w : Nat} {l : List Nat} : proves n (dsOf own) a w l = true ↔ Pv n own a w l := by
  unfold proves Pv dsOf
  simp only [Bool.and_eq_true, List.contains_iff_mem, List.all_eq_true, Bool.not_eq_true', Bool.or_eq_true, List.mem_map]
  constructor
  · rintro ⟨h1, h2⟩
    refine ⟨h1, fun x hx => ⟨(h2 x hx).1, fun k d hd hc => ?_⟩⟩
    rcases (h2 x hx).2 d ⟨(k, d), hd, rfl⟩ with h | h
    · rw [hc] at h; cases h
    · exact h
  · rintro ⟨h1, h2⟩
    refine ⟨h1, fun x hx => ⟨(h2 x hx).1, ?_⟩⟩
    rintro d ⟨⟨k, d'⟩, hd, rfl⟩
    cases hc : can d' x with
    | false => exact .inl rfl
    | true => exact .inr ((h2 x hx).2 k d' hd hc)
theorem proves_not {n : Nat} {own : Own} {a : Actor} {w : Nat} {l : List Nat} (h : ¬ Pv n own a w l) : proves n (dsOf own) a w l = false := by
  cases e : proves n (dsOf own) a w l with
  | false => rfl
  | true => exact absurd (proves_iff.mp e) h
theorem follow_nil {n : Nat} {ds : List Deed} {a : Actor} {i w : Nat} : follow n ds a i [] w = if reached a w = true then none else some i := rfl
theorem follow_go {n : Nat} {ds : List Deed} {a : Actor} {i w k : Nat} {r : List Nat} {d : Deed} (hd : ds[k]? = some d) (hc : can d w = true) : follow n ds a i (k :: r) w = follow n ds a (i + 1) r (done n d w) := by
  rw [follow]
  simp only [hd, if_pos hc]
theorem follow_stop {n : Nat} {ds : List Deed} {a : Actor} {i w k : Nat} {r : List Nat} {d : Deed} (hd : ds[k]? = some d) (hc : can d w = false) : follow n ds a i (k :: r) w = some i := by
  rw [follow]
  simp only [hd, hc, Bool.false_eq_true, if_false]
theorem round_zero {s : State} {p : Nat} {b : Bool} : round s 0 p b = (s, b) := rfl
theorem round_succ {s : State} {k p : Nat} {b : Bool} : round s (k + 1) p b = round (turn s p).1 k (p + 1) (b || decide (2 ≤ (turn s p).2.1)) := rfl
theorem rounds_zero {s : State} {i : Nat} : rounds s 0 i = (s, i) := rfl
theorem rounds_go {s : State} {k i : Nat} (h : (round s s.actors.length 0 false).2 = true) : rounds s (k + 1) i = rounds (round s s.actors.length 0 false).1 k (i + 1) := by
  rw [rounds]
  simp only [if_pos h]
theorem rounds_stop {s : State} {k i : Nat} (h : (round s s.actors.length 0 false).2 = false) : rounds s (k + 1) i = ((round s s.actors.length 0 false).1, i) := by
  rw [rounds]
  simp only [h, Bool.false_eq_true, if_false]
theorem turn_code {s : State} {p : Nat} : (turn s p).2.1 ≤ 3 := by
  unfold turn
  simp only
  split
  · simp
  · simp
  · split <;> simp
noncomputable def told1 (x : State × Nat × Nat) : List Nat := if x.2.1 < 2 then [x.2.1] else [x.2.1, x.2.2]
end My
end
section
set_option Elab.async false
set_option linter.all false
set_option maxRecDepth 100000
set_option maxHeartbeats 2000000
namespace L2
open PySem PySem.Spec PyProof.Rows
noncomputable def KEnt (K : PySem.W.Frag) : List (Int × V) → List DictEntry → Prop := Paired fun p e => e.hash = hashInt p.1 ∧ RelV (.int p.1) e.key ∧ RelV p.2 e.val
structure KD (K : PySem.W.Frag) (a : Addr) (kvs : List (Int × V)) : Prop where
  ex : ∃ (o : Obj) (es : Array DictEntry) (ep : Nat), K.lookup a = some o ∧ o.ExactDict ∧ o.data = .dict es ep ∧ KEnt K kvs es.toList
  nd : (kvs.map (·.1)).Nodup
noncomputable def kyI (e : DictEntry) : Key := match e.key with | .int i _ => i | _ => 0
theorem KEnt.vals {P : Program} {w : World} {K : PySem.W.Frag} : ∀ {kvs : List (Int × V)} {es : List DictEntry}, KEnt K kvs es → KV kvs (es.map fun e => (kyI e, e.val)) ∧
    Pairs (intKind P w) es (es.map fun e => (kyI e, e.val)) ∧ (∀ e ∈ es, ∃ k, (intKind P w).is k e.key = true ∧ e.hash = (intKind P w).hash k) ∧ es.map kyI = kvs.map (·.1)
  | [], _, r => by
    cases r
    exact ⟨.nil, .nil, fun e h => absurd h List.not_mem_nil, rfl⟩
  | p :: kvs, _, r => by
    cases r with
    | @cons _ e _ es h t =>
      obtain ⟨h1, h2, h3⟩ := h
      obtain ⟨tk, hk⟩ := (show ∃ t, e.key = Value.int p.1 t from h2)
      obtain ⟨i1, i2, i3, i4⟩ := KEnt.vals (P := P) (w := w) (K := K) t
      have hkey : kyI e = p.1 := by unfold kyI; rw [hk]
      have hi : (intKind P w).is p.1 e.key = true := kV_is h2
      exact ⟨.cons ⟨hkey.symm, h3⟩ i1, .cons (show (intKind P w).is (kyI e) e.key = true by rw [hkey]; exact hi) rfl i2, fun e' he => (List.mem_cons.mp he).elim (fun z => ⟨p.1, z ▸ hi, z ▸ h1⟩) (i3 e'), by rw [List.map_cons, List.map_cons, i4, hkey]⟩
theorem KD.dictOf {P : Program} {w : World} {K : PySem.W.Frag} {a : Addr} {kvs : List (Int × V)} {h : Heap} (d : KD K a kvs) (X : K.In h) : ∃ vs, KV kvs vs ∧ h.DictOf (intKind P w) a vs := by
  obtain ⟨o, es, ep, h1, h2, h3, h4⟩ := d.ex
  obtain ⟨i1, i2, i3, i4⟩ := KEnt.vals (P := P) (w := w) h4
  refine ⟨_, i1, o, es, ep, X a o h1, h2, h3, fun e he => i3 e (Array.mem_toList_iff.mpr he), i2, ?_⟩
  rw [List.map_map]
  show (List.map kyI es.toList).Nodup
  rw [i4]
  exact d.nd
theorem valV_keyed : ∀ {kvs : List (Int × V)} {k : Int}, valV kvs (k) = (kvs.find? fun p => p.1 == k).map (·.2)
  | [], k => rfl
  | p :: r, k => by
    by_cases e : p.1 = k
    · rw [valV_pos (by rw [e]), List.find?_cons_of_pos (by simpa using e)]
      rfl
    · rw [valV_neg (e), List.find?_cons_of_neg (by simpa using e)]
      exact valV_keyed
inductive KGI (K : PySem.W.Frag) (x y : V) (Q : V → Prop) : Prop
  | mk (a : Addr) (kvs : List (Int × V)) (k : Int) (v : V) (e : x = .ref a) (d : KD K a kvs) (e2 : y = .int k) (f : (kvs.find? fun p => p.1 == k) = some (k, v)) (q : Q v) : KGI K x y Q
noncomputable def tKGet (K : PySem.W.Frag) (td ty : TE) : TE := fun σ H Q => td σ H fun x H1 => ty σ H1 fun y H2 => KGI K x y fun v => Q v H2
theorem pe_kget {X : Cx} {o i : Expr} {pos : Pos} {td ty : TE} (ho : PE X o td) (hi : PE X i ty) (hs : NoSl i) : PE X (.Subscript o i pos) (tKGet X.K td ty) := by
  intro pins s σ H Q I h
  refine subD_of PySem.F.slot_dict_getitem.lookup hs (thn (ho pins s σ H _ I h) fun u s1 ⟨x, H1, I1, rx, q1⟩ => thn (hi pins s1 σ H1 _ I1 q1) fun iv s2 ⟨y, H2, I2, ry, a, kvs, k, v, ex, d, ey, hf, q2⟩ => ?_)
  subst ex ey
  obtain rfl : u = Value.ref a := rx
  obtain ⟨vs, rel, dd⟩ := d.dictOf (P := X.prog) (w := X.w) I2.kIn
  obtain ⟨w', hw, rw'⟩ := RelO.some_of (v := v) (o := valueAt vs (k)) (by
    have e : valV kvs (k) = some v := by rw [valV_keyed, hf]; rfl
    rw [← e]
    exact rel.val _)
  exact ⟨dd.typeIs, wpAny_getItem_of (kV_is (k := k) ry) dd.mapOf hw ⟨v, H2, I2.tok _, rw', q2⟩⟩
noncomputable def tTru (K : PySem.W.Frag) (ta : TE) : TT := fun σ H Q => ta σ H fun x H' => ∃ k, TruV K x H' k ∧ Q k H'
noncomputable def tCallV (G : Addr → Sp → Prop) (E : XK) (tf : TE) (t : TA) : TE := fun σ H Q => tf σ H fun x H1 => ∃ f sp, x = .ref f ∧ G f sp ∧ t σ H1 fun vs H2 => sp vs H2 Q E
theorem pe_callV {X : Cx} {CX : CXT} {E : XK} {G : Addr → Sp → Prop} {func e : Expr} {es : List Expr} {tf : TE} {t : TA} {pos : Pos}
    (hG : ∀ f sp, G f sp → ∃ k fd ps, FnOk X.prog X.w X.K X.mg X.base CX k f fd ps sp ∧ Room k X.A ∧ PySem.W.keepIn X.K (.ref f) = true ∧ Binds X.K fd ps []) (hx : Passes CX X E) (hf : PE X func tf) (ha : PA X (e :: es) t)
    (hc : eval (.Call func (e :: es) [] pos) X.env = (do callWith pos (← eval func X.env) [] (backTo pos (starEach (e :: es) X.env)) (backToKw pos (keywordEach [] X.env))) := by rfl)
    (he : starEach (e :: es) X.env = (false, eval e X.env) :: starEach es X.env := by rfl) (hpl : (backTo pos (starEach es X.env)).any (·.1) = false := by rfl) :
    PE X (.Call func (e :: es) [] pos) (tCallV G E tf t) := by
  intro pins s σ H Q I h
  refine Call_ (thn (hf pins s σ H _ I h) fun u s1 ⟨x, H1, I1, rx, f, sp, ex, g, q⟩ => ?_) hc
  subst ex
  obtain rfl : u = Value.ref f := rx
  obtain ⟨k, fd, ps, F, hr, hk, hb⟩ := hG f sp g
  refine PySem.W.callWith_K (h₀ := X.base) I.ok.mod.kin hk (thn (ha pos pins s1 σ H1 _ I1 q) fun us s2 ⟨vs, H2, I2, r, q2⟩ => ⟨I2.kIn, ?_⟩) he hpl
  exact run_fn (dvs := []) F hr hb .nil hx I2 r (by rw [List.append_nil]; exact q2)
end L2
end
section
set_option Elab.async false
set_option linter.all false
set_option maxRecDepth 100000
set_option maxHeartbeats 2000000
namespace L2
open PySem PySem.Spec PyProof.Rows
noncomputable def tKIn (K : PySem.W.Frag) (ty td : TE) : TE := fun σ H Q => ty σ H fun y H1 => td σ H1 fun x H2 => ∃ a kvs k, x = .ref a ∧ KD K a kvs ∧ (a == sysModules) = false ∧ y = .int k ∧ Q (.bl (kvs.find? fun p => p.1 == k).isSome) H2
theorem pc_kin {X : Cx} {i o : Expr} {ty td : TE} (hi : PE X i ty) (ho : PE X o td) : PC X .In i o (tKIn X.K ty td) := by
  intro pins s σ H Q I h
  refine thn (hi pins s σ H _ I h) fun iv s1 ⟨y, H1, I1, ry, q1⟩ => thn (ho pins s1 σ H1 _ I1 q1) fun u s2 ⟨x, H2, I2, rx, a, kvs, k, ex, d, hs, ey, q2⟩ => ?_
  subst ex ey
  obtain rfl : u = Value.ref a := rx
  obtain ⟨vs, rel, dd⟩ := d.dictOf (P := X.prog) (w := X.w) I2.kIn
  refine wpAny_in_of (kV_is (k := k) ry) hs dd.mapOf ?_
  rw [← (rel.val k).isSome_eq, valV_keyed, Option.isSome_map]
  exact ⟨.bl _, H2, I2.tok _, rfl, q2⟩
noncomputable def rEqL (K : PySem.W.Frag) : R2 := fun x y H Q => ∃ a b xs, x = .ref a ∧ y = .ref b ∧ SqL K H a xs ∧ SqL K H b [] ∧ Q (.bl (decide (xs = []))) H
theorem op_eqL {X : Cx} (hu : X.A.units + 1 < cLine) : OpR X (compareOp .Eq) (rEqL X.K) := by
  intro pins s σ H x y v u Q I rx ry h
  obtain ⟨a, b, xs, rfl, rfl, ha, hb, q⟩ := h
  cases rx
  cases ry
  obtain ⟨its, rv, p, _⟩ := I.list ha
  obtain ⟨its2, rv2, p2, _⟩ := I.list hb
  have l1 := rv.length
  have l2 := rv2.length
  have hu' : X.A.units < cLine := by omega
  cases xs with
  | nil =>
    refine PySem.SeqAt.eq_listAt (e := fun _ => true) p.isList p2.isList (by simp at l1 l2 ⊢; omega) hu' (fun j h1 h2 => ?_) ?_
    · simp at l1 h1
      omega
    · refine fin_bl I q ?_
      rw [List.all_eq_true.mpr (fun _ _ => rfl)]
      simp
  | cons z zs =>
    refine PySem.SeqAt.eq_list_lengthsAt p.isList p2.isList (by simp at l1 l2 ⊢; omega) hu' ?_
    exact fin_bl I q (by simp)
noncomputable def rSortedD : List V → Hp → VK → Prop := fun vs H Q => ∃ (a : Addr) (kvs : List (Key × V)) (ns : List Int), vs = [V.ref a] ∧ H a = some (.dK kvs) ∧ kvs.map (·.1) = ns ∧
  ∀ (ns' : List Int) (p : Addr), ns'.Perm ns → ns'.Pairwise (· ≤ ·) → H p = none → Q (.ref p) (upd H p (.lst (ns'.map V.int)))
theorem ints_of {P : Program} {w : World} : ∀ {ns : List Int} {vs : List Value}, vs.length = ns.length → (∀ (j : Nat) (v : Value), vs[j]? = some v → ∃ n, ns[j]? = some n ∧ (intKind P w).is n v = true) → IntsAre vs ns
  | [], [], _, _ => .nil
  | [], _ :: _, h, _ => by simp at h
  | _ :: _, [], h, _ => by simp at h
  | n :: ns, v :: vs, h, k => by
    obtain ⟨n', e1, e2⟩ := k 0 v rfl
    have e : n = n' := by simpa using e1
    subst e
    obtain ⟨t, rfl⟩ := Value.isInt_shape e2
    exact .cons n t (ints_of (by simpa using h) fun j v' hj => k (j + 1) v' (by simpa using hj))
theorem kvGet : ∀ {kvs : List (Key × V)} {vs : List (Key × Value)}, KV kvs vs → ∀ {j : Nat} {kv : Key × V}, kvs[j]? = some kv → ∃ u, vs[j]? = some u ∧ kv.1 = u.1
  | _, _, .nil, j, kv, h => by simp at h
  | _, _, .cons h1 t, 0, kv, h => by
    have e := Option.some.inj (show some _ = some kv from h)
    subst e
    exact ⟨_, rfl, h1.1⟩
  | _, _, .cons h1 t, j + 1, kv, h => by
    obtain ⟨u, h2, h3⟩ := kvGet t (j := j) (kv := kv) (by simpa using h)
    exact ⟨u, by simpa using h2, h3⟩
theorem cr_sortedD {X : Cx} (hc : X.calm = true) : CallR X (.builtin "sorted") rSortedD := by
  intro pins s σ H vs us Q I r h
  obtain ⟨a, kvs, ns, rfl, ha, hk, q⟩ := h
  rw [Vals.ref1 r]
  obtain ⟨hz, hs, ws, rel, o, es, ep, ho, hx, hd, hko, hpr, hnd⟩ := dk_of I.hok ha
  have hlen : kvs.length = ws.length := Paired.length rel
  have hkl : kvs.length = ns.length := by simpa using congrArg List.length hk
  have hat : s.heap.DictAt (intKind X.prog X.w) a ws ep := ⟨o, es, ho, hx, hd, hko, hpr, hnd⟩
  refine Calls.call_function_entry kind_sorted plain_sorted entry_sorted (args_sorted1 _) ?_
  unfold Builtin.«sorted»
  refine wpAny_bind (m := checkCount "sorted" 1 1 _) (wpAny_pure ?_)
  refine wpAny_bind (PySem.W.kdu_collect (A := X.A.in1) (PySem.W.kdl_dict (ep := ep) hs) (I.ok.hd hc) hat (by omega) fun h' tk acc hkp hacc => ?_)
  have hal : acc.toList.length = ns.length := by rw [Array.length_toList, hacc.1]; omega
  refine wpAny_bind (wpAny_newList ?_ (by rw [hal]; omega))
  have hI : IntsAre acc.toList ns := ints_of (P := X.prog) (w := X.w) hal fun j v hj => by
    obtain ⟨k, x, e1, e2⟩ := hacc.2 j v (by rw [← Array.getElem?_toList]; exact hj)
    obtain ⟨kv, hkv⟩ : ∃ kv, kvs[j]? = some kv := ⟨_, List.getElem?_eq_getElem (by rw [hlen]; exact (List.getElem?_eq_some_iff.mp e1).1)⟩
    obtain ⟨u', hu1, hu2⟩ := kvGet rel hkv
    rw [e1] at hu1
    cases hu1
    have e3 : (kvs.map (·.1))[j]? = some kv.1 := by rw [List.getElem?_map, hkv]; rfl
    rw [hk] at e3
    exact ⟨_, e3, by rw [hu2]; exact e2⟩
  have hg : (h'.push (seqObj "list" acc.toList.toArray 0)).get? h'.objs.size = some (seqObj "list" acc.toList.toArray 0) := Heap.get?_push_size _ rfl
  refine wpAny_bind (wpAny_holding (wpAny_call_entry slot_list_sort ⟨_, hg, rfl⟩ entry_list_sort (list_sort_treeAny hg hI (by rw [hal]; omega) fun out ns' a1 a2 a3 => ⟨_, rfl, ?_⟩) (args_list_sort _)))
  refine wpAny_pure ⟨_, rfl, ?_⟩
  obtain ⟨ep', he'⟩ := PyProof.Rows.sortedHeap_at (vs := acc.toList) (out := out) hg
  have I2 : Inv X pins σ H { s with heap := h', toks := tk } := I.kept hkp
  have hl2 : (ns'.map V.int).length ≤ sizeLine := by rw [List.length_map, a2.length_eq]; omega
  refine ⟨.ref _, upd H h'.objs.size (.lst (ns'.map V.int)), I2.laid (t' := tk) (fun b u hb => ?_) (Nat.le_refl _) ⟨hl2, out.toList, ep', vals_of_ints a1, he'⟩, rfl, q ns' _ a2 a3 (I2.hok.fresh (Nat.le_refl _))⟩
  have hlt : b < h'.objs.size := Heap.lt_size hb
  rw [PyProof.Rows.sortedHeap_old (Nat.ne_of_lt hlt) (by rw [size_push']; exact Nat.lt_succ_of_lt hlt)]
  exact Heap.get?_push_of_some _ hb
theorem for_keys {d : Addr} {o : Obj} {kvs : List (Key × V)} {g : TG} {tb : TS} {D : Ends} {σ : St} {H : Hp} (Pv : Nat → St → Hp → Prop) (h0 : Pv 0 σ H) (hl : ∀ i σ H, i ≤ kvs.length → Pv i σ H → H d = some (.frz o (.dK kvs)))
    (hs : ∀ i k v σ H, kvs[i]? = some (k, v) → Pv i σ H → g (kV k) σ H (tb (D.loop (Pv (i + 1))))) (hd : ∀ σ H, Pv kvs.length σ H → D.nx σ H) : ForW (Itk d o kvs) g tb D σ H :=
  ⟨kvs.length, Pv, h0, fun i σ H hi p => ⟨hl i σ H (Nat.le_of_lt hi) p, hi⟩, fun i σ H x H' hi p y => by
    obtain ⟨rfl, k, v, e, rfl⟩ := y
    exact hs i k v σ _ e p, fun σ H p => ⟨hl _ σ H (Nat.le_refl _) p, Nat.le_refl _⟩, hd⟩
end L2
end
section
set_option Elab.async false
set_option linter.all false
set_option maxRecDepth 100000
set_option maxHeartbeats 2000000
namespace Es
open PySem
open AutoSeq1 (wpAny_loadPart')
section
variable {prog : Program} {w : World} {A : Around} {E : Value → Shared → Prop} {s : Shared}
theorem callType_kw {Ty nid iid : String} {B1 B2 : Builtin} {xs : List Value} {kw : List (Str × Value)} {S : Spec} {Q Q1 : Value → Shared → Prop} (ft : TypeCalled Ty nid iid)
    (c1 : checkTypeCall Ty ⟨xs, kw⟩ = pure ()) (c2 : checkBuiltinCall nid ⟨.type Ty :: xs, kw⟩ = pure ()) (e1 : entryFor table nid = some B1) (e2 : entryFor table iid = some B2) (g : Meets (B1 ⟨.type Ty :: xs, kw⟩) S) (h : S A.in1 (wants Q1 E) s)
    (nx : ∀ obj s1, Q1 obj s1 → s1.TypeIs obj Ty ∧ argsOk iid ⟨obj :: xs, kw⟩ ∧ ∃ Si, Meets (B2 ⟨obj :: xs, kw⟩) Si ∧ Si A.in1 (wants (fun r s2 => r = .none ∧ Q obj s2) E) s1) : wpAny (model prog w) A (call (.type Ty) xs kw) Q E s := by
  obtain ⟨c, tl, q1⟩ := ft.mro
  have q2 := ft.made
  have q3 := ft.sub
  refine wpAny_call (codeAny_of_tree ?_); show wpAny _ _ (callAny (.type Ty) _) _ _ _
  refine wpAny_pure ⟨Code.quiet_builtin _ (by decide +kernel), codeAny_builtin F.entry_type_call ?_⟩; rw [Around.under_plain (weight_type_call_type Ty xs kw) (units_type_call_type Ty xs kw)]
  have q4 := ft.notType
  have q5 := ft.canCreate
  repeat (any_goals (first | assumption | wp_step))
  refine codeAny_mono (codeAny_call_builtin ft.plain e1 (wpAny_of_eq c2 (g prog w A.in1 _ s h))) fun r s1 hr => ?_
  cases r with
  | error e => exact hr
  | ok fl =>
    cases fl with
    | ret obj =>
      obtain ⟨hT, ok, Si, gi, hi⟩ := nx _ _ hr
      have q6 := ft.init.lookup
      have q7 := ft.init.bind obj
      repeat (any_goals (first | assumption | wp_step))
      refine codeAny_mono (codeAny_call_builtin ft.init.plain e2 (ft.init.check _ _ _ _ _ _ _ _ hT ok (gi prog w A.in1 _ s1 hi))) fun r2 s2 hr2 => ?_
      cases r2 with
      | error e => exact hr2
      | ok fl2 =>
        cases fl2 with
        | ret r =>
          obtain ⟨rfl, hq⟩ := hr2
          repeat (any_goals (first | assumption | wp_step))
        | _ => exact hr2.elim
    | _ => exact hr.elim
theorem init_kw {Ty nid : String} {self : Value} {rest : List Value} {k : Str × Value} {kw : List (Str × Value)} (hl : typeLookup (.type Ty) "__init__" = pure (some (.builtin "object.__init__"))) (hm : Bind.madeBy (.type Ty) = pure (some nid)) (hne : (some nid != some "object.__new__") = true) :
    Meets (Builtin.«object.__init__» ⟨self :: rest, k :: kw⟩) (fun _ R s => s.TypeIs self Ty ∧ R (.ok (.ret .none)) s) := by
  refine Meets.of_wp fun prog w A R s hs => ?_
  obtain ⟨hT, hq⟩ := hs
  cases rest with
  | nil =>
    repeat (any_goals (first | assumption | wp_step))
    exact ⟨_, rfl, hq⟩
  | cons a rest =>
    repeat (any_goals (first | assumption | wp_step))
    exact ⟨_, rfl, hq⟩
theorem callWith_type_kw {M : Model} {pos : Pos} {Ty : String} {args : List (Bool × Sem Value)} {kws : List (Option Str × Sem Value)} {Q : Value → Shared → Prop} (h1 : args.any (·.1) = false) (h2 : kws.any (·.1.isNone) = false)
    (h : wpAny M A (evalArgs (.type Ty) true args kws) (fun a s1 => wpAny M A (call (.type Ty) ([] ++ a.pos) a.kw) Q E s1) E s) : wpAny M A (callWith pos (.type Ty) [] args kws) Q E s := by
  unfold callWith
  refine wpAny_bind (wpAny_holding (wpAny_mono h (fun a s1 h3 => wpAny_bind (wpAny_standAt ?_)) fun _ _ x => x)); rw [h1, h2]
  refine wpAny_bind (wpAny_pure ?_); exact wpAny_bind (wpAny_mono h3 (fun r s2 hr => wpAny_bind (wpAny_holding (wpAny_point (wpAny_pure hr)))) fun _ _ x => x)
theorem callWith_kw1 {M : Model} {env : Env} {pos : Pos} {Ty : String} {e : Expr} {kws : List Keyword} {Q : Value → Shared → Prop} (hs : backTo pos (starEach [e] env) = [(false, eval e env)])
    (h : wpAny M A (spliced (backTo pos (starEach [e] env))) (fun vs s1 => wpAny M A (evalAll ((backToKw pos (keywordEach kws env)).map (·.2))) (fun kvs s2 => wpAny M A (call (.type Ty) vs (((backToKw pos (keywordEach kws env)).filterMap (·.1)).zip kvs)) Q E s2) E s1) E s)
    (h1 : (backToKw pos (keywordEach kws env)).all (·.1.isSome) = true) (h2 : (backToKw pos (keywordEach kws env)).any (·.1.isNone) = false) : wpAny M A (callWith pos (.type Ty) [] (backTo pos (starEach [e] env)) (backToKw pos (keywordEach kws env))) Q E s := by
  refine callWith_type_kw (by rw [hs]; rfl) h2 ?_
  rw [hs] at h ⊢
  exact PyProof.Rows.evalArgs_kwB h1 h
theorem all_b {M : Model} {α : Type} {b : α} {Q : α → Shared → Prop} (h : ∀ b, Q b s) : wpAny M A (pure b) Q E s := wpAny_pure (h b)
theorem new_start (l : Addr) (its : Array Value) (n : Nat) (dct : Option Addr) (sl : Array (Option Value)) (t : Tok) :
    Meets (Builtin.«enumerate.__new__» ⟨[.type "enumerate", .ref l], [("start", .int 1 t)]⟩) (fun _ R s => s.heap.get? l = some { cls := .type "list", dict := dct, data := .seq its n, slots := sl } ∧
      R (.ok (.ret (.ref (s.heap.push { cls := .type "list_iterator", data := .fields #[.ref l, .int 0 0] }).objs.size)))
        { s with heap := (s.heap.push { cls := .type "list_iterator", data := .fields #[.ref l, .int 0 0] }).push { cls := .type "enumerate", data := .fields #[.none, .bool false, .ref s.heap.objs.size, rawInt 1, .none, .none] } }) :=
  .of_wp fun prog w A R s h => by
    obtain ⟨hp, g, d, tk, os⟩ := s; obtain ⟨hl, h⟩ := h
    have hsub := sub_enumerate
    have hL : Heap.IsList (Shared.heap ⟨hp, g, d, tk, os⟩) l its := ⟨_, hl, rfl, n, rfl⟩
    wp_walk using wpAny_loadPart' hl
    refine wpAny_stack_any fun st => all_b fun b => ?_
    cases b
    · wp_walk using wpAny_loadPart' hl, wpAny_pyIter_list hL
      exact ⟨_, rfl, h⟩
    · wp_walk using wpAny_loadPart' hl, wpAny_pyIter_list hL
      exact ⟨_, rfl, h⟩
theorem tc_kw (a : Value) (t : Tok) : checkTypeCall "enumerate" ⟨[a], [("start", .int 1 t)]⟩ = pure () := by kernel_rfl
theorem nc_kw (a : Value) (t : Tok) : checkBuiltinCall "enumerate.__new__" ⟨[.type "enumerate", a], [("start", .int 1 t)]⟩ = pure () := by kernel_rfl
theorem ai_kw (a b : Value) (t : Tok) : argsOk "object.__init__" ⟨[a, b], [("start", .int 1 t)]⟩ := by
  unfold argsOk; rw [signature?_of (id := "object.__init__") (n := ['_', '_', 't', 'i', 'n', 'i', '_', '_']) (o := ['t', 'c', 'e', 'j', 'b', 'o']) (by kernel_rfl) F.owner_object]; kernel_rfl
theorem call_start {l : Addr} {its : Array Value} {t : Tok} {Q : Value → Shared → Prop} (hL : s.heap.IsList l its) (h : ∀ h', IsEnum h' (s.heap.objs.size + 1) s.heap.objs.size 1 .none → h'.IsListIter s.heap.objs.size l 0 → (∀ b o, s.heap.get? b = some o → h'.get? b = some o) → Q (.ref (s.heap.objs.size + 1)) { s with heap := h' }) :
    wpAny (model prog w) A (call (.type "enumerate") [.ref l] [("start", .int 1 t)]) Q E s := by
  obtain ⟨⟨c, dct, dt, sl⟩, hl, hc, n, hd⟩ := hL
  have hc : c = .type "list" := hc
  have hd : dt = .seq its n := hd
  subst hc hd
  refine callType_kw (Q1 := fun obj s1 => s1.TypeIs obj "enumerate" ∧ Q obj s1) F.called_enumerate (tc_kw _ _) (nc_kw _ _) F.entry_enumerate_new F.entry_object_init (new_start l its n dct sl t) ⟨hl, ?_⟩ fun obj s1 hq =>
    ⟨hq.1, ai_kw _ _ _, _, init_kw F.called_enumerate.init.lookup F.called_enumerate.made (by decide), hq.1, rfl, hq.2⟩
  have z : (s.heap.push { cls := .type "list_iterator", data := .fields #[.ref l, .int 0 0] }).objs.size = s.heap.objs.size + 1 := Heap.size_push ..
  show _ ∧ _
  rw [z]
  have he : IsEnum ((s.heap.push { cls := .type "list_iterator", data := .fields #[.ref l, .int 0 0] }).push { cls := .type "enumerate", data := .fields #[.none, .bool false, .ref s.heap.objs.size, rawInt 1, .none, .none] }) (s.heap.objs.size + 1) s.heap.objs.size 1 .none := by
    have q := Heap.get?_push_size (s.heap.push { cls := .type "list_iterator", data := .fields #[.ref l, .int 0 0] }) (o := { cls := .type "enumerate", data := .fields #[.none, .bool false, .ref s.heap.objs.size, rawInt 1, .none, .none] }) rfl
    rw [z] at q; exact q
  exact ⟨⟨_, he, rfl⟩, h _ he ⟨_, Heap.get?_push_of_some _ (Heap.get?_push_size _ rfl), rfl, rfl⟩ fun b o x => Heap.get?_push_of_some _ (Heap.get?_push_of_some _ x)⟩
theorem shift {it : Addr} {fp : List Addr} {n : Nat} {P : Nat → Value → Prop} {St : Nat → Heap → Prop} (d : Draws prog w A it fp n P St) (c : Nat) : Draws prog w A it fp (n + c) (fun j x => ∃ i, j = i + c ∧ P i x) (fun j h => ∃ i, j = i + c ∧ St i h) where
  live := fun _ h ⟨i, _, z⟩ => d.live i h z
  frame := fun _ h h' ⟨i, e, z⟩ k => ⟨i, e, d.frame i h h' z k⟩
  item := fun j s Q E hj ⟨i, e, z⟩ hQ => by
    subst e
    exact d.item i s Q E (Nat.lt_of_add_lt_add_right hj) z fun x h' tk p st sb => hQ x h' tk ⟨i, rfl, p⟩ ⟨i + 1, Nat.add_right_comm i c 1, st⟩ sb
  done := fun s Q E ⟨i, e, z⟩ hE => by
    cases Nat.add_right_cancel e
    exact d.done s Q E z hE
theorem ne_cls {h : Heap} {a b : Addr} {o o' : Obj} (ha : h.get? a = some o) (hb : h.get? b = some o') (hc : o.cls ≠ o'.cls) : a ≠ b := fun z => by
  subst z
  cases ha.symm.trans hb
  exact hc rfl
theorem enum_ne {h : Heap} {e it a : Addr} {j : Int} {i : Nat} {old : Value} {its : Array Value} (he : IsEnum h e it j old) (hit : h.IsListIter it a i) (hl : h.IsList a its) : a ≠ it ∧ e ≠ a := by
  obtain ⟨o, ho, c, _⟩ := hl
  obtain ⟨o', ho', c', _⟩ := hit
  exact ⟨ne_cls ho ho' (by rw [c, c']; exact fun z => absurd (Value.type.inj z) (by decide)), ne_cls he ho (by rw [c]; exact fun z => absurd (Value.type.inj z) (by decide))⟩
end
end Es
namespace L2
open PySem PySem.Spec PyProof.Rows
inductive IeG (K : PySem.W.Frag) (a : Addr) (i : Nat) (H : Hp) : Prop
  | mk (xs : List V) (x : V) (h : SqL K H a xs) (e : xs[i]? = some x) : IeG K a i H
inductive IeY (c : Nat) (K : PySem.W.Frag) (a : Addr) (i : Nat) (H : Hp) (v : V) (H' : Hp) : Prop
  | mk (T : Addr) (x : V) (e : v = .ref T) (hT : H T = none) (eH : H' = upd H T (.tup [.int ((i + c : Nat) : Int), x])) (hx : ∀ xs, SqL K H a xs → xs[i]? = some x) : IeY c K a i H v H'
inductive IeS (K : PySem.W.Frag) (a : Addr) (i : Nat) (H : Hp) : Prop
  | mk (xs : List V) (h : SqL K H a xs) (e : xs.length = i) : IeS K a i H
noncomputable def Iec (c : Nat) (K : PySem.W.Frag) (a : Addr) : It := ⟨IeG K a, IeY c K a, IeS K a⟩
inductive EnT (c : Nat) (a e it : Addr) (i : Nat) (h : Heap) : Prop
  | mk (old : Value) (he : IsEnum h e it ((i + c : Nat) : Int) old) (hi : h.IsListIter it a i) (hne : e ≠ it) : EnT c a e it i h
theorem mem2 {α : Type} {b e f : α} (h : b ∈ [e, f]) : b = e ∨ b = f := (List.mem_cons.mp h).imp id List.mem_singleton.mp
theorem snd2 {α : Type} {e f : α} : f ∈ [e, f] := List.mem_cons_of_mem _ List.mem_cons_self
theorem turn_enumC {P : Program} {w : World} {K : PySem.W.Frag} {elts : List Expr} {kk : Nat} {tpos : Pos} (c : Nat) (a e it : Addr) : Turn P w K (.Tuple elts kk tpos) (Iec c K a) [e, it] e (EnT c a e it) where
  mem := List.mem_cons_self
  obj := fun i h st b hb => by
    obtain ⟨old, he, ⟨o, ho, hc, hd⟩, _⟩ := st
    rcases mem2 hb with z | z
    · rw [z]; exact ⟨_, he, fun v q => nomatch q⟩
    · rw [z]; exact ⟨o, ho, fun v q => nomatch hd.symm.trans q⟩
  keep := fun i h h' st k => let ⟨old, he, hi, hne⟩ := st; ⟨old, k e List.mem_cons_self _ he, hi.at fun o q => k it snd2 o q, hne⟩
  item := by
    intro X hP hw hK hc i pins s σ H E I hf st hg
    subst hP hw hK
    obtain ⟨old, he, hit, hne⟩ := st
    obtain ⟨xs, x, hq, hx⟩ := hg
    obtain ⟨its, rv, p, hz⟩ := I.list hq
    obtain ⟨u, hu, ru⟩ := rv.get hx
    obtain ⟨n1, n2⟩ := Es.enum_ne he hit p.isList
    have hel : e < s.heap.objs.size := Heap.lt_size he
    refine wpAny_pyNext_enum_itemD (Es.shift (Draws.list (A := X.A.in1) (I.ok.hd hc) it a n1 its.toArray) c) he ⟨i, rfl, hit, p.isList⟩ (Nat.add_lt_add_right (List.getElem?_eq_some_iff.mp hu).1 c) hne (fun z => (mem2 z).elim hne n2) fun y h' tk ⟨i', ei, py⟩ ho ⟨i2, e2, hit', _⟩ hT _ hk => ?_
    cases Nat.add_right_cancel ei
    cases Nat.add_right_cancel ((Nat.add_right_comm i c 1).symm.trans e2)
    cases hu.symm.trans ((List.getElem?_toArray ..).symm.trans py)
    refine ⟨_, rfl, wpAny_letOwnedTupleGo_enum (s := { s with heap := h', toks := tk + 1 }) ho fun h'' he' sb => ?_⟩
    refine ⟨.ref s.heap.objs.size, _, I.turnedNew (ch := [e, it]) (ob := .tup [.int ((i + c : Nat) : Int), x]) (fun b ob hb q => (sb.2 b (fun z => hb (z ▸ List.mem_cons_self))).trans (hk b ob (fun z => hb (z ▸ List.mem_cons_self)) (fun z => hb (z ▸ snd2)) q)) hf (Nat.le_refl _)
      ⟨(by show 2 ≤ sizeLine; decide), [.int ((i + c : Nat) : Int) tk, u], .cons ⟨_, rfl⟩ (.cons ru .nil), ⟨_, (sb.2 _ (Nat.ne_of_gt hel)).trans hT, rfl, _, rfl⟩⟩, rfl, ⟨_, x, rfl, I.hok.fresh (Nat.le_refl _), rfl, fun ys hy => by rw [I.list_inj hy hq]; exact hx⟩,
      ⟨u, (by rw [Nat.add_right_comm]; exact he'), hit'.at fun o q => (sb.2 it (Ne.symm hne)).trans q, hne⟩, fun b hb => ?_⟩
    have hb' : b < s.heap.objs.size := (mem2 hb).elim (fun z => z ▸ hel) fun z => let ⟨_, q, _⟩ := hit; z ▸ Heap.lt_size q
    rw [upd_ne (Nat.ne_of_lt hb')]
    exact (hf b hb).1
  done := by
    intro X hP hw hK hc i pins s σ H E I hf st hg
    subst hP hw hK
    obtain ⟨old, he, hit, hne⟩ := st
    obtain ⟨xs, hq, hx⟩ := hg
    obtain ⟨its, rv, p, hz⟩ := I.list hq
    obtain ⟨f0, f1, f2, f3, f4, f5⟩ := hf it snd2
    obtain ⟨n1, n2⟩ := Es.enum_ne he hit p.isList
    exact wpAny_pyNext_enum_endD (Es.shift (Draws.list (A := X.A.in1) (I.ok.hd hc) it a n1 its.toArray) c) he ⟨i, (by rw [List.size_toArray, ← rv.length, hx]), hit, p.isList⟩ fun h' eb => ⟨rfl, I.turned (t' := s.toks) (fun b o hb q => eb b o hb q) f0 f1 f3 f4 f5⟩
  self := fun A i s Q E st h => let ⟨_, he, _, _⟩ := st; wpAny_pyIter_enum he h
section
variable {X : Cx} {e : Expr} {ta : TA} {p pos tpos : Pos} {elts : List Expr} {kk : Nat}
theorem enum_pie {pins : List (Addr × Obj)} {σ : St} {H : Hp} {R : It → Hp → Prop} {a : Addr} {s : Shared} {h' : Heap} (c : Nat) (I : Inv X pins σ H s) (he : IsEnum h' (s.heap.objs.size + 1) s.heap.objs.size (c : Int) .none) (hit : h'.IsListIter s.heap.objs.size a 0)
    (hk : ∀ b o, s.heap.get? b = some o → h'.get? b = some o) (q : R (Iec c X.K a) H) : PIE X pins σ (.Tuple elts kk tpos) R (.ref (s.heap.objs.size + 1)) { s with heap := h' } :=
  ⟨_, [_, _], _, _, H, rfl, I.kept (t' := s.toks) hk, turn_enumC c a _ _, ⟨.none, (by rw [Nat.zero_add]; exact he), hit, Nat.succ_ne_self _⟩, fun b hb => have hle : s.heap.objs.size ≤ b := (mem2 hb).elim (fun z => z ▸ Nat.le_succ _) (fun z => z ▸ Nat.le_refl _); I.fpOk hle (I.hok.fresh hle), q⟩
inductive IEI (K : PySem.W.Frag) (vs : List V) (H : Hp) (R : Addr → Prop) : Prop
  | mk (a : Addr) (xs : List V) (e : vs = [.ref a]) (s : SqL K H a xs) (q : R a) : IEI K vs H R
noncomputable def iEnumC (c : Nat) (K : PySem.W.Frag) (ta : TA) : TI := fun σ H R => ta σ H fun vs H1 => IEI K vs H1 fun a => R (Iec c K a) H1
noncomputable abbrev iEnum := iEnumC 0
noncomputable abbrev iEnumS := iEnumC 1
theorem pi_enum (hg : Gl X "enumerate") (hm : X.mg "enumerate" = none) (ha : PA X [e] ta) (hs : starEach [e] X.env = [(false, eval e X.env)] := by rfl) : PI X (.Tuple elts kk tpos) (.Call (.Name "enumerate" p) [e] [] pos) (iEnum X.K ta) := by
  intro pins s σ H R I h
  refine Call_ (ld_blt I hg hm boot_enumerate (PyProof.Rows.callWith_type1 (thn (ha pos pins s σ H _ I h) fun us s1 ⟨vs, H1, I1, r1, a, xs, ex, hq, q⟩ => ?_) hs rfl))
  subst ex
  cases Vals.ref1 r1
  obtain ⟨its, rv, p', hz⟩ := I1.list hq
  exact call_enumerate_list p'.isList fun h' he hit hsz hk => wpAny_pyIter_enum he (enum_pie 0 I1 he hit hk q)
theorem pi_enumS {p1 p2 : Pos} {jj : _} (hg : Gl X "enumerate") (hm : X.mg "enumerate" = none) (ha : PA X [e] ta) (hs : starEach [e] X.env = [(false, eval e X.env)] := by rfl) :
    PI X (.Tuple elts kk tpos) (.Call (.Name "enumerate" p) [e] [⟨some "start", .Constant (.int 1) jj p1, p2⟩] pos) (iEnumS X.K ta) := by
  intro pins s σ H R I h
  refine wpAny_Call_Name_kw (ld_blt I hg hm boot_enumerate (Es.callWith_kw1 (by rw [hs]; rfl) (thn (ha pos pins s σ H _ I h) fun us s1 ⟨vs, H1, I1, r1, a, xs, ex, hq, q⟩ => PyProof.Rows.kws_cons (thn (pe_int pins s1 σ H1 (fun x H2 => x = .int 1 ∧ H2 = H1) I1 ⟨rfl, rfl⟩) fun v s2 ⟨y, H2, I2, ry, ey, eH⟩ => PyProof.Rows.kws_nil ?_)) rfl rfl))
  subst ex ey eH
  obtain ⟨t, rfl⟩ := ry
  cases Vals.ref1 r1
  obtain ⟨its, rv, p', hz⟩ := I2.list hq
  exact Es.call_start p'.isList fun h' he hit hk => wpAny_pyIter_enum he (enum_pie 1 I2 he hit hk q)
end
theorem for_enumC {c : Nat} {K : PySem.W.Frag} {a : Addr} {xs : List V} {g : TG} {tb : TS} {D : Ends} {σ : St} {H : Hp} (Pv : Nat → St → Hp → Prop) (h0 : Pv 0 σ H) (hl : ∀ i σ H, i ≤ xs.length → Pv i σ H → SqL K H a xs)
    (hs : ∀ i x σ H T, xs[i]? = some x → Pv i σ H → H T = none → g (.ref T) σ (upd H T (.tup [.int ((i + c : Nat) : Int), x])) (tb (D.loop (Pv (i + 1))))) (hd : ∀ σ H, Pv xs.length σ H → D.nx σ H) : ForW (Iec c K a) g tb D σ H :=
  ⟨xs.length, Pv, h0, fun i σ H hi p => ⟨xs, xs[i], hl i σ H (Nat.le_of_lt hi) p, List.getElem?_eq_getElem hi⟩, fun i σ H v H' hi p y => by
    obtain ⟨T, x, rfl, hT, rfl, hx⟩ := y
    exact hs i x σ H T (hx xs (hl i σ _ (Nat.le_of_lt hi) p)) p hT, fun σ H p => ⟨xs, hl _ σ H (Nat.le_refl _) p, rfl⟩, hd⟩
theorem for_enum {K : PySem.W.Frag} {a : Addr} {xs : List V} {g : TG} {tb : TS} {D : Ends} {σ : St} {H : Hp} (Pv : Nat → St → Hp → Prop) (h0 : Pv 0 σ H) (hl : ∀ i σ H, i ≤ xs.length → Pv i σ H → SqL K H a xs)
    (hs : ∀ i x σ H T, xs[i]? = some x → Pv i σ H → H T = none → g (.ref T) σ (upd H T (.tup [.int (i : Nat), x])) (tb (D.loop (Pv (i + 1))))) (hd : ∀ σ H, Pv xs.length σ H → D.nx σ H) : ForW (Iec 0 K a) g tb D σ H := for_enumC (c := 0) Pv h0 hl hs hd
theorem for_enumS {K : PySem.W.Frag} {a : Addr} {xs : List V} {g : TG} {tb : TS} {D : Ends} {σ : St} {H : Hp} (Pv : Nat → St → Hp → Prop) (h0 : Pv 0 σ H) (hl : ∀ i σ H, i ≤ xs.length → Pv i σ H → SqL K H a xs)
    (hs : ∀ i x σ H T, xs[i]? = some x → Pv i σ H → H T = none → g (.ref T) σ (upd H T (.tup [.int ((i : Nat) + 1), x])) (tb (D.loop (Pv (i + 1))))) (hd : ∀ σ H, Pv xs.length σ H → D.nx σ H) : ForW (Iec 1 K a) g tb D σ H := for_enumC (c := 1) Pv h0 hl hs hd
end L2
end
section
set_option Elab.async false
set_option linter.all false
set_option maxRecDepth 100000
set_option maxHeartbeats 2000000
namespace Ap
open PySem PySem.Spec PyProof.Rows L2
theorem bAnd (a b : Nat) : Builtin.bitAnd (a : Int) (b : Int) = ((a &&& b : Nat) : Int) := by
  rw [bitAnd_pp (by omega) (by omega)]
  rfl
theorem bNot2 (c : Nat) : Builtin.bitNot (Builtin.bitNot (c : Int)) = (c : Int) := by
  unfold Builtin.bitNot
  omega
theorem bNotAnd (a c : Nat) : Builtin.bitAnd (a : Int) (Builtin.bitNot (c : Int)) = ((a - (a &&& c) : Nat) : Int) := by
  have h1 : ¬ (0 : Int) ≤ Builtin.bitNot (c : Int) := by unfold Builtin.bitNot; omega
  have h2 : a &&& c ≤ a := Nat.and_le_left
  unfold Builtin.bitAnd
  rw [decide_eq_true (show (0 : Int) ≤ (a : Int) by omega), decide_eq_false h1]
  show (a : Int) - (((a : Int).toNat &&& (Builtin.bitNot (Builtin.bitNot (c : Int))).toNat : Nat) : Int) = _
  rw [bNot2, Int.toNat_natCast, Int.toNat_natCast]
  omega
theorem bOr (a b : Nat) : Builtin.bitOr (a : Int) (b : Int) = ((a ||| b : Nat) : Int) := by
  have h1 : ∀ c : Nat, ¬ (0 : Int) ≤ Builtin.bitNot (c : Int) := fun c => by unfold Builtin.bitNot; omega
  unfold Builtin.bitOr Builtin.bitAnd
  rw [decide_eq_false (h1 a), decide_eq_false (h1 b)]
  show Builtin.bitNot (Builtin.bitNot (((Builtin.bitNot (Builtin.bitNot (a : Int))).toNat ||| (Builtin.bitNot (Builtin.bitNot (b : Int))).toNat : Nat) : Int)) = _
  rw [bNot2, bNot2, bNot2, Int.toNat_natCast, Int.toNat_natCast]
theorem iteD {c A B : Prop} [Decidable c] (h1 : c → A) (h2 : ¬ c → B) : if decide c = true then A else B := by
  by_cases h : c
  · rw [if_pos (decide_eq_true h)]
    exact h1 h
  · rw [if_neg (by rw [decide_eq_false h]; exact Bool.false_ne_true)]
    exact h2 h
theorem qDec {c : Prop} [Decidable c] {b : Bool} {Q : VK} {H : Hp} (e : c ↔ b = true) (k : Q (.bl b) H) : Q (.bl (decide c)) H := by
  have q : decide c = b := by
    cases b with
    | true => exact decide_eq_true (e.mpr rfl)
    | false => exact decide_eq_false (fun z => Bool.false_ne_true (e.mp z))
  rw [q]
  exact k
theorem putF_ne {f g : Str} {v x : V} {r : List (Str × V)} (h : ¬ g = f) : putF f v ((g, x) :: r) = (g, x) :: putF f v r := by
  rw [show putF f v ((g, x) :: r) = (if g = f then (g, v) :: r else (g, x) :: putF f v r) from rfl, if_neg h]
theorem putF_eq {f : Str} {v x : V} {r : List (Str × V)} : putF f v ((f, x) :: r) = (f, v) :: r := by
  rw [show putF f v ((f, x) :: r) = (if f = f then (f, v) :: r else (f, x) :: putF f v r) from rfl, if_pos rfl]
theorem putF_nil {f : Str} {v : V} : putF f v [] = [(f, v)] := rfl
theorem lk_ne {f g : Str} {x : V} {r : List (Str × V)} (h : ¬ g = f) : List.lookup g ((f, x) :: r) = List.lookup g r := by
  have hb : (g == f) = false := beq_eq_false_iff_ne.mpr h
  simp only [List.lookup, hb]
theorem lk_eq {f : Str} {x : V} {r : List (Str × V)} : List.lookup f ((f, x) :: r) = some x := by
  have hb : (f == f) = true := beq_self_eq_true f
  simp only [List.lookup, hb]
theorem lk_nil {f : Str} : List.lookup f ([] : List (Str × V)) = none := rfl
noncomputable def top (i : Nat) : Stmt := PySem.Challenge.pw_actorplans_s01_answers.main.body.getD i (.Pass ⟨0, 0, 0, 0⟩)
noncomputable abbrev sDeedInit : Stmt := inClass (top 18) 0
noncomputable abbrev sCan : Stmt := inClass (top 18) 1
noncomputable abbrev sBrings : Stmt := inClass (top 18) 2
noncomputable abbrev sActInit : Stmt := inClass (top 19) 0
noncomputable abbrev sLearn : Stmt := inClass (top 19) 1
noncomputable abbrev sLook : Stmt := inClass (top 19) 2
noncomputable abbrev sContent : Stmt := inClass (top 19) 3
noncomputable abbrev sStoryInit : Stmt := inClass (top 20) 0
noncomputable abbrev sSetW : Stmt := inClass (top 20) 1
noncomputable abbrev sHolds : Stmt := top 21
noncomputable abbrev sDeedsOf : Stmt := top 12
noncomputable abbrev sWays : Stmt := top 13
noncomputable abbrev sPlan : Stmt := top 14
noncomputable abbrev sProves : Stmt := top 15
noncomputable abbrev sPlace : Stmt := top 16
noncomputable def dF (d : Vbtaaf.Deed) : List (Str × V) := [("actor", .int d.actor), ("must", .int d.on), ("must_not", .int d.off), ("become", .int d.add), ("cease", .int d.del)]
noncomputable def aF (a : Vbtaaf.Actor) : List (Str × V) := [("sees", .int a.sight), ("goal", .int a.on), ("goal_not", .int a.off), ("belief", .int a.belief)]
noncomputable def sF (n w : Nat) (la ld : Addr) : List (Str × V) := [("facts", .int n), ("world", .int w), ("actors", .ref la), ("deeds", .ref ld)]
theorem dF_actor (d : Vbtaaf.Deed) : (dF d).lookup ("actor" : Str) = some (.int d.actor) := by simp (disch := decide +kernel) only [dF, lk_ne, lk_eq]
theorem dF_must (d : Vbtaaf.Deed) : (dF d).lookup ("must" : Str) = some (.int d.on) := by simp (disch := decide +kernel) only [dF, lk_ne, lk_eq]
theorem dF_must_not (d : Vbtaaf.Deed) : (dF d).lookup ("must_not" : Str) = some (.int d.off) := by simp (disch := decide +kernel) only [dF, lk_ne, lk_eq]
theorem dF_become (d : Vbtaaf.Deed) : (dF d).lookup ("become" : Str) = some (.int d.add) := by simp (disch := decide +kernel) only [dF, lk_ne, lk_eq]
theorem dF_cease (d : Vbtaaf.Deed) : (dF d).lookup ("cease" : Str) = some (.int d.del) := by simp (disch := decide +kernel) only [dF, lk_ne, lk_eq]
theorem dF_can (d : Vbtaaf.Deed) : (dF d).lookup ("can_be_done" : Str) = none := by simp (disch := decide +kernel) only [dF, lk_ne, lk_nil]
theorem dF_brings (d : Vbtaaf.Deed) : (dF d).lookup ("brings" : Str) = none := by simp (disch := decide +kernel) only [dF, lk_ne, lk_nil]
theorem aF_sees (a : Vbtaaf.Actor) : (aF a).lookup ("sees" : Str) = some (.int a.sight) := by simp (disch := decide +kernel) only [aF, lk_ne, lk_eq]
theorem aF_goal (a : Vbtaaf.Actor) : (aF a).lookup ("goal" : Str) = some (.int a.on) := by simp (disch := decide +kernel) only [aF, lk_ne, lk_eq]
theorem aF_goal_not (a : Vbtaaf.Actor) : (aF a).lookup ("goal_not" : Str) = some (.int a.off) := by simp (disch := decide +kernel) only [aF, lk_ne, lk_eq]
theorem aF_belief (a : Vbtaaf.Actor) : (aF a).lookup ("belief" : Str) = some (.int a.belief) := by simp (disch := decide +kernel) only [aF, lk_ne, lk_eq]
theorem aF_look (a : Vbtaaf.Actor) : (aF a).lookup ("look" : Str) = none := by simp (disch := decide +kernel) only [aF, lk_ne, lk_nil]
theorem aF_learn (a : Vbtaaf.Actor) : (aF a).lookup ("learn" : Str) = none := by simp (disch := decide +kernel) only [aF, lk_ne, lk_nil]
theorem aF_content (a : Vbtaaf.Actor) : (aF a).lookup ("is_content" : Str) = none := by simp (disch := decide +kernel) only [aF, lk_ne, lk_nil]
theorem sF_facts (n w : Nat) (la ld : Addr) : (sF n w la ld).lookup ("facts" : Str) = some (.int n) := by simp (disch := decide +kernel) only [sF, lk_ne, lk_eq]
theorem sF_world (n w : Nat) (la ld : Addr) : (sF n w la ld).lookup ("world" : Str) = some (.int w) := by simp (disch := decide +kernel) only [sF, lk_ne, lk_eq]
theorem sF_actors (n w : Nat) (la ld : Addr) : (sF n w la ld).lookup ("actors" : Str) = some (.ref la) := by simp (disch := decide +kernel) only [sF, lk_ne, lk_eq]
theorem sF_deeds (n w : Nat) (la ld : Addr) : (sF n w la ld).lookup ("deeds" : Str) = some (.ref ld) := by simp (disch := decide +kernel) only [sF, lk_ne, lk_eq]
theorem sF_setw (n w : Nat) (la ld : Addr) : (sF n w la ld).lookup ("set_world" : Str) = none := by simp (disch := decide +kernel) only [sF, lk_ne, lk_nil]
theorem aF_put_belief (a : Vbtaaf.Actor) (b : Nat) : putF "belief" (.int b) (aF a) = aF { a with belief := b } := by simp (disch := decide +kernel) only [aF, putF_ne, putF_eq]
theorem aF_put_goal (a : Vbtaaf.Actor) (b : Nat) : putF "goal" (.int b) (aF a) = aF { a with on := b } := by simp (disch := decide +kernel) only [aF, putF_ne, putF_eq]
theorem aF_put_goal_not (a : Vbtaaf.Actor) (b : Nat) : putF "goal_not" (.int b) (aF a) = aF { a with off := b } := by simp (disch := decide +kernel) only [aF, putF_ne, putF_eq]
theorem sF_put_facts (n w : Nat) (la ld : Addr) (b : Nat) : putF "facts" (.int b) (sF n w la ld) = sF b w la ld := by simp (disch := decide +kernel) only [sF, putF_ne, putF_eq]
theorem sF_put_world (n w : Nat) (la ld : Addr) (b : Nat) : putF "world" (.int b) (sF n w la ld) = sF n b la ld := by simp (disch := decide +kernel) only [sF, putF_ne, putF_eq]
structure Tx (K : PySem.W.Frag) (mg : Str → Option Value) (CD CA CS : Addr) : Prop where
  cDeed : Cls K CD
  cActor : Cls K CA
  cStory : Cls K CS
  dActor : NoAttr K CD "actor"
  dMust : NoAttr K CD "must"
  dMustNot : NoAttr K CD "must_not"
  dBecome : NoAttr K CD "become"
  dCease : NoAttr K CD "cease"
  aSees : NoAttr K CA "sees"
  aGoal : NoAttr K CA "goal"
  aGoalNot : NoAttr K CA "goal_not"
  aBelief : NoAttr K CA "belief"
  sFacts : NoAttr K CS "facts"
  sWorld : NoAttr K CS "world"
  sActors : NoAttr K CS "actors"
  sDeeds : NoAttr K CS "deeds"
  len : mg "len" = none
  enumerate : mg "enumerate" = none
  range : mg "range" = none
  sorted : mg "sorted" = none
section
variable (P : Program) (w : World) (K : PySem.W.Frag) (mg : Str → Option Value) (base : Heap)
inductive Own (x : Str) (ps : List Str) (k : Nat) (sp : Sp) : Prop
  | mk (f : Addr) (fd : FuncData) (F : FnOk P w K mg base CX0 k f fd ps sp) (b : Binds K fd ps []) (kp : PySem.W.keepIn K (.ref f) = true) (m : mg x = some (.ref f)) : Own x ps k sp
inductive OwnM (C : Addr) (m : Str) (ps : List Str) (k : Nat) (sp : Sp) : Prop
  | mk (f : Addr) (fd : FuncData) (F : FnOk P w K mg base CX0 k f fd ps sp) (b : Binds K fd ps []) (t : Meth K C m f) : OwnM C m ps k sp
inductive OwnC (x : Str) (C : Addr) (ps : List Str) (k : Nat) (sp : Sp) : Prop
  | mk (f : Addr) (fd : FuncData) (F : FnOk P w K mg base CX0 k f fd ps sp) (b : Binds K fd ps []) (M : Mk K C f) (m : mg x = some (.ref C)) : OwnC x C ps k sp
end
section
variable {P : Program} {w : World} {K : PySem.W.Frag} {mg : Str → Option Value} {base : Heap} {CD CA CS : Addr}
inductive SpHoldsI (vs : List V) (H : Hp) (Q : VK) : Prop
  | mk (w m u : Nat) (h1 : vs = [.int w, .int m, .int u]) (h2 : Q (.bl (Vbtaaf.has w m && Vbtaaf.lacks w u)) H) : SpHoldsI  vs H Q
noncomputable def spHolds : Sp := fun vs H Q _ => SpHoldsI  vs H Q
theorem scHolds : FnScope ["world", "wanted", "unwanted"] ["world", "wanted", "unwanted"] (defScope sHolds) := ⟨rfl, rfl, rfl, by decide +kernel, rfl, by decide +kernel, by decide +kernel⟩
theorem ok_holds {f : Addr} {fd : FuncData} (F : Fun K "holds" "holds" sHolds f fd) : FnOk P w K mg base CX0 1 f fd ["world", "wanted", "unwanted"] spHolds := by
  have sc := scHolds
  refine F.ok sc (fun vs H Q E h => ?_) (fun cdv A outer s H vs Q E hr h => ?_)
  · obtain ⟨w, m, u, rfl, _⟩ := h
    rfl
  · obtain ⟨w, m, u, rfl, k⟩ := h
    refine ⟨_, (pss_one
      (ps_ret (pe_and (pe_cmpR op_eq (pe_op op_and (pv 0) (pv 1)) (pv 1) (nomark _)) (pe_one (pe_cmpR op_eq (pe_op op_and (pv 0) (pv 2)) pe_int (nomark _)))))), ?_⟩
    refine ⟨_, rfl, _, rfl, _, _, rfl, rfl, _, rfl, rfl, _, rfl, iteD (fun h => ?_) (fun h => ?_)⟩
    · have h1 : w &&& m = m := by
        have h := V.int.inj (show V.int (Builtin.bitAnd (w : Int) (m : Int)) = V.int (m : Int) from h)
        rw [bAnd] at h
        omega
      have e1 : Vbtaaf.has w m = true := beq_iff_eq.mpr h1
      rw [e1, Bool.true_and] at k
      refine ⟨_, rfl, _, rfl, _, _, rfl, rfl, rfl, qDec ?_ k⟩
      show V.int (Builtin.bitAnd (w : Int) (u : Int)) = V.int 0 ↔ _
      unfold Vbtaaf.lacks
      rw [bAnd, beq_iff_eq]
      constructor
      · intro q
        have := V.int.inj q
        omega
      · intro q
        rw [q]
        rfl
    · have h1 : ¬ w &&& m = m := fun q => h (show V.int (Builtin.bitAnd (w : Int) (m : Int)) = V.int (m : Int) by rw [bAnd, q])
      have e1 : Vbtaaf.has w m = false := beq_eq_false_iff_ne.mpr h1
      rw [e1, Bool.false_and] at k
      exact k
noncomputable def DeedAt (CD : Addr) (H : Hp) (p : Addr) (d : Vbtaaf.Deed) : Prop := ∃ dx, H p = some (.ins CD dx (dF d))
noncomputable def ActAt (CA : Addr) (H : Hp) (p : Addr) (a : Vbtaaf.Actor) : Prop := ∃ dx, H p = some (.ins CA dx (aF a))
inductive SpDeedInitI (CD : Addr) (vs : List V) (H : Hp) (Q : VK) : Prop
  | mk (x dx : Addr) (d : Vbtaaf.Deed) (h1 : vs = [.ref x, .int d.actor, .int d.on, .int d.off, .int d.add, .int d.del]) (h2 : H x = some (.ins CD dx [])) (h3 : Q .non (upd H x (.ins CD dx (dF d)))) : SpDeedInitI CD vs H Q
noncomputable def spDeedInit (CD : Addr) : Sp := fun vs H Q _ => SpDeedInitI CD vs H Q
theorem scDeedInit : FnScope ["self", "actor", "must", "must_not", "become", "cease"] ["self", "actor", "must", "must_not", "become", "cease"] (defScope sDeedInit) := ⟨rfl, rfl, rfl, by decide +kernel, rfl, by decide +kernel, by decide +kernel⟩
noncomputable def wDeedInit1 (K : PySem.W.Frag) (CD CA CS : Addr) : TS := sFld K (tVar 0) (tVar 1) "actor"
noncomputable def wDeedInit2 (K : PySem.W.Frag) (CD CA CS : Addr) : TS := sFld K (tVar 0) (tVar 2) "must"
noncomputable def wDeedInit3 (K : PySem.W.Frag) (CD CA CS : Addr) : TS := sFld K (tVar 0) (tVar 3) "must_not"
noncomputable def wDeedInit4 (K : PySem.W.Frag) (CD CA CS : Addr) : TS := sFld K (tVar 0) (tVar 4) "become"
noncomputable def wDeedInit5 (K : PySem.W.Frag) (CD CA CS : Addr) : TS := sFld K (tVar 0) (tVar 5) "cease"
noncomputable def wDeedInit6 (K : PySem.W.Frag) (CD CA CS : Addr) : TS := tSeq (wDeedInit4 K CD CA CS) (wDeedInit5 K CD CA CS)
noncomputable def wDeedInit7 (K : PySem.W.Frag) (CD CA CS : Addr) : TS := tSeq (wDeedInit3 K CD CA CS) (wDeedInit6 K CD CA CS)
noncomputable def wDeedInit8 (K : PySem.W.Frag) (CD CA CS : Addr) : TS := tSeq (wDeedInit2 K CD CA CS) (wDeedInit7 K CD CA CS)
noncomputable def wDeedInit9 (K : PySem.W.Frag) (CD CA CS : Addr) : TS := tSeq (wDeedInit1 K CD CA CS) (wDeedInit8 K CD CA CS)
theorem ok_deedInit {f : Addr} {fd : FuncData} (F : Fun K "__init__" "Deed.__init__" sDeedInit f fd) (T : Tx K mg CD CA CS) : FnOk P w K mg base CX0 1 f fd ["self", "actor", "must", "must_not", "become", "cease"] (spDeedInit CD) := by
  have sc := scDeedInit
  refine F.ok sc (fun vs H Q E h => ?_) (fun cdv A outer s H vs Q E hr h => ?_)
  · obtain ⟨x, dx, d, rfl, _⟩ := h
    rfl
  · obtain ⟨x, dx, d, rfl, hx, k⟩ := h
    refine ⟨(wDeedInit9 K CD CA CS), (pss_cons (ps_fld (pv 0) (pv 1) rfl) (pss_cons (ps_fld (pv 0) (pv 2) rfl) (pss_cons (ps_fld (pv 0) (pv 3) rfl) (pss_cons (ps_fld (pv 0) (pv 4) rfl) (pss_one (ps_fld (pv 0) (pv 5) rfl)))))), ?_⟩
    refine ⟨_, rfl, _, rfl, x, CD, dx, _, rfl, hx, T.cDeed, T.dActor, (by show 0 < 1000; decide), ?_⟩
    refine ⟨_, rfl, _, rfl, x, CD, dx, _, rfl, upd_same, T.cDeed, T.dMust, (by show 1 < 1000; decide), ?_⟩
    refine ⟨_, rfl, _, rfl, x, CD, dx, _, rfl, upd_same, T.cDeed, T.dMustNot, (by simp (disch := decide +kernel) [putF_ne, putF_nil]), ?_⟩
    refine ⟨_, rfl, _, rfl, x, CD, dx, _, rfl, upd_same, T.cDeed, T.dBecome, (by simp (disch := decide +kernel) [putF_ne, putF_nil]), ?_⟩
    refine ⟨_, rfl, _, rfl, x, CD, dx, _, rfl, upd_same, T.cDeed, T.dCease, (by simp (disch := decide +kernel) [putF_ne, putF_nil]), ?_⟩
    rw [upd_upd, upd_upd, upd_upd, upd_upd]
    simp (disch := decide +kernel) only [putF_ne, putF_nil]
    exact k
inductive SpCanI (CD : Addr) (vs : List V) (H : Hp) (Q : VK) : Prop
  | mk (p : Addr) (d : Vbtaaf.Deed) (w : Nat) (h1 : vs = [.ref p, .int w]) (h2 : DeedAt CD H p d) (h3 : Q (.bl (Vbtaaf.can d w)) H) : SpCanI CD vs H Q
noncomputable def spCan (CD : Addr) : Sp := fun vs H Q _ => SpCanI CD vs H Q
theorem scCan : FnScope ["self", "world"] ["self", "world"] (defScope sCan) := ⟨rfl, rfl, rfl, by decide +kernel, rfl, by decide +kernel, by decide +kernel⟩
noncomputable def wCan1 (K : PySem.W.Frag) (CD CA CS : Addr) : TS := tRet (tCall (spHolds) [] E0 (tCons (tVar 1) (tCons (tFld K (tVar 0) "must") (tCons (tFld K (tVar 0) "must_not") tNil))))
theorem ok_can {f : Addr} {fd : FuncData} {k : Nat} (F : Fun K "can_be_done" "Deed.can_be_done" sCan f fd) (T : Tx K mg CD CA CS) (hH : Own P w K mg base "holds" ["world", "wanted", "unwanted"] k spHolds) : FnOk P w K mg base CX0 (k + 1) f fd ["self", "world"] (spCan CD) := by
  have sc := scCan
  obtain ⟨fH, fdH, G_holds, b_holds, k_holds, m_holds⟩ := hH
  refine F.ok sc (fun vs H Q E h => ?_) (fun cdv A outer s H vs Q E hr h => ?_)
  · obtain ⟨p, d, w, rfl, _⟩ := h
    rfl
  · obtain ⟨p, d, w, rfl, ⟨dx, hp⟩, k⟩ := h
    refine ⟨(wCan1 K CD CA CS), (pss_one (ps_ret (pe_call G_holds hr rfl m_holds k_holds b_holds .nil pass0 (pa_cons (pv 1) (pa_cons (pe_fld (pv 0) rfl) (pa_cons (pe_fld (pv 0) rfl) pa_nil)))))), ?_⟩
    refine ⟨_, rfl, _, rfl, p, CD, dx, _, _, rfl, hp, T.cDeed, T.dMust, dF_must d, _, rfl, p, CD, dx, _, _, rfl, hp, T.cDeed, T.dMustNot, dF_must_not d, ?_⟩
    exact ⟨w, d.on, d.off, rfl, k⟩
inductive SpBringsI (CD : Addr) (vs : List V) (H : Hp) (Q : VK) : Prop
  | mk (p : Addr) (d : Vbtaaf.Deed) (n w : Nat) (h1 : vs = [.ref p, .int w]) (h2 : DeedAt CD H p d) (h3 : n ≤ 6) (h4 : w < 2 ^ n) (h5 : d.del < 2 ^ n) (h6 : Q (.int (Vbtaaf.done n d w)) H) : SpBringsI CD vs H Q
noncomputable def spBrings (CD : Addr) : Sp := fun vs H Q _ => SpBringsI CD vs H Q
theorem scBrings : FnScope ["self", "world"] ["self", "world"] (defScope sBrings) := ⟨rfl, rfl, rfl, by decide +kernel, rfl, by decide +kernel, by decide +kernel⟩
noncomputable def wBrings1 (K : PySem.W.Frag) (CD CA CS : Addr) : TS := tRet (tOp (rI0 fun i j => V.int (Builtin.bitOr i j)) (tOp (rI0 fun i j => V.int (Builtin.bitAnd i j)) (tVar 1) (tUn (rU fun i => V.int (Builtin.bitNot i)) (tFld K (tVar 0) "cease"))) (tFld K (tVar 0) "become"))
theorem ok_brings {f : Addr} {fd : FuncData} (F : Fun K "brings" "Deed.brings" sBrings f fd) (T : Tx K mg CD CA CS) : FnOk P w K mg base CX0 1 f fd ["self", "world"] (spBrings CD) := by
  have sc := scBrings
  refine F.ok sc (fun vs H Q E h => ?_) (fun cdv A outer s H vs Q E hr h => ?_)
  · obtain ⟨p, d, n, w, rfl, _⟩ := h
    rfl
  · obtain ⟨p, d, n, w, rfl, ⟨dx, hp⟩, hn, hw, hd, k⟩ := h
    refine ⟨(wBrings1 K CD CA CS), (pss_one (ps_ret (pe_op op_or (pe_op op_and (pv 1) (pe_un un_inv (pe_fld (pv 0) rfl))) (pe_fld (pv 0) rfl)))), ?_⟩
    refine ⟨_, rfl, _, rfl, p, CD, dx, _, _, rfl, hp, T.cDeed, T.dCease, dF_cease d, _, rfl, _, _, rfl, rfl, _, rfl, p, CD, dx, _, _, rfl, hp, T.cDeed, T.dBecome, dF_become d, _, _, rfl, rfl, ?_⟩
    dsimp only
    rw [bNotAnd, bOr, ← My.without_eq hn hw hd]
    exact k
inductive SpActInitI (CA : Addr) (vs : List V) (H : Hp) (Q : VK) : Prop
  | mk (x dx : Addr) (a b c : Nat) (h1 : vs = [.ref x, .int a, .int b, .int c]) (h2 : H x = some (.ins CA dx [])) (h3 : Q .non (upd H x (.ins CA dx (aF ⟨a, b, c, 0⟩)))) : SpActInitI CA vs H Q
noncomputable def spActInit (CA : Addr) : Sp := fun vs H Q _ => SpActInitI CA vs H Q
theorem scActInit : FnScope ["self", "sees", "goal", "goal_not"] ["self", "sees", "goal", "goal_not"] (defScope sActInit) := ⟨rfl, rfl, rfl, by decide +kernel, rfl, by decide +kernel, by decide +kernel⟩
noncomputable def wActInit1 (K : PySem.W.Frag) (CD CA CS : Addr) : TS := sFld K (tVar 0) (tVar 1) "sees"
noncomputable def wActInit2 (K : PySem.W.Frag) (CD CA CS : Addr) : TS := sFld K (tVar 0) (tVar 2) "goal"
noncomputable def wActInit3 (K : PySem.W.Frag) (CD CA CS : Addr) : TS := sFld K (tVar 0) (tVar 3) "goal_not"
noncomputable def wActInit4 (K : PySem.W.Frag) (CD CA CS : Addr) : TS := sFld K (tVar 0) (tC (.int 0)) "belief"
noncomputable def wActInit5 (K : PySem.W.Frag) (CD CA CS : Addr) : TS := tSeq (wActInit3 K CD CA CS) (wActInit4 K CD CA CS)
noncomputable def wActInit6 (K : PySem.W.Frag) (CD CA CS : Addr) : TS := tSeq (wActInit2 K CD CA CS) (wActInit5 K CD CA CS)
noncomputable def wActInit7 (K : PySem.W.Frag) (CD CA CS : Addr) : TS := tSeq (wActInit1 K CD CA CS) (wActInit6 K CD CA CS)
theorem ok_actInit {f : Addr} {fd : FuncData} (F : Fun K "__init__" "Actor.__init__" sActInit f fd) (T : Tx K mg CD CA CS) : FnOk P w K mg base CX0 1 f fd ["self", "sees", "goal", "goal_not"] (spActInit CA) := by
  have sc := scActInit
  refine F.ok sc (fun vs H Q E h => ?_) (fun cdv A outer s H vs Q E hr h => ?_)
  · obtain ⟨x, dx, a, b, c, rfl, _⟩ := h
    rfl
  · obtain ⟨x, dx, a, b, c, rfl, hx, k⟩ := h
    refine ⟨(wActInit7 K CD CA CS), (pss_cons (ps_fld (pv 0) (pv 1) rfl) (pss_cons (ps_fld (pv 0) (pv 2) rfl) (pss_cons (ps_fld (pv 0) (pv 3) rfl) (pss_one (ps_fld (pv 0) pe_int rfl))))), ?_⟩
    refine ⟨_, rfl, _, rfl, x, CA, dx, _, rfl, hx, T.cActor, T.aSees, (by show 0 < 1000; decide), ?_⟩
    refine ⟨_, rfl, _, rfl, x, CA, dx, _, rfl, upd_same, T.cActor, T.aGoal, (by show 1 < 1000; decide), ?_⟩
    refine ⟨_, rfl, _, rfl, x, CA, dx, _, rfl, upd_same, T.cActor, T.aGoalNot, (by simp (disch := decide +kernel) [putF_ne, putF_nil]), ?_⟩
    refine ⟨_, rfl, x, CA, dx, _, rfl, upd_same, T.cActor, T.aBelief, (by simp (disch := decide +kernel) [putF_ne, putF_nil]), ?_⟩
    rw [upd_upd, upd_upd, upd_upd]
    simp (disch := decide +kernel) only [putF_ne, putF_nil]
    exact k
inductive SpLearnI (CA : Addr) (vs : List V) (H : Hp) (Q : VK) : Prop
  | mk (p dx : Addr) (a : Vbtaaf.Actor) (n m w : Nat) (h1 : vs = [.ref p, .int m, .int w]) (h2 : H p = some (.ins CA dx (aF a))) (h3 : n ≤ 6) (h4 : m < 2 ^ n) (h5 : a.belief < 2 ^ n) (h6 : Q .non (upd H p (.ins CA dx (aF { a with belief := Vbtaaf.corrected n m w a.belief })))) : SpLearnI CA vs H Q
noncomputable def spLearn (CA : Addr) : Sp := fun vs H Q _ => SpLearnI CA vs H Q
theorem scLearn : FnScope ["self", "facts", "world"] ["self", "facts", "world"] (defScope sLearn) := ⟨rfl, rfl, rfl, by decide +kernel, rfl, by decide +kernel, by decide +kernel⟩
noncomputable def wLearn1 (K : PySem.W.Frag) (CD CA CS : Addr) : TS := sFld K (tVar 0) (tOp (rI0 fun i j => V.int (Builtin.bitOr i j)) (tOp (rI0 fun i j => V.int (Builtin.bitAnd i j)) (tFld K (tVar 0) "belief") (tUn (rU fun i => V.int (Builtin.bitNot i)) (tVar 1))) (tOp (rI0 fun i j => V.int (Builtin.bitAnd i j)) (tVar 2) (tVar 1))) "belief"
theorem ok_learn {f : Addr} {fd : FuncData} (F : Fun K "learn" "Actor.learn" sLearn f fd) (T : Tx K mg CD CA CS) : FnOk P w K mg base CX0 1 f fd ["self", "facts", "world"] (spLearn CA) := by
  have sc := scLearn
  refine F.ok sc (fun vs H Q E h => ?_) (fun cdv A outer s H vs Q E hr h => ?_)
  · obtain ⟨p, dx, a, n, m, w, rfl, _⟩ := h
    rfl
  · obtain ⟨p, dx, a, n, m, w, rfl, hp, hn, hs, hb, k⟩ := h
    refine ⟨(wLearn1 K CD CA CS), (pss_one (ps_fld (pv 0) (pe_op op_or (pe_op op_and (pe_fld (pv 0) rfl) (pe_un un_inv (pv 1))) (pe_op op_and (pv 2) (pv 1))) rfl)), ?_⟩
    refine ⟨_, rfl, p, CA, dx, _, _, rfl, hp, T.cActor, T.aBelief, aF_belief a, _, rfl, _, rfl, _, _, rfl, rfl, _, rfl, _, rfl, _, _, rfl, rfl, _, _, rfl, rfl, ?_⟩
    refine ⟨_, rfl, p, CA, dx, _, rfl, hp, T.cActor, T.aBelief, (by show 4 < 1000; decide), ?_⟩
    dsimp only
    rw [bNotAnd, bAnd, bOr, ← My.without_eq hn hb hs, aF_put_belief]
    exact k
inductive SpLookI (CA : Addr) (vs : List V) (H : Hp) (Q : VK) : Prop
  | mk (p dx : Addr) (a : Vbtaaf.Actor) (n w : Nat) (h1 : vs = [.ref p, .int w]) (h2 : H p = some (.ins CA dx (aF a))) (h3 : n ≤ 6) (h4 : a.sight < 2 ^ n) (h5 : a.belief < 2 ^ n) (h6 : Q .non (upd H p (.ins CA dx (aF { a with belief := Vbtaaf.corrected n a.sight w a.belief })))) : SpLookI CA vs H Q
noncomputable def spLook (CA : Addr) : Sp := fun vs H Q _ => SpLookI CA vs H Q
theorem scLook : FnScope ["self", "world"] ["self", "world"] (defScope sLook) := ⟨rfl, rfl, rfl, by decide +kernel, rfl, by decide +kernel, by decide +kernel⟩
noncomputable def wLook1 (K : PySem.W.Frag) (CD CA CS : Addr) : TS := tDrop (tMeth CA "learn" (spLearn CA) [] E0 (tVar 0) (tCons (tFld K (tVar 0) "sees") (tCons (tVar 1) tNil)))
theorem ok_look {f : Addr} {fd : FuncData} {k : Nat} (F : Fun K "look" "Actor.look" sLook f fd) (T : Tx K mg CD CA CS) (hL : OwnM P w K mg base CA "learn" ["self", "facts", "world"] k (spLearn CA)) : FnOk P w K mg base CX0 (k + 1) f fd ["self", "world"] (spLook CA) := by
  have sc := scLook
  obtain ⟨_, _, G_learn, b_learn, t_learn⟩ := hL
  refine F.ok sc (fun vs H Q E h => ?_) (fun cdv A outer s H vs Q E hr h => ?_)
  · obtain ⟨p, dx, a, n, w, rfl, _⟩ := h
    rfl
  · obtain ⟨p, dx, a, n, w, rfl, hp, hn, hs, hb, k⟩ := h
    refine ⟨(wLook1 K CD CA CS), (pss_one (ps_expr (pe_meth (pv 0) T.cActor t_learn G_learn hr b_learn .nil pass0 (pa_cons (pe_fld (pv 0) rfl) (pa_cons (pv 1) pa_nil))))), ?_⟩
    refine ⟨_, rfl, p, dx, _, rfl, hp, aF_learn a, _, rfl, p, CA, dx, _, _, rfl, hp, T.cActor, T.aSees, aF_sees a, _, rfl, ?_⟩
    exact ⟨p, dx, a, n, a.sight, w, rfl, hp, hn, hs, hb, k⟩
inductive SpContentI (CA : Addr) (vs : List V) (H : Hp) (Q : VK) : Prop
  | mk (p : Addr) (a : Vbtaaf.Actor) (w : Nat) (h1 : vs = [.ref p, .int w]) (h2 : ActAt CA H p a) (h3 : Q (.bl (Vbtaaf.reached a w)) H) : SpContentI CA vs H Q
noncomputable def spContent (CA : Addr) : Sp := fun vs H Q _ => SpContentI CA vs H Q
theorem scContent : FnScope ["self", "world"] ["self", "world"] (defScope sContent) := ⟨rfl, rfl, rfl, by decide +kernel, rfl, by decide +kernel, by decide +kernel⟩
noncomputable def wContent1 (K : PySem.W.Frag) (CD CA CS : Addr) : TS := tRet (tCall (spHolds) [] E0 (tCons (tVar 1) (tCons (tFld K (tVar 0) "goal") (tCons (tFld K (tVar 0) "goal_not") tNil))))
theorem ok_content {f : Addr} {fd : FuncData} {k : Nat} (F : Fun K "is_content" "Actor.is_content" sContent f fd) (T : Tx K mg CD CA CS) (hH : Own P w K mg base "holds" ["world", "wanted", "unwanted"] k spHolds) : FnOk P w K mg base CX0 (k + 1) f fd ["self", "world"] (spContent CA) := by
  have sc := scContent
  obtain ⟨fH, fdH, G_holds, b_holds, k_holds, m_holds⟩ := hH
  refine F.ok sc (fun vs H Q E h => ?_) (fun cdv A outer s H vs Q E hr h => ?_)
  · obtain ⟨p, a, w, rfl, _⟩ := h
    rfl
  · obtain ⟨p, a, w, rfl, ⟨dx, hp⟩, k⟩ := h
    refine ⟨(wContent1 K CD CA CS), (pss_one (ps_ret (pe_call G_holds hr rfl m_holds k_holds b_holds .nil pass0 (pa_cons (pv 1) (pa_cons (pe_fld (pv 0) rfl) (pa_cons (pe_fld (pv 0) rfl) pa_nil)))))), ?_⟩
    refine ⟨_, rfl, _, rfl, p, CA, dx, _, _, rfl, hp, T.cActor, T.aGoal, aF_goal a, _, rfl, p, CA, dx, _, _, rfl, hp, T.cActor, T.aGoalNot, aF_goal_not a, ?_⟩
    exact ⟨w, a.on, a.off, rfl, k⟩
end
end Ap
end
section
set_option Elab.async false
set_option linter.all false
set_option maxRecDepth 100000
set_option maxHeartbeats 4000000
namespace Ap
open PySem PySem.Spec PyProof.Rows L2
structure SA where
  st : Addr
  la : Addr
  ld : Addr
  as : List Addr
  ds : List Addr
noncomputable def foot (z : SA) : List Addr := z.st :: z.la :: z.ld :: z.as
structure StoryAt (CD CA CS : Addr) (H : Hp) (z : SA) (s : Vbtaaf.State) : Prop where
  st : ∃ dx, H z.st = some (.ins CS dx (sF s.facts s.world z.la z.ld))
  la : H z.la = some (.lst (z.as.map V.ref))
  ld : H z.ld = some (.lst (z.ds.map V.ref))
  ne : z.la ≠ z.ld
  alen : z.as.length = s.actors.length
  dlen : z.ds.length = s.deeds.length
  nd : z.as.Nodup
  act : ∀ (j : Nat) (p : Addr), z.as[j]? = some p → ∃ a, s.actors[j]? = some a ∧ ActAt CA H p a
  ded : ∀ (j : Nat) (p : Addr), z.ds[j]? = some p → ∃ d, s.deeds[j]? = some d ∧ DeedAt CD H p d
section
variable {P : Program} {w : World} {K : PySem.W.Frag} {mg : Str → Option Value} {base : Heap} {CD CA CS : Addr}
theorem StoryAt.same {H H' : Hp} {z : SA} {s : Vbtaaf.State} (S : StoryAt CD CA CS H z s) (e : Same H H') : StoryAt CD CA CS H' z s := by
  refine ⟨?_, e _ _ S.la, e _ _ S.ld, S.ne, S.alen, S.dlen, S.nd, fun j p h => ?_, fun j p h => ?_⟩
  · obtain ⟨dx, h⟩ := S.st
    exact ⟨dx, e _ _ h⟩
  · obtain ⟨a, h1, dx, h2⟩ := S.act j p h
    exact ⟨a, h1, dx, e _ _ h2⟩
  · obtain ⟨d, h1, dx, h2⟩ := S.ded j p h
    exact ⟨d, h1, dx, e _ _ h2⟩
theorem same_upd {H H' : Hp} {p : Addr} {o : HO} (e : Same H H') (h : H' p = none) : Same H (upd H' p o) := fun b u q => by
  rw [upd_ne (ne_of_none (e b u q) h)]
  exact e b u q
theorem same_refl {H : Hp} : Same H H := fun _ _ q => q
inductive ActGet (CA : Addr) (H : Hp) (z : SA) (s : Vbtaaf.State) (p : Nat) : Prop
  | mk (q : Addr) (h1 : z.as[p]? = some q) (h2 : s.actors[p]? = some (Vbtaaf.actorOf s p)) (dx : Addr) (h3 : H q = some (.ins CA dx (aF (Vbtaaf.actorOf s p)))) : ActGet CA H z s p
inductive DeedGet (CD : Addr) (H : Hp) (z : SA) (k : Nat) (d : Vbtaaf.Deed) : Prop
  | mk (q : Addr) (h1 : z.ds[k]? = some q) (dx : Addr) (h2 : H q = some (.ins CD dx (dF d))) : DeedGet CD H z k d
theorem StoryAt.actAt {H : Hp} {z : SA} {s : Vbtaaf.State} (S : StoryAt CD CA CS H z s) {p : Nat} (hp : p < s.actors.length) : ActGet CA H z s p := by
  have hl : p < z.as.length := by rw [S.alen]; exact hp
  have e1 : z.as[p]? = some z.as[p] := List.getElem?_eq_getElem hl
  obtain ⟨a, h1, dx, h2⟩ := S.act p _ e1
  have e2 : Vbtaaf.actorOf s p = a := by
    unfold Vbtaaf.actorOf
    rw [List.getD_eq_getElem?_getD, h1]
    rfl
  subst e2
  exact ⟨_, e1, h1, dx, h2⟩
theorem StoryAt.deedAt {H : Hp} {z : SA} {s : Vbtaaf.State} (S : StoryAt CD CA CS H z s) {k : Nat} {d : Vbtaaf.Deed} (hk : s.deeds[k]? = some d) : DeedGet CD H z k d := by
  have hl : k < z.ds.length := by rw [S.dlen]; exact (List.getElem?_eq_some_iff.mp hk).1
  have e1 : z.ds[k]? = some z.ds[k] := List.getElem?_eq_getElem hl
  obtain ⟨a, h1, dx, h2⟩ := S.ded k _ e1
  rw [hk] at h1
  cases h1
  exact ⟨_, e1, dx, h2⟩
theorem iteB {b : Bool} {A B : Prop} (h1 : b = true → A) (h2 : b = false → B) : if b = true then A else B := by
  cases b with
  | true => rw [if_pos rfl]; exact h1 rfl
  | false => rw [if_neg Bool.false_ne_true]; exact h2 rfl
noncomputable def nums (s : Vbtaaf.State) (p : Nat) : List V := (Vbtaaf.numbered s p).map fun x => V.int x.1
inductive SpDeedsOfI (CD CA CS : Addr) (vs : List V) (H : Hp) (Q : VK) : Prop
  | mk (z : SA) (s : Vbtaaf.State) (p : Nat) (h1 : vs = [.ref z.st, .int p]) (h2 : StoryAt CD CA CS H z s) (h3 : s.deeds.length ≤ 24) (h4 : ∀ (H' : Hp) (l : Addr), Same H H' → H l = none → H' l = some (.lst (nums s p)) → Q (.ref l) H') : SpDeedsOfI CD CA CS vs H Q
noncomputable def spDeedsOf (CD CA CS : Addr) : Sp := fun vs H Q _ => SpDeedsOfI CD CA CS vs H Q
theorem scDeedsOf : FnScope ["story", "actor", "deed", "number"] ["story", "actor"] (defScope sDeedsOf) := ⟨rfl, rfl, rfl, by decide +kernel, rfl, by decide +kernel, by decide +kernel⟩
noncomputable def compScope (s : Stmt) : Scope := match defBody s with
  | [.Return (some (.ListComp _ _ sc _)) _] => sc
  | _ => { kind := .function, names := [], isGenerator := false, isCoroutine := false }
theorem blkDeedsOf : BlkOk ["story", "actor", "deed", "number"] (defScope sDeedsOf) (compScope sDeedsOf) [("number", 3), ("deed", 2)] := ⟨rfl, by decide +kernel, by decide +kernel, by decide +kernel, by decide +kernel⟩
theorem take_more {α : Type} {l : List α} {i : Nat} {x : α} (h : l[i]? = some x) : l.take (i + 1) = l.take i ++ [x] := by
  rw [List.take_add_one, h]
  rfl
theorem ok_deedsOf {f : Addr} {fd : FuncData} (F : Fun K "deeds_of" "deeds_of" sDeedsOf f fd) (T : Tx K mg CD CA CS) : FnOk P w K mg base CX0 1 f fd ["story", "actor"] (spDeedsOf CD CA CS) := by
  have sc := scDeedsOf
  have blk := blkDeedsOf
  refine F.ok sc (fun vs H Q E h => ?_) (fun cdv A outer s0 H vs Q E hr h => ?_)
  · obtain ⟨z, s, p, rfl, _⟩ := h
    rfl
  · obtain ⟨z, s, p, rfl, S, hl, k⟩ := h
    obtain ⟨dxS, hst⟩ := S.st
    refine ⟨_, pss_one (ps_ret (pe_lc (own := [("number", 3), ("deed", 2)]) (g := gTup K 2 (gCons (gName 3) (gCons (gName 2) gNil))) (tt := tTest (tOp rEq (tFld K (tVar 2) "actor") (tVar 1))) (te := tVar 3) rfl sc.nd (pi_enum rfl T.enumerate (pa_cons (pe_fld (pv 0) rfl) pa_nil)) blk ?hg ?ht ?he)), ?_⟩
    case hg =>
      intro _ _ _ _ _
      exact pg_tup rfl (pgs_cons (pg_name (i := 3) sc.nd rfl (Or.inl rfl) (.inr rfl)) (pgs_cons (pg_name (i := 2) sc.nd rfl (Or.inl rfl) (.inr rfl)) pgs_nil))
    case ht =>
      intro _ _ _ _ _
      exact pts_one (pt_cmpR op_eq (pe_fld (pv 2) rfl) (pv 1) (nomark _))
    case he =>
      intro _ _ _ _ _
      exact pv 3
    refine ⟨_, rfl, z.st, CS, dxS, _, _, rfl, hst, T.cStory, T.sDeeds, sF_deeds _ _ _ _, z.ld, _, rfl, SqL.of S.ld, fun D hD => ?_⟩
    refine ⟨s.deeds.length, fun i H' => Same H H' ∧ H' D = some (.lst (((((List.range s.deeds.length).zip s.deeds).take i).filter fun x => x.2.actor == p).map fun x => V.int x.1)),
      ⟨same_upd same_refl hD, upd_same⟩, fun i H' hlt p => ⟨_, _, SqL.of (p.1 _ _ S.ld), List.getElem?_eq_getElem (by rw [List.length_map, S.dlen]; exact hlt)⟩, ?_, fun H' p => ⟨_, SqL.of (p.1 _ _ S.ld), by rw [List.length_map, S.dlen]⟩, fun H' ⟨sm, hDl⟩ => ?_⟩
    · rintro i H' x H'' hlt ⟨sm, hDl⟩ ⟨Tt, y, rfl, hT, rfl, hy⟩
      obtain ⟨d, hd⟩ : ∃ d, s.deeds[i]? = some d := ⟨_, List.getElem?_eq_getElem hlt⟩
      obtain ⟨dp, hdp, dxd, hdd⟩ := S.deedAt hd
      have hz : ((List.range s.deeds.length).zip s.deeds)[i]? = some (i, d) := List.getElem?_zip_eq_some.mpr ⟨List.getElem?_range hlt, hd⟩
      cases (show V.ref dp = y from Option.some.inj (((show (z.ds.map V.ref)[i]? = some (V.ref dp) by rw [List.getElem?_map, hdp]; rfl).symm.trans (hy _ (SqL.of (sm _ _ S.ld))))))
      have nT : D ≠ Tt := ne_of_none hDl hT
      refine ⟨Tt, _, rfl, SqT.of upd_same, rfl, _, _, rfl, _, _, rfl, rfl, rfl, ?_⟩
      refine ⟨_, rfl, dp, CD, dxd, _, _, rfl, (by rw [upd_ne (ne_of_none (sm _ _ hdd) hT)]; exact sm _ _ hdd), T.cDeed, T.dActor, dF_actor d, _, rfl, rfl, _, rfl, ?_⟩
      have sm2 : Same H (upd H' Tt (.tup [.int (i : Nat), .ref dp])) := same_upd sm hT
      refine iteD (fun hq => ?_) (fun hq => ?_)
      · have ha : d.actor = p := by
          have := V.int.inj hq
          omega
        refine ⟨_, rfl, _, (by rw [upd_ne nT]; exact hDl), ?_, ?_, ?_⟩
        · have h1 := List.length_filter_le (fun x : Nat × Vbtaaf.Deed => x.2.actor == p) (((List.range s.deeds.length).zip s.deeds).take i)
          rw [List.length_map]
          have h2 : (((List.range s.deeds.length).zip s.deeds).take i).length ≤ i := List.length_take_le _ _
          refine Nat.lt_of_le_of_lt (Nat.le_trans h1 h2) (Nat.lt_of_lt_of_le hlt (Nat.le_trans hl ?_))
          rw [sizeLine_eq]
          decide
        · intro b o q
          rw [upd_ne (ne_of_none q hD)]
          exact sm2 b o q
        · rw [upd_same, take_more hz, List.filter_append, List.map_append, List.filter_cons_of_pos (by simpa using ha)]
          rfl
      · have ha : ¬ d.actor = p := fun e => hq (by rw [e])
        refine ⟨sm2, ?_⟩
        rw [upd_ne nT, hDl, take_more hz, List.filter_append, List.map_append, List.filter_cons_of_neg (by simpa using ha)]
        simp
    · refine k H' D sm hD ?_
      rw [hDl, List.take_of_length_le (by simp)]
      rfl
noncomputable def kvOf (q : My.Qu) (ls : List Addr) : List (Key × V) := (q.zip ls).map fun x => (((x.1.1 : Int) : Key), V.ref x.2)
theorem kv_snoc {q : My.Qu} {ls : List Addr} (h : ls.length = q.length) (e : Nat × List Nat) (l : Addr) : kvOf (q ++ [e]) (ls ++ [l]) = kvOf q ls ++ [(((e.1 : Int) : Key), V.ref l)] := by
  unfold kvOf
  rw [List.zip_append h.symm, List.map_append]
  rfl
theorem kv_none : ∀ {q : My.Qu} {ls : List Addr} {v : Nat}, ¬ v ∈ q.map (·.1) → valV (kvOf q ls) ((v : Int)) = none
  | [], ls, v, _ => by
    unfold kvOf
    rfl
  | e :: q, [], v, _ => by
    unfold kvOf
    rfl
  | e :: q, l :: ls, v, h => by
    rw [List.map_cons, List.mem_cons, not_or] at h
    show valV ((((e.1 : Int) : Key), V.ref l) :: kvOf q ls) _ = _
    rw [valV_neg (fun z => h.1 (by have := id z; omega))]
    exact kv_none h.2
theorem kv_some : ∀ {q : My.Qu} {ls : List Addr} {j : Nat} {v : Nat} {ks : List Nat} {l : Addr}, (q.map (·.1)).Nodup → q[j]? = some (v, ks) → ls[j]? = some l → valV (kvOf q ls) ((v : Int)) = some (V.ref l)
  | [], ls, j, v, ks, l, _, h, _ => by simp at h
  | e :: q, [], j, v, ks, l, _, _, h => by simp at h
  | e :: q, l' :: ls, 0, v, ks, l, _, h1, h2 => by
    have e1 : e = (v, ks) := by simpa using h1
    have e2 : l' = l := by simpa using h2
    subst e1 e2
    show valV ((((v : Int) : Key), V.ref l') :: kvOf q ls) _ = _
    exact valV_pos rfl
  | e :: q, l' :: ls, j + 1, v, ks, l, hn, h1, h2 => by
    rw [List.map_cons, List.nodup_cons] at hn
    have h1' : q[j]? = some (v, ks) := by simpa using h1
    have h2' : ls[j]? = some l := by simpa using h2
    show valV ((((e.1 : Int) : Key), V.ref l') :: kvOf q ls) _ = _
    rw [valV_neg (fun z => hn.1 (by
      have e0 : e.1 = v := by have := id z; omega
      rw [e0]
      exact List.mem_map.mpr ⟨_, List.mem_of_getElem? h1', rfl⟩))]
    exact kv_some hn.2 h1' h2'
noncomputable def vN (l : List Nat) : List V := l.map fun (k : Nat) => V.int (k : Int)
theorem vN_len (l : List Nat) : (vN l).length = l.length := by unfold vN; rw [List.length_map]
theorem vN_snoc (l : List Nat) (k : Nat) : vN l ++ [.int (k : Int)] = vN (l ++ [k]) := by unfold vN; rw [List.map_append]; rfl
structure Hq (H H' : Hp) (ow pl wt : Addr) (os : List V) (q : My.Qu) (ls : List Addr) : Prop where
  same : Same H H'
  ho : H' ow = some (.lst os)
  hp : H' pl = some (.dK (kvOf q ls))
  hw : H' wt = some (.lst (q.map fun e => V.int e.1))
  len : ls.length = q.length
  at_ : ∀ (j : Nat) (l : Addr) (e : Nat × List Nat), ls[j]? = some l → q[j]? = some e → H' l = some (.lst (vN e.2))
  fl : ∀ l ∈ ls, H l = none
  nw : ow ≠ wt
  nl : ∀ l ∈ ls, l ≠ wt
  fp : H pl = none
  fw : H wt = none
theorem Hq.laid {H H' : Hp} {ow pl wt : Addr} {os : List V} {q : My.Qu} {ls : List Addr} (h : Hq H H' ow pl wt os q ls) {p : Addr} {o : HO} (hp : H' p = none) : Hq H (upd H' p o) ow pl wt os q ls := by
  refine ⟨same_upd h.same hp, ?_, ?_, ?_, h.len, fun j l e h1 h2 => ?_, h.fl, h.nw, h.nl, h.fp, h.fw⟩
  · rw [upd_ne (ne_of_none h.ho hp)]; exact h.ho
  · rw [upd_ne (ne_of_none h.hp hp)]; exact h.hp
  · rw [upd_ne (ne_of_none h.hw hp)]; exact h.hw
  · have := h.at_ j l e h1 h2
    rw [upd_ne (ne_of_none this hp)]; exact this
theorem Same.none {H H' : Hp} (e : Same H H') {p : Addr} (h : H' p = none) : H p = none := by
  cases q : H p with
  | none => rfl
  | some o => rw [e p o q] at h; cases h
theorem Hq.more {H H' : Hp} {ow pl wt : Addr} {os : List V} {q : My.Qu} {ls : List Addr} (h : Hq H H' ow pl wt os q ls) {e : Nat × List Nat} {l : Addr} (hl : H' l = some (.lst (vN e.2))) (hf : H l = none) (hn : l ≠ wt) (he : ¬ e.1 ∈ q.map (·.1)) :
    Hq H (upd (upd H' pl (.dK (putK (kvOf q ls) ((e.1 : Int)) (.ref l)))) wt (.lst (q.map (fun e => V.int e.1) ++ [.int e.1]))) ow pl wt os (q ++ [e]) (ls ++ [l]) := by
  have n1 : ow ≠ pl := ne_of h.ho h.hp (by intro z; cases z)
  have n2 : pl ≠ wt := ne_of h.hp h.hw (by intro z; cases z)
  have n3 : l ≠ pl := ne_of hl h.hp (by intro z; cases z)
  refine ⟨fun b o z => ?_, ?_, ?_, ?_, ?_, fun j l' e' h1 h2 => ?_, fun l' hl' => ?_, h.nw, fun l' hl' => ?_, h.fp, h.fw⟩
  · rw [upd_ne (ne_of_none z h.fw), upd_ne (ne_of_none z h.fp)]; exact h.same b o z
  · rw [upd_ne h.nw, upd_ne n1]; exact h.ho
  · rw [upd_ne n2, upd_same, putK_new _ (kv_none he), kv_snoc h.len]
  · rw [upd_same, List.map_append]; rfl
  · simp [h.len]
  · by_cases hj : j < q.length
    · have hj' : j < ls.length := by rw [h.len]; exact hj
      rw [List.getElem?_append_left hj] at h2
      rw [List.getElem?_append_left hj'] at h1
      have := h.at_ j l' e' h1 h2
      have m1 : l' ≠ wt := h.nl l' (List.mem_of_getElem? h1)
      have m2 : l' ≠ pl := ne_of this h.hp (by intro z; cases z)
      rw [upd_ne m1, upd_ne m2]; exact this
    · have hj2 := (List.getElem?_eq_some_iff.mp h2).1
      simp at hj2
      have hj3 : j = q.length := by omega
      subst hj3
      have e1 : e = e' := by simpa using h2
      have e2 : l = l' := by
        rw [← h.len] at h1
        simpa using h1
      subst e1 e2
      rw [upd_ne hn, upd_ne n3]; exact hl
  · rcases List.mem_append.mp hl' with z | z
    · exact h.fl l' z
    · rw [List.mem_singleton] at z; subst z; exact hf
  · rcases List.mem_append.mp hl' with z | z
    · exact h.nl l' z
    · rw [List.mem_singleton] at z; subst z; exact hn
structure Wy (H H' : Hp) (pl : Addr) (q : My.Qu) (ls : List Addr) : Prop where
  same : Same H H'
  hp : H' pl = some (.dK (kvOf q ls))
  len : ls.length = q.length
  at_ : ∀ (j : Nat) (l : Addr) (e : Nat × List Nat), ls[j]? = some l → q[j]? = some e → H' l = some (.lst (vN e.2))
  fl : ∀ l ∈ ls, H l = none
  fp : H pl = none
theorem Hq.wy {H H' : Hp} {ow pl wt : Addr} {os : List V} {q : My.Qu} {ls : List Addr} (h : Hq H H' ow pl wt os q ls) : Wy H H' pl q ls := ⟨h.same, h.hp, h.len, h.at_, h.fl, h.fp⟩
inductive SpWaysI (CD CA CS : Addr) (vs : List V) (H : Hp) (Q : VK) : Prop
  | mk (z : SA) (s : Vbtaaf.State) (p v : Nat) (h1 : vs = [.ref z.st, .int p, .int v]) (h2 : StoryAt CD CA CS H z s) (h3 : My.SOk s) (h4 : v < 2 ^ s.facts) (h5 : ∀ (H' : Hp) (pl : Addr) (q : My.Qu) (ls : List Addr), Wy H H' pl q ls → My.Bfs s.facts (Vbtaaf.numbered s p) (fun _ => false) v q.length q → Q (.ref pl) H') : SpWaysI CD CA CS vs H Q
noncomputable def spWays (CD CA CS : Addr) : Sp := fun vs H Q _ => SpWaysI CD CA CS vs H Q
theorem scWays : FnScope ["story", "actor", "world", "own", "ways", "waiting", "at", "here", "number", "deed", "there"] ["story", "actor", "world"] (defScope sWays) := ⟨rfl, rfl, rfl, by decide +kernel, rfl, by decide +kernel, by decide +kernel⟩
theorem hu_room {k : Nat} {A : Around} (r : Room k A) : A.units + 1 < cLine := by have := r.un; omega
inductive WaysW (H : Hp) (s : Vbtaaf.State) (z : SA) (p v : Nat) (ow pl wt : Addr) (m : Nat) (σ : L2.St) (H' : Hp) : Prop
  | mk (a : Nat) (q : My.Qu) (ls : List Addr) (v7 v8 v9 v10 : Option V) (h1 : m = 64 - a) (h2 : σ = [some (.ref z.st), some (.int p), some (.int v), some (.ref ow), some (.ref pl), some (.ref wt), some (.int a), v7, v8, v9, v10]) (h3 : My.Bfs s.facts (Vbtaaf.numbered s p) (fun _ => false) v a q) (h4 : Hq H H' ow pl wt (nums s p) q ls) : WaysW H s z p v ow pl wt m σ H'
inductive WaysN (H : Hp) (s : Vbtaaf.State) (z : SA) (p v : Nat) (ow pl wt : Addr) (a : Nat) (σ' : L2.St) (H' : Hp) : Prop
  | mk (q' : My.Qu) (ls' : List Addr) (v7 v8 v9 v10 : Option V) (h1 : σ' = [some (.ref z.st), some (.int p), some (.int v), some (.ref ow), some (.ref pl), some (.ref wt), some (.int (a + 1 : Nat)), v7, v8, v9, v10]) (h2 : My.Bfs s.facts (Vbtaaf.numbered s p) (fun _ => false) v (a + 1) q') (h3 : Hq H H' ow pl wt (nums s p) q' ls') : WaysN H s z p v ow pl wt a σ' H'
inductive WaysF (H : Hp) (s : Vbtaaf.State) (z : SA) (p v : Nat) (ow pl wt : Addr) (a u : Nat) (ks : List Nat) (q : My.Qu) (i : Nat) (σ' : L2.St) (H' : Hp) : Prop
  | mk (q' : My.Qu) (ls' : List Addr) (v8 v9 v10 : Option V) (h1 : σ' = [some (.ref z.st), some (.int p), some (.int v), some (.ref ow), some (.ref pl), some (.ref wt), some (.int a), some (.int u), v8, v9, v10]) (h2 : My.In s.facts (Vbtaaf.numbered s p) v a u ks q ((Vbtaaf.numbered s p).take i) q') (h3 : Hq H H' ow pl wt (nums s p) q' ls') : WaysF H s z p v ow pl wt a u ks q i σ' H'
noncomputable def wWays1 (K : PySem.W.Frag) (CD CA CS : Addr) : TS := tAsg (tCall (spDeedsOf CD CA CS) [] E0 (tCons (tVar 0) (tCons (tVar 1) tNil))) (gName 3)
noncomputable def wWays2 (K : PySem.W.Frag) (CD CA CS : Addr) : TS := tAsg (tDisp [((tVar 2), (tLst tNil))]) (gName 4)
noncomputable def wWays3 (K : PySem.W.Frag) (CD CA CS : Addr) : TS := tAsg (tLst (tCons (tVar 2) tNil)) (gName 5)
noncomputable def wWays4 (K : PySem.W.Frag) (CD CA CS : Addr) : TS := tAsg (tC (.int 0)) (gName 6)
noncomputable def wWays5 (K : PySem.W.Frag) (CD CA CS : Addr) : TS := tAsg (tOp (rIxL K) (tVar 5) (tVar 6)) (gName 7)
noncomputable def wWays6 (K : PySem.W.Frag) (CD CA CS : Addr) : TS := tAsg (tOp (rIxL K) (tFld K (tVar 0) "deeds") (tVar 8)) (gName 9)
noncomputable def wWays7 (K : PySem.W.Frag) (CD CA CS : Addr) : TS := tAsg (tMeth CD "brings" (spBrings CD) [] E0 (tVar 9) (tCons (tVar 7) tNil)) (gName 10)
noncomputable def wWays8 (K : PySem.W.Frag) (CD CA CS : Addr) : TS := sDPut (tVar 4) (tVar 10) (tOp (rCat) (tDGet (tVar 4) (tVar 7)) (tLst (tCons (tVar 8) tNil)))
noncomputable def wWays9 (K : PySem.W.Frag) (CD CA CS : Addr) : TS := tDrop (tBM K "list" rAppend (tVar 5) (tCons (tVar 10) tNil))
noncomputable def wWays10 (K : PySem.W.Frag) (CD CA CS : Addr) : TS := tSeq (wWays8 K CD CA CS) (wWays9 K CD CA CS)
noncomputable def wWays11 (K : PySem.W.Frag) (CD CA CS : Addr) : TS := tIfS (tB (tDNotIn (tVar 10) (tVar 4))) (wWays10 K CD CA CS) tNext
noncomputable def wWays12 (K : PySem.W.Frag) (CD CA CS : Addr) : TS := tSeq (wWays7 K CD CA CS) (wWays11 K CD CA CS)
noncomputable def wWays13 (K : PySem.W.Frag) (CD CA CS : Addr) : TS := tIfS (tB (tMeth CD "can_be_done" (spCan CD) [] E0 (tVar 9) (tCons (tVar 7) tNil))) (wWays12 K CD CA CS) tNext
noncomputable def wWays14 (K : PySem.W.Frag) (CD CA CS : Addr) : TS := tSeq (wWays6 K CD CA CS) (wWays13 K CD CA CS)
noncomputable def wWays15 (K : PySem.W.Frag) (CD CA CS : Addr) : TS := tFor (iList K (tVar 3)) (gName 8) (wWays14 K CD CA CS)
noncomputable def wWays16 (K : PySem.W.Frag) (CD CA CS : Addr) : TS := tAsg (tOp (rI0 fun i j => V.int (i + j)) (tVar 6) (tC (.int 1))) (gName 6)
noncomputable def wWays17 (K : PySem.W.Frag) (CD CA CS : Addr) : TS := tSeq (wWays15 K CD CA CS) (wWays16 K CD CA CS)
noncomputable def wWays18 (K : PySem.W.Frag) (CD CA CS : Addr) : TS := tSeq (wWays5 K CD CA CS) (wWays17 K CD CA CS)
noncomputable def wWays19 (K : PySem.W.Frag) (CD CA CS : Addr) : TS := tWhile (tTest (tOp (rI0 fun i j => V.bl (decide (i < j))) (tVar 6) (tCB (LenI K) (tCons (tVar 5) tNil)))) (wWays18 K CD CA CS)
noncomputable def wWays20 (K : PySem.W.Frag) (CD CA CS : Addr) : TS := tRet (tVar 4)
noncomputable def wWays21 (K : PySem.W.Frag) (CD CA CS : Addr) : TS := tSeq (wWays19 K CD CA CS) (wWays20 K CD CA CS)
noncomputable def wWays22 (K : PySem.W.Frag) (CD CA CS : Addr) : TS := tSeq (wWays4 K CD CA CS) (wWays21 K CD CA CS)
noncomputable def wWays23 (K : PySem.W.Frag) (CD CA CS : Addr) : TS := tSeq (wWays3 K CD CA CS) (wWays22 K CD CA CS)
noncomputable def wWays24 (K : PySem.W.Frag) (CD CA CS : Addr) : TS := tSeq (wWays2 K CD CA CS) (wWays23 K CD CA CS)
noncomputable def wWays25 (K : PySem.W.Frag) (CD CA CS : Addr) : TS := tSeq (wWays1 K CD CA CS) (wWays24 K CD CA CS)
theorem ok_ways {f : Addr} {fd : FuncData} {k : Nat} (F : Fun K "ways_from" "ways_from" sWays f fd) (T : Tx K mg CD CA CS) (hD : Own P w K mg base "deeds_of" ["story", "actor"] k (spDeedsOf CD CA CS))
    (hB : OwnM P w K mg base CD "can_be_done" ["self", "world"] k (spCan CD)) (hR : OwnM P w K mg base CD "brings" ["self", "world"] k (spBrings CD)) :
    FnOk P w K mg base CX0 (k + 1) f fd ["story", "actor", "world"] (spWays CD CA CS) := by
  have sc := scWays
  obtain ⟨_, _, G_deeds_of, b_deeds_of, k_deeds_of, m_deeds_of⟩ := hD
  obtain ⟨_, _, G_can_be_done, b_can_be_done, t_can_be_done⟩ := hB
  obtain ⟨_, _, G_brings, b_brings, t_brings⟩ := hR
  refine F.ok sc (fun vs H Q E h => ?_) (fun cdv A outer s0 H vs Q E hr h => ?_)
  · obtain ⟨z, s, p, v, rfl, _⟩ := h
    rfl
  · obtain ⟨z, s, p, v, rfl, S, hs, hv, k⟩ := h
    have hu := hu_room hr
    have ho := hs.own p
    have hpw := My.numbered_lt s p
    have h64 := hs.pow
    refine ⟨(wWays25 K CD CA CS), (pss_cons
      (ps_set (i := 3) sc.nd rfl (Or.inl rfl) (pe_call G_deeds_of hr rfl m_deeds_of k_deeds_of b_deeds_of .nil pass0 (pa_cons (pv 0) (pa_cons (pv 1) pa_nil))))
    (pss_cons
      (ps_set (i := 4) sc.nd rfl (Or.inl rfl) (pe_disp (pps_cons (pv 2) (pe_lst pa_nil) pps_nil) rfl rfl (by simp) (by decide)))
    (pss_cons
      (ps_set (i := 5) sc.nd rfl (Or.inl rfl) (pe_lst (pa_cons (pv 2) pa_nil)))
    (pss_cons
      (ps_set (i := 6) sc.nd rfl (Or.inl rfl) pe_int)
    (pss_cons
      (ps_while PassesOwn.never (pt_cmpR op_lt (pv 6) (pe_callB call_len_seq (by rfl) T.len PySem.boot_len (pa_cons (pv 5) pa_nil)) (nomark _))
        (pss_cons
          (ps_set (i := 7) sc.nd rfl (Or.inl rfl) (pe_ix ix_list (pv 5) (pv 6) (fun _ _ => rfl)))
        (pss_cons
          (ps_for PassesOwn.never rfl (pi_list (pv 3)) (pg_name (i := 8) sc.nd rfl (Or.inl rfl))
            (pss_cons
              (ps_set (i := 9) sc.nd rfl (Or.inl rfl) (pe_ix ix_list (pe_fld (pv 0) rfl) (pv 8) (fun _ _ => rfl)))
            (pss_one
              (ps_if (pt_val (pe_meth (pv 9) T.cDeed t_can_be_done G_can_be_done hr b_can_be_done .nil pass0 (pa_cons (pv 7) pa_nil)))
                (pss_cons
                  (ps_set (i := 10) sc.nd rfl (Or.inl rfl) (pe_meth (pv 9) T.cDeed t_brings G_brings hr b_brings .nil pass0 (pa_cons (pv 7) pa_nil)))
                (pss_one
                  (ps_if (pt_cmp (pc_dnotin (pv 10) (pv 4)))
                    (pss_cons
                      (ps_dput (pv 4) (pv 10) (pe_op op_cat (pe_dget (pv 4) (pv 7) (fun _ _ => rfl)) (pe_lst (pa_cons (pv 8) pa_nil))) rfl)
                    (pss_one
                      (ps_expr (pe_bm PySem.F.plainAttrs_list PySem.F.slot_list_append PySem.F.type_list_append mt_append (pv 5) (pa_cons (pv 10) pa_nil)))))
                    pss_nil)))
                pss_nil))))
        (pss_one
          (ps_set (i := 6) sc.nd rfl (Or.inl rfl) (pe_op op_add (pv 6) pe_int))))))
    (pss_one
      (ps_ret (pv 4)))))))), ?_⟩
    -- own = deeds_of(story, actor)
    refine ⟨_, rfl, _, rfl, z, s, p, rfl, S, hs.dlen, fun H1 ow sm1 fow how => ?_⟩
    -- plans = {world: []}
    intro pl hpl
    refine ⟨_, rfl, Nat.zero_le _, fun l0 hl0 => ⟨?_, [(((v : Int) : Key), V.ref l0)], rfl, (by show 1 ≤ 15; decide), ?_⟩⟩
    · have n0 : pl ≠ l0 := fun e => by rw [← e, upd_same] at hl0; cases hl0
      rw [upd_ne n0, upd_same]
    have n0 : l0 ≠ pl := fun e => by rw [e, upd_same] at hl0; cases hl0
    have hl0' : H1 l0 = none := by rw [upd_ne n0] at hl0; exact hl0
    -- waiting = [world]; at = 0
    refine ⟨_, rfl, (by show 1 ≤ sizeLine; decide), fun wt hwt => ?_⟩
    have nw1 : wt ≠ pl := fun e => by rw [e, upd_same] at hwt; cases hwt
    have nw2 : wt ≠ l0 := fun e => by rw [e, upd_ne n0, upd_same] at hwt; cases hwt
    have hwt' : H1 wt = none := by rw [upd_ne nw1, upd_ne nw2, upd_ne nw1] at hwt; exact hwt
    have B0 : My.Bfs s.facts (Vbtaaf.numbered s p) (fun _ => false) v 0 [(v, [])] := My.Bfs.start hv
    have Q0 : Hq H (upd (upd (upd (upd H1 pl (.dK [])) l0 (.lst [])) pl (.dK (mergeK [] [(((v : Int) : Key), V.ref l0)]))) wt (.lst [.int v])) ow pl wt (nums s p) [(v, [])] [l0] := by
      have now : ow ≠ pl := ne_of_none how hpl
      have now0 : ow ≠ l0 := ne_of_none how hl0'
      have now1 : ow ≠ wt := ne_of_none how hwt'
      refine ⟨fun b o q => ?_, ?_, ?_, upd_same, rfl, fun j l e h1 h2 => ?_, fun l hl => ?_, now1, fun l hl => ?_, Same.none sm1 hpl, Same.none sm1 hwt'⟩
      · have q1 := sm1 b o q
        rw [upd_ne (ne_of_none q1 hwt'), upd_ne (ne_of_none q1 hpl), upd_ne (ne_of_none q1 hl0'), upd_ne (ne_of_none q1 hpl)]
        exact q1
      · rw [upd_ne now1, upd_ne now, upd_ne now0, upd_ne now]; exact how
      · rw [upd_ne (Ne.symm nw1), upd_same]; rfl
      · cases j with
        | zero =>
          have e1 : l0 = l := by simpa using h1
          have e2 : (v, []) = e := by simpa using h2
          subst e1 e2
          rw [upd_ne (Ne.symm nw2), upd_ne n0, upd_same]; rfl
        | succ j => simp at h1
      · rw [List.mem_singleton] at hl; subst hl; exact Same.none sm1 hl0'
      · rw [List.mem_singleton] at hl; subst hl; exact Ne.symm nw2
    -- the loop
    refine ⟨WaysW H s z p v ow pl wt,
      ⟨_, 0, _, _, none, none, none, none, rfl, rfl, B0, Q0⟩, ?_⟩
    rintro m σ H2 ⟨a, q, ls, v7, v8, v9, v10, rfl, rfl, B, Z⟩
    refine ⟨_, rfl, _, rfl, wt, _, rfl, .inl (SqL.of Z.hw), _, _, rfl, rfl, _, rfl, ?_⟩
    have hq64 := B.bound
    refine iteD (fun hq => ?_) (fun hq => ?_)
    · have hlt : a < q.length := by
        have hq : (a : Int) < ((q.map fun e => V.int (e.1 : Int)).length : Nat) := hq
        rw [List.length_map] at hq
        omega
      obtain ⟨e, he⟩ : ∃ e, q[a]? = some e := ⟨_, List.getElem?_eq_getElem hlt⟩
      obtain ⟨u, ks⟩ := e
      have hul : u < 2 ^ s.facts := B.lt _ (List.mem_of_getElem? he)
      obtain ⟨l, hl⟩ : ∃ l, ls[a]? = some l := ⟨_, List.getElem?_eq_getElem (by rw [Z.len]; exact hlt)⟩
      have hks : ks.length ≤ 64 := by have := B.len a _ he; simp at this; omega
      refine ⟨WaysN H s z p v ow pl wt a, ?_, ?_⟩
      · rintro σ' H' ⟨q', ls', w7, w8, w9, w10, rfl, B', Z'⟩
        exact ⟨64 - (a + 1), by omega, a + 1, q', ls', w7, w8, w9, w10, rfl, rfl, B', Z'⟩
      -- here = waiting[at]
      refine ⟨_, rfl, _, rfl, wt, _, _, _, rfl, rfl, SqL.of Z.hw, atI_nat (v := V.int u) (by rw [List.getElem?_map, he]; rfl), ?_⟩
      -- for number in own
      refine ⟨_, rfl, ow, rfl, ⟨_, SqL.of Z.ho⟩, for_list (K := K) (a := ow) (xs := nums s p) (WaysF H s z p v ow pl wt a u ks q)
        ⟨q, ls, v8, v9, v10, rfl, My.In.start B he, Z⟩ (fun i σ' H' _ ⟨q', ls', _, _, _, _, _, Z'⟩ => SqL.of Z'.ho) ?_ ?_⟩
      · rintro i y σ' H3 hi ⟨q', ls', w8, w9, w10, rfl, I, Z'⟩
        obtain ⟨x, hx, rfl⟩ : ∃ x, (Vbtaaf.numbered s p)[i]? = some x ∧ y = V.int x.1 := by
          unfold nums at hi
          rw [List.getElem?_map] at hi
          cases e : (Vbtaaf.numbered s p)[i]? with
          | none => rw [e] at hi; cases hi
          | some x => rw [e] at hi; exact ⟨x, rfl, (Option.some.inj hi).symm⟩
        obtain ⟨kn, d⟩ := x
        have hxm : (kn, d) ∈ Vbtaaf.numbered s p := List.mem_of_getElem? hx
        obtain ⟨hdk, hda⟩ := My.mem_numbered.mp hxm
        have hdo := hs.deeds d (List.mem_of_getElem? hdk)
        have S3 := S.same Z'.same
        obtain ⟨dxS3, hst3⟩ := S3.st
        obtain ⟨dp, hdp, dxd, hdd⟩ := S3.deedAt hdk
        have hpre : ∀ x ∈ (Vbtaaf.numbered s p).take i, x.1 < kn := fun x hx' => by
          obtain ⟨j, hj⟩ := List.getElem?_of_mem hx'
          have hji : j < i := by
            have := (List.getElem?_eq_some_iff.mp hj).1
            simp at this
            omega
          rw [List.getElem?_take_of_lt hji] at hj
          obtain ⟨b1, q1⟩ := List.getElem?_eq_some_iff.mp hj
          obtain ⟨b2, q2⟩ := List.getElem?_eq_some_iff.mp hx
          have h := (List.pairwise_iff_getElem.mp hpw) j i b1 b2 hji
          rw [q1, q2] at h
          exact h
        have I' := I.step ho hxm hpre he
        rw [← take_more hx] at I'
        -- deed = story.deeds[number]
        refine ⟨_, rfl, z.st, CS, dxS3, _, _, rfl, hst3, T.cStory, T.sDeeds, sF_deeds _ _ _ _, _, rfl, z.ld, _, _, _, rfl, rfl, SqL.of S3.ld, atI_nat (v := V.ref dp) (by rw [List.getElem?_map, hdp]; rfl), ?_⟩
        -- if deed.can_be_done(here)
        refine ⟨_, rfl, dp, dxd, _, rfl, hdd, dF_can d, _, rfl, ?_⟩
        refine ⟨dp, d, u, rfl, ⟨dxd, hdd⟩, _, rfl, ?_⟩
        refine iteB (fun hcan => ?_) (fun hcan => ?_)
        rotate_left
        · unfold My.tryDeed at I'
          rw [if_neg (by rw [hcan]; exact fun z => Bool.false_ne_true z.1)] at I'
          exact ⟨q', ls', _, _, _, rfl, I', Z'⟩
        · -- there = deed.brings(here)
          refine ⟨_, rfl, dp, dxd, _, rfl, hdd, dF_brings d, _, rfl, ?_⟩
          refine ⟨dp, d, s.facts, u, rfl, ⟨dxd, hdd⟩, hs.facts, hul, hdo.del, ?_⟩
          -- if there not in plans
          have hdg := DGet.k (k := (((Vbtaaf.done s.facts d u : Nat) : Int) : Key)) Z'.hp
          refine ⟨_, rfl, _, rfl, pl, _, rfl, hdg, _, rfl, ?_⟩
          have hmem : (!(valV (kvOf q' ls') (((Vbtaaf.done s.facts d u : Nat) : Int))).isSome) = decide (¬ Vbtaaf.done s.facts d u ∈ q'.map (·.1)) := by
            by_cases hin : Vbtaaf.done s.facts d u ∈ q'.map (·.1)
            · obtain ⟨e', he', e2⟩ := List.mem_map.mp hin
              obtain ⟨j, hj⟩ := List.getElem?_of_mem he'
              obtain ⟨l', hl'⟩ : ∃ l', ls'[j]? = some l' := ⟨_, List.getElem?_eq_getElem (by rw [Z'.len]; exact (List.getElem?_eq_some_iff.mp hj).1)⟩
              rw [kv_some (ks := e'.2) (v := Vbtaaf.done s.facts d u) I.nd (by rw [← e2]; exact hj) hl', decide_eq_false (fun z => z hin)]
              rfl
            · rw [kv_none hin, decide_eq_true hin]
              rfl
          refine iteB (fun hno => ?_) (fun hno => ?_)
          rotate_left
          · have hin : Vbtaaf.done s.facts d u ∈ q'.map (·.1) := Classical.byContradiction fun z => by
              rw [hmem, decide_eq_true z] at hno
              cases hno
            obtain ⟨e', he', e2⟩ := List.mem_map.mp hin
            obtain ⟨j, hj⟩ := List.getElem?_of_mem he'
            obtain ⟨l', hl'⟩ : ∃ l', ls'[j]? = some l' := ⟨_, List.getElem?_eq_getElem (by rw [Z'.len]; exact (List.getElem?_eq_some_iff.mp hj).1)⟩
            unfold My.tryDeed at I'
            rw [if_neg (fun z => z.2 hin)] at I'
            exact ⟨q', ls', _, _, _, rfl, I', Z'⟩
          · have hin : ¬ Vbtaaf.done s.facts d u ∈ q'.map (·.1) := by
              rw [hmem] at hno
              exact of_decide_eq_true hno
            unfold My.tryDeed at I'
            rw [if_pos ⟨hcan, hin⟩] at I'
            -- plans[there] = plans[here] + [number]
            obtain ⟨more, hmore⟩ := I.ext
            have he3 : q'[a]? = some (u, ks) := by rw [hmore, List.getElem?_append_left hlt]; exact he
            obtain ⟨l3, hl3⟩ : ∃ l3, ls'[a]? = some l3 := ⟨_, List.getElem?_eq_getElem (by rw [Z'.len]; exact (List.getElem?_eq_some_iff.mp he3).1)⟩
            have hkv := kv_some I.nd he3 hl3
            have hdg2 := DGet.k (k := ((u : Int) : Key)) Z'.hp
            rw [hkv] at hdg2
            have hl3v := Z'.at_ a l3 _ hl3 he3
            have hsz := I'.bound
            refine ⟨_, rfl, _, rfl, pl, _, rfl, hdg2, _, rfl, (by show 1 ≤ sizeLine; decide), fun n1 hn1 => ?_⟩
            have Z4 := Z'.laid (o := .lst [.int kn]) hn1
            refine ⟨l3, n1, _, _, rfl, rfl, Z4.at_ a l3 _ hl3 he3, upd_same, ?_, fun n2 hn2 => ?_⟩
            · rw [vN_len, sizeLine_eq]
              show ks.length + 1 ≤ _
              omega
            have Z5 := Z4.laid (o := .lst (vN ks ++ [.int kn])) hn2
            have hfresh : H n2 = none := Same.none Z4.same hn2
            have nn : n2 ≠ wt := fun e => by rw [e, Z4.hw] at hn2; cases hn2
            have hl5 : upd (upd H3 n1 (.lst [.int kn])) n2 (.lst (vN ks ++ [.int kn])) n2 = some (.lst (vN (ks ++ [kn]))) := by
              rw [upd_same, vN_snoc]
            have Z6 := Z5.more (e := (Vbtaaf.done s.facts d u, ks ++ [kn])) hl5 hfresh nn hin
            have hlen' : q'.length + 1 ≤ 64 := by have := hsz; simp at this; omega
            refine ⟨_, rfl, _, rfl, pl, _, rfl, DPut.k (k := (((Vbtaaf.done s.facts d u : Nat) : Int) : Key)) Z5.hp ?_, ?_⟩
            · unfold kvOf
              rw [List.length_map, List.length_zip, Z5.len, Nat.min_self, sizeLine_eq]
              omega
            -- waiting.append(there)
            have nwp : wt ≠ pl := ne_of Z5.hw Z5.hp (by intro z; cases z)
            refine ⟨_, rfl, ⟨rfl, _, SqL.of (by rw [upd_ne nwp]; exact Z5.hw)⟩, _, rfl, wt, _, _, rfl, rfl, (by rw [upd_ne nwp]; exact Z5.hw), ?_, ?_⟩
            · rw [List.length_map, sizeLine_eq]; omega
            exact ⟨_, _, _, _, _, rfl, I', Z6⟩
      · rintro σ' H3 ⟨q', ls', w8, w9, w10, rfl, I, Z'⟩
        have hlen : (nums s p).length = (Vbtaaf.numbered s p).length := by unfold nums; rw [List.length_map]
        rw [hlen, List.take_length] at I
        -- at = at + 1
        refine ⟨_, rfl, _, _, rfl, rfl, ?_⟩
        exact ⟨q', ls', _, _, _, _, rfl, My.In.next B he rfl I, Z'⟩
    · have e : a = q.length := by
        have hq : ¬ (a : Int) < ((q.map fun e => V.int (e.1 : Int)).length : Nat) := hq
        rw [List.length_map] at hq
        have := B.le
        omega
      subst e
      exact ⟨_, rfl, k H2 pl q ls Z.wy B⟩
inductive SpPlanI (CD CA CS : Addr) (vs : List V) (H : Hp) (Q : VK) : Prop
  | mk (z : SA) (s : Vbtaaf.State) (p v : Nat) (h1 : vs = [.ref z.st, .int p, .int v]) (h2 : StoryAt CD CA CS H z s) (h3 : My.SOk s) (h4 : p < s.actors.length) (h5 : v < 2 ^ s.facts) (h6 : (∀ H' : Hp, Same H H' → Vbtaaf.planOf s p v = none → Vbtaaf.rank (Vbtaaf.ranks s.facts (Vbtaaf.deedsOf s p) (Vbtaaf.actorOf s p)) v = 0 → Q .non H')) (h7 : (∀ (H' : Hp) (l : Addr) (ks : List Nat), Same H H' → Vbtaaf.planOf s p v = some ks → Vbtaaf.rank (Vbtaaf.ranks s.facts (Vbtaaf.deedsOf s p) (Vbtaaf.actorOf s p)) v = ks.length + 1 → ks.length ≤ 64 → H l = none → H' l = some (.lst (vN ks)) → Q (.ref l) H')) : SpPlanI CD CA CS vs H Q
noncomputable def spPlan (CD CA CS : Addr) : Sp := fun vs H Q _ => SpPlanI CD CA CS vs H Q
theorem scPlan : FnScope ["story", "actor", "world", "ways", "there"] ["story", "actor", "world"] (defScope sPlan) := ⟨rfl, rfl, rfl, by decide +kernel, rfl, by decide +kernel, by decide +kernel⟩
theorem kv_at {q : My.Qu} {ls : List Addr} {i : Nat} {k : Key} {v : V} (h : (kvOf q ls)[i]? = some (k, v)) : ∃ (e : Nat × List Nat) (l : Addr), q[i]? = some e ∧ ls[i]? = some l ∧ k = (e.1 : Int) ∧ v = V.ref l := by
  unfold kvOf at h
  rw [List.getElem?_map] at h
  cases e : (q.zip ls)[i]? with
  | none => rw [e] at h; cases h
  | some x =>
    rw [e] at h
    obtain ⟨h1, h2⟩ := List.getElem?_zip_eq_some.mp e
    have h := Option.some.inj h
    exact ⟨x.1, x.2, h1, h2, (congrArg Prod.fst h).symm, (congrArg Prod.snd h).symm⟩
theorem kv_len {q : My.Qu} {ls : List Addr} (h : ls.length = q.length) : (kvOf q ls).length = q.length := by
  unfold kvOf
  rw [List.length_map, List.length_zip, h, Nat.min_self]
inductive PlanF (HL : Hp) (s : Vbtaaf.State) (z : SA) (p v : Nat) (pl : Addr) (q : My.Qu) (i : Nat) (σ : L2.St) (H' : Hp) : Prop
  | mk  (h1 : H' = HL) (h2 : (∃ v4 : Option V, σ = [some (.ref z.st), some (.int p), some (.int v), some (.ref pl), v4])) (h3 : ∀ j u l, j < i → q[j]? = some (u, l) → Vbtaaf.reached (Vbtaaf.actorOf s p) u = false) : PlanF HL s z p v pl q i σ H'
noncomputable def wPlan1 (K : PySem.W.Frag) (CD CA CS : Addr) : TS := tAsg (tCall (spWays CD CA CS) [] E0 (tCons (tVar 0) (tCons (tVar 1) (tCons (tVar 2) tNil)))) (gName 3)
noncomputable def wPlan2 (K : PySem.W.Frag) (CD CA CS : Addr) : TS := tRet (tDGet (tVar 3) (tVar 4))
noncomputable def wPlan3 (K : PySem.W.Frag) (CD CA CS : Addr) : TS := tIfS (tB (tMeth CA "is_content" (spContent CA) [] E0 (tOp (rIxL K) (tFld K (tVar 0) "actors") (tVar 1)) (tCons (tVar 4) tNil))) (wPlan2 K CD CA CS) tNext
noncomputable def wPlan4 (K : PySem.W.Frag) (CD CA CS : Addr) : TS := tLock (tFor (iKeys (tVar 3)) (gName 4) (wPlan3 K CD CA CS))
noncomputable def wPlan5 (K : PySem.W.Frag) (CD CA CS : Addr) : TS := tRet (tC .non)
noncomputable def wPlan6 (K : PySem.W.Frag) (CD CA CS : Addr) : TS := tSeq (wPlan4 K CD CA CS) (wPlan5 K CD CA CS)
noncomputable def wPlan7 (K : PySem.W.Frag) (CD CA CS : Addr) : TS := tSeq (wPlan1 K CD CA CS) (wPlan6 K CD CA CS)
theorem ok_plan {f : Addr} {fd : FuncData} {k : Nat} (F : Fun K "plan_from" "plan_from" sPlan f fd) (T : Tx K mg CD CA CS) (hW : Own P w K mg base "ways_from" ["story", "actor", "world"] k (spWays CD CA CS))
    (hC : OwnM P w K mg base CA "is_content" ["self", "world"] k (spContent CA)) : FnOk P w K mg base CX0 (k + 1) f fd ["story", "actor", "world"] (spPlan CD CA CS) := by
  have sc := scPlan
  obtain ⟨_, _, G_ways_from, b_ways_from, k_ways_from, m_ways_from⟩ := hW
  obtain ⟨_, _, G_is_content, b_is_content, t_is_content⟩ := hC
  refine F.ok sc (fun vs H Q E h => ?_) (fun cdv A outer s0 H vs Q E hr h => ?_)
  · obtain ⟨z, s, p, v, rfl, _⟩ := h
    rfl
  · obtain ⟨z, s, p, v, rfl, S, hs, hp, hv, k1, k2⟩ := h
    have hu := hu_room hr
    have ho := hs.own p
    have h64 := hs.pow
    refine ⟨(wPlan7 K CD CA CS), (pss_cons
      (ps_set (i := 3) sc.nd rfl (Or.inl rfl) (pe_call G_ways_from hr rfl m_ways_from k_ways_from b_ways_from .nil pass0 (pa_cons (pv 0) (pa_cons (pv 1) (pa_cons (pv 2) pa_nil)))))
    (pss_cons
      (ps_lock (ps_for PassesOwn.never rfl (pi_keys (pv 3)) (pg_name (i := 4) sc.nd rfl (Or.inl rfl))
        (pss_one
          (ps_if (pt_val (pe_meth (pe_ix ix_list (pe_fld (pv 0) rfl) (pv 1) (fun _ _ => rfl)) T.cActor t_is_content G_is_content hr b_is_content .nil pass0 (pa_cons (pv 4) pa_nil)))
            (pss_one
              (ps_ret (pe_dget (pv 3) (pv 4) (fun _ _ => rfl))))
            pss_nil))))
    (pss_one
      (ps_ret pe_non)))), ?_⟩
    refine ⟨_, rfl, _, rfl, _, rfl, z, s, p, v, rfl, S, hs, hv, fun H1 pl q ls W B => ?_⟩
    have hbd := B.bound
    have hkl := kv_len W.len
    refine ⟨pl, _, W.hp, trivial, fun od => ?_⟩
    generalize eL : upd H1 pl (.frz od (.dK (kvOf q ls))) = HL
    have hpl : HL pl = some (.frz od (.dK (kvOf q ls))) := by rw [← eL, upd_same]
    have smL : Same H HL := fun b o q' => by
      rw [← eL, upd_ne (ne_of_none q' W.fp)]
      exact W.same b o q'
    have S2 := S.same smL
    have eB : upd HL pl (.dK (kvOf q ls)) = H1 := by
      rw [← eL, upd_upd]
      funext b
      by_cases hb : b = pl
      · rw [hb, upd_same, W.hp]
      · rw [upd_ne hb]
    obtain ⟨dxS, hst⟩ := S2.st
    obtain ⟨ap, hap, _, dxa, haa⟩ := S2.actAt hp
    refine ⟨_, rfl, pl, od, rfl, _, hpl, for_keys (d := pl) (o := od) (kvs := kvOf q ls) (PlanF HL s z p v pl q)
      ⟨rfl, ⟨none, rfl⟩, fun j u l hj => absurd hj (Nat.not_lt_zero _)⟩ (fun i σ H' _ ⟨e, _, _⟩ => by rw [e]; exact hpl) ?_ ?_⟩
    · rintro i kk vv σ H' hi ⟨rfl, ⟨v4, rfl⟩, hbef⟩
      obtain ⟨⟨u, ks⟩, l, hq, hl, rfl, rfl⟩ := kv_at hi
      refine ⟨_, rfl, z.st, CS, dxS, _, _, rfl, hst, T.cStory, T.sActors, sF_actors _ _ _ _, _, rfl, z.la, _, _, _, rfl, rfl, SqL.of S2.la, atI_nat (v := V.ref ap) (by rw [List.getElem?_map, hap]; rfl), ap, dxa, _, rfl, haa, aF_content _, _, rfl, ?_⟩
      refine ⟨ap, Vbtaaf.actorOf s p, u, rfl, ⟨dxa, haa⟩, _, rfl, ?_⟩
      refine iteB (fun hg => ?_) (fun hg => ?_)
      · have hkv := kv_some B.nd hq hl
        refine ⟨_, rfl, _, rfl, pl, _, rfl, ⟨kvOf q ls, (u : Int), .inr ⟨od, hpl⟩, rfl, hkv.symm⟩, hpl, ?_⟩
        rw [eB]
        obtain ⟨e1, e2⟩ := My.ways_plan ho hv B hq hg hbef
        have hle : ks.length ≤ 64 := by
          have h1 := B.len i _ hq
          have h2 := (List.getElem?_eq_some_iff.mp hq).1
          have h1 : ks.length ≤ i := h1
          omega
        exact k2 H1 l ks W.same e1 e2 hle (W.fl l (List.mem_of_getElem? hl)) (W.at_ i l _ hl hq)
      · refine ⟨rfl, ⟨_, rfl⟩, fun j u' l' hj hq' => ?_⟩
        by_cases hji : j < i
        · exact hbef j u' l' hji hq'
        · have e : j = i := by omega
          subst e
          rw [hq] at hq'
          cases hq'
          exact hg
    · rintro σ H' ⟨rfl, ⟨v4, rfl⟩, hbef⟩
      refine ⟨hpl, ?_⟩
      rw [eB]
      obtain ⟨e1, e2⟩ := My.ways_none ho hv B fun e he => by
        obtain ⟨j, hj⟩ := List.getElem?_of_mem he
        exact hbef j e.1 e.2 (by rw [hkl]; exact (List.getElem?_eq_some_iff.mp hj).1) hj
      exact k1 H1 W.same e1 e2
end
end Ap
end
section
set_option Elab.async false
set_option linter.all false
set_option maxRecDepth 100000
set_option maxHeartbeats 4000000
namespace Ap
open PySem PySem.Spec PyProof.Rows L2
section
variable {P : Program} {w : World} {K : PySem.W.Frag} {mg : Str → Option Value} {base : Heap} {CD CA CS : Addr}
theorem valV_mem {kvs : List (Key × V)} {k : Key} : (valV kvs k).isSome = true ↔ k ∈ kvs.map (·.1) := by
  rw [← valV_any, List.any_eq_true]
  constructor
  · rintro ⟨x, hx, e⟩
    exact List.mem_map.mpr ⟨x, hx, of_decide_eq_true e⟩
  · intro h
    obtain ⟨x, hx, e⟩ := List.mem_map.mp h
    exact ⟨x, hx, decide_eq_true e⟩
theorem putK_mem {kvs : List (Key × V)} {k j : Key} {v : V} : j ∈ (putK kvs k v).map (·.1) ↔ j = k ∨ j ∈ kvs.map (·.1) := by
  rw [← valV_mem, valV_put, ← valV_mem]
  by_cases e : j = k
  · simp [e]
  · simp [e]
theorem vN_at {ws : List Nat} {i : Nat} {x : V} (h : (vN ws)[i]? = some x) : ∃ u : Nat, ws[i]? = some u ∧ x = V.int (u : Int) := by
  unfold vN at h
  rw [List.getElem?_map] at h
  cases e : ws[i]? with
  | none => rw [e] at h; cases h
  | some u => rw [e] at h; exact ⟨u, rfl, (Option.some.inj h).symm⟩
theorem nums_at {s : Vbtaaf.State} {p i : Nat} {y : V} (hi : (nums s p)[i]? = some y) : ∃ x, (Vbtaaf.numbered s p)[i]? = some x ∧ y = V.int x.1 := by
  unfold nums at hi
  rw [List.getElem?_map] at hi
  cases e : (Vbtaaf.numbered s p)[i]? with
  | none => rw [e] at hi; cases hi
  | some x => rw [e] at hi; exact ⟨x, rfl, (Option.some.inj hi).symm⟩
theorem in_take {α : Type} {l : List α} {i : Nat} {y x : α} (h : l[i]? = some y) (hx : x ∈ l.take (i + 1)) : x ∈ l.take i ∨ x = y := by
  rw [take_more h] at hx
  rcases List.mem_append.mp hx with hx | hx
  · exact .inl hx
  · exact .inr (by simpa using hx)
inductive SpProvesI (CD CA CS : Addr) (vs : List V) (H : Hp) (Q : VK) : Prop
  | mk (z : SA) (s : Vbtaaf.State) (p : Nat) (nl : Addr) (ws : List Nat) (h1 : vs = [.ref z.st, .int p, .ref nl]) (h2 : StoryAt CD CA CS H z s) (h3 : My.SOk s) (h4 : p < s.actors.length) (h5 : H nl = some (.lst (vN ws))) (h6 : (∀ x ∈ ws, x < 2 ^ s.facts)) (h7 : ws.length ≤ 300) (h8 : ∀ H' : Hp, Same H H' → Q (.bl (Vbtaaf.proves s.facts (Vbtaaf.deedsOf s p) (Vbtaaf.actorOf s p) (Vbtaaf.actorOf s p).belief ws)) H') : SpProvesI CD CA CS vs H Q
noncomputable def spProves (CD CA CS : Addr) : Sp := fun vs H Q _ => SpProvesI CD CA CS vs H Q
theorem scProves : FnScope ["story", "actor", "worlds", "within", "world", "own", "number", "deed"] ["story", "actor", "worlds"] (defScope sProves) := ⟨rfl, rfl, rfl, by decide +kernel, rfl, by decide +kernel, by decide +kernel⟩
inductive ProvA (H : Hp) (z : SA) (p : Nat) (nl d : Addr) (ws : List Nat) (i : Nat) (σ : L2.St) (H' : Hp) : Prop
  | mk  (h1 : Same H H') (h2 : (∃ v4 : Option V, σ = [some (.ref z.st), some (.int p), some (.ref nl), some (.ref d), v4, none, none, none])) (h3 : ∃ kvs, H' d = some (.dK kvs) ∧ kvs.length ≤ i ∧ ∀ kk : Key, kk ∈ kvs.map (·.1) ↔ ∃ x ∈ ws.take i, kk = ((x : Nat) : Int)) : ProvA H z p nl d ws i σ H'
inductive ProvB (HL : Hp) (s : Vbtaaf.State) (z : SA) (p : Nat) (nl d ow : Addr) (ws : List Nat) (kvs : List (Key × V)) (i : Nat) (σ : L2.St) (H' : Hp) : Prop
  | mk  (h1 : H' = HL) (h2 : (∃ v4 v6 v7 : Option V, σ = [some (.ref z.st), some (.int p), some (.ref nl), some (.ref d), v4, some (.ref ow), v6, v7])) (h3 : ∀ j kk vv, j < i → kvs[j]? = some (kk, vv) → ∃ x : Nat, kk = (x : Int) ∧ Vbtaaf.reached (Vbtaaf.actorOf s p) x = false ∧ ∀ k' d', (k', d') ∈ Vbtaaf.numbered s p → Vbtaaf.can d' x = true → Vbtaaf.done s.facts d' x ∈ ws) : ProvB HL s z p nl d ow ws kvs i σ H'
inductive ProvC (HM : Hp) (s : Vbtaaf.State) (z : SA) (p u : Nat) (nl d ow : Addr) (ws : List Nat) (i2 : Nat) (σ : L2.St) (H' : Hp) : Prop
  | mk  (h1 : H' = HM) (h2 : (∃ v6 v7 : Option V, σ = [some (.ref z.st), some (.int p), some (.ref nl), some (.ref d), some (.int u), some (.ref ow), v6, v7])) (h3 : ∀ x ∈ (Vbtaaf.numbered s p).take i2, Vbtaaf.can x.2 u = true → Vbtaaf.done s.facts x.2 u ∈ ws) : ProvC HM s z p u nl d ow ws i2 σ H'
noncomputable def wProves1 (K : PySem.W.Frag) (CD CA CS : Addr) : TS := tAsg tDNewK (gName 3)
noncomputable def wProves2 (K : PySem.W.Frag) (CD CA CS : Addr) : TS := sDPut (tVar 3) (tVar 4) (tC (.bl true))
noncomputable def wProves3 (K : PySem.W.Frag) (CD CA CS : Addr) : TS := tFor (iList K (tVar 2)) (gName 4) (wProves2 K CD CA CS)
noncomputable def wProves4 (K : PySem.W.Frag) (CD CA CS : Addr) : TS := tRet (tC (.bl false))
noncomputable def wProves5 (K : PySem.W.Frag) (CD CA CS : Addr) : TS := tIfS (tB (tDNotIn (tFld K (tOp (rIxL K) (tFld K (tVar 0) "actors") (tVar 1)) "belief") (tVar 3))) (wProves4 K CD CA CS) tNext
noncomputable def wProves6 (K : PySem.W.Frag) (CD CA CS : Addr) : TS := tAsg (tCall (spDeedsOf CD CA CS) [] E0 (tCons (tVar 0) (tCons (tVar 1) tNil))) (gName 5)
noncomputable def wProves7 (K : PySem.W.Frag) (CD CA CS : Addr) : TS := tRet (tC (.bl false))
noncomputable def wProves8 (K : PySem.W.Frag) (CD CA CS : Addr) : TS := tIfS (tB (tMeth CA "is_content" (spContent CA) [] E0 (tOp (rIxL K) (tFld K (tVar 0) "actors") (tVar 1)) (tCons (tVar 4) tNil))) (wProves7 K CD CA CS) tNext
noncomputable def wProves9 (K : PySem.W.Frag) (CD CA CS : Addr) : TS := tAsg (tOp (rIxL K) (tFld K (tVar 0) "deeds") (tVar 6)) (gName 7)
noncomputable def wProves10 (K : PySem.W.Frag) (CD CA CS : Addr) : TS := tRet (tC (.bl false))
noncomputable def wProves11 (K : PySem.W.Frag) (CD CA CS : Addr) : TS := tIfS (tAnd (tB (tMeth CD "can_be_done" (spCan CD) [] E0 (tVar 7) (tCons (tVar 4) tNil))) (tB (tDNotIn (tMeth CD "brings" (spBrings CD) [] E0 (tVar 7) (tCons (tVar 4) tNil)) (tVar 3)))) (wProves10 K CD CA CS) tNext
noncomputable def wProves12 (K : PySem.W.Frag) (CD CA CS : Addr) : TS := tSeq (wProves9 K CD CA CS) (wProves11 K CD CA CS)
noncomputable def wProves13 (K : PySem.W.Frag) (CD CA CS : Addr) : TS := tFor (iList K (tVar 5)) (gName 6) (wProves12 K CD CA CS)
noncomputable def wProves14 (K : PySem.W.Frag) (CD CA CS : Addr) : TS := tSeq (wProves8 K CD CA CS) (wProves13 K CD CA CS)
noncomputable def wProves15 (K : PySem.W.Frag) (CD CA CS : Addr) : TS := tLock (tFor (iKeys (tVar 3)) (gName 4) (wProves14 K CD CA CS))
noncomputable def wProves16 (K : PySem.W.Frag) (CD CA CS : Addr) : TS := tRet (tC (.bl true))
noncomputable def wProves17 (K : PySem.W.Frag) (CD CA CS : Addr) : TS := tSeq (wProves15 K CD CA CS) (wProves16 K CD CA CS)
noncomputable def wProves18 (K : PySem.W.Frag) (CD CA CS : Addr) : TS := tSeq (wProves6 K CD CA CS) (wProves17 K CD CA CS)
noncomputable def wProves19 (K : PySem.W.Frag) (CD CA CS : Addr) : TS := tSeq (wProves5 K CD CA CS) (wProves18 K CD CA CS)
noncomputable def wProves20 (K : PySem.W.Frag) (CD CA CS : Addr) : TS := tSeq (wProves3 K CD CA CS) (wProves19 K CD CA CS)
noncomputable def wProves21 (K : PySem.W.Frag) (CD CA CS : Addr) : TS := tSeq (wProves1 K CD CA CS) (wProves20 K CD CA CS)
theorem ok_proves {f : Addr} {fd : FuncData} {k : Nat} (F : Fun K "proves" "proves" sProves f fd) (T : Tx K mg CD CA CS) (hD : Own P w K mg base "deeds_of" ["story", "actor"] k (spDeedsOf CD CA CS))
    (hC : OwnM P w K mg base CA "is_content" ["self", "world"] k (spContent CA)) (hB : OwnM P w K mg base CD "can_be_done" ["self", "world"] k (spCan CD)) (hR : OwnM P w K mg base CD "brings" ["self", "world"] k (spBrings CD)) :
    FnOk P w K mg base CX0 (k + 1) f fd ["story", "actor", "worlds"] (spProves CD CA CS) := by
  have sc := scProves
  obtain ⟨_, _, G_deeds_of, b_deeds_of, k_deeds_of, m_deeds_of⟩ := hD
  obtain ⟨_, _, G_is_content, b_is_content, t_is_content⟩ := hC
  obtain ⟨_, _, G_can_be_done, b_can_be_done, t_can_be_done⟩ := hB
  obtain ⟨_, _, G_brings, b_brings, t_brings⟩ := hR
  refine F.ok sc (fun vs H Q E h => ?_) (fun cdv A outer s0 H vs Q E hr h => ?_)
  · obtain ⟨z, s, p, nl, ws, rfl, _⟩ := h
    rfl
  · obtain ⟨z, s, p, nl, ws, rfl, S, hs, hp, hnl, hws, hwl, k⟩ := h
    have hu := hu_room hr
    have kT : ∀ H' : Hp, Same H H' → My.Pv s.facts (Vbtaaf.numbered s p) (Vbtaaf.actorOf s p) (Vbtaaf.actorOf s p).belief ws → Q (.bl true) H' := fun H' sm hp' => by
      have e : Vbtaaf.proves s.facts (Vbtaaf.deedsOf s p) (Vbtaaf.actorOf s p) (Vbtaaf.actorOf s p).belief ws = true := My.proves_iff.mpr hp'
      have := k H' sm
      rw [e] at this
      exact this
    have kF : ∀ H' : Hp, Same H H' → ¬ My.Pv s.facts (Vbtaaf.numbered s p) (Vbtaaf.actorOf s p) (Vbtaaf.actorOf s p).belief ws → Q (.bl false) H' := fun H' sm hp' => by
      have e : Vbtaaf.proves s.facts (Vbtaaf.deedsOf s p) (Vbtaaf.actorOf s p) (Vbtaaf.actorOf s p).belief ws = false := My.proves_not hp'
      have := k H' sm
      rw [e] at this
      exact this
    refine ⟨(wProves21 K CD CA CS), (pss_cons
      (ps_set (i := 3) sc.nd rfl (Or.inl rfl) pe_dnewK)
    (pss_cons
      (ps_for PassesOwn.never rfl (pi_list (pv 2)) (pg_name (i := 4) sc.nd rfl (Or.inl rfl))
        (pss_one
          (ps_dput (pv 3) (pv 4) pe_bl rfl)))
    (pss_cons
      (ps_if (pt_cmp (pc_dnotin (pe_fld (pe_ix ix_list (pe_fld (pv 0) rfl) (pv 1) (fun _ _ => rfl)) rfl) (pv 3)))
        (pss_one
          (ps_ret pe_bl))
        pss_nil)
    (pss_cons
      (ps_set (i := 5) sc.nd rfl (Or.inl rfl) (pe_call G_deeds_of hr rfl m_deeds_of k_deeds_of b_deeds_of .nil pass0 (pa_cons (pv 0) (pa_cons (pv 1) pa_nil))))
    (pss_cons
      (ps_lock (ps_for PassesOwn.never rfl (pi_keys (pv 3)) (pg_name (i := 4) sc.nd rfl (Or.inl rfl))
        (pss_cons
          (ps_if (pt_val (pe_meth (pe_ix ix_list (pe_fld (pv 0) rfl) (pv 1) (fun _ _ => rfl)) T.cActor t_is_content G_is_content hr b_is_content .nil pass0 (pa_cons (pv 4) pa_nil)))
            (pss_one
              (ps_ret pe_bl))
            pss_nil)
        (pss_one
          (ps_for PassesOwn.never rfl (pi_list (pv 5)) (pg_name (i := 6) sc.nd rfl (Or.inl rfl))
            (pss_cons
              (ps_set (i := 7) sc.nd rfl (Or.inl rfl) (pe_ix ix_list (pe_fld (pv 0) rfl) (pv 6) (fun _ _ => rfl)))
            (pss_one
              (ps_if (PW.pt (pw_and (pt_val (pe_meth (pv 7) T.cDeed t_can_be_done G_can_be_done hr b_can_be_done .nil pass0 (pa_cons (pv 4) pa_nil))) (pw_and1 (pt_cmp (pc_dnotin (pe_meth (pv 7) T.cDeed t_brings G_brings hr b_brings .nil pass0 (pa_cons (pv 4) pa_nil)) (pv 3))))))
                (pss_one
                  (ps_ret pe_bl))
                pss_nil))))))))
    (pss_one
      (ps_ret pe_bl))))))), ?_⟩
    intro d hd
    have nld : nl ≠ d := ne_of_none hnl hd
    have sm0 : Same H (upd H d (.dK [])) := same_upd same_refl hd
    refine ⟨_, rfl, nl, rfl, ⟨_, SqL.of (sm0 _ _ hnl)⟩, for_list (K := K) (a := nl) (xs := vN ws) (ProvA H z p nl d ws)
      ⟨sm0, ⟨none, rfl⟩, [], upd_same, Nat.le_refl _, fun kk => by simp⟩ (fun i σ H' _ ⟨sm, _, _⟩ => SqL.of (sm _ _ hnl)) ?_ ?_⟩
    · rintro i x σ H' hi ⟨sm, ⟨v4, rfl⟩, kvs, hk, hkl, hmem⟩
      obtain ⟨u, hu', rfl⟩ := vN_at hi
      have hil : i < ws.length := (List.getElem?_eq_some_iff.mp hu').1
      refine ⟨_, rfl, _, rfl, d, _, rfl, DPut.k (k := ((u : Int) : Key)) hk (by rw [sizeLine_eq]; omega), fun b o q => ?_, ⟨_, rfl⟩, _, upd_same, ?_, fun kk => ?_⟩
      · rw [upd_ne (ne_of_none q hd)]
        exact sm b o q
      · have := length_putK kvs ((u : Int) : Key) (V.bl true)
        omega
      · rw [putK_mem, hmem, take_more hu']
        constructor
        · rintro (h | ⟨x, hx, h⟩)
          · exact ⟨u, by simp, h⟩
          · exact ⟨x, List.mem_append_left _ hx, h⟩
        · rintro ⟨x, hx, h⟩
          rcases List.mem_append.mp hx with hx | hx
          · exact .inr ⟨x, hx, h⟩
          · have e : x = u := by simpa using hx
            subst e
            exact .inl h
    · rintro σ H1 ⟨sm, ⟨v4, rfl⟩, kvs, hk, hkl, hmem⟩
      rw [vN_len, List.take_length] at hmem
      have hmem : ∀ kk : Key, kk ∈ kvs.map (·.1) ↔ ∃ x ∈ ws, kk = ((x : Nat) : Int) := hmem
      have hin : ∀ x : Nat, (valV kvs ((x : Int))).isSome = true ↔ x ∈ ws := fun x => by
        rw [valV_mem, hmem]
        constructor
        · rintro ⟨y, hy, e⟩
          rw [Int.ofNat.inj e]; exact hy
        · exact fun h => ⟨x, h, rfl⟩
      have S1 := S.same sm
      obtain ⟨dxS, hst⟩ := S1.st
      obtain ⟨ap, hap, _, dxa, haa⟩ := S1.actAt hp
      refine ⟨_, rfl, z.st, CS, dxS, _, _, rfl, hst, T.cStory, T.sActors, sF_actors _ _ _ _, _, rfl, z.la, _, _, _, rfl, rfl, SqL.of S1.la, atI_nat (v := V.ref ap) (by rw [List.getElem?_map, hap]; rfl), ap, CA, dxa, _, _, rfl, haa, T.cActor, T.aBelief, aF_belief _, _, rfl, d, _, rfl, DGet.k (k := ((((Vbtaaf.actorOf s p).belief : Nat) : Int) : Key)) hk, _, rfl, ?_⟩
      refine iteB (fun hno => ?_) (fun hno => ?_)
      · refine kF H1 sm fun hpv => ?_
        have h1 := (hin _).mpr hpv.1
        rw [h1] at hno
        cases hno
      have hbel : (Vbtaaf.actorOf s p).belief ∈ ws := (hin _).mp (by simpa using hno)
      refine ⟨_, rfl, _, rfl, z, s, p, rfl, S1, hs.dlen, fun H2 ow sm2 fow how => ?_⟩
      have smA : Same H H2 := fun b o q => sm2 b o (sm b o q)
      have hk2 := sm2 _ _ hk
      refine ⟨d, _, hk2, trivial, fun od => ?_⟩
      generalize eL : upd H2 d (.frz od (.dK kvs)) = HL
      have hdL : HL d = some (.frz od (.dK kvs)) := by rw [← eL, upd_same]
      have smL : Same H HL := fun b o q' => by
        rw [← eL, upd_ne (ne_of_none q' hd)]
        exact smA b o q'
      have howL : HL ow = some (.lst (nums s p)) := by
        rw [← eL, upd_ne (ne_of how hk2 (by intro z; cases z))]
        exact how
      have S2 := S.same smL
      have eB : upd HL d (.dK kvs) = H2 := by
        rw [← eL, upd_upd]
        funext b
        by_cases hb : b = d
        · rw [hb, upd_same, hk2]
        · rw [upd_ne hb]
      obtain ⟨dxS2, hst2⟩ := S2.st
      obtain ⟨ap2, hap2, _, dxa2, haa2⟩ := S2.actAt hp
      refine ⟨_, rfl, d, od, rfl, _, hdL, for_keys (d := d) (o := od) (kvs := kvs) (ProvB HL s z p nl d ow ws kvs)
        ⟨rfl, ⟨_, _, _, rfl⟩, fun j kk vv hj => absurd hj (Nat.not_lt_zero _)⟩ (fun i σ H' _ ⟨e, _, _⟩ => by rw [e]; exact hdL) ?_ ?_⟩
      · rintro i kk vv σ HM hi ⟨rfl, ⟨w4, w6, w7, rfl⟩, hbef⟩
        obtain ⟨u, huw, rfl⟩ := (hmem kk).mp (List.mem_map.mpr ⟨_, List.mem_of_getElem? hi, rfl⟩)
        have hul := hws u huw
        refine ⟨_, rfl, z.st, CS, dxS2, _, _, rfl, hst2, T.cStory, T.sActors, sF_actors _ _ _ _, _, rfl, z.la, _, _, _, rfl, rfl, SqL.of S2.la, atI_nat (v := V.ref ap2) (by rw [List.getElem?_map, hap2]; rfl), ap2, dxa2, _, rfl, haa2, aF_content _, _, rfl, ?_⟩
        refine ⟨ap2, Vbtaaf.actorOf s p, u, rfl, ⟨dxa2, haa2⟩, _, rfl, ?_⟩
        refine iteB (fun hg => ?_) (fun hg => ?_)
        · refine ⟨hdL, ?_⟩
          rw [eB]
          refine kF H2 smA fun hpv => ?_
          rw [(hpv.2 u huw).1] at hg
          cases hg
        refine ⟨_, rfl, ow, rfl, ⟨_, SqL.of howL⟩, for_list (K := K) (a := ow) (xs := nums s p) (ProvC HM s z p u nl d ow ws)
          ⟨rfl, ⟨_, _, rfl⟩, fun x hx => by simp at hx⟩ (fun i2 σ H' _ ⟨e, _, _⟩ => by rw [e]; exact SqL.of howL) ?_ ?_⟩
        · rintro i2 y σ H' hi2 ⟨rfl, ⟨x6, x7, rfl⟩, htr⟩
          obtain ⟨⟨kn, dd⟩, hx, rfl⟩ := nums_at hi2
          have hxm : (kn, dd) ∈ Vbtaaf.numbered s p := List.mem_of_getElem? hx
          obtain ⟨hdk, hda⟩ := My.mem_numbered.mp hxm
          have hdo := hs.deeds dd (List.mem_of_getElem? hdk)
          obtain ⟨dp, hdp, dxd, hdd⟩ := S2.deedAt hdk
          refine ⟨_, rfl, z.st, CS, dxS2, _, _, rfl, hst2, T.cStory, T.sDeeds, sF_deeds _ _ _ _, _, rfl, z.ld, _, _, _, rfl, rfl, SqL.of S2.ld, atI_nat (v := V.ref dp) (by rw [List.getElem?_map, hdp]; rfl), ?_⟩
          refine ⟨_, rfl, dp, dxd, _, rfl, hdd, dF_can dd, _, rfl, ?_⟩
          refine ⟨dp, dd, u, rfl, ⟨dxd, hdd⟩, _, rfl, ?_⟩
          refine iteB (fun hcan => ?_) (fun hcan => iteF ?_)
          rotate_left
          · refine ⟨rfl, ⟨_, _, rfl⟩, fun x hx' hc => ?_⟩
            rcases in_take hx hx' with h | h
            · exact htr x h hc
            · subst h
              rw [hcan] at hc
              cases hc
          refine ⟨_, rfl, dp, dxd, _, rfl, hdd, dF_brings dd, _, rfl, ?_⟩
          refine ⟨dp, dd, s.facts, u, rfl, ⟨dxd, hdd⟩, hs.facts, hul, hdo.del, ?_⟩
          refine ⟨_, rfl, d, _, rfl, ⟨kvs, ((Vbtaaf.done s.facts dd u : Nat) : Int), .inr ⟨od, hdL⟩, rfl, rfl⟩, _, rfl, ?_⟩
          refine iteB (fun hno2 => ?_) (fun hno2 => ?_)
          · refine ⟨hdL, ?_⟩
            rw [eB]
            refine kF H2 smA fun hpv => ?_
            have h1 := (hin _).mpr ((hpv.2 u huw).2 kn dd hxm hcan)
            rw [h1] at hno2
            cases hno2
          · refine ⟨rfl, ⟨_, _, rfl⟩, fun x hx' hc => ?_⟩
            rcases in_take hx hx' with h | h
            · exact htr x h hc
            · subst h
              exact (hin _).mp (by simpa using hno2)
        · rintro σ H' ⟨rfl, ⟨x6, x7, rfl⟩, htr⟩
          have hlen : (nums s p).length = (Vbtaaf.numbered s p).length := by unfold nums; rw [List.length_map]
          rw [hlen, List.take_length] at htr
          refine ⟨rfl, ⟨_, _, _, rfl⟩, fun j kk' vv' hj hq' => ?_⟩
          by_cases hji : j < i
          · exact hbef j kk' vv' hji hq'
          · have e : j = i := by omega
            subst e
            rw [hi] at hq'
            cases hq'
            exact ⟨u, rfl, hg, fun k' d' hm hc => htr (k', d') hm hc⟩
      · rintro σ H' ⟨rfl, ⟨w4, w6, w7, rfl⟩, hbef⟩
        refine ⟨hdL, ?_⟩
        rw [eB]
        refine kT H2 smA ⟨hbel, fun x hx => ?_⟩
        obtain ⟨kv, hkv, e⟩ := List.mem_map.mp ((hmem ((x : Int))).mpr ⟨x, hx, rfl⟩)
        obtain ⟨j, hj⟩ := List.getElem?_of_mem hkv
        obtain ⟨y, e2, h1, h2⟩ := hbef j kv.1 kv.2 (List.getElem?_eq_some_iff.mp hj).1 hj
        rw [e] at e2
        cases Int.ofNat.inj e2
        exact ⟨h1, h2⟩
inductive SpPlaceI (CD CA CS : Addr) (vs : List V) (H : Hp) (Q : VK) : Prop
  | mk (z : SA) (s : Vbtaaf.State) (p : Nat) (nl : Addr) (ks : List Nat) (h1 : vs = [.ref z.st, .int p, .ref nl]) (h2 : StoryAt CD CA CS H z s) (h3 : My.SOk s) (h4 : p < s.actors.length) (h5 : H nl = some (.lst (vN ks))) (h6 : (∀ x ∈ ks, x < s.deeds.length)) (h7 : ks.length ≤ 300) (h8 : (∀ H' : Hp, Same H H' → Vbtaaf.follow s.facts s.deeds (Vbtaaf.actorOf s p) 1 ks (Vbtaaf.actorOf s p).belief = none → Q (.int 0) H')) (h9 : (∀ (H' : Hp) (i : Nat), Same H H' → Vbtaaf.follow s.facts s.deeds (Vbtaaf.actorOf s p) 1 ks (Vbtaaf.actorOf s p).belief = some (i + 1) → Q (.int ((i : Int) + 1)) H')) : SpPlaceI CD CA CS vs H Q
noncomputable def spPlace (CD CA CS : Addr) : Sp := fun vs H Q _ => SpPlaceI CD CA CS vs H Q
theorem scPlace : FnScope ["story", "actor", "numbers", "world", "place", "number", "deed"] ["story", "actor", "numbers"] (defScope sPlace) := ⟨rfl, rfl, rfl, by decide +kernel, rfl, by decide +kernel, by decide +kernel⟩
inductive PlaceF (H : Hp) (s : Vbtaaf.State) (z : SA) (p : Nat) (nl : Addr) (ks : List Nat) (i : Nat) (σ : L2.St) (H' : Hp) : Prop
  | mk  (h1 : Same H H') (h2 : ∃ (u : Nat) (v4 v5 v6 : Option V), σ = [some (.ref z.st), some (.int p), some (.ref nl), some (.int u), v4, v5, v6] ∧ u < 2 ^ s.facts ∧ Vbtaaf.follow s.facts s.deeds (Vbtaaf.actorOf s p) 1 ks (Vbtaaf.actorOf s p).belief = Vbtaaf.follow s.facts s.deeds (Vbtaaf.actorOf s p) (i + 1) (ks.drop i) u) : PlaceF H s z p nl ks i σ H'
noncomputable def wPlace1 (K : PySem.W.Frag) (CD CA CS : Addr) : TS := tAsg (tFld K (tOp (rIxL K) (tFld K (tVar 0) "actors") (tVar 1)) "belief") (gName 3)
noncomputable def wPlace2 (K : PySem.W.Frag) (CD CA CS : Addr) : TS := tAsg (tOp (rIxL K) (tFld K (tVar 0) "deeds") (tVar 5)) (gName 6)
noncomputable def wPlace3 (K : PySem.W.Frag) (CD CA CS : Addr) : TS := tRet (tVar 4)
noncomputable def wPlace4 (K : PySem.W.Frag) (CD CA CS : Addr) : TS := tIfS (tNot (tB (tMeth CD "can_be_done" (spCan CD) [] E0 (tVar 6) (tCons (tVar 3) tNil)))) (wPlace3 K CD CA CS) tNext
noncomputable def wPlace5 (K : PySem.W.Frag) (CD CA CS : Addr) : TS := tAsg (tMeth CD "brings" (spBrings CD) [] E0 (tVar 6) (tCons (tVar 3) tNil)) (gName 3)
noncomputable def wPlace6 (K : PySem.W.Frag) (CD CA CS : Addr) : TS := tSeq (wPlace4 K CD CA CS) (wPlace5 K CD CA CS)
noncomputable def wPlace7 (K : PySem.W.Frag) (CD CA CS : Addr) : TS := tSeq (wPlace2 K CD CA CS) (wPlace6 K CD CA CS)
noncomputable def wPlace8 (K : PySem.W.Frag) (CD CA CS : Addr) : TS := tFor (iEnumS K (tCons (tVar 2) tNil)) (gTup K 2 (gCons (gName 4) (gCons (gName 5) gNil))) (wPlace7 K CD CA CS)
noncomputable def wPlace9 (K : PySem.W.Frag) (CD CA CS : Addr) : TS := tRet (tC (.int 0))
noncomputable def wPlace10 (K : PySem.W.Frag) (CD CA CS : Addr) : TS := tIfS (tB (tMeth CA "is_content" (spContent CA) [] E0 (tOp (rIxL K) (tFld K (tVar 0) "actors") (tVar 1)) (tCons (tVar 3) tNil))) (wPlace9 K CD CA CS) tNext
noncomputable def wPlace11 (K : PySem.W.Frag) (CD CA CS : Addr) : TS := tRet (tOp (rI0 fun i j => V.int (i + j)) (tCB (LenI K) (tCons (tVar 2) tNil)) (tC (.int 1)))
noncomputable def wPlace12 (K : PySem.W.Frag) (CD CA CS : Addr) : TS := tSeq (wPlace10 K CD CA CS) (wPlace11 K CD CA CS)
noncomputable def wPlace13 (K : PySem.W.Frag) (CD CA CS : Addr) : TS := tSeq (wPlace8 K CD CA CS) (wPlace12 K CD CA CS)
noncomputable def wPlace14 (K : PySem.W.Frag) (CD CA CS : Addr) : TS := tSeq (wPlace1 K CD CA CS) (wPlace13 K CD CA CS)
theorem ok_place {f : Addr} {fd : FuncData} {k : Nat} (F : Fun K "place_of_failure" "place_of_failure" sPlace f fd) (T : Tx K mg CD CA CS)
    (hC : OwnM P w K mg base CA "is_content" ["self", "world"] k (spContent CA)) (hB : OwnM P w K mg base CD "can_be_done" ["self", "world"] k (spCan CD)) (hR : OwnM P w K mg base CD "brings" ["self", "world"] k (spBrings CD)) :
    FnOk P w K mg base CX0 (k + 1) f fd ["story", "actor", "numbers"] (spPlace CD CA CS) := by
  have sc := scPlace
  obtain ⟨_, _, G_is_content, b_is_content, t_is_content⟩ := hC
  obtain ⟨_, _, G_can_be_done, b_can_be_done, t_can_be_done⟩ := hB
  obtain ⟨_, _, G_brings, b_brings, t_brings⟩ := hR
  refine F.ok sc (fun vs H Q E h => ?_) (fun cdv A outer s0 H vs Q E hr h => ?_)
  · obtain ⟨z, s, p, nl, ks, rfl, _⟩ := h
    rfl
  · obtain ⟨z, s, p, nl, ks, rfl, S, hs, hp, hnl, hks, hkl, k0, k1⟩ := h
    refine ⟨(wPlace14 K CD CA CS), (pss_cons
      (ps_set (i := 3) sc.nd rfl (Or.inl rfl) (pe_fld (pe_ix ix_list (pe_fld (pv 0) rfl) (pv 1) (fun _ _ => rfl)) rfl))
    (pss_cons
      (ps_for PassesOwn.never rfl (pi_enumS rfl T.enumerate (pa_cons (pv 2) pa_nil)) (pg_tup rfl (pgs_cons (pg_name (i := 4) sc.nd rfl (Or.inl rfl)) (pgs_cons (pg_name (i := 5) sc.nd rfl (Or.inl rfl)) pgs_nil)))
        (pss_cons
          (ps_set (i := 6) sc.nd rfl (Or.inl rfl) (pe_ix ix_list (pe_fld (pv 0) rfl) (pv 5) (fun _ _ => rfl)))
        (pss_cons
          (ps_if (pt_not (pt_val (pe_meth (pv 6) T.cDeed t_can_be_done G_can_be_done hr b_can_be_done .nil pass0 (pa_cons (pv 3) pa_nil))))
            (pss_one
              (ps_ret (pv 4)))
            pss_nil)
        (pss_one
          (ps_set (i := 3) sc.nd rfl (Or.inl rfl) (pe_meth (pv 6) T.cDeed t_brings G_brings hr b_brings .nil pass0 (pa_cons (pv 3) pa_nil)))))))
    (pss_cons
      (ps_if (pt_val (pe_meth (pe_ix ix_list (pe_fld (pv 0) rfl) (pv 1) (fun _ _ => rfl)) T.cActor t_is_content G_is_content hr b_is_content .nil pass0 (pa_cons (pv 3) pa_nil)))
        (pss_one
          (ps_ret pe_int))
        pss_nil)
    (pss_one
      (ps_ret (pe_op op_add (pe_callB call_len_seq (by rfl) T.len PySem.boot_len (pa_cons (pv 2) pa_nil)) pe_int)))))), ?_⟩
    obtain ⟨dxS, hst⟩ := S.st
    obtain ⟨ap, hap, hpa, dxa, haa⟩ := S.actAt hp
    have hao := hs.actors _ (List.mem_of_getElem? hpa)
    refine ⟨_, rfl, z.st, CS, dxS, _, _, rfl, hst, T.cStory, T.sActors, sF_actors _ _ _ _, _, rfl, z.la, _, _, _, rfl, rfl, SqL.of S.la, atI_nat (v := V.ref ap) (by rw [List.getElem?_map, hap]; rfl), ap, CA, dxa, _, _, rfl, haa, T.cActor, T.aBelief, aF_belief _, ?_⟩
    refine ⟨_, rfl, nl, _, rfl, SqL.of hnl, for_enumS (K := K) (a := nl) (xs := vN ks) (PlaceF H s z p nl ks)
      ⟨same_refl, _, none, none, none, rfl, hao.belief, rfl⟩ (fun i σ H' _ ⟨sm, _⟩ => SqL.of (sm _ _ hnl)) ?_ ?_⟩
    · rintro i x σ H' Tt hi ⟨sm, u, v4, v5, v6, rfl, hul, hfo⟩ hT
      obtain ⟨kn, hkn, rfl⟩ := vN_at hi
      have sm2 : Same H (upd H' Tt (.tup [.int ((i : Int) + 1), .int kn])) := same_upd sm hT
      have hknl := hks kn (List.mem_of_getElem? hkn)
      obtain ⟨dd, hdk⟩ : ∃ dd, s.deeds[kn]? = some dd := ⟨_, List.getElem?_eq_getElem hknl⟩
      have hdo := hs.deeds dd (List.mem_of_getElem? hdk)
      have S2 := S.same sm2
      obtain ⟨dxS2, hst2⟩ := S2.st
      obtain ⟨dp, hdp, dxd, hdd⟩ := S2.deedAt hdk
      have hdr : ks.drop i = kn :: ks.drop (i + 1) := by
        obtain ⟨h1, h2⟩ := List.getElem?_eq_some_iff.mp hkn
        rw [List.drop_eq_getElem_cons h1, h2]
      refine ⟨Tt, _, rfl, SqT.of upd_same, rfl, _, _, rfl, _, _, rfl, rfl, ?_⟩
      refine ⟨_, rfl, z.st, CS, dxS2, _, _, rfl, hst2, T.cStory, T.sDeeds, sF_deeds _ _ _ _, _, rfl, z.ld, _, _, _, rfl, rfl, SqL.of S2.ld, atI_nat (v := V.ref dp) (by rw [List.getElem?_map, hdp]; rfl), ?_⟩
      refine ⟨_, rfl, dp, dxd, _, rfl, hdd, dF_can dd, _, rfl, ?_⟩
      refine ⟨dp, dd, u, rfl, ⟨dxd, hdd⟩, _, rfl, ?_⟩
      refine iteB (fun hc => ?_) (fun hc => ?_)
      · have hc : Vbtaaf.can dd u = false := by simpa using hc
        rw [hdr, My.follow_stop hdk hc] at hfo
        exact ⟨_, rfl, k1 _ i sm2 hfo⟩
      · have hc : Vbtaaf.can dd u = true := by simpa using hc
        rw [hdr, My.follow_go hdk hc] at hfo
        refine ⟨_, rfl, dp, dxd, _, rfl, hdd, dF_brings dd, _, rfl, ?_⟩
        refine ⟨dp, dd, s.facts, u, rfl, ⟨dxd, hdd⟩, hs.facts, hul, hdo.del, ?_⟩
        exact ⟨sm2, _, _, _, _, rfl, My.done_lt hdo.add hul, hfo⟩
    · rintro σ H' ⟨sm, u, v4, v5, v6, rfl, hul, hfo⟩
      rw [vN_len, List.drop_length, My.follow_nil] at hfo
      have S2 := S.same sm
      obtain ⟨dxS2, hst2⟩ := S2.st
      obtain ⟨ap2, hap2, _, dxa2, haa2⟩ := S2.actAt hp
      refine ⟨_, rfl, z.st, CS, dxS2, _, _, rfl, hst2, T.cStory, T.sActors, sF_actors _ _ _ _, _, rfl, z.la, _, _, _, rfl, rfl, SqL.of S2.la, atI_nat (v := V.ref ap2) (by rw [List.getElem?_map, hap2]; rfl), ap2, dxa2, _, rfl, haa2, aF_content _, _, rfl, ?_⟩
      refine ⟨ap2, Vbtaaf.actorOf s p, u, rfl, ⟨dxa2, haa2⟩, _, rfl, ?_⟩
      refine iteB (fun hg => ?_) (fun hg => ?_)
      · rw [if_pos hg] at hfo
        exact k0 H' sm hfo
      · rw [if_neg (by rw [hg]; exact Bool.false_ne_true)] at hfo
        refine ⟨_, rfl, nl, _, rfl, .inl (SqL.of (sm _ _ hnl)), _, _, rfl, rfl, ?_⟩
        rw [vN_len]
        exact k1 H' ks.length sm hfo
end
end Ap
end
section
set_option Elab.async false
set_option linter.all false
set_option maxRecDepth 100000
set_option maxHeartbeats 4000000
namespace Ap
open PySem PySem.Spec PyProof.Rows L2
theorem sF_aF {n v : Nat} {la ld : Addr} {a : Vbtaaf.Actor} : sF n v la ld ≠ aF a := fun h => by
  have h1 : ("facts" : Str) = "sees" := congrArg Prod.fst (List.cons.inj h).1
  exact absurd h1 (by decide +kernel)
theorem sF_dF {n v : Nat} {la ld : Addr} {d : Vbtaaf.Deed} : sF n v la ld ≠ dF d := fun h => by
  have h1 : ("facts" : Str) = "actor" := congrArg Prod.fst (List.cons.inj h).1
  exact absurd h1 (by decide +kernel)
theorem aF_dF {a : Vbtaaf.Actor} {d : Vbtaaf.Deed} : aF a ≠ dF d := fun h => by
  have h1 : ("sees" : Str) = "actor" := congrArg Prod.fst (List.cons.inj h).1
  exact absurd h1 (by decide +kernel)
theorem ins_ne {C C' dx dx' : Addr} {fs fs' : List (Str × V)} (h : fs ≠ fs') : HO.ins C dx fs ≠ HO.ins C' dx' fs' := fun q => h (by injection q)
theorem lst_ins {C dx : Addr} {fs : List (Str × V)} {xs : List V} : HO.lst xs ≠ HO.ins C dx fs := fun q => by cases q
theorem ins_lst {C dx : Addr} {fs : List (Str × V)} {xs : List V} : HO.ins C dx fs ≠ HO.lst xs := fun q => by cases q
section
variable {P : Program} {w : World} {K : PySem.W.Frag} {mg : Str → Option Value} {base : Heap} {CD CA CS : Addr} {H H' : Hp} {z : SA} {s : Vbtaaf.State}
theorem foot_mem {b : Addr} : b ∈ foot z ↔ b = z.st ∨ b = z.la ∨ b = z.ld ∨ b ∈ z.as := by
  unfold foot
  simp only [List.mem_cons]
theorem StoryAt.tracked (S : StoryAt CD CA CS H z s) {b : Addr} (h : b ∈ foot z) : ∃ o, H b = some o := by
  rcases foot_mem.mp h with rfl | rfl | rfl | h
  · obtain ⟨dx, h⟩ := S.st
    exact ⟨_, h⟩
  · exact ⟨_, S.la⟩
  · exact ⟨_, S.ld⟩
  · obtain ⟨j, hj⟩ := List.getElem?_of_mem h
    obtain ⟨a, _, dx, h2⟩ := S.act j b hj
    exact ⟨_, h2⟩
theorem StoryAt.fresh (S : StoryAt CD CA CS H z s) {b : Addr} (h : H b = none) : ¬ b ∈ foot z := fun q => by
  obtain ⟨o, ho⟩ := S.tracked q
  rw [h] at ho
  cases ho
theorem StoryAt.setS (S : StoryAt CD CA CS H z s) {dx : Addr} {n v : Nat} : StoryAt CD CA CS (upd H z.st (.ins CS dx (sF n v z.la z.ld))) z { s with facts := n, world := v } := by
  obtain ⟨dx0, h0⟩ := S.st
  refine ⟨⟨dx, upd_same⟩, ?_, ?_, S.ne, S.alen, S.dlen, S.nd, fun j p h => ?_, fun j p h => ?_⟩
  · rw [upd_ne (ne_of S.la h0 lst_ins)]; exact S.la
  · rw [upd_ne (ne_of S.ld h0 lst_ins)]; exact S.ld
  · obtain ⟨a, h1, dxa, h2⟩ := S.act j p h
    exact ⟨a, h1, dxa, by rw [upd_ne (ne_of h2 h0 (ins_ne (Ne.symm sF_aF)))]; exact h2⟩
  · obtain ⟨d, h1, dxd, h2⟩ := S.ded j p h
    exact ⟨d, h1, dxd, by rw [upd_ne (ne_of h2 h0 (ins_ne (Ne.symm sF_dF)))]; exact h2⟩
theorem StoryAt.setA (S : StoryAt CD CA CS H z s) {j : Nat} {p dx : Addr} {a : Vbtaaf.Actor} (hj : z.as[j]? = some p) : StoryAt CD CA CS (upd H p (.ins CA dx (aF a))) z { s with actors := s.actors.set j a } := by
  obtain ⟨a0, h1, dx0, h2⟩ := S.act j p hj
  obtain ⟨dxs, h0⟩ := S.st
  refine ⟨⟨dxs, ?_⟩, ?_, ?_, S.ne, by simpa using S.alen, S.dlen, S.nd, fun i q h => ?_, fun i q h => ?_⟩
  · rw [upd_ne (ne_of h0 h2 (ins_ne sF_aF))]; exact h0
  · rw [upd_ne (ne_of S.la h2 lst_ins)]; exact S.la
  · rw [upd_ne (ne_of S.ld h2 lst_ins)]; exact S.ld
  · by_cases e : i = j
    · subst e
      have e2 : q = p := Option.some.inj (h.symm.trans hj)
      subst e2
      exact ⟨a, List.getElem?_set_self (List.getElem?_eq_some_iff.mp h1).1, dx, upd_same⟩
    · obtain ⟨a', h3, dx', h4⟩ := S.act i q h
      have nq : q ≠ p := fun e2 => e (nd_ix S.nd h (by rw [e2]; exact hj))
      exact ⟨a', by rw [List.getElem?_set_ne (fun e2 => e e2.symm)]; exact h3, dx', by rw [upd_ne nq]; exact h4⟩
  · obtain ⟨d, h3, dxd, h4⟩ := S.ded i q h
    exact ⟨d, h3, dxd, by rw [upd_ne (ne_of h4 h2 (ins_ne (Ne.symm aF_dF)))]; exact h4⟩
theorem StoryAt.addA (S : StoryAt CD CA CS H z s) {x dx : Addr} {a : Vbtaaf.Actor} (hx : H x = some (.ins CA dx (aF a))) (hn : ¬ x ∈ z.as) :
    StoryAt CD CA CS (upd H z.la (.lst (z.as.map V.ref ++ [.ref x]))) ⟨z.st, z.la, z.ld, z.as ++ [x], z.ds⟩ { s with actors := s.actors ++ [a] } := by
  obtain ⟨dxs, h0⟩ := S.st
  refine ⟨⟨dxs, ?_⟩, ?_, ?_, S.ne, by simp [S.alen], S.dlen, ?_, fun i q h => ?_, fun i q h => ?_⟩
  · show upd H z.la _ z.st = _
    rw [upd_ne (ne_of h0 S.la ins_lst)]; exact h0
  · show upd H z.la _ z.la = _
    rw [upd_same, List.map_append]; rfl
  · show upd H z.la _ z.ld = _
    rw [upd_ne (Ne.symm S.ne)]; exact S.ld
  · show (z.as ++ [x]).Nodup
    refine List.nodup_append.mpr ⟨S.nd, by simp, fun u hu v hv => ?_⟩
    have e : v = x := by simpa using hv
    subst e
    exact fun e => hn (e ▸ hu)
  · have h : (z.as ++ [x])[i]? = some q := h
    by_cases hi : i < z.as.length
    · rw [List.getElem?_append_left hi] at h
      obtain ⟨a', h3, dx', h4⟩ := S.act i q h
      exact ⟨a', by show (s.actors ++ [a])[i]? = _; rw [List.getElem?_append_left (by rw [← S.alen]; exact hi)]; exact h3, dx', by rw [upd_ne (ne_of h4 S.la ins_lst)]; exact h4⟩
    · have hi2 := (List.getElem?_eq_some_iff.mp h).1
      simp at hi2
      have hi3 : i = z.as.length := by omega
      subst hi3
      have e : x = q := by simpa using h
      subst e
      refine ⟨a, ?_, dx, by rw [upd_ne (ne_of hx S.la ins_lst)]; exact hx⟩
      show (s.actors ++ [a])[z.as.length]? = _
      rw [S.alen]
      simp
  · obtain ⟨d, h3, dxd, h4⟩ := S.ded i q h
    exact ⟨d, h3, dxd, by rw [upd_ne (ne_of h4 S.la ins_lst)]; exact h4⟩
theorem StoryAt.addD (S : StoryAt CD CA CS H z s) {x dx : Addr} {d : Vbtaaf.Deed} (hx : H x = some (.ins CD dx (dF d))) :
    StoryAt CD CA CS (upd H z.ld (.lst (z.ds.map V.ref ++ [.ref x]))) ⟨z.st, z.la, z.ld, z.as, z.ds ++ [x]⟩ { s with deeds := s.deeds ++ [d] } := by
  obtain ⟨dxs, h0⟩ := S.st
  refine ⟨⟨dxs, ?_⟩, ?_, ?_, S.ne, S.alen, by simp [S.dlen], S.nd, fun i q h => ?_, fun i q h => ?_⟩
  · show upd H z.ld _ z.st = _
    rw [upd_ne (ne_of h0 S.ld ins_lst)]; exact h0
  · show upd H z.ld _ z.la = _
    rw [upd_ne S.ne]; exact S.la
  · show upd H z.ld _ z.ld = _
    rw [upd_same, List.map_append]; rfl
  · obtain ⟨a', h3, dx', h4⟩ := S.act i q h
    exact ⟨a', h3, dx', by rw [upd_ne (ne_of h4 S.ld ins_lst)]; exact h4⟩
  · have h : (z.ds ++ [x])[i]? = some q := h
    by_cases hi : i < z.ds.length
    · rw [List.getElem?_append_left hi] at h
      obtain ⟨d', h3, dx', h4⟩ := S.ded i q h
      exact ⟨d', by show (s.deeds ++ [d])[i]? = _; rw [List.getElem?_append_left (by rw [← S.dlen]; exact hi)]; exact h3, dx', by rw [upd_ne (ne_of h4 S.ld ins_lst)]; exact h4⟩
    · have hi2 := (List.getElem?_eq_some_iff.mp h).1
      simp at hi2
      have hi3 : i = z.ds.length := by omega
      subst hi3
      have e : x = q := by simpa using h
      subst e
      refine ⟨d, ?_, dx, by rw [upd_ne (ne_of hx S.ld ins_lst)]; exact hx⟩
      show (s.deeds ++ [d])[z.ds.length]? = _
      rw [S.dlen]
      simp
noncomputable def Post (CD CA CS : Addr) (H : Hp) (z : SA) (r : Vbtaaf.State × List Int) (Q : VK) : Prop := ∀ (H' : Hp) (z' : SA) (l : Addr), StoryAt CD CA CS H' z' r.1 → z'.st = z.st → H' l = some (.lst (r.2.map V.int)) → H l = none → ¬ l ∈ foot z' →
  (∀ b ∈ foot z', b ∈ foot z ∨ H b = none) → (∀ b o, H b = some o → ¬ b ∈ foot z → H' b = some o) → Q (.ref l) H'
theorem Post.keep {ans : List Int} {Q : VK} {l : Addr} (k : Post CD CA CS H z (s, ans) Q) (S : StoryAt CD CA CS H z s) (sm : Same H H') (hl : H' l = some (.lst (ans.map V.int))) (hn : H l = none) : Q (.ref l) H' :=
  k H' z l (S.same sm) rfl hl hn (S.fresh hn) (fun b hb => .inl hb) fun b o q _ => sm b o q
structure Told (H : Hp) (z : SA) (nl : Addr) (ns : List Int) : Prop where
  at_ : H nl = some (.lst (ns.map V.int))
  out : ¬ nl ∈ foot z
inductive SpRI (CD CA CS : Addr) (ok : Vbtaaf.State → List Int → Prop) (mk : List Int → Vbtaaf.Call) (vs : List V) (H : Hp) (Q : VK) : Prop
  | mk (z : SA) (s : Vbtaaf.State) (nl : Addr) (ns : List Int) (h1 : vs = [.ref z.st, .ref nl]) (h2 : StoryAt CD CA CS H z s) (h3 : My.SOk s) (h4 : Told H z nl ns) (h5 : ok s ns) (h6 : Post CD CA CS H z (Vbtaaf.step s (mk ns)) Q) : SpRI CD CA CS ok mk vs H Q
noncomputable def spR (CD CA CS : Addr) (ok : Vbtaaf.State → List Int → Prop) (mk : List Int → Vbtaaf.Call) : Sp := fun vs H Q _ => SpRI CD CA CS ok mk vs H Q
theorem at0 {a : V} {r : List V} : atI (a :: r) 0 = some a := at_of (j := 0) rfl rfl
theorem at1 {a b : V} {r : List V} : atI (a :: b :: r) 1 = some b := at_of (j := 1) rfl rfl
theorem at2 {a b c : V} {r : List V} : atI (a :: b :: c :: r) 2 = some c := at_of (j := 2) rfl rfl
theorem at3 {a b c d : V} {r : List V} : atI (a :: b :: c :: d :: r) 3 = some d := at_of (j := 3) rfl rfl
theorem at4 {a b c d e : V} {r : List V} : atI (a :: b :: c :: d :: e :: r) 4 = some e := at_of (j := 4) rfl rfl
theorem nat_of {n : Int} (h : 0 ≤ n) : ∃ m : Nat, n = (m : Int) := ⟨n.toNat, by omega⟩
end
end Ap
end
section
set_option Elab.async false
set_option linter.all false
set_option maxRecDepth 100000
set_option maxHeartbeats 4000000
namespace Ap
open PySem PySem.Spec PyProof.Rows L2
noncomputable abbrev sRFacts : Stmt := top 38
noncomputable abbrev sRDeed : Stmt := top 39
noncomputable abbrev sRActor : Stmt := top 40
noncomputable abbrev sRWorld : Stmt := top 41
noncomputable abbrev sRTell : Stmt := top 42
noncomputable abbrev sRGoal : Stmt := top 43
noncomputable abbrev sRPlan : Stmt := top 44
noncomputable abbrev sRFar : Stmt := top 45
noncomputable abbrev sRProof : Stmt := top 46
noncomputable abbrev sRCheck : Stmt := top 47
noncomputable abbrev sRFollow : Stmt := top 48
noncomputable abbrev sRTurn : Stmt := top 49
noncomputable abbrev sRRounds : Stmt := top 50
noncomputable abbrev sRBelief : Stmt := top 51
noncomputable abbrev sRState : Stmt := top 52
noncomputable abbrev sRDeeds : Stmt := top 53
noncomputable abbrev sTurn : Stmt := top 27
noncomputable abbrev sRound : Stmt := top 28
noncomputable abbrev sRounds : Stmt := top 29
noncomputable abbrev sReply : Stmt := top 55
noncomputable abbrev sAnswers : Stmt := top 57
structure Ty (mg : Str → Option Value) : Prop where
  NOT_IN_RANGE : ∃ t, mg "NOT_IN_RANGE" = some (.int (-1) t)
  BOTH_WAYS : ∃ t, mg "BOTH_WAYS" = some (.int (-2) t)
  NOT_THE_TIME : ∃ t, mg "NOT_THE_TIME" = some (.int (-3) t)
  NOT_SO : ∃ t, mg "NOT_SO" = some (.int (-4) t)
  NO_PLACE : ∃ t, mg "NO_PLACE" = some (.int (-5) t)
  MOST_DEEDS : ∃ t, mg "MOST_DEEDS" = some (.int 24 t)
  MOST_ACTORS : ∃ t, mg "MOST_ACTORS" = some (.int 4 t)
  MOST_FACTS : ∃ t, mg "MOST_FACTS" = some (.int 6 t)
  MOST_ROUNDS : ∃ t, mg "MOST_ROUNDS" = some (.int 20 t)
  CONTENT : ∃ t, mg "CONTENT" = some (.int 0 t)
  NO_PLAN : ∃ t, mg "NO_PLAN" = some (.int 1 t)
  DONE : ∃ t, mg "DONE" = some (.int 2 t)
  STOPPED : ∃ t, mg "STOPPED" = some (.int 3 t)
section
variable {P : Program} {w : World} {K : PySem.W.Frag} {mg : Str → Option Value} {base : Heap} {CD CA CS : Addr}
theorem one_le : 1 ≤ sizeLine := by decide
theorem two_le : 2 ≤ sizeLine := by decide
noncomputable def okFacts (s : Vbtaaf.State) (ns : List Int) : Prop := ∃ n : Nat, ns = [(n : Int)] ∧ n ≤ 6
noncomputable def mkFacts : List Int → Vbtaaf.Call | [n] => .facts n | _ => .state
theorem scRFacts : FnScope ["story", "numbers"] ["story", "numbers"] (defScope sRFacts) := ⟨rfl, rfl, rfl, by decide +kernel, rfl, by decide +kernel, by decide +kernel⟩
noncomputable def wRFacts1 (K : PySem.W.Frag) (CD CA CS : Addr) : TS := tRet (tLst (tCons (tC (.int (-3))) tNil))
noncomputable def wRFacts2 (K : PySem.W.Frag) (CD CA CS : Addr) : TS := tIfS (tOr (tTru K (tFld K (tVar 0) "actors")) (tTru K (tFld K (tVar 0) "deeds"))) (wRFacts1 K CD CA CS) tNext
noncomputable def wRFacts3 (K : PySem.W.Frag) (CD CA CS : Addr) : TS := sFld K (tVar 0) (tOp (rIxL K) (tVar 1) (tC (.int 0))) "facts"
noncomputable def wRFacts4 (K : PySem.W.Frag) (CD CA CS : Addr) : TS := sFld K (tVar 0) (tC (.int 0)) "world"
noncomputable def wRFacts5 (K : PySem.W.Frag) (CD CA CS : Addr) : TS := tRet (tLst (tCons (tC (.int 0)) tNil))
noncomputable def wRFacts6 (K : PySem.W.Frag) (CD CA CS : Addr) : TS := tSeq (wRFacts4 K CD CA CS) (wRFacts5 K CD CA CS)
noncomputable def wRFacts7 (K : PySem.W.Frag) (CD CA CS : Addr) : TS := tSeq (wRFacts3 K CD CA CS) (wRFacts6 K CD CA CS)
noncomputable def wRFacts8 (K : PySem.W.Frag) (CD CA CS : Addr) : TS := tSeq (wRFacts2 K CD CA CS) (wRFacts7 K CD CA CS)
theorem ok_rFacts {f : Addr} {fd : FuncData} (F : Fun K "reply_facts" "reply_facts" sRFacts f fd) (T : Tx K mg CD CA CS) (U : Ty mg) : FnOk P w K mg base CX0 1 f fd ["story", "numbers"] (spR CD CA CS okFacts mkFacts) := by
  have sc := scRFacts
  obtain ⟨t3, g3⟩ := U.NOT_THE_TIME
  refine F.ok sc (fun vs H Q E h => ?_) (fun cdv A outer s0 H vs Q E hr h => ?_)
  · obtain ⟨z, s, nl, ns, rfl, _⟩ := h
    rfl
  · obtain ⟨z, s, nl, ns, rfl, S, hs, ⟨hnl, hno⟩, ⟨n, rfl, hn⟩, k⟩ := h
    obtain ⟨dxS, hst⟩ := S.st
    have k : Post CD CA CS H z (Vbtaaf.step s (.facts n)) Q := k
    refine ⟨(wRFacts8 K CD CA CS), (pss_cons
      (ps_if (PW.pt (pw_or (pt_truth (pe_fld (pv 0) rfl) (fun _ => rfl)) (pw_or1 (pt_truth (pe_fld (pv 0) rfl) (fun _ => rfl)))))
        (pss_one
          (ps_ret (pe_lst (pa_cons (pe_glob (v := .int (-3)) rfl g3 ⟨_, rfl⟩) pa_nil))))
        pss_nil)
    (pss_cons
      (ps_fld (pv 0) (pe_ix ix_list (pv 1) pe_int (fun _ _ => rfl)) rfl)
    (pss_cons
      (ps_fld (pv 0) pe_int rfl)
    (pss_one
      (ps_ret (pe_lst (pa_cons pe_int pa_nil))))))), ?_⟩
    have again : ∀ l, H l = none → (s.deeds ≠ [] ∨ s.actors ≠ []) → Q (.ref l) (upd H l (.lst [.int (-3)])) := fun l hl h => by
      rw [My.step_facts3 hn h] at k
      exact k.keep S (same_upd same_refl hl) upd_same hl
    refine ⟨_, rfl, z.st, CS, dxS, _, _, rfl, hst, T.cStory, T.sActors, sF_actors _ _ _ _, _, ⟨_, SqL.of S.la, rfl⟩, iteB (fun hA => ?_) (fun hA => ?_)⟩
    · refine iteT ⟨one_le, fun l hl => again l hl (.inr fun e => ?_)⟩
      have hl0 : z.as = [] := List.eq_nil_of_length_eq_zero (by rw [S.alen, e]; rfl)
      rw [hl0] at hA
      cases hA
    · have eA : s.actors = [] := by
        have : z.as = [] := by simpa using hA
        exact List.eq_nil_of_length_eq_zero (by rw [← S.alen, this]; rfl)
      refine ⟨_, rfl, z.st, CS, dxS, _, _, rfl, hst, T.cStory, T.sDeeds, sF_deeds _ _ _ _, _, ⟨_, SqL.of S.ld, rfl⟩, iteB (fun hD => ?_) (fun hD => ?_)⟩
      · refine ⟨one_le, fun l hl => again l hl (.inl fun e => ?_)⟩
        have hl0 : z.ds = [] := List.eq_nil_of_length_eq_zero (by rw [S.dlen, e]; rfl)
        rw [hl0] at hD
        cases hD
      · have eD : s.deeds = [] := by
          have : z.ds = [] := by simpa using hD
          exact List.eq_nil_of_length_eq_zero (by rw [← S.dlen, this]; rfl)
        rw [My.step_facts hn eD eA] at k
        refine ⟨_, rfl, nl, _, _, _, rfl, rfl, SqL.of hnl, at0, _, rfl, z.st, CS, dxS, _, rfl, hst, T.cStory, T.sFacts, (by show 4 < 1000; decide), ?_⟩
        rw [sF_put_facts]
        refine ⟨_, rfl, z.st, CS, dxS, _, rfl, upd_same, T.cStory, T.sWorld, (by show 4 < 1000; decide), ?_⟩
        rw [upd_upd, show putF "world" (V.int 0) (sF n s.world z.la z.ld) = sF n 0 z.la z.ld from sF_put_world n s.world z.la z.ld 0]
        refine ⟨one_le, fun l hl => ?_⟩
        have hl' : H l = none := by
          have : l ≠ z.st := fun e => by rw [e, upd_same] at hl; cases hl
          rw [upd_ne this] at hl
          exact hl
        have S2 := S.setS (dx := dxS) (n := n) (v := 0)
        refine k _ z l (S2.same (same_upd same_refl hl)) rfl upd_same hl' (S.fresh hl') (fun b hb => .inl hb) fun b o q hb => ?_
        rw [upd_ne (ne_of_none q hl'), upd_ne (fun e => hb (foot_mem.mpr (.inl e)))]
        exact q
noncomputable def okDeed (s : Vbtaaf.State) (ns : List Int) : Prop := ∃ p a b c d : Nat, ns = [(p : Int), (a : Int), (b : Int), (c : Int), (d : Int)] ∧ p < s.actors.length ∧ a < 2 ^ s.facts ∧ b < 2 ^ s.facts ∧ c < 2 ^ s.facts ∧ d < 2 ^ s.facts
noncomputable def mkDeed : List Int → Vbtaaf.Call | [p, a, b, c, d] => .deed p a b c d | _ => .state
theorem scRDeed : FnScope ["story", "numbers", "deed"] ["story", "numbers"] (defScope sRDeed) := ⟨rfl, rfl, rfl, by decide +kernel, rfl, by decide +kernel, by decide +kernel⟩
theorem ne0 {a : Nat} : ((a : Int) != 0) = decide (a ≠ 0) := by
  by_cases h : a = 0
  · subst h
    rfl
  · rw [decide_eq_true h]
    simpa using h
noncomputable def wRDeed1 (K : PySem.W.Frag) (CD CA CS : Addr) : TS := tAsg (tMake CD (spDeedInit CD) [] E0 (tCons (tOp (rIxL K) (tVar 1) (tC (.int 0))) (tCons (tOp (rIxL K) (tVar 1) (tC (.int 1))) (tCons (tOp (rIxL K) (tVar 1) (tC (.int 2))) (tCons (tOp (rIxL K) (tVar 1) (tC (.int 3))) (tCons (tOp (rIxL K) (tVar 1) (tC (.int 4))) tNil)))))) (gName 2)
noncomputable def wRDeed2 (K : PySem.W.Frag) (CD CA CS : Addr) : TS := tRet (tLst (tCons (tC (.int (-2))) tNil))
noncomputable def wRDeed3 (K : PySem.W.Frag) (CD CA CS : Addr) : TS := tIfS (tOr (tTru K (tOp (rI0 fun i j => V.int (Builtin.bitAnd i j)) (tFld K (tVar 2) "must") (tFld K (tVar 2) "must_not"))) (tTru K (tOp (rI0 fun i j => V.int (Builtin.bitAnd i j)) (tFld K (tVar 2) "become") (tFld K (tVar 2) "cease")))) (wRDeed2 K CD CA CS) tNext
noncomputable def wRDeed4 (K : PySem.W.Frag) (CD CA CS : Addr) : TS := tRet (tLst (tCons (tC (.int (-5))) tNil))
noncomputable def wRDeed5 (K : PySem.W.Frag) (CD CA CS : Addr) : TS := tIfS (tTest (tOp (rEq) (tCB (LenI K) (tCons (tFld K (tVar 0) "deeds") tNil)) (tC (.int 24)))) (wRDeed4 K CD CA CS) tNext
noncomputable def wRDeed6 (K : PySem.W.Frag) (CD CA CS : Addr) : TS := tDrop (tBM K "list" rAppend (tFld K (tVar 0) "deeds") (tCons (tVar 2) tNil))
noncomputable def wRDeed7 (K : PySem.W.Frag) (CD CA CS : Addr) : TS := tRet (tLst (tCons (tC (.int 0)) (tCons (tOp (rI0 fun i j => V.int (i - j)) (tCB (LenI K) (tCons (tFld K (tVar 0) "deeds") tNil)) (tC (.int 1))) tNil)))
noncomputable def wRDeed8 (K : PySem.W.Frag) (CD CA CS : Addr) : TS := tSeq (wRDeed6 K CD CA CS) (wRDeed7 K CD CA CS)
noncomputable def wRDeed9 (K : PySem.W.Frag) (CD CA CS : Addr) : TS := tSeq (wRDeed5 K CD CA CS) (wRDeed8 K CD CA CS)
noncomputable def wRDeed10 (K : PySem.W.Frag) (CD CA CS : Addr) : TS := tSeq (wRDeed3 K CD CA CS) (wRDeed9 K CD CA CS)
noncomputable def wRDeed11 (K : PySem.W.Frag) (CD CA CS : Addr) : TS := tSeq (wRDeed1 K CD CA CS) (wRDeed10 K CD CA CS)
theorem ok_rDeed {f : Addr} {fd : FuncData} {k : Nat} (F : Fun K "reply_deed" "reply_deed" sRDeed f fd) (T : Tx K mg CD CA CS) (U : Ty mg) (hC : OwnC P w K mg base "Deed" CD ["self", "actor", "must", "must_not", "become", "cease"] k (spDeedInit CD)) :
    FnOk P w K mg base CX0 (k + 2) f fd ["story", "numbers"] (spR CD CA CS okDeed mkDeed) := by
  have sc := scRDeed
  obtain ⟨t2, g2⟩ := U.BOTH_WAYS
  obtain ⟨t5, g5⟩ := U.NO_PLACE
  obtain ⟨t24, g24⟩ := U.MOST_DEEDS
  obtain ⟨_, _, G_Deed, b_Deed, M_Deed, m_Deed⟩ := hC
  refine F.ok sc (fun vs H Q E h => ?_) (fun cdv A outer s0 H vs Q E hr h => ?_)
  · obtain ⟨z, s, nl, ns, rfl, _⟩ := h
    rfl
  · obtain ⟨z, s, nl, ns, rfl, S, hs, ⟨hnl, hno⟩, ⟨p, a, b, c, d, rfl, hp, ha, hb, hc, hd⟩, k⟩ := h
    obtain ⟨dxS, hst⟩ := S.st
    have k : Post CD CA CS H z (Vbtaaf.step s (.deed p a b c d)) Q := k
    refine ⟨(wRDeed11 K CD CA CS), (pss_cons
      (ps_set (i := 2) sc.nd rfl (Or.inl rfl) (pe_make M_Deed G_Deed hr rfl m_Deed b_Deed .nil pass0 (pa_cons (pe_ix ix_list (pv 1) pe_int (fun _ _ => rfl)) (pa_cons (pe_ix ix_list (pv 1) pe_int (fun _ _ => rfl)) (pa_cons (pe_ix ix_list (pv 1) pe_int (fun _ _ => rfl)) (pa_cons (pe_ix ix_list (pv 1) pe_int (fun _ _ => rfl)) (pa_cons (pe_ix ix_list (pv 1) pe_int (fun _ _ => rfl)) pa_nil)))))))
    (pss_cons
      (ps_if (PW.pt (pw_or (pt_truth (pe_op op_and (pe_fld (pv 2) rfl) (pe_fld (pv 2) rfl)) (fun _ => rfl)) (pw_or1 (pt_truth (pe_op op_and (pe_fld (pv 2) rfl) (pe_fld (pv 2) rfl)) (fun _ => rfl)))))
        (pss_one
          (ps_ret (pe_lst (pa_cons (pe_glob (v := .int (-2)) rfl g2 ⟨_, rfl⟩) pa_nil))))
        pss_nil)
    (pss_cons
      (ps_if (pt_cmpR op_eq (pe_callB call_len_seq (by rfl) T.len PySem.boot_len (pa_cons (pe_fld (pv 0) rfl) pa_nil)) (pe_glob (v := .int 24) rfl g24 ⟨_, rfl⟩) (nomark _))
        (pss_one
          (ps_ret (pe_lst (pa_cons (pe_glob (v := .int (-5)) rfl g5 ⟨_, rfl⟩) pa_nil))))
        pss_nil)
    (pss_cons
      (ps_expr (pe_bm PySem.F.plainAttrs_list PySem.F.slot_list_append PySem.F.type_list_append mt_append (pe_fld (pv 0) rfl) (pa_cons (pv 2) pa_nil)))
    (pss_one
      (ps_ret (pe_lst (pa_cons pe_int (pa_cons (pe_op op_sub (pe_callB call_len_seq (by rfl) T.len PySem.boot_len (pa_cons (pe_fld (pv 0) rfl) pa_nil)) pe_int) pa_nil))))))))), ?_⟩
    have hq := SqL.of (K := K) hnl
    refine ⟨_, rfl, nl, _, _, _, rfl, rfl, hq, at0, _, rfl, nl, _, _, _, rfl, rfl, hq, at1, _, rfl, nl, _, _, _, rfl, rfl, hq, at2, _, rfl, nl, _, _, _, rfl, rfl, hq, at3, _, rfl, nl, _, _, _, rfl, rfl, hq, at4, ?_⟩
    intro x dx hx hdx hne
    refine ⟨x, dx, ⟨p, a, b, c, d⟩, rfl, upd_same, rfl, ?_⟩
    rw [upd_upd]
    generalize eH : upd (upd H dx (.own x)) x (.ins CD dx (dF ⟨p, a, b, c, d⟩)) = H1
    have hx1 : H1 x = some (.ins CD dx (dF ⟨p, a, b, c, d⟩)) := by rw [← eH, upd_same]
    have sm : Same H H1 := fun b o q => by
      rw [← eH, upd_ne (ne_of_none q hx), upd_ne (ne_of_none q hdx)]
      exact q
    have S1 := S.same sm
    have hst1 := sm _ _ hst
    -- told both ways
    refine ⟨_, rfl, x, CD, dx, _, _, rfl, hx1, T.cDeed, T.dMust, dF_must _, _, rfl, x, CD, dx, _, _, rfl, hx1, T.cDeed, T.dMustNot, dF_must_not _, _, _, rfl, rfl, _, rfl, ?_⟩
    dsimp only
    rw [bAnd, ne0]
    have no2 : (a &&& b ≠ 0 ∨ c &&& d ≠ 0) → ∀ l, H1 l = none → Q (.ref l) (upd H1 l (.lst [.int (-2)])) := fun h l hl => by
      rw [My.step_deed2 hp ha hb hc hd h] at k
      exact k.keep S (same_upd sm hl) upd_same (Same.none sm hl)
    refine iteD (fun h1 => iteT ⟨one_le, fun l hl => no2 (.inl h1) l hl⟩) (fun h1 => ?_)
    refine ⟨_, rfl, x, CD, dx, _, _, rfl, hx1, T.cDeed, T.dBecome, dF_become _, _, rfl, x, CD, dx, _, _, rfl, hx1, T.cDeed, T.dCease, dF_cease _, _, _, rfl, rfl, _, rfl, ?_⟩
    dsimp only
    rw [bAnd, ne0]
    refine iteD (fun h2 => ⟨one_le, fun l hl => no2 (.inr h2) l hl⟩) (fun h2 => ?_)
    have h1 : a &&& b = 0 := Classical.byContradiction h1
    have h2 : c &&& d = 0 := Classical.byContradiction h2
    -- no place
    refine ⟨_, rfl, z.st, CS, dxS, _, _, rfl, hst1, T.cStory, T.sDeeds, sF_deeds _ _ _ _, z.ld, _, rfl, .inl (SqL.of S1.ld), rfl, _, rfl, iteD (fun h3 => ⟨one_le, fun l hl => ?_⟩) (fun h3 => ?_)⟩
    · have h3 := V.int.inj h3
      rw [List.length_map, S.dlen] at h3
      rw [My.step_deed5 hp ha hb hc hd h1 h2 (by omega)] at k
      exact k.keep S (same_upd sm hl) upd_same (Same.none sm hl)
    have h3' : s.deeds.length ≠ 24 := fun e => h3 (by rw [List.length_map, S.dlen, e]; rfl)
    have hlen := hs.dlen
    rw [My.step_deed hp ha hb hc hd h1 h2 (by omega)] at k
    -- story.deeds.append(deed)
    refine ⟨_, rfl, z.st, CS, dxS, _, _, rfl, hst1, T.cStory, T.sDeeds, sF_deeds _ _ _ _, ⟨rfl, _, SqL.of S1.ld⟩, _, rfl, z.ld, _, _, rfl, rfl, S1.ld, (by rw [List.length_map, S.dlen, sizeLine_eq]; omega), ?_⟩
    have S2 := S1.addD hx1
    have hst2 := S2.st
    obtain ⟨dx2, hst2⟩ := hst2
    refine ⟨_, rfl, z.st, CS, dx2, _, _, rfl, hst2, T.cStory, T.sDeeds, sF_deeds _ _ _ _, z.ld, _, rfl, .inl (SqL.of S2.ld), _, _, rfl, rfl, two_le, fun l hl => ?_⟩
    have hl1 : H1 l = none := by
      have : l ≠ z.ld := fun e => by rw [e, upd_same] at hl; cases hl
      rw [upd_ne this] at hl
      exact hl
    have hl0 := Same.none sm hl1
    refine k _ ⟨z.st, z.la, z.ld, z.as, z.ds ++ [x]⟩ l (S2.same (same_upd same_refl hl)) rfl ?_ hl0 (S.fresh hl0) (fun b hb => .inl hb) fun b o q hb => ?_
    · rw [upd_same]
      have e : (((z.ds ++ [x]).map V.ref).length : Int) - 1 = (s.deeds.length : Int) := by
        rw [List.length_map, List.length_append, S.dlen]
        simp
      show some (HO.lst [V.int 0, V.int ((((z.ds ++ [x]).map V.ref).length : Int) - 1)]) = _
      rw [e]
      rfl
    · rw [upd_ne (ne_of_none q hl0), upd_ne (fun e => hb (foot_mem.mpr (.inr (.inr (.inl e)))))]
      exact sm b o q
end
end Ap
end
section
set_option Elab.async false
set_option linter.all false
set_option maxRecDepth 100000
set_option maxHeartbeats 4000000
namespace Ap
open PySem PySem.Spec PyProof.Rows L2
section
variable {P : Program} {w : World} {K : PySem.W.Frag} {mg : Str → Option Value} {base : Heap} {CD CA CS : Addr}
noncomputable def okActor (s : Vbtaaf.State) (ns : List Int) : Prop := ∃ a b c : Nat, ns = [(a : Int), (b : Int), (c : Int)] ∧ a < 2 ^ s.facts ∧ b < 2 ^ s.facts ∧ c < 2 ^ s.facts
noncomputable def mkActor : List Int → Vbtaaf.Call | [a, b, c] => .actor a b c | _ => .state
theorem scRActor : FnScope ["story", "numbers", "actor"] ["story", "numbers"] (defScope sRActor) := ⟨rfl, rfl, rfl, by decide +kernel, rfl, by decide +kernel, by decide +kernel⟩
theorem corrected_new {n a v : Nat} : Vbtaaf.corrected n a v 0 = v &&& a := by
  unfold Vbtaaf.corrected Vbtaaf.without
  rw [Nat.zero_and, Nat.zero_or]
noncomputable def wRActor1 (K : PySem.W.Frag) (CD CA CS : Addr) : TS := tAsg (tMake CA (spActInit CA) [] E0 (tCons (tOp (rIxL K) (tVar 1) (tC (.int 0))) (tCons (tOp (rIxL K) (tVar 1) (tC (.int 1))) (tCons (tOp (rIxL K) (tVar 1) (tC (.int 2))) tNil)))) (gName 2)
noncomputable def wRActor2 (K : PySem.W.Frag) (CD CA CS : Addr) : TS := tRet (tLst (tCons (tC (.int (-2))) tNil))
noncomputable def wRActor3 (K : PySem.W.Frag) (CD CA CS : Addr) : TS := tIfS (tTru K (tOp (rI0 fun i j => V.int (Builtin.bitAnd i j)) (tFld K (tVar 2) "goal") (tFld K (tVar 2) "goal_not"))) (wRActor2 K CD CA CS) tNext
noncomputable def wRActor4 (K : PySem.W.Frag) (CD CA CS : Addr) : TS := tRet (tLst (tCons (tC (.int (-5))) tNil))
noncomputable def wRActor5 (K : PySem.W.Frag) (CD CA CS : Addr) : TS := tIfS (tTest (tOp (rEq) (tCB (LenI K) (tCons (tFld K (tVar 0) "actors") tNil)) (tC (.int 4)))) (wRActor4 K CD CA CS) tNext
noncomputable def wRActor6 (K : PySem.W.Frag) (CD CA CS : Addr) : TS := tDrop (tMeth CA "look" (spLook CA) [] E0 (tVar 2) (tCons (tFld K (tVar 0) "world") tNil))
noncomputable def wRActor7 (K : PySem.W.Frag) (CD CA CS : Addr) : TS := tDrop (tBM K "list" rAppend (tFld K (tVar 0) "actors") (tCons (tVar 2) tNil))
noncomputable def wRActor8 (K : PySem.W.Frag) (CD CA CS : Addr) : TS := tRet (tLst (tCons (tC (.int 0)) (tCons (tOp (rI0 fun i j => V.int (i - j)) (tCB (LenI K) (tCons (tFld K (tVar 0) "actors") tNil)) (tC (.int 1))) tNil)))
noncomputable def wRActor9 (K : PySem.W.Frag) (CD CA CS : Addr) : TS := tSeq (wRActor7 K CD CA CS) (wRActor8 K CD CA CS)
noncomputable def wRActor10 (K : PySem.W.Frag) (CD CA CS : Addr) : TS := tSeq (wRActor6 K CD CA CS) (wRActor9 K CD CA CS)
noncomputable def wRActor11 (K : PySem.W.Frag) (CD CA CS : Addr) : TS := tSeq (wRActor5 K CD CA CS) (wRActor10 K CD CA CS)
noncomputable def wRActor12 (K : PySem.W.Frag) (CD CA CS : Addr) : TS := tSeq (wRActor3 K CD CA CS) (wRActor11 K CD CA CS)
noncomputable def wRActor13 (K : PySem.W.Frag) (CD CA CS : Addr) : TS := tSeq (wRActor1 K CD CA CS) (wRActor12 K CD CA CS)
theorem ok_rActor {f : Addr} {fd : FuncData} {k : Nat} (F : Fun K "reply_actor" "reply_actor" sRActor f fd) (T : Tx K mg CD CA CS) (U : Ty mg) (hC : OwnC P w K mg base "Actor" CA ["self", "sees", "goal", "goal_not"] k (spActInit CA))
    (hL : OwnM P w K mg base CA "look" ["self", "world"] (k + 1) (spLook CA)) : FnOk P w K mg base CX0 (k + 2) f fd ["story", "numbers"] (spR CD CA CS okActor mkActor) := by
  have sc := scRActor
  obtain ⟨t2, g2⟩ := U.BOTH_WAYS
  obtain ⟨t5, g5⟩ := U.NO_PLACE
  obtain ⟨t4, g4⟩ := U.MOST_ACTORS
  obtain ⟨_, _, G_Actor, b_Actor, M_Actor, m_Actor⟩ := hC
  obtain ⟨_, _, G_look, b_look, t_look⟩ := hL
  refine F.ok sc (fun vs H Q E h => ?_) (fun cdv A outer s0 H vs Q E hr h => ?_)
  · obtain ⟨z, s, nl, ns, rfl, _⟩ := h
    rfl
  · obtain ⟨z, s, nl, ns, rfl, S, hs, ⟨hnl, hno⟩, ⟨a, b, c, rfl, ha, hb, hc⟩, k⟩ := h
    obtain ⟨dxS, hst⟩ := S.st
    have k : Post CD CA CS H z (Vbtaaf.step s (.actor a b c)) Q := k
    refine ⟨(wRActor13 K CD CA CS), (pss_cons
      (ps_set (i := 2) sc.nd rfl (Or.inl rfl) (pe_make M_Actor G_Actor hr rfl m_Actor b_Actor .nil pass0 (pa_cons (pe_ix ix_list (pv 1) pe_int (fun _ _ => rfl)) (pa_cons (pe_ix ix_list (pv 1) pe_int (fun _ _ => rfl)) (pa_cons (pe_ix ix_list (pv 1) pe_int (fun _ _ => rfl)) pa_nil)))))
    (pss_cons
      (ps_if (pt_truth (pe_op op_and (pe_fld (pv 2) rfl) (pe_fld (pv 2) rfl)) (fun _ => rfl))
        (pss_one
          (ps_ret (pe_lst (pa_cons (pe_glob (v := .int (-2)) rfl g2 ⟨_, rfl⟩) pa_nil))))
        pss_nil)
    (pss_cons
      (ps_if (pt_cmpR op_eq (pe_callB call_len_seq (by rfl) T.len PySem.boot_len (pa_cons (pe_fld (pv 0) rfl) pa_nil)) (pe_glob (v := .int 4) rfl g4 ⟨_, rfl⟩) (nomark _))
        (pss_one
          (ps_ret (pe_lst (pa_cons (pe_glob (v := .int (-5)) rfl g5 ⟨_, rfl⟩) pa_nil))))
        pss_nil)
    (pss_cons
      (ps_expr (pe_meth (pv 2) T.cActor t_look G_look hr b_look .nil pass0 (pa_cons (pe_fld (pv 0) rfl) pa_nil)))
    (pss_cons
      (ps_expr (pe_bm PySem.F.plainAttrs_list PySem.F.slot_list_append PySem.F.type_list_append mt_append (pe_fld (pv 0) rfl) (pa_cons (pv 2) pa_nil)))
    (pss_one
      (ps_ret (pe_lst (pa_cons pe_int (pa_cons (pe_op op_sub (pe_callB call_len_seq (by rfl) T.len PySem.boot_len (pa_cons (pe_fld (pv 0) rfl) pa_nil)) pe_int) pa_nil)))))))))), ?_⟩
    have hq := SqL.of (K := K) hnl
    refine ⟨_, rfl, nl, _, _, _, rfl, rfl, hq, at0, _, rfl, nl, _, _, _, rfl, rfl, hq, at1, _, rfl, nl, _, _, _, rfl, rfl, hq, at2, ?_⟩
    intro x dx hx hdx hne
    refine ⟨x, dx, a, b, c, rfl, upd_same, rfl, ?_⟩
    rw [upd_upd]
    generalize eH : upd (upd H dx (.own x)) x (.ins CA dx (aF ⟨a, b, c, 0⟩)) = H1
    have hx1 : H1 x = some (.ins CA dx (aF ⟨a, b, c, 0⟩)) := by rw [← eH, upd_same]
    have sm : Same H H1 := fun b o q => by
      rw [← eH, upd_ne (ne_of_none q hx), upd_ne (ne_of_none q hdx)]
      exact q
    have S1 := S.same sm
    have hst1 := sm _ _ hst
    refine ⟨_, rfl, x, CA, dx, _, _, rfl, hx1, T.cActor, T.aGoal, aF_goal _, _, rfl, x, CA, dx, _, _, rfl, hx1, T.cActor, T.aGoalNot, aF_goal_not _, _, _, rfl, rfl, _, rfl, ?_⟩
    dsimp only
    rw [bAnd, ne0]
    refine iteD (fun h1 => ⟨one_le, fun l hl => ?_⟩) (fun h1 => ?_)
    · rw [My.step_actor2 ha hb hc h1] at k
      exact k.keep S (same_upd sm hl) upd_same (Same.none sm hl)
    have h1 : b &&& c = 0 := Classical.byContradiction h1
    refine ⟨_, rfl, z.st, CS, dxS, _, _, rfl, hst1, T.cStory, T.sActors, sF_actors _ _ _ _, z.la, _, rfl, .inl (SqL.of S1.la), rfl, _, rfl, iteD (fun h3 => ⟨one_le, fun l hl => ?_⟩) (fun h3 => ?_)⟩
    · have h3 := V.int.inj h3
      rw [List.length_map, S.alen] at h3
      rw [My.step_actor5 ha hb hc h1 (by omega)] at k
      exact k.keep S (same_upd sm hl) upd_same (Same.none sm hl)
    have h3' : s.actors.length ≠ 4 := fun e => h3 (by rw [List.length_map, S.alen, e]; rfl)
    have hlen := hs.alen
    rw [My.step_actor ha hb hc h1 (by omega)] at k
    -- actor.look(story.world)
    refine ⟨_, rfl, x, dx, _, rfl, hx1, aF_look _, _, rfl, z.st, CS, dxS, _, _, rfl, hst1, T.cStory, T.sWorld, sF_world _ _ _ _, ?_⟩
    refine ⟨x, dx, ⟨a, b, c, 0⟩, s.facts, s.world, rfl, hx1, hs.facts, ha, Nat.two_pow_pos _, ?_⟩
    rw [show ({ (⟨a, b, c, 0⟩ : Vbtaaf.Actor) with belief := Vbtaaf.corrected s.facts (⟨a, b, c, 0⟩ : Vbtaaf.Actor).sight s.world (⟨a, b, c, 0⟩ : Vbtaaf.Actor).belief } : Vbtaaf.Actor) = ⟨a, b, c, s.world &&& a⟩ by rw [corrected_new]]
    generalize eH2 : upd H1 x (.ins CA dx (aF ⟨a, b, c, s.world &&& a⟩)) = H2
    have hx2 : H2 x = some (.ins CA dx (aF ⟨a, b, c, s.world &&& a⟩)) := by rw [← eH2, upd_same]
    have sm2 : Same H H2 := fun b o q => by
      rw [← eH2, upd_ne (ne_of_none q hx)]
      exact sm b o q
    have S2 := S.same sm2
    have hst2 := sm2 _ _ hst
    have hxn : ¬ x ∈ z.as := fun q => S.fresh hx (foot_mem.mpr (.inr (.inr (.inr q))))
    -- story.actors.append(actor)
    refine ⟨_, rfl, z.st, CS, dxS, _, _, rfl, hst2, T.cStory, T.sActors, sF_actors _ _ _ _, ⟨rfl, _, SqL.of S2.la⟩, _, rfl, z.la, _, _, rfl, rfl, S2.la, (by rw [List.length_map, S.alen, sizeLine_eq]; omega), ?_⟩
    have S3 := S2.addA hx2 hxn
    obtain ⟨dx3, hst3⟩ := S3.st
    refine ⟨_, rfl, z.st, CS, dx3, _, _, rfl, hst3, T.cStory, T.sActors, sF_actors _ _ _ _, z.la, _, rfl, .inl (SqL.of S3.la), _, _, rfl, rfl, two_le, fun l hl => ?_⟩
    have hl1 : H2 l = none := by
      have : l ≠ z.la := fun e => by rw [e, upd_same] at hl; cases hl
      rw [upd_ne this] at hl
      exact hl
    have hl0 := Same.none sm2 hl1
    have hlx : l ≠ x := fun e => by rw [e, hx2] at hl1; cases hl1
    refine k _ ⟨z.st, z.la, z.ld, z.as ++ [x], z.ds⟩ l (S3.same (same_upd same_refl hl)) rfl ?_ hl0 ?_ (fun b hb => ?_) fun b o q hb => ?_
    · rw [upd_same]
      have e : (((z.as ++ [x]).map V.ref).length : Int) - 1 = (s.actors.length : Int) := by
        rw [List.length_map, List.length_append, S.alen]
        simp
      show some (HO.lst [V.int 0, V.int ((((z.as ++ [x]).map V.ref).length : Int) - 1)]) = _
      rw [e]
      rfl
    · intro q
      rcases foot_mem.mp q with q | q | q | q
      · exact S.fresh hl0 (foot_mem.mpr (.inl q))
      · exact S.fresh hl0 (foot_mem.mpr (.inr (.inl q)))
      · exact S.fresh hl0 (foot_mem.mpr (.inr (.inr (.inl q))))
      · rcases List.mem_append.mp q with q | q
        · exact S.fresh hl0 (foot_mem.mpr (.inr (.inr (.inr q))))
        · exact hlx (by simpa using q)
    · rcases foot_mem.mp hb with q | q | q | q
      · exact .inl (foot_mem.mpr (.inl q))
      · exact .inl (foot_mem.mpr (.inr (.inl q)))
      · exact .inl (foot_mem.mpr (.inr (.inr (.inl q))))
      · rcases List.mem_append.mp q with q | q
        · exact .inl (foot_mem.mpr (.inr (.inr (.inr q))))
        · have e : b = x := by simpa using q
          exact .inr (by rw [e]; exact hx)
    · rw [upd_ne (ne_of_none q hl0), upd_ne (fun e => hb (foot_mem.mpr (.inr (.inl e))))]
      exact sm2 b o q
noncomputable def okWorld (s : Vbtaaf.State) (ns : List Int) : Prop := ∃ v : Nat, ns = [(v : Int)] ∧ v < 2 ^ s.facts
noncomputable def mkWorld : List Int → Vbtaaf.Call | [v] => .world v | _ => .state
theorem scSetW : FnScope ["self", "world", "actor"] ["self", "world"] (defScope sSetW) := ⟨rfl, rfl, rfl, by decide +kernel, rfl, by decide +kernel, by decide +kernel⟩
noncomputable def looked (s : Vbtaaf.State) (i : Nat) : Vbtaaf.State := { s with actors := (s.actors.map fun a => { a with belief := Vbtaaf.corrected s.facts a.sight s.world a.belief }).take i ++ s.actors.drop i }
noncomputable def Kept (H H' : Hp) (z : SA) : Prop := ∀ b o, H b = some o → ¬ b ∈ foot z → H' b = some o
theorem Kept.trans {H H1 H2 : Hp} {z : SA} (a : Kept H H1 z) (b : Kept H1 H2 z) : Kept H H2 z := fun c o q hc => b c o (a c o q hc) hc
theorem Same.kept {H H1 : Hp} (a : Same H H1) (z : SA) : Kept H H1 z := fun c o q _ => a c o q
theorem Kept.none {H H' : Hp} {z : SA} {s : Vbtaaf.State} {l : Addr} (a : Kept H H' z) (S : StoryAt CD CA CS H' z s) (h : H' l = none) : H l = none := by
  cases e : H l with
  | none => rfl
  | some o =>
    by_cases hf : l ∈ foot z
    · exact absurd hf (S.fresh h)
    · rw [a l o e hf] at h; cases h
inductive SpSetWI (CD CA CS : Addr) (vs : List V) (H : Hp) (Q : VK) : Prop
  | mk (z : SA) (s : Vbtaaf.State) (v : Nat) (h1 : vs = [.ref z.st, .int v]) (h2 : StoryAt CD CA CS H z s) (h3 : s.facts ≤ 6) (h4 : (∀ a ∈ s.actors, My.ActorOk s.facts a)) (h5 : ∀ H' : Hp, StoryAt CD CA CS H' z (Vbtaaf.seen { s with world := v }) → Kept H H' z → Q .non H') : SpSetWI CD CA CS vs H Q
noncomputable def spSetW (CD CA CS : Addr) : Sp := fun vs H Q _ => SpSetWI CD CA CS vs H Q
inductive SetF (CD CA CS : Addr) (H : Hp) (s : Vbtaaf.State) (z : SA) (v : Nat) (i : Nat) (σ : L2.St) (H' : Hp) : Prop
  | mk (v2 : Option V) (h1 : σ = [some (.ref z.st), some (.int v), v2]) (h2 : StoryAt CD CA CS H' z (looked { s with world := v } i)) (h3 : Kept H H' z) : SetF CD CA CS H s z v i σ H'
noncomputable def wSetW1 (K : PySem.W.Frag) (CD CA CS : Addr) : TS := sFld K (tVar 0) (tVar 1) "world"
noncomputable def wSetW2 (K : PySem.W.Frag) (CD CA CS : Addr) : TS := tDrop (tMeth CA "look" (spLook CA) [] E0 (tVar 2) (tCons (tVar 1) tNil))
noncomputable def wSetW3 (K : PySem.W.Frag) (CD CA CS : Addr) : TS := tFor (iList K (tFld K (tVar 0) "actors")) (gName 2) (wSetW2 K CD CA CS)
noncomputable def wSetW4 (K : PySem.W.Frag) (CD CA CS : Addr) : TS := tSeq (wSetW1 K CD CA CS) (wSetW3 K CD CA CS)
theorem ok_setW {f : Addr} {fd : FuncData} {k : Nat} (F : Fun K "set_world" "Story.set_world" sSetW f fd) (T : Tx K mg CD CA CS) (hL : OwnM P w K mg base CA "look" ["self", "world"] k (spLook CA)) :
    FnOk P w K mg base CX0 (k + 1) f fd ["self", "world"] (spSetW CD CA CS) := by
  have sc := scSetW
  obtain ⟨_, _, G_look, b_look, t_look⟩ := hL
  refine F.ok sc (fun vs H Q E h => ?_) (fun cdv A outer s0 H vs Q E hr h => ?_)
  · obtain ⟨z, s, v, rfl, _⟩ := h
    rfl
  · obtain ⟨z, s, v, rfl, S, h6, hact, k⟩ := h
    obtain ⟨dxS, hst⟩ := S.st
    refine ⟨(wSetW4 K CD CA CS), (pss_cons
      (ps_fld (pv 0) (pv 1) rfl)
    (pss_one
      (ps_for PassesOwn.never rfl (pi_list (pe_fld (pv 0) rfl)) (pg_name (i := 2) sc.nd rfl (Or.inl rfl))
        (pss_one
          (ps_expr (pe_meth (pv 2) T.cActor t_look G_look hr b_look .nil pass0 (pa_cons (pv 1) pa_nil))))))), ?_⟩
    refine ⟨_, rfl, _, rfl, z.st, CS, dxS, _, rfl, hst, T.cStory, T.sWorld, (by show 4 < 1000; decide), ?_⟩
    rw [sF_put_world]
    have S1 := S.setS (dx := dxS) (n := s.facts) (v := v)
    generalize eH : upd H z.st (.ins CS dxS (sF s.facts v z.la z.ld)) = H1 at S1 ⊢
    obtain ⟨dx1, hst1⟩ := S1.st
    have kp1 : Kept H H1 z := fun b o q hb => by
      rw [← eH, upd_ne (fun e => hb (foot_mem.mpr (.inl e)))]
      exact q
    refine ⟨_, rfl, z.st, CS, dx1, _, _, rfl, hst1, T.cStory, T.sActors, sF_actors _ _ _ _, z.la, rfl, ⟨_, SqL.of S1.la⟩, for_list (K := K) (a := z.la) (xs := z.as.map V.ref) (SetF CD CA CS H s z v)
      ⟨none, rfl, ?_, kp1⟩ (fun i σ H' _ ⟨_, _, S', _⟩ => SqL.of S'.la) ?_ ?_⟩
    · have e : looked { s with world := v } 0 = { s with facts := s.facts, world := v } := by
        unfold looked
        simp
      rw [e]
      exact S1
    · rintro i y σ H2 hi ⟨v2, rfl, S2, kp2⟩
      obtain ⟨q, hq, rfl⟩ : ∃ q, z.as[i]? = some q ∧ y = V.ref q := by
        rw [List.getElem?_map] at hi
        cases e : z.as[i]? with
        | none => rw [e] at hi; cases hi
        | some q => rw [e] at hi; exact ⟨q, rfl, (Option.some.inj hi).symm⟩
      obtain ⟨a, ha, _⟩ := S.act i q hq
      have hao := hact a (List.mem_of_getElem? ha)
      obtain ⟨a', ha', dxa, hqa⟩ := S2.act i q hq
      have ea : a' = a := by
        have := My.mix_get (f := fun a : Vbtaaf.Actor => { a with belief := Vbtaaf.corrected s.facts a.sight v a.belief }) ha
        exact Option.some.inj (ha'.symm.trans this)
      subst ea
      refine ⟨_, rfl, q, dxa, _, rfl, hqa, aF_look _, _, rfl, ?_⟩
      refine ⟨q, dxa, a', s.facts, v, rfl, hqa, h6, hao.sight, hao.belief, ?_⟩
      have S3 := S2.setA (dx := dxa) (a := { a' with belief := Vbtaaf.corrected s.facts a'.sight v a'.belief }) hq
      refine ⟨_, rfl, ?_, fun b o h hb => ?_⟩
      · have e : ({ looked { s with world := v } i with actors := (looked { s with world := v } i).actors.set i { a' with belief := Vbtaaf.corrected s.facts a'.sight v a'.belief } } : Vbtaaf.State) = looked { s with world := v } (i + 1) := by
          unfold looked
          have := My.mix_set (f := fun a : Vbtaaf.Actor => { a with belief := Vbtaaf.corrected s.facts a.sight v a.belief }) ha
          simp only at this ⊢
          rw [this]
        rw [e] at S3
        exact S3
      · rw [upd_ne (fun e => hb (foot_mem.mpr (.inr (.inr (.inr (by rw [e]; exact List.mem_of_getElem? hq))))))]
        exact kp2 b o h hb
    · rintro σ H2 ⟨v2, rfl, S2, kp2⟩
      have e : looked { s with world := v } (z.as.map V.ref).length = Vbtaaf.seen { s with world := v } := by
        unfold looked Vbtaaf.seen
        rw [List.length_map, S.alen, List.take_of_length_le (by simp), List.drop_eq_nil_of_le (by simp), List.append_nil]
      rw [e] at S2
      exact k H2 S2 kp2
theorem scRWorld : FnScope ["story", "numbers"] ["story", "numbers"] (defScope sRWorld) := ⟨rfl, rfl, rfl, by decide +kernel, rfl, by decide +kernel, by decide +kernel⟩
noncomputable def wRWorld1 (K : PySem.W.Frag) (CD CA CS : Addr) : TS := tDrop (tMeth CS "set_world" (spSetW CD CA CS) [] E0 (tVar 0) (tCons (tOp (rIxL K) (tVar 1) (tC (.int 0))) tNil))
noncomputable def wRWorld2 (K : PySem.W.Frag) (CD CA CS : Addr) : TS := tRet (tLst (tCons (tC (.int 0)) tNil))
noncomputable def wRWorld3 (K : PySem.W.Frag) (CD CA CS : Addr) : TS := tSeq (wRWorld1 K CD CA CS) (wRWorld2 K CD CA CS)
theorem ok_rWorld {f : Addr} {fd : FuncData} {k : Nat} (F : Fun K "reply_world" "reply_world" sRWorld f fd) (T : Tx K mg CD CA CS) (hL : OwnM P w K mg base CS "set_world" ["self", "world"] k (spSetW CD CA CS)) :
    FnOk P w K mg base CX0 (k + 1) f fd ["story", "numbers"] (spR CD CA CS okWorld mkWorld) := by
  have sc := scRWorld
  obtain ⟨_, _, G_set_world, b_set_world, t_set_world⟩ := hL
  refine F.ok sc (fun vs H Q E h => ?_) (fun cdv A outer s0 H vs Q E hr h => ?_)
  · obtain ⟨z, s, nl, ns, rfl, _⟩ := h
    rfl
  · obtain ⟨z, s, nl, ns, rfl, S, hs, ⟨hnl, hno⟩, ⟨v, rfl, hv⟩, k⟩ := h
    obtain ⟨dxS, hst⟩ := S.st
    have k : Post CD CA CS H z (Vbtaaf.step s (.world v)) Q := k
    rw [My.step_world hv] at k
    refine ⟨(wRWorld3 K CD CA CS), (pss_cons
      (ps_expr (pe_meth (pv 0) T.cStory t_set_world G_set_world hr b_set_world .nil pass0 (pa_cons (pe_ix ix_list (pv 1) pe_int (fun _ _ => rfl)) pa_nil)))
    (pss_one
      (ps_ret (pe_lst (pa_cons pe_int pa_nil))))), ?_⟩
    refine ⟨_, rfl, z.st, dxS, _, rfl, hst, sF_setw _ _ _ _, _, rfl, nl, _, _, _, rfl, rfl, SqL.of hnl, at0, ?_⟩
    refine ⟨z, s, v, rfl, S, hs.facts, hs.actors, fun H2 S2 kp => ?_⟩
    refine ⟨one_le, fun l hl => ?_⟩
    have hl0 := kp.none S2 hl
    refine k _ z l (S2.same (same_upd same_refl hl)) rfl upd_same hl0 (S.fresh hl0) (fun b hb => .inl hb) fun b o q hb => ?_
    rw [upd_ne (ne_of_none q hl0)]
    exact kp b o q hb
end
end Ap
end
section
set_option Elab.async false
set_option linter.all false
set_option maxRecDepth 100000
set_option maxHeartbeats 4000000
namespace Ap
open PySem PySem.Spec PyProof.Rows L2
section
variable {P : Program} {w : World} {K : PySem.W.Frag} {mg : Str → Option Value} {base : Heap} {CD CA CS : Addr}
noncomputable def okTell (s : Vbtaaf.State) (ns : List Int) : Prop := ∃ p f v : Nat, ns = [(p : Int), (f : Int), (v : Int)] ∧ p < s.actors.length ∧ f < s.facts ∧ v ≤ 1
noncomputable def mkTell : List Int → Vbtaaf.Call | [p, f, v] => .tell p f v | _ => .state
theorem scRTell : FnScope ["story", "numbers", "actor", "fact"] ["story", "numbers"] (defScope sRTell) := ⟨rfl, rfl, rfl, by decide +kernel, rfl, by decide +kernel, by decide +kernel⟩
theorem shl_one (f : Nat) : (1 : Int) * 2 ^ ((f : Int).toNat) = ((2 ^ f : Nat) : Int) := by
  rw [Int.toNat_natCast, Int.one_mul]
  exact (Int.natCast_pow 2 f).symm
theorem Post.setA {H : Hp} {z : SA} {s : Vbtaaf.State} {Q : VK} {p l : Nat} {q dx : Addr} {a : Vbtaaf.Actor} {ans : List Int} (S : StoryAt CD CA CS H z s) (hq : z.as[p]? = some q) (k : Post CD CA CS H z ({ s with actors := s.actors.set p a }, ans) Q)
    (hl : upd H q (.ins CA dx (aF a)) l = none) : Q (.ref l) (upd (upd H q (.ins CA dx (aF a))) l (.lst (ans.map V.int))) := by
  have nl : l ≠ q := fun e => by rw [e, upd_same] at hl; cases hl
  have hl0 : H l = none := by rw [upd_ne nl] at hl; exact hl
  refine k _ z l ((S.setA hq).same (same_upd same_refl hl)) rfl upd_same hl0 (S.fresh hl0) (fun b hb => .inl hb) fun b o h hb => ?_
  rw [upd_ne (ne_of_none h hl0), upd_ne (fun e => hb (foot_mem.mpr (.inr (.inr (.inr (by rw [e]; exact List.mem_of_getElem? hq))))))]
  exact h
noncomputable def wRTell1 (K : PySem.W.Frag) (CD CA CS : Addr) : TS := tAsg (tOp (rIxL K) (tFld K (tVar 0) "actors") (tOp (rIxL K) (tVar 1) (tC (.int 0)))) (gName 2)
noncomputable def wRTell2 (K : PySem.W.Frag) (CD CA CS : Addr) : TS := tAsg (tOp (rI CPow fun i j => V.int (i * 2 ^ j.toNat)) (tC (.int 1)) (tOp (rIxL K) (tVar 1) (tC (.int 1)))) (gName 3)
noncomputable def wRTell3 (K : PySem.W.Frag) (CD CA CS : Addr) : TS := tRet (tLst (tCons (tC (.int (-4))) tNil))
noncomputable def wRTell4 (K : PySem.W.Frag) (CD CA CS : Addr) : TS := tIfS (tTru K (tOp (rI0 fun i j => V.int (Builtin.bitAnd i j)) (tFld K (tVar 2) "sees") (tVar 3))) (wRTell3 K CD CA CS) tNext
noncomputable def wRTell5 (K : PySem.W.Frag) (CD CA CS : Addr) : TS := sFld K (tVar 2) (tOp (rI0 fun i j => V.int (Builtin.bitOr i j)) (tFld K (tVar 2) "belief") (tVar 3)) "belief"
noncomputable def wRTell6 (K : PySem.W.Frag) (CD CA CS : Addr) : TS := sFld K (tVar 2) (tOp (rI0 fun i j => V.int (Builtin.bitAnd i j)) (tFld K (tVar 2) "belief") (tUn (rU fun i => V.int (Builtin.bitNot i)) (tVar 3))) "belief"
noncomputable def wRTell7 (K : PySem.W.Frag) (CD CA CS : Addr) : TS := tIfS (tTest (tOp (rEq) (tOp (rIxL K) (tVar 1) (tC (.int 2))) (tC (.int 1)))) (wRTell5 K CD CA CS) (wRTell6 K CD CA CS)
noncomputable def wRTell8 (K : PySem.W.Frag) (CD CA CS : Addr) : TS := tRet (tLst (tCons (tC (.int 0)) tNil))
noncomputable def wRTell9 (K : PySem.W.Frag) (CD CA CS : Addr) : TS := tSeq (wRTell7 K CD CA CS) (wRTell8 K CD CA CS)
noncomputable def wRTell10 (K : PySem.W.Frag) (CD CA CS : Addr) : TS := tSeq (wRTell4 K CD CA CS) (wRTell9 K CD CA CS)
noncomputable def wRTell11 (K : PySem.W.Frag) (CD CA CS : Addr) : TS := tSeq (wRTell2 K CD CA CS) (wRTell10 K CD CA CS)
noncomputable def wRTell12 (K : PySem.W.Frag) (CD CA CS : Addr) : TS := tSeq (wRTell1 K CD CA CS) (wRTell11 K CD CA CS)
theorem ok_rTell {f : Addr} {fd : FuncData} (F : Fun K "reply_tell" "reply_tell" sRTell f fd) (T : Tx K mg CD CA CS) (U : Ty mg) : FnOk P w K mg base CX0 1 f fd ["story", "numbers"] (spR CD CA CS okTell mkTell) := by
  have sc := scRTell
  obtain ⟨t4, g4⟩ := U.NOT_SO
  refine F.ok sc (fun vs H Q E h => ?_) (fun cdv A outer s0 H vs Q E hr h => ?_)
  · obtain ⟨z, s, nl, ns, rfl, _⟩ := h
    rfl
  · obtain ⟨z, s, nl, ns, rfl, S, hs, ⟨hnl, hno⟩, ⟨p, fc, v, rfl, hp, hf, hv⟩, k⟩ := h
    obtain ⟨dxS, hst⟩ := S.st
    have k : Post CD CA CS H z (Vbtaaf.step s (.tell p fc v)) Q := k
    obtain ⟨q, hq, hpa, dxa, hqa⟩ := S.actAt hp
    have hao := hs.actors _ (List.mem_of_getElem? hpa)
    refine ⟨(wRTell12 K CD CA CS), (pss_cons
      (ps_set (i := 2) sc.nd rfl (Or.inl rfl) (pe_ix ix_list (pe_fld (pv 0) rfl) (pe_ix ix_list (pv 1) pe_int (fun _ _ => rfl)) (fun _ _ => rfl)))
    (pss_cons
      (ps_set (i := 3) sc.nd rfl (Or.inl rfl) (pe_op op_shl pe_int (pe_ix ix_list (pv 1) pe_int (fun _ _ => rfl))))
    (pss_cons
      (ps_if (pt_truth (pe_op op_and (pe_fld (pv 2) rfl) (pv 3)) (fun _ => rfl))
        (pss_one
          (ps_ret (pe_lst (pa_cons (pe_glob (v := .int (-4)) rfl g4 ⟨_, rfl⟩) pa_nil))))
        pss_nil)
    (pss_cons
      (ps_if (pt_cmpR op_eq (pe_ix ix_list (pv 1) pe_int (fun _ _ => rfl)) pe_int (nomark _))
        (pss_one
          (ps_fld (pv 2) (pe_op op_or (pe_fld (pv 2) rfl) (pv 3)) rfl))
        (pss_one
          (ps_fld (pv 2) (pe_op op_and (pe_fld (pv 2) rfl) (pe_un un_inv (pv 3))) rfl)))
    (pss_one
      (ps_ret (pe_lst (pa_cons pe_int pa_nil)))))))), ?_⟩
    have hn := SqL.of (K := K) hnl
    have hf6 := hs.facts
    refine ⟨_, rfl, z.st, CS, dxS, _, _, rfl, hst, T.cStory, T.sActors, sF_actors _ _ _ _, _, rfl, nl, _, _, _, rfl, rfl, hn, at0, z.la, _, _, _, rfl, rfl, SqL.of S.la, atI_nat (v := V.ref q) (by rw [List.getElem?_map, hq]; rfl), ?_⟩
    refine ⟨_, rfl, nl, _, _, _, rfl, rfl, hn, at1, _, _, rfl, rfl, ⟨by omega, by omega, by decide⟩, ?_⟩
    rw [shl_one]
    refine ⟨_, rfl, q, CA, dxa, _, _, rfl, hqa, T.cActor, T.aSees, aF_sees _, _, rfl, _, _, rfl, rfl, _, rfl, ?_⟩
    dsimp only
    rw [bAnd, ne0]
    have hsee : ((Vbtaaf.actorOf s p).sight &&& 2 ^ fc ≠ 0) ↔ (Vbtaaf.actorOf s p).sight.testBit fc = true := My.see_bit0 fc (by omega) _ (Nat.lt_of_lt_of_le hao.sight hs.pow)
    refine iteD (fun h1 => ⟨one_le, fun l hl => ?_⟩) (fun h1 => ?_)
    · rw [My.step_tell4 hp hf hv (hsee.mp h1)] at k
      exact k.keep S (same_upd same_refl hl) upd_same hl
    rw [My.step_tell hp hf hv (fun z => h1 (hsee.mpr z)), My.modify_set hpa] at k
    refine ⟨_, rfl, nl, _, _, _, rfl, rfl, hn, at2, rfl, _, rfl, iteD (fun h2 => ?_) (fun h2 => ?_)⟩
    · have h2 : (v : Int) = 1 := V.int.inj h2
      rw [if_pos h2, My.tell_one0 s.facts (by omega) fc hf _ hao.belief] at k
      refine ⟨_, rfl, q, CA, dxa, _, _, rfl, hqa, T.cActor, T.aBelief, aF_belief _, _, rfl, _, _, rfl, rfl, _, rfl, q, CA, dxa, _, rfl, hqa, T.cActor, T.aBelief, (by show 4 < 1000; decide), ?_⟩
      rw [bOr, aF_put_belief]
      exact ⟨one_le, fun l hl => Post.setA S hq k hl⟩
    · have h2 : ¬ (v : Int) = 1 := fun e => h2 (by rw [e])
      rw [if_neg h2, My.tell_zero0 s.facts (by omega) fc hf _ hao.belief, My.without_eq hs.facts hao.belief (Nat.pow_lt_pow_right (by decide) hf)] at k
      refine ⟨_, rfl, q, CA, dxa, _, _, rfl, hqa, T.cActor, T.aBelief, aF_belief _, _, rfl, _, rfl, _, _, rfl, rfl, _, rfl, q, CA, dxa, _, rfl, hqa, T.cActor, T.aBelief, (by show 4 < 1000; decide), ?_⟩
      rw [bNotAnd, aF_put_belief]
      exact ⟨one_le, fun l hl => Post.setA S hq k hl⟩
noncomputable def okGoal (s : Vbtaaf.State) (ns : List Int) : Prop := ∃ p a b : Nat, ns = [(p : Int), (a : Int), (b : Int)] ∧ p < s.actors.length ∧ a < 2 ^ s.facts ∧ b < 2 ^ s.facts
noncomputable def mkGoal : List Int → Vbtaaf.Call | [p, a, b] => .goal p a b | _ => .state
theorem scRGoal : FnScope ["story", "numbers", "actor"] ["story", "numbers"] (defScope sRGoal) := ⟨rfl, rfl, rfl, by decide +kernel, rfl, by decide +kernel, by decide +kernel⟩
noncomputable def wRGoal1 (K : PySem.W.Frag) (CD CA CS : Addr) : TS := tRet (tLst (tCons (tC (.int (-2))) tNil))
noncomputable def wRGoal2 (K : PySem.W.Frag) (CD CA CS : Addr) : TS := tIfS (tTru K (tOp (rI0 fun i j => V.int (Builtin.bitAnd i j)) (tOp (rIxL K) (tVar 1) (tC (.int 1))) (tOp (rIxL K) (tVar 1) (tC (.int 2))))) (wRGoal1 K CD CA CS) tNext
noncomputable def wRGoal3 (K : PySem.W.Frag) (CD CA CS : Addr) : TS := tAsg (tOp (rIxL K) (tFld K (tVar 0) "actors") (tOp (rIxL K) (tVar 1) (tC (.int 0)))) (gName 2)
noncomputable def wRGoal4 (K : PySem.W.Frag) (CD CA CS : Addr) : TS := sFld K (tVar 2) (tOp (rIxL K) (tVar 1) (tC (.int 1))) "goal"
noncomputable def wRGoal5 (K : PySem.W.Frag) (CD CA CS : Addr) : TS := sFld K (tVar 2) (tOp (rIxL K) (tVar 1) (tC (.int 2))) "goal_not"
noncomputable def wRGoal6 (K : PySem.W.Frag) (CD CA CS : Addr) : TS := tRet (tLst (tCons (tC (.int 0)) tNil))
noncomputable def wRGoal7 (K : PySem.W.Frag) (CD CA CS : Addr) : TS := tSeq (wRGoal5 K CD CA CS) (wRGoal6 K CD CA CS)
noncomputable def wRGoal8 (K : PySem.W.Frag) (CD CA CS : Addr) : TS := tSeq (wRGoal4 K CD CA CS) (wRGoal7 K CD CA CS)
noncomputable def wRGoal9 (K : PySem.W.Frag) (CD CA CS : Addr) : TS := tSeq (wRGoal3 K CD CA CS) (wRGoal8 K CD CA CS)
noncomputable def wRGoal10 (K : PySem.W.Frag) (CD CA CS : Addr) : TS := tSeq (wRGoal2 K CD CA CS) (wRGoal9 K CD CA CS)
theorem ok_rGoal {f : Addr} {fd : FuncData} (F : Fun K "reply_goal" "reply_goal" sRGoal f fd) (T : Tx K mg CD CA CS) (U : Ty mg) : FnOk P w K mg base CX0 1 f fd ["story", "numbers"] (spR CD CA CS okGoal mkGoal) := by
  have sc := scRGoal
  obtain ⟨t2, g2⟩ := U.BOTH_WAYS
  refine F.ok sc (fun vs H Q E h => ?_) (fun cdv A outer s0 H vs Q E hr h => ?_)
  · obtain ⟨z, s, nl, ns, rfl, _⟩ := h
    rfl
  · obtain ⟨z, s, nl, ns, rfl, S, hs, ⟨hnl, hno⟩, ⟨p, a, b, rfl, hp, ha, hb⟩, k⟩ := h
    obtain ⟨dxS, hst⟩ := S.st
    have k : Post CD CA CS H z (Vbtaaf.step s (.goal p a b)) Q := k
    obtain ⟨q, hq, hpa, dxa, hqa⟩ := S.actAt hp
    refine ⟨(wRGoal10 K CD CA CS), (pss_cons
      (ps_if (pt_truth (pe_op op_and (pe_ix ix_list (pv 1) pe_int (fun _ _ => rfl)) (pe_ix ix_list (pv 1) pe_int (fun _ _ => rfl))) (fun _ => rfl))
        (pss_one
          (ps_ret (pe_lst (pa_cons (pe_glob (v := .int (-2)) rfl g2 ⟨_, rfl⟩) pa_nil))))
        pss_nil)
    (pss_cons
      (ps_set (i := 2) sc.nd rfl (Or.inl rfl) (pe_ix ix_list (pe_fld (pv 0) rfl) (pe_ix ix_list (pv 1) pe_int (fun _ _ => rfl)) (fun _ _ => rfl)))
    (pss_cons
      (ps_fld (pv 2) (pe_ix ix_list (pv 1) pe_int (fun _ _ => rfl)) rfl)
    (pss_cons
      (ps_fld (pv 2) (pe_ix ix_list (pv 1) pe_int (fun _ _ => rfl)) rfl)
    (pss_one
      (ps_ret (pe_lst (pa_cons pe_int pa_nil)))))))), ?_⟩
    have hn := SqL.of (K := K) hnl
    refine ⟨_, rfl, nl, _, _, _, rfl, rfl, hn, at1, _, rfl, nl, _, _, _, rfl, rfl, hn, at2, _, _, rfl, rfl, _, rfl, ?_⟩
    dsimp only
    rw [bAnd, ne0]
    refine iteD (fun h1 => ⟨one_le, fun l hl => ?_⟩) (fun h1 => ?_)
    · rw [My.step_goal2 hp ha hb h1] at k
      exact k.keep S (same_upd same_refl hl) upd_same hl
    rw [My.step_goal hp ha hb (Classical.byContradiction h1), My.modify_set hpa] at k
    refine ⟨_, rfl, z.st, CS, dxS, _, _, rfl, hst, T.cStory, T.sActors, sF_actors _ _ _ _, _, rfl, nl, _, _, _, rfl, rfl, hn, at0, z.la, _, _, _, rfl, rfl, SqL.of S.la, atI_nat (v := V.ref q) (by rw [List.getElem?_map, hq]; rfl), ?_⟩
    refine ⟨_, rfl, nl, _, _, _, rfl, rfl, hn, at1, _, rfl, q, CA, dxa, _, rfl, hqa, T.cActor, T.aGoal, (by show 4 < 1000; decide), ?_⟩
    rw [aF_put_goal]
    have nq : nl ≠ q := fun e => hno (foot_mem.mpr (.inr (.inr (.inr (by rw [e]; exact List.mem_of_getElem? hq)))))
    have hn2 := SqL.of (K := K) (H := upd H q (.ins CA dxa (aF { Vbtaaf.actorOf s p with on := a }))) (a := nl) (by rw [upd_ne nq]; exact hnl)
    refine ⟨_, rfl, nl, _, _, _, rfl, rfl, hn2, at2, _, rfl, q, CA, dxa, _, rfl, upd_same, T.cActor, T.aGoalNot, (by show 4 < 1000; decide), ?_⟩
    rw [upd_upd, aF_put_goal_not]
    exact ⟨one_le, fun l hl => Post.setA S hq k hl⟩
noncomputable def okPlan (s : Vbtaaf.State) (ns : List Int) : Prop := ∃ p : Nat, ns = [(p : Int)] ∧ p < s.actors.length
noncomputable def mkPlan : List Int → Vbtaaf.Call | [p] => .plan p | _ => .state
theorem scRPlan : FnScope ["story", "numbers", "plan"] ["story", "numbers"] (defScope sRPlan) := ⟨rfl, rfl, rfl, by decide +kernel, rfl, by decide +kernel, by decide +kernel⟩
theorem ints_vN (l : List Nat) : (l.map fun (k : Nat) => (k : Int)).map V.int = vN l := by
  unfold vN
  rw [List.map_map]
  rfl
noncomputable def wRPlan1 (K : PySem.W.Frag) (CD CA CS : Addr) : TS := tAsg (tCall (spPlan CD CA CS) [] E0 (tCons (tVar 0) (tCons (tOp (rIxL K) (tVar 1) (tC (.int 0))) (tCons (tFld K (tOp (rIxL K) (tFld K (tVar 0) "actors") (tOp (rIxL K) (tVar 1) (tC (.int 0)))) "belief") tNil)))) (gName 2)
noncomputable def wRPlan2 (K : PySem.W.Frag) (CD CA CS : Addr) : TS := tRet (tLst (tCons (tC (.int 0)) (tCons (tC (.int 0)) tNil)))
noncomputable def wRPlan3 (K : PySem.W.Frag) (CD CA CS : Addr) : TS := tIfS (tB (tIsN (tVar 2))) (wRPlan2 K CD CA CS) tNext
noncomputable def wRPlan4 (K : PySem.W.Frag) (CD CA CS : Addr) : TS := tRet (tOp (rCat) (tLst (tCons (tC (.int 0)) (tCons (tC (.int 1)) tNil))) (tVar 2))
noncomputable def wRPlan5 (K : PySem.W.Frag) (CD CA CS : Addr) : TS := tSeq (wRPlan3 K CD CA CS) (wRPlan4 K CD CA CS)
noncomputable def wRPlan6 (K : PySem.W.Frag) (CD CA CS : Addr) : TS := tSeq (wRPlan1 K CD CA CS) (wRPlan5 K CD CA CS)
theorem ok_rPlan {f : Addr} {fd : FuncData} {k : Nat} (F : Fun K "reply_plan" "reply_plan" sRPlan f fd) (T : Tx K mg CD CA CS) (hP : Own P w K mg base "plan_from" ["story", "actor", "world"] k (spPlan CD CA CS)) :
    FnOk P w K mg base CX0 (k + 1) f fd ["story", "numbers"] (spR CD CA CS okPlan mkPlan) := by
  have sc := scRPlan
  obtain ⟨_, _, G_plan_from, b_plan_from, k_plan_from, m_plan_from⟩ := hP
  refine F.ok sc (fun vs H Q E h => ?_) (fun cdv A outer s0 H vs Q E hr h => ?_)
  · obtain ⟨z, s, nl, ns, rfl, _⟩ := h
    rfl
  · obtain ⟨z, s, nl, ns, rfl, S, hs, ⟨hnl, hno⟩, ⟨p, rfl, hp⟩, k⟩ := h
    obtain ⟨dxS, hst⟩ := S.st
    have k : Post CD CA CS H z (Vbtaaf.step s (.plan p)) Q := k
    obtain ⟨q, hq, hpa, dxa, hqa⟩ := S.actAt hp
    have hao := hs.actors _ (List.mem_of_getElem? hpa)
    refine ⟨(wRPlan6 K CD CA CS), (pss_cons
      (ps_set (i := 2) sc.nd rfl (Or.inl rfl) (pe_call G_plan_from hr rfl m_plan_from k_plan_from b_plan_from .nil pass0 (pa_cons (pv 0) (pa_cons (pe_ix ix_list (pv 1) pe_int (fun _ _ => rfl)) (pa_cons (pe_fld (pe_ix ix_list (pe_fld (pv 0) rfl) (pe_ix ix_list (pv 1) pe_int (fun _ _ => rfl)) (fun _ _ => rfl)) rfl) pa_nil)))))
    (pss_cons
      (ps_if (pt_cmp (pc_isN (pv 2)))
        (pss_one
          (ps_ret (pe_lst (pa_cons pe_int (pa_cons pe_int pa_nil)))))
        pss_nil)
    (pss_one
      (ps_ret (pe_op op_cat (pe_lst (pa_cons pe_int (pa_cons pe_int pa_nil))) (pv 2)))))), ?_⟩
    have hn := SqL.of (K := K) hnl
    refine ⟨_, rfl, _, rfl, nl, _, _, _, rfl, rfl, hn, at0, _, rfl, z.st, CS, dxS, _, _, rfl, hst, T.cStory, T.sActors, sF_actors _ _ _ _, _, rfl, nl, _, _, _, rfl, rfl, hn, at0, z.la, _, _, _, rfl, rfl, SqL.of S.la, atI_nat (v := V.ref q) (by rw [List.getElem?_map, hq]; rfl), q, CA, dxa, _, _, rfl, hqa, T.cActor, T.aBelief, aF_belief _, ?_⟩
    refine ⟨z, s, p, (Vbtaaf.actorOf s p).belief, rfl, S, hs, hp, hao.belief, fun H1 sm e1 e2 => ?_, fun H1 l ks sm e1 e2 hlen hf hl => ?_⟩
    · refine ⟨_, rfl, _, rfl, iteD (fun _ => ?_) (fun h => absurd rfl h)⟩
      refine ⟨two_le, fun l hl => ?_⟩
      rw [My.step_plan0 hp e1] at k
      exact k.keep S (same_upd sm hl) upd_same (Same.none sm hl)
    · refine ⟨_, rfl, _, rfl, iteD (fun h => by cases h) (fun _ => ?_)⟩
      refine ⟨two_le, fun n1 hn1 => ⟨_, rfl, n1, l, _, _, rfl, rfl, upd_same, (by rw [upd_ne (ne_of_none hl hn1)]; exact hl), (by rw [vN_len, sizeLine_eq]; show 2 + ks.length ≤ _; omega), fun n2 hn2 => ?_⟩⟩
      rw [My.step_plan hp e1] at k
      have sm2 : Same H (upd H1 n1 (.lst [.int 0, .int 1])) := same_upd sm hn1
      refine k.keep S (same_upd sm2 hn2) ?_ (Same.none sm2 hn2)
      rw [upd_same, List.map_cons, List.map_cons, ints_vN]
      rfl
noncomputable def okFar (s : Vbtaaf.State) (ns : List Int) : Prop := ∃ p v : Nat, ns = [(p : Int), (v : Int)] ∧ p < s.actors.length ∧ v < 2 ^ s.facts
noncomputable def mkFar : List Int → Vbtaaf.Call | [p, v] => .far p v | _ => .state
theorem scRFar : FnScope ["story", "numbers", "plan"] ["story", "numbers"] (defScope sRFar) := ⟨rfl, rfl, rfl, by decide +kernel, rfl, by decide +kernel, by decide +kernel⟩
noncomputable def wRFar1 (K : PySem.W.Frag) (CD CA CS : Addr) : TS := tAsg (tCall (spPlan CD CA CS) [] E0 (tCons (tVar 0) (tCons (tOp (rIxL K) (tVar 1) (tC (.int 0))) (tCons (tOp (rIxL K) (tVar 1) (tC (.int 1))) tNil)))) (gName 2)
noncomputable def wRFar2 (K : PySem.W.Frag) (CD CA CS : Addr) : TS := tRet (tLst (tCons (tC (.int 0)) (tCons (tC (.int 0)) tNil)))
noncomputable def wRFar3 (K : PySem.W.Frag) (CD CA CS : Addr) : TS := tIfS (tB (tIsN (tVar 2))) (wRFar2 K CD CA CS) tNext
noncomputable def wRFar4 (K : PySem.W.Frag) (CD CA CS : Addr) : TS := tRet (tLst (tCons (tC (.int 0)) (tCons (tOp (rI0 fun i j => V.int (i + j)) (tCB (LenI K) (tCons (tVar 2) tNil)) (tC (.int 1))) tNil)))
noncomputable def wRFar5 (K : PySem.W.Frag) (CD CA CS : Addr) : TS := tSeq (wRFar3 K CD CA CS) (wRFar4 K CD CA CS)
noncomputable def wRFar6 (K : PySem.W.Frag) (CD CA CS : Addr) : TS := tSeq (wRFar1 K CD CA CS) (wRFar5 K CD CA CS)
theorem ok_rFar {f : Addr} {fd : FuncData} {k : Nat} (F : Fun K "reply_far" "reply_far" sRFar f fd) (T : Tx K mg CD CA CS) (hP : Own P w K mg base "plan_from" ["story", "actor", "world"] k (spPlan CD CA CS)) :
    FnOk P w K mg base CX0 (k + 1) f fd ["story", "numbers"] (spR CD CA CS okFar mkFar) := by
  have sc := scRFar
  obtain ⟨_, _, G_plan_from, b_plan_from, k_plan_from, m_plan_from⟩ := hP
  refine F.ok sc (fun vs H Q E h => ?_) (fun cdv A outer s0 H vs Q E hr h => ?_)
  · obtain ⟨z, s, nl, ns, rfl, _⟩ := h
    rfl
  · obtain ⟨z, s, nl, ns, rfl, S, hs, ⟨hnl, hno⟩, ⟨p, v, rfl, hp, hv⟩, k⟩ := h
    have k : Post CD CA CS H z (Vbtaaf.step s (.far p v)) Q := k
    rw [My.step_far hp hv] at k
    refine ⟨(wRFar6 K CD CA CS), (pss_cons
      (ps_set (i := 2) sc.nd rfl (Or.inl rfl) (pe_call G_plan_from hr rfl m_plan_from k_plan_from b_plan_from .nil pass0 (pa_cons (pv 0) (pa_cons (pe_ix ix_list (pv 1) pe_int (fun _ _ => rfl)) (pa_cons (pe_ix ix_list (pv 1) pe_int (fun _ _ => rfl)) pa_nil)))))
    (pss_cons
      (ps_if (pt_cmp (pc_isN (pv 2)))
        (pss_one
          (ps_ret (pe_lst (pa_cons pe_int (pa_cons pe_int pa_nil)))))
        pss_nil)
    (pss_one
      (ps_ret (pe_lst (pa_cons pe_int (pa_cons (pe_op op_add (pe_callB call_len_seq (by rfl) T.len PySem.boot_len (pa_cons (pv 2) pa_nil)) pe_int) pa_nil))))))), ?_⟩
    have hn := SqL.of (K := K) hnl
    refine ⟨_, rfl, _, rfl, nl, _, _, _, rfl, rfl, hn, at0, _, rfl, nl, _, _, _, rfl, rfl, hn, at1, ?_⟩
    refine ⟨z, s, p, v, rfl, S, hs, hp, hv, fun H1 sm e1 e2 => ?_, fun H1 l ks sm e1 e2 hlen hf hl => ?_⟩
    · refine ⟨_, rfl, _, rfl, iteD (fun _ => ?_) (fun h => absurd rfl h)⟩
      refine ⟨two_le, fun l hl => ?_⟩
      rw [e2] at k
      exact k.keep S (same_upd sm hl) upd_same (Same.none sm hl)
    · refine ⟨_, rfl, _, rfl, iteD (fun h => by cases h) (fun _ => ?_)⟩
      refine ⟨_, rfl, l, _, rfl, .inl (SqL.of hl), _, _, rfl, rfl, two_le, fun n1 hn1 => ?_⟩
      rw [e2] at k
      refine k.keep S (same_upd sm hn1) ?_ (Same.none sm hn1)
      rw [upd_same]
      show some (HO.lst [V.int 0, V.int (((vN ks).length : Int) + 1)]) = _
      rw [vN_len]
      rfl
end
end Ap
end
section
set_option Elab.async false
set_option linter.all false
set_option maxRecDepth 100000
set_option maxHeartbeats 4000000
namespace Ap
open PySem PySem.Spec PyProof.Rows L2
noncomputable abbrev sMany : Stmt := top 5
noncomputable abbrev sHasRow : Stmt := top 6
noncomputable abbrev sKindAt : Stmt := top 7
noncomputable abbrev sLeast : Stmt := top 8
noncomputable abbrev sAbove : Stmt := top 9
noncomputable abbrev sInR : Stmt := top 10
noncomputable def TupK (K : PySem.W.Frag) (a : Addr) (xs : List V) : Prop := ∃ (o : Obj) (its : Array Value) (n : Nat), K.lookup a = some o ∧ o.cls = .type "tuple" ∧ o.data = .seq its n ∧ its.size ≤ sizeLine ∧ Vals xs its.toList
theorem TupK.sq {K : PySem.W.Frag} {H : Hp} {a : Addr} {xs : List V} (h : TupK K a xs) : SqT K H a xs := .inr h
noncomputable def kindsOf (c : Nat) : List Str := ([["how many facts"], ["actor", "set", "set", "set", "set"], ["set", "set", "set"], ["set"], ["actor", "fact", "yes or no"], ["actor", "set", "set"], ["actor"], ["actor", "set"], ["actor"], ["actor"], ["actor"], ["actor"], ["how many rounds"], ["actor"], [], []] : List (List Str)).getD c []
structure Kinds (K : PySem.W.Frag) (mg : Str → Option Value) (dk : Addr) (kvs : List (Int × V)) (dr : Addr) : Prop where
  mgK : mg "KINDS" = some (.ref dk)
  kd : KD K dk kvs
  at_ : ∀ c < 16, ∃ kt, (kvs.find? fun p => p.1 == ((c : Nat) : Int)) = some (((c : Nat) : Int), .ref kt) ∧ TupK K kt ((kindsOf c).map V.str)
  mgR : mg "ROWS" = some (.ref dr)
  rd : KD K dr [(9, .str "set"), (10, .str "deed")]
  ns : (dr == sysModules) = false
section
variable {P : Program} {w : World} {K : PySem.W.Frag} {mg : Str → Option Value} {base : Heap} {CD CA CS : Addr}
inductive SpManyI (vs : List V) (H : Hp) (Q : VK) : Prop
  | mk (c : Nat) (h1 : vs = [.int c]) (h2 : c < 16) (h3 : Q (.int ((kindsOf c).length : Int)) H) : SpManyI  vs H Q
noncomputable def spMany : Sp := fun vs H Q _ => SpManyI  vs H Q
theorem scMany : FnScope ["call"] ["call"] (defScope sMany) := ⟨rfl, rfl, rfl, by decide +kernel, rfl, by decide +kernel, by decide +kernel⟩
theorem ok_many {f : Addr} {fd : FuncData} {dk dr : Addr} {kvs : List (Int × V)} (F : Fun K "how_many_numbers" "how_many_numbers" sMany f fd) (T : Tx K mg CD CA CS) (D : Kinds K mg dk kvs dr) : FnOk P w K mg base CX0 1 f fd ["call"] spMany := by
  have sc := scMany
  refine F.ok sc (fun vs H Q E h => ?_) (fun cdv A outer s0 H vs Q E hr h => ?_)
  · obtain ⟨c, rfl, _⟩ := h
    rfl
  · obtain ⟨c, rfl, hc, k⟩ := h
    obtain ⟨kt, hkf, hkt⟩ := D.at_ c hc
    refine ⟨_, (pss_one
      (ps_ret (pe_callB call_len_seq (by rfl) T.len PySem.boot_len (pa_cons (pe_kget (pe_glob (v := .ref dk) rfl D.mgK rfl) (pv 0) (fun _ _ => rfl)) pa_nil)))), ?_⟩
    refine ⟨_, rfl, dk, kvs, c, _, rfl, D.kd, rfl, hkf, kt, _, rfl, .inr hkt.sq, ?_⟩
    rw [List.length_map]
    exact k
inductive SpHasRowI (vs : List V) (H : Hp) (Q : VK) : Prop
  | mk (c : Nat) (h1 : vs = [.int c]) (h2 : Q (.bl (decide (c = 9 ∨ c = 10))) H) : SpHasRowI  vs H Q
noncomputable def spHasRow : Sp := fun vs H Q _ => SpHasRowI  vs H Q
theorem scHasRow : FnScope ["call"] ["call"] (defScope sHasRow) := ⟨rfl, rfl, rfl, by decide +kernel, rfl, by decide +kernel, by decide +kernel⟩
theorem find_rows (c : Nat) : (([((9 : Int), V.str "set"), (10, V.str "deed")]).find? fun p => p.1 == (c : Int)).isSome = decide (c = 9 ∨ c = 10) := by
  by_cases h9 : c = 9
  · subst h9; rfl
  · by_cases h10 : c = 10
    · subst h10; rfl
    · rw [List.find?_cons_of_neg (by simp; omega), List.find?_cons_of_neg (by simp; omega), decide_eq_false (by omega)]
      rfl
theorem ok_hasRow {f : Addr} {fd : FuncData} {dk dr : Addr} {kvs : List (Int × V)} (F : Fun K "has_row" "has_row" sHasRow f fd) (D : Kinds K mg dk kvs dr) : FnOk P w K mg base CX0 1 f fd ["call"] spHasRow := by
  have sc := scHasRow
  refine F.ok sc (fun vs H Q E h => ?_) (fun cdv A outer s0 H vs Q E hr h => ?_)
  · obtain ⟨c, rfl, _⟩ := h
    rfl
  · obtain ⟨c, rfl, k⟩ := h
    refine ⟨_, (pss_one
      (ps_ret (pe_cmp (pc_kin (pv 0) (pe_glob (v := .ref dr) rfl D.mgR rfl))))), ?_⟩
    refine ⟨_, rfl, dr, _, (c : Int), rfl, D.rd, D.ns, rfl, ?_⟩
    rw [find_rows]
    exact k
noncomputable def kindAt (c i : Nat) : Str := if i < (kindsOf c).length then (kindsOf c).getD i "" else if c = 9 then "set" else "deed"
inductive SpKindAtI (vs : List V) (H : Hp) (Q : VK) : Prop
  | mk (c i : Nat) (h1 : vs = [.int c, .int i]) (h2 : c < 16) (h3 : (i < (kindsOf c).length ∨ c = 9 ∨ c = 10)) (h4 : Q (.str (kindAt c i)) H) : SpKindAtI  vs H Q
noncomputable def spKindAt : Sp := fun vs H Q _ => SpKindAtI  vs H Q
theorem scKindAt : FnScope ["call", "place"] ["call", "place"] (defScope sKindAt) := ⟨rfl, rfl, rfl, by decide +kernel, rfl, by decide +kernel, by decide +kernel⟩
theorem ok_kindAt {f : Addr} {fd : FuncData} {dk dr : Addr} {kvs : List (Int × V)} (F : Fun K "kind_at" "kind_at" sKindAt f fd) (T : Tx K mg CD CA CS) (D : Kinds K mg dk kvs dr) : FnOk P w K mg base CX0 1 f fd ["call", "place"] spKindAt := by
  have sc := scKindAt
  refine F.ok sc (fun vs H Q E h => ?_) (fun cdv A outer s0 H vs Q E hr h => ?_)
  · obtain ⟨c, i, rfl, _⟩ := h
    rfl
  · obtain ⟨c, i, rfl, hc, hi, k⟩ := h
    obtain ⟨kt, hkf, hkt⟩ := D.at_ c hc
    refine ⟨_, (pss_cons
      (ps_if (pt_cmpR op_lt (pv 1) (pe_callB call_len_seq (by rfl) T.len PySem.boot_len (pa_cons (pe_kget (pe_glob (v := .ref dk) rfl D.mgK rfl) (pv 0) (fun _ _ => rfl)) pa_nil)) (nomark _))
        (pss_one
          (ps_ret (pe_ix ix_tup (pe_kget (pe_glob (v := .ref dk) rfl D.mgK rfl) (pv 0) (fun _ _ => rfl)) (pv 1) (fun _ _ => rfl))))
        pss_nil)
    (pss_one
      (ps_ret (pe_kget (pe_glob (v := .ref dr) rfl D.mgR rfl) (pv 0) (fun _ _ => rfl))))), ?_⟩
    unfold kindAt at k
    refine ⟨_, rfl, _, rfl, dk, kvs, c, _, rfl, D.kd, rfl, hkf, kt, _, rfl, .inr hkt.sq, _, _, rfl, rfl, _, rfl, iteD (fun h => ?_) (fun h => ?_)⟩
    · have hlt : i < (kindsOf c).length := by
        have h : (i : Int) < (((kindsOf c).map V.str).length : Nat) := h
        rw [List.length_map] at h
        omega
      rw [if_pos hlt] at k
      refine ⟨_, rfl, dk, kvs, c, _, rfl, D.kd, rfl, hkf, _, rfl, kt, _, _, _, rfl, rfl, hkt.sq, atI_nat (v := V.str ((kindsOf c).getD i "")) ?_, k⟩
      rw [List.getElem?_map, List.getElem?_eq_getElem hlt, List.getD_eq_getElem?_getD, List.getElem?_eq_getElem hlt]
      rfl
    · have hge : ¬ i < (kindsOf c).length := fun q => h (by
        show (i : Int) < (((kindsOf c).map V.str).length : Nat)
        rw [List.length_map]
        omega)
      rw [if_neg hge] at k
      rcases hi with hi | hi | hi
      · exact absurd hi hge
      · subst hi
        exact ⟨_, rfl, dr, _, _, _, rfl, D.rd, rfl, rfl, k⟩
      · subst hi
        exact ⟨_, rfl, dr, _, _, _, rfl, D.rd, rfl, rfl, k⟩
noncomputable def lst (kind : Str) : Int := if kind = "how many rounds" then 1 else 0
inductive SpLeastI (vs : List V) (H : Hp) (Q : VK) : Prop
  | mk (kind : Str) (h1 : vs = [.str kind]) (h2 : Q (.int (lst kind)) H) : SpLeastI  vs H Q
noncomputable def spLeast : Sp := fun vs H Q _ => SpLeastI  vs H Q
theorem scLeast : FnScope ["kind"] ["kind"] (defScope sLeast) := ⟨rfl, rfl, rfl, by decide +kernel, rfl, by decide +kernel, by decide +kernel⟩
theorem ok_least {f : Addr} {fd : FuncData} (F : Fun K "least" "least" sLeast f fd) : FnOk P w K mg base CX0 1 f fd ["kind"] spLeast := by
  have sc := scLeast
  refine F.ok sc (fun vs H Q E h => ?_) (fun cdv A outer s0 H vs Q E hr h => ?_)
  · obtain ⟨kind, rfl, _⟩ := h
    rfl
  · obtain ⟨kind, rfl, k⟩ := h
    refine ⟨_, (pss_cons
      (ps_if (pt_cmpR op_eq (pv 0) pe_str (nomark _))
        (pss_one
          (ps_ret pe_int))
        pss_nil)
    (pss_one
      (ps_ret pe_int))), ?_⟩
    unfold lst at k
    refine ⟨_, rfl, rfl, _, rfl, iteD (fun h => ?_) (fun h => ?_)⟩
    · rw [if_pos (V.str.inj h)] at k
      exact k
    · rw [if_neg (fun e => h (by rw [e]))] at k
      exact k
noncomputable def abv (s : Vbtaaf.State) (kind : Str) : Int := if kind = "actor" then (s.actors.length : Int) else if kind = "deed" then (s.deeds.length : Int) else if kind = "set" then ((2 ^ s.facts : Nat) : Int) else if kind = "fact" then (s.facts : Int) else if kind = "how many facts" then 7 else if kind = "how many rounds" then 21 else 2
inductive SpAboveI (CD CA CS : Addr) (vs : List V) (H : Hp) (Q : VK) : Prop
  | mk (z : SA) (s : Vbtaaf.State) (kind : Str) (h1 : vs = [.ref z.st, .str kind]) (h2 : StoryAt CD CA CS H z s) (h3 : s.facts ≤ 6) (h4 : Q (.int (abv s kind)) H) : SpAboveI CD CA CS vs H Q
noncomputable def spAbove (CD CA CS : Addr) : Sp := fun vs H Q _ => SpAboveI CD CA CS vs H Q
theorem scAbove : FnScope ["story", "kind"] ["story", "kind"] (defScope sAbove) := ⟨rfl, rfl, rfl, by decide +kernel, rfl, by decide +kernel, by decide +kernel⟩
noncomputable def wAbove1 (K : PySem.W.Frag) (CD CA CS : Addr) : TS := tRet (tCB (LenI K) (tCons (tFld K (tVar 0) "actors") tNil))
noncomputable def wAbove2 (K : PySem.W.Frag) (CD CA CS : Addr) : TS := tIfS (tTest (tOp (rEq) (tVar 1) (tC (.str "actor")))) (wAbove1 K CD CA CS) tNext
noncomputable def wAbove3 (K : PySem.W.Frag) (CD CA CS : Addr) : TS := tRet (tCB (LenI K) (tCons (tFld K (tVar 0) "deeds") tNil))
noncomputable def wAbove4 (K : PySem.W.Frag) (CD CA CS : Addr) : TS := tIfS (tTest (tOp (rEq) (tVar 1) (tC (.str "deed")))) (wAbove3 K CD CA CS) tNext
noncomputable def wAbove5 (K : PySem.W.Frag) (CD CA CS : Addr) : TS := tRet (tOp (rI CPow fun i j => V.int (i * 2 ^ j.toNat)) (tC (.int 1)) (tFld K (tVar 0) "facts"))
noncomputable def wAbove6 (K : PySem.W.Frag) (CD CA CS : Addr) : TS := tIfS (tTest (tOp (rEq) (tVar 1) (tC (.str "set")))) (wAbove5 K CD CA CS) tNext
noncomputable def wAbove7 (K : PySem.W.Frag) (CD CA CS : Addr) : TS := tRet (tFld K (tVar 0) "facts")
noncomputable def wAbove8 (K : PySem.W.Frag) (CD CA CS : Addr) : TS := tIfS (tTest (tOp (rEq) (tVar 1) (tC (.str "fact")))) (wAbove7 K CD CA CS) tNext
noncomputable def wAbove9 (K : PySem.W.Frag) (CD CA CS : Addr) : TS := tRet (tOp (rI0 fun i j => V.int (i + j)) (tC (.int 6)) (tC (.int 1)))
noncomputable def wAbove10 (K : PySem.W.Frag) (CD CA CS : Addr) : TS := tIfS (tTest (tOp (rEq) (tVar 1) (tC (.str "how many facts")))) (wAbove9 K CD CA CS) tNext
noncomputable def wAbove11 (K : PySem.W.Frag) (CD CA CS : Addr) : TS := tRet (tOp (rI0 fun i j => V.int (i + j)) (tC (.int 20)) (tC (.int 1)))
noncomputable def wAbove12 (K : PySem.W.Frag) (CD CA CS : Addr) : TS := tIfS (tTest (tOp (rEq) (tVar 1) (tC (.str "how many rounds")))) (wAbove11 K CD CA CS) tNext
noncomputable def wAbove13 (K : PySem.W.Frag) (CD CA CS : Addr) : TS := tRet (tC (.int 2))
noncomputable def wAbove14 (K : PySem.W.Frag) (CD CA CS : Addr) : TS := tSeq (wAbove12 K CD CA CS) (wAbove13 K CD CA CS)
noncomputable def wAbove15 (K : PySem.W.Frag) (CD CA CS : Addr) : TS := tSeq (wAbove10 K CD CA CS) (wAbove14 K CD CA CS)
noncomputable def wAbove16 (K : PySem.W.Frag) (CD CA CS : Addr) : TS := tSeq (wAbove8 K CD CA CS) (wAbove15 K CD CA CS)
noncomputable def wAbove17 (K : PySem.W.Frag) (CD CA CS : Addr) : TS := tSeq (wAbove6 K CD CA CS) (wAbove16 K CD CA CS)
noncomputable def wAbove18 (K : PySem.W.Frag) (CD CA CS : Addr) : TS := tSeq (wAbove4 K CD CA CS) (wAbove17 K CD CA CS)
noncomputable def wAbove19 (K : PySem.W.Frag) (CD CA CS : Addr) : TS := tSeq (wAbove2 K CD CA CS) (wAbove18 K CD CA CS)
theorem ok_above {f : Addr} {fd : FuncData} (F : Fun K "above" "above" sAbove f fd) (T : Tx K mg CD CA CS) (U : Ty mg) : FnOk P w K mg base CX0 1 f fd ["story", "kind"] (spAbove CD CA CS) := by
  have sc := scAbove
  obtain ⟨t6, g6⟩ := U.MOST_FACTS
  obtain ⟨t20, g20⟩ := U.MOST_ROUNDS
  refine F.ok sc (fun vs H Q E h => ?_) (fun cdv A outer s0 H vs Q E hr h => ?_)
  · obtain ⟨z, s, kind, rfl, _⟩ := h
    rfl
  · obtain ⟨z, s, kind, rfl, S, h6, k⟩ := h
    obtain ⟨dxS, hst⟩ := S.st
    refine ⟨(wAbove19 K CD CA CS), (pss_cons
      (ps_if (pt_cmpR op_eq (pv 1) pe_str (nomark _))
        (pss_one
          (ps_ret (pe_callB call_len_seq (by rfl) T.len PySem.boot_len (pa_cons (pe_fld (pv 0) rfl) pa_nil))))
        pss_nil)
    (pss_cons
      (ps_if (pt_cmpR op_eq (pv 1) pe_str (nomark _))
        (pss_one
          (ps_ret (pe_callB call_len_seq (by rfl) T.len PySem.boot_len (pa_cons (pe_fld (pv 0) rfl) pa_nil))))
        pss_nil)
    (pss_cons
      (ps_if (pt_cmpR op_eq (pv 1) pe_str (nomark _))
        (pss_one
          (ps_ret (pe_op op_shl pe_int (pe_fld (pv 0) rfl))))
        pss_nil)
    (pss_cons
      (ps_if (pt_cmpR op_eq (pv 1) pe_str (nomark _))
        (pss_one
          (ps_ret (pe_fld (pv 0) rfl)))
        pss_nil)
    (pss_cons
      (ps_if (pt_cmpR op_eq (pv 1) pe_str (nomark _))
        (pss_one
          (ps_ret (pe_op op_add (pe_glob (v := .int 6) rfl g6 ⟨_, rfl⟩) pe_int)))
        pss_nil)
    (pss_cons
      (ps_if (pt_cmpR op_eq (pv 1) pe_str (nomark _))
        (pss_one
          (ps_ret (pe_op op_add (pe_glob (v := .int 20) rfl g20 ⟨_, rfl⟩) pe_int)))
        pss_nil)
    (pss_one
      (ps_ret pe_int)))))))), ?_⟩
    unfold abv at k
    refine ⟨_, rfl, rfl, _, rfl, iteD (fun h => ?_) (fun h => ?_)⟩
    · rw [if_pos (V.str.inj h)] at k
      refine ⟨_, rfl, z.st, CS, dxS, _, _, rfl, hst, T.cStory, T.sActors, sF_actors _ _ _ _, z.la, _, rfl, .inl (SqL.of S.la), ?_⟩
      rw [List.length_map, S.alen]
      exact k
    rw [if_neg (fun e => h (by rw [e]))] at k
    refine ⟨_, rfl, rfl, _, rfl, iteD (fun h => ?_) (fun h => ?_)⟩
    · rw [if_pos (V.str.inj h)] at k
      refine ⟨_, rfl, z.st, CS, dxS, _, _, rfl, hst, T.cStory, T.sDeeds, sF_deeds _ _ _ _, z.ld, _, rfl, .inl (SqL.of S.ld), ?_⟩
      rw [List.length_map, S.dlen]
      exact k
    rw [if_neg (fun e => h (by rw [e]))] at k
    refine ⟨_, rfl, rfl, _, rfl, iteD (fun h => ?_) (fun h => ?_)⟩
    · rw [if_pos (V.str.inj h)] at k
      refine ⟨_, rfl, z.st, CS, dxS, _, _, rfl, hst, T.cStory, T.sFacts, sF_facts _ _ _ _, _, _, rfl, rfl, ⟨by omega, by omega, by decide⟩, ?_⟩
      rw [shl_one]
      exact k
    rw [if_neg (fun e => h (by rw [e]))] at k
    refine ⟨_, rfl, rfl, _, rfl, iteD (fun h => ?_) (fun h => ?_)⟩
    · rw [if_pos (V.str.inj h)] at k
      exact ⟨_, rfl, z.st, CS, dxS, _, _, rfl, hst, T.cStory, T.sFacts, sF_facts _ _ _ _, k⟩
    rw [if_neg (fun e => h (by rw [e]))] at k
    refine ⟨_, rfl, rfl, _, rfl, iteD (fun h => ?_) (fun h => ?_)⟩
    · rw [if_pos (V.str.inj h)] at k
      exact ⟨_, _, rfl, rfl, k⟩
    rw [if_neg (fun e => h (by rw [e]))] at k
    refine ⟨_, rfl, rfl, _, rfl, iteD (fun h => ?_) (fun h => ?_)⟩
    · rw [if_pos (V.str.inj h)] at k
      exact ⟨_, _, rfl, rfl, k⟩
    rw [if_neg (fun e => h (by rw [e]))] at k
    exact k
noncomputable def InR (s : Vbtaaf.State) (c : Nat) (ns : List Int) : Prop := ∀ (i : Nat) (n : Int), ns[i]? = some n → lst (kindAt c i) ≤ n ∧ n < abv s (kindAt c i)
inductive SpInRI (CD CA CS : Addr) (vs : List V) (H : Hp) (Q : VK) : Prop
  | mk (z : SA) (s : Vbtaaf.State) (nl : Addr) (c : Nat) (ns : List Int) (h1 : vs = [.ref z.st, .int c, .ref nl]) (h2 : StoryAt CD CA CS H z s) (h3 : s.facts ≤ 6) (h4 : H nl = some (.lst (ns.map V.int))) (h5 : c < 16) (h6 : (ns.length ≤ (kindsOf c).length ∨ c = 9 ∨ c = 10)) (h7 : (∀ H', Same H H' → InR s c ns → Q (.bl true) H')) (h8 : ∀ H', Same H H' → ¬ InR s c ns → Q (.bl false) H') : SpInRI CD CA CS vs H Q
noncomputable def spInR (CD CA CS : Addr) : Sp := fun vs H Q _ => SpInRI CD CA CS vs H Q
theorem scInR : FnScope ["story", "call", "numbers", "place", "number", "kind"] ["story", "call", "numbers"] (defScope sInR) := ⟨rfl, rfl, rfl, by decide +kernel, rfl, by decide +kernel, by decide +kernel⟩
inductive InRF (H : Hp) (s : Vbtaaf.State) (z : SA) (c : Nat) (nl : Addr) (ns : List Int) (i : Nat) (σ : L2.St) (H' : Hp) : Prop
  | mk  (h1 : (∃ v3 v4 v5 : Option V, σ = [some (.ref z.st), some (.int c), some (.ref nl), v3, v4, v5])) (h2 : Same H H') (h3 : ∀ (j : Nat) (n : Int), j < i → ns[j]? = some n → lst (kindAt c j) ≤ n ∧ n < abv s (kindAt c j)) : InRF H s z c nl ns i σ H'
noncomputable def wInR1 (K : PySem.W.Frag) (CD CA CS : Addr) : TS := tAsg (tCall (spKindAt) [] E0 (tCons (tVar 1) (tCons (tVar 3) tNil))) (gName 5)
noncomputable def wInR2 (K : PySem.W.Frag) (CD CA CS : Addr) : TS := tRet (tC (.bl false))
noncomputable def wInR3 (K : PySem.W.Frag) (CD CA CS : Addr) : TS := tIfS (tOr (tTest (tOp (rI0 fun i j => V.bl (decide (i < j))) (tVar 4) (tCall (spLeast) [] E0 (tCons (tVar 5) tNil)))) (tTest (tOp (rI0 fun i j => V.bl (decide (j ≤ i))) (tVar 4) (tCall (spAbove CD CA CS) [] E0 (tCons (tVar 0) (tCons (tVar 5) tNil)))))) (wInR2 K CD CA CS) tNext
noncomputable def wInR4 (K : PySem.W.Frag) (CD CA CS : Addr) : TS := tSeq (wInR1 K CD CA CS) (wInR3 K CD CA CS)
noncomputable def wInR5 (K : PySem.W.Frag) (CD CA CS : Addr) : TS := tFor (iEnum K (tCons (tVar 2) tNil)) (gTup K 2 (gCons (gName 3) (gCons (gName 4) gNil))) (wInR4 K CD CA CS)
noncomputable def wInR6 (K : PySem.W.Frag) (CD CA CS : Addr) : TS := tRet (tC (.bl true))
noncomputable def wInR7 (K : PySem.W.Frag) (CD CA CS : Addr) : TS := tSeq (wInR5 K CD CA CS) (wInR6 K CD CA CS)
theorem ok_inR {f : Addr} {fd : FuncData} {k : Nat} (F : Fun K "all_in_range" "all_in_range" sInR f fd) (T : Tx K mg CD CA CS) (hK : Own P w K mg base "kind_at" ["call", "place"] k spKindAt) (hL : Own P w K mg base "least" ["kind"] k spLeast)
    (hA : Own P w K mg base "above" ["story", "kind"] k (spAbove CD CA CS)) : FnOk P w K mg base CX0 (k + 1) f fd ["story", "call", "numbers"] (spInR CD CA CS) := by
  have sc := scInR
  obtain ⟨_, _, G_kind_at, b_kind_at, k_kind_at, m_kind_at⟩ := hK
  obtain ⟨_, _, G_least, b_least, k_least, m_least⟩ := hL
  obtain ⟨_, _, G_above, b_above, k_above, m_above⟩ := hA
  refine F.ok sc (fun vs H Q E h => ?_) (fun cdv A outer s0 H vs Q E hr h => ?_)
  · obtain ⟨z, s, nl, c, ns, rfl, _⟩ := h
    rfl
  · obtain ⟨z, s, nl, c, ns, rfl, S, h6, hnl, hc, hlen, kT, kF⟩ := h
    refine ⟨(wInR7 K CD CA CS), (pss_cons
      (ps_for PassesOwn.never rfl (pi_enum rfl T.enumerate (pa_cons (pv 2) pa_nil)) (pg_tup rfl (pgs_cons (pg_name (i := 3) sc.nd rfl (Or.inl rfl)) (pgs_cons (pg_name (i := 4) sc.nd rfl (Or.inl rfl)) pgs_nil)))
        (pss_cons
          (ps_set (i := 5) sc.nd rfl (Or.inl rfl) (pe_call G_kind_at hr rfl m_kind_at k_kind_at b_kind_at .nil pass0 (pa_cons (pv 1) (pa_cons (pv 3) pa_nil))))
        (pss_one
          (ps_if (PW.pt (pw_or (pt_cmpR op_lt (pv 4) (pe_call G_least hr rfl m_least k_least b_least .nil pass0 (pa_cons (pv 5) pa_nil)) (nomark _)) (pw_or1 (pt_cmpR op_ge (pv 4) (pe_call G_above hr rfl m_above k_above b_above .nil pass0 (pa_cons (pv 0) (pa_cons (pv 5) pa_nil))) (nomark _)))))
            (pss_one
              (ps_ret pe_bl))
            pss_nil))))
    (pss_one
      (ps_ret pe_bl))), ?_⟩
    refine ⟨_, rfl, nl, _, rfl, SqL.of hnl, for_enum (K := K) (a := nl) (xs := ns.map V.int)
      (InRF H s z c nl ns)
      ⟨⟨none, none, none, rfl⟩, same_refl, fun j n hj => absurd hj (Nat.not_lt_zero _)⟩ (fun i σ H' _ ⟨_, sm, _⟩ => SqL.of (sm _ _ hnl)) ?_ ?_⟩
    · rintro i x σ H' Tt hx ⟨⟨v3, v4, v5, rfl⟩, sm, hall⟩ hT
      obtain ⟨n, hn, rfl⟩ : ∃ n, ns[i]? = some n ∧ x = V.int n := by
        rw [List.getElem?_map] at hx
        cases e : ns[i]? with
        | none => rw [e] at hx; cases hx
        | some n => rw [e] at hx; exact ⟨n, rfl, (Option.some.inj hx).symm⟩
      have hil : i < ns.length := (List.getElem?_eq_some_iff.mp hn).1
      have sm2 : Same H (upd H' Tt (.tup [.int (i : Nat), .int n])) := same_upd sm hT
      have bad : ¬ (lst (kindAt c i) ≤ n ∧ n < abv s (kindAt c i)) → Q (.bl false) (upd H' Tt (.tup [.int (i : Nat), .int n])) := fun h => kF _ sm2 fun q => h (q i n hn)
      refine ⟨Tt, _, rfl, SqT.of upd_same, rfl, _, _, rfl, _, _, rfl, rfl, ?_⟩
      refine ⟨_, rfl, _, rfl, c, i, rfl, hc, ?_, ?_⟩
      · rcases hlen with h | h
        · exact .inl (Nat.lt_of_lt_of_le hil h)
        · exact .inr h
      refine ⟨_, rfl, _, rfl, kindAt c i, rfl, _, _, rfl, rfl, _, rfl, iteD (fun h => iteT (bad (by omega))) (fun h => ?_)⟩
      refine ⟨_, rfl, _, rfl, _, rfl, z, s, kindAt c i, rfl, S.same sm2, h6, _, _, rfl, rfl, _, rfl, iteD (fun h' => bad (by omega)) (fun h' => ?_)⟩
      refine ⟨⟨_, _, _, rfl⟩, sm2, fun j m hj hm => ?_⟩
      by_cases hji : j < i
      · exact hall j m hji hm
      · have e : j = i := by omega
        subst e
        rw [hn] at hm
        cases hm
        omega
    · rintro σ H' ⟨⟨v3, v4, v5, rfl⟩, sm, hall⟩
      rw [List.length_map] at hall
      exact kT _ sm fun i n hn => hall i n (List.getElem?_eq_some_iff.mp hn).1 hn
end
end Ap
end
section
set_option Elab.async false
set_option linter.all false
set_option maxRecDepth 100000
set_option maxHeartbeats 4000000
namespace Ap
open PySem PySem.Spec PyProof.Rows L2
section
variable {P : Program} {w : World} {K : PySem.W.Frag} {mg : Str → Option Value} {base : Heap} {CD CA CS : Addr}
inductive SpTurnI (CD CA CS : Addr) (vs : List V) (H : Hp) (Q : VK) : Prop
  | mk (z : SA) (s : Vbtaaf.State) (p : Nat) (h1 : vs = [.ref z.st, .int p]) (h2 : StoryAt CD CA CS H z s) (h3 : My.SOk s) (h4 : p < s.actors.length) (h5 : ∀ (H' : Hp) (l : Addr), StoryAt CD CA CS H' z (Vbtaaf.turn s p).1 → H' l = some (.lst (vN (My.told1 (Vbtaaf.turn s p)))) → H l = none → Kept H H' z → Q (.ref l) H') : SpTurnI CD CA CS vs H Q
noncomputable def spTurn (CD CA CS : Addr) : Sp := fun vs H Q _ => SpTurnI CD CA CS vs H Q
theorem scTurn : FnScope ["story", "actor", "one", "plan", "deed"] ["story", "actor"] (defScope sTurn) := ⟨rfl, rfl, rfl, by decide +kernel, rfl, by decide +kernel, by decide +kernel⟩
theorem kept_upd {H : Hp} {z : SA} {q : Addr} {o : HO} (hq : q ∈ foot z) : Kept H (upd H q o) z := fun b u h hb => by
  rw [upd_ne (fun e => hb (by rw [e]; exact hq))]
  exact h
theorem kept_new {H : Hp} {z : SA} {l : Addr} {o : HO} (hl : H l = none) : Kept H (upd H l o) z := fun b u h _ => by
  rw [upd_ne (ne_of_none h hl)]
  exact h
noncomputable def wTurn1 (K : PySem.W.Frag) (CD CA CS : Addr) : TS := tAsg (tOp (rIxL K) (tFld K (tVar 0) "actors") (tVar 1)) (gName 2)
noncomputable def wTurn2 (K : PySem.W.Frag) (CD CA CS : Addr) : TS := tAsg (tCall (spPlan CD CA CS) [] E0 (tCons (tVar 0) (tCons (tVar 1) (tCons (tFld K (tVar 2) "belief") tNil)))) (gName 3)
noncomputable def wTurn3 (K : PySem.W.Frag) (CD CA CS : Addr) : TS := tRet (tLst (tCons (tC (.int 1)) tNil))
noncomputable def wTurn4 (K : PySem.W.Frag) (CD CA CS : Addr) : TS := tIfS (tB (tIsN (tVar 3))) (wTurn3 K CD CA CS) tNext
noncomputable def wTurn5 (K : PySem.W.Frag) (CD CA CS : Addr) : TS := tRet (tLst (tCons (tC (.int 0)) tNil))
noncomputable def wTurn6 (K : PySem.W.Frag) (CD CA CS : Addr) : TS := tIfS (tTest (tOp (rEqL K) (tVar 3) (tLst tNil))) (wTurn5 K CD CA CS) tNext
noncomputable def wTurn7 (K : PySem.W.Frag) (CD CA CS : Addr) : TS := tAsg (tOp (rIxL K) (tFld K (tVar 0) "deeds") (tOp (rIxL K) (tVar 3) (tC (.int 0)))) (gName 4)
noncomputable def wTurn8 (K : PySem.W.Frag) (CD CA CS : Addr) : TS := sFld K (tVar 2) (tMeth CD "brings" (spBrings CD) [] E0 (tVar 4) (tCons (tFld K (tVar 2) "belief") tNil)) "belief"
noncomputable def wTurn9 (K : PySem.W.Frag) (CD CA CS : Addr) : TS := tDrop (tMeth CS "set_world" (spSetW CD CA CS) [] E0 (tVar 0) (tCons (tMeth CD "brings" (spBrings CD) [] E0 (tVar 4) (tCons (tFld K (tVar 0) "world") tNil)) tNil))
noncomputable def wTurn10 (K : PySem.W.Frag) (CD CA CS : Addr) : TS := tRet (tLst (tCons (tC (.int 2)) (tCons (tOp (rIxL K) (tVar 3) (tC (.int 0))) tNil)))
noncomputable def wTurn11 (K : PySem.W.Frag) (CD CA CS : Addr) : TS := tSeq (wTurn9 K CD CA CS) (wTurn10 K CD CA CS)
noncomputable def wTurn12 (K : PySem.W.Frag) (CD CA CS : Addr) : TS := tSeq (wTurn8 K CD CA CS) (wTurn11 K CD CA CS)
noncomputable def wTurn13 (K : PySem.W.Frag) (CD CA CS : Addr) : TS := tIfS (tB (tMeth CD "can_be_done" (spCan CD) [] E0 (tVar 4) (tCons (tFld K (tVar 0) "world") tNil))) (wTurn12 K CD CA CS) tNext
noncomputable def wTurn14 (K : PySem.W.Frag) (CD CA CS : Addr) : TS := tDrop (tMeth CA "learn" (spLearn CA) [] E0 (tVar 2) (tCons (tOp (rI0 fun i j => V.int (Builtin.bitOr i j)) (tFld K (tVar 4) "must") (tFld K (tVar 4) "must_not")) (tCons (tFld K (tVar 0) "world") tNil)))
noncomputable def wTurn15 (K : PySem.W.Frag) (CD CA CS : Addr) : TS := tRet (tLst (tCons (tC (.int 3)) (tCons (tOp (rIxL K) (tVar 3) (tC (.int 0))) tNil)))
noncomputable def wTurn16 (K : PySem.W.Frag) (CD CA CS : Addr) : TS := tSeq (wTurn14 K CD CA CS) (wTurn15 K CD CA CS)
noncomputable def wTurn17 (K : PySem.W.Frag) (CD CA CS : Addr) : TS := tSeq (wTurn13 K CD CA CS) (wTurn16 K CD CA CS)
noncomputable def wTurn18 (K : PySem.W.Frag) (CD CA CS : Addr) : TS := tSeq (wTurn7 K CD CA CS) (wTurn17 K CD CA CS)
noncomputable def wTurn19 (K : PySem.W.Frag) (CD CA CS : Addr) : TS := tSeq (wTurn6 K CD CA CS) (wTurn18 K CD CA CS)
noncomputable def wTurn20 (K : PySem.W.Frag) (CD CA CS : Addr) : TS := tSeq (wTurn4 K CD CA CS) (wTurn19 K CD CA CS)
noncomputable def wTurn21 (K : PySem.W.Frag) (CD CA CS : Addr) : TS := tSeq (wTurn2 K CD CA CS) (wTurn20 K CD CA CS)
noncomputable def wTurn22 (K : PySem.W.Frag) (CD CA CS : Addr) : TS := tSeq (wTurn1 K CD CA CS) (wTurn21 K CD CA CS)
theorem ok_turn {f : Addr} {fd : FuncData} {k : Nat} (F : Fun K "take_turn" "take_turn" sTurn f fd) (T : Tx K mg CD CA CS) (U : Ty mg) (hP : Own P w K mg base "plan_from" ["story", "actor", "world"] k (spPlan CD CA CS))
    (hB : OwnM P w K mg base CD "can_be_done" ["self", "world"] k (spCan CD)) (hR : OwnM P w K mg base CD "brings" ["self", "world"] k (spBrings CD)) (hS : OwnM P w K mg base CS "set_world" ["self", "world"] k (spSetW CD CA CS))
    (hL : OwnM P w K mg base CA "learn" ["self", "facts", "world"] k (spLearn CA)) : FnOk P w K mg base CX0 (k + 1) f fd ["story", "actor"] (spTurn CD CA CS) := by
  have sc := scTurn
  obtain ⟨t0, g0⟩ := U.CONTENT
  obtain ⟨t1, g1⟩ := U.NO_PLAN
  obtain ⟨t2, g2⟩ := U.DONE
  obtain ⟨t3, g3⟩ := U.STOPPED
  obtain ⟨_, _, G_plan_from, b_plan_from, k_plan_from, m_plan_from⟩ := hP
  obtain ⟨_, _, G_can_be_done, b_can_be_done, t_can_be_done⟩ := hB
  obtain ⟨_, _, G_brings, b_brings, t_brings⟩ := hR
  obtain ⟨_, _, G_set_world, b_set_world, t_set_world⟩ := hS
  obtain ⟨_, _, G_learn, b_learn, t_learn⟩ := hL
  refine F.ok sc (fun vs H Q E h => ?_) (fun cdv A outer s0 H vs Q E hr h => ?_)
  · obtain ⟨z, s, p, rfl, _⟩ := h
    rfl
  · obtain ⟨z, s, p, rfl, S, hs, hp, k⟩ := h
    have hu := hu_room hr
    obtain ⟨dxS, hst⟩ := S.st
    obtain ⟨q, hq, hpa, dxa, hqa⟩ := S.actAt hp
    have hao := hs.actors _ (List.mem_of_getElem? hpa)
    have hqf : q ∈ foot z := foot_mem.mpr (.inr (.inr (.inr (List.mem_of_getElem? hq))))
    refine ⟨(wTurn22 K CD CA CS), (pss_cons
      (ps_set (i := 2) sc.nd rfl (Or.inl rfl) (pe_ix ix_list (pe_fld (pv 0) rfl) (pv 1) (fun _ _ => rfl)))
    (pss_cons
      (ps_set (i := 3) sc.nd rfl (Or.inl rfl) (pe_call G_plan_from hr rfl m_plan_from k_plan_from b_plan_from .nil pass0 (pa_cons (pv 0) (pa_cons (pv 1) (pa_cons (pe_fld (pv 2) rfl) pa_nil)))))
    (pss_cons
      (ps_if (pt_cmp (pc_isN (pv 3)))
        (pss_one
          (ps_ret (pe_lst (pa_cons (pe_glob (v := .int 1) rfl g1 ⟨_, rfl⟩) pa_nil))))
        pss_nil)
    (pss_cons
      (ps_if (pt_cmpR (op_eqL hu) (pv 3) (pe_lst pa_nil) (nomark _))
        (pss_one
          (ps_ret (pe_lst (pa_cons (pe_glob (v := .int 0) rfl g0 ⟨_, rfl⟩) pa_nil))))
        pss_nil)
    (pss_cons
      (ps_set (i := 4) sc.nd rfl (Or.inl rfl) (pe_ix ix_list (pe_fld (pv 0) rfl) (pe_ix ix_list (pv 3) pe_int (fun _ _ => rfl)) (fun _ _ => rfl)))
    (pss_cons
      (ps_if (pt_val (pe_meth (pv 4) T.cDeed t_can_be_done G_can_be_done hr b_can_be_done .nil pass0 (pa_cons (pe_fld (pv 0) rfl) pa_nil)))
        (pss_cons
          (ps_fld (pv 2) (pe_meth (pv 4) T.cDeed t_brings G_brings hr b_brings .nil pass0 (pa_cons (pe_fld (pv 2) rfl) pa_nil)) rfl)
        (pss_cons
          (ps_expr (pe_meth (pv 0) T.cStory t_set_world G_set_world hr b_set_world .nil pass0 (pa_cons (pe_meth (pv 4) T.cDeed t_brings G_brings hr b_brings .nil pass0 (pa_cons (pe_fld (pv 0) rfl) pa_nil)) pa_nil)))
        (pss_one
          (ps_ret (pe_lst (pa_cons (pe_glob (v := .int 2) rfl g2 ⟨_, rfl⟩) (pa_cons (pe_ix ix_list (pv 3) pe_int (fun _ _ => rfl)) pa_nil)))))))
        pss_nil)
    (pss_cons
      (ps_expr (pe_meth (pv 2) T.cActor t_learn G_learn hr b_learn .nil pass0 (pa_cons (pe_op op_or (pe_fld (pv 4) rfl) (pe_fld (pv 4) rfl)) (pa_cons (pe_fld (pv 0) rfl) pa_nil))))
    (pss_one
      (ps_ret (pe_lst (pa_cons (pe_glob (v := .int 3) rfl g3 ⟨_, rfl⟩) (pa_cons (pe_ix ix_list (pv 3) pe_int (fun _ _ => rfl)) pa_nil)))))))))))), ?_⟩
    -- one = story.actors[actor]
    refine ⟨_, rfl, z.st, CS, dxS, _, _, rfl, hst, T.cStory, T.sActors, sF_actors _ _ _ _, _, rfl, z.la, _, _, _, rfl, rfl, SqL.of S.la, atI_nat (v := V.ref q) (by rw [List.getElem?_map, hq]; rfl), ?_⟩
    -- plan = plan_from(story, actor, one.belief)
    refine ⟨_, rfl, _, rfl, _, rfl, q, CA, dxa, _, _, rfl, hqa, T.cActor, T.aBelief, aF_belief _, ?_⟩
    refine ⟨z, s, p, (Vbtaaf.actorOf s p).belief, rfl, S, hs, hp, hao.belief, fun H1 sm e1 _ => ?_, fun H1 lp ks sm e1 _ hlen hf hlp => ?_⟩
    · refine ⟨_, rfl, _, rfl, iteD (fun _ => ⟨one_le, fun l hl => ?_⟩) (fun h => absurd rfl h)⟩
      rw [My.turn_none e1] at k
      exact k _ l (S.same (same_upd sm hl)) upd_same (Same.none sm hl) (Same.kept (same_upd sm hl) z)
    refine ⟨_, rfl, _, rfl, iteD (fun h => by cases h) (fun _ => ?_)⟩
    -- plan == []
    refine ⟨_, rfl, Nat.zero_le _, fun l0 hl0 => ?_⟩
    have sm2 : Same H (upd H1 l0 (.lst [])) := same_upd sm hl0
    have hlp2 : upd H1 l0 (.lst []) lp = some (.lst (vN ks)) := by rw [upd_ne (ne_of_none hlp hl0)]; exact hlp
    refine ⟨lp, l0, _, rfl, rfl, SqL.of hlp2, SqL.of upd_same, _, rfl, iteD (fun h => ⟨one_le, fun l hl => ?_⟩) (fun h => ?_)⟩
    · have e : ks = [] := by
        cases ks with
        | nil => rfl
        | cons a b => exact absurd h (by simp [vN])
      rw [e] at e1
      rw [My.turn_nil e1] at k
      exact k _ l (S.same (same_upd sm2 hl)) upd_same (Same.none sm2 hl) (Same.kept (same_upd sm2 hl) z)
    obtain ⟨kn, ks', rfl⟩ : ∃ kn ks', ks = kn :: ks' := by
      cases ks with
      | nil => exact absurd rfl h
      | cons a b => exact ⟨a, b, rfl⟩
    obtain ⟨dd, hdk, hda, hde⟩ := My.plan_cons hs hao.belief e1
    have hdo := hs.deeds dd (List.mem_of_getElem? hdk)
    generalize eH2 : upd H1 l0 (.lst []) = H2 at sm2 hlp2 ⊢
    have S2 := S.same sm2
    have hst2 := sm2 _ _ hst
    have hqa2 := sm2 _ _ hqa
    have hlpf : ¬ lp ∈ foot z := S.fresh hf
    obtain ⟨dp, hdp, dxd, hdd⟩ := S2.deedAt hdk
    -- deed = story.deeds[plan[0]]
    refine ⟨_, rfl, z.st, CS, dxS, _, _, rfl, hst2, T.cStory, T.sDeeds, sF_deeds _ _ _ _, _, rfl, lp, _, _, _, rfl, rfl, SqL.of hlp2, at0, z.ld, _, _, _, rfl, rfl, SqL.of S2.ld, atI_nat (v := V.ref dp) (by rw [List.getElem?_map, hdp]; rfl), ?_⟩
    -- if deed.can_be_done(story.world)
    refine ⟨_, rfl, dp, dxd, _, rfl, hdd, dF_can dd, _, rfl, z.st, CS, dxS, _, _, rfl, hst2, T.cStory, T.sWorld, sF_world _ _ _ _, ?_⟩
    refine ⟨dp, dd, s.world, rfl, ⟨dxd, hdd⟩, _, rfl, ?_⟩
    refine iteB (fun hc => ?_) (fun hc => ?_)
    · rw [My.turn_done e1 (by rw [hde]; exact hc), hde, My.modify_set hpa] at k
      refine ⟨_, rfl, dp, dxd, _, rfl, hdd, dF_brings dd, _, rfl, q, CA, dxa, _, _, rfl, hqa2, T.cActor, T.aBelief, aF_belief _, ?_⟩
      refine ⟨dp, dd, s.facts, (Vbtaaf.actorOf s p).belief, rfl, ⟨dxd, hdd⟩, hs.facts, hao.belief, hdo.del, ?_⟩
      refine ⟨_, rfl, q, CA, dxa, _, rfl, hqa2, T.cActor, T.aBelief, (by show 4 < 1000; decide), ?_⟩
      rw [aF_put_belief]
      have S3 := S2.setA (dx := dxa) (a := { Vbtaaf.actorOf s p with belief := Vbtaaf.done s.facts dd (Vbtaaf.actorOf s p).belief }) hq
      have kp3 : Kept H2 (upd H2 q (.ins CA dxa (aF { Vbtaaf.actorOf s p with belief := Vbtaaf.done s.facts dd (Vbtaaf.actorOf s p).belief }))) z := kept_upd hqf
      have hlp3 := kp3 _ _ hlp2 hlpf
      generalize upd H2 q (.ins CA dxa (aF { Vbtaaf.actorOf s p with belief := Vbtaaf.done s.facts dd (Vbtaaf.actorOf s p).belief })) = H3 at S3 kp3 hlp3 ⊢
      obtain ⟨dxS3, hst3⟩ := S3.st
      obtain ⟨dp3, hdp3, dxd3, hdd3⟩ := S3.deedAt (k := kn) (d := dd) hdk
      have edp : dp3 = dp := Option.some.inj (hdp3.symm.trans hdp)
      subst edp
      refine ⟨_, rfl, z.st, dxS3, _, rfl, hst3, sF_setw _ _ _ _, _, rfl, dp3, dxd3, _, rfl, hdd3, dF_brings dd, _, rfl, z.st, CS, dxS3, _, _, rfl, hst3, T.cStory, T.sWorld, sF_world _ _ _ _, ?_⟩
      refine ⟨dp3, dd, s.facts, s.world, rfl, ⟨dxd3, hdd3⟩, hs.facts, hs.world, hdo.del, ?_⟩
      refine ⟨z, _, Vbtaaf.done s.facts dd s.world, rfl, S3, hs.facts, fun a ha => ?_, fun H4 S4 kp4 => ?_⟩
      · rcases My.mem_set_or ha with ha | ha
        · exact hs.actors a ha
        · subst ha
          exact ⟨hao.sight, hao.on, hao.off, My.done_lt hdo.add hao.belief⟩
      have kpA : Kept H H4 z := ((Same.kept sm2 z).trans kp3).trans kp4
      refine ⟨_, rfl, lp, _, _, _, rfl, rfl, SqL.of (kp4 _ _ hlp3 hlpf), at0, two_le, fun l hl => ?_⟩
      have hl0' := kpA.none S4 hl
      exact k _ l (S4.same (same_upd same_refl hl)) upd_same hl0' (kpA.trans (kept_new hl))
    · rw [My.turn_stopped e1 (by rw [hde, hc]; exact Bool.false_ne_true), hde, My.modify_set hpa] at k
      refine ⟨_, rfl, q, dxa, _, rfl, hqa2, aF_learn _, _, rfl, dp, CD, dxd, _, _, rfl, hdd, T.cDeed, T.dMust, dF_must dd, _, rfl, dp, CD, dxd, _, _, rfl, hdd, T.cDeed, T.dMustNot, dF_must_not dd, _, _, rfl, rfl, _, rfl, z.st, CS, dxS, _, _, rfl, hst2, T.cStory, T.sWorld, sF_world _ _ _ _, ?_⟩
      dsimp only
      rw [bOr]
      refine ⟨q, dxa, Vbtaaf.actorOf s p, s.facts, dd.on ||| dd.off, s.world, rfl, hqa2, hs.facts, Nat.or_lt_two_pow hdo.on hdo.off, hao.belief, ?_⟩
      have S3 := S2.setA (dx := dxa) (a := { Vbtaaf.actorOf s p with belief := Vbtaaf.corrected s.facts (dd.on ||| dd.off) s.world (Vbtaaf.actorOf s p).belief }) hq
      have kp3 : Kept H2 (upd H2 q (.ins CA dxa (aF { Vbtaaf.actorOf s p with belief := Vbtaaf.corrected s.facts (dd.on ||| dd.off) s.world (Vbtaaf.actorOf s p).belief }))) z := kept_upd hqf
      have hlp3 := kp3 _ _ hlp2 hlpf
      generalize upd H2 q (.ins CA dxa (aF { Vbtaaf.actorOf s p with belief := Vbtaaf.corrected s.facts (dd.on ||| dd.off) s.world (Vbtaaf.actorOf s p).belief })) = H3 at S3 kp3 hlp3 ⊢
      have kpA : Kept H H3 z := (Same.kept sm2 z).trans kp3
      refine ⟨_, rfl, lp, _, _, _, rfl, rfl, SqL.of hlp3, at0, two_le, fun l hl => ?_⟩
      have hl0' := kpA.none S3 hl
      exact k _ l (S3.same (same_upd same_refl hl)) upd_same hl0' (kpA.trans (kept_new hl))
inductive SpRoundI (CD CA CS : Addr) (vs : List V) (H : Hp) (Q : VK) : Prop
  | mk (z : SA) (s : Vbtaaf.State) (h1 : vs = [.ref z.st]) (h2 : StoryAt CD CA CS H z s) (h3 : My.SOk s) (h4 : ∀ H' : Hp, StoryAt CD CA CS H' z (Vbtaaf.round s s.actors.length 0 false).1 → Kept H H' z → Q (.bl (Vbtaaf.round s s.actors.length 0 false).2) H') : SpRoundI CD CA CS vs H Q
noncomputable def spRound (CD CA CS : Addr) : Sp := fun vs H Q _ => SpRoundI CD CA CS vs H Q
theorem scRound : FnScope ["story", "happened", "actor", "outcome"] ["story"] (defScope sRound) := ⟨rfl, rfl, rfl, by decide +kernel, rfl, by decide +kernel, by decide +kernel⟩
theorem told_at0 (x : Vbtaaf.State × Nat × Nat) : atI (vN (My.told1 x)) 0 = some (V.int ((x.2.1 : Nat) : Int)) := by
  unfold My.told1
  split
  · exact at0
  · exact at0
inductive RoundF (CD CA CS : Addr) (H : Hp) (s : Vbtaaf.State) (z : SA) (i : Nat) (σ : L2.St) (H' : Hp) : Prop
  | mk (t : Vbtaaf.State) (b : Bool) (v2 v3 : Option V) (h1 : σ = [some (.ref z.st), some (.bl b), v2, v3]) (h2 : StoryAt CD CA CS H' z t) (h3 : My.SOk t) (h4 : t.actors.length = s.actors.length) (h5 : Kept H H' z) (h6 : i ≤ s.actors.length) (h7 : Vbtaaf.round s s.actors.length 0 false = Vbtaaf.round t (s.actors.length - i) i b) : RoundF CD CA CS H s z i σ H'
noncomputable def wRound1 (K : PySem.W.Frag) (CD CA CS : Addr) : TS := tAsg (tC (.bl false)) (gName 1)
noncomputable def wRound2 (K : PySem.W.Frag) (CD CA CS : Addr) : TS := tAsg (tOp (rIxL K) (tCall (spTurn CD CA CS) [] E0 (tCons (tVar 0) (tCons (tVar 2) tNil))) (tC (.int 0))) (gName 3)
noncomputable def wRound3 (K : PySem.W.Frag) (CD CA CS : Addr) : TS := tAsg (tC (.bl true)) (gName 1)
noncomputable def wRound4 (K : PySem.W.Frag) (CD CA CS : Addr) : TS := tIfS (tOr (tTest (tOp (rEq) (tVar 3) (tC (.int 2)))) (tTest (tOp (rEq) (tVar 3) (tC (.int 3))))) (wRound3 K CD CA CS) tNext
noncomputable def wRound5 (K : PySem.W.Frag) (CD CA CS : Addr) : TS := tSeq (wRound2 K CD CA CS) (wRound4 K CD CA CS)
noncomputable def wRound6 (K : PySem.W.Frag) (CD CA CS : Addr) : TS := tFor (iRng1 (tCons (tCB (LenI K) (tCons (tFld K (tVar 0) "actors") tNil)) tNil)) (gName 2) (wRound5 K CD CA CS)
noncomputable def wRound7 (K : PySem.W.Frag) (CD CA CS : Addr) : TS := tRet (tVar 1)
noncomputable def wRound8 (K : PySem.W.Frag) (CD CA CS : Addr) : TS := tSeq (wRound6 K CD CA CS) (wRound7 K CD CA CS)
noncomputable def wRound9 (K : PySem.W.Frag) (CD CA CS : Addr) : TS := tSeq (wRound1 K CD CA CS) (wRound8 K CD CA CS)
theorem ok_round {f : Addr} {fd : FuncData} {k : Nat} (F : Fun K "take_round" "take_round" sRound f fd) (T : Tx K mg CD CA CS) (U : Ty mg) (hT : Own P w K mg base "take_turn" ["story", "actor"] k (spTurn CD CA CS)) : FnOk P w K mg base CX0 (k + 1) f fd ["story"] (spRound CD CA CS) := by
  have sc := scRound
  obtain ⟨t2, g2⟩ := U.DONE
  obtain ⟨t3, g3⟩ := U.STOPPED
  obtain ⟨_, _, G_take_turn, b_take_turn, k_take_turn, m_take_turn⟩ := hT
  refine F.ok sc (fun vs H Q E h => ?_) (fun cdv A outer s0 H vs Q E hr h => ?_)
  · obtain ⟨z, s, rfl, _⟩ := h
    rfl
  · obtain ⟨z, s, rfl, S, hs, k⟩ := h
    obtain ⟨dxS, hst⟩ := S.st
    have hal := hs.alen
    refine ⟨(wRound9 K CD CA CS), (pss_cons
      (ps_set (i := 1) sc.nd rfl (Or.inl rfl) pe_bl)
    (pss_cons
      (ps_for PassesOwn.never rfl (pi_range1 rfl T.range (pa_cons (pe_callB call_len_seq (by rfl) T.len PySem.boot_len (pa_cons (pe_fld (pv 0) rfl) pa_nil)) pa_nil)) (pg_name (i := 2) sc.nd rfl (Or.inl rfl))
        (pss_cons
          (ps_set (i := 3) sc.nd rfl (Or.inl rfl) (pe_ix ix_list (pe_call G_take_turn hr rfl m_take_turn k_take_turn b_take_turn .nil pass0 (pa_cons (pv 0) (pa_cons (pv 2) pa_nil))) pe_int (fun _ _ => rfl)))
        (pss_one
          (ps_if (PW.pt (pw_or (pt_cmpR op_eq (pv 3) (pe_glob (v := .int 2) rfl g2 ⟨_, rfl⟩) (nomark _)) (pw_or1 (pt_cmpR op_eq (pv 3) (pe_glob (v := .int 3) rfl g3 ⟨_, rfl⟩) (nomark _)))))
            (pss_one
              (ps_set (i := 1) sc.nd rfl (Or.inl rfl) pe_bl))
            pss_nil))))
    (pss_one
      (ps_ret (pv 1))))), ?_⟩
    refine ⟨_, rfl, z.st, CS, dxS, _, _, rfl, hst, T.cStory, T.sActors, sF_actors _ _ _ _, z.la, _, rfl, .inl (SqL.of S.la), _, rfl, (by rw [List.length_map, S.alen]; omega), (by rw [List.length_map, S.alen]; omega), ?_⟩
    have e : (((z.as.map V.ref).length : Nat) : Int).toNat = s.actors.length := by rw [Int.toNat_natCast, List.length_map, S.alen]
    rw [e]
    refine for_range (lo := 0) (n := s.actors.length) (RoundF CD CA CS H s z)
      ⟨s, false, none, none, rfl, S, hs, rfl, fun b o q _ => q, Nat.zero_le _, rfl⟩ ?_ ?_
    · rintro i σ H' hi ⟨t, b, v2, v3, rfl, S', hs', hl', kp, _, hrd⟩
      have hrd' : Vbtaaf.round s s.actors.length 0 false = Vbtaaf.round (Vbtaaf.turn t i).1 (s.actors.length - (i + 1)) (i + 1) (b || decide (2 ≤ (Vbtaaf.turn t i).2.1)) := by
        have e1 : s.actors.length - i = (s.actors.length - (i + 1)) + 1 := by omega
        rw [hrd, e1, My.round_succ]
      have hcode := My.turn_code (s := t) (p := i)
      refine ⟨_, rfl, _, rfl, z, t, i, (by rw [Int.zero_add]; rfl), S', hs', (by omega), fun H1 l S1 hl hf kp1 => ?_⟩
      refine ⟨l, _, _, _, rfl, rfl, SqL.of hl, told_at0 _, ?_⟩
      have kpA := kp.trans kp1
      have fin : ∀ b' : Bool, b' = (b || decide (2 ≤ (Vbtaaf.turn t i).2.1)) → RoundF CD CA CS H s z (i + 1) [some (.ref z.st), some (.bl b'), some (.int (0 + (i : Int))), some (.int ((Vbtaaf.turn t i).2.1 : Nat))] H1 := fun b' hb' =>
        ⟨_, b', _, _, rfl, S1, hs'.turn i, by rw [My.turn_len, hl'], kpA, hi, by rw [hb']; exact hrd'⟩
      refine ⟨_, rfl, rfl, _, rfl, iteD (fun h => iteT ?_) (fun h => ?_)⟩
      · have h := V.int.inj h
        exact fin true (by rw [decide_eq_true (by omega), Bool.or_true])
      refine ⟨_, rfl, rfl, _, rfl, iteD (fun h2 => ?_) (fun h2 => ?_)⟩
      · have h2 := V.int.inj h2
        exact fin true (by rw [decide_eq_true (by omega), Bool.or_true])
      · have n2 : (Vbtaaf.turn t i).2.1 ≠ 2 := fun e => h (by rw [e]; rfl)
        have n3 : (Vbtaaf.turn t i).2.1 ≠ 3 := fun e => h2 (by rw [e]; rfl)
        exact fin b (by rw [decide_eq_false (by omega), Bool.or_false])
    · rintro σ H' ⟨t, b, v2, v3, rfl, S', hs', hl', kp, _, hrd⟩
      rw [Nat.sub_self, My.round_zero] at hrd
      rw [hrd] at k
      exact ⟨_, rfl, k H' S' kp⟩
inductive SpRoundsI (CD CA CS : Addr) (vs : List V) (H : Hp) (Q : VK) : Prop
  | mk (z : SA) (s : Vbtaaf.State) (m : Nat) (h1 : vs = [.ref z.st, .int m]) (h2 : StoryAt CD CA CS H z s) (h3 : My.SOk s) (h4 : ∀ H' : Hp, StoryAt CD CA CS H' z (Vbtaaf.rounds s m 0).1 → Kept H H' z → Q (.int ((Vbtaaf.rounds s m 0).2 : Nat)) H') : SpRoundsI CD CA CS vs H Q
noncomputable def spRounds (CD CA CS : Addr) : Sp := fun vs H Q _ => SpRoundsI CD CA CS vs H Q
theorem scRounds : FnScope ["story", "most", "counted"] ["story", "most"] (defScope sRounds) := ⟨rfl, rfl, rfl, by decide +kernel, rfl, by decide +kernel, by decide +kernel⟩
inductive RoundsW (CD CA CS : Addr) (H : Hp) (s : Vbtaaf.State) (z : SA) (m : Nat) (mm : Nat) (σ : L2.St) (H' : Hp) : Prop
  | mk (i : Nat) (t : Vbtaaf.State) (h1 : mm = m - i) (h2 : i ≤ m) (h3 : σ = [some (.ref z.st), some (.int m), some (.int i)]) (h4 : StoryAt CD CA CS H' z t) (h5 : My.SOk t) (h6 : Kept H H' z) (h7 : Vbtaaf.rounds s m 0 = Vbtaaf.rounds t (m - i) i) : RoundsW CD CA CS H s z m mm σ H'
inductive RoundsN (CD CA CS : Addr) (H : Hp) (s : Vbtaaf.State) (z : SA) (m i : Nat) (σ' : L2.St) (H' : Hp) : Prop
  | mk (t' : Vbtaaf.State) (h1 : σ' = [some (.ref z.st), some (.int m), some (.int (i + 1 : Nat))]) (h2 : StoryAt CD CA CS H' z t') (h3 : My.SOk t') (h4 : Kept H H' z) (h5 : Vbtaaf.rounds s m 0 = Vbtaaf.rounds t' (m - (i + 1)) (i + 1)) : RoundsN CD CA CS H s z m i σ' H'
noncomputable def wRounds1 (K : PySem.W.Frag) (CD CA CS : Addr) : TS := tAsg (tC (.int 0)) (gName 2)
noncomputable def wRounds2 (K : PySem.W.Frag) (CD CA CS : Addr) : TS := tAsg (tOp (rI0 fun i j => V.int (i + j)) (tVar 2) (tC (.int 1))) (gName 2)
noncomputable def wRounds3 (K : PySem.W.Frag) (CD CA CS : Addr) : TS := tWhile (tAnd (tTest (tOp (rI0 fun i j => V.bl (decide (i < j))) (tVar 2) (tVar 1))) (tB (tCall (spRound CD CA CS) [] E0 (tCons (tVar 0) tNil)))) (wRounds2 K CD CA CS)
noncomputable def wRounds4 (K : PySem.W.Frag) (CD CA CS : Addr) : TS := tRet (tVar 2)
noncomputable def wRounds5 (K : PySem.W.Frag) (CD CA CS : Addr) : TS := tSeq (wRounds3 K CD CA CS) (wRounds4 K CD CA CS)
noncomputable def wRounds6 (K : PySem.W.Frag) (CD CA CS : Addr) : TS := tSeq (wRounds1 K CD CA CS) (wRounds5 K CD CA CS)
theorem ok_rounds {f : Addr} {fd : FuncData} {k : Nat} (F : Fun K "take_rounds" "take_rounds" sRounds f fd) (hT : Own P w K mg base "take_round" ["story"] k (spRound CD CA CS)) : FnOk P w K mg base CX0 (k + 1) f fd ["story", "most"] (spRounds CD CA CS) := by
  have sc := scRounds
  obtain ⟨_, _, G_take_round, b_take_round, k_take_round, m_take_round⟩ := hT
  refine F.ok sc (fun vs H Q E h => ?_) (fun cdv A outer s0 H vs Q E hr h => ?_)
  · obtain ⟨z, s, m, rfl, _⟩ := h
    rfl
  · obtain ⟨z, s, m, rfl, S, hs, k⟩ := h
    refine ⟨(wRounds6 K CD CA CS), (pss_cons
      (ps_set (i := 2) sc.nd rfl (Or.inl rfl) pe_int)
    (pss_cons
      (ps_while PassesOwn.never (PW.pt (pw_and (pt_cmpR op_lt (pv 2) (pv 1) (nomark _)) (pw_and1 (pt_val (pe_call G_take_round hr rfl m_take_round k_take_round b_take_round .nil pass0 (pa_cons (pv 0) pa_nil))))))
        (pss_one
          (ps_set (i := 2) sc.nd rfl (Or.inl rfl) (pe_op op_add (pv 2) pe_int))))
    (pss_one
      (ps_ret (pv 2))))), ?_⟩
    refine ⟨RoundsW CD CA CS H s z m,
      ⟨_, 0, s, rfl, Nat.zero_le _, rfl, S, hs, fun b o q _ => q, rfl⟩, ?_⟩
    rintro mm σ H2 ⟨i, t, rfl, him, rfl, S2, hs2, kp2, hrd⟩
    refine ⟨_, rfl, _, rfl, _, _, rfl, rfl, _, rfl, iteD (fun hlt => ?_) (fun hge => iteF ?_)⟩
    · have hlt : (i : Int) < (m : Int) := hlt
      have hlt : i < m := by omega
      have e1 : m - i = (m - (i + 1)) + 1 := by omega
      refine ⟨_, rfl, z, t, rfl, S2, hs2, fun H3 S3 kp3 => ⟨_, rfl, iteB (fun hb => ?_) (fun hb => ?_)⟩⟩
      · refine ⟨RoundsN CD CA CS H s z m i, ?_, ?_⟩
        · rintro σ' H' ⟨t', rfl, S', hs', kp', hr'⟩
          exact ⟨m - (i + 1), by omega, i + 1, t', rfl, hlt, rfl, S', hs', kp', hr'⟩
        · refine ⟨_, rfl, _, _, rfl, rfl, ?_⟩
          exact ⟨_, rfl, S3, hs2.round, kp2.trans kp3, by rw [hrd, e1, My.rounds_go hb]⟩
      · rw [e1, My.rounds_stop hb] at hrd
        rw [hrd] at k
        exact ⟨_, rfl, k H3 S3 (kp2.trans kp3)⟩
    · have hge : ¬ (i : Int) < (m : Int) := hge
      have e : i = m := by omega
      subst e
      rw [Nat.sub_self, My.rounds_zero] at hrd
      rw [hrd] at k
      exact ⟨_, rfl, k H2 S2 kp2⟩
end
end Ap
end
section
set_option Elab.async false
set_option linter.all false
set_option maxRecDepth 100000
set_option maxHeartbeats 4000000
namespace Ap
open PySem PySem.Spec PyProof.Rows L2
section
variable {P : Program} {w : World} {K : PySem.W.Frag} {mg : Str → Option Value} {base : Heap} {CD CA CS : Addr}
theorem Post.kept {H H' : Hp} {z : SA} {t : Vbtaaf.State} {ans : List Int} {Q : VK} {l : Addr} (k : Post CD CA CS H z (t, ans) Q) (S : StoryAt CD CA CS H' z t) (kp : Kept H H' z) (hl : H' l = none) : Q (.ref l) (upd H' l (.lst (ans.map V.int))) := by
  have hl0 := kp.none S hl
  have nf : ¬ l ∈ foot z := S.fresh hl
  refine k _ z l (S.same (same_upd same_refl hl)) rfl upd_same hl0 nf (fun b hb => .inl hb) fun b o q hb => ?_
  rw [upd_ne (ne_of_none q hl0)]
  exact kp b o q hb
theorem ints_v (l : List Nat) : (My.nInts l).map V.int = vN l := ints_vN l
noncomputable def mkProof : List Int → Vbtaaf.Call | [p] => .proof p | _ => .state
theorem scRProof : FnScope ["story", "numbers", "actor", "belief"] ["story", "numbers"] (defScope sRProof) := ⟨rfl, rfl, rfl, by decide +kernel, rfl, by decide +kernel, by decide +kernel⟩
theorem kv_keys : ∀ {q : My.Qu} {ls : List Addr}, ls.length = q.length → (kvOf q ls).map (·.1) = (q.map fun e => (e.1 : Int))
  | [], _, _ => rfl
  | e :: q, [], h => by simp at h
  | e :: q, l :: ls, h => by
    show (e.1 : Int) :: (kvOf q ls).map (·.1) = (e.1 : Int) :: (q.map fun e => (e.1 : Int))
    rw [kv_keys (by simpa using h)]
noncomputable def wRProof1 (K : PySem.W.Frag) (CD CA CS : Addr) : TS := tAsg (tOp (rIxL K) (tVar 1) (tC (.int 0))) (gName 2)
noncomputable def wRProof2 (K : PySem.W.Frag) (CD CA CS : Addr) : TS := tAsg (tFld K (tOp (rIxL K) (tFld K (tVar 0) "actors") (tVar 2)) "belief") (gName 3)
noncomputable def wRProof3 (K : PySem.W.Frag) (CD CA CS : Addr) : TS := tRet (tLst (tCons (tC (.int (-4))) tNil))
noncomputable def wRProof4 (K : PySem.W.Frag) (CD CA CS : Addr) : TS := tIfS (tB (tNotN (tCall (spPlan CD CA CS) [] E0 (tCons (tVar 0) (tCons (tVar 2) (tCons (tVar 3) tNil)))))) (wRProof3 K CD CA CS) tNext
noncomputable def wRProof5 (K : PySem.W.Frag) (CD CA CS : Addr) : TS := tRet (tOp (rCat) (tLst (tCons (tC (.int 0)) tNil)) (tCB rSortedD (tCons (tCall (spWays CD CA CS) [] E0 (tCons (tVar 0) (tCons (tVar 2) (tCons (tVar 3) tNil)))) tNil)))
noncomputable def wRProof6 (K : PySem.W.Frag) (CD CA CS : Addr) : TS := tSeq (wRProof4 K CD CA CS) (wRProof5 K CD CA CS)
noncomputable def wRProof7 (K : PySem.W.Frag) (CD CA CS : Addr) : TS := tSeq (wRProof2 K CD CA CS) (wRProof6 K CD CA CS)
noncomputable def wRProof8 (K : PySem.W.Frag) (CD CA CS : Addr) : TS := tSeq (wRProof1 K CD CA CS) (wRProof7 K CD CA CS)
theorem ok_rProof {f : Addr} {fd : FuncData} {k : Nat} (F : Fun K "reply_proof" "reply_proof" sRProof f fd) (T : Tx K mg CD CA CS) (U : Ty mg) (hP : Own P w K mg base "plan_from" ["story", "actor", "world"] k (spPlan CD CA CS))
    (hW : Own P w K mg base "ways_from" ["story", "actor", "world"] k (spWays CD CA CS)) : FnOk P w K mg base CX0 (k + 1) f fd ["story", "numbers"] (spR CD CA CS okPlan mkProof) := by
  have sc := scRProof
  obtain ⟨t4, g4⟩ := U.NOT_SO
  obtain ⟨_, _, G_plan_from, b_plan_from, k_plan_from, m_plan_from⟩ := hP
  obtain ⟨_, _, G_ways_from, b_ways_from, k_ways_from, m_ways_from⟩ := hW
  refine F.ok sc (fun vs H Q E h => ?_) (fun cdv A outer s0 H vs Q E hr h => ?_)
  · obtain ⟨z, s, nl, ns, rfl, _⟩ := h
    rfl
  · obtain ⟨z, s, nl, ns, rfl, S, hs, ⟨hnl, hno⟩, ⟨p, rfl, hp⟩, k⟩ := h
    obtain ⟨dxS, hst⟩ := S.st
    have k : Post CD CA CS H z (Vbtaaf.step s (.proof p)) Q := k
    obtain ⟨q, hq, hpa, dxa, hqa⟩ := S.actAt hp
    have hao := hs.actors _ (List.mem_of_getElem? hpa)
    refine ⟨(wRProof8 K CD CA CS), (pss_cons
      (ps_set (i := 2) sc.nd rfl (Or.inl rfl) (pe_ix ix_list (pv 1) pe_int (fun _ _ => rfl)))
    (pss_cons
      (ps_set (i := 3) sc.nd rfl (Or.inl rfl) (pe_fld (pe_ix ix_list (pe_fld (pv 0) rfl) (pv 2) (fun _ _ => rfl)) rfl))
    (pss_cons
      (ps_if (pt_cmp (pc_notN (pe_call G_plan_from hr rfl m_plan_from k_plan_from b_plan_from .nil pass0 (pa_cons (pv 0) (pa_cons (pv 2) (pa_cons (pv 3) pa_nil))))))
        (pss_one
          (ps_ret (pe_lst (pa_cons (pe_glob (v := .int (-4)) rfl g4 ⟨_, rfl⟩) pa_nil))))
        pss_nil)
    (pss_one
      (ps_ret (pe_op op_cat (pe_lst (pa_cons pe_int pa_nil)) (pe_callB (cr_sortedD rfl) (by rfl) T.sorted PyProof.Rows.boot_sorted (pa_cons (pe_call G_ways_from hr rfl m_ways_from k_ways_from b_ways_from .nil pass0 (pa_cons (pv 0) (pa_cons (pv 2) (pa_cons (pv 3) pa_nil)))) pa_nil)))))))), ?_⟩
    refine ⟨_, rfl, nl, _, _, _, rfl, rfl, SqL.of hnl, at0, ?_⟩
    refine ⟨_, rfl, z.st, CS, dxS, _, _, rfl, hst, T.cStory, T.sActors, sF_actors _ _ _ _, _, rfl, z.la, _, _, _, rfl, rfl, SqL.of S.la, atI_nat (v := V.ref q) (by rw [List.getElem?_map, hq]; rfl), q, CA, dxa, _, _, rfl, hqa, T.cActor, T.aBelief, aF_belief _, ?_⟩
    refine ⟨_, rfl, _, rfl, _, rfl, ?_⟩
    refine ⟨z, s, p, (Vbtaaf.actorOf s p).belief, rfl, S, hs, hp, hao.belief, fun H1 sm e1 _ => ?_, fun H1 lp ks sm e1 _ hlen hf hlp => ?_⟩
    · refine ⟨_, rfl, iteF ?_⟩
      rw [My.step_proof hp e1] at k
      refine ⟨one_le, fun l1 hl1 => ?_⟩
      have sm1 : Same H (upd H1 l1 (.lst [.int 0])) := same_upd sm hl1
      refine ⟨_, rfl, _, rfl, _, rfl, ?_⟩
      refine ⟨z, s, p, (Vbtaaf.actorOf s p).belief, rfl, S.same sm1, hs, hao.belief, fun H2 pl qu ls W B => ?_⟩
      refine ⟨pl, _, _, rfl, W.hp, kv_keys W.len, fun ns' l2 hpm hso hl2 => ?_⟩
      have hans := My.ways_sorted (hs.own p) hao.belief B hpm hso
      have hl1' : upd H2 l2 (.lst (ns'.map V.int)) l1 = some (.lst [.int 0]) := by
        have h1 := W.same _ _ (upd_same (H := H1) (a := l1) (o := .lst [.int 0]))
        rw [upd_ne (ne_of_none h1 hl2)]
        exact h1
      have hbd := B.bound
      have hpw := hs.pow
      have hnl' : ns'.length = qu.length := by rw [hpm.length_eq, List.length_map]
      refine ⟨l1, l2, _, _, rfl, rfl, hl1', upd_same, (by rw [List.length_map, hnl', sizeLine_eq]; show 1 + _ ≤ _; omega), fun l3 hl3 => ?_⟩
      have smA : Same H (upd H2 l2 (.lst (ns'.map V.int))) := same_upd (fun b o h => W.same b o (sm1 b o h)) hl2
      refine k.keep S (same_upd smA hl3) ?_ (Same.none smA hl3)
      rw [upd_same, hans]
      rfl
    · refine ⟨_, rfl, iteT ⟨one_le, fun l hl => ?_⟩⟩
      rw [My.step_proof4 hp e1] at k
      exact k.keep S (same_upd sm hl) upd_same (Same.none sm hl)
noncomputable def okCheck (s : Vbtaaf.State) (ns : List Int) : Prop := ∃ (p : Nat) (ws : List Nat), ns = (p : Int) :: My.nInts ws ∧ p < s.actors.length ∧ (∀ x ∈ ws, x < 2 ^ s.facts) ∧ ws.length ≤ 300
noncomputable def mkCheck : List Int → Vbtaaf.Call | p :: r => .check p r | _ => .state
theorem scRCheck : FnScope ["story", "numbers"] ["story", "numbers"] (defScope sRCheck) := ⟨rfl, rfl, rfl, by decide +kernel, rfl, by decide +kernel, by decide +kernel⟩
theorem cut1 (x : V) (xs : List V) : cutV (x :: xs) (some 1) none = xs := by
  unfold cutV
  have e1 : HT.sIx (x :: xs).length 0 (some 1) = 1 := by
    have := HT.sIx_nat (x :: xs).length 0 1
    rw [show ((1 : Nat) : Int) = 1 from rfl] at this
    rw [this]
    simp
  have e2 : HT.sIx (x :: xs).length (x :: xs).length none = (x :: xs).length := rfl
  rw [e1, e2]
  simp
theorem toNat_ints (ws : List Nat) : (My.nInts ws).map Int.toNat = ws := by
  unfold My.nInts
  rw [List.map_map]
  refine (List.map_congr_left fun x _ => ?_).trans (List.map_id ws)
  show ((x : Nat) : Int).toNat = x
  omega
noncomputable def wRCheck1 (K : PySem.W.Frag) (CD CA CS : Addr) : TS := tRet (tLst (tCons (tC (.int 0)) (tCons (tC (.int 1)) tNil)))
noncomputable def wRCheck2 (K : PySem.W.Frag) (CD CA CS : Addr) : TS := tIfS (tB (tCall (spProves CD CA CS) [] E0 (tCons (tVar 0) (tCons (tOp (rIxL K) (tVar 1) (tC (.int 0))) (tCons (tSl (rSlL K) (tVar 1) (tPart (tC (.int 1))) tNoPart) tNil))))) (wRCheck1 K CD CA CS) tNext
noncomputable def wRCheck3 (K : PySem.W.Frag) (CD CA CS : Addr) : TS := tRet (tLst (tCons (tC (.int 0)) (tCons (tC (.int 0)) tNil)))
noncomputable def wRCheck4 (K : PySem.W.Frag) (CD CA CS : Addr) : TS := tSeq (wRCheck2 K CD CA CS) (wRCheck3 K CD CA CS)
theorem ok_rCheck {f : Addr} {fd : FuncData} {k : Nat} (F : Fun K "reply_check" "reply_check" sRCheck f fd) (hP : Own P w K mg base "proves" ["story", "actor", "worlds"] k (spProves CD CA CS)) : FnOk P w K mg base CX0 (k + 1) f fd ["story", "numbers"] (spR CD CA CS okCheck mkCheck) := by
  have sc := scRCheck
  obtain ⟨_, _, G_proves, b_proves, k_proves, m_proves⟩ := hP
  refine F.ok sc (fun vs H Q E h => ?_) (fun cdv A outer s0 H vs Q E hr h => ?_)
  · obtain ⟨z, s, nl, ns, rfl, _⟩ := h
    rfl
  · obtain ⟨z, s, nl, ns, rfl, S, hs, ⟨hnl, hno⟩, ⟨p, ws, rfl, hp, hws, hwl⟩, k⟩ := h
    have k : Post CD CA CS H z (Vbtaaf.step s (.check p (My.nInts ws))) Q := k
    have hall : (My.nInts ws).all (Vbtaaf.isSet s) = true := by
      rw [List.all_eq_true]
      intro x hx
      obtain ⟨y, hy, rfl⟩ := List.mem_map.mp hx
      exact My.set_nat (hws y hy)
    rw [My.step_check hp hall, toNat_ints] at k
    have hnl : H nl = some (.lst (V.int p :: vN ws)) := by rw [hnl, List.map_cons, ints_v]
    refine ⟨(wRCheck4 K CD CA CS), (pss_cons
      (ps_if (pt_val (pe_call G_proves hr rfl m_proves k_proves b_proves .nil pass0 (pa_cons (pv 0) (pa_cons (pe_ix ix_list (pv 1) pe_int (fun _ _ => rfl)) (pa_cons (pe_slice sl_list (pv 1) (po_some pe_int) po_none) pa_nil)))))
        (pss_one
          (ps_ret (pe_lst (pa_cons pe_int (pa_cons pe_int pa_nil)))))
        pss_nil)
    (pss_one
      (ps_ret (pe_lst (pa_cons pe_int (pa_cons pe_int pa_nil)))))), ?_⟩
    refine ⟨_, rfl, _, rfl, nl, _, _, _, rfl, rfl, SqL.of hnl, at0, _, rfl, _, rfl, nl, _, rfl, SqL.of hnl, fun rl hrl => ?_⟩
    rw [cut1]
    have sm1 : Same H (upd H rl (.lst (vN ws))) := same_upd same_refl hrl
    refine ⟨z, s, p, rl, ws, rfl, S.same sm1, hs, hp, upd_same, hws, hwl, fun H2 sm2 => ⟨_, rfl, ?_⟩⟩
    have smA : Same H H2 := fun b o h => sm2 b o (sm1 b o h)
    refine iteB (fun hb => ⟨two_le, fun l hl => ?_⟩) (fun hb => ⟨two_le, fun l hl => ?_⟩)
    · rw [hb] at k
      exact k.keep S (same_upd smA hl) upd_same (Same.none smA hl)
    · rw [hb] at k
      exact k.keep S (same_upd smA hl) upd_same (Same.none smA hl)
noncomputable def okFollow (s : Vbtaaf.State) (ns : List Int) : Prop := ∃ (p : Nat) (ks : List Nat), ns = (p : Int) :: My.nInts ks ∧ p < s.actors.length ∧ (∀ x ∈ ks, x < s.deeds.length) ∧ ks.length ≤ 300
noncomputable def mkFollow : List Int → Vbtaaf.Call | p :: r => .follow p r | _ => .state
theorem scRFollow : FnScope ["story", "numbers", "number", "place"] ["story", "numbers"] (defScope sRFollow) := ⟨rfl, rfl, rfl, by decide +kernel, rfl, by decide +kernel, by decide +kernel⟩
theorem deedOf_at {s : Vbtaaf.State} {k : Nat} {d : Vbtaaf.Deed} (h : s.deeds[k]? = some d) : Vbtaaf.deedOf s k = d := by
  unfold Vbtaaf.deedOf
  rw [List.getD_eq_getElem?_getD, h]
  rfl
inductive FollowF (H1 : Hp) (s : Vbtaaf.State) (z : SA) (p : Nat) (nl : Addr) (ks : List Nat) (i : Nat) (σ : L2.St) (H' : Hp) : Prop
  | mk  (h1 : H' = H1) (h2 : (∃ v2 : Option V, σ = [some (.ref z.st), some (.ref nl), v2, none])) (h3 : ∀ (j kn : Nat), j < i → ks[j]? = some kn → (Vbtaaf.deedOf s kn).actor = p) : FollowF H1 s z p nl ks i σ H'
noncomputable def wRFollow1 (K : PySem.W.Frag) (CD CA CS : Addr) : TS := tRet (tLst (tCons (tC (.int (-1))) tNil))
noncomputable def wRFollow2 (K : PySem.W.Frag) (CD CA CS : Addr) : TS := tIfS (tTest (tOp (rNe) (tFld K (tOp (rIxL K) (tFld K (tVar 0) "deeds") (tVar 2)) "actor") (tOp (rIxL K) (tVar 1) (tC (.int 0))))) (wRFollow1 K CD CA CS) tNext
noncomputable def wRFollow3 (K : PySem.W.Frag) (CD CA CS : Addr) : TS := tFor (iList K (tSl (rSlL K) (tVar 1) (tPart (tC (.int 1))) tNoPart)) (gName 2) (wRFollow2 K CD CA CS)
noncomputable def wRFollow4 (K : PySem.W.Frag) (CD CA CS : Addr) : TS := tAsg (tCall (spPlace CD CA CS) [] E0 (tCons (tVar 0) (tCons (tOp (rIxL K) (tVar 1) (tC (.int 0))) (tCons (tSl (rSlL K) (tVar 1) (tPart (tC (.int 1))) tNoPart) tNil)))) (gName 3)
noncomputable def wRFollow5 (K : PySem.W.Frag) (CD CA CS : Addr) : TS := tRet (tLst (tCons (tC (.int 0)) (tCons (tC (.int 1)) tNil)))
noncomputable def wRFollow6 (K : PySem.W.Frag) (CD CA CS : Addr) : TS := tIfS (tTest (tOp (rEq) (tVar 3) (tC (.int 0)))) (wRFollow5 K CD CA CS) tNext
noncomputable def wRFollow7 (K : PySem.W.Frag) (CD CA CS : Addr) : TS := tRet (tLst (tCons (tC (.int 0)) (tCons (tC (.int 0)) (tCons (tVar 3) tNil))))
noncomputable def wRFollow8 (K : PySem.W.Frag) (CD CA CS : Addr) : TS := tSeq (wRFollow6 K CD CA CS) (wRFollow7 K CD CA CS)
noncomputable def wRFollow9 (K : PySem.W.Frag) (CD CA CS : Addr) : TS := tSeq (wRFollow4 K CD CA CS) (wRFollow8 K CD CA CS)
noncomputable def wRFollow10 (K : PySem.W.Frag) (CD CA CS : Addr) : TS := tSeq (wRFollow3 K CD CA CS) (wRFollow9 K CD CA CS)
theorem ok_rFollow {f : Addr} {fd : FuncData} {k : Nat} (F : Fun K "reply_follow" "reply_follow" sRFollow f fd) (T : Tx K mg CD CA CS) (U : Ty mg) (hP : Own P w K mg base "place_of_failure" ["story", "actor", "numbers"] k (spPlace CD CA CS)) : FnOk P w K mg base CX0 (k + 1) f fd ["story", "numbers"] (spR CD CA CS okFollow mkFollow) := by
  have sc := scRFollow
  obtain ⟨t1, g1⟩ := U.NOT_IN_RANGE
  obtain ⟨_, _, G_place_of_failure, b_place_of_failure, k_place_of_failure, m_place_of_failure⟩ := hP
  refine F.ok sc (fun vs H Q E h => ?_) (fun cdv A outer s0 H vs Q E hr h => ?_)
  · obtain ⟨z, s, nl, ns, rfl, _⟩ := h
    rfl
  · obtain ⟨z, s, nl, ns, rfl, S, hs, ⟨hnl, hno⟩, ⟨p, ks, rfl, hp, hks, hkl⟩, k⟩ := h
    have k : Post CD CA CS H z (Vbtaaf.step s (.follow p (My.nInts ks))) Q := k
    have hnl : H nl = some (.lst (V.int p :: vN ks)) := by rw [hnl, List.map_cons, ints_v]
    refine ⟨(wRFollow10 K CD CA CS), (pss_cons
      (ps_for PassesOwn.never rfl (pi_list (pe_slice sl_list (pv 1) (po_some pe_int) po_none)) (pg_name (i := 2) sc.nd rfl (Or.inl rfl))
        (pss_one
          (ps_if (pt_cmpR op_ne (pe_fld (pe_ix ix_list (pe_fld (pv 0) rfl) (pv 2) (fun _ _ => rfl)) rfl) (pe_ix ix_list (pv 1) pe_int (fun _ _ => rfl)) (nomark _))
            (pss_one
              (ps_ret (pe_lst (pa_cons (pe_glob (v := .int (-1)) rfl g1 ⟨_, rfl⟩) pa_nil))))
            pss_nil)))
    (pss_cons
      (ps_set (i := 3) sc.nd rfl (Or.inl rfl) (pe_call G_place_of_failure hr rfl m_place_of_failure k_place_of_failure b_place_of_failure .nil pass0 (pa_cons (pv 0) (pa_cons (pe_ix ix_list (pv 1) pe_int (fun _ _ => rfl)) (pa_cons (pe_slice sl_list (pv 1) (po_some pe_int) po_none) pa_nil)))))
    (pss_cons
      (ps_if (pt_cmpR op_eq (pv 3) pe_int (nomark _))
        (pss_one
          (ps_ret (pe_lst (pa_cons pe_int (pa_cons pe_int pa_nil)))))
        pss_nil)
    (pss_one
      (ps_ret (pe_lst (pa_cons pe_int (pa_cons pe_int (pa_cons (pv 3) pa_nil))))))))), ?_⟩
    refine ⟨_, rfl, _, rfl, nl, _, rfl, SqL.of hnl, fun rl hrl => ?_⟩
    rw [cut1]
    have sm1 : Same H (upd H rl (.lst (vN ks))) := same_upd same_refl hrl
    generalize eH1 : upd H rl (.lst (vN ks)) = H1 at sm1 ⊢
    have hrl1 : H1 rl = some (.lst (vN ks)) := by rw [← eH1, upd_same]
    have S1 := S.same sm1
    obtain ⟨dxS, hst⟩ := S1.st
    refine ⟨rl, rfl, ⟨_, SqL.of hrl1⟩, for_list (K := K) (a := rl) (xs := vN ks) (FollowF H1 s z p nl ks)
      ⟨rfl, ⟨none, rfl⟩, fun j kn hj => absurd hj (Nat.not_lt_zero _)⟩ (fun i σ H' _ ⟨e, _, _⟩ => by rw [e]; exact SqL.of hrl1) ?_ ?_⟩
    · rintro i x σ H' hi ⟨rfl, ⟨v2, rfl⟩, hbef⟩
      obtain ⟨kn, hkn, rfl⟩ := vN_at hi
      obtain ⟨dd, hdk⟩ : ∃ dd, s.deeds[kn]? = some dd := ⟨_, List.getElem?_eq_getElem (hks kn (List.mem_of_getElem? hkn))⟩
      obtain ⟨dp, hdp, dxd, hdd⟩ := S1.deedAt hdk
      refine ⟨_, rfl, z.st, CS, dxS, _, _, rfl, hst, T.cStory, T.sDeeds, sF_deeds _ _ _ _, _, rfl, z.ld, _, _, _, rfl, rfl, SqL.of S1.ld, atI_nat (v := V.ref dp) (by rw [List.getElem?_map, hdp]; rfl), dp, CD, dxd, _, _, rfl, hdd, T.cDeed, T.dActor, dF_actor dd, _, rfl, nl, _, _, _, rfl, rfl, SqL.of (sm1 _ _ hnl), at0, rfl, _, rfl, ?_⟩
      refine iteB (fun hne => ?_) (fun hne => ?_)
      · have hne : ¬ V.int (dd.actor : Int) = V.int (p : Int) := by simpa using hne
        have hna : dd.actor ≠ p := fun e => hne (by rw [e])
        refine ⟨one_le, fun l hl => ?_⟩
        rw [My.step_follow1 (.inr ?_)] at k
        · exact k.keep S (same_upd sm1 hl) upd_same (Same.none sm1 hl)
        · rw [List.all_eq_false]
          refine ⟨(kn : Int), List.mem_map.mpr ⟨kn, List.mem_of_getElem? hkn, rfl⟩, ?_⟩
          rw [Int.toNat_natCast, Int.toNat_natCast, deedOf_at hdk]
          simp [hna]
      · have he : V.int (dd.actor : Int) = V.int (p : Int) := by simpa using hne
        have he : dd.actor = p := by have := V.int.inj he; omega
        refine ⟨rfl, ⟨_, rfl⟩, fun j kn' hj hj' => ?_⟩
        by_cases hji : j < i
        · exact hbef j kn' hji hj'
        · have e : j = i := by omega
          subst e
          rw [hkn] at hj'
          cases hj'
          rw [deedOf_at hdk]
          exact he
    · rintro σ H' ⟨rfl, ⟨v2, rfl⟩, hbef⟩
      rw [vN_len] at hbef
      have hall : ((My.nInts ks).all fun k => Vbtaaf.from_ k 0 ((s.deeds.length : Int) - 1) && (Vbtaaf.deedOf s k.toNat).actor == p) = true := by
        rw [List.all_eq_true]
        intro x hx
        obtain ⟨y, hy, rfl⟩ := List.mem_map.mp hx
        obtain ⟨j, hj⟩ := List.getElem?_of_mem hy
        have h1 := hbef j y (List.getElem?_eq_some_iff.mp hj).1 hj
        have h2 := hks y hy
        rw [Int.toNat_natCast, h1, My.from_iff.mpr ⟨by omega, by omega⟩]
        simp
      rw [My.step_follow hp hall, toNat_ints] at k
      refine ⟨_, rfl, _, rfl, nl, _, _, _, rfl, rfl, SqL.of (sm1 _ _ hnl), at0, _, rfl, _, rfl, nl, _, rfl, SqL.of (sm1 _ _ hnl), fun rl2 hrl2 => ?_⟩
      rw [cut1]
      have sm2 : Same H (upd H' rl2 (.lst (vN ks))) := same_upd sm1 hrl2
      refine ⟨z, s, p, rl2, ks, rfl, S.same sm2, hs, hp, upd_same, hks, hkl, fun H3 sm3 hfo => ?_, fun H3 i sm3 hfo => ?_⟩
      · have smA : Same H H3 := fun b o h => sm3 b o (sm2 b o h)
        refine ⟨_, rfl, rfl, _, rfl, iteD (fun _ => ⟨two_le, fun l hl => ?_⟩) (fun h => absurd rfl h)⟩
        rw [hfo] at k
        exact k.keep S (same_upd smA hl) upd_same (Same.none smA hl)
      · have smA : Same H H3 := fun b o h => sm3 b o (sm2 b o h)
        refine ⟨_, rfl, rfl, _, rfl, iteD (fun h => ?_) (fun _ => ?_)⟩
        · have h := V.int.inj h
          omega
        refine ⟨_, rfl, (by show 3 ≤ sizeLine; decide), fun l hl => ?_⟩
        rw [hfo] at k
        exact k.keep S (same_upd smA hl) upd_same (Same.none smA hl)
noncomputable def mkTurn : List Int → Vbtaaf.Call | [p] => .turn p | _ => .state
theorem scRTurn : FnScope ["story", "numbers"] ["story", "numbers"] (defScope sRTurn) := ⟨rfl, rfl, rfl, by decide +kernel, rfl, by decide +kernel, by decide +kernel⟩
theorem told_len (x : Vbtaaf.State × Nat × Nat) : (My.told1 x).length ≤ 2 := by
  unfold My.told1
  split <;> simp
noncomputable def wRTurn1 (K : PySem.W.Frag) (CD CA CS : Addr) : TS := tRet (tOp (rCat) (tLst (tCons (tC (.int 0)) tNil)) (tCall (spTurn CD CA CS) [] E0 (tCons (tVar 0) (tCons (tOp (rIxL K) (tVar 1) (tC (.int 0))) tNil))))
theorem ok_rTurn {f : Addr} {fd : FuncData} {k : Nat} (F : Fun K "reply_turn" "reply_turn" sRTurn f fd) (hT : Own P w K mg base "take_turn" ["story", "actor"] k (spTurn CD CA CS)) : FnOk P w K mg base CX0 (k + 1) f fd ["story", "numbers"] (spR CD CA CS okPlan mkTurn) := by
  have sc := scRTurn
  obtain ⟨_, _, G_take_turn, b_take_turn, k_take_turn, m_take_turn⟩ := hT
  refine F.ok sc (fun vs H Q E h => ?_) (fun cdv A outer s0 H vs Q E hr h => ?_)
  · obtain ⟨z, s, nl, ns, rfl, _⟩ := h
    rfl
  · obtain ⟨z, s, nl, ns, rfl, S, hs, ⟨hnl, hno⟩, ⟨p, rfl, hp⟩, k⟩ := h
    have k : Post CD CA CS H z (Vbtaaf.step s (.turn p)) Q := k
    rw [My.step_turn hp] at k
    refine ⟨(wRTurn1 K CD CA CS), (pss_one
      (ps_ret (pe_op op_cat (pe_lst (pa_cons pe_int pa_nil)) (pe_call G_take_turn hr rfl m_take_turn k_take_turn b_take_turn .nil pass0 (pa_cons (pv 0) (pa_cons (pe_ix ix_list (pv 1) pe_int (fun _ _ => rfl)) pa_nil)))))), ?_⟩
    refine ⟨one_le, fun l0 hl0 => ?_⟩
    have sm0 : Same H (upd H l0 (.lst [.int 0])) := same_upd same_refl hl0
    refine ⟨_, rfl, _, rfl, nl, _, _, _, rfl, rfl, SqL.of (sm0 _ _ hnl), at0, ?_⟩
    refine ⟨z, s, p, rfl, S.same sm0, hs, hp, fun H2 l S2 hl hf kp => ?_⟩
    have hl0f : ¬ l0 ∈ foot z := S.fresh hl0
    have hl02 := kp l0 _ upd_same hl0f
    refine ⟨l0, l, _, _, rfl, rfl, hl02, hl, (by have := told_len (Vbtaaf.turn s p); rw [vN_len, sizeLine_eq]; show 1 + _ ≤ _; omega), fun l2 hl2 => ?_⟩
    have kpA : Kept H H2 z := (Same.kept sm0 z).trans kp
    have h := Post.kept k S2 kpA hl2
    have e : ((0 :: My.nInts (My.told1 (Vbtaaf.turn s p))).map V.int) = [V.int 0] ++ vN (My.told1 (Vbtaaf.turn s p)) := by rw [List.map_cons, ints_v]; rfl
    rw [← e]
    exact h
noncomputable def okRounds (s : Vbtaaf.State) (ns : List Int) : Prop := ∃ m : Nat, ns = [(m : Int)] ∧ 1 ≤ m ∧ m ≤ 20
noncomputable def mkRounds : List Int → Vbtaaf.Call | [p] => .rounds p | _ => .state
theorem scRRounds : FnScope ["story", "numbers", "counted"] ["story", "numbers"] (defScope sRRounds) := ⟨rfl, rfl, rfl, by decide +kernel, rfl, by decide +kernel, by decide +kernel⟩
noncomputable def wRRounds1 (K : PySem.W.Frag) (CD CA CS : Addr) : TS := tAsg (tCall (spRounds CD CA CS) [] E0 (tCons (tVar 0) (tCons (tOp (rIxL K) (tVar 1) (tC (.int 0))) tNil))) (gName 2)
noncomputable def wRRounds2 (K : PySem.W.Frag) (CD CA CS : Addr) : TS := tRet (tLst (tCons (tC (.int 0)) (tCons (tVar 2) (tCons (tFld K (tVar 0) "world") tNil))))
noncomputable def wRRounds3 (K : PySem.W.Frag) (CD CA CS : Addr) : TS := tSeq (wRRounds1 K CD CA CS) (wRRounds2 K CD CA CS)
theorem ok_rRounds {f : Addr} {fd : FuncData} {k : Nat} (F : Fun K "reply_rounds" "reply_rounds" sRRounds f fd) (T : Tx K mg CD CA CS) (hT : Own P w K mg base "take_rounds" ["story", "most"] k (spRounds CD CA CS)) : FnOk P w K mg base CX0 (k + 1) f fd ["story", "numbers"] (spR CD CA CS okRounds mkRounds) := by
  have sc := scRRounds
  obtain ⟨_, _, G_take_rounds, b_take_rounds, k_take_rounds, m_take_rounds⟩ := hT
  refine F.ok sc (fun vs H Q E h => ?_) (fun cdv A outer s0 H vs Q E hr h => ?_)
  · obtain ⟨z, s, nl, ns, rfl, _⟩ := h
    rfl
  · obtain ⟨z, s, nl, ns, rfl, S, hs, ⟨hnl, hno⟩, ⟨m, rfl, h1, h20⟩, k⟩ := h
    have k : Post CD CA CS H z (Vbtaaf.step s (.rounds m)) Q := k
    rw [My.step_rounds h1 h20] at k
    refine ⟨(wRRounds3 K CD CA CS), (pss_cons
      (ps_set (i := 2) sc.nd rfl (Or.inl rfl) (pe_call G_take_rounds hr rfl m_take_rounds k_take_rounds b_take_rounds .nil pass0 (pa_cons (pv 0) (pa_cons (pe_ix ix_list (pv 1) pe_int (fun _ _ => rfl)) pa_nil))))
    (pss_one
      (ps_ret (pe_lst (pa_cons pe_int (pa_cons (pv 2) (pa_cons (pe_fld (pv 0) rfl) pa_nil))))))), ?_⟩
    refine ⟨_, rfl, _, rfl, nl, _, _, _, rfl, rfl, SqL.of hnl, at0, ?_⟩
    refine ⟨z, s, m, rfl, S, hs, fun H2 S2 kp => ?_⟩
    obtain ⟨dx2, hst2⟩ := S2.st
    refine ⟨_, rfl, _, rfl, z.st, CS, dx2, _, _, rfl, hst2, T.cStory, T.sWorld, sF_world _ _ _ _, (by show 3 ≤ sizeLine; decide), fun l hl => ?_⟩
    exact Post.kept k S2 kp hl
noncomputable def mkBelief : List Int → Vbtaaf.Call | [p] => .belief p | _ => .state
theorem scRBelief : FnScope ["story", "numbers", "actor", "reached"] ["story", "numbers"] (defScope sRBelief) := ⟨rfl, rfl, rfl, by decide +kernel, rfl, by decide +kernel, by decide +kernel⟩
noncomputable def wRBelief1 (K : PySem.W.Frag) (CD CA CS : Addr) : TS := tAsg (tOp (rIxL K) (tFld K (tVar 0) "actors") (tOp (rIxL K) (tVar 1) (tC (.int 0)))) (gName 2)
noncomputable def wRBelief2 (K : PySem.W.Frag) (CD CA CS : Addr) : TS := tAsg (tIf (tB (tMeth CA "is_content" (spContent CA) [] E0 (tVar 2) (tCons (tFld K (tVar 0) "world") tNil))) (tC (.int 1)) (tC (.int 0))) (gName 3)
noncomputable def wRBelief3 (K : PySem.W.Frag) (CD CA CS : Addr) : TS := tRet (tLst (tCons (tC (.int 0)) (tCons (tFld K (tVar 2) "sees") (tCons (tFld K (tVar 2) "goal") (tCons (tFld K (tVar 2) "goal_not") (tCons (tFld K (tVar 2) "belief") (tCons (tVar 3) tNil)))))))
noncomputable def wRBelief4 (K : PySem.W.Frag) (CD CA CS : Addr) : TS := tSeq (wRBelief2 K CD CA CS) (wRBelief3 K CD CA CS)
noncomputable def wRBelief5 (K : PySem.W.Frag) (CD CA CS : Addr) : TS := tSeq (wRBelief1 K CD CA CS) (wRBelief4 K CD CA CS)
theorem ok_rBelief {f : Addr} {fd : FuncData} {k : Nat} (F : Fun K "reply_belief" "reply_belief" sRBelief f fd) (T : Tx K mg CD CA CS) (hC : OwnM P w K mg base CA "is_content" ["self", "world"] k (spContent CA)) : FnOk P w K mg base CX0 (k + 1) f fd ["story", "numbers"] (spR CD CA CS okPlan mkBelief) := by
  have sc := scRBelief
  obtain ⟨_, _, G_is_content, b_is_content, t_is_content⟩ := hC
  refine F.ok sc (fun vs H Q E h => ?_) (fun cdv A outer s0 H vs Q E hr h => ?_)
  · obtain ⟨z, s, nl, ns, rfl, _⟩ := h
    rfl
  · obtain ⟨z, s, nl, ns, rfl, S, hs, ⟨hnl, hno⟩, ⟨p, rfl, hp⟩, k⟩ := h
    obtain ⟨dxS, hst⟩ := S.st
    have k : Post CD CA CS H z (Vbtaaf.step s (.belief p)) Q := k
    rw [My.step_belief hp] at k
    obtain ⟨q, hq, hpa, dxa, hqa⟩ := S.actAt hp
    refine ⟨(wRBelief5 K CD CA CS), (pss_cons
      (ps_set (i := 2) sc.nd rfl (Or.inl rfl) (pe_ix ix_list (pe_fld (pv 0) rfl) (pe_ix ix_list (pv 1) pe_int (fun _ _ => rfl)) (fun _ _ => rfl)))
    (pss_cons
      (ps_set (i := 3) sc.nd rfl (Or.inl rfl) (pe_ifExp (pt_val (pe_meth (pv 2) T.cActor t_is_content G_is_content hr b_is_content .nil pass0 (pa_cons (pe_fld (pv 0) rfl) pa_nil))) pe_int pe_int))
    (pss_one
      (ps_ret (pe_lst (pa_cons pe_int (pa_cons (pe_fld (pv 2) rfl) (pa_cons (pe_fld (pv 2) rfl) (pa_cons (pe_fld (pv 2) rfl) (pa_cons (pe_fld (pv 2) rfl) (pa_cons (pv 3) pa_nil))))))))))), ?_⟩
    have hn := SqL.of (K := K) hnl
    refine ⟨_, rfl, z.st, CS, dxS, _, _, rfl, hst, T.cStory, T.sActors, sF_actors _ _ _ _, _, rfl, nl, _, _, _, rfl, rfl, hn, at0, z.la, _, _, _, rfl, rfl, SqL.of S.la, atI_nat (v := V.ref q) (by rw [List.getElem?_map, hq]; rfl), ?_⟩
    refine ⟨_, rfl, q, dxa, _, rfl, hqa, aF_content _, _, rfl, z.st, CS, dxS, _, _, rfl, hst, T.cStory, T.sWorld, sF_world _ _ _ _, ?_⟩
    refine ⟨q, Vbtaaf.actorOf s p, s.world, rfl, ⟨dxa, hqa⟩, _, rfl, ?_⟩
    have fin : ∀ b : Bool, Vbtaaf.reached (Vbtaaf.actorOf s p) s.world = b → ∀ l : Addr, H l = none → Q (.ref l) (upd H l (.lst [.int 0, .int (Vbtaaf.actorOf s p).sight, .int (Vbtaaf.actorOf s p).on, .int (Vbtaaf.actorOf s p).off, .int (Vbtaaf.actorOf s p).belief, .int ((Vbtaaf.bit b : Nat) : Int)])) := fun b hb l hl => by
      rw [hb] at k
      exact k.keep S (same_upd same_refl hl) upd_same hl
    refine iteB (fun hb => ?_) (fun hb => ?_)
    · refine ⟨_, rfl, q, CA, dxa, _, _, rfl, hqa, T.cActor, T.aSees, aF_sees _, _, rfl, q, CA, dxa, _, _, rfl, hqa, T.cActor, T.aGoal, aF_goal _, _, rfl, q, CA, dxa, _, _, rfl, hqa, T.cActor, T.aGoalNot, aF_goal_not _, _, rfl, q, CA, dxa, _, _, rfl, hqa, T.cActor, T.aBelief, aF_belief _, _, rfl, (by show 6 ≤ sizeLine; decide), fun l hl => ?_⟩
      exact fin true hb l hl
    · refine ⟨_, rfl, q, CA, dxa, _, _, rfl, hqa, T.cActor, T.aSees, aF_sees _, _, rfl, q, CA, dxa, _, _, rfl, hqa, T.cActor, T.aGoal, aF_goal _, _, rfl, q, CA, dxa, _, _, rfl, hqa, T.cActor, T.aGoalNot, aF_goal_not _, _, rfl, q, CA, dxa, _, _, rfl, hqa, T.cActor, T.aBelief, aF_belief _, _, rfl, (by show 6 ≤ sizeLine; decide), fun l hl => ?_⟩
      exact fin false hb l hl
noncomputable def okNone (_ : Vbtaaf.State) (ns : List Int) : Prop := ns = []
theorem scRState : FnScope ["story", "numbers"] ["story", "numbers"] (defScope sRState) := ⟨rfl, rfl, rfl, by decide +kernel, rfl, by decide +kernel, by decide +kernel⟩
noncomputable def wRState1 (K : PySem.W.Frag) (CD CA CS : Addr) : TS := tRet (tLst (tCons (tC (.int 0)) (tCons (tFld K (tVar 0) "facts") (tCons (tFld K (tVar 0) "world") (tCons (tCB (LenI K) (tCons (tFld K (tVar 0) "actors") tNil)) (tCons (tCB (LenI K) (tCons (tFld K (tVar 0) "deeds") tNil)) tNil))))))
theorem ok_rState {f : Addr} {fd : FuncData} (F : Fun K "reply_state" "reply_state" sRState f fd) (T : Tx K mg CD CA CS) : FnOk P w K mg base CX0 1 f fd ["story", "numbers"] (spR CD CA CS okNone fun _ => .state) := by
  have sc := scRState
  refine F.ok sc (fun vs H Q E h => ?_) (fun cdv A outer s0 H vs Q E hr h => ?_)
  · obtain ⟨z, s, nl, ns, rfl, _⟩ := h
    rfl
  · obtain ⟨z, s, nl, ns, rfl, S, hs, ⟨hnl, hno⟩, rfl, k⟩ := h
    obtain ⟨dxS, hst⟩ := S.st
    have k : Post CD CA CS H z (Vbtaaf.step s .state) Q := k
    rw [My.step_state] at k
    refine ⟨(wRState1 K CD CA CS), (pss_one
      (ps_ret (pe_lst (pa_cons pe_int (pa_cons (pe_fld (pv 0) rfl) (pa_cons (pe_fld (pv 0) rfl) (pa_cons (pe_callB call_len_seq (by rfl) T.len PySem.boot_len (pa_cons (pe_fld (pv 0) rfl) pa_nil)) (pa_cons (pe_callB call_len_seq (by rfl) T.len PySem.boot_len (pa_cons (pe_fld (pv 0) rfl) pa_nil)) pa_nil)))))))), ?_⟩
    refine ⟨_, rfl, z.st, CS, dxS, _, _, rfl, hst, T.cStory, T.sFacts, sF_facts _ _ _ _, _, rfl, z.st, CS, dxS, _, _, rfl, hst, T.cStory, T.sWorld, sF_world _ _ _ _, _, rfl, z.st, CS, dxS, _, _, rfl, hst, T.cStory, T.sActors, sF_actors _ _ _ _, z.la, _, rfl, .inl (SqL.of S.la),
      _, rfl, z.st, CS, dxS, _, _, rfl, hst, T.cStory, T.sDeeds, sF_deeds _ _ _ _, z.ld, _, rfl, .inl (SqL.of S.ld), (by show 5 ≤ sizeLine; decide), fun l hl => ?_⟩
    rw [List.length_map, List.length_map, S.alen, S.dlen]
    exact k.keep S (same_upd same_refl hl) upd_same hl
theorem scRDeeds : FnScope ["story", "numbers", "told", "deed"] ["story", "numbers"] (defScope sRDeeds) := ⟨rfl, rfl, rfl, by decide +kernel, rfl, by decide +kernel, by decide +kernel⟩
noncomputable def five (d : Vbtaaf.Deed) : List Nat := [d.actor, d.on, d.off, d.add, d.del]
inductive DeedsF (H : Hp) (s : Vbtaaf.State) (z : SA) (nl lt : Addr) (i : Nat) (σ : L2.St) (H' : Hp) : Prop
  | mk  (h1 : (∃ v3 : Option V, σ = [some (.ref z.st), some (.ref nl), some (.ref lt), v3])) (h2 : Same H H') (h3 : i ≤ s.deeds.length) (h4 : H' lt = some (.lst (vN (0 :: (s.deeds.take i).flatMap five)))) : DeedsF H s z nl lt i σ H'
noncomputable def wRDeeds1 (K : PySem.W.Frag) (CD CA CS : Addr) : TS := tAsg (tLst (tCons (tC (.int 0)) tNil)) (gName 2)
noncomputable def wRDeeds2 (K : PySem.W.Frag) (CD CA CS : Addr) : TS := tDrop (tBM K "list" rExtend (tVar 2) (tCons (tLst (tCons (tFld K (tVar 3) "actor") (tCons (tFld K (tVar 3) "must") (tCons (tFld K (tVar 3) "must_not") (tCons (tFld K (tVar 3) "become") (tCons (tFld K (tVar 3) "cease") tNil)))))) tNil))
noncomputable def wRDeeds3 (K : PySem.W.Frag) (CD CA CS : Addr) : TS := tFor (iList K (tFld K (tVar 0) "deeds")) (gName 3) (wRDeeds2 K CD CA CS)
noncomputable def wRDeeds4 (K : PySem.W.Frag) (CD CA CS : Addr) : TS := tRet (tVar 2)
noncomputable def wRDeeds5 (K : PySem.W.Frag) (CD CA CS : Addr) : TS := tSeq (wRDeeds3 K CD CA CS) (wRDeeds4 K CD CA CS)
noncomputable def wRDeeds6 (K : PySem.W.Frag) (CD CA CS : Addr) : TS := tSeq (wRDeeds1 K CD CA CS) (wRDeeds5 K CD CA CS)
theorem ok_rDeeds {f : Addr} {fd : FuncData} (F : Fun K "reply_deeds" "reply_deeds" sRDeeds f fd) (T : Tx K mg CD CA CS) : FnOk P w K mg base CX0 1 f fd ["story", "numbers"] (spR CD CA CS okNone fun _ => .deeds) := by
  have sc := scRDeeds
  refine F.ok sc (fun vs H Q E h => ?_) (fun cdv A outer s0 H vs Q E hr h => ?_)
  · obtain ⟨z, s, nl, ns, rfl, _⟩ := h
    rfl
  · obtain ⟨z, s, nl, ns, rfl, S, hs, ⟨hnl, hno⟩, rfl, k⟩ := h
    obtain ⟨dxS, hst⟩ := S.st
    have k : Post CD CA CS H z (Vbtaaf.step s .deeds) Q := k
    rw [My.step_deeds] at k
    refine ⟨(wRDeeds6 K CD CA CS), (pss_cons
      (ps_set (i := 2) sc.nd rfl (Or.inl rfl) (pe_lst (pa_cons pe_int pa_nil)))
    (pss_cons
      (ps_for PassesOwn.never rfl (pi_list (pe_fld (pv 0) rfl)) (pg_name (i := 3) sc.nd rfl (Or.inl rfl))
        (pss_one
          (ps_expr (pe_bm PySem.F.plainAttrs_list PySem.F.slot_list_extend PySem.F.type_list_extend mt_extend (pv 2) (pa_cons (pe_lst (pa_cons (pe_fld (pv 3) rfl) (pa_cons (pe_fld (pv 3) rfl) (pa_cons (pe_fld (pv 3) rfl) (pa_cons (pe_fld (pv 3) rfl) (pa_cons (pe_fld (pv 3) rfl) pa_nil)))))) pa_nil)))))
    (pss_one
      (ps_ret (pv 2))))), ?_⟩
    refine ⟨one_le, fun lt hlt => ?_⟩
    have sm0 : Same H (upd H lt (.lst [.int 0])) := same_upd same_refl hlt
    refine ⟨_, rfl, z.st, CS, dxS, _, _, rfl, sm0 _ _ hst, T.cStory, T.sDeeds, sF_deeds _ _ _ _, z.ld, rfl, ⟨_, SqL.of (sm0 _ _ S.ld)⟩, for_list (K := K) (a := z.ld) (xs := z.ds.map V.ref) (DeedsF H s z nl lt)
      ⟨⟨none, rfl⟩, sm0, Nat.zero_le _, upd_same⟩ (fun i σ H' _ ⟨_, sm, _, _⟩ => SqL.of (sm _ _ S.ld)) ?_ ?_⟩
    · rintro i x σ H' hi ⟨⟨v3, rfl⟩, sm, hil, hl'⟩
      obtain ⟨dp, hdp, rfl⟩ : ∃ dp, z.ds[i]? = some dp ∧ x = V.ref dp := by
        rw [List.getElem?_map] at hi
        cases e : z.ds[i]? with
        | none => rw [e] at hi; cases hi
        | some q => rw [e] at hi; exact ⟨q, rfl, (Option.some.inj hi).symm⟩
      have S' := S.same sm
      obtain ⟨dd, hdk, dxd, hdd⟩ := S'.ded i dp hdp
      have hil2 : i < s.deeds.length := (List.getElem?_eq_some_iff.mp hdk).1
      have hdl := hs.dlen
      refine ⟨_, rfl, ⟨rfl, _, SqL.of hl'⟩, _, rfl, dp, CD, dxd, _, _, rfl, hdd, T.cDeed, T.dActor, dF_actor dd, _, rfl, dp, CD, dxd, _, _, rfl, hdd, T.cDeed, T.dMust, dF_must dd, _, rfl, dp, CD, dxd, _, _, rfl, hdd, T.cDeed, T.dMustNot, dF_must_not dd, _, rfl, dp, CD, dxd, _, _, rfl, hdd, T.cDeed, T.dBecome, dF_become dd, _, rfl, dp, CD, dxd, _, _, rfl, hdd, T.cDeed, T.dCease, dF_cease dd, (by show 5 ≤ sizeLine; decide), fun l5 hl5 => ?_⟩
      have hl2 : upd H' l5 (.lst [.int dd.actor, .int dd.on, .int dd.off, .int dd.add, .int dd.del]) lt = some (.lst (vN (0 :: (s.deeds.take i).flatMap five))) := by
        rw [upd_ne (ne_of_none hl' hl5)]
        exact hl'
      have hlen : ((s.deeds.take i).flatMap five).length = 5 * i := by
        rw [My.flat_len five (fun d => rfl), List.length_take]
        omega
      refine ⟨lt, l5, _, _, rfl, rfl, hl2, upd_same, (by rw [vN_len, List.length_cons, hlen, sizeLine_eq]; show _ + 5 ≤ _; omega), ⟨_, rfl⟩, fun b o q => ?_, hil2, ?_⟩
      · rw [upd_ne (ne_of_none q hlt)]
        exact same_upd sm hl5 b o q
      · rw [upd_same, take_more hdk, List.flatMap_append]
        unfold vN
        rw [List.map_cons, List.map_cons, List.map_append]
        rfl
    · rintro σ H' ⟨⟨v3, rfl⟩, sm, hil, hl'⟩
      rw [List.length_map, S.dlen, List.take_length] at hl'
      refine ⟨_, rfl, k.keep S sm ?_ hlt⟩
      rw [hl', List.map_cons, ints_v]
      rfl
end
end Ap
end
section
set_option Elab.async false
set_option linter.all false
set_option maxRecDepth 100000
set_option maxHeartbeats 4000000
namespace Ap
open PySem PySem.Spec PyProof.Rows L2
noncomputable def ok1 (s : Vbtaaf.State) (kind : Str) (n : Int) : Prop := lst kind ≤ n ∧ n < abv s kind
section
variable {s : Vbtaaf.State} {n : Int}
theorem ok_actor : ok1 s "actor" n ↔ Vbtaaf.isActor s n = true := by
  have e1 : lst "actor" = 0 := if_neg (by decide +kernel)
  have e2 : abv s "actor" = (s.actors.length : Int) := if_pos rfl
  unfold ok1
  rw [e1, e2, My.isActor_iff]
  omega
theorem ok_deed : ok1 s "deed" n ↔ Vbtaaf.from_ n 0 ((s.deeds.length : Int) - 1) = true := by
  have e1 : lst "deed" = 0 := if_neg (by decide +kernel)
  have e2 : abv s "deed" = (s.deeds.length : Int) := (if_neg (by decide +kernel)).trans (if_pos rfl)
  unfold ok1
  rw [e1, e2, My.from_iff]
  omega
theorem ok_set : ok1 s "set" n ↔ Vbtaaf.isSet s n = true := by
  have e1 : lst "set" = 0 := if_neg (by decide +kernel)
  have e2 : abv s "set" = ((2 ^ s.facts : Nat) : Int) := (if_neg (by decide +kernel)).trans ((if_neg (by decide +kernel)).trans (if_pos rfl))
  unfold ok1
  rw [e1, e2, My.isSet_iff]
  generalize 2 ^ s.facts = M
  omega
theorem ok_fact : ok1 s "fact" n ↔ Vbtaaf.from_ n 0 ((s.facts : Int) - 1) = true := by
  have e1 : lst "fact" = 0 := if_neg (by decide +kernel)
  have e2 : abv s "fact" = (s.facts : Int) := (if_neg (by decide +kernel)).trans ((if_neg (by decide +kernel)).trans ((if_neg (by decide +kernel)).trans (if_pos rfl)))
  unfold ok1
  rw [e1, e2, My.from_iff]
  omega
theorem ok_hmf : ok1 s "how many facts" n ↔ Vbtaaf.from_ n 0 Vbtaaf.FACTS = true := by
  have e1 : lst "how many facts" = 0 := if_neg (by decide +kernel)
  have e2 : abv s "how many facts" = 7 := (if_neg (by decide +kernel)).trans ((if_neg (by decide +kernel)).trans ((if_neg (by decide +kernel)).trans ((if_neg (by decide +kernel)).trans (if_pos rfl))))
  unfold ok1
  rw [e1, e2, My.from_iff]
  show _ ↔ 0 ≤ n ∧ n ≤ ((6 : Nat) : Int)
  omega
theorem ok_hmr : ok1 s "how many rounds" n ↔ Vbtaaf.from_ n 1 20 = true := by
  have e1 : lst "how many rounds" = 1 := if_pos rfl
  have e2 : abv s "how many rounds" = 21 := (if_neg (by decide +kernel)).trans ((if_neg (by decide +kernel)).trans ((if_neg (by decide +kernel)).trans ((if_neg (by decide +kernel)).trans ((if_neg (by decide +kernel)).trans (if_pos rfl)))))
  unfold ok1
  rw [e1, e2, My.from_iff]
  omega
theorem ok_yn : ok1 s "yes or no" n ↔ Vbtaaf.from_ n 0 1 = true := by
  have e1 : lst "yes or no" = 0 := if_neg (by decide +kernel)
  have e2 : abv s "yes or no" = 2 := (if_neg (by decide +kernel)).trans ((if_neg (by decide +kernel)).trans ((if_neg (by decide +kernel)).trans ((if_neg (by decide +kernel)).trans ((if_neg (by decide +kernel)).trans (if_neg (by decide +kernel))))))
  unfold ok1
  rw [e1, e2, My.from_iff]
  omega
theorem nb1 {a : Bool} (h : ¬ a = true) : a = false := by
  cases a with
  | false => rfl
  | true => exact absurd rfl h
theorem nb {a : Bool} {p q : Prop} (f : ¬ p → q) (h : ¬ (a = true ∧ p)) : a = false ∨ q := by
  cases a with
  | false => exact .inl rfl
  | true => exact .inr (f fun hp => h ⟨rfl, hp⟩)
noncomputable def InF (s : Vbtaaf.State) (f : Nat → Str) (ns : List Int) : Prop := ∀ (i : Nat) (n : Int), ns[i]? = some n → ok1 s (f i) n
variable {f : Nat → Str} {x y z u v : Int} {xs : List Int}
theorem inF_nil : InF s f [] := fun i n h => by simp at h
theorem inF_cons : InF s f (x :: xs) ↔ ok1 s (f 0) x ∧ InF s (fun i => f (i + 1)) xs := by
  constructor
  · exact fun h => ⟨h 0 x rfl, fun i n hi => h (i + 1) n (by simpa using hi)⟩
  · rintro ⟨h1, h2⟩ i n hi
    cases i with
    | zero =>
      have e : x = n := by simpa using hi
      rw [← e]; exact h1
    | succ i => exact h2 i n (by simpa using hi)
theorem inF1 : InF s f [x] ↔ ok1 s (f 0) x := by
  rw [inF_cons]
  exact ⟨fun h => h.1, fun h => ⟨h, inF_nil⟩⟩
theorem inF2 : InF s f [x, y] ↔ ok1 s (f 0) x ∧ ok1 s (f 1) y := by rw [inF_cons, inF1]
theorem inF3 : InF s f [x, y, z] ↔ ok1 s (f 0) x ∧ ok1 s (f 1) y ∧ ok1 s (f 2) z := by rw [inF_cons, inF2]
theorem inF5 : InF s f [x, y, z, u, v] ↔ ok1 s (f 0) x ∧ ok1 s (f 1) y ∧ ok1 s (f 2) z ∧ ok1 s (f 3) u ∧ ok1 s (f 4) v := by rw [inF_cons, inF_cons, inF3]
theorem inF_row {k : Str} (h : ∀ i, f (i + 1) = k) : InF s f (x :: xs) ↔ ok1 s (f 0) x ∧ ∀ y ∈ xs, ok1 s k y := by
  rw [inF_cons]
  constructor
  · rintro ⟨h1, h2⟩
    refine ⟨h1, fun y hy => ?_⟩
    obtain ⟨i, hi⟩ := List.getElem?_of_mem hy
    have q : ok1 s (f (i + 1)) y := h2 i y hi
    rw [h i] at q
    exact q
  · rintro ⟨h1, h2⟩
    refine ⟨h1, fun i n hi => ?_⟩
    show ok1 s (f (i + 1)) n
    rw [h i]
    exact h2 n (List.mem_of_getElem? hi)
theorem K0_0 : kindAt 0 0 = "how many facts" := by decide +kernel
theorem K1_0 : kindAt 1 0 = "actor" := by decide +kernel
theorem K1_1 : kindAt 1 1 = "set" := by decide +kernel
theorem K1_2 : kindAt 1 2 = "set" := by decide +kernel
theorem K1_3 : kindAt 1 3 = "set" := by decide +kernel
theorem K1_4 : kindAt 1 4 = "set" := by decide +kernel
theorem K2_0 : kindAt 2 0 = "set" := by decide +kernel
theorem K2_1 : kindAt 2 1 = "set" := by decide +kernel
theorem K2_2 : kindAt 2 2 = "set" := by decide +kernel
theorem K3_0 : kindAt 3 0 = "set" := by decide +kernel
theorem K4_0 : kindAt 4 0 = "actor" := by decide +kernel
theorem K4_1 : kindAt 4 1 = "fact" := by decide +kernel
theorem K4_2 : kindAt 4 2 = "yes or no" := by decide +kernel
theorem K5_0 : kindAt 5 0 = "actor" := by decide +kernel
theorem K5_1 : kindAt 5 1 = "set" := by decide +kernel
theorem K5_2 : kindAt 5 2 = "set" := by decide +kernel
theorem K6_0 : kindAt 6 0 = "actor" := by decide +kernel
theorem K7_0 : kindAt 7 0 = "actor" := by decide +kernel
theorem K7_1 : kindAt 7 1 = "set" := by decide +kernel
theorem K8_0 : kindAt 8 0 = "actor" := by decide +kernel
theorem K9_0 : kindAt 9 0 = "actor" := by decide +kernel
theorem K10_0 : kindAt 10 0 = "actor" := by decide +kernel
theorem K11_0 : kindAt 11 0 = "actor" := by decide +kernel
theorem K12_0 : kindAt 12 0 = "how many rounds" := by decide +kernel
theorem K13_0 : kindAt 13 0 = "actor" := by decide +kernel
theorem r0 : (InR s 0 [x] → okFacts s [x]) ∧ (¬ InR s 0 [x] → Vbtaaf.step s (.facts x) = (s, [-1])) := by
  have e : InR s 0 [x] ↔ Vbtaaf.from_ x 0 Vbtaaf.FACTS = true := by
    show InF s (kindAt 0) _ ↔ _
    simp only [inF1, K0_0, ok_hmf]
  refine ⟨fun h => ?_, fun h => My.step_facts1 ?_⟩
  · obtain h0 := e.mp h
    rw [My.from_iff] at h0
    obtain ⟨x', rfl⟩ := nat_of (n := x) (by omega)
    exact ⟨x', rfl, (by have := h0.2; show _ ≤ 6; have e6 : ((Vbtaaf.FACTS : Nat) : Int) = 6 := rfl; omega)⟩
  · cases hb : Vbtaaf.from_ x 0 Vbtaaf.FACTS with
    | false => rfl
    | true => exact absurd (e.mpr hb) h
theorem r1 : (InR s 1 [x, y, z, u, v] → okDeed s [x, y, z, u, v]) ∧ (¬ InR s 1 [x, y, z, u, v] → Vbtaaf.step s (.deed x y z u v) = (s, [-1])) := by
  have e : InR s 1 [x, y, z, u, v] ↔ Vbtaaf.isActor s x = true ∧ Vbtaaf.isSet s y = true ∧ Vbtaaf.isSet s z = true ∧ Vbtaaf.isSet s u = true ∧ Vbtaaf.isSet s v = true := by
    show InF s (kindAt 1) _ ↔ _
    simp only [inF5, K1_0, K1_1, K1_2, K1_3, K1_4, ok_actor, ok_set]
  refine ⟨fun h => ?_, fun h => My.step_deed1 ?_⟩
  · obtain ⟨h0, h1, h2, h3, h4⟩ := e.mp h
    rw [My.isActor_iff] at h0
    rw [My.isSet_iff] at h1
    rw [My.isSet_iff] at h2
    rw [My.isSet_iff] at h3
    rw [My.isSet_iff] at h4
    obtain ⟨x', rfl⟩ := nat_of (n := x) (by omega)
    obtain ⟨y', rfl⟩ := nat_of (n := y) (by omega)
    obtain ⟨z', rfl⟩ := nat_of (n := z) (by omega)
    obtain ⟨u', rfl⟩ := nat_of (n := u) (by omega)
    obtain ⟨v', rfl⟩ := nat_of (n := v) (by omega)
    exact ⟨x', y', z', u', v', rfl, (by simpa using h0.2), (by simpa using h1.2), (by simpa using h2.2), (by simpa using h3.2), (by simpa using h4.2)⟩
  · have h' := mt e.mpr h
    exact nb (nb (nb (nb nb1))) h'
theorem r2 : (InR s 2 [x, y, z] → okActor s [x, y, z]) ∧ (¬ InR s 2 [x, y, z] → Vbtaaf.step s (.actor x y z) = (s, [-1])) := by
  have e : InR s 2 [x, y, z] ↔ Vbtaaf.isSet s x = true ∧ Vbtaaf.isSet s y = true ∧ Vbtaaf.isSet s z = true := by
    show InF s (kindAt 2) _ ↔ _
    simp only [inF3, K2_0, K2_1, K2_2, ok_set]
  refine ⟨fun h => ?_, fun h => My.step_actor1 ?_⟩
  · obtain ⟨h0, h1, h2⟩ := e.mp h
    rw [My.isSet_iff] at h0
    rw [My.isSet_iff] at h1
    rw [My.isSet_iff] at h2
    obtain ⟨x', rfl⟩ := nat_of (n := x) (by omega)
    obtain ⟨y', rfl⟩ := nat_of (n := y) (by omega)
    obtain ⟨z', rfl⟩ := nat_of (n := z) (by omega)
    exact ⟨x', y', z', rfl, (by simpa using h0.2), (by simpa using h1.2), (by simpa using h2.2)⟩
  · have h' := mt e.mpr h
    exact nb (nb nb1) h'
theorem r3 : (InR s 3 [x] → okWorld s [x]) ∧ (¬ InR s 3 [x] → Vbtaaf.step s (.world x) = (s, [-1])) := by
  have e : InR s 3 [x] ↔ Vbtaaf.isSet s x = true := by
    show InF s (kindAt 3) _ ↔ _
    simp only [inF1, K3_0, ok_set]
  refine ⟨fun h => ?_, fun h => My.step_world1 ?_⟩
  · obtain h0 := e.mp h
    rw [My.isSet_iff] at h0
    obtain ⟨x', rfl⟩ := nat_of (n := x) (by omega)
    exact ⟨x', rfl, (by simpa using h0.2)⟩
  · cases hb : Vbtaaf.isSet s x with
    | false => rfl
    | true => exact absurd (e.mpr hb) h
theorem r4 : (InR s 4 [x, y, z] → okTell s [x, y, z]) ∧ (¬ InR s 4 [x, y, z] → Vbtaaf.step s (.tell x y z) = (s, [-1])) := by
  have e : InR s 4 [x, y, z] ↔ Vbtaaf.isActor s x = true ∧ Vbtaaf.from_ y 0 ((s.facts : Int) - 1) = true ∧ Vbtaaf.from_ z 0 1 = true := by
    show InF s (kindAt 4) _ ↔ _
    simp only [inF3, K4_0, K4_1, K4_2, ok_actor, ok_fact, ok_yn]
  refine ⟨fun h => ?_, fun h => My.step_tell1 ?_⟩
  · obtain ⟨h0, h1, h2⟩ := e.mp h
    rw [My.isActor_iff] at h0
    rw [My.from_iff] at h1
    rw [My.from_iff] at h2
    obtain ⟨x', rfl⟩ := nat_of (n := x) (by omega)
    obtain ⟨y', rfl⟩ := nat_of (n := y) (by omega)
    obtain ⟨z', rfl⟩ := nat_of (n := z) (by omega)
    exact ⟨x', y', z', rfl, (by simpa using h0.2), (by omega), (by omega)⟩
  · have h' := mt e.mpr h
    exact nb (nb nb1) h'
theorem r5 : (InR s 5 [x, y, z] → okGoal s [x, y, z]) ∧ (¬ InR s 5 [x, y, z] → Vbtaaf.step s (.goal x y z) = (s, [-1])) := by
  have e : InR s 5 [x, y, z] ↔ Vbtaaf.isActor s x = true ∧ Vbtaaf.isSet s y = true ∧ Vbtaaf.isSet s z = true := by
    show InF s (kindAt 5) _ ↔ _
    simp only [inF3, K5_0, K5_1, K5_2, ok_actor, ok_set]
  refine ⟨fun h => ?_, fun h => My.step_goal1 ?_⟩
  · obtain ⟨h0, h1, h2⟩ := e.mp h
    rw [My.isActor_iff] at h0
    rw [My.isSet_iff] at h1
    rw [My.isSet_iff] at h2
    obtain ⟨x', rfl⟩ := nat_of (n := x) (by omega)
    obtain ⟨y', rfl⟩ := nat_of (n := y) (by omega)
    obtain ⟨z', rfl⟩ := nat_of (n := z) (by omega)
    exact ⟨x', y', z', rfl, (by simpa using h0.2), (by simpa using h1.2), (by simpa using h2.2)⟩
  · have h' := mt e.mpr h
    exact nb (nb nb1) h'
theorem r6 : (InR s 6 [x] → okPlan s [x]) ∧ (¬ InR s 6 [x] → Vbtaaf.step s (.plan x) = (s, [-1])) := by
  have e : InR s 6 [x] ↔ Vbtaaf.isActor s x = true := by
    show InF s (kindAt 6) _ ↔ _
    simp only [inF1, K6_0, ok_actor]
  refine ⟨fun h => ?_, fun h => My.step_plan1 ?_⟩
  · obtain h0 := e.mp h
    rw [My.isActor_iff] at h0
    obtain ⟨x', rfl⟩ := nat_of (n := x) (by omega)
    exact ⟨x', rfl, (by simpa using h0.2)⟩
  · cases hb : Vbtaaf.isActor s x with
    | false => rfl
    | true => exact absurd (e.mpr hb) h
theorem r7 : (InR s 7 [x, y] → okFar s [x, y]) ∧ (¬ InR s 7 [x, y] → Vbtaaf.step s (.far x y) = (s, [-1])) := by
  have e : InR s 7 [x, y] ↔ Vbtaaf.isActor s x = true ∧ Vbtaaf.isSet s y = true := by
    show InF s (kindAt 7) _ ↔ _
    simp only [inF2, K7_0, K7_1, ok_actor, ok_set]
  refine ⟨fun h => ?_, fun h => My.step_far1 ?_⟩
  · obtain ⟨h0, h1⟩ := e.mp h
    rw [My.isActor_iff] at h0
    rw [My.isSet_iff] at h1
    obtain ⟨x', rfl⟩ := nat_of (n := x) (by omega)
    obtain ⟨y', rfl⟩ := nat_of (n := y) (by omega)
    exact ⟨x', y', rfl, (by simpa using h0.2), (by simpa using h1.2)⟩
  · have h' := mt e.mpr h
    exact nb nb1 h'
theorem r8 : (InR s 8 [x] → okPlan s [x]) ∧ (¬ InR s 8 [x] → Vbtaaf.step s (.proof x) = (s, [-1])) := by
  have e : InR s 8 [x] ↔ Vbtaaf.isActor s x = true := by
    show InF s (kindAt 8) _ ↔ _
    simp only [inF1, K8_0, ok_actor]
  refine ⟨fun h => ?_, fun h => My.step_proof1 ?_⟩
  · obtain h0 := e.mp h
    rw [My.isActor_iff] at h0
    obtain ⟨x', rfl⟩ := nat_of (n := x) (by omega)
    exact ⟨x', rfl, (by simpa using h0.2)⟩
  · cases hb : Vbtaaf.isActor s x with
    | false => rfl
    | true => exact absurd (e.mpr hb) h
theorem r11 : (InR s 11 [x] → okPlan s [x]) ∧ (¬ InR s 11 [x] → Vbtaaf.step s (.turn x) = (s, [-1])) := by
  have e : InR s 11 [x] ↔ Vbtaaf.isActor s x = true := by
    show InF s (kindAt 11) _ ↔ _
    simp only [inF1, K11_0, ok_actor]
  refine ⟨fun h => ?_, fun h => My.step_turn1 ?_⟩
  · obtain h0 := e.mp h
    rw [My.isActor_iff] at h0
    obtain ⟨x', rfl⟩ := nat_of (n := x) (by omega)
    exact ⟨x', rfl, (by simpa using h0.2)⟩
  · cases hb : Vbtaaf.isActor s x with
    | false => rfl
    | true => exact absurd (e.mpr hb) h
theorem r12 : (InR s 12 [x] → okRounds s [x]) ∧ (¬ InR s 12 [x] → Vbtaaf.step s (.rounds x) = (s, [-1])) := by
  have e : InR s 12 [x] ↔ Vbtaaf.from_ x 1 20 = true := by
    show InF s (kindAt 12) _ ↔ _
    simp only [inF1, K12_0, ok_hmr]
  refine ⟨fun h => ?_, fun h => My.step_rounds1 ?_⟩
  · obtain h0 := e.mp h
    rw [My.from_iff] at h0
    obtain ⟨x', rfl⟩ := nat_of (n := x) (by omega)
    exact ⟨x', rfl, (by omega), (by omega)⟩
  · cases hb : Vbtaaf.from_ x 1 20 with
    | false => rfl
    | true => exact absurd (e.mpr hb) h
theorem r13 : (InR s 13 [x] → okPlan s [x]) ∧ (¬ InR s 13 [x] → Vbtaaf.step s (.belief x) = (s, [-1])) := by
  have e : InR s 13 [x] ↔ Vbtaaf.isActor s x = true := by
    show InF s (kindAt 13) _ ↔ _
    simp only [inF1, K13_0, ok_actor]
  refine ⟨fun h => ?_, fun h => My.step_belief1 ?_⟩
  · obtain h0 := e.mp h
    rw [My.isActor_iff] at h0
    obtain ⟨x', rfl⟩ := nat_of (n := x) (by omega)
    exact ⟨x', rfl, (by simpa using h0.2)⟩
  · cases hb : Vbtaaf.isActor s x with
    | false => rfl
    | true => exact absurd (e.mpr hb) h
theorem k9 (i : Nat) : kindAt 9 (i + 1) = "set" := by
  unfold kindAt
  have e : ¬ i + 1 < (kindsOf 9).length := by
    have : (kindsOf 9).length = 1 := rfl
    omega
  rw [if_neg e]
  rfl
theorem r9 (h3 : xs.length ≤ 300) : (InR s 9 (x :: xs) → okCheck s (x :: xs)) ∧ (¬ InR s 9 (x :: xs) → Vbtaaf.step s (.check x xs) = (s, [-1])) := by
  have e : InR s 9 (x :: xs) ↔ Vbtaaf.isActor s x = true ∧ ∀ y ∈ xs, Vbtaaf.isSet s y = true := by
    show InF s (kindAt 9) _ ↔ _
    rw [inF_row k9, K9_0, ok_actor]
    simp only [ok_set]
  refine ⟨fun h => ?_, fun h => My.step_check1 ?_⟩
  · obtain ⟨h0, h1⟩ := e.mp h
    rw [My.isActor_iff] at h0
    obtain ⟨x', rfl⟩ := nat_of (n := x) (by omega)
    have hnn : ∀ y ∈ xs, 0 ≤ y := fun y hy => (My.isSet_iff.mp (h1 y hy)).1
    have hx : xs = My.nInts (xs.map Int.toNat) := by
      unfold My.nInts
      rw [List.map_map]
      refine (List.map_id xs).symm.trans (List.map_congr_left fun y hy => ?_)
      have := hnn y hy
      show y = ((y.toNat : Nat) : Int)
      omega
    refine ⟨x', xs.map Int.toNat, by rw [← hx], by simpa using h0.2, fun y hy => ?_, by simpa using h3⟩
    obtain ⟨z, hz, rfl⟩ := List.mem_map.mp hy
    have := My.isSet_iff.mp (h1 z hz)
    exact this.2
  · cases ha : Vbtaaf.isActor s x with
    | false => exact .inl rfl
    | true =>
      refine .inr (Classical.byContradiction fun hb => h (e.mpr ⟨ha, fun y hy => ?_⟩))
      have hb : xs.all (Vbtaaf.isSet s) = true := by simpa using hb
      exact List.all_eq_true.mp hb y hy
theorem k10 (i : Nat) : kindAt 10 (i + 1) = "deed" := by
  unfold kindAt
  have e : ¬ i + 1 < (kindsOf 10).length := by
    have : (kindsOf 10).length = 1 := rfl
    omega
  rw [if_neg e]
  rfl
theorem r10 (h3 : xs.length ≤ 300) : (InR s 10 (x :: xs) → okFollow s (x :: xs)) ∧ (¬ InR s 10 (x :: xs) → Vbtaaf.step s (.follow x xs) = (s, [-1])) := by
  have e : InR s 10 (x :: xs) ↔ Vbtaaf.isActor s x = true ∧ ∀ y ∈ xs, Vbtaaf.from_ y 0 ((s.deeds.length : Int) - 1) = true := by
    show InF s (kindAt 10) _ ↔ _
    rw [inF_row k10, K10_0, ok_actor]
    simp only [ok_deed]
  refine ⟨fun h => ?_, fun h => My.step_follow1 ?_⟩
  · obtain ⟨h0, h1⟩ := e.mp h
    rw [My.isActor_iff] at h0
    obtain ⟨x', rfl⟩ := nat_of (n := x) (by omega)
    have hnn : ∀ y ∈ xs, 0 ≤ y := fun y hy => (My.from_iff.mp (h1 y hy)).1
    have hx : xs = My.nInts (xs.map Int.toNat) := by
      unfold My.nInts
      rw [List.map_map]
      refine (List.map_id xs).symm.trans (List.map_congr_left fun y hy => ?_)
      have := hnn y hy
      show y = ((y.toNat : Nat) : Int)
      omega
    refine ⟨x', xs.map Int.toNat, by rw [← hx], by simpa using h0.2, fun y hy => ?_, by simpa using h3⟩
    obtain ⟨z, hz, rfl⟩ := List.mem_map.mp hy
    have := My.from_iff.mp (h1 z hz)
    omega
  · cases ha : Vbtaaf.isActor s x with
    | false => exact .inl rfl
    | true =>
      refine .inr (Classical.byContradiction fun hb => h (e.mpr ⟨ha, fun y hy => ?_⟩))
      have hb : (xs.all fun k => Vbtaaf.from_ k 0 ((s.deeds.length : Int) - 1) && (Vbtaaf.deedOf s k.toNat).actor == x.toNat) = true := by
        cases q : (xs.all fun k => Vbtaaf.from_ k 0 ((s.deeds.length : Int) - 1) && (Vbtaaf.deedOf s k.toNat).actor == x.toNat) with
        | true => rfl
        | false => exact absurd q hb
      have := List.all_eq_true.mp hb y hy
      rw [Bool.and_eq_true] at this
      exact this.1
end
noncomputable def okOf (c : Nat) : Vbtaaf.State → List Int → Prop := match c with | 0 => okFacts | 1 => okDeed | 2 => okActor | 3 => okWorld | 4 => okTell | 5 => okGoal | 6 => okPlan | 7 => okFar | 8 => okPlan | 9 => okCheck | 10 => okFollow | 11 => okPlan | 12 => okRounds | 13 => okPlan | 14 => okNone | _ => okNone
noncomputable def mkOf (c : Nat) : List Int → Vbtaaf.Call := match c with | 0 => mkFacts | 1 => mkDeed | 2 => mkActor | 3 => mkWorld | 4 => mkTell | 5 => mkGoal | 6 => mkPlan | 7 => mkFar | 8 => mkProof | 9 => mkCheck | 10 => mkFollow | 11 => mkTurn | 12 => mkRounds | 13 => mkBelief | 14 => (fun _ => .state) | _ => fun _ => .deeds
structure Frm (c : Nat) (ns a row : List Int) : Prop where
  eq : ns = a ++ row
  len : a.length = My.numsOf c
  r0 : My.rowsOf c = 0 → row = []
  r3 : row.length ≤ 300
theorem reply_ok {s : Vbtaaf.State} {c : Nat} {ns a row : List Int} (hc : c < 16) (F : Frm c ns a row) : (InR s c ns → okOf c s ns ∧ mkOf c ns = My.mkCall c a row) ∧ (¬ InR s c ns → Vbtaaf.step s (My.mkCall c a row) = (s, [-1])) := by
  obtain ⟨rfl, hl, h0, h3⟩ := F
  match c, hc, hl, h0 with
  | 0, _, hl, h0 =>
    obtain ⟨x, rfl⟩ := My.len1 hl
    obtain rfl := h0 rfl
    exact ⟨fun h => ⟨r0.1 h, rfl⟩, r0.2⟩
  | 1, _, hl, h0 =>
    obtain ⟨x, y, z, u, v, rfl⟩ := My.len5 hl
    obtain rfl := h0 rfl
    exact ⟨fun h => ⟨r1.1 h, rfl⟩, r1.2⟩
  | 2, _, hl, h0 =>
    obtain ⟨x, y, z, rfl⟩ := My.len3 hl
    obtain rfl := h0 rfl
    exact ⟨fun h => ⟨r2.1 h, rfl⟩, r2.2⟩
  | 3, _, hl, h0 =>
    obtain ⟨x, rfl⟩ := My.len1 hl
    obtain rfl := h0 rfl
    exact ⟨fun h => ⟨r3.1 h, rfl⟩, r3.2⟩
  | 4, _, hl, h0 =>
    obtain ⟨x, y, z, rfl⟩ := My.len3 hl
    obtain rfl := h0 rfl
    exact ⟨fun h => ⟨r4.1 h, rfl⟩, r4.2⟩
  | 5, _, hl, h0 =>
    obtain ⟨x, y, z, rfl⟩ := My.len3 hl
    obtain rfl := h0 rfl
    exact ⟨fun h => ⟨r5.1 h, rfl⟩, r5.2⟩
  | 6, _, hl, h0 =>
    obtain ⟨x, rfl⟩ := My.len1 hl
    obtain rfl := h0 rfl
    exact ⟨fun h => ⟨r6.1 h, rfl⟩, r6.2⟩
  | 7, _, hl, h0 =>
    obtain ⟨x, y, rfl⟩ := My.len2 hl
    obtain rfl := h0 rfl
    exact ⟨fun h => ⟨r7.1 h, rfl⟩, r7.2⟩
  | 8, _, hl, h0 =>
    obtain ⟨x, rfl⟩ := My.len1 hl
    obtain rfl := h0 rfl
    exact ⟨fun h => ⟨r8.1 h, rfl⟩, r8.2⟩
  | 9, _, hl, h0 =>
    obtain ⟨x, rfl⟩ := My.len1 hl
    exact ⟨fun h => ⟨(r9 h3).1 h, rfl⟩, (r9 h3).2⟩
  | 10, _, hl, h0 =>
    obtain ⟨x, rfl⟩ := My.len1 hl
    exact ⟨fun h => ⟨(r10 h3).1 h, rfl⟩, (r10 h3).2⟩
  | 11, _, hl, h0 =>
    obtain ⟨x, rfl⟩ := My.len1 hl
    obtain rfl := h0 rfl
    exact ⟨fun h => ⟨r11.1 h, rfl⟩, r11.2⟩
  | 12, _, hl, h0 =>
    obtain ⟨x, rfl⟩ := My.len1 hl
    obtain rfl := h0 rfl
    exact ⟨fun h => ⟨r12.1 h, rfl⟩, r12.2⟩
  | 13, _, hl, h0 =>
    obtain ⟨x, rfl⟩ := My.len1 hl
    obtain rfl := h0 rfl
    exact ⟨fun h => ⟨r13.1 h, rfl⟩, r13.2⟩
  | 14, _, hl, h0 =>
    obtain rfl := My.len0 hl
    obtain rfl := h0 rfl
    exact ⟨fun h => ⟨rfl, rfl⟩, fun h => absurd inF_nil h⟩
  | 15, _, hl, h0 =>
    obtain rfl := My.len0 hl
    obtain rfl := h0 rfl
    exact ⟨fun h => ⟨rfl, rfl⟩, fun h => absurd inF_nil h⟩
  | n + 16, h, _, _ => exact absurd h (by omega)
theorem kinds_len : ∀ c < 16, (kindsOf c).length = My.numsOf c := by decide +kernel
end Ap
end
section
set_option Elab.async false
set_option linter.all false
set_option maxRecDepth 100000
set_option maxHeartbeats 4000000
namespace Ap
open PySem PySem.Spec PyProof.Rows L2
section
variable {P : Program} {w : World} {K : PySem.W.Frag} {mg : Str → Option Value} {base : Heap} {CD CA CS : Addr}
inductive SpStoryI (CS : Addr) (vs : List V) (H : Hp) (Q : VK) : Prop
  | mk (x dx : Addr) (h1 : vs = [.ref x]) (h2 : H x = some (.ins CS dx [])) (h3 : ∀ (H' : Hp) (la ld : Addr), (∀ b o, H b = some o → b ≠ x → H' b = some o) → H' x = some (.ins CS dx (sF 0 0 la ld)) → H' la = some (.lst []) → H' ld = some (.lst []) → la ≠ ld → H la = none → H ld = none → Q .non H') : SpStoryI CS vs H Q
noncomputable def spStory (CS : Addr) : Sp := fun vs H Q _ => SpStoryI CS vs H Q
theorem scStory : FnScope ["self"] ["self"] (defScope sStoryInit) := ⟨rfl, rfl, rfl, by decide +kernel, rfl, by decide +kernel, by decide +kernel⟩
noncomputable def wStory1 (K : PySem.W.Frag) (CD CA CS : Addr) : TS := sFld K (tVar 0) (tC (.int 0)) "facts"
noncomputable def wStory2 (K : PySem.W.Frag) (CD CA CS : Addr) : TS := sFld K (tVar 0) (tC (.int 0)) "world"
noncomputable def wStory3 (K : PySem.W.Frag) (CD CA CS : Addr) : TS := sFld K (tVar 0) (tLst tNil) "actors"
noncomputable def wStory4 (K : PySem.W.Frag) (CD CA CS : Addr) : TS := sFld K (tVar 0) (tLst tNil) "deeds"
noncomputable def wStory5 (K : PySem.W.Frag) (CD CA CS : Addr) : TS := tSeq (wStory3 K CD CA CS) (wStory4 K CD CA CS)
noncomputable def wStory6 (K : PySem.W.Frag) (CD CA CS : Addr) : TS := tSeq (wStory2 K CD CA CS) (wStory5 K CD CA CS)
noncomputable def wStory7 (K : PySem.W.Frag) (CD CA CS : Addr) : TS := tSeq (wStory1 K CD CA CS) (wStory6 K CD CA CS)
theorem ok_story {f : Addr} {fd : FuncData} (F : Fun K "__init__" "Story.__init__" sStoryInit f fd) (T : Tx K mg CD CA CS) : FnOk P w K mg base CX0 1 f fd ["self"] (spStory CS) := by
  have sc := scStory
  refine F.ok sc (fun vs H Q E h => ?_) (fun cdv A outer s0 H vs Q E hr h => ?_)
  · obtain ⟨x, dx, rfl, _⟩ := h
    rfl
  · obtain ⟨x, dx, rfl, hx, k⟩ := h
    refine ⟨(wStory7 K CD CA CS), (pss_cons
      (ps_fld (pv 0) pe_int rfl)
    (pss_cons
      (ps_fld (pv 0) pe_int rfl)
    (pss_cons
      (ps_fld (pv 0) (pe_lst pa_nil) rfl)
    (pss_one
      (ps_fld (pv 0) (pe_lst pa_nil) rfl))))), ?_⟩
    refine ⟨_, rfl, x, CS, dx, _, rfl, hx, T.cStory, T.sFacts, (by show 0 < 1000; decide), ?_⟩
    refine ⟨_, rfl, x, CS, dx, _, rfl, upd_same, T.cStory, T.sWorld, (by show 1 < 1000; decide), ?_⟩
    rw [upd_upd]
    refine ⟨Nat.zero_le _, fun la hla => ?_⟩
    have nla : la ≠ x := fun e => by rw [e, upd_same] at hla; cases hla
    have hla0 : H la = none := by rw [upd_ne nla] at hla; exact hla
    refine ⟨_, rfl, x, CS, dx, _, rfl, (by rw [upd_ne (Ne.symm nla)]; exact upd_same), T.cStory, T.sActors, (by simp (disch := decide +kernel) [putF_ne, putF_nil]), ?_⟩
    refine ⟨Nat.zero_le _, fun ld hld => ?_⟩
    have nld : ld ≠ x := fun e => by rw [e, upd_same] at hld; cases hld
    have nll : ld ≠ la := fun e => by rw [e, upd_ne nla, upd_same] at hld; cases hld
    have hld0 : H ld = none := by rw [upd_ne nld, upd_ne nll, upd_ne nld] at hld; exact hld
    refine ⟨_, rfl, x, CS, dx, _, rfl, (by rw [upd_ne (Ne.symm nld)]; exact upd_same), T.cStory, T.sDeeds, (by simp (disch := decide +kernel) [putF_ne, putF_nil]), ?_⟩
    refine k _ la ld (fun b o q hb => ?_) ?_ ?_ ?_ (Ne.symm nll) hla0 hld0
    · rw [upd_ne hb, upd_ne (ne_of_none q hld0), upd_ne hb, upd_ne (ne_of_none q hla0), upd_ne hb]
      exact q
    · rw [upd_same]
      simp (disch := decide +kernel) only [putF_ne, putF_nil]
      rfl
    · rw [upd_ne nla, upd_ne (Ne.symm nll), upd_ne nla, upd_same]
    · rw [upd_ne nld, upd_same]
noncomputable def GR (P : Program) (w : World) (K : PySem.W.Frag) (mg : Str → Option Value) (base : Heap) (k : Nat) (f : Addr) (sp : Sp) : Prop := ∃ fd, FnOk P w K mg base CX0 k f fd ["story", "numbers"] sp ∧ PySem.W.keepIn K (.ref f) = true ∧ Binds K fd ["story", "numbers"] []
structure Reps (P : Program) (w : World) (K : PySem.W.Frag) (mg : Str → Option Value) (base : Heap) (CD CA CS : Addr) (k : Nat) (d : Addr) (kvs : List (Int × V)) : Prop where
  mgR : mg "REPLIES" = some (.ref d)
  kd : KD K d kvs
  at_ : ∀ c < 16, ∃ f, (kvs.find? fun p => p.1 == ((c : Nat) : Int)) = some (((c : Nat) : Int), .ref f) ∧ GR P w K mg base k f (spR CD CA CS (okOf c) (mkOf c))
inductive SpReplyI (CD CA CS : Addr) (vs : List V) (H : Hp) (Q : VK) : Prop
  | mk (z : SA) (s : Vbtaaf.State) (nl : Addr) (c : Nat) (ns a row : List Int) (h1 : vs = [.ref z.st, .int c, .ref nl]) (h2 : StoryAt CD CA CS H z s) (h3 : My.SOk s) (h4 : Told H z nl ns) (h5 : c < 16) (h6 : Frm c ns a row) (h7 : Post CD CA CS H z (Vbtaaf.step s (My.mkCall c a row)) Q) : SpReplyI CD CA CS vs H Q
noncomputable def spReply (CD CA CS : Addr) : Sp := fun vs H Q _ => SpReplyI CD CA CS vs H Q
theorem scReply : FnScope ["story", "call", "numbers"] ["story", "call", "numbers"] (defScope sReply) := ⟨rfl, rfl, rfl, by decide +kernel, rfl, by decide +kernel, by decide +kernel⟩
theorem ok_reply {f : Addr} {fd : FuncData} {k : Nat} {d : Addr} {kvs : List (Int × V)} (F : Fun K "reply" "reply" sReply f fd) (U : Ty mg) (R : Reps P w K mg base CD CA CS k d kvs) (hI : Own P w K mg base "all_in_range" ["story", "call", "numbers"] k (spInR CD CA CS)) :
    FnOk P w K mg base CX0 (k + 1) f fd ["story", "call", "numbers"] (spReply CD CA CS) := by
  have sc := scReply
  obtain ⟨t1, g1⟩ := U.NOT_IN_RANGE
  obtain ⟨_, _, G_all_in_range, b_all_in_range, k_all_in_range, m_all_in_range⟩ := hI
  refine F.ok sc (fun vs H Q E h => ?_) (fun cdv A outer s0 H vs Q E hr h => ?_)
  · obtain ⟨z, s, nl, c, ns, a, row, rfl, _⟩ := h
    rfl
  · obtain ⟨z, s, nl, c, ns, a, row, rfl, S, hs, ⟨hnl, hno⟩, hc, Fm, k⟩ := h
    obtain ⟨hin, hno2⟩ := reply_ok (s := s) hc Fm
    obtain ⟨fr, hfind, hGR⟩ := R.at_ c hc
    refine ⟨_, (pss_cons
      (ps_if (pt_not (pt_val (pe_call G_all_in_range hr rfl m_all_in_range k_all_in_range b_all_in_range .nil pass0 (pa_cons (pv 0) (pa_cons (pv 1) (pa_cons (pv 2) pa_nil))))))
        (pss_one
          (ps_ret (pe_lst (pa_cons (pe_glob (v := .int (-1)) rfl g1 ⟨_, rfl⟩) pa_nil))))
        pss_nil)
    (pss_one
      (ps_ret (pe_callV (G := GR P w K mg base _) (fun f sp ⟨fd, g1, g2, g3⟩ => ⟨_, fd, _, g1, hr, g2, g3⟩) pass0 (pe_kget (pe_glob (v := .ref d) rfl R.mgR rfl) (pv 1) (fun _ _ => rfl)) (pa_cons (pv 0) (pa_cons (pv 2) pa_nil)))))), ?_⟩
    refine ⟨_, rfl, _, rfl, _, rfl, z, s, nl, c, ns, rfl, S, hs.facts, hnl, hc, ?_, fun H1 sm hi => ⟨_, rfl, iteF ?_⟩, fun H1 sm hi => ⟨_, rfl, iteT ⟨one_le, fun l hl => ?_⟩⟩⟩
    · by_cases hr0 : My.rowsOf c = 0
      · refine .inl ?_
        rw [kinds_len c hc, Fm.eq, Fm.r0 hr0, List.append_nil, Fm.len]
        exact Nat.le_refl _
      · refine .inr (Classical.byContradiction fun q => hr0 ?_)
        unfold My.rowsOf
        rw [if_neg q]
    · obtain ⟨hok, hmk⟩ := hin hi
      rw [← hmk] at k
      refine ⟨_, rfl, d, kvs, _, _, rfl, R.kd, rfl, hfind, fr, _, rfl, hGR, _, rfl, _, rfl, ?_⟩
      refine ⟨z, s, nl, ns, rfl, S.same sm, hs, ⟨sm _ _ hnl, hno⟩, hok, fun H2 z2 l S2 e2 hl hl1 nf ff kp => ?_⟩
      refine k H2 z2 l S2 e2 hl (Same.none sm hl1) nf (fun b hb => ?_) fun b o q hb => kp b o (sm b o q) hb
      rcases ff b hb with h | h
      · exact .inl h
      · exact .inr (Same.none sm h)
    · rw [hno2 hi] at k
      exact k.keep S (same_upd sm hl) upd_same (Same.none sm hl)
inductive SpAnsI (K : PySem.W.Frag) (vs : List V) (H : Hp) (Q : VK) : Prop
  | mk (a : Addr) (ns : List Int) (h1 : vs = [.ref a]) (h2 : SqL K H a (ns.map V.int)) (h3 : ns.length ≤ 16000) (h4 : PyVbtaaf.answers_asked ns = true) (h5 : ∀ (H' : Hp) (p : Addr), H' p = some (.lst ((PyVbtaaf.answers ns).map V.int)) → Q (.ref p) H') : SpAnsI K vs H Q
noncomputable def spAns (K : PySem.W.Frag) : Sp := fun vs H Q _ => SpAnsI K vs H Q
theorem scAnswers : FnScope ["calls", "story", "answered", "at", "call", "behind", "numbers", "answer", "first"] ["calls"] (defScope sAnswers) := ⟨rfl, rfl, rfl, by decide +kernel, rfl, by decide +kernel, by decide +kernel⟩
noncomputable def Arg (K : PySem.W.Frag) (H : Hp) (a : Addr) (xs : List V) (N : Addr → Prop) : Prop := (∃ o, H a = some o ∧ (∀ H' : Hp, H' a = some o → SqL K H' a xs) ∧ ¬ N a) ∨ ∀ H' : Hp, SqL K H' a xs
theorem Arg.sq {H : Hp} {a : Addr} {xs : List V} {N : Addr → Prop} (h : Arg K H a xs N) : SqL K H a xs := by
  rcases h with ⟨o, h1, h2, _⟩ | h
  · exact h2 H h1
  · exact h H
theorem Arg.start {H : Hp} {a : Addr} {xs : List V} (h : SqL K H a xs) {N : Addr → Prop} (hN : ∀ b o, H b = some o → ¬ N b) : Arg K H a xs N := by
  rcases h with h | h
  · rcases h with h | ⟨o, h⟩
    · exact .inl ⟨_, h, fun H' q => .inl (.inl q), hN a _ h⟩
    · exact .inl ⟨_, h, fun H' q => .inl (.inr ⟨o, q⟩), hN a _ h⟩
  · exact .inr fun H' => .inr h
theorem Arg.keep {H H' : Hp} {a : Addr} {xs : List V} {N N' : Addr → Prop} (h : Arg K H a xs N) (hk : ∀ o, H a = some o → ¬ N a → H' a = some o) (hN : ∀ o, H a = some o → N' a → N a) : Arg K H' a xs N' := by
  rcases h with ⟨o, h1, h2, h3⟩ | h
  · exact .inl ⟨o, hk o h1 h3, h2, fun q => h3 (hN o h1 q)⟩
  · exact .inr h
structure Loop (K : PySem.W.Frag) (CD CA CS : Addr) (H : Hp) (a ans : Addr) (ns : List Int) (i : Nat) (z : SA) (s : Vbtaaf.State) (acc due : List Int) (mm : Nat) : Prop where
  le : i ≤ ns.length
  left : My.Left s (ns.drop i) mm due
  all : PyVbtaaf.answers ns = acc ++ due
  S : StoryAt CD CA CS H z s
  ok : My.SOk s
  ha : H ans = some (.lst (acc.map V.int))
  an : ¬ ans ∈ foot z
  arg : Arg K H a (ns.map V.int) (fun b => b = ans ∨ b ∈ foot z)
  m4 : mm ≤ 400
  len : acc.length ≤ 131 * (400 - mm)
theorem StoryAt.updL {H : Hp} {z : SA} {s : Vbtaaf.State} {l : Addr} {xs ys : List V} (S : StoryAt CD CA CS H z s) (hl : H l = some (.lst xs)) (nf : ¬ l ∈ foot z) : StoryAt CD CA CS (upd H l (.lst ys)) z s := by
  obtain ⟨dxs, h0⟩ := S.st
  refine ⟨⟨dxs, ?_⟩, ?_, ?_, S.ne, S.alen, S.dlen, S.nd, fun j p h => ?_, fun j p h => ?_⟩
  · rw [upd_ne (ne_of h0 hl ins_lst)]; exact h0
  · rw [upd_ne (fun e => nf (foot_mem.mpr (.inr (.inl e.symm))))]; exact S.la
  · rw [upd_ne (fun e => nf (foot_mem.mpr (.inr (.inr (.inl e.symm)))))]; exact S.ld
  · obtain ⟨x, h1, dx, h2⟩ := S.act j p h
    exact ⟨x, h1, dx, by rw [upd_ne (ne_of h2 hl ins_lst)]; exact h2⟩
  · obtain ⟨x, h1, dx, h2⟩ := S.ded j p h
    exact ⟨x, h1, dx, by rw [upd_ne (ne_of h2 hl ins_lst)]; exact h2⟩
theorem cut_mid {ns : List Int} {i j : Nat} (h : i ≤ j) (hj : j ≤ ns.length) : cutV (ns.map V.int) (some ((i : Nat) : Int)) (some ((j : Nat) : Int)) = ((ns.drop i).take (j - i)).map V.int := by
  unfold cutV
  rw [HT.sIx_nat, HT.sIx_nat, List.length_map, Nat.min_eq_left hj, Nat.min_eq_left (Nat.le_trans h hj), List.map_take, List.map_drop]
theorem Loop.next {H H1 H2 : Hp} {a ans : Addr} {ns acc due due' : List Int} {i j : Nat} {z z2 : SA} {s : Vbtaaf.State} {mm : Nat} {c : Vbtaaf.Call} {l : Addr} (L : Loop K CD CA CS H a ans ns i z s acc due (mm + 1)) (sm : Same H H1) (hj : j ≤ ns.length)
    (hdue : due = (((Vbtaaf.step s c).2.length : Int) :: (Vbtaaf.step s c).2) ++ due') (hleft : My.Left (Vbtaaf.step s c).1 (ns.drop j) mm due')
    (S2 : StoryAt CD CA CS H2 z2 (Vbtaaf.step s c).1) (hl : H2 l = some (.lst ((Vbtaaf.step s c).2.map V.int))) (hl1 : H1 l = none) (ff : ∀ b ∈ foot z2, b ∈ foot z ∨ H1 b = none) (kp : ∀ b o, H1 b = some o → ¬ b ∈ foot z → H2 b = some o) :
    H2 ans = some (.lst (acc.map V.int)) ∧ upd H2 ans (.lst (acc.map V.int ++ [.int ((Vbtaaf.step s c).2.length : Nat)])) l = some (.lst ((Vbtaaf.step s c).2.map V.int)) ∧ (Vbtaaf.step s c).2.length ≤ 130 ∧ acc.length ≤ 131 * 400 ∧
    Loop K CD CA CS (upd (upd H2 ans (.lst (acc.map V.int ++ [.int ((Vbtaaf.step s c).2.length : Nat)]))) ans (.lst ((acc.map V.int ++ [.int ((Vbtaaf.step s c).2.length : Nat)]) ++ (Vbtaaf.step s c).2.map V.int))) a ans ns j z2 (Vbtaaf.step s c).1 (acc ++ (((Vbtaaf.step s c).2.length : Int) :: (Vbtaaf.step s c).2)) due' mm := by
  have hans1 := sm _ _ L.ha
  have hans2 : H2 ans = some (.lst (acc.map V.int)) := kp _ _ hans1 L.an
  have hln : l ≠ ans := fun e => by rw [e, hans1] at hl1; cases hl1
  have h130 := L.ok.answer_len c
  have han2 : ¬ ans ∈ foot z2 := fun q => by
    rcases ff ans q with h | h
    · exact L.an h
    · rw [hans1] at h; cases h
  have hlen := L.len
  have hm4 := L.m4
  have e : (acc ++ (((Vbtaaf.step s c).2.length : Int) :: (Vbtaaf.step s c).2)).map V.int = (acc.map V.int ++ [.int ((Vbtaaf.step s c).2.length : Nat)]) ++ (Vbtaaf.step s c).2.map V.int := by
    rw [List.map_append, List.map_cons, List.append_assoc]
    rfl
  refine ⟨hans2, by rw [upd_ne hln]; exact hl, h130, by omega, hj, hleft, by rw [L.all, hdue, List.append_assoc], ?_, L.ok.step c, by rw [upd_same, e], han2, ?_, by omega, ?_⟩
  · rw [upd_upd]
    exact S2.updL hans2 han2
  · refine L.arg.keep (fun o h hn => ?_) (fun o h hn => ?_)
    · have ne : a ≠ ans := fun q => hn (.inl q)
      rw [upd_ne ne, upd_ne ne]
      exact kp _ _ (sm _ _ h) (fun q => hn (.inr q))
    · rcases hn with hn | hn
      · exact .inl hn
      · rcases ff a hn with h' | h'
        · exact .inr h'
        · rw [sm _ _ h] at h'; cases h'
  · rw [List.length_append, List.length_cons]
    omega
inductive AnsW (K : PySem.W.Frag) (CD CA CS : Addr) (a ans x : Addr) (ns : List Int) (m : Nat) (σ : L2.St) (H' : Hp) : Prop
  | mk (i mm : Nat) (z : SA) (s : Vbtaaf.State) (acc due : List Int) (v4 v5 v6 v7 v8 : Option V) (h1 : m = ns.length - i) (h2 : σ = [some (.ref a), some (.ref x), some (.ref ans), some (.int i), v4, v5, v6, v7, v8]) (h3 : z.st = x) (h4 : Loop K CD CA CS H' a ans ns i z s acc due mm) : AnsW K CD CA CS a ans x ns m σ H'
inductive AnsN (K : PySem.W.Frag) (CD CA CS : Addr) (a ans : Addr) (ns : List Int) (z : SA) (i mm' : Nat) (σ' : L2.St) (H' : Hp) : Prop
  | mk (j : Nat) (z' : SA) (s : Vbtaaf.State) (acc due : List Int) (v4 v5 v6 v7 v8 : Option V) (h1 : i < j) (h2 : σ' = [some (.ref a), some (.ref z.st), some (.ref ans), some (.int j), v4, v5, v6, v7, v8]) (h3 : z'.st = z.st) (h4 : Loop K CD CA CS H' a ans ns j z' s acc due mm') : AnsN K CD CA CS a ans ns z i mm' σ' H'
noncomputable def wAnswers1 (K : PySem.W.Frag) (CD CA CS : Addr) : TS := tAsg (tMake CS (spStory CS) [] E0 tNil) (gName 1)
noncomputable def wAnswers2 (K : PySem.W.Frag) (CD CA CS : Addr) : TS := tAsg (tLst tNil) (gName 2)
noncomputable def wAnswers3 (K : PySem.W.Frag) (CD CA CS : Addr) : TS := tAsg (tC (.int 0)) (gName 3)
noncomputable def wAnswers4 (K : PySem.W.Frag) (CD CA CS : Addr) : TS := tAsg (tOp (rIxL K) (tVar 0) (tVar 3)) (gName 4)
noncomputable def wAnswers5 (K : PySem.W.Frag) (CD CA CS : Addr) : TS := tAsg (tOp (rI0 fun i j => V.int (i + j)) (tOp (rI0 fun i j => V.int (i + j)) (tVar 3) (tC (.int 1))) (tCall (spMany) [] E0 (tCons (tVar 4) tNil))) (gName 5)
noncomputable def wAnswers6 (K : PySem.W.Frag) (CD CA CS : Addr) : TS := tAsg (tSl (rSlL K) (tVar 0) (tPart (tOp (rI0 fun i j => V.int (i + j)) (tVar 3) (tC (.int 1)))) (tPart (tVar 5))) (gName 6)
noncomputable def wAnswers7 (K : PySem.W.Frag) (CD CA CS : Addr) : TS := tAsg (tOp (rI0 fun i j => V.int (i + j)) (tVar 5) (tC (.int 1))) (gName 8)
noncomputable def wAnswers8 (K : PySem.W.Frag) (CD CA CS : Addr) : TS := tAsg (tOp (rI0 fun i j => V.int (i + j)) (tVar 8) (tOp (rIxL K) (tVar 0) (tVar 5))) (gName 5)
noncomputable def wAnswers9 (K : PySem.W.Frag) (CD CA CS : Addr) : TS := tAsg (tOp (rCat) (tVar 6) (tSl (rSlL K) (tVar 0) (tPart (tVar 8)) (tPart (tVar 5)))) (gName 6)
noncomputable def wAnswers10 (K : PySem.W.Frag) (CD CA CS : Addr) : TS := tSeq (wAnswers8 K CD CA CS) (wAnswers9 K CD CA CS)
noncomputable def wAnswers11 (K : PySem.W.Frag) (CD CA CS : Addr) : TS := tSeq (wAnswers7 K CD CA CS) (wAnswers10 K CD CA CS)
noncomputable def wAnswers12 (K : PySem.W.Frag) (CD CA CS : Addr) : TS := tIfS (tB (tCall (spHasRow) [] E0 (tCons (tVar 4) tNil))) (wAnswers11 K CD CA CS) tNext
noncomputable def wAnswers13 (K : PySem.W.Frag) (CD CA CS : Addr) : TS := tAsg (tCall (spReply CD CA CS) [] E0 (tCons (tVar 1) (tCons (tVar 4) (tCons (tVar 6) tNil)))) (gName 7)
noncomputable def wAnswers14 (K : PySem.W.Frag) (CD CA CS : Addr) : TS := tDrop (tBM K "list" rAppend (tVar 2) (tCons (tCB (LenI K) (tCons (tVar 7) tNil)) tNil))
noncomputable def wAnswers15 (K : PySem.W.Frag) (CD CA CS : Addr) : TS := tDrop (tBM K "list" rExtend (tVar 2) (tCons (tVar 7) tNil))
noncomputable def wAnswers16 (K : PySem.W.Frag) (CD CA CS : Addr) : TS := tAsg (tVar 5) (gName 3)
noncomputable def wAnswers17 (K : PySem.W.Frag) (CD CA CS : Addr) : TS := tSeq (wAnswers15 K CD CA CS) (wAnswers16 K CD CA CS)
noncomputable def wAnswers18 (K : PySem.W.Frag) (CD CA CS : Addr) : TS := tSeq (wAnswers14 K CD CA CS) (wAnswers17 K CD CA CS)
noncomputable def wAnswers19 (K : PySem.W.Frag) (CD CA CS : Addr) : TS := tSeq (wAnswers13 K CD CA CS) (wAnswers18 K CD CA CS)
noncomputable def wAnswers20 (K : PySem.W.Frag) (CD CA CS : Addr) : TS := tSeq (wAnswers12 K CD CA CS) (wAnswers19 K CD CA CS)
noncomputable def wAnswers21 (K : PySem.W.Frag) (CD CA CS : Addr) : TS := tSeq (wAnswers6 K CD CA CS) (wAnswers20 K CD CA CS)
noncomputable def wAnswers22 (K : PySem.W.Frag) (CD CA CS : Addr) : TS := tSeq (wAnswers5 K CD CA CS) (wAnswers21 K CD CA CS)
noncomputable def wAnswers23 (K : PySem.W.Frag) (CD CA CS : Addr) : TS := tSeq (wAnswers4 K CD CA CS) (wAnswers22 K CD CA CS)
noncomputable def wAnswers24 (K : PySem.W.Frag) (CD CA CS : Addr) : TS := tWhile (tTest (tOp (rI0 fun i j => V.bl (decide (i < j))) (tVar 3) (tCB (LenI K) (tCons (tVar 0) tNil)))) (wAnswers23 K CD CA CS)
noncomputable def wAnswers25 (K : PySem.W.Frag) (CD CA CS : Addr) : TS := tRet (tVar 2)
noncomputable def wAnswers26 (K : PySem.W.Frag) (CD CA CS : Addr) : TS := tSeq (wAnswers24 K CD CA CS) (wAnswers25 K CD CA CS)
noncomputable def wAnswers27 (K : PySem.W.Frag) (CD CA CS : Addr) : TS := tSeq (wAnswers3 K CD CA CS) (wAnswers26 K CD CA CS)
noncomputable def wAnswers28 (K : PySem.W.Frag) (CD CA CS : Addr) : TS := tSeq (wAnswers2 K CD CA CS) (wAnswers27 K CD CA CS)
noncomputable def wAnswers29 (K : PySem.W.Frag) (CD CA CS : Addr) : TS := tSeq (wAnswers1 K CD CA CS) (wAnswers28 K CD CA CS)
theorem ok_answers {f : Addr} {fd : FuncData} {k : Nat} (F : Fun K "answers" "answers" sAnswers f fd) (T : Tx K mg CD CA CS) (hC : OwnC P w K mg base "Story" CS ["self"] k (spStory CS)) (hM : Own P w K mg base "how_many_numbers" ["call"] (k + 1) spMany)
    (hH : Own P w K mg base "has_row" ["call"] (k + 1) spHasRow) (hR : Own P w K mg base "reply" ["story", "call", "numbers"] (k + 1) (spReply CD CA CS)) : FnOk P w K mg base CX0 (k + 2) f fd ["calls"] (spAns K) := by
  have sc := scAnswers
  obtain ⟨_, _, G_Story, b_Story, M_Story, m_Story⟩ := hC
  obtain ⟨_, _, G_how_many_numbers, b_how_many_numbers, k_how_many_numbers, m_how_many_numbers⟩ := hM
  obtain ⟨_, _, G_has_row, b_has_row, k_has_row, m_has_row⟩ := hH
  obtain ⟨_, _, G_reply, b_reply, k_reply, m_reply⟩ := hR
  refine F.ok sc (fun vs H Q E h => ?_) (fun cdv A outer s0 H vs Q E hr h => ?_)
  · obtain ⟨a, ns, rfl, _⟩ := h
    rfl
  · obtain ⟨a, ns, rfl, hsq, h16, hask, k⟩ := h
    refine ⟨(wAnswers29 K CD CA CS), (pss_cons
      (ps_set (i := 1) sc.nd rfl (Or.inl rfl) (pe_make0 M_Story G_Story hr rfl m_Story b_Story .nil pass0))
    (pss_cons
      (ps_set (i := 2) sc.nd rfl (Or.inl rfl) (pe_lst pa_nil))
    (pss_cons
      (ps_set (i := 3) sc.nd rfl (Or.inl rfl) pe_int)
    (pss_cons
      (ps_while PassesOwn.never (pt_cmpR op_lt (pv 3) (pe_callB call_len_seq (by rfl) T.len PySem.boot_len (pa_cons (pv 0) pa_nil)) (nomark _))
        (pss_cons
          (ps_set (i := 4) sc.nd rfl (Or.inl rfl) (pe_ix ix_list (pv 0) (pv 3) (fun _ _ => rfl)))
        (pss_cons
          (ps_set (i := 5) sc.nd rfl (Or.inl rfl) (pe_op op_add (pe_op op_add (pv 3) pe_int) (pe_call G_how_many_numbers hr rfl m_how_many_numbers k_how_many_numbers b_how_many_numbers .nil pass0 (pa_cons (pv 4) pa_nil))))
        (pss_cons
          (ps_set (i := 6) sc.nd rfl (Or.inl rfl) (pe_slice sl_list (pv 0) (po_some (pe_op op_add (pv 3) pe_int)) (po_some (pv 5))))
        (pss_cons
          (ps_if (pt_val (pe_call G_has_row hr rfl m_has_row k_has_row b_has_row .nil pass0 (pa_cons (pv 4) pa_nil)))
            (pss_cons
              (ps_set (i := 8) sc.nd rfl (Or.inl rfl) (pe_op op_add (pv 5) pe_int))
            (pss_cons
              (ps_set (i := 5) sc.nd rfl (Or.inl rfl) (pe_op op_add (pv 8) (pe_ix ix_list (pv 0) (pv 5) (fun _ _ => rfl))))
            (pss_one
              (ps_set (i := 6) sc.nd rfl (Or.inl rfl) (pe_op op_cat (pv 6) (pe_slice sl_list (pv 0) (po_some (pv 8)) (po_some (pv 5))))))))
            pss_nil)
        (pss_cons
          (ps_set (i := 7) sc.nd rfl (Or.inl rfl) (pe_call G_reply hr rfl m_reply k_reply b_reply .nil pass0 (pa_cons (pv 1) (pa_cons (pv 4) (pa_cons (pv 6) pa_nil)))))
        (pss_cons
          (ps_expr (pe_bm PySem.F.plainAttrs_list PySem.F.slot_list_append PySem.F.type_list_append mt_append (pv 2) (pa_cons (pe_callB call_len_seq (by rfl) T.len PySem.boot_len (pa_cons (pv 7) pa_nil)) pa_nil)))
        (pss_cons
          (ps_expr (pe_bm PySem.F.plainAttrs_list PySem.F.slot_list_extend PySem.F.type_list_extend mt_extend (pv 2) (pa_cons (pv 7) pa_nil)))
        (pss_one
          (ps_set (i := 3) sc.nd rfl (Or.inl rfl) (pv 5)))))))))))
    (pss_one
      (ps_ret (pv 2))))))), ?_⟩
    -- story = Story()
    intro x dx hx hdx hne
    refine ⟨x, dx, rfl, upd_same, fun H1 la ld hk1 hx1 hla hld nll hla0 hld0 => ⟨rfl, ?_⟩⟩
    have sm1 : Same H H1 := fun b o q => hk1 b o (by rw [upd_ne (ne_of_none q hx), upd_ne (ne_of_none q hdx)]; exact q) (ne_of_none q hx)
    have nlx : la ≠ x := fun e => by rw [e, upd_same] at hla0; cases hla0
    have ndx : ld ≠ x := fun e => by rw [e, upd_same] at hld0; cases hld0
    have hla0' : H la = none := by
      cases q : H la with
      | none => rfl
      | some o => rw [upd_ne nlx, upd_ne (ne_of_none q hdx), q] at hla0; cases hla0
    have hld0' : H ld = none := by
      cases q : H ld with
      | none => rfl
      | some o => rw [upd_ne ndx, upd_ne (ne_of_none q hdx), q] at hld0; cases hld0
    -- answered = []
    refine ⟨Nat.zero_le _, fun ans hans => ?_⟩
    have S0 : StoryAt CD CA CS H1 ⟨x, la, ld, [], []⟩ Vbtaaf.start := ⟨⟨dx, hx1⟩, hla, hld, nll, rfl, rfl, List.nodup_nil, fun j p h => by simp at h, fun j p h => by simp at h⟩
    have hfoot : ∀ b o, H b = some o → ¬ (b = ans ∨ b ∈ foot ⟨x, la, ld, [], []⟩) := fun b o q h => by
      rcases h with h | h
      · rw [h] at q; rw [sm1 _ _ q] at hans; cases hans
      · rcases foot_mem.mp h with h | h | h | h
        · exact ne_of_none q hx h
        · exact ne_of_none q hla0' h
        · exact ne_of_none q hld0' h
        · simp at h
    have L0 : Loop K CD CA CS (upd H1 ans (.lst [])) a ans ns 0 ⟨x, la, ld, [], []⟩ Vbtaaf.start [] (PyVbtaaf.answers ns) 400 :=
      ⟨Nat.zero_le _, My.Left.start hask, rfl, S0.same (same_upd same_refl hans), My.start_ok, upd_same, S0.fresh hans, (Arg.start hsq hfoot).keep (fun o q _ => by rw [upd_ne (ne_of_none (sm1 _ _ q) hans)]; exact sm1 _ _ q) (fun o _ q => q), Nat.le_refl _, Nat.zero_le _⟩
    -- the loop
    refine ⟨AnsW K CD CA CS a ans x ns,
      ⟨_, 0, 400, _, _, _, _, none, none, none, none, none, rfl, rfl, rfl, L0⟩, ?_⟩
    rintro m σ H2 ⟨i, mm, z, s, acc, due, v4, v5, v6, v7, v8, rfl, rfl, ezx, L⟩
    subst ezx
    have hsq2 := L.arg.sq
    refine ⟨_, rfl, _, rfl, a, _, rfl, .inl hsq2, _, _, rfl, rfl, _, rfl, iteD (fun hlt => ?_) (fun hge => ?_)⟩
    rotate_left
    · have hge : ¬ (i : Int) < ((ns.map V.int).length : Nat) := hge
      rw [List.length_map] at hge
      have hle := L.le
      have e : ns.drop i = [] := List.drop_eq_nil_of_le (by omega)
      have hl := L.left
      rw [e] at hl
      have hd := hl.done
      have hall := L.all
      rw [hd, List.append_nil] at hall
      refine ⟨_, rfl, k H2 ans ?_⟩
      rw [hall]
      exact L.ha
    have hlt : (i : Int) < ((ns.map V.int).length : Nat) := hlt
    rw [List.length_map] at hlt
    have hlt : i < ns.length := by omega
    obtain ⟨p, hp⟩ : ∃ p, ns[i]? = some p := ⟨_, List.getElem?_eq_getElem hlt⟩
    have hdr : ns.drop i = p :: ns.drop (i + 1) := by
      obtain ⟨h1, h2⟩ := List.getElem?_eq_some_iff.mp hp
      rw [List.drop_eq_getElem_cons h1, h2]
    have hleft := L.left
    rw [hdr] at hleft
    obtain ⟨c, mm', due', rfl, hc, rfl, hnum, hcase⟩ := hleft.next
    rw [List.length_drop] at hnum
    have hkl := kinds_len c hc
    refine ⟨AnsN K CD CA CS a ans ns z i mm', ?_, ?_⟩
    · rintro σ' H' ⟨j, z', s', acc', due'', w4, w5, w6, w7, w8, hij, rfl, ez, L'⟩
      exact ⟨ns.length - j, by omega, j, mm', z', s', acc', due'', w4, w5, w6, w7, w8, rfl, rfl, ez, L'⟩
    -- call = calls[at]
    refine ⟨_, rfl, _, rfl, a, _, _, _, rfl, rfl, hsq2, atI_nat (v := V.int (c : Int)) (by rw [List.getElem?_map, hp]; rfl), ?_⟩
    -- behind = at + 1 + how_many_numbers(call)
    refine ⟨_, rfl, _, _, rfl, rfl, _, rfl, c, rfl, hc, _, _, rfl, rfl, ?_⟩
    rw [hkl]
    -- numbers = calls[at + 1:behind]
    refine ⟨_, rfl, _, rfl, _, _, rfl, rfl, _, rfl, _, rfl, _, rfl, a, _, rfl, hsq2, fun nl hnl => ?_⟩
    have ecut : cutV (ns.map V.int) (some ((i : Int) + 1)) (some ((i : Int) + 1 + (My.numsOf c : Int))) = ((ns.drop (i + 1)).take (My.numsOf c)).map V.int := by
      have h := cut_mid (ns := ns) (i := i + 1) (j := i + 1 + My.numsOf c) (by omega) (by omega)
      rw [show i + 1 + My.numsOf c - (i + 1) = My.numsOf c by omega] at h
      exact h
    rw [ecut]
    have sm2 : Same H2 (upd H2 nl (.lst (((ns.drop (i + 1)).take (My.numsOf c)).map V.int))) := same_upd same_refl hnl
    have hlenA : ((ns.drop (i + 1)).take (My.numsOf c)).length = My.numsOf c := by rw [List.length_take, List.length_drop]; omega
    have nlf : ¬ nl ∈ foot z := L.S.fresh hnl
    -- if has_row(call)
    refine ⟨_, rfl, c, rfl, _, rfl, iteD (fun hrow => ?_) (fun hrow => ?_)⟩
    · have hr1 : My.rowsOf c = 1 := by unfold My.rowsOf; rw [if_pos hrow]
      rcases hcase with ⟨h0, _⟩ | ⟨_, n, r', er, hn, hn3, hdue, hl2⟩
      · rw [hr1] at h0; cases h0
      rw [List.drop_drop] at er
      have hb : ns[i + 1 + My.numsOf c]? = some (n : Int) := by
        have := congrArg (fun l => l[0]?) er
        simpa using this
      have hbl := (List.getElem?_eq_some_iff.mp hb).1
      have er2 : r' = ns.drop (i + 1 + My.numsOf c + 1) := by
        have := congrArg List.tail er
        simpa using this.symm
      have hrl : r'.length = ns.length - (i + 1 + My.numsOf c + 1) := by rw [er2, List.length_drop]
      have arg2 : SqL K (upd H2 nl (.lst (((ns.drop (i + 1)).take (My.numsOf c)).map V.int))) a (ns.map V.int) := (L.arg.keep (N' := fun b => b = ans ∨ b ∈ foot z) (fun o q _ => sm2 _ _ q) (fun o _ q => q)).sq
      refine ⟨_, rfl, _, _, rfl, rfl, ?_⟩
      refine ⟨_, rfl, _, rfl, _, rfl, a, _, _, _, rfl, rfl, arg2, atI_nat (j := i + 1 + My.numsOf c) (v := V.int (n : Int)) (by rw [List.getElem?_map, hb]; rfl), _, _, rfl, rfl, ?_⟩
      refine ⟨_, rfl, _, rfl, _, rfl, _, rfl, _, rfl, _, rfl, a, _, rfl, arg2, fun rl hrl2 => ?_⟩
      have ecut2 : cutV (ns.map V.int) (some ((i : Int) + 1 + (My.numsOf c : Int) + 1)) (some ((i : Int) + 1 + (My.numsOf c : Int) + 1 + (n : Int))) = (r'.take n).map V.int := by
        have h := cut_mid (ns := ns) (i := i + 1 + My.numsOf c + 1) (j := i + 1 + My.numsOf c + 1 + n) (by omega) (by omega)
        rw [show i + 1 + My.numsOf c + 1 + n - (i + 1 + My.numsOf c + 1) = n by omega, ← er2] at h
        exact h
      rw [ecut2]
      have sm3 : Same H2 (upd (upd H2 nl (.lst (((ns.drop (i + 1)).take (My.numsOf c)).map V.int))) rl (.lst ((r'.take n).map V.int))) := same_upd sm2 hrl2
      have hnl3 : upd (upd H2 nl (.lst (((ns.drop (i + 1)).take (My.numsOf c)).map V.int))) rl (.lst ((r'.take n).map V.int)) nl = some (.lst (((ns.drop (i + 1)).take (My.numsOf c)).map V.int)) := by
        rw [upd_ne (ne_of_none upd_same hrl2), upd_same]
      have hlr : (r'.take n).length = n := by rw [List.length_take]; omega
      refine ⟨nl, rl, _, _, rfl, rfl, hnl3, upd_same, (by rw [List.length_map, List.length_map, hlenA, hlr, sizeLine_eq]; omega), fun n3 hn3' => ?_⟩
      rw [← List.map_append]
      have sm4 := same_upd (o := .lst (((ns.drop (i + 1)).take (My.numsOf c) ++ r'.take n).map V.int)) sm3 hn3'
      have n3f : ¬ n3 ∈ foot z := L.S.fresh (Same.none sm3 hn3')
      generalize eH : upd (upd (upd H2 nl (.lst (((ns.drop (i + 1)).take (My.numsOf c)).map V.int))) rl (.lst ((r'.take n).map V.int))) n3 (.lst (((ns.drop (i + 1)).take (My.numsOf c) ++ r'.take n).map V.int)) = H3 at sm4 ⊢
      have hn33 : H3 n3 = some (.lst (((ns.drop (i + 1)).take (My.numsOf c) ++ r'.take n).map V.int)) := by rw [← eH, upd_same]
      -- answer = reply(story, call, numbers)
      refine ⟨_, rfl, _, rfl, _, rfl, z, s, n3, c, _, (ns.drop (i + 1)).take (My.numsOf c), r'.take n, rfl, L.S.same sm4, L.ok, ⟨hn33, n3f⟩, hc, ⟨rfl, hlenA, (fun h => by rw [hr1] at h; cases h), (by omega)⟩, fun H4 z4 l S4 e4 hl hl3 nf ff kp => ?_⟩
      obtain ⟨g1, g2, g3, g4, L'⟩ := L.next (j := i + 1 + My.numsOf c + 1 + n) sm4 (by omega) hdue (by rw [show ns.drop (i + 1 + My.numsOf c + 1 + n) = r'.drop n by rw [er2, List.drop_drop]]; exact hl2) S4 hl hl3 ff kp
      refine ⟨_, rfl, ⟨rfl, _, SqL.of g1⟩, _, rfl, l, _, rfl, .inl (SqL.of hl), ans, _, _, rfl, rfl, g1, (by rw [List.length_map, sizeLine_eq]; omega), ?_⟩
      rw [List.length_map]
      refine ⟨_, rfl, ⟨rfl, _, SqL.of upd_same⟩, _, rfl, ans, l, _, _, rfl, rfl, upd_same, g2, (by simp; rw [sizeLine_eq]; omega), ?_⟩
      exact ⟨_, rfl, i + 1 + My.numsOf c + 1 + n, z4, _, _, _, _, _, _, _, _, (by omega), rfl, e4, L'⟩
    · have hr0 : My.rowsOf c = 0 := by unfold My.rowsOf; rw [if_neg hrow]
      rcases hcase with ⟨_, hdue, hl2⟩ | ⟨h1, _⟩
      rotate_left
      · rw [hr0] at h1; cases h1
      generalize eH : upd H2 nl (.lst (((ns.drop (i + 1)).take (My.numsOf c)).map V.int)) = H3 at sm2 ⊢
      have hn33 : H3 nl = some (.lst (((ns.drop (i + 1)).take (My.numsOf c)).map V.int)) := by rw [← eH, upd_same]
      refine ⟨_, rfl, _, rfl, _, rfl, z, s, nl, c, _, (ns.drop (i + 1)).take (My.numsOf c), [], rfl, L.S.same sm2, L.ok, ⟨hn33, nlf⟩, hc, ⟨(List.append_nil _).symm, hlenA, fun _ => rfl, Nat.zero_le _⟩, fun H4 z4 l S4 e4 hl hl3 nf ff kp => ?_⟩
      obtain ⟨g1, g2, g3, g4, L'⟩ := L.next (j := i + 1 + My.numsOf c) sm2 (by omega) hdue (by rw [List.drop_drop] at hl2; exact hl2) S4 hl hl3 ff kp
      refine ⟨_, rfl, ⟨rfl, _, SqL.of g1⟩, _, rfl, l, _, rfl, .inl (SqL.of hl), ans, _, _, rfl, rfl, g1, (by rw [List.length_map, sizeLine_eq]; omega), ?_⟩
      rw [List.length_map]
      refine ⟨_, rfl, ⟨rfl, _, SqL.of upd_same⟩, _, rfl, ans, l, _, _, rfl, rfl, upd_same, g2, (by simp; rw [sizeLine_eq]; omega), ?_⟩
      exact ⟨_, rfl, i + 1 + My.numsOf c, z4, _, _, _, _, _, _, _, _, (by omega), rfl, e4, L'⟩
end
end Ap
end
section
set_option Elab.async false
set_option linter.all false
set_option maxRecDepth 100000
set_option maxHeartbeats 4000000
namespace Ap
open PySem PySem.Spec PyProof.Rows L2
section
variable {P : Program} {w : World} {K : PySem.W.Frag} {mg : Str → Option Value} {base : Heap} {ps : List Str} {k k' : Nat} {sp : Sp} {f : Addr} {fd : FuncData} {x : Str} {C : Addr}
theorem Own.mk' (G : FnOk P w K mg base CX0 k f fd ps sp) (b : Binds K fd ps []) (kp : PySem.W.keepIn K (.ref f) = true) (m : mg x = some (.ref f)) (h : k ≤ k') : Own P w K mg base x ps k' sp := ⟨f, fd, G.mono h, b, kp, m⟩
theorem OwnM.mk' (G : FnOk P w K mg base CX0 k f fd ps sp) (b : Binds K fd ps []) (m : Meth K C x f) (h : k ≤ k') : OwnM P w K mg base C x ps k' sp := ⟨f, fd, G.mono h, b, m⟩
theorem OwnC.mk' (G : FnOk P w K mg base CX0 k f fd ps sp) (b : Binds K fd ps []) (M : Mk K C f) (m : mg x = some (.ref C)) (h : k ≤ k') : OwnC P w K mg base x C ps k' sp := ⟨f, fd, G.mono h, b, M, m⟩
theorem fun_bindsTo {qual : Str} {st : Stmt} (F : Fun K x qual st f fd) (h : ∀ (kV doc pm : Value) (an : Option Addr) (cdv ct : Value) (us : List Value), us.length = ps.length → bindArgs (PySem.W.fnOf x qual (defArgs st) (defBody st) (defScope st) .none kV doc pm an cdv ct) ⟨us, []⟩ = pure (ps.zip us)) :
    ∀ (s : Shared) (us : List Value), us.length = ps.length → BindsTo s fd ⟨us, []⟩ (ps.zip us) := by
  obtain ⟨oc, od, kV, doc, pm, an, cdv, ct, osl, rfl, lk, hcd⟩ := F.ex
  intro s us hl
  exact BindsTo.of_eq (h kV doc pm an cdv ct us hl)
end
theorem nd16 : ([0, 1, 2, 3, 4, 5, 6, 7, 8, 9, 10, 11, 12, 13, 14, 15] : List Int).Nodup := by decide +kernel
theorem nd2 : ([9, 10] : List Int).Nodup := by decide +kernel
theorem ls0 {α : Type} : ∀ {l : List α}, l.length = 0 → l = []
  | [], _ => rfl
theorem lsS {α : Type} {n : Nat} : ∀ {l : List α}, l.length = n + 1 → ∃ a r, l = a :: r ∧ r.length = n
  | a :: r, h => ⟨a, r, rfl, Nat.succ.inj h⟩
theorem ls1 {α : Type} {l : List α} (h : l.length = 1) : ∃ a, l = [a] := by
  obtain ⟨a, r, rfl, q⟩ := lsS h
  rw [ls0 q]
  exact ⟨a, rfl⟩
theorem ls2 {α : Type} {l : List α} (h : l.length = 2) : ∃ a b, l = [a, b] := by
  obtain ⟨a, r, rfl, q⟩ := lsS h
  obtain ⟨b, rfl⟩ := ls1 q
  exact ⟨a, b, rfl⟩
theorem ls3 {α : Type} {l : List α} (h : l.length = 3) : ∃ a b c, l = [a, b, c] := by
  obtain ⟨a, r, rfl, q⟩ := lsS h
  obtain ⟨b, c, rfl⟩ := ls2 q
  exact ⟨a, b, c, rfl⟩
theorem ls4 {α : Type} {l : List α} (h : l.length = 4) : ∃ a b c d, l = [a, b, c, d] := by
  obtain ⟨a, r, rfl, q⟩ := lsS h
  obtain ⟨b, c, d, rfl⟩ := ls3 q
  exact ⟨a, b, c, d, rfl⟩
theorem ls6 {α : Type} {l : List α} (h : l.length = 6) : ∃ a b c d e f, l = [a, b, c, d, e, f] := by
  obtain ⟨a, r, rfl, q⟩ := lsS h
  obtain ⟨b, r2, rfl, q2⟩ := lsS q
  obtain ⟨c, d, e, f, rfl⟩ := ls4 q2
  exact ⟨a, b, c, d, e, f, rfl⟩
theorem all_mk {P : Program} {w : World} {K : PySem.W.Frag} {h : Heap} {mg : Str → Option Value} {fa : Addr}
    {C_Deed : Addr}
    {f_Deed_init : Addr} {oc_Deed_init kV_Deed_init dc_Deed_init pm_Deed_init cd_Deed_init ct_Deed_init : Value} {od_Deed_init an_Deed_init : Option Addr} {sl_Deed_init : Array (Option Value)}
    {f_Deed_can_be_done : Addr} {oc_Deed_can_be_done kV_Deed_can_be_done dc_Deed_can_be_done pm_Deed_can_be_done cd_Deed_can_be_done ct_Deed_can_be_done : Value} {od_Deed_can_be_done an_Deed_can_be_done : Option Addr} {sl_Deed_can_be_done : Array (Option Value)}
    {f_Deed_brings : Addr} {oc_Deed_brings kV_Deed_brings dc_Deed_brings pm_Deed_brings cd_Deed_brings ct_Deed_brings : Value} {od_Deed_brings an_Deed_brings : Option Addr} {sl_Deed_brings : Array (Option Value)}
    {C_Actor : Addr}
    {f_Actor_init : Addr} {oc_Actor_init kV_Actor_init dc_Actor_init pm_Actor_init cd_Actor_init ct_Actor_init : Value} {od_Actor_init an_Actor_init : Option Addr} {sl_Actor_init : Array (Option Value)}
    {f_Actor_learn : Addr} {oc_Actor_learn kV_Actor_learn dc_Actor_learn pm_Actor_learn cd_Actor_learn ct_Actor_learn : Value} {od_Actor_learn an_Actor_learn : Option Addr} {sl_Actor_learn : Array (Option Value)}
    {f_Actor_look : Addr} {oc_Actor_look kV_Actor_look dc_Actor_look pm_Actor_look cd_Actor_look ct_Actor_look : Value} {od_Actor_look an_Actor_look : Option Addr} {sl_Actor_look : Array (Option Value)}
    {f_Actor_is_content : Addr} {oc_Actor_is_content kV_Actor_is_content dc_Actor_is_content pm_Actor_is_content cd_Actor_is_content ct_Actor_is_content : Value} {od_Actor_is_content an_Actor_is_content : Option Addr} {sl_Actor_is_content : Array (Option Value)}
    {C_Story : Addr}
    {f_Story_init : Addr} {oc_Story_init kV_Story_init dc_Story_init pm_Story_init cd_Story_init ct_Story_init : Value} {od_Story_init an_Story_init : Option Addr} {sl_Story_init : Array (Option Value)}
    {f_Story_set_world : Addr} {oc_Story_set_world kV_Story_set_world dc_Story_set_world pm_Story_set_world cd_Story_set_world ct_Story_set_world : Value} {od_Story_set_world an_Story_set_world : Option Addr} {sl_Story_set_world : Array (Option Value)}
    {f_how_many_numbers : Addr} {oc_how_many_numbers kV_how_many_numbers dc_how_many_numbers pm_how_many_numbers cd_how_many_numbers ct_how_many_numbers : Value} {od_how_many_numbers an_how_many_numbers : Option Addr} {sl_how_many_numbers : Array (Option Value)}
    {f_has_row : Addr} {oc_has_row kV_has_row dc_has_row pm_has_row cd_has_row ct_has_row : Value} {od_has_row an_has_row : Option Addr} {sl_has_row : Array (Option Value)}
    {f_kind_at : Addr} {oc_kind_at kV_kind_at dc_kind_at pm_kind_at cd_kind_at ct_kind_at : Value} {od_kind_at an_kind_at : Option Addr} {sl_kind_at : Array (Option Value)}
    {f_least : Addr} {oc_least kV_least dc_least pm_least cd_least ct_least : Value} {od_least an_least : Option Addr} {sl_least : Array (Option Value)}
    {f_above : Addr} {oc_above kV_above dc_above pm_above cd_above ct_above : Value} {od_above an_above : Option Addr} {sl_above : Array (Option Value)}
    {f_all_in_range : Addr} {oc_all_in_range kV_all_in_range dc_all_in_range pm_all_in_range cd_all_in_range ct_all_in_range : Value} {od_all_in_range an_all_in_range : Option Addr} {sl_all_in_range : Array (Option Value)}
    {f_deeds_of : Addr} {oc_deeds_of kV_deeds_of dc_deeds_of pm_deeds_of cd_deeds_of ct_deeds_of : Value} {od_deeds_of an_deeds_of : Option Addr} {sl_deeds_of : Array (Option Value)}
    {f_ways_from : Addr} {oc_ways_from kV_ways_from dc_ways_from pm_ways_from cd_ways_from ct_ways_from : Value} {od_ways_from an_ways_from : Option Addr} {sl_ways_from : Array (Option Value)}
    {f_plan_from : Addr} {oc_plan_from kV_plan_from dc_plan_from pm_plan_from cd_plan_from ct_plan_from : Value} {od_plan_from an_plan_from : Option Addr} {sl_plan_from : Array (Option Value)}
    {f_proves : Addr} {oc_proves kV_proves dc_proves pm_proves cd_proves ct_proves : Value} {od_proves an_proves : Option Addr} {sl_proves : Array (Option Value)}
    {f_place_of_failure : Addr} {oc_place_of_failure kV_place_of_failure dc_place_of_failure pm_place_of_failure cd_place_of_failure ct_place_of_failure : Value} {od_place_of_failure an_place_of_failure : Option Addr} {sl_place_of_failure : Array (Option Value)}
    {f_holds : Addr} {oc_holds kV_holds dc_holds pm_holds cd_holds ct_holds : Value} {od_holds an_holds : Option Addr} {sl_holds : Array (Option Value)}
    {f_take_turn : Addr} {oc_take_turn kV_take_turn dc_take_turn pm_take_turn cd_take_turn ct_take_turn : Value} {od_take_turn an_take_turn : Option Addr} {sl_take_turn : Array (Option Value)}
    {f_take_round : Addr} {oc_take_round kV_take_round dc_take_round pm_take_round cd_take_round ct_take_round : Value} {od_take_round an_take_round : Option Addr} {sl_take_round : Array (Option Value)}
    {f_take_rounds : Addr} {oc_take_rounds kV_take_rounds dc_take_rounds pm_take_rounds cd_take_rounds ct_take_rounds : Value} {od_take_rounds an_take_rounds : Option Addr} {sl_take_rounds : Array (Option Value)}
    {f_reply_facts : Addr} {oc_reply_facts kV_reply_facts dc_reply_facts pm_reply_facts cd_reply_facts ct_reply_facts : Value} {od_reply_facts an_reply_facts : Option Addr} {sl_reply_facts : Array (Option Value)}
    {f_reply_deed : Addr} {oc_reply_deed kV_reply_deed dc_reply_deed pm_reply_deed cd_reply_deed ct_reply_deed : Value} {od_reply_deed an_reply_deed : Option Addr} {sl_reply_deed : Array (Option Value)}
    {f_reply_actor : Addr} {oc_reply_actor kV_reply_actor dc_reply_actor pm_reply_actor cd_reply_actor ct_reply_actor : Value} {od_reply_actor an_reply_actor : Option Addr} {sl_reply_actor : Array (Option Value)}
    {f_reply_world : Addr} {oc_reply_world kV_reply_world dc_reply_world pm_reply_world cd_reply_world ct_reply_world : Value} {od_reply_world an_reply_world : Option Addr} {sl_reply_world : Array (Option Value)}
    {f_reply_tell : Addr} {oc_reply_tell kV_reply_tell dc_reply_tell pm_reply_tell cd_reply_tell ct_reply_tell : Value} {od_reply_tell an_reply_tell : Option Addr} {sl_reply_tell : Array (Option Value)}
    {f_reply_goal : Addr} {oc_reply_goal kV_reply_goal dc_reply_goal pm_reply_goal cd_reply_goal ct_reply_goal : Value} {od_reply_goal an_reply_goal : Option Addr} {sl_reply_goal : Array (Option Value)}
    {f_reply_plan : Addr} {oc_reply_plan kV_reply_plan dc_reply_plan pm_reply_plan cd_reply_plan ct_reply_plan : Value} {od_reply_plan an_reply_plan : Option Addr} {sl_reply_plan : Array (Option Value)}
    {f_reply_far : Addr} {oc_reply_far kV_reply_far dc_reply_far pm_reply_far cd_reply_far ct_reply_far : Value} {od_reply_far an_reply_far : Option Addr} {sl_reply_far : Array (Option Value)}
    {f_reply_proof : Addr} {oc_reply_proof kV_reply_proof dc_reply_proof pm_reply_proof cd_reply_proof ct_reply_proof : Value} {od_reply_proof an_reply_proof : Option Addr} {sl_reply_proof : Array (Option Value)}
    {f_reply_check : Addr} {oc_reply_check kV_reply_check dc_reply_check pm_reply_check cd_reply_check ct_reply_check : Value} {od_reply_check an_reply_check : Option Addr} {sl_reply_check : Array (Option Value)}
    {f_reply_follow : Addr} {oc_reply_follow kV_reply_follow dc_reply_follow pm_reply_follow cd_reply_follow ct_reply_follow : Value} {od_reply_follow an_reply_follow : Option Addr} {sl_reply_follow : Array (Option Value)}
    {f_reply_turn : Addr} {oc_reply_turn kV_reply_turn dc_reply_turn pm_reply_turn cd_reply_turn ct_reply_turn : Value} {od_reply_turn an_reply_turn : Option Addr} {sl_reply_turn : Array (Option Value)}
    {f_reply_rounds : Addr} {oc_reply_rounds kV_reply_rounds dc_reply_rounds pm_reply_rounds cd_reply_rounds ct_reply_rounds : Value} {od_reply_rounds an_reply_rounds : Option Addr} {sl_reply_rounds : Array (Option Value)}
    {f_reply_belief : Addr} {oc_reply_belief kV_reply_belief dc_reply_belief pm_reply_belief cd_reply_belief ct_reply_belief : Value} {od_reply_belief an_reply_belief : Option Addr} {sl_reply_belief : Array (Option Value)}
    {f_reply_state : Addr} {oc_reply_state kV_reply_state dc_reply_state pm_reply_state cd_reply_state ct_reply_state : Value} {od_reply_state an_reply_state : Option Addr} {sl_reply_state : Array (Option Value)}
    {f_reply_deeds : Addr} {oc_reply_deeds kV_reply_deeds dc_reply_deeds pm_reply_deeds cd_reply_deeds ct_reply_deeds : Value} {od_reply_deeds an_reply_deeds : Option Addr} {sl_reply_deeds : Array (Option Value)}
    {f_reply : Addr} {oc_reply kV_reply dc_reply pm_reply cd_reply ct_reply : Value} {od_reply an_reply : Option Addr} {sl_reply : Array (Option Value)}
    {f_answers : Addr} {oc_answers kV_answers dc_answers pm_answers cd_answers ct_answers : Value} {od_answers an_answers : Option Addr} {sl_answers : Array (Option Value)}
    {d_KINDS : Addr} {ep_KINDS : Nat}
    {t_KINDS_0 : Addr} {sq_KINDS_0 : Nat}
    {k1 : Tok}
    {t_KINDS_1 : Addr} {sq_KINDS_1 : Nat}
    {k2 : Tok}
    {t_KINDS_2 : Addr} {sq_KINDS_2 : Nat}
    {k3 : Tok}
    {t_KINDS_3 : Addr} {sq_KINDS_3 : Nat}
    {k4 : Tok}
    {t_KINDS_4 : Addr} {sq_KINDS_4 : Nat}
    {k5 : Tok}
    {t_KINDS_5 : Addr} {sq_KINDS_5 : Nat}
    {k6 : Tok}
    {t_KINDS_6 : Addr} {sq_KINDS_6 : Nat}
    {k7 : Tok}
    {t_KINDS_7 : Addr} {sq_KINDS_7 : Nat}
    {k8 : Tok}
    {t_KINDS_8 : Addr} {sq_KINDS_8 : Nat}
    {k9 : Tok}
    {t_KINDS_9 : Addr} {sq_KINDS_9 : Nat}
    {k10 : Tok}
    {t_KINDS_10 : Addr} {sq_KINDS_10 : Nat}
    {k11 : Tok}
    {t_KINDS_11 : Addr} {sq_KINDS_11 : Nat}
    {k12 : Tok}
    {t_KINDS_12 : Addr} {sq_KINDS_12 : Nat}
    {k13 : Tok}
    {t_KINDS_13 : Addr} {sq_KINDS_13 : Nat}
    {k14 : Tok}
    {t_KINDS_14 : Addr} {sq_KINDS_14 : Nat}
    {k15 : Tok}
    {t_KINDS_15 : Addr} {sq_KINDS_15 : Nat}
    {k16 : Tok}
    {k17 : Tok}
    {k18 : Tok}
    {k19 : Tok}
    {k20 : Tok}
    {k21 : Tok}
    {k22 : Tok}
    {k23 : Tok}
    {k24 : Tok}
    {k25 : Tok}
    {k26 : Tok}
    {k27 : Tok}
    {k28 : Tok}
    {k29 : Tok}
    {k30 : Tok}
    {k31 : Tok}
    {k32 : Tok}
    {k33 : Tok}
    {k34 : Tok}
    {k35 : Tok}
    {k36 : Tok}
    {k37 : Tok}
    {k38 : Tok}
    {k39 : Tok}
    {k40 : Tok}
    {k41 : Tok}
    {d_ROWS : Addr} {ep_ROWS : Nat}
    {k42 : Tok}
    {k43 : Tok}
    {k44 : Tok}
    {k45 : Tok}
    {k46 : Tok}
    {k47 : Tok}
    {k48 : Tok}
    {k49 : Tok}
    {k50 : Tok}
    {k51 : Tok}
    {k52 : Tok}
    {k53 : Tok}
    {k54 : Tok}
    {k55 : Tok}
    {k56 : Tok}
    {k57 : Tok}
    {k58 : Tok}
    {d_REPLIES : Addr} {ep_REPLIES : Nat}
    {k59 : Tok}
    {k60 : Tok}
    {k61 : Tok}
    {k62 : Tok}
    {k63 : Tok}
    {k64 : Tok}
    {k65 : Tok}
    {k66 : Tok}
    {k67 : Tok}
    {k68 : Tok}
    {k69 : Tok}
    {k70 : Tok}
    {k71 : Tok}
    {k72 : Tok}
    {k73 : Tok}
    {k74 : Tok}
    (X : K.In h) (G : h.Ns mainGlobals mg) (hfa : mg "answers" = some (.ref fa))
    (a_Deed : PySem.W.nsIn K mainGlobals "Deed" = some (some (.ref C_Deed)))
    (a_Deed_init : PySem.W.findIn K (.ref C_Deed) "__init__" = some (some (.ref f_Deed_init)))
    (i_Deed_init : PySem.W.isFn K (.ref f_Deed_init) = true)
    (l_Deed_init : K.lookup f_Deed_init = some ⟨oc_Deed_init, od_Deed_init, .func (PySem.W.fnOf "__init__" "Deed.__init__" (defArgs (inClass (top 18) 0)) (defBody (inClass (top 18) 0)) (defScope (inClass (top 18) 0)) .none kV_Deed_init dc_Deed_init pm_Deed_init an_Deed_init cd_Deed_init ct_Deed_init), sl_Deed_init⟩)
    (c_Deed_init : PySem.W.codeIn K cd_Deed_init "Deed.__init__" = true)
    (k_Deed_init : PySem.W.keepIn K (.ref f_Deed_init) = true)
    (a_Deed_can_be_done : PySem.W.findIn K (.ref C_Deed) "can_be_done" = some (some (.ref f_Deed_can_be_done)))
    (i_Deed_can_be_done : PySem.W.isFn K (.ref f_Deed_can_be_done) = true)
    (l_Deed_can_be_done : K.lookup f_Deed_can_be_done = some ⟨oc_Deed_can_be_done, od_Deed_can_be_done, .func (PySem.W.fnOf "can_be_done" "Deed.can_be_done" (defArgs (inClass (top 18) 1)) (defBody (inClass (top 18) 1)) (defScope (inClass (top 18) 1)) .none kV_Deed_can_be_done dc_Deed_can_be_done pm_Deed_can_be_done an_Deed_can_be_done cd_Deed_can_be_done ct_Deed_can_be_done), sl_Deed_can_be_done⟩)
    (c_Deed_can_be_done : PySem.W.codeIn K cd_Deed_can_be_done "Deed.can_be_done" = true)
    (k_Deed_can_be_done : PySem.W.keepIn K (.ref f_Deed_can_be_done) = true)
    (a_Deed_brings : PySem.W.findIn K (.ref C_Deed) "brings" = some (some (.ref f_Deed_brings)))
    (i_Deed_brings : PySem.W.isFn K (.ref f_Deed_brings) = true)
    (l_Deed_brings : K.lookup f_Deed_brings = some ⟨oc_Deed_brings, od_Deed_brings, .func (PySem.W.fnOf "brings" "Deed.brings" (defArgs (inClass (top 18) 2)) (defBody (inClass (top 18) 2)) (defScope (inClass (top 18) 2)) .none kV_Deed_brings dc_Deed_brings pm_Deed_brings an_Deed_brings cd_Deed_brings ct_Deed_brings), sl_Deed_brings⟩)
    (c_Deed_brings : PySem.W.codeIn K cd_Deed_brings "Deed.brings" = true)
    (k_Deed_brings : PySem.W.keepIn K (.ref f_Deed_brings) = true)
    (pg_Deed : PySem.W.plainGet K C_Deed Str.empty = true)
    (hd_Deed : PySem.W.hasDictIn K C_Deed = true)
    (po_Deed : PySem.W.plainOver K C_Deed = true)
    (sa_Deed : PySem.W.findIn K (.ref C_Deed) "__setattr__" = some (some (.builtin "object.__setattr__")))
    (mk_Deed : PySem.W.makesIn K C_Deed = true)
    (kc_Deed : PySem.W.keepIn K (.ref C_Deed) = true)
    (n_Deed_actor : PySem.W.findIn K (.ref C_Deed) "actor" = some none)
    (n_Deed_must : PySem.W.findIn K (.ref C_Deed) "must" = some none)
    (n_Deed_must_not : PySem.W.findIn K (.ref C_Deed) "must_not" = some none)
    (n_Deed_become : PySem.W.findIn K (.ref C_Deed) "become" = some none)
    (n_Deed_cease : PySem.W.findIn K (.ref C_Deed) "cease" = some none)
    (a_Actor : PySem.W.nsIn K mainGlobals "Actor" = some (some (.ref C_Actor)))
    (a_Actor_init : PySem.W.findIn K (.ref C_Actor) "__init__" = some (some (.ref f_Actor_init)))
    (i_Actor_init : PySem.W.isFn K (.ref f_Actor_init) = true)
    (l_Actor_init : K.lookup f_Actor_init = some ⟨oc_Actor_init, od_Actor_init, .func (PySem.W.fnOf "__init__" "Actor.__init__" (defArgs (inClass (top 19) 0)) (defBody (inClass (top 19) 0)) (defScope (inClass (top 19) 0)) .none kV_Actor_init dc_Actor_init pm_Actor_init an_Actor_init cd_Actor_init ct_Actor_init), sl_Actor_init⟩)
    (c_Actor_init : PySem.W.codeIn K cd_Actor_init "Actor.__init__" = true)
    (k_Actor_init : PySem.W.keepIn K (.ref f_Actor_init) = true)
    (a_Actor_learn : PySem.W.findIn K (.ref C_Actor) "learn" = some (some (.ref f_Actor_learn)))
    (i_Actor_learn : PySem.W.isFn K (.ref f_Actor_learn) = true)
    (l_Actor_learn : K.lookup f_Actor_learn = some ⟨oc_Actor_learn, od_Actor_learn, .func (PySem.W.fnOf "learn" "Actor.learn" (defArgs (inClass (top 19) 1)) (defBody (inClass (top 19) 1)) (defScope (inClass (top 19) 1)) .none kV_Actor_learn dc_Actor_learn pm_Actor_learn an_Actor_learn cd_Actor_learn ct_Actor_learn), sl_Actor_learn⟩)
    (c_Actor_learn : PySem.W.codeIn K cd_Actor_learn "Actor.learn" = true)
    (k_Actor_learn : PySem.W.keepIn K (.ref f_Actor_learn) = true)
    (a_Actor_look : PySem.W.findIn K (.ref C_Actor) "look" = some (some (.ref f_Actor_look)))
    (i_Actor_look : PySem.W.isFn K (.ref f_Actor_look) = true)
    (l_Actor_look : K.lookup f_Actor_look = some ⟨oc_Actor_look, od_Actor_look, .func (PySem.W.fnOf "look" "Actor.look" (defArgs (inClass (top 19) 2)) (defBody (inClass (top 19) 2)) (defScope (inClass (top 19) 2)) .none kV_Actor_look dc_Actor_look pm_Actor_look an_Actor_look cd_Actor_look ct_Actor_look), sl_Actor_look⟩)
    (c_Actor_look : PySem.W.codeIn K cd_Actor_look "Actor.look" = true)
    (k_Actor_look : PySem.W.keepIn K (.ref f_Actor_look) = true)
    (a_Actor_is_content : PySem.W.findIn K (.ref C_Actor) "is_content" = some (some (.ref f_Actor_is_content)))
    (i_Actor_is_content : PySem.W.isFn K (.ref f_Actor_is_content) = true)
    (l_Actor_is_content : K.lookup f_Actor_is_content = some ⟨oc_Actor_is_content, od_Actor_is_content, .func (PySem.W.fnOf "is_content" "Actor.is_content" (defArgs (inClass (top 19) 3)) (defBody (inClass (top 19) 3)) (defScope (inClass (top 19) 3)) .none kV_Actor_is_content dc_Actor_is_content pm_Actor_is_content an_Actor_is_content cd_Actor_is_content ct_Actor_is_content), sl_Actor_is_content⟩)
    (c_Actor_is_content : PySem.W.codeIn K cd_Actor_is_content "Actor.is_content" = true)
    (k_Actor_is_content : PySem.W.keepIn K (.ref f_Actor_is_content) = true)
    (pg_Actor : PySem.W.plainGet K C_Actor Str.empty = true)
    (hd_Actor : PySem.W.hasDictIn K C_Actor = true)
    (po_Actor : PySem.W.plainOver K C_Actor = true)
    (sa_Actor : PySem.W.findIn K (.ref C_Actor) "__setattr__" = some (some (.builtin "object.__setattr__")))
    (mk_Actor : PySem.W.makesIn K C_Actor = true)
    (kc_Actor : PySem.W.keepIn K (.ref C_Actor) = true)
    (n_Actor_sees : PySem.W.findIn K (.ref C_Actor) "sees" = some none)
    (n_Actor_goal : PySem.W.findIn K (.ref C_Actor) "goal" = some none)
    (n_Actor_goal_not : PySem.W.findIn K (.ref C_Actor) "goal_not" = some none)
    (n_Actor_belief : PySem.W.findIn K (.ref C_Actor) "belief" = some none)
    (a_Story : PySem.W.nsIn K mainGlobals "Story" = some (some (.ref C_Story)))
    (a_Story_init : PySem.W.findIn K (.ref C_Story) "__init__" = some (some (.ref f_Story_init)))
    (i_Story_init : PySem.W.isFn K (.ref f_Story_init) = true)
    (l_Story_init : K.lookup f_Story_init = some ⟨oc_Story_init, od_Story_init, .func (PySem.W.fnOf "__init__" "Story.__init__" (defArgs (inClass (top 20) 0)) (defBody (inClass (top 20) 0)) (defScope (inClass (top 20) 0)) .none kV_Story_init dc_Story_init pm_Story_init an_Story_init cd_Story_init ct_Story_init), sl_Story_init⟩)
    (c_Story_init : PySem.W.codeIn K cd_Story_init "Story.__init__" = true)
    (k_Story_init : PySem.W.keepIn K (.ref f_Story_init) = true)
    (a_Story_set_world : PySem.W.findIn K (.ref C_Story) "set_world" = some (some (.ref f_Story_set_world)))
    (i_Story_set_world : PySem.W.isFn K (.ref f_Story_set_world) = true)
    (l_Story_set_world : K.lookup f_Story_set_world = some ⟨oc_Story_set_world, od_Story_set_world, .func (PySem.W.fnOf "set_world" "Story.set_world" (defArgs (inClass (top 20) 1)) (defBody (inClass (top 20) 1)) (defScope (inClass (top 20) 1)) .none kV_Story_set_world dc_Story_set_world pm_Story_set_world an_Story_set_world cd_Story_set_world ct_Story_set_world), sl_Story_set_world⟩)
    (c_Story_set_world : PySem.W.codeIn K cd_Story_set_world "Story.set_world" = true)
    (k_Story_set_world : PySem.W.keepIn K (.ref f_Story_set_world) = true)
    (pg_Story : PySem.W.plainGet K C_Story Str.empty = true)
    (hd_Story : PySem.W.hasDictIn K C_Story = true)
    (po_Story : PySem.W.plainOver K C_Story = true)
    (sa_Story : PySem.W.findIn K (.ref C_Story) "__setattr__" = some (some (.builtin "object.__setattr__")))
    (mk_Story : PySem.W.makesIn K C_Story = true)
    (kc_Story : PySem.W.keepIn K (.ref C_Story) = true)
    (n_Story_facts : PySem.W.findIn K (.ref C_Story) "facts" = some none)
    (n_Story_world : PySem.W.findIn K (.ref C_Story) "world" = some none)
    (n_Story_actors : PySem.W.findIn K (.ref C_Story) "actors" = some none)
    (n_Story_deeds : PySem.W.findIn K (.ref C_Story) "deeds" = some none)
    (a_how_many_numbers : PySem.W.nsIn K mainGlobals "how_many_numbers" = some (some (.ref f_how_many_numbers)))
    (l_how_many_numbers : K.lookup f_how_many_numbers = some ⟨oc_how_many_numbers, od_how_many_numbers, .func (PySem.W.fnOf "how_many_numbers" "how_many_numbers" (defArgs (top 5)) (defBody (top 5)) (defScope (top 5)) .none kV_how_many_numbers dc_how_many_numbers pm_how_many_numbers an_how_many_numbers cd_how_many_numbers ct_how_many_numbers), sl_how_many_numbers⟩)
    (c_how_many_numbers : PySem.W.codeIn K cd_how_many_numbers "how_many_numbers" = true)
    (k_how_many_numbers : PySem.W.keepIn K (.ref f_how_many_numbers) = true)
    (a_has_row : PySem.W.nsIn K mainGlobals "has_row" = some (some (.ref f_has_row)))
    (l_has_row : K.lookup f_has_row = some ⟨oc_has_row, od_has_row, .func (PySem.W.fnOf "has_row" "has_row" (defArgs (top 6)) (defBody (top 6)) (defScope (top 6)) .none kV_has_row dc_has_row pm_has_row an_has_row cd_has_row ct_has_row), sl_has_row⟩)
    (c_has_row : PySem.W.codeIn K cd_has_row "has_row" = true)
    (k_has_row : PySem.W.keepIn K (.ref f_has_row) = true)
    (a_kind_at : PySem.W.nsIn K mainGlobals "kind_at" = some (some (.ref f_kind_at)))
    (l_kind_at : K.lookup f_kind_at = some ⟨oc_kind_at, od_kind_at, .func (PySem.W.fnOf "kind_at" "kind_at" (defArgs (top 7)) (defBody (top 7)) (defScope (top 7)) .none kV_kind_at dc_kind_at pm_kind_at an_kind_at cd_kind_at ct_kind_at), sl_kind_at⟩)
    (c_kind_at : PySem.W.codeIn K cd_kind_at "kind_at" = true)
    (k_kind_at : PySem.W.keepIn K (.ref f_kind_at) = true)
    (a_least : PySem.W.nsIn K mainGlobals "least" = some (some (.ref f_least)))
    (l_least : K.lookup f_least = some ⟨oc_least, od_least, .func (PySem.W.fnOf "least" "least" (defArgs (top 8)) (defBody (top 8)) (defScope (top 8)) .none kV_least dc_least pm_least an_least cd_least ct_least), sl_least⟩)
    (c_least : PySem.W.codeIn K cd_least "least" = true)
    (k_least : PySem.W.keepIn K (.ref f_least) = true)
    (a_above : PySem.W.nsIn K mainGlobals "above" = some (some (.ref f_above)))
    (l_above : K.lookup f_above = some ⟨oc_above, od_above, .func (PySem.W.fnOf "above" "above" (defArgs (top 9)) (defBody (top 9)) (defScope (top 9)) .none kV_above dc_above pm_above an_above cd_above ct_above), sl_above⟩)
    (c_above : PySem.W.codeIn K cd_above "above" = true)
    (k_above : PySem.W.keepIn K (.ref f_above) = true)
    (a_all_in_range : PySem.W.nsIn K mainGlobals "all_in_range" = some (some (.ref f_all_in_range)))
    (l_all_in_range : K.lookup f_all_in_range = some ⟨oc_all_in_range, od_all_in_range, .func (PySem.W.fnOf "all_in_range" "all_in_range" (defArgs (top 10)) (defBody (top 10)) (defScope (top 10)) .none kV_all_in_range dc_all_in_range pm_all_in_range an_all_in_range cd_all_in_range ct_all_in_range), sl_all_in_range⟩)
    (c_all_in_range : PySem.W.codeIn K cd_all_in_range "all_in_range" = true)
    (k_all_in_range : PySem.W.keepIn K (.ref f_all_in_range) = true)
    (a_deeds_of : PySem.W.nsIn K mainGlobals "deeds_of" = some (some (.ref f_deeds_of)))
    (l_deeds_of : K.lookup f_deeds_of = some ⟨oc_deeds_of, od_deeds_of, .func (PySem.W.fnOf "deeds_of" "deeds_of" (defArgs (top 12)) (defBody (top 12)) (defScope (top 12)) .none kV_deeds_of dc_deeds_of pm_deeds_of an_deeds_of cd_deeds_of ct_deeds_of), sl_deeds_of⟩)
    (c_deeds_of : PySem.W.codeIn K cd_deeds_of "deeds_of" = true)
    (k_deeds_of : PySem.W.keepIn K (.ref f_deeds_of) = true)
    (a_ways_from : PySem.W.nsIn K mainGlobals "ways_from" = some (some (.ref f_ways_from)))
    (l_ways_from : K.lookup f_ways_from = some ⟨oc_ways_from, od_ways_from, .func (PySem.W.fnOf "ways_from" "ways_from" (defArgs (top 13)) (defBody (top 13)) (defScope (top 13)) .none kV_ways_from dc_ways_from pm_ways_from an_ways_from cd_ways_from ct_ways_from), sl_ways_from⟩)
    (c_ways_from : PySem.W.codeIn K cd_ways_from "ways_from" = true)
    (k_ways_from : PySem.W.keepIn K (.ref f_ways_from) = true)
    (a_plan_from : PySem.W.nsIn K mainGlobals "plan_from" = some (some (.ref f_plan_from)))
    (l_plan_from : K.lookup f_plan_from = some ⟨oc_plan_from, od_plan_from, .func (PySem.W.fnOf "plan_from" "plan_from" (defArgs (top 14)) (defBody (top 14)) (defScope (top 14)) .none kV_plan_from dc_plan_from pm_plan_from an_plan_from cd_plan_from ct_plan_from), sl_plan_from⟩)
    (c_plan_from : PySem.W.codeIn K cd_plan_from "plan_from" = true)
    (k_plan_from : PySem.W.keepIn K (.ref f_plan_from) = true)
    (a_proves : PySem.W.nsIn K mainGlobals "proves" = some (some (.ref f_proves)))
    (l_proves : K.lookup f_proves = some ⟨oc_proves, od_proves, .func (PySem.W.fnOf "proves" "proves" (defArgs (top 15)) (defBody (top 15)) (defScope (top 15)) .none kV_proves dc_proves pm_proves an_proves cd_proves ct_proves), sl_proves⟩)
    (c_proves : PySem.W.codeIn K cd_proves "proves" = true)
    (k_proves : PySem.W.keepIn K (.ref f_proves) = true)
    (a_place_of_failure : PySem.W.nsIn K mainGlobals "place_of_failure" = some (some (.ref f_place_of_failure)))
    (l_place_of_failure : K.lookup f_place_of_failure = some ⟨oc_place_of_failure, od_place_of_failure, .func (PySem.W.fnOf "place_of_failure" "place_of_failure" (defArgs (top 16)) (defBody (top 16)) (defScope (top 16)) .none kV_place_of_failure dc_place_of_failure pm_place_of_failure an_place_of_failure cd_place_of_failure ct_place_of_failure), sl_place_of_failure⟩)
    (c_place_of_failure : PySem.W.codeIn K cd_place_of_failure "place_of_failure" = true)
    (k_place_of_failure : PySem.W.keepIn K (.ref f_place_of_failure) = true)
    (a_holds : PySem.W.nsIn K mainGlobals "holds" = some (some (.ref f_holds)))
    (l_holds : K.lookup f_holds = some ⟨oc_holds, od_holds, .func (PySem.W.fnOf "holds" "holds" (defArgs (top 21)) (defBody (top 21)) (defScope (top 21)) .none kV_holds dc_holds pm_holds an_holds cd_holds ct_holds), sl_holds⟩)
    (c_holds : PySem.W.codeIn K cd_holds "holds" = true)
    (k_holds : PySem.W.keepIn K (.ref f_holds) = true)
    (a_take_turn : PySem.W.nsIn K mainGlobals "take_turn" = some (some (.ref f_take_turn)))
    (l_take_turn : K.lookup f_take_turn = some ⟨oc_take_turn, od_take_turn, .func (PySem.W.fnOf "take_turn" "take_turn" (defArgs (top 27)) (defBody (top 27)) (defScope (top 27)) .none kV_take_turn dc_take_turn pm_take_turn an_take_turn cd_take_turn ct_take_turn), sl_take_turn⟩)
    (c_take_turn : PySem.W.codeIn K cd_take_turn "take_turn" = true)
    (k_take_turn : PySem.W.keepIn K (.ref f_take_turn) = true)
    (a_take_round : PySem.W.nsIn K mainGlobals "take_round" = some (some (.ref f_take_round)))
    (l_take_round : K.lookup f_take_round = some ⟨oc_take_round, od_take_round, .func (PySem.W.fnOf "take_round" "take_round" (defArgs (top 28)) (defBody (top 28)) (defScope (top 28)) .none kV_take_round dc_take_round pm_take_round an_take_round cd_take_round ct_take_round), sl_take_round⟩)
    (c_take_round : PySem.W.codeIn K cd_take_round "take_round" = true)
    (k_take_round : PySem.W.keepIn K (.ref f_take_round) = true)
    (a_take_rounds : PySem.W.nsIn K mainGlobals "take_rounds" = some (some (.ref f_take_rounds)))
    (l_take_rounds : K.lookup f_take_rounds = some ⟨oc_take_rounds, od_take_rounds, .func (PySem.W.fnOf "take_rounds" "take_rounds" (defArgs (top 29)) (defBody (top 29)) (defScope (top 29)) .none kV_take_rounds dc_take_rounds pm_take_rounds an_take_rounds cd_take_rounds ct_take_rounds), sl_take_rounds⟩)
    (c_take_rounds : PySem.W.codeIn K cd_take_rounds "take_rounds" = true)
    (k_take_rounds : PySem.W.keepIn K (.ref f_take_rounds) = true)
    (a_reply_facts : PySem.W.nsIn K mainGlobals "reply_facts" = some (some (.ref f_reply_facts)))
    (l_reply_facts : K.lookup f_reply_facts = some ⟨oc_reply_facts, od_reply_facts, .func (PySem.W.fnOf "reply_facts" "reply_facts" (defArgs (top 38)) (defBody (top 38)) (defScope (top 38)) .none kV_reply_facts dc_reply_facts pm_reply_facts an_reply_facts cd_reply_facts ct_reply_facts), sl_reply_facts⟩)
    (c_reply_facts : PySem.W.codeIn K cd_reply_facts "reply_facts" = true)
    (k_reply_facts : PySem.W.keepIn K (.ref f_reply_facts) = true)
    (a_reply_deed : PySem.W.nsIn K mainGlobals "reply_deed" = some (some (.ref f_reply_deed)))
    (l_reply_deed : K.lookup f_reply_deed = some ⟨oc_reply_deed, od_reply_deed, .func (PySem.W.fnOf "reply_deed" "reply_deed" (defArgs (top 39)) (defBody (top 39)) (defScope (top 39)) .none kV_reply_deed dc_reply_deed pm_reply_deed an_reply_deed cd_reply_deed ct_reply_deed), sl_reply_deed⟩)
    (c_reply_deed : PySem.W.codeIn K cd_reply_deed "reply_deed" = true)
    (k_reply_deed : PySem.W.keepIn K (.ref f_reply_deed) = true)
    (a_reply_actor : PySem.W.nsIn K mainGlobals "reply_actor" = some (some (.ref f_reply_actor)))
    (l_reply_actor : K.lookup f_reply_actor = some ⟨oc_reply_actor, od_reply_actor, .func (PySem.W.fnOf "reply_actor" "reply_actor" (defArgs (top 40)) (defBody (top 40)) (defScope (top 40)) .none kV_reply_actor dc_reply_actor pm_reply_actor an_reply_actor cd_reply_actor ct_reply_actor), sl_reply_actor⟩)
    (c_reply_actor : PySem.W.codeIn K cd_reply_actor "reply_actor" = true)
    (k_reply_actor : PySem.W.keepIn K (.ref f_reply_actor) = true)
    (a_reply_world : PySem.W.nsIn K mainGlobals "reply_world" = some (some (.ref f_reply_world)))
    (l_reply_world : K.lookup f_reply_world = some ⟨oc_reply_world, od_reply_world, .func (PySem.W.fnOf "reply_world" "reply_world" (defArgs (top 41)) (defBody (top 41)) (defScope (top 41)) .none kV_reply_world dc_reply_world pm_reply_world an_reply_world cd_reply_world ct_reply_world), sl_reply_world⟩)
    (c_reply_world : PySem.W.codeIn K cd_reply_world "reply_world" = true)
    (k_reply_world : PySem.W.keepIn K (.ref f_reply_world) = true)
    (a_reply_tell : PySem.W.nsIn K mainGlobals "reply_tell" = some (some (.ref f_reply_tell)))
    (l_reply_tell : K.lookup f_reply_tell = some ⟨oc_reply_tell, od_reply_tell, .func (PySem.W.fnOf "reply_tell" "reply_tell" (defArgs (top 42)) (defBody (top 42)) (defScope (top 42)) .none kV_reply_tell dc_reply_tell pm_reply_tell an_reply_tell cd_reply_tell ct_reply_tell), sl_reply_tell⟩)
    (c_reply_tell : PySem.W.codeIn K cd_reply_tell "reply_tell" = true)
    (k_reply_tell : PySem.W.keepIn K (.ref f_reply_tell) = true)
    (a_reply_goal : PySem.W.nsIn K mainGlobals "reply_goal" = some (some (.ref f_reply_goal)))
    (l_reply_goal : K.lookup f_reply_goal = some ⟨oc_reply_goal, od_reply_goal, .func (PySem.W.fnOf "reply_goal" "reply_goal" (defArgs (top 43)) (defBody (top 43)) (defScope (top 43)) .none kV_reply_goal dc_reply_goal pm_reply_goal an_reply_goal cd_reply_goal ct_reply_goal), sl_reply_goal⟩)
    (c_reply_goal : PySem.W.codeIn K cd_reply_goal "reply_goal" = true)
    (k_reply_goal : PySem.W.keepIn K (.ref f_reply_goal) = true)
    (a_reply_plan : PySem.W.nsIn K mainGlobals "reply_plan" = some (some (.ref f_reply_plan)))
    (l_reply_plan : K.lookup f_reply_plan = some ⟨oc_reply_plan, od_reply_plan, .func (PySem.W.fnOf "reply_plan" "reply_plan" (defArgs (top 44)) (defBody (top 44)) (defScope (top 44)) .none kV_reply_plan dc_reply_plan pm_reply_plan an_reply_plan cd_reply_plan ct_reply_plan), sl_reply_plan⟩)
    (c_reply_plan : PySem.W.codeIn K cd_reply_plan "reply_plan" = true)
    (k_reply_plan : PySem.W.keepIn K (.ref f_reply_plan) = true)
    (a_reply_far : PySem.W.nsIn K mainGlobals "reply_far" = some (some (.ref f_reply_far)))
    (l_reply_far : K.lookup f_reply_far = some ⟨oc_reply_far, od_reply_far, .func (PySem.W.fnOf "reply_far" "reply_far" (defArgs (top 45)) (defBody (top 45)) (defScope (top 45)) .none kV_reply_far dc_reply_far pm_reply_far an_reply_far cd_reply_far ct_reply_far), sl_reply_far⟩)
    (c_reply_far : PySem.W.codeIn K cd_reply_far "reply_far" = true)
    (k_reply_far : PySem.W.keepIn K (.ref f_reply_far) = true)
    (a_reply_proof : PySem.W.nsIn K mainGlobals "reply_proof" = some (some (.ref f_reply_proof)))
    (l_reply_proof : K.lookup f_reply_proof = some ⟨oc_reply_proof, od_reply_proof, .func (PySem.W.fnOf "reply_proof" "reply_proof" (defArgs (top 46)) (defBody (top 46)) (defScope (top 46)) .none kV_reply_proof dc_reply_proof pm_reply_proof an_reply_proof cd_reply_proof ct_reply_proof), sl_reply_proof⟩)
    (c_reply_proof : PySem.W.codeIn K cd_reply_proof "reply_proof" = true)
    (k_reply_proof : PySem.W.keepIn K (.ref f_reply_proof) = true)
    (a_reply_check : PySem.W.nsIn K mainGlobals "reply_check" = some (some (.ref f_reply_check)))
    (l_reply_check : K.lookup f_reply_check = some ⟨oc_reply_check, od_reply_check, .func (PySem.W.fnOf "reply_check" "reply_check" (defArgs (top 47)) (defBody (top 47)) (defScope (top 47)) .none kV_reply_check dc_reply_check pm_reply_check an_reply_check cd_reply_check ct_reply_check), sl_reply_check⟩)
    (c_reply_check : PySem.W.codeIn K cd_reply_check "reply_check" = true)
    (k_reply_check : PySem.W.keepIn K (.ref f_reply_check) = true)
    (a_reply_follow : PySem.W.nsIn K mainGlobals "reply_follow" = some (some (.ref f_reply_follow)))
    (l_reply_follow : K.lookup f_reply_follow = some ⟨oc_reply_follow, od_reply_follow, .func (PySem.W.fnOf "reply_follow" "reply_follow" (defArgs (top 48)) (defBody (top 48)) (defScope (top 48)) .none kV_reply_follow dc_reply_follow pm_reply_follow an_reply_follow cd_reply_follow ct_reply_follow), sl_reply_follow⟩)
    (c_reply_follow : PySem.W.codeIn K cd_reply_follow "reply_follow" = true)
    (k_reply_follow : PySem.W.keepIn K (.ref f_reply_follow) = true)
    (a_reply_turn : PySem.W.nsIn K mainGlobals "reply_turn" = some (some (.ref f_reply_turn)))
    (l_reply_turn : K.lookup f_reply_turn = some ⟨oc_reply_turn, od_reply_turn, .func (PySem.W.fnOf "reply_turn" "reply_turn" (defArgs (top 49)) (defBody (top 49)) (defScope (top 49)) .none kV_reply_turn dc_reply_turn pm_reply_turn an_reply_turn cd_reply_turn ct_reply_turn), sl_reply_turn⟩)
    (c_reply_turn : PySem.W.codeIn K cd_reply_turn "reply_turn" = true)
    (k_reply_turn : PySem.W.keepIn K (.ref f_reply_turn) = true)
    (a_reply_rounds : PySem.W.nsIn K mainGlobals "reply_rounds" = some (some (.ref f_reply_rounds)))
    (l_reply_rounds : K.lookup f_reply_rounds = some ⟨oc_reply_rounds, od_reply_rounds, .func (PySem.W.fnOf "reply_rounds" "reply_rounds" (defArgs (top 50)) (defBody (top 50)) (defScope (top 50)) .none kV_reply_rounds dc_reply_rounds pm_reply_rounds an_reply_rounds cd_reply_rounds ct_reply_rounds), sl_reply_rounds⟩)
    (c_reply_rounds : PySem.W.codeIn K cd_reply_rounds "reply_rounds" = true)
    (k_reply_rounds : PySem.W.keepIn K (.ref f_reply_rounds) = true)
    (a_reply_belief : PySem.W.nsIn K mainGlobals "reply_belief" = some (some (.ref f_reply_belief)))
    (l_reply_belief : K.lookup f_reply_belief = some ⟨oc_reply_belief, od_reply_belief, .func (PySem.W.fnOf "reply_belief" "reply_belief" (defArgs (top 51)) (defBody (top 51)) (defScope (top 51)) .none kV_reply_belief dc_reply_belief pm_reply_belief an_reply_belief cd_reply_belief ct_reply_belief), sl_reply_belief⟩)
    (c_reply_belief : PySem.W.codeIn K cd_reply_belief "reply_belief" = true)
    (k_reply_belief : PySem.W.keepIn K (.ref f_reply_belief) = true)
    (a_reply_state : PySem.W.nsIn K mainGlobals "reply_state" = some (some (.ref f_reply_state)))
    (l_reply_state : K.lookup f_reply_state = some ⟨oc_reply_state, od_reply_state, .func (PySem.W.fnOf "reply_state" "reply_state" (defArgs (top 52)) (defBody (top 52)) (defScope (top 52)) .none kV_reply_state dc_reply_state pm_reply_state an_reply_state cd_reply_state ct_reply_state), sl_reply_state⟩)
    (c_reply_state : PySem.W.codeIn K cd_reply_state "reply_state" = true)
    (k_reply_state : PySem.W.keepIn K (.ref f_reply_state) = true)
    (a_reply_deeds : PySem.W.nsIn K mainGlobals "reply_deeds" = some (some (.ref f_reply_deeds)))
    (l_reply_deeds : K.lookup f_reply_deeds = some ⟨oc_reply_deeds, od_reply_deeds, .func (PySem.W.fnOf "reply_deeds" "reply_deeds" (defArgs (top 53)) (defBody (top 53)) (defScope (top 53)) .none kV_reply_deeds dc_reply_deeds pm_reply_deeds an_reply_deeds cd_reply_deeds ct_reply_deeds), sl_reply_deeds⟩)
    (c_reply_deeds : PySem.W.codeIn K cd_reply_deeds "reply_deeds" = true)
    (k_reply_deeds : PySem.W.keepIn K (.ref f_reply_deeds) = true)
    (a_reply : PySem.W.nsIn K mainGlobals "reply" = some (some (.ref f_reply)))
    (l_reply : K.lookup f_reply = some ⟨oc_reply, od_reply, .func (PySem.W.fnOf "reply" "reply" (defArgs (top 55)) (defBody (top 55)) (defScope (top 55)) .none kV_reply dc_reply pm_reply an_reply cd_reply ct_reply), sl_reply⟩)
    (c_reply : PySem.W.codeIn K cd_reply "reply" = true)
    (k_reply : PySem.W.keepIn K (.ref f_reply) = true)
    (a_answers : PySem.W.nsIn K mainGlobals "answers" = some (some (.ref f_answers)))
    (l_answers : K.lookup f_answers = some ⟨oc_answers, od_answers, .func (PySem.W.fnOf "answers" "answers" (defArgs (top 57)) (defBody (top 57)) (defScope (top 57)) .none kV_answers dc_answers pm_answers an_answers cd_answers ct_answers), sl_answers⟩)
    (c_answers : PySem.W.codeIn K cd_answers "answers" = true)
    (k_answers : PySem.W.keepIn K (.ref f_answers) = true)
    (a_KINDS : PySem.W.nsIn K mainGlobals "KINDS" = some (some (.ref d_KINDS)))
    (l_KINDS : K.lookup d_KINDS = some ⟨.type "dict", none, .dict #[⟨0, .int 0 k1, .ref t_KINDS_0⟩, ⟨1, .int 1 k2, .ref t_KINDS_1⟩, ⟨2, .int 2 k3, .ref t_KINDS_2⟩, ⟨3, .int 3 k4, .ref t_KINDS_3⟩, ⟨4, .int 4 k5, .ref t_KINDS_4⟩, ⟨5, .int 5 k6, .ref t_KINDS_5⟩, ⟨6, .int 6 k7, .ref t_KINDS_6⟩, ⟨7, .int 7 k8, .ref t_KINDS_7⟩, ⟨8, .int 8 k9, .ref t_KINDS_8⟩, ⟨9, .int 9 k10, .ref t_KINDS_9⟩, ⟨10, .int 10 k11, .ref t_KINDS_10⟩, ⟨11, .int 11 k12, .ref t_KINDS_11⟩, ⟨12, .int 12 k13, .ref t_KINDS_12⟩, ⟨13, .int 13 k14, .ref t_KINDS_13⟩, ⟨14, .int 14 k15, .ref t_KINDS_14⟩, ⟨15, .int 15 k16, .ref t_KINDS_15⟩] ep_KINDS, #[]⟩)
    (l_KINDS_0 : K.lookup t_KINDS_0 = some ⟨.type "tuple", none, .seq #[.str "how many facts" k17] sq_KINDS_0, #[]⟩)
    (l_KINDS_1 : K.lookup t_KINDS_1 = some ⟨.type "tuple", none, .seq #[.str "actor" k18, .str "set" k19, .str "set" k20, .str "set" k21, .str "set" k22] sq_KINDS_1, #[]⟩)
    (l_KINDS_2 : K.lookup t_KINDS_2 = some ⟨.type "tuple", none, .seq #[.str "set" k23, .str "set" k24, .str "set" k25] sq_KINDS_2, #[]⟩)
    (l_KINDS_3 : K.lookup t_KINDS_3 = some ⟨.type "tuple", none, .seq #[.str "set" k26] sq_KINDS_3, #[]⟩)
    (l_KINDS_4 : K.lookup t_KINDS_4 = some ⟨.type "tuple", none, .seq #[.str "actor" k27, .str "fact" k28, .str "yes or no" k29] sq_KINDS_4, #[]⟩)
    (l_KINDS_5 : K.lookup t_KINDS_5 = some ⟨.type "tuple", none, .seq #[.str "actor" k30, .str "set" k31, .str "set" k32] sq_KINDS_5, #[]⟩)
    (l_KINDS_6 : K.lookup t_KINDS_6 = some ⟨.type "tuple", none, .seq #[.str "actor" k33] sq_KINDS_6, #[]⟩)
    (l_KINDS_7 : K.lookup t_KINDS_7 = some ⟨.type "tuple", none, .seq #[.str "actor" k34, .str "set" k35] sq_KINDS_7, #[]⟩)
    (l_KINDS_8 : K.lookup t_KINDS_8 = some ⟨.type "tuple", none, .seq #[.str "actor" k36] sq_KINDS_8, #[]⟩)
    (l_KINDS_9 : K.lookup t_KINDS_9 = some ⟨.type "tuple", none, .seq #[.str "actor" k37] sq_KINDS_9, #[]⟩)
    (l_KINDS_10 : K.lookup t_KINDS_10 = some ⟨.type "tuple", none, .seq #[.str "actor" k38] sq_KINDS_10, #[]⟩)
    (l_KINDS_11 : K.lookup t_KINDS_11 = some ⟨.type "tuple", none, .seq #[.str "actor" k39] sq_KINDS_11, #[]⟩)
    (l_KINDS_12 : K.lookup t_KINDS_12 = some ⟨.type "tuple", none, .seq #[.str "how many rounds" k40] sq_KINDS_12, #[]⟩)
    (l_KINDS_13 : K.lookup t_KINDS_13 = some ⟨.type "tuple", none, .seq #[.str "actor" k41] sq_KINDS_13, #[]⟩)
    (l_KINDS_14 : K.lookup t_KINDS_14 = some ⟨.type "tuple", none, .seq #[] sq_KINDS_14, #[]⟩)
    (l_KINDS_15 : K.lookup t_KINDS_15 = some ⟨.type "tuple", none, .seq #[] sq_KINDS_15, #[]⟩)
    (a_ROWS : PySem.W.nsIn K mainGlobals "ROWS" = some (some (.ref d_ROWS)))
    (l_ROWS : K.lookup d_ROWS = some ⟨.type "dict", none, .dict #[⟨9, .int 9 k43, .str "set" k42⟩, ⟨10, .int 10 k45, .str "deed" k44⟩] ep_ROWS, #[]⟩)
    (v_MOST_FACTS : PySem.W.nsIn K mainGlobals "MOST_FACTS" = some (some (.int (6) k46)))
    (v_MOST_ROUNDS : PySem.W.nsIn K mainGlobals "MOST_ROUNDS" = some (some (.int (20) k47)))
    (v_CONTENT : PySem.W.nsIn K mainGlobals "CONTENT" = some (some (.int (0) k48)))
    (v_NO_PLAN : PySem.W.nsIn K mainGlobals "NO_PLAN" = some (some (.int (1) k49)))
    (v_DONE : PySem.W.nsIn K mainGlobals "DONE" = some (some (.int (2) k50)))
    (v_STOPPED : PySem.W.nsIn K mainGlobals "STOPPED" = some (some (.int (3) k51)))
    (v_NOT_IN_RANGE : PySem.W.nsIn K mainGlobals "NOT_IN_RANGE" = some (some (.int (-1) k52)))
    (v_BOTH_WAYS : PySem.W.nsIn K mainGlobals "BOTH_WAYS" = some (some (.int (-2) k53)))
    (v_NOT_THE_TIME : PySem.W.nsIn K mainGlobals "NOT_THE_TIME" = some (some (.int (-3) k54)))
    (v_NOT_SO : PySem.W.nsIn K mainGlobals "NOT_SO" = some (some (.int (-4) k55)))
    (v_NO_PLACE : PySem.W.nsIn K mainGlobals "NO_PLACE" = some (some (.int (-5) k56)))
    (v_MOST_DEEDS : PySem.W.nsIn K mainGlobals "MOST_DEEDS" = some (some (.int (24) k57)))
    (v_MOST_ACTORS : PySem.W.nsIn K mainGlobals "MOST_ACTORS" = some (some (.int (4) k58)))
    (a_REPLIES : PySem.W.nsIn K mainGlobals "REPLIES" = some (some (.ref d_REPLIES)))
    (l_REPLIES : K.lookup d_REPLIES = some ⟨.type "dict", none, .dict #[⟨0, .int 0 k59, .ref f_reply_facts⟩, ⟨1, .int 1 k60, .ref f_reply_deed⟩, ⟨2, .int 2 k61, .ref f_reply_actor⟩, ⟨3, .int 3 k62, .ref f_reply_world⟩, ⟨4, .int 4 k63, .ref f_reply_tell⟩, ⟨5, .int 5 k64, .ref f_reply_goal⟩, ⟨6, .int 6 k65, .ref f_reply_plan⟩, ⟨7, .int 7 k66, .ref f_reply_far⟩, ⟨8, .int 8 k67, .ref f_reply_proof⟩, ⟨9, .int 9 k68, .ref f_reply_check⟩, ⟨10, .int 10 k69, .ref f_reply_follow⟩, ⟨11, .int 11 k70, .ref f_reply_turn⟩, ⟨12, .int 12 k71, .ref f_reply_rounds⟩, ⟨13, .int 13 k72, .ref f_reply_belief⟩, ⟨14, .int 14 k73, .ref f_reply_state⟩, ⟨15, .int 15 k74, .ref f_reply_deeds⟩] ep_REPLIES, #[]⟩)
    (b_len : PySem.W.nsIn K mainGlobals "len" = some none)
    (b_enumerate : PySem.W.nsIn K mainGlobals "enumerate" = some none)
    (b_range : PySem.W.nsIn K mainGlobals "range" = some none)
    (b_sorted : PySem.W.nsIn K mainGlobals "sorted" = some none)
    (s_ROWS : (d_ROWS == sysModules) = false)
    :
    ∃ fd : FuncData, (∀ (s : Shared) (us : List Value), us.length = (["calls"] : List Str).length → BindsTo s fd ⟨us, []⟩ ((["calls"] : List Str).zip us)) ∧ ∀ base : Heap, K.In base → base.Ns mainGlobals mg → FnOk P w K mg base CX0 20 fa fd ["calls"] (spAns K) := by
  have e := hfa.symm.trans (PySem.W.mg_of X G a_answers)
  cases e
  have T : Tx K mg C_Deed C_Actor C_Story := ⟨⟨pg_Deed, hd_Deed, po_Deed, sa_Deed⟩, ⟨pg_Actor, hd_Actor, po_Actor, sa_Actor⟩, ⟨pg_Story, hd_Story, po_Story, sa_Story⟩, n_Deed_actor, n_Deed_must, n_Deed_must_not, n_Deed_become, n_Deed_cease, n_Actor_sees, n_Actor_goal, n_Actor_goal_not, n_Actor_belief,
    n_Story_facts, n_Story_world, n_Story_actors, n_Story_deeds, PySem.W.mg_none_of X G b_len, PySem.W.mg_none_of X G b_enumerate, PySem.W.mg_none_of X G b_range, PySem.W.mg_none_of X G b_sorted⟩
  have U : Ty mg := ⟨⟨_, PySem.W.mg_of X G v_NOT_IN_RANGE⟩, ⟨_, PySem.W.mg_of X G v_BOTH_WAYS⟩, ⟨_, PySem.W.mg_of X G v_NOT_THE_TIME⟩, ⟨_, PySem.W.mg_of X G v_NOT_SO⟩, ⟨_, PySem.W.mg_of X G v_NO_PLACE⟩, ⟨_, PySem.W.mg_of X G v_MOST_DEEDS⟩, ⟨_, PySem.W.mg_of X G v_MOST_ACTORS⟩, ⟨_, PySem.W.mg_of X G v_MOST_FACTS⟩, ⟨_, PySem.W.mg_of X G v_MOST_ROUNDS⟩, ⟨_, PySem.W.mg_of X G v_CONTENT⟩, ⟨_, PySem.W.mg_of X G v_NO_PLAN⟩, ⟨_, PySem.W.mg_of X G v_DONE⟩, ⟨_, PySem.W.mg_of X G v_STOPPED⟩⟩
  have D : Kinds K mg d_KINDS [(0, .ref t_KINDS_0), (1, .ref t_KINDS_1), (2, .ref t_KINDS_2), (3, .ref t_KINDS_3), (4, .ref t_KINDS_4), (5, .ref t_KINDS_5), (6, .ref t_KINDS_6), (7, .ref t_KINDS_7), (8, .ref t_KINDS_8), (9, .ref t_KINDS_9), (10, .ref t_KINDS_10), (11, .ref t_KINDS_11), (12, .ref t_KINDS_12), (13, .ref t_KINDS_13), (14, .ref t_KINDS_14), (15, .ref t_KINDS_15)] d_ROWS := by
    refine ⟨PySem.W.mg_of X G a_KINDS, ⟨⟨_, _, _, l_KINDS, ⟨rfl, rfl, rfl⟩, rfl, (.cons ⟨rfl, ⟨_, rfl⟩, rfl⟩ (.cons ⟨rfl, ⟨_, rfl⟩, rfl⟩ (.cons ⟨rfl, ⟨_, rfl⟩, rfl⟩ (.cons ⟨rfl, ⟨_, rfl⟩, rfl⟩ (.cons ⟨rfl, ⟨_, rfl⟩, rfl⟩ (.cons ⟨rfl, ⟨_, rfl⟩, rfl⟩ (.cons ⟨rfl, ⟨_, rfl⟩, rfl⟩ (.cons ⟨rfl, ⟨_, rfl⟩, rfl⟩ (.cons ⟨rfl, ⟨_, rfl⟩, rfl⟩ (.cons ⟨rfl, ⟨_, rfl⟩, rfl⟩ (.cons ⟨rfl, ⟨_, rfl⟩, rfl⟩ (.cons ⟨rfl, ⟨_, rfl⟩, rfl⟩ (.cons ⟨rfl, ⟨_, rfl⟩, rfl⟩ (.cons ⟨rfl, ⟨_, rfl⟩, rfl⟩ (.cons ⟨rfl, ⟨_, rfl⟩, rfl⟩ (.cons ⟨rfl, ⟨_, rfl⟩, rfl⟩ .nil))))))))))))))))⟩, nd16⟩, fun c hc => ?_, PySem.W.mg_of X G a_ROWS, ⟨⟨_, _, _, l_ROWS, ⟨rfl, rfl, rfl⟩, rfl, .cons ⟨rfl, ⟨_, rfl⟩, ⟨_, rfl⟩⟩ (.cons ⟨rfl, ⟨_, rfl⟩, ⟨_, rfl⟩⟩ .nil)⟩, nd2⟩, s_ROWS⟩
    match c, hc with
    | 0, _ => exact ⟨_, rfl, _, _, _, l_KINDS_0, rfl, rfl, (by show 1 ≤ sizeLine; decide), (.cons ⟨_, rfl⟩ .nil)⟩
    | 1, _ => exact ⟨_, rfl, _, _, _, l_KINDS_1, rfl, rfl, (by show 5 ≤ sizeLine; decide), (.cons ⟨_, rfl⟩ (.cons ⟨_, rfl⟩ (.cons ⟨_, rfl⟩ (.cons ⟨_, rfl⟩ (.cons ⟨_, rfl⟩ .nil)))))⟩
    | 2, _ => exact ⟨_, rfl, _, _, _, l_KINDS_2, rfl, rfl, (by show 3 ≤ sizeLine; decide), (.cons ⟨_, rfl⟩ (.cons ⟨_, rfl⟩ (.cons ⟨_, rfl⟩ .nil)))⟩
    | 3, _ => exact ⟨_, rfl, _, _, _, l_KINDS_3, rfl, rfl, (by show 1 ≤ sizeLine; decide), (.cons ⟨_, rfl⟩ .nil)⟩
    | 4, _ => exact ⟨_, rfl, _, _, _, l_KINDS_4, rfl, rfl, (by show 3 ≤ sizeLine; decide), (.cons ⟨_, rfl⟩ (.cons ⟨_, rfl⟩ (.cons ⟨_, rfl⟩ .nil)))⟩
    | 5, _ => exact ⟨_, rfl, _, _, _, l_KINDS_5, rfl, rfl, (by show 3 ≤ sizeLine; decide), (.cons ⟨_, rfl⟩ (.cons ⟨_, rfl⟩ (.cons ⟨_, rfl⟩ .nil)))⟩
    | 6, _ => exact ⟨_, rfl, _, _, _, l_KINDS_6, rfl, rfl, (by show 1 ≤ sizeLine; decide), (.cons ⟨_, rfl⟩ .nil)⟩
    | 7, _ => exact ⟨_, rfl, _, _, _, l_KINDS_7, rfl, rfl, (by show 2 ≤ sizeLine; decide), (.cons ⟨_, rfl⟩ (.cons ⟨_, rfl⟩ .nil))⟩
    | 8, _ => exact ⟨_, rfl, _, _, _, l_KINDS_8, rfl, rfl, (by show 1 ≤ sizeLine; decide), (.cons ⟨_, rfl⟩ .nil)⟩
    | 9, _ => exact ⟨_, rfl, _, _, _, l_KINDS_9, rfl, rfl, (by show 1 ≤ sizeLine; decide), (.cons ⟨_, rfl⟩ .nil)⟩
    | 10, _ => exact ⟨_, rfl, _, _, _, l_KINDS_10, rfl, rfl, (by show 1 ≤ sizeLine; decide), (.cons ⟨_, rfl⟩ .nil)⟩
    | 11, _ => exact ⟨_, rfl, _, _, _, l_KINDS_11, rfl, rfl, (by show 1 ≤ sizeLine; decide), (.cons ⟨_, rfl⟩ .nil)⟩
    | 12, _ => exact ⟨_, rfl, _, _, _, l_KINDS_12, rfl, rfl, (by show 1 ≤ sizeLine; decide), (.cons ⟨_, rfl⟩ .nil)⟩
    | 13, _ => exact ⟨_, rfl, _, _, _, l_KINDS_13, rfl, rfl, (by show 1 ≤ sizeLine; decide), (.cons ⟨_, rfl⟩ .nil)⟩
    | 14, _ => exact ⟨_, rfl, _, _, _, l_KINDS_14, rfl, rfl, (by show 0 ≤ sizeLine; decide), .nil⟩
    | 15, _ => exact ⟨_, rfl, _, _, _, l_KINDS_15, rfl, rfl, (by show 0 ≤ sizeLine; decide), .nil⟩
    | n + 16, h => exact absurd h (by omega)
  have F_Deed_init := fun_mk (st := sDeedInit) l_Deed_init c_Deed_init k_Deed_init
  have B_Deed_init := F_Deed_init.binds (ps := ["self", "actor", "must", "must_not", "become", "cease"]) fun _ _ _ _ _ _ us hl => by obtain ⟨_, _, _, _, _, _, rfl⟩ := ls6 hl; rfl
  have F_Deed_can_be_done := fun_mk (st := sCan) l_Deed_can_be_done c_Deed_can_be_done k_Deed_can_be_done
  have B_Deed_can_be_done := F_Deed_can_be_done.binds (ps := ["self", "world"]) fun _ _ _ _ _ _ us hl => by obtain ⟨_, _, rfl⟩ := ls2 hl; rfl
  have F_Deed_brings := fun_mk (st := sBrings) l_Deed_brings c_Deed_brings k_Deed_brings
  have B_Deed_brings := F_Deed_brings.binds (ps := ["self", "world"]) fun _ _ _ _ _ _ us hl => by obtain ⟨_, _, rfl⟩ := ls2 hl; rfl
  have F_Actor_init := fun_mk (st := sActInit) l_Actor_init c_Actor_init k_Actor_init
  have B_Actor_init := F_Actor_init.binds (ps := ["self", "sees", "goal", "goal_not"]) fun _ _ _ _ _ _ us hl => by obtain ⟨_, _, _, _, rfl⟩ := ls4 hl; rfl
  have F_Actor_learn := fun_mk (st := sLearn) l_Actor_learn c_Actor_learn k_Actor_learn
  have B_Actor_learn := F_Actor_learn.binds (ps := ["self", "facts", "world"]) fun _ _ _ _ _ _ us hl => by obtain ⟨_, _, _, rfl⟩ := ls3 hl; rfl
  have F_Actor_look := fun_mk (st := sLook) l_Actor_look c_Actor_look k_Actor_look
  have B_Actor_look := F_Actor_look.binds (ps := ["self", "world"]) fun _ _ _ _ _ _ us hl => by obtain ⟨_, _, rfl⟩ := ls2 hl; rfl
  have F_Actor_is_content := fun_mk (st := sContent) l_Actor_is_content c_Actor_is_content k_Actor_is_content
  have B_Actor_is_content := F_Actor_is_content.binds (ps := ["self", "world"]) fun _ _ _ _ _ _ us hl => by obtain ⟨_, _, rfl⟩ := ls2 hl; rfl
  have F_Story_init := fun_mk (st := sStoryInit) l_Story_init c_Story_init k_Story_init
  have B_Story_init := F_Story_init.binds (ps := ["self"]) fun _ _ _ _ _ _ us hl => by obtain ⟨_, rfl⟩ := ls1 hl; rfl
  have F_Story_set_world := fun_mk (st := sSetW) l_Story_set_world c_Story_set_world k_Story_set_world
  have B_Story_set_world := F_Story_set_world.binds (ps := ["self", "world"]) fun _ _ _ _ _ _ us hl => by obtain ⟨_, _, rfl⟩ := ls2 hl; rfl
  have F_holds := fun_mk (st := sHolds) l_holds c_holds k_holds
  have B_holds := F_holds.binds (ps := ["world", "wanted", "unwanted"]) fun _ _ _ _ _ _ us hl => by obtain ⟨_, _, _, rfl⟩ := ls3 hl; rfl
  have F_deeds_of := fun_mk (st := sDeedsOf) l_deeds_of c_deeds_of k_deeds_of
  have B_deeds_of := F_deeds_of.binds (ps := ["story", "actor"]) fun _ _ _ _ _ _ us hl => by obtain ⟨_, _, rfl⟩ := ls2 hl; rfl
  have F_ways_from := fun_mk (st := sWays) l_ways_from c_ways_from k_ways_from
  have B_ways_from := F_ways_from.binds (ps := ["story", "actor", "world"]) fun _ _ _ _ _ _ us hl => by obtain ⟨_, _, _, rfl⟩ := ls3 hl; rfl
  have F_plan_from := fun_mk (st := sPlan) l_plan_from c_plan_from k_plan_from
  have B_plan_from := F_plan_from.binds (ps := ["story", "actor", "world"]) fun _ _ _ _ _ _ us hl => by obtain ⟨_, _, _, rfl⟩ := ls3 hl; rfl
  have F_proves := fun_mk (st := sProves) l_proves c_proves k_proves
  have B_proves := F_proves.binds (ps := ["story", "actor", "worlds"]) fun _ _ _ _ _ _ us hl => by obtain ⟨_, _, _, rfl⟩ := ls3 hl; rfl
  have F_place_of_failure := fun_mk (st := sPlace) l_place_of_failure c_place_of_failure k_place_of_failure
  have B_place_of_failure := F_place_of_failure.binds (ps := ["story", "actor", "numbers"]) fun _ _ _ _ _ _ us hl => by obtain ⟨_, _, _, rfl⟩ := ls3 hl; rfl
  have F_take_turn := fun_mk (st := sTurn) l_take_turn c_take_turn k_take_turn
  have B_take_turn := F_take_turn.binds (ps := ["story", "actor"]) fun _ _ _ _ _ _ us hl => by obtain ⟨_, _, rfl⟩ := ls2 hl; rfl
  have F_take_round := fun_mk (st := sRound) l_take_round c_take_round k_take_round
  have B_take_round := F_take_round.binds (ps := ["story"]) fun _ _ _ _ _ _ us hl => by obtain ⟨_, rfl⟩ := ls1 hl; rfl
  have F_take_rounds := fun_mk (st := sRounds) l_take_rounds c_take_rounds k_take_rounds
  have B_take_rounds := F_take_rounds.binds (ps := ["story", "most"]) fun _ _ _ _ _ _ us hl => by obtain ⟨_, _, rfl⟩ := ls2 hl; rfl
  have F_how_many_numbers := fun_mk (st := sMany) l_how_many_numbers c_how_many_numbers k_how_many_numbers
  have B_how_many_numbers := F_how_many_numbers.binds (ps := ["call"]) fun _ _ _ _ _ _ us hl => by obtain ⟨_, rfl⟩ := ls1 hl; rfl
  have F_has_row := fun_mk (st := sHasRow) l_has_row c_has_row k_has_row
  have B_has_row := F_has_row.binds (ps := ["call"]) fun _ _ _ _ _ _ us hl => by obtain ⟨_, rfl⟩ := ls1 hl; rfl
  have F_kind_at := fun_mk (st := sKindAt) l_kind_at c_kind_at k_kind_at
  have B_kind_at := F_kind_at.binds (ps := ["call", "place"]) fun _ _ _ _ _ _ us hl => by obtain ⟨_, _, rfl⟩ := ls2 hl; rfl
  have F_least := fun_mk (st := sLeast) l_least c_least k_least
  have B_least := F_least.binds (ps := ["kind"]) fun _ _ _ _ _ _ us hl => by obtain ⟨_, rfl⟩ := ls1 hl; rfl
  have F_above := fun_mk (st := sAbove) l_above c_above k_above
  have B_above := F_above.binds (ps := ["story", "kind"]) fun _ _ _ _ _ _ us hl => by obtain ⟨_, _, rfl⟩ := ls2 hl; rfl
  have F_all_in_range := fun_mk (st := sInR) l_all_in_range c_all_in_range k_all_in_range
  have B_all_in_range := F_all_in_range.binds (ps := ["story", "call", "numbers"]) fun _ _ _ _ _ _ us hl => by obtain ⟨_, _, _, rfl⟩ := ls3 hl; rfl
  have F_reply := fun_mk (st := sReply) l_reply c_reply k_reply
  have B_reply := F_reply.binds (ps := ["story", "call", "numbers"]) fun _ _ _ _ _ _ us hl => by obtain ⟨_, _, _, rfl⟩ := ls3 hl; rfl
  have F_answers := fun_mk (st := sAnswers) l_answers c_answers k_answers
  have B_answers := F_answers.binds (ps := ["calls"]) fun _ _ _ _ _ _ us hl => by obtain ⟨_, rfl⟩ := ls1 hl; rfl
  have F_reply_facts := fun_mk (st := sRFacts) l_reply_facts c_reply_facts k_reply_facts
  have B_reply_facts := F_reply_facts.binds (ps := ["story", "numbers"]) fun _ _ _ _ _ _ us hl => by obtain ⟨_, _, rfl⟩ := ls2 hl; rfl
  have F_reply_deed := fun_mk (st := sRDeed) l_reply_deed c_reply_deed k_reply_deed
  have B_reply_deed := F_reply_deed.binds (ps := ["story", "numbers"]) fun _ _ _ _ _ _ us hl => by obtain ⟨_, _, rfl⟩ := ls2 hl; rfl
  have F_reply_actor := fun_mk (st := sRActor) l_reply_actor c_reply_actor k_reply_actor
  have B_reply_actor := F_reply_actor.binds (ps := ["story", "numbers"]) fun _ _ _ _ _ _ us hl => by obtain ⟨_, _, rfl⟩ := ls2 hl; rfl
  have F_reply_world := fun_mk (st := sRWorld) l_reply_world c_reply_world k_reply_world
  have B_reply_world := F_reply_world.binds (ps := ["story", "numbers"]) fun _ _ _ _ _ _ us hl => by obtain ⟨_, _, rfl⟩ := ls2 hl; rfl
  have F_reply_tell := fun_mk (st := sRTell) l_reply_tell c_reply_tell k_reply_tell
  have B_reply_tell := F_reply_tell.binds (ps := ["story", "numbers"]) fun _ _ _ _ _ _ us hl => by obtain ⟨_, _, rfl⟩ := ls2 hl; rfl
  have F_reply_goal := fun_mk (st := sRGoal) l_reply_goal c_reply_goal k_reply_goal
  have B_reply_goal := F_reply_goal.binds (ps := ["story", "numbers"]) fun _ _ _ _ _ _ us hl => by obtain ⟨_, _, rfl⟩ := ls2 hl; rfl
  have F_reply_plan := fun_mk (st := sRPlan) l_reply_plan c_reply_plan k_reply_plan
  have B_reply_plan := F_reply_plan.binds (ps := ["story", "numbers"]) fun _ _ _ _ _ _ us hl => by obtain ⟨_, _, rfl⟩ := ls2 hl; rfl
  have F_reply_far := fun_mk (st := sRFar) l_reply_far c_reply_far k_reply_far
  have B_reply_far := F_reply_far.binds (ps := ["story", "numbers"]) fun _ _ _ _ _ _ us hl => by obtain ⟨_, _, rfl⟩ := ls2 hl; rfl
  have F_reply_proof := fun_mk (st := sRProof) l_reply_proof c_reply_proof k_reply_proof
  have B_reply_proof := F_reply_proof.binds (ps := ["story", "numbers"]) fun _ _ _ _ _ _ us hl => by obtain ⟨_, _, rfl⟩ := ls2 hl; rfl
  have F_reply_check := fun_mk (st := sRCheck) l_reply_check c_reply_check k_reply_check
  have B_reply_check := F_reply_check.binds (ps := ["story", "numbers"]) fun _ _ _ _ _ _ us hl => by obtain ⟨_, _, rfl⟩ := ls2 hl; rfl
  have F_reply_follow := fun_mk (st := sRFollow) l_reply_follow c_reply_follow k_reply_follow
  have B_reply_follow := F_reply_follow.binds (ps := ["story", "numbers"]) fun _ _ _ _ _ _ us hl => by obtain ⟨_, _, rfl⟩ := ls2 hl; rfl
  have F_reply_turn := fun_mk (st := sRTurn) l_reply_turn c_reply_turn k_reply_turn
  have B_reply_turn := F_reply_turn.binds (ps := ["story", "numbers"]) fun _ _ _ _ _ _ us hl => by obtain ⟨_, _, rfl⟩ := ls2 hl; rfl
  have F_reply_rounds := fun_mk (st := sRRounds) l_reply_rounds c_reply_rounds k_reply_rounds
  have B_reply_rounds := F_reply_rounds.binds (ps := ["story", "numbers"]) fun _ _ _ _ _ _ us hl => by obtain ⟨_, _, rfl⟩ := ls2 hl; rfl
  have F_reply_belief := fun_mk (st := sRBelief) l_reply_belief c_reply_belief k_reply_belief
  have B_reply_belief := F_reply_belief.binds (ps := ["story", "numbers"]) fun _ _ _ _ _ _ us hl => by obtain ⟨_, _, rfl⟩ := ls2 hl; rfl
  have F_reply_state := fun_mk (st := sRState) l_reply_state c_reply_state k_reply_state
  have B_reply_state := F_reply_state.binds (ps := ["story", "numbers"]) fun _ _ _ _ _ _ us hl => by obtain ⟨_, _, rfl⟩ := ls2 hl; rfl
  have F_reply_deeds := fun_mk (st := sRDeeds) l_reply_deeds c_reply_deeds k_reply_deeds
  have B_reply_deeds := F_reply_deeds.binds (ps := ["story", "numbers"]) fun _ _ _ _ _ _ us hl => by obtain ⟨_, _, rfl⟩ := ls2 hl; rfl
  refine ⟨_, fun_bindsTo (ps := ["calls"]) F_answers fun _ _ _ _ _ _ us hl => by obtain ⟨_, rfl⟩ := ls1 hl; rfl, fun base Xb Gb => ?_⟩
  have g_holds := ok_holds (P := P) (w := w) (mg := mg) (base := base) F_holds
  have g_can := ok_can (P := P) (w := w) (mg := mg) (base := base) F_Deed_can_be_done T (Own.mk' g_holds B_holds k_holds (PySem.W.mg_of X G a_holds) (by decide : 1 ≤ 1))
  have g_brings := ok_brings (P := P) (w := w) (mg := mg) (base := base) F_Deed_brings T
  have g_deed := ok_deedInit (P := P) (w := w) (mg := mg) (base := base) F_Deed_init T
  have g_act := ok_actInit (P := P) (w := w) (mg := mg) (base := base) F_Actor_init T
  have g_learn := ok_learn (P := P) (w := w) (mg := mg) (base := base) F_Actor_learn T
  have g_look := ok_look (P := P) (w := w) (mg := mg) (base := base) F_Actor_look T (OwnM.mk' g_learn B_Actor_learn ⟨a_Actor_learn, i_Actor_learn, k_Actor_learn⟩ (by decide : 1 ≤ 1))
  have g_content := ok_content (P := P) (w := w) (mg := mg) (base := base) F_Actor_is_content T (Own.mk' g_holds B_holds k_holds (PySem.W.mg_of X G a_holds) (by decide : 1 ≤ 1))
  have g_deeds := ok_deedsOf (P := P) (w := w) (mg := mg) (base := base) F_deeds_of T
  have g_ways := ok_ways (P := P) (w := w) (mg := mg) (base := base) F_ways_from T (Own.mk' g_deeds B_deeds_of k_deeds_of (PySem.W.mg_of X G a_deeds_of) (by decide : 1 ≤ 2)) (OwnM.mk' g_can B_Deed_can_be_done ⟨a_Deed_can_be_done, i_Deed_can_be_done, k_Deed_can_be_done⟩ (by decide : 2 ≤ 2)) (OwnM.mk' g_brings B_Deed_brings ⟨a_Deed_brings, i_Deed_brings, k_Deed_brings⟩ (by decide : 1 ≤ 2))
  have g_plan := ok_plan (P := P) (w := w) (mg := mg) (base := base) F_plan_from T (Own.mk' g_ways B_ways_from k_ways_from (PySem.W.mg_of X G a_ways_from) (by decide : 3 ≤ 3)) (OwnM.mk' g_content B_Actor_is_content ⟨a_Actor_is_content, i_Actor_is_content, k_Actor_is_content⟩ (by decide : 2 ≤ 3))
  have g_proves := ok_proves (P := P) (w := w) (mg := mg) (base := base) F_proves T (Own.mk' g_deeds B_deeds_of k_deeds_of (PySem.W.mg_of X G a_deeds_of) (by decide : 1 ≤ 2)) (OwnM.mk' g_content B_Actor_is_content ⟨a_Actor_is_content, i_Actor_is_content, k_Actor_is_content⟩ (by decide : 2 ≤ 2)) (OwnM.mk' g_can B_Deed_can_be_done ⟨a_Deed_can_be_done, i_Deed_can_be_done, k_Deed_can_be_done⟩ (by decide : 2 ≤ 2)) (OwnM.mk' g_brings B_Deed_brings ⟨a_Deed_brings, i_Deed_brings, k_Deed_brings⟩ (by decide : 1 ≤ 2))
  have g_place := ok_place (P := P) (w := w) (mg := mg) (base := base) F_place_of_failure T (OwnM.mk' g_content B_Actor_is_content ⟨a_Actor_is_content, i_Actor_is_content, k_Actor_is_content⟩ (by decide : 2 ≤ 2)) (OwnM.mk' g_can B_Deed_can_be_done ⟨a_Deed_can_be_done, i_Deed_can_be_done, k_Deed_can_be_done⟩ (by decide : 2 ≤ 2)) (OwnM.mk' g_brings B_Deed_brings ⟨a_Deed_brings, i_Deed_brings, k_Deed_brings⟩ (by decide : 1 ≤ 2))
  have g_setw := ok_setW (P := P) (w := w) (mg := mg) (base := base) F_Story_set_world T (OwnM.mk' g_look B_Actor_look ⟨a_Actor_look, i_Actor_look, k_Actor_look⟩ (by decide : 2 ≤ 2))
  have g_turn := ok_turn (P := P) (w := w) (mg := mg) (base := base) F_take_turn T U (Own.mk' g_plan B_plan_from k_plan_from (PySem.W.mg_of X G a_plan_from) (by decide : 4 ≤ 4)) (OwnM.mk' g_can B_Deed_can_be_done ⟨a_Deed_can_be_done, i_Deed_can_be_done, k_Deed_can_be_done⟩ (by decide : 2 ≤ 4)) (OwnM.mk' g_brings B_Deed_brings ⟨a_Deed_brings, i_Deed_brings, k_Deed_brings⟩ (by decide : 1 ≤ 4)) (OwnM.mk' g_setw B_Story_set_world ⟨a_Story_set_world, i_Story_set_world, k_Story_set_world⟩ (by decide : 3 ≤ 4)) (OwnM.mk' g_learn B_Actor_learn ⟨a_Actor_learn, i_Actor_learn, k_Actor_learn⟩ (by decide : 1 ≤ 4))
  have g_round := ok_round (P := P) (w := w) (mg := mg) (base := base) F_take_round T U (Own.mk' g_turn B_take_turn k_take_turn (PySem.W.mg_of X G a_take_turn) (by decide : 5 ≤ 5))
  have g_rounds := ok_rounds (P := P) (w := w) (mg := mg) (base := base) F_take_rounds (Own.mk' g_round B_take_round k_take_round (PySem.W.mg_of X G a_take_round) (by decide : 6 ≤ 6))
  have q_facts := ok_rFacts (P := P) (w := w) (mg := mg) (base := base) F_reply_facts T U
  have q_deed := ok_rDeed (P := P) (w := w) (mg := mg) (base := base) F_reply_deed T U (OwnC.mk' g_deed B_Deed_init ⟨mk_Deed, a_Deed_init, i_Deed_init, kc_Deed⟩ (PySem.W.mg_of X G a_Deed) (by decide : 1 ≤ 1))
  have q_actor := ok_rActor (P := P) (w := w) (mg := mg) (base := base) F_reply_actor T U (OwnC.mk' g_act B_Actor_init ⟨mk_Actor, a_Actor_init, i_Actor_init, kc_Actor⟩ (PySem.W.mg_of X G a_Actor) (by decide : 1 ≤ 1)) (OwnM.mk' g_look B_Actor_look ⟨a_Actor_look, i_Actor_look, k_Actor_look⟩ (by decide : 2 ≤ 2))
  have q_world := ok_rWorld (P := P) (w := w) (mg := mg) (base := base) F_reply_world T (OwnM.mk' g_setw B_Story_set_world ⟨a_Story_set_world, i_Story_set_world, k_Story_set_world⟩ (by decide : 3 ≤ 3))
  have q_tell := ok_rTell (P := P) (w := w) (mg := mg) (base := base) F_reply_tell T U
  have q_goal := ok_rGoal (P := P) (w := w) (mg := mg) (base := base) F_reply_goal T U
  have q_plan := ok_rPlan (P := P) (w := w) (mg := mg) (base := base) F_reply_plan T (Own.mk' g_plan B_plan_from k_plan_from (PySem.W.mg_of X G a_plan_from) (by decide : 4 ≤ 4))
  have q_far := ok_rFar (P := P) (w := w) (mg := mg) (base := base) F_reply_far T (Own.mk' g_plan B_plan_from k_plan_from (PySem.W.mg_of X G a_plan_from) (by decide : 4 ≤ 4))
  have q_proof := ok_rProof (P := P) (w := w) (mg := mg) (base := base) F_reply_proof T U (Own.mk' g_plan B_plan_from k_plan_from (PySem.W.mg_of X G a_plan_from) (by decide : 4 ≤ 4)) (Own.mk' g_ways B_ways_from k_ways_from (PySem.W.mg_of X G a_ways_from) (by decide : 3 ≤ 4))
  have q_check := ok_rCheck (P := P) (w := w) (mg := mg) (base := base) F_reply_check (Own.mk' g_proves B_proves k_proves (PySem.W.mg_of X G a_proves) (by decide : 3 ≤ 3))
  have q_follow := ok_rFollow (P := P) (w := w) (mg := mg) (base := base) F_reply_follow T U (Own.mk' g_place B_place_of_failure k_place_of_failure (PySem.W.mg_of X G a_place_of_failure) (by decide : 3 ≤ 3))
  have q_turn := ok_rTurn (P := P) (w := w) (mg := mg) (base := base) F_reply_turn (Own.mk' g_turn B_take_turn k_take_turn (PySem.W.mg_of X G a_take_turn) (by decide : 5 ≤ 5))
  have q_rounds := ok_rRounds (P := P) (w := w) (mg := mg) (base := base) F_reply_rounds T (Own.mk' g_rounds B_take_rounds k_take_rounds (PySem.W.mg_of X G a_take_rounds) (by decide : 7 ≤ 7))
  have q_belief := ok_rBelief (P := P) (w := w) (mg := mg) (base := base) F_reply_belief T (OwnM.mk' g_content B_Actor_is_content ⟨a_Actor_is_content, i_Actor_is_content, k_Actor_is_content⟩ (by decide : 2 ≤ 2))
  have q_state := ok_rState (P := P) (w := w) (mg := mg) (base := base) F_reply_state T
  have q_deeds := ok_rDeeds (P := P) (w := w) (mg := mg) (base := base) F_reply_deeds T
  have RR : Reps P w K mg base C_Deed C_Actor C_Story 8 d_REPLIES [(0, .ref f_reply_facts), (1, .ref f_reply_deed), (2, .ref f_reply_actor), (3, .ref f_reply_world), (4, .ref f_reply_tell), (5, .ref f_reply_goal), (6, .ref f_reply_plan), (7, .ref f_reply_far), (8, .ref f_reply_proof), (9, .ref f_reply_check), (10, .ref f_reply_follow), (11, .ref f_reply_turn), (12, .ref f_reply_rounds), (13, .ref f_reply_belief), (14, .ref f_reply_state), (15, .ref f_reply_deeds)] := by
    refine ⟨PySem.W.mg_of X G a_REPLIES, ⟨⟨_, _, _, l_REPLIES, ⟨rfl, rfl, rfl⟩, rfl, (.cons ⟨rfl, ⟨_, rfl⟩, rfl⟩ (.cons ⟨rfl, ⟨_, rfl⟩, rfl⟩ (.cons ⟨rfl, ⟨_, rfl⟩, rfl⟩ (.cons ⟨rfl, ⟨_, rfl⟩, rfl⟩ (.cons ⟨rfl, ⟨_, rfl⟩, rfl⟩ (.cons ⟨rfl, ⟨_, rfl⟩, rfl⟩ (.cons ⟨rfl, ⟨_, rfl⟩, rfl⟩ (.cons ⟨rfl, ⟨_, rfl⟩, rfl⟩ (.cons ⟨rfl, ⟨_, rfl⟩, rfl⟩ (.cons ⟨rfl, ⟨_, rfl⟩, rfl⟩ (.cons ⟨rfl, ⟨_, rfl⟩, rfl⟩ (.cons ⟨rfl, ⟨_, rfl⟩, rfl⟩ (.cons ⟨rfl, ⟨_, rfl⟩, rfl⟩ (.cons ⟨rfl, ⟨_, rfl⟩, rfl⟩ (.cons ⟨rfl, ⟨_, rfl⟩, rfl⟩ (.cons ⟨rfl, ⟨_, rfl⟩, rfl⟩ .nil))))))))))))))))⟩, nd16⟩, fun c hc => ?_⟩
    match c, hc with
    | 0, _ => exact ⟨_, rfl, _, q_facts.mono (by decide : 1 ≤ 8), k_reply_facts, B_reply_facts⟩
    | 1, _ => exact ⟨_, rfl, _, q_deed.mono (by decide : 3 ≤ 8), k_reply_deed, B_reply_deed⟩
    | 2, _ => exact ⟨_, rfl, _, q_actor.mono (by decide : 3 ≤ 8), k_reply_actor, B_reply_actor⟩
    | 3, _ => exact ⟨_, rfl, _, q_world.mono (by decide : 4 ≤ 8), k_reply_world, B_reply_world⟩
    | 4, _ => exact ⟨_, rfl, _, q_tell.mono (by decide : 1 ≤ 8), k_reply_tell, B_reply_tell⟩
    | 5, _ => exact ⟨_, rfl, _, q_goal.mono (by decide : 1 ≤ 8), k_reply_goal, B_reply_goal⟩
    | 6, _ => exact ⟨_, rfl, _, q_plan.mono (by decide : 5 ≤ 8), k_reply_plan, B_reply_plan⟩
    | 7, _ => exact ⟨_, rfl, _, q_far.mono (by decide : 5 ≤ 8), k_reply_far, B_reply_far⟩
    | 8, _ => exact ⟨_, rfl, _, q_proof.mono (by decide : 5 ≤ 8), k_reply_proof, B_reply_proof⟩
    | 9, _ => exact ⟨_, rfl, _, q_check.mono (by decide : 4 ≤ 8), k_reply_check, B_reply_check⟩
    | 10, _ => exact ⟨_, rfl, _, q_follow.mono (by decide : 4 ≤ 8), k_reply_follow, B_reply_follow⟩
    | 11, _ => exact ⟨_, rfl, _, q_turn.mono (by decide : 6 ≤ 8), k_reply_turn, B_reply_turn⟩
    | 12, _ => exact ⟨_, rfl, _, q_rounds.mono (by decide : 8 ≤ 8), k_reply_rounds, B_reply_rounds⟩
    | 13, _ => exact ⟨_, rfl, _, q_belief.mono (by decide : 3 ≤ 8), k_reply_belief, B_reply_belief⟩
    | 14, _ => exact ⟨_, rfl, _, q_state.mono (by decide : 1 ≤ 8), k_reply_state, B_reply_state⟩
    | 15, _ => exact ⟨_, rfl, _, q_deeds.mono (by decide : 1 ≤ 8), k_reply_deeds, B_reply_deeds⟩
    | n + 16, h => exact absurd h (by omega)
  have g_many := ok_many (P := P) (w := w) (mg := mg) (base := base) F_how_many_numbers T D
  have g_row := ok_hasRow (P := P) (w := w) (mg := mg) (base := base) F_has_row D
  have g_kind := ok_kindAt (P := P) (w := w) (mg := mg) (base := base) F_kind_at T D
  have g_least := ok_least (P := P) (w := w) (mg := mg) (base := base) F_least
  have g_above := ok_above (P := P) (w := w) (mg := mg) (base := base) F_above T U
  have g_inr := ok_inR (P := P) (w := w) (mg := mg) (base := base) F_all_in_range T (Own.mk' g_kind B_kind_at k_kind_at (PySem.W.mg_of X G a_kind_at) (by decide : 1 ≤ 1)) (Own.mk' g_least B_least k_least (PySem.W.mg_of X G a_least) (by decide : 1 ≤ 1)) (Own.mk' g_above B_above k_above (PySem.W.mg_of X G a_above) (by decide : 1 ≤ 1))
  have g_reply := ok_reply (P := P) (w := w) (mg := mg) (base := base) F_reply U RR (Own.mk' g_inr B_all_in_range k_all_in_range (PySem.W.mg_of X G a_all_in_range) (by decide : 2 ≤ 8))
  have g_story := ok_story (P := P) (w := w) (mg := mg) (base := base) F_Story_init T
  have g_ans := ok_answers (P := P) (w := w) (mg := mg) (base := base) F_answers T (OwnC.mk' g_story B_Story_init ⟨mk_Story, a_Story_init, i_Story_init, kc_Story⟩ (PySem.W.mg_of X G a_Story) (by decide : 1 ≤ 8)) (Own.mk' g_many B_how_many_numbers k_how_many_numbers (PySem.W.mg_of X G a_how_many_numbers) (by decide : 1 ≤ 9)) (Own.mk' g_row B_has_row k_has_row (PySem.W.mg_of X G a_has_row) (by decide : 1 ≤ 9)) (Own.mk' g_reply B_reply k_reply (PySem.W.mg_of X G a_reply) (by decide : 9 ≤ 9))
  exact g_ans.mono (by decide : 10 ≤ 20)
end Ap
open PySem PySem.W PyProof.Rows
set_option maxRecDepth 100000 in
set_option maxHeartbeats 0 in
theorem PySem.Challenge.cw_actorplans_s01_answers_holds : PySem.Challenge.rw_actorplans_s01_answers.Holds := by
  w_on; k_headS; (case hw => exact ⟨[.list [.int 14]], by decide +kernel, by decide +kernel⟩)
  k_fillS
  refine L2.walk_specK (r := PySem.Challenge.rw_actorplans_s01_answers) (k := 20) (CX := L2.CX0) (ps := ["calls"]) (sp := Ap.spAns) (fun a => a.1) (fun a => Codec.app PySem.Challenge.rw_actorplans_s01_answers.args PySem.Challenge.rw_actorplans_s01_answers.f a) (fun _ => rfl) (fun _ => rfl) (by decide +kernel) rfl ⟨rfl, by decide, by decide⟩ (fun w h Y => PySem.W.kIn_of Y) ?F ?S (fun _ _ _ _ z => z)
  case F =>
    intro w mg fa h Y KX G hmg
    refine' Ap.all_mk KX G hmg ?a_Deed ?a_Deed_init ?i_Deed_init ?l_Deed_init ?c_Deed_init ?k_Deed_init ?a_Deed_can_be_done ?i_Deed_can_be_done ?l_Deed_can_be_done ?c_Deed_can_be_done ?k_Deed_can_be_done ?a_Deed_brings ?i_Deed_brings ?l_Deed_brings ?c_Deed_brings ?k_Deed_brings ?pg_Deed ?hd_Deed ?po_Deed ?sa_Deed ?mk_Deed ?kc_Deed ?n_Deed_actor ?n_Deed_must ?n_Deed_must_not ?n_Deed_become ?n_Deed_cease ?a_Actor ?a_Actor_init ?i_Actor_init ?l_Actor_init ?c_Actor_init ?k_Actor_init ?a_Actor_learn ?i_Actor_learn ?l_Actor_learn ?c_Actor_learn ?k_Actor_learn ?a_Actor_look ?i_Actor_look ?l_Actor_look ?c_Actor_look ?k_Actor_look ?a_Actor_is_content ?i_Actor_is_content ?l_Actor_is_content ?c_Actor_is_content ?k_Actor_is_content ?pg_Actor ?hd_Actor ?po_Actor ?sa_Actor ?mk_Actor ?kc_Actor ?n_Actor_sees ?n_Actor_goal ?n_Actor_goal_not ?n_Actor_belief ?a_Story ?a_Story_init ?i_Story_init ?l_Story_init ?c_Story_init ?k_Story_init ?a_Story_set_world ?i_Story_set_world ?l_Story_set_world ?c_Story_set_world ?k_Story_set_world ?pg_Story ?hd_Story ?po_Story ?sa_Story ?mk_Story ?kc_Story ?n_Story_facts ?n_Story_world ?n_Story_actors ?n_Story_deeds ?a_how_many_numbers ?l_how_many_numbers ?c_how_many_numbers ?k_how_many_numbers ?a_has_row ?l_has_row ?c_has_row ?k_has_row ?a_kind_at ?l_kind_at ?c_kind_at ?k_kind_at ?a_least ?l_least ?c_least ?k_least ?a_above ?l_above ?c_above ?k_above ?a_all_in_range ?l_all_in_range ?c_all_in_range ?k_all_in_range ?a_deeds_of ?l_deeds_of ?c_deeds_of ?k_deeds_of ?a_ways_from ?l_ways_from ?c_ways_from ?k_ways_from ?a_plan_from ?l_plan_from ?c_plan_from ?k_plan_from ?a_proves ?l_proves ?c_proves ?k_proves ?a_place_of_failure ?l_place_of_failure ?c_place_of_failure ?k_place_of_failure ?a_holds ?l_holds ?c_holds ?k_holds ?a_take_turn ?l_take_turn ?c_take_turn ?k_take_turn ?a_take_round ?l_take_round ?c_take_round ?k_take_round ?a_take_rounds ?l_take_rounds ?c_take_rounds ?k_take_rounds ?a_reply_facts ?l_reply_facts ?c_reply_facts ?k_reply_facts ?a_reply_deed ?l_reply_deed ?c_reply_deed ?k_reply_deed ?a_reply_actor ?l_reply_actor ?c_reply_actor ?k_reply_actor ?a_reply_world ?l_reply_world ?c_reply_world ?k_reply_world ?a_reply_tell ?l_reply_tell ?c_reply_tell ?k_reply_tell ?a_reply_goal ?l_reply_goal ?c_reply_goal ?k_reply_goal ?a_reply_plan ?l_reply_plan ?c_reply_plan ?k_reply_plan ?a_reply_far ?l_reply_far ?c_reply_far ?k_reply_far ?a_reply_proof ?l_reply_proof ?c_reply_proof ?k_reply_proof ?a_reply_check ?l_reply_check ?c_reply_check ?k_reply_check ?a_reply_follow ?l_reply_follow ?c_reply_follow ?k_reply_follow ?a_reply_turn ?l_reply_turn ?c_reply_turn ?k_reply_turn ?a_reply_rounds ?l_reply_rounds ?c_reply_rounds ?k_reply_rounds ?a_reply_belief ?l_reply_belief ?c_reply_belief ?k_reply_belief ?a_reply_state ?l_reply_state ?c_reply_state ?k_reply_state ?a_reply_deeds ?l_reply_deeds ?c_reply_deeds ?k_reply_deeds ?a_reply ?l_reply ?c_reply ?k_reply ?a_answers ?l_answers ?c_answers ?k_answers ?a_KINDS ?l_KINDS ?l_KINDS_0 ?l_KINDS_1 ?l_KINDS_2 ?l_KINDS_3 ?l_KINDS_4 ?l_KINDS_5 ?l_KINDS_6 ?l_KINDS_7 ?l_KINDS_8 ?l_KINDS_9 ?l_KINDS_10 ?l_KINDS_11 ?l_KINDS_12 ?l_KINDS_13 ?l_KINDS_14 ?l_KINDS_15 ?a_ROWS ?l_ROWS ?v_MOST_FACTS ?v_MOST_ROUNDS ?v_CONTENT ?v_NO_PLAN ?v_DONE ?v_STOPPED ?v_NOT_IN_RANGE ?v_BOTH_WAYS ?v_NOT_THE_TIME ?v_NOT_SO ?v_NO_PLACE ?v_MOST_DEEDS ?v_MOST_ACTORS ?a_REPLIES ?l_REPLIES ?b_len ?b_enumerate ?b_range ?b_sorted ?s_ROWS
    (case a_Deed => k_is)
    (case a_Deed_init => k_is)
    (case i_Deed_init => k_is)
    (case l_Deed_init => k_is)
    (case c_Deed_init => k_is)
    (case k_Deed_init => k_is)
    (case a_Deed_can_be_done => k_is)
    (case i_Deed_can_be_done => k_is)
    (case l_Deed_can_be_done => k_is)
    (case c_Deed_can_be_done => k_is)
    (case k_Deed_can_be_done => k_is)
    (case a_Deed_brings => k_is)
    (case i_Deed_brings => k_is)
    (case l_Deed_brings => k_is)
    (case c_Deed_brings => k_is)
    (case k_Deed_brings => k_is)
    (case pg_Deed => k_is)
    (case hd_Deed => k_is)
    (case po_Deed => k_is)
    (case sa_Deed => k_is)
    (case mk_Deed => k_is)
    (case kc_Deed => k_is)
    (case n_Deed_actor => k_is)
    (case n_Deed_must => k_is)
    (case n_Deed_must_not => k_is)
    (case n_Deed_become => k_is)
    (case n_Deed_cease => k_is)
    (case a_Actor => k_is)
    (case a_Actor_init => k_is)
    (case i_Actor_init => k_is)
    (case l_Actor_init => k_is)
    (case c_Actor_init => k_is)
    (case k_Actor_init => k_is)
    (case a_Actor_learn => k_is)
    (case i_Actor_learn => k_is)
    (case l_Actor_learn => k_is)
    (case c_Actor_learn => k_is)
    (case k_Actor_learn => k_is)
    (case a_Actor_look => k_is)
    (case i_Actor_look => k_is)
    (case l_Actor_look => k_is)
    (case c_Actor_look => k_is)
    (case k_Actor_look => k_is)
    (case a_Actor_is_content => k_is)
    (case i_Actor_is_content => k_is)
    (case l_Actor_is_content => k_is)
    (case c_Actor_is_content => k_is)
    (case k_Actor_is_content => k_is)
    (case pg_Actor => k_is)
    (case hd_Actor => k_is)
    (case po_Actor => k_is)
    (case sa_Actor => k_is)
    (case mk_Actor => k_is)
    (case kc_Actor => k_is)
    (case n_Actor_sees => k_is)
    (case n_Actor_goal => k_is)
    (case n_Actor_goal_not => k_is)
    (case n_Actor_belief => k_is)
    (case a_Story => k_is)
    (case a_Story_init => k_is)
    (case i_Story_init => k_is)
    (case l_Story_init => k_is)
    (case c_Story_init => k_is)
    (case k_Story_init => k_is)
    (case a_Story_set_world => k_is)
    (case i_Story_set_world => k_is)
    (case l_Story_set_world => k_is)
    (case c_Story_set_world => k_is)
    (case k_Story_set_world => k_is)
    (case pg_Story => k_is)
    (case hd_Story => k_is)
    (case po_Story => k_is)
    (case sa_Story => k_is)
    (case mk_Story => k_is)
    (case kc_Story => k_is)
    (case n_Story_facts => k_is)
    (case n_Story_world => k_is)
    (case n_Story_actors => k_is)
    (case n_Story_deeds => k_is)
    (case a_how_many_numbers => k_is)
    (case l_how_many_numbers => k_is)
    (case c_how_many_numbers => k_is)
    (case k_how_many_numbers => k_is)
    (case a_has_row => k_is)
    (case l_has_row => k_is)
    (case c_has_row => k_is)
    (case k_has_row => k_is)
    (case a_kind_at => k_is)
    (case l_kind_at => k_is)
    (case c_kind_at => k_is)
    (case k_kind_at => k_is)
    (case a_least => k_is)
    (case l_least => k_is)
    (case c_least => k_is)
    (case k_least => k_is)
    (case a_above => k_is)
    (case l_above => k_is)
    (case c_above => k_is)
    (case k_above => k_is)
    (case a_all_in_range => k_is)
    (case l_all_in_range => k_is)
    (case c_all_in_range => k_is)
    (case k_all_in_range => k_is)
    (case a_deeds_of => k_is)
    (case l_deeds_of => k_is)
    (case c_deeds_of => k_is)
    (case k_deeds_of => k_is)
    (case a_ways_from => k_is)
    (case l_ways_from => k_is)
    (case c_ways_from => k_is)
    (case k_ways_from => k_is)
    (case a_plan_from => k_is)
    (case l_plan_from => k_is)
    (case c_plan_from => k_is)
    (case k_plan_from => k_is)
    (case a_proves => k_is)
    (case l_proves => k_is)
    (case c_proves => k_is)
    (case k_proves => k_is)
    (case a_place_of_failure => k_is)
    (case l_place_of_failure => k_is)
    (case c_place_of_failure => k_is)
    (case k_place_of_failure => k_is)
    (case a_holds => k_is)
    (case l_holds => k_is)
    (case c_holds => k_is)
    (case k_holds => k_is)
    (case a_take_turn => k_is)
    (case l_take_turn => k_is)
    (case c_take_turn => k_is)
    (case k_take_turn => k_is)
    (case a_take_round => k_is)
    (case l_take_round => k_is)
    (case c_take_round => k_is)
    (case k_take_round => k_is)
    (case a_take_rounds => k_is)
    (case l_take_rounds => k_is)
    (case c_take_rounds => k_is)
    (case k_take_rounds => k_is)
    (case a_reply_facts => k_is)
    (case l_reply_facts => k_is)
    (case c_reply_facts => k_is)
    (case k_reply_facts => k_is)
    (case a_reply_deed => k_is)
    (case l_reply_deed => k_is)
    (case c_reply_deed => k_is)
    (case k_reply_deed => k_is)
    (case a_reply_actor => k_is)
    (case l_reply_actor => k_is)
    (case c_reply_actor => k_is)
    (case k_reply_actor => k_is)
    (case a_reply_world => k_is)
    (case l_reply_world => k_is)
    (case c_reply_world => k_is)
    (case k_reply_world => k_is)
    (case a_reply_tell => k_is)
    (case l_reply_tell => k_is)
    (case c_reply_tell => k_is)
    (case k_reply_tell => k_is)
    (case a_reply_goal => k_is)
    (case l_reply_goal => k_is)
    (case c_reply_goal => k_is)
    (case k_reply_goal => k_is)
    (case a_reply_plan => k_is)
    (case l_reply_plan => k_is)
    (case c_reply_plan => k_is)
    (case k_reply_plan => k_is)
    (case a_reply_far => k_is)
    (case l_reply_far => k_is)
    (case c_reply_far => k_is)
    (case k_reply_far => k_is)
    (case a_reply_proof => k_is)
    (case l_reply_proof => k_is)
    (case c_reply_proof => k_is)
    (case k_reply_proof => k_is)
    (case a_reply_check => k_is)
    (case l_reply_check => k_is)
    (case c_reply_check => k_is)
    (case k_reply_check => k_is)
    (case a_reply_follow => k_is)
    (case l_reply_follow => k_is)
    (case c_reply_follow => k_is)
    (case k_reply_follow => k_is)
    (case a_reply_turn => k_is)
    (case l_reply_turn => k_is)
    (case c_reply_turn => k_is)
    (case k_reply_turn => k_is)
    (case a_reply_rounds => k_is)
    (case l_reply_rounds => k_is)
    (case c_reply_rounds => k_is)
    (case k_reply_rounds => k_is)
    (case a_reply_belief => k_is)
    (case l_reply_belief => k_is)
    (case c_reply_belief => k_is)
    (case k_reply_belief => k_is)
    (case a_reply_state => k_is)
    (case l_reply_state => k_is)
    (case c_reply_state => k_is)
    (case k_reply_state => k_is)
    (case a_reply_deeds => k_is)
    (case l_reply_deeds => k_is)
    (case c_reply_deeds => k_is)
    (case k_reply_deeds => k_is)
    (case a_reply => k_is)
    (case l_reply => k_is)
    (case c_reply => k_is)
    (case k_reply => k_is)
    (case a_answers => k_is)
    (case l_answers => k_is)
    (case c_answers => k_is)
    (case k_answers => k_is)
    (case a_KINDS => k_is)
    (case l_KINDS => k_is)
    (case l_KINDS_0 => k_is)
    (case l_KINDS_1 => k_is)
    (case l_KINDS_2 => k_is)
    (case l_KINDS_3 => k_is)
    (case l_KINDS_4 => k_is)
    (case l_KINDS_5 => k_is)
    (case l_KINDS_6 => k_is)
    (case l_KINDS_7 => k_is)
    (case l_KINDS_8 => k_is)
    (case l_KINDS_9 => k_is)
    (case l_KINDS_10 => k_is)
    (case l_KINDS_11 => k_is)
    (case l_KINDS_12 => k_is)
    (case l_KINDS_13 => k_is)
    (case l_KINDS_14 => k_is)
    (case l_KINDS_15 => k_is)
    (case a_ROWS => k_is)
    (case l_ROWS => k_is)
    (case v_MOST_FACTS => k_is)
    (case v_MOST_ROUNDS => k_is)
    (case v_CONTENT => k_is)
    (case v_NO_PLAN => k_is)
    (case v_DONE => k_is)
    (case v_STOPPED => k_is)
    (case v_NOT_IN_RANGE => k_is)
    (case v_BOTH_WAYS => k_is)
    (case v_NOT_THE_TIME => k_is)
    (case v_NOT_SO => k_is)
    (case v_NO_PLACE => k_is)
    (case v_MOST_DEEDS => k_is)
    (case v_MOST_ACTORS => k_is)
    (case a_REPLIES => k_is)
    (case l_REPLIES => k_is)
    (case b_len => k_is)
    (case b_enumerate => k_is)
    (case b_range => k_is)
    (case b_sorted => k_is)
    (case s_ROWS => first | rfl | decide | k_is)
  case S =>
    intro K H b a hwi hask hs
    have q : ((Codec.inLen 0 16000 a.1 && a.1.all (Codec.inInt (_root_.Int.negSucc 999999999999999999) (_root_.Int.ofNat 1000000000000000000))) && true) = true := hwi
    rw [Bool.and_eq_true, Bool.and_eq_true] at q
    exact ⟨_, a.1, rfl, hs, (Codec.inNat_iff.mp q.1.1).2, hask, fun H' p hp => ⟨_, rfl, L2.SqL.of hp⟩⟩
end
