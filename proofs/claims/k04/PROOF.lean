import PyProof.Rows.All
import Wide.All
import OpenK.AllK
import Wide.FinOn
import HandS.ExcInit
import HandS.ExcField
import HandS.ExcIs
import HandS.ForMost
import HandS.ForExc
import HandS.DictComp
import HandS.IsInst
import HandS.Walk
import HandS.Zip
import HandS.NoneIn
import HandS.TupAny
import HandS.Conv
import HandS.Style
import HandS.Ends
import HandS.OwnEq
import HandS.NamedTup0
import HandS.MakeKwOnly
import KE.KExcIs
import HandS.ExcValue
import KE.KEqDict
import HandS.TupMul
import HandS.Codes
import PySem.Challenge.RW_repeatnets_k04_closed_ways_looked_at
set_option Elab.async false
set_option linter.all false
set_option maxRecDepth 100000
set_option maxHeartbeats 4000000
namespace VL
open PySem PySem.W PySem.Calls PyProof.Rows PySem.HandSPX
/-- what stands above an error of a value -/
abbrev overV : List Value := [.type "ValueError", .type "Exception", .type "BaseException", .type "object"]
/-- a class of errors of values, as it lies in the heap -/
structure Lies (h : Heap) (C : Addr) (up : List Value) : Prop where
  all : ∀ X : String, up.contains (.type X) = overV.contains (.type X)
  at_ : ∃ (nm q : Str) (N : Addr) (bs : List Value) (hd : Bool) (sn : List Str) (sub : List Value) (ab : Bool) (col : Option Bool) (dd : Option Addr) (k0 k1 k2 k3 k5 : Option Value),
    h.get? C = some (excClassObj nm q C N bs up hd sn sub ab col dd k0 k1 k2 k3 k5 "ValueError.__new__")
theorem Lies.has {h : Heap} {C : Addr} {up : List Value} (l : Lies h C up) {T : String} {b : Bool} (e : overV.contains (.type T) = b) : (.ref C :: up : List Value).contains (.type T) = b := by
  rw [← e, ← l.all T]
  rfl
theorem Lies.self {C : Addr} {up : List Value} : (.ref C :: up : List Value).contains (.ref C) = true := List.contains_iff_mem.mpr List.mem_cons_self
section
variable {P : Program} {w : World} {a : Around} {x : Value → Shared → Prop} {H : Heap} {gs : Array GenState} {dr : Drawn} {tk : Nat} {o : OsState}
variable {C : Addr} {up : List Value} {kw : List (Str × Value)}
/-- names may be told: the class's own making looks at none of them -/
theorem Lies.asked (l : Lies H C up) {k : Unit → Shared → Prop} (z : k () ⟨H, gs, dr, tk, o⟩) : wpAny (model P w) a (checkBuiltinCall "ValueError.__new__" ⟨[.ref C], kw⟩) k x ⟨H, gs, dr, tk, o⟩ := by
  obtain ⟨_, _, _, _, _, _, _, _, _, _, _, _, _, _, _, at_⟩ := l.at_
  have v := l.has (T := "ValueError") (b := true) (by decide +kernel)
  have V := PySem.F.excBase_ValueError
  have star := V.noStar
  unfold checkBuiltinCall
  simp only [V.newRow, V.newSplit, V.newKind]
  repeat
    first
    | refine wpAny_madeBy_exc at_ ?_
    | refine wpAny_staticBase_exc at_ ?_
    | refine wpAny_loadPart_at at_ ?_
    | (refine wpAny_isSubtype_exc at_ ?_; rw [v])
    | simp only [Bool.false_eq_true, bne_self_eq_false, if_false]
    | wp_step
  exact z
/-- the heap with a bare error of the class at its end, its things told by place -/
abbrev bareL (H : Heap) (us : List Value) (C : Addr) : Heap := (H.push (W.kdv_tup us)).push (excO C H.objs.size)
abbrev bare (H : Heap) (C : Addr) : Heap := bareL H [] C
theorem bare_old {us : List Value} {b : Addr} {u : Obj} (e : H.get? b = some u) : (bareL H us C).get? b = some u := by
  have e1 : (H.push (W.kdv_tup us)).get? b = some u := Heap.get?_push_of_some _ e
  exact Heap.get?_push_of_some _ e1
theorem bare_me {us : List Value} : (bareL H us C).get? (H.objs.size + 1) = some (excO C H.objs.size) := by
  unfold bareL
  heap_get
theorem Lies.born (l : Lies H C up) {R : Result → Shared → Prop} (z : R (.ok (.ret (.ref (H.objs.size + 1)))) ⟨bare H C, gs, dr, tk, o⟩) :
    codeAny (model P w) a (.builtin "ValueError.__new__" ⟨[.ref C], kw⟩) R ⟨H, gs, dr, tk, o⟩ := by
  obtain ⟨_, _, _, _, _, _, _, _, _, _, _, _, _, _, _, at_⟩ := l.at_
  have v1 := l.has (T := "ValueError") (b := true) (by decide +kernel)
  have v2 := l.has (T := "AttributeError") (b := false) (by decide +kernel)
  have v3 := l.has (T := "NameError") (b := false) (by decide +kernel)
  have V := PySem.F.excBase_ValueError
  have ends := V.ends
  have small : ([] : List Value).length ≤ sizeLine := Nat.zero_le _
  apply codeAny_builtinAt V.entry
  delta Builtin.«BaseException.__new__»
  refine PySem.wpAt_bind ?_
  change PySem.wpAt _ _ _ (stack >>= _) _ _ _
  refine PySem.wpAt_bind ?_
  refine PySem.wpAt_stack ?_
  intro p below
  refine PySem.wpAt_of_wpAny ?_
  wp_walk
  refine PySem.wpAt_of_wpAny ?_
  rw [V.owner]
  repeat
    first
    | with_reducible refine wpAny_loadPart_at at_ ?_
    | with_reducible refine wpAny_madeHere_exc V.canon at_ ?_
    | (with_reducible refine wpAny_isSubtype_exc at_ ?_; first | rw [v1] | rw [v2] | rw [v3])
    | wp_step
  have e : (H.push (W.kdv_tup [])).objs.size = H.objs.size + 1 := Heap.size_push ..
  show R (.ok (.ret (.ref (H.push (W.kdv_tup [])).objs.size))) _
  rw [e]
  exact z
/-- type's own __call__: made bare, then the class's __init__ with the names -/
theorem Lies.typed (l : Lies H C up) {i : Addr} {k : Fin → Shared → Prop} (iL : W.Looks (model P w) H (typeLookup (.ref C) "__init__") (some (.ref i))) (iB : ∀ v, W.Looks (model P w) H (bindSpecial (.ref i) v) (.ref i, [v]))
    (z : codeAny (model P w) a (.call (.ref i) ⟨[.ref (H.objs.size + 1)], kw⟩) (W.InitBack (H.objs.size + 1) fun r s => match r with
      | .ok f => k (.done f) s
      | .error e => x e s) ⟨bare H C, gs, dr, tk, o⟩) :
    wpAny (model P w) a (Builtin.«type.__call__» ⟨[.ref C], kw⟩) k x ⟨H, gs, dr, tk, o⟩ := by
  obtain ⟨_, _, _, _, _, _, _, _, _, _, _, _, _, _, _, at_⟩ := l.at_
  have V := PySem.F.excBase_ValueError
  repeat
    first
    | with_reducible refine wpAny_madeBy_exc at_ ?_
    | with_reducible refine wpAny_loadPart_at at_ ?_
    | wp_step
  apply codeAny_call_builtin_code (Code.quiet_builtin _ V.quiet) (l.asked ?_)
  apply l.born
  have up1 : ∀ b u, H.get? b = some u → (bare H C).get? b = some u := fun _ _ => bare_old
  have at1 := up1 _ _ at_
  have me := bare_me (H := H) (us := []) (C := C)
  have iL1 := iL.keeps up1
  have iB1 := (iB (.ref (H.objs.size + 1))).keeps up1
  change wpAny _ _ _ _ _ _
  unfold isInstance
  repeat
    first
    | with_reducible refine wpAny_loadPart_at me ?_
    | (with_reducible refine wpAny_isSubtype_exc at1 ?_; rw [Lies.self])
    | wp_step
  change wpAny _ _ (typeLookup _ "__init__") _ _ _
  apply iL1.at
  refine wpAny_holding (wpAny_bind ?_)
  apply iB1.at
  apply wpAny_bind
  apply wpAny_call
  refine codeAny_mono z ?_
  intro r s q
  cases r with
  | error e => exact q
  | ok f =>
    cases f with
    | ret v =>
      obtain ⟨rfl, q⟩ := q
      wp_walk
      exact q
    | _ => exact q.elim
/-- C(name=thing) -/
theorem Lies.called (l : Lies H C up) {i : Addr} {R : Result → Shared → Prop} (iL : W.Looks (model P w) H (typeLookup (.ref C) "__init__") (some (.ref i))) (iB : ∀ v, W.Looks (model P w) H (bindSpecial (.ref i) v) (.ref i, [v]))
    (z : codeAny (model P w) (a.under (.builtin "type.__call__" ⟨[.ref C], kw⟩)) (.call (.ref i) ⟨[.ref (H.objs.size + 1)], kw⟩) (W.InitBack (H.objs.size + 1) R) ⟨bare H C, gs, dr, tk, o⟩) :
    codeAny (model P w) a (.call (.ref C) ⟨[], kw⟩) R ⟨H, gs, dr, tk, o⟩ := by
  have l' := l
  obtain ⟨_, _, _, _, _, _, _, _, _, _, _, _, _, _, _, at_⟩ := l'.at_
  have ty : (⟨H, gs, dr, tk, o⟩ : Shared).TypeIs (.ref C) "type" := ⟨_, at_, rfl⟩
  have tl := tc_lookup
  have tb := tc_bind (.ref C)
  apply codeAny_of_tree
  change wpAny _ _ (callAny (.ref C) ⟨[], kw⟩) _ _ _
  repeat
    any_goals
      first
      | assumption
      | with_reducible refine wpAny_loadPart_at at_ ?_
      | wp_step
  refine ⟨rfl, codeAny_call_builtin_at (Code.quiet_builtin _ (by decide +kernel)) entry_typeCall (wpAny_check_type_call_sub at_ (l.typed iL iB ?_))⟩
  refine codeAny_mono z ?_
  intro r s q
  cases r with
  | error e => exact q
  | ok f => cases f <;> exact q
/-- C(thing) or C(name=thing) -/
theorem Lies.either (l : Lies H C up) {us : List Value} (one : us.length ≤ 1) (or : kw = [] ∨ us = []) {i : Addr} {R : Result → Shared → Prop} (iL : W.Looks (model P w) H (typeLookup (.ref C) "__init__") (some (.ref i))) (iB : ∀ v, W.Looks (model P w) H (bindSpecial (.ref i) v) (.ref i, [v]))
    (z : codeAny (model P w) (a.under (.builtin "type.__call__" ⟨.ref C :: us, kw⟩)) (.call (.ref i) ⟨.ref (H.objs.size + 1) :: us, kw⟩) (W.InitBack (H.objs.size + 1) R) ⟨bareL H us C, gs, dr, tk, o⟩) :
    codeAny (model P w) a (.call (.ref C) ⟨us, kw⟩) R ⟨H, gs, dr, tk, o⟩ := by
  rcases or with rfl | rfl
  · obtain ⟨_, _, _, _, _, _, _, _, _, _, _, _, _, _, _, at_⟩ := l.at_
    exact call_own PySem.F.excBase_ValueError l.all at_ iL iB (by rw [sizeLine_eq]; omega) z
  · exact l.called iL iB z
end
end VL

/-! VL: values as trees over the hand layer: what a def computes as a plain function of trees and of few changing objects. -/
namespace VL
open PySem PySem.Spec PyProof.Rows L2
abbrev Sl := L2.St
/-- the classes of the text, by numbers -/
abbrev Cn := Nat → Addr

/-- a value: a tree that stands still, or a changing object by its number -/
inductive D where
  | non | bl (b : Bool) | int (i : Int) | str (s : Str)
  | lst (xs : List D) | tup (xs : List D)
  | dct (ks : List Key) (vs : List D)
  | obj (c : Nat) (ns : List Str) (vs : List D)
  | scr (xs : List Int)
  | ref (n : Nat)
  | ty (n : String) | cls (c : Nat)
  | exc (c : Nat) (ns : List Str) (vs : List D)

/-- a changing object -/
inductive MO where
  | lst (xs : List D)
  | dct (ks : List Key) (vs : List D)
  | dctL (ks : List Key) (vs : List D)
  | lstL (xs : List D)
  | obj (c : Nat) (ns : List Str) (vs : List D)

abbrev VH := List (Option MO)
abbrev Rho := List (Option D)

mutual
inductive Rep (cl : Cn) (F : Hp) (m : List Addr) : V → D → Prop
  | non : Rep cl F m .non .non
  | bl (b : Bool) : Rep cl F m (.bl b) (.bl b)
  | int (i : Int) : Rep cl F m (.int i) (.int i)
  | str (s : Str) : Rep cl F m (.str s) (.str s)
  | lst {a : Addr} {us : List V} {ds : List D} : F a = some (.lst us) → Reps cl F m us ds → Rep cl F m (.ref a) (.lst ds)
  | tup {a : Addr} {us : List V} {ds : List D} : F a = some (.tup us) → Reps cl F m us ds → Rep cl F m (.ref a) (.tup ds)
  | dct {a : Addr} {kvs : List (Key × V)} {ds : List D} : F a = some (.dK kvs) → Reps cl F m (kvs.map (·.2)) ds → Rep cl F m (.ref a) (.dct (kvs.map (·.1)) ds)
  | obj {a dx : Addr} {c : Nat} {fs : List (Str × V)} {ds : List D} : F a = some (.ins (cl c) dx fs) → Reps cl F m (fs.map (·.2)) ds → Rep cl F m (.ref a) (.obj c (fs.map (·.1)) ds)
  | scr {a : Addr} {o : Obj} {ns : List Int} : F a = some (.frz o (.lst (ns.map V.int))) → Rep cl F m (.ref a) (.scr ns)
  | ref {n : Nat} {a : Addr} : m[n]? = some a → Rep cl F m (.ref a) (.ref n)
  | ty (n : String) : Rep cl F m (.ty n) (.ty n)
  | cls (c : Nat) : Rep cl F m (.ref (cl c)) (.cls c)
  | exc {a dx : Addr} {c : Nat} {fs : List (Str × V)} {ds : List D} : F a = some (exo a (cl c) (some dx)) → F dx = some (exd dx fs) → Reps cl F m (fs.map (·.2)) ds → Rep cl F m (.ref a) (.exc c (fs.map (·.1)) ds)
  | exc0 {a : Addr} {c : Nat} : F a = some (exo a (cl c) none) → Rep cl F m (.ref a) (.exc c [] [])
inductive Reps (cl : Cn) (F : Hp) (m : List Addr) : List V → List D → Prop
  | nil : Reps cl F m [] []
  | cons {v : V} {vs : List V} {d : D} {ds : List D} : Rep cl F m v d → Reps cl F m vs ds → Reps cl F m (v :: vs) (d :: ds)
end

section
variable {cl : Cn} {K : PySem.W.Frag} {F F' F1 F2 : Hp} {m m' m1 m2 : List Addr} {H H' H1 H2 : Hp}

theorem Reps.length : ∀ {vs : List V} {ds : List D}, Reps cl F m vs ds → vs.length = ds.length
  | _, _, .nil => rfl
  | _, _, .cons _ t => by simp [Reps.length t]
theorem Reps.get : ∀ {vs : List V} {ds : List D} {i : Nat} {d : D}, Reps cl F m vs ds → ds[i]? = some d → ∃ v, vs[i]? = some v ∧ Rep cl F m v d
  | _, _, _, _, .nil, e => by simp at e
  | _, _, 0, _, .cons r _, e => by simp at e; subst e; exact ⟨_, rfl, r⟩
  | _, _, i + 1, d, .cons _ t, e => by
    obtain ⟨u, h1, h2⟩ := Reps.get (i := i) (d := d) t (by simpa using e)
    exact ⟨u, by simpa using h1, h2⟩
theorem Reps.get' : ∀ {vs : List V} {ds : List D} {i : Nat} {v : V}, Reps cl F m vs ds → vs[i]? = some v → ∃ d, ds[i]? = some d ∧ Rep cl F m v d
  | _, _, _, _, .nil, e => by simp at e
  | _, _, 0, _, .cons r _, e => by simp at e; subst e; exact ⟨_, rfl, r⟩
  | _, _, i + 1, d, .cons _ t, e => by
    obtain ⟨u, h1, h2⟩ := Reps.get' (i := i) (v := d) t (by simpa using e)
    exact ⟨u, by simpa using h1, h2⟩
theorem Reps.append : ∀ {vs us : List V} {ds es : List D}, Reps cl F m vs ds → Reps cl F m us es → Reps cl F m (vs ++ us) (ds ++ es)
  | _, _, _, _, .nil, s => s
  | _, _, _, _, .cons r t, s => .cons r (Reps.append t s)
theorem Reps.take : ∀ {vs : List V} {ds : List D} (n : Nat), Reps cl F m vs ds → Reps cl F m (vs.take n) (ds.take n)
  | _, _, 0, _ => .nil
  | _, _, _ + 1, .nil => .nil
  | _, _, n + 1, .cons r t => .cons r (Reps.take n t)
theorem Reps.drop : ∀ {vs : List V} {ds : List D} (n : Nat), Reps cl F m vs ds → Reps cl F m (vs.drop n) (ds.drop n)
  | _, _, 0, r => r
  | _, _, _ + 1, .nil => .nil
  | _, _, n + 1, .cons _ t => Reps.drop n t
theorem Reps.set {v : V} {d : D} (r : Rep cl F m v d) : ∀ {vs : List V} {ds : List D} (i : Nat), Reps cl F m vs ds → Reps cl F m (vs.set i v) (ds.set i d)
  | _, _, _, .nil => .nil
  | _, _, 0, .cons _ t => .cons r t
  | _, _, i + 1, .cons q t => .cons q (Reps.set r i t)
theorem Reps.eraseIdx : ∀ {vs : List V} {ds : List D} (i : Nat), Reps cl F m vs ds → Reps cl F m (vs.eraseIdx i) (ds.eraseIdx i)
  | _, _, _, .nil => .nil
  | _, _, 0, .cons _ t => t
  | _, _, i + 1, .cons q t => .cons q (Reps.eraseIdx i t)
theorem Reps.reverse : ∀ {vs : List V} {ds : List D}, Reps cl F m vs ds → Reps cl F m vs.reverse ds.reverse
  | _, _, .nil => .nil
  | _, _, .cons r t => by simpa using Reps.append (Reps.reverse t) (.cons r .nil)
theorem Reps.ints : ∀ {vs : List V} {ns : List Int}, Reps cl F m vs (ns.map D.int) → vs = ns.map V.int
  | _, [], .nil => rfl
  | _, n :: ns, .cons r t => by cases r; rw [Reps.ints t]; rfl
theorem Reps.of_ints : ∀ (ns : List Int), Reps cl F m (ns.map V.int) (ns.map D.int)
  | [] => .nil
  | n :: ns => .cons (.int n) (Reps.of_ints ns)
theorem Reps.bls : ∀ {vs : List V} {ns : List Bool}, Reps cl F m vs (ns.map D.bl) → vs = ns.map V.bl
  | _, [], .nil => rfl
  | _, n :: ns, .cons r t => by cases r; rw [Reps.bls t]; rfl
theorem Reps.strs : ∀ {vs : List V} {ns : List Str}, Reps cl F m vs (ns.map D.str) → vs = ns.map V.str
  | _, [], .nil => rfl
  | _, n :: ns, .cons r t => by cases r; rw [Reps.strs t]; rfl
theorem Reps.of_strs : ∀ (ns : List Str), Reps cl F m (ns.map V.str) (ns.map D.str)
  | [] => .nil
  | n :: ns => .cons (.str n) (Reps.of_strs ns)

/-- the ground has grown -/
structure Gr (F : Hp) (m : List Addr) (F' : Hp) (m' : List Addr) : Prop where
  ext : ∀ a o, F a = some o → F' a = some o
  pre : ∀ (n : Nat) a, m[n]? = some a → m'[n]? = some a
theorem Gr.refl : Gr F m F m := ⟨fun _ _ h => h, fun _ _ h => h⟩
theorem Gr.trans (g : Gr F m F1 m1) (g' : Gr F1 m1 F2 m2) : Gr F m F2 m2 := ⟨fun a o h => g'.ext a o (g.ext a o h), fun n a h => g'.pre n a (g.pre n a h)⟩
mutual
theorem Rep.mono (g : Gr F m F' m') : ∀ {v : V} {d : D}, Rep cl F m v d → Rep cl F' m' v d
  | _, _, .non => .non
  | _, _, .bl b => .bl b
  | _, _, .int b => .int b
  | _, _, .str b => .str b
  | _, _, .lst h r => .lst (g.ext _ _ h) (r.mono g)
  | _, _, .tup h r => .tup (g.ext _ _ h) (r.mono g)
  | _, _, .dct h r => .dct (g.ext _ _ h) (r.mono g)
  | _, _, .obj h r => .obj (g.ext _ _ h) (r.mono g)
  | _, _, .scr h => .scr (g.ext _ _ h)
  | _, _, .ref h => .ref (g.pre _ _ h)
  | _, _, .ty n => .ty n
  | _, _, .cls n => .cls n
  | _, _, .exc h h2 r => .exc (g.ext _ _ h) (g.ext _ _ h2) (r.mono g)
  | _, _, .exc0 h => .exc0 (g.ext _ _ h)
theorem Reps.mono (g : Gr F m F' m') : ∀ {v : List V} {d : List D}, Reps cl F m v d → Reps cl F' m' v d
  | _, _, .nil => .nil
  | _, _, .cons r t => .cons (r.mono g) (t.mono g)
end

/-- a changing object as it stands at a -/
def RepO (cl : Cn) (F : Hp) (m : List Addr) (H : Hp) (a : Addr) : MO → Prop
  | .lst ds => ∃ us, H a = some (.lst us) ∧ Reps cl F m us ds
  | .dct ks ds => ∃ kvs : List (Key × V), H a = some (.dK kvs) ∧ kvs.map (·.1) = ks ∧ Reps cl F m (kvs.map (·.2)) ds
  | .lstL ds => ∃ ob, ∃ us, H a = some (.frz ob (.lst us)) ∧ Reps cl F m us ds
  | .dctL ks ds => ∃ ob, ∃ kvs : List (Key × V), H a = some (.frz ob (.dK kvs)) ∧ kvs.map (·.1) = ks ∧ Reps cl F m (kvs.map (·.2)) ds
  | .obj C ns ds => ∃ dx fs, H a = some (.ins (cl C) dx fs) ∧ fs.map (·.1) = ns ∧ Reps cl F m (fs.map (·.2)) ds

/-- the world: the ground F stands in H, the changing objects are as vh says -/
structure Wd (cl : Cn) (F : Hp) (m : List Addr) (vh : VH) (H : Hp) : Prop where
  ext0 : ∀ a o, F a = some o → H a = some o ∨ ∃ ob kvs, o = .dK kvs ∧ H a = some (.frz ob o)
  len : m.length = vh.length
  nd : m.Nodup
  used : ∀ a, a ∈ m → H a ≠ none
  live : ∀ (n : Nat) (a : Addr) (o : MO), m[n]? = some a → vh[n]? = some (some o) → F a = none ∧ RepO cl F m H a o

theorem Wd.ext {vh : VH} (w : Wd cl F m vh H) (a : Addr) (o : HO) (h : F a = some o) (hd : ∀ kvs, o ≠ .dK kvs := by intro kvs z; cases z) : H a = some o :=
  (w.ext0 a o h).elim (fun h => h) fun ⟨_, kvs, e, _⟩ => absurd e (hd kvs)
theorem Wd.there {vh : VH} (w : Wd cl F m vh H) {a : Addr} {o : HO} (h : F a = some o) : H a ≠ none :=
  (w.ext0 a o h).elim (fun h z => by rw [h] at z; cases z) fun ⟨_, _, _, h⟩ z => by rw [h] at z; cases z
theorem Wd.freeF {vh : VH} (w : Wd cl F m vh H) {p : Addr} (hp : H p = none) : F p = none := by
  cases e : F p with
  | none => rfl
  | some u => exact absurd hp (w.there e)
/-- what has become of the world -/
structure Post (F : Hp) (m : List Addr) (H : Hp) (F' : Hp) (m' : List Addr) (H' : Hp) : Prop where
  gr : Gr F m F' m'
  fr : ∀ a o, H a = some o → a ∉ m → H' a = some o ∧ F' a = F a ∧ a ∉ m'
  frz : ∀ a o u, H a = some (.frz o u) → H' a = some (.frz o u)
theorem Post.refl : Post F m H F m H := ⟨.refl, fun _ _ h n => ⟨h, rfl, n⟩, fun _ _ _ h => h⟩
theorem Post.trans (p : Post F m H F1 m1 H1) (q : Post F1 m1 H1 F2 m2 H2) : Post F m H F2 m2 H2 :=
  ⟨p.gr.trans q.gr, fun a o h n => by
    obtain ⟨h1, e1, n1⟩ := p.fr a o h n
    obtain ⟨h2, e2, n2⟩ := q.fr a o h1 n1
    exact ⟨h2, e2.trans e1, n2⟩, fun a o u h => q.frz a o u (p.frz a o u h)⟩

theorem RepO.mono {a : Addr} {o : MO} (r : RepO cl F m H a o) (p : Post F m H F' m' H') (hH : H' a = H a) : RepO cl F' m' H' a o := by
  cases o with
  | lst ds =>
    obtain ⟨us, h, rs⟩ := r
    exact ⟨us, hH.trans h, rs.mono p.gr⟩
  | dct ks ds =>
    obtain ⟨kvs, h, e, rs⟩ := r
    exact ⟨kvs, hH.trans h, e, rs.mono p.gr⟩
  | lstL ds =>
    obtain ⟨ob, us, h, rs⟩ := r
    exact ⟨ob, us, hH.trans h, rs.mono p.gr⟩
  | dctL ks ds =>
    obtain ⟨ob, kvs, h, e, rs⟩ := r
    exact ⟨ob, kvs, hH.trans h, e, rs.mono p.gr⟩
  | obj C ns ds =>
    obtain ⟨dx, fs, h, e, rs⟩ := r
    exact ⟨dx, fs, hH.trans h, e, rs.mono p.gr⟩

/-- a run that must come to an end -/
abbrev M (α : Type) := VH → Option (α × VH)
def ret {α : Type} (a : α) : M α := fun vh => some (a, vh)
def fail {α : Type} : M α := fun _ => none
def bind {α β : Type} (c : M α) (k : α → M β) : M β := fun vh => match c vh with
  | some (a, vh') => k a vh'
  | none => none
/-- what is wanted behind -/
abbrev Kn (α : Type) := Hp → List Addr → VH → Hp → α → Prop
def Run {α : Type} (cl : Cn) (F : Hp) (m : List Addr) (H : Hp) (r : Option (α × VH)) (k : Kn α) : Prop := match r with
  | none => False
  | some (a, vh') => ∀ F' m' H', Post F m H F' m' H' → Wd cl F' m' vh' H' → k F' m' vh' H' a

theorem Run.mono {α : Type} {r : Option (α × VH)} {k k' : Kn α} (h : Run cl F m H r k) (hk : ∀ F' m' vh' H' a, Post F m H F' m' H' → Wd cl F' m' vh' H' → k F' m' vh' H' a → k' F' m' vh' H' a) : Run cl F m H r k' := by
  cases r with
  | none => exact h
  | some p =>
    obtain ⟨a, vh'⟩ := p
    exact fun F' m' H' p w => hk F' m' vh' H' a p w (h F' m' H' p w)
theorem Run.pre {α : Type} {r : Option (α × VH)} {k : Kn α} (h : Run cl F m H r k) (p : Post F m H F1 m1 H1) : Run cl F1 m1 H1 r k := by
  cases r with
  | none => exact h
  | some q =>
    obtain ⟨a, vh'⟩ := q
    exact fun F' m' H' q w => h F' m' H' (p.trans q) w
theorem Run.bind {α β : Type} {c : M α} {g : α → M β} {vh : VH} {k : Kn β} (h : Run cl F m H (VL.bind c g vh) k) :
    Run cl F m H (c vh) (fun F1 m1 vh1 H1 a => Run cl F1 m1 H1 (g a vh1) k) := by
  unfold VL.bind at h
  cases e : c vh with
  | none =>
    rw [e] at h
    exact h
  | some p =>
    obtain ⟨a, vh1⟩ := p
    rw [e] at h
    intro F1 m1 H1 p w
    exact Run.pre h p
theorem Run.ret {α : Type} {a : α} {vh : VH} {k : Kn α} (h : Run cl F m H (VL.ret a vh) k) (w : Wd cl F m vh H) : k F m vh H a := h F m H .refl w
theorem Run.fail {α : Type} {vh : VH} {k : Kn α} (h : Run cl F m H (VL.fail vh) k) : False := h

/-- the slots -/
structure RS (cl : Cn) (F : Hp) (m : List Addr) (σ : Sl) (ρ : Rho) : Prop where
  len : σ.length = ρ.length
  at_ : ∀ (i : Nat) d, ρ[i]? = some (some d) → ∃ v, σ[i]? = some (some v) ∧ Rep cl F m v d
theorem RS.mono {σ : Sl} {ρ : Rho} (r : RS cl F m σ ρ) (g : Gr F m F' m') : RS cl F' m' σ ρ := ⟨r.len, fun i d h => let ⟨v, e, q⟩ := r.at_ i d h; ⟨v, e, q.mono g⟩⟩
theorem RS.set {σ : Sl} {ρ : Rho} (r : RS cl F m σ ρ) {v : V} {d : D} (q : Rep cl F m v d) (i : Nat) : RS cl F m (σ.set i (some v)) (ρ.set i (some d)) := by
  refine ⟨by simp [r.len], fun j e h => ?_⟩
  by_cases hj : i = j
  · subst hj
    have hl : i < ρ.length := by
      have := (List.getElem?_eq_some_iff.mp h).1
      simpa using this
    rw [List.getElem?_set_self hl] at h
    cases h
    exact ⟨v, List.getElem?_set_self (by rw [r.len]; exact hl), q⟩
  · rw [List.getElem?_set_ne hj] at h
    obtain ⟨u, e1, q1⟩ := r.at_ j e h
    exact ⟨u, by rw [List.getElem?_set_ne hj]; exact e1, q1⟩
theorem RS.forget {σ : Sl} {ρ : Rho} (r : RS cl F m σ ρ) (i : Nat) : RS cl F m σ (ρ.set i none) := by
  refine ⟨by simp [r.len], fun j e h => ?_⟩
  by_cases hj : i = j
  · subst hj
    have hl : i < ρ.length := by
      have := (List.getElem?_eq_some_iff.mp h).1
      simpa using this
    rw [List.getElem?_set_self hl] at h
    cases h
  · rw [List.getElem?_set_ne hj] at h
    exact r.at_ j e h

/-! ### new objects -/
theorem Wd.frozen {vh : VH} {p : Addr} {o : HO} (w : Wd cl F m vh H) (hp : H p = none) : Wd cl (upd F p o) m vh (upd H p o) ∧ Post F m H (upd F p o) m (upd H p o) := by
  have hF : F p = none := w.freeF hp
  have hm : p ∉ m := fun h => w.used p h hp
  have P : Post F m H (upd F p o) m (upd H p o) := by
    refine ⟨⟨fun a u e => by rw [upd_ne (ne_of_none e hF)]; exact e, fun _ _ h => h⟩, fun a u e n => ?_, fun a o u e => by rw [upd_ne (ne_of_none e hp)]; exact e⟩
    have := ne_of_none e hp
    exact ⟨by rw [upd_ne this]; exact e, by rw [upd_ne this], n⟩
  refine ⟨⟨fun a u e => ?_, w.len, w.nd, fun a h => ?_, fun n a mo h1 h2 => ?_⟩, P⟩
  · by_cases h : a = p
    · subst h
      rw [upd_same] at e ⊢
      exact Or.inl e
    · rw [upd_ne h] at e ⊢
      exact w.ext0 _ _ e
  · have : a ≠ p := fun e => by subst e; exact hm h
    rw [upd_ne this]
    exact w.used a h
  · obtain ⟨h3, h4⟩ := w.live n a mo h1 h2
    have hne : a ≠ p := fun e => by subst e; exact hm (List.mem_of_getElem? h1)
    refine ⟨by rw [upd_ne hne]; exact h3, h4.mono P (by rw [upd_ne hne])⟩
theorem Run.frozen {α : Type} {a : α} {vh : VH} {k : Kn α} {p : Addr} {o : HO} (h : Run cl F m H (VL.ret a vh) k) (w : Wd cl F m vh H) (hp : H p = none) : k (upd F p o) m vh (upd H p o) a :=
  h _ _ _ (w.frozen hp).2 (w.frozen hp).1

theorem nodup_snoc {m : List Addr} {p : Addr} (h : m.Nodup) (hp : p ∉ m) : (m ++ [p]).Nodup := by
  rw [List.nodup_append]
  refine ⟨h, by simp, fun a ha b hb => ?_⟩
  simp at hb
  subst hb
  exact fun e => hp (e ▸ ha)

/-- a new changing object -/
theorem Wd.grown {vh : VH} {p : Addr} {u : HO} {o : MO} (w : Wd cl F m vh H) (hp : H p = none)
    (hr : Post F m H F (m ++ [p]) (upd H p u) → RepO cl F (m ++ [p]) (upd H p u) p o) : Wd cl F (m ++ [p]) (vh ++ [some o]) (upd H p u) ∧ Post F m H F (m ++ [p]) (upd H p u) := by
  have hF : F p = none := w.freeF hp
  have hm : p ∉ m := fun h => w.used p h hp
  have P : Post F m H F (m ++ [p]) (upd H p u) := by
    refine ⟨⟨fun a u e => e, fun n a h => ?_⟩, fun a u e n => ?_, fun a o u e => by rw [upd_ne (ne_of_none e hp)]; exact e⟩
    · rw [List.getElem?_append_left (List.getElem?_eq_some_iff.mp h).1]
      exact h
    · have := ne_of_none e hp
      exact ⟨by rw [upd_ne this]; exact e, rfl, by simp [n, this]⟩
  refine ⟨⟨fun a v e => ?_, by simp [w.len], nodup_snoc w.nd hm, fun a h => ?_, fun n a mo h1 h2 => ?_⟩, P⟩
  · have : a ≠ p := fun z => by subst z; rw [hF] at e; cases e
    rw [upd_ne this]
    exact w.ext0 _ _ e
  · by_cases hap : a = p
    · subst hap
      rw [upd_same]
      exact fun e => nomatch e
    · rw [upd_ne hap]
      have : a ∈ m := by simpa [hap] using h
      exact w.used a this
  · by_cases hn : n < m.length
    · rw [List.getElem?_append_left hn] at h1
      rw [List.getElem?_append_left (by rw [← w.len]; exact hn)] at h2
      obtain ⟨h3, h4⟩ := w.live n a mo h1 h2
      have hne : a ≠ p := fun e => by subst e; exact hm (List.mem_of_getElem? h1)
      exact ⟨h3, h4.mono P (by rw [upd_ne hne])⟩
    · have hn1 : n = m.length := by
        have := (List.getElem?_eq_some_iff.mp h1).1
        simp at this
        omega
      subst hn1
      rw [List.getElem?_append_right (Nat.le_refl _)] at h1
      rw [w.len, List.getElem?_append_right (Nat.le_refl _)] at h2
      simp at h1 h2
      subst h1; subst h2
      exact ⟨hF, hr P⟩
def new (o : MO) : M D := fun vh => some (.ref vh.length, vh ++ [some o])
/-- writing a changing object -/
def wr {α : Type} (a : α) (n : Nat) (o : MO) : M α := fun vh => some (a, vh.set n (some o))
theorem Wd.written {vh : VH} {n : Nat} {p : Addr} {u : HO} {o o' : MO} (w : Wd cl F m vh H) (h1 : m[n]? = some p) (h2 : vh[n]? = some (some o)) (hz : ∀ ob v, H p ≠ some (.frz ob v))
    (hr : Post F m H F m (upd H p u) → RepO cl F m (upd H p u) p o') : Wd cl F m (vh.set n (some o')) (upd H p u) ∧ Post F m H F m (upd H p u) := by
  obtain ⟨hF, _⟩ := w.live n p o h1 h2
  have hm : p ∈ m := List.mem_of_getElem? h1
  have P : Post F m H F m (upd H p u) := ⟨.refl, fun a v e na => by
    have : a ≠ p := fun z => by subst z; exact na hm
    exact ⟨by rw [upd_ne this]; exact e, rfl, na⟩, fun a ob v e => by
    have : a ≠ p := fun z => by subst z; exact hz _ _ e
    rw [upd_ne this]; exact e⟩
  refine ⟨⟨fun a v e => ?_, by simp [w.len], w.nd, fun a h => ?_, fun k a mo g1 g2 => ?_⟩, P⟩
  · have : a ≠ p := fun z => by subst z; rw [hF] at e; cases e
    rw [upd_ne this]
    exact w.ext0 _ _ e
  · by_cases hap : a = p
    · subst hap
      rw [upd_same]
      exact fun e => nomatch e
    · rw [upd_ne hap]
      exact w.used a h
  · by_cases hk : n = k
    · subst hk
      rw [h1] at g1
      cases g1
      have hl : n < vh.length := (List.getElem?_eq_some_iff.mp h2).1
      rw [List.getElem?_set_self hl] at g2
      cases g2
      exact ⟨hF, hr P⟩
    · rw [List.getElem?_set_ne hk] at g2
      obtain ⟨g3, g4⟩ := w.live k a mo g1 g2
      have hne : a ≠ p := fun e => by
        subst e
        obtain ⟨l1, e1⟩ := List.getElem?_eq_some_iff.mp h1
        obtain ⟨l2, e2⟩ := List.getElem?_eq_some_iff.mp g1
        exact hk ((List.getElem_inj w.nd).mp (e1.trans e2.symm))
      exact ⟨g3, g4.mono P (by rw [upd_ne hne])⟩

/-! ### standing still from now on -/
def stillO : MO → Option D
  | .lst xs => some (.lst xs)
  | .dct ks vs => some (.dct ks vs)
  | .dctL _ _ => none
  | .lstL _ => none
  | .obj C ns vs => some (.obj C ns vs)
/-- a changing object as a tree; it changes no more -/
def still (d : D) : M D := fun vh => match d with
  | .ref n => match vh[n]? with
    | some (some o) => (stillO o).map fun d => (d, vh.set n none)
    | _ => none
  | d => some (d, vh)
theorem Wd.stilled {vh : VH} {n : Nat} {p : Addr} {o : MO} {d : D} (w : Wd cl F m vh H) (h1 : m[n]? = some p) (h2 : vh[n]? = some (some o)) (h3 : stillO o = some d) :
    ∃ F', Wd cl F' m (vh.set n none) H ∧ Post F m H F' m H ∧ Rep cl F' m (.ref p) d := by
  obtain ⟨hF, hr⟩ := w.live n p o h1 h2
  have hm : p ∈ m := List.mem_of_getElem? h1
  have main : ∀ F', (∀ a o, F a = some o → F' a = some o) → (∀ a o, F' a = some o → H a = some o ∨ ∃ ob kvs, o = .dK kvs ∧ H a = some (.frz ob o)) → (∀ a, F a = none → F' a ≠ none → a = p) → Wd cl F' m (vh.set n none) H ∧ Post F m H F' m H := by
    intro F' e1 e2 e3
    have P : Post F m H F' m H := ⟨⟨e1, fun _ _ h => h⟩, fun a v e na => ⟨e, by
      cases q : F a with
      | some u => exact e1 _ _ q
      | none =>
        cases q' : F' a with
        | none => rfl
        | some u =>
          have := e3 a q (by rw [q']; exact fun z => nomatch z)
          subst this
          exact absurd hm na, na⟩, fun _ _ _ h => h⟩
    refine ⟨⟨e2, by simp [w.len], w.nd, w.used, fun k a mo g1 g2 => ?_⟩, P⟩
    by_cases hk : n = k
    · subst hk
      have hl : n < vh.length := (List.getElem?_eq_some_iff.mp h2).1
      rw [List.getElem?_set_self hl] at g2
      cases g2
    · rw [List.getElem?_set_ne hk] at g2
      obtain ⟨g3, g4⟩ := w.live k a mo g1 g2
      have hne : a ≠ p := fun e => by
        subst e
        obtain ⟨l1, e1⟩ := List.getElem?_eq_some_iff.mp h1
        obtain ⟨l2, e2⟩ := List.getElem?_eq_some_iff.mp g1
        exact hk ((List.getElem_inj w.nd).mp (e1.trans e2.symm))
      refine ⟨?_, g4.mono P rfl⟩
      cases q' : F' a with
      | none => rfl
      | some u => exact absurd (e3 a g3 (by rw [q']; exact fun z => nomatch z)) hne
  cases o with
  | dctL ks ds => cases h3
  | lstL ds => cases h3
  | lst ds =>
    cases h3
    obtain ⟨us, h, rs⟩ := hr
    obtain ⟨W', P'⟩ := main (upd F p (.lst us)) (fun a o e => by rw [upd_ne (ne_of_none e hF)]; exact e) (fun a o e => by
      by_cases ha : a = p
      · subst ha; rw [upd_same] at e; cases e; exact Or.inl h
      · rw [upd_ne ha] at e; exact w.ext0 _ _ e) (fun a e1 e2 => by
      by_cases ha : a = p
      · exact ha
      · rw [upd_ne ha, e1] at e2; exact absurd rfl e2)
    exact ⟨_, W', P', .lst upd_same (rs.mono P'.gr)⟩
  | dct ks ds =>
    cases h3
    obtain ⟨kvs, h, ek, rs⟩ := hr
    obtain ⟨W', P'⟩ := main (upd F p (.dK kvs)) (fun a o e => by rw [upd_ne (ne_of_none e hF)]; exact e) (fun a o e => by
      by_cases ha : a = p
      · subst ha; rw [upd_same] at e; cases e; exact Or.inl h
      · rw [upd_ne ha] at e; exact w.ext0 _ _ e) (fun a e1 e2 => by
      by_cases ha : a = p
      · exact ha
      · rw [upd_ne ha, e1] at e2; exact absurd rfl e2)
    subst ek
    exact ⟨_, W', P', .dct upd_same (rs.mono P'.gr)⟩
  | obj C ns ds =>
    cases h3
    obtain ⟨dx, fs, h, ek, rs⟩ := hr
    obtain ⟨W', P'⟩ := main (upd F p (.ins (cl C) dx fs)) (fun a o e => by rw [upd_ne (ne_of_none e hF)]; exact e) (fun a o e => by
      by_cases ha : a = p
      · subst ha; rw [upd_same] at e; cases e; exact Or.inl h
      · rw [upd_ne ha] at e; exact w.ext0 _ _ e) (fun a e1 e2 => by
      by_cases ha : a = p
      · exact ha
      · rw [upd_ne ha, e1] at e2; exact absurd rfl e2)
    subst ek
    exact ⟨_, W', P', .obj upd_same (rs.mono P'.gr)⟩
end
end VL

namespace VL
open PySem PySem.Spec PyProof.Rows L2

/-! ### judgements -/
section
variable {X : Cx} {cl : Cn} {K : PySem.W.Frag} {F F' F1 F2 : Hp} {m m' m1 m2 : List Addr} {H H' H1 H2 : Hp} {vh vh1 : VH} {ρ : Rho} {σ : Sl}
theorem PEw {e : Expr} {t t' : TE} (h : PE X e t) (w : ∀ σ H Q, t' σ H Q → t σ H Q) : PE X e t' := ⟨fun pins s σ H Q I q => h.run pins s σ H Q I (w σ H Q q)⟩
theorem PTw {e : Expr} {t t' : TT} (h : PT X e t) (w : ∀ σ H Q, t' σ H Q → t σ H Q) : PT X e t' := ⟨fun pins s σ H Q I q => h.run pins s σ H Q I (w σ H Q q)⟩
theorem PWw {e : Expr} {t t' : TT} (h : PW X e t) (w : ∀ σ H Q, t' σ H Q → t σ H Q) : PW X e t' := ⟨fun wh pins s σ H Q I q => h.run wh pins s σ H Q I (w σ H Q q)⟩
theorem PAw {e : List Expr} {t t' : TA} (h : PA X e t) (w : ∀ σ H Q, t' σ H Q → t σ H Q) : PA X e t' := ⟨fun pos pins s σ H Q I q => h.run pos pins s σ H Q I (w σ H Q q)⟩
theorem PSw {e : Stmt} {t t' : TS} (h : PS X e t) (w : ∀ D σ H, t' D σ H → t D σ H) : PS X e t' := ⟨fun pins s σ H D I q => h.run pins s σ H D I (w D σ H q)⟩
theorem PSsw {e : List Stmt} {t t' : TS} (h : PSs X e t) (w : ∀ D σ H, t' D σ H → t D σ H) : PSs X e t' := ⟨fun pins s σ H D I q => h.run pins s σ H D I (w D σ H q)⟩
theorem PIw {tg e : Expr} {t t' : TI} (h : PI X tg e t) (w : ∀ σ H R, t' σ H R → t σ H R) : PI X tg e t' := ⟨fun pins s σ H R I q => h.run pins s σ H R I (w σ H R q)⟩

/-- a value is wanted -/
abbrev kV' (cl : Cn) (Q : VK) : Kn D := fun F' m' _ H' d => ∀ v, Rep cl F' m' v d → Q v H'
abbrev kVs (cl : Cn) (Q : List V → Hp → Prop) : Kn (List D) := fun F' m' _ H' ds => ∀ vs, Reps cl F' m' vs ds → Q vs H'
abbrev kB (Q : Bool → Hp → Prop) : Kn Bool := fun _ _ _ H' b => Q b H'
def tD (cl : Cn) (f : Rho → M D) : TE := fun σ H Q => ∃ F m vh ρ, Wd cl F m vh H ∧ RS cl F m σ ρ ∧ Run cl F m H (f ρ vh) (kV' cl Q)
def tDs (cl : Cn) (f : Rho → M (List D)) : TA := fun σ H Q => ∃ F m vh ρ, Wd cl F m vh H ∧ RS cl F m σ ρ ∧ Run cl F m H (f ρ vh) (kVs cl Q)
def tT (cl : Cn) (f : Rho → M Bool) : TT := fun σ H Q => ∃ F m vh ρ, Wd cl F m vh H ∧ RS cl F m σ ρ ∧ Run cl F m H (f ρ vh) (kB Q)
abbrev DE (cl : Cn) (X : Cx) (e : Expr) (f : Rho → M D) : Prop := PE X e (tD cl f)
abbrev DA (cl : Cn) (X : Cx) (es : List Expr) (f : Rho → M (List D)) : Prop := PA X es (tDs cl f)
abbrev DT (cl : Cn) (X : Cx) (e : Expr) (f : Rho → M Bool) : Prop := PT X e (tT cl f)
abbrev DW (cl : Cn) (X : Cx) (e : Expr) (f : Rho → M Bool) : Prop := PW X e (tT cl f)

theorem tD_bind {α : Type} {f : Rho → M D} {g : D → M α} {k : Kn α} {Q : VK} (w : Wd cl F m vh H) (r : RS cl F m σ ρ) (h : Run cl F m H (bind (f ρ) g vh) k)
    (hq : ∀ F1 m1 vh1 H1 a v, Wd cl F1 m1 vh1 H1 → RS cl F1 m1 σ ρ → Gr F m F1 m1 → Rep cl F1 m1 v a → Run cl F1 m1 H1 (g a vh1) k → Q v H1) : tD cl f σ H Q :=
  ⟨F, m, vh, ρ, w, r, (Run.bind h).mono fun F1 m1 vh1 H1 a p w1 q v rv => hq F1 m1 vh1 H1 a v w1 (r.mono p.gr) p.gr rv q⟩
theorem tDs_bind {α : Type} {f : Rho → M (List D)} {g : List D → M α} {k : Kn α} {Q : List V → Hp → Prop} (w : Wd cl F m vh H) (r : RS cl F m σ ρ) (h : Run cl F m H (bind (f ρ) g vh) k)
    (hq : ∀ F1 m1 vh1 H1 a v, Wd cl F1 m1 vh1 H1 → RS cl F1 m1 σ ρ → Gr F m F1 m1 → Reps cl F1 m1 v a → Run cl F1 m1 H1 (g a vh1) k → Q v H1) : tDs cl f σ H Q :=
  ⟨F, m, vh, ρ, w, r, (Run.bind h).mono fun F1 m1 vh1 H1 a p w1 q v rv => hq F1 m1 vh1 H1 a v w1 (r.mono p.gr) p.gr rv q⟩
theorem tT_bind {α : Type} {f : Rho → M Bool} {g : Bool → M α} {k : Kn α} {Q : Bool → Hp → Prop} (w : Wd cl F m vh H) (r : RS cl F m σ ρ) (h : Run cl F m H (bind (f ρ) g vh) k)
    (hq : ∀ F1 m1 vh1 H1 a, Wd cl F1 m1 vh1 H1 → RS cl F1 m1 σ ρ → Gr F m F1 m1 → Run cl F1 m1 H1 (g a vh1) k → Q a H1) : tT cl f σ H Q :=
  ⟨F, m, vh, ρ, w, r, (Run.bind h).mono fun F1 m1 vh1 H1 a p w1 q => hq F1 m1 vh1 H1 a w1 (r.mono p.gr) p.gr q⟩

/-! ### names and constants -/
def var (i : Nat) (ρ : Rho) : M D := match ρ[i]? with
  | some (some d) => ret d
  | _ => fail
theorem de_var {i : Nat} {x : Str} {pos : Pos} (h : PE X (.Name x pos) (tVar i)) : DE cl X (.Name x pos) (var i) := PEw h fun σ H Q ⟨F, m, vh, ρ, w, r, q⟩ => by
  unfold var at q
  cases e : ρ[i]? with
  | none =>
    rw [e] at q
    exact False.elim q
  | some o =>
    cases o with
    | none =>
      rw [e] at q
      exact False.elim q
    | some d =>
      rw [e] at q
      obtain ⟨v, e1, rv⟩ := r.at_ i d e
      exact ⟨v, e1, Run.ret q w v rv⟩
theorem de_c {e : Expr} {v : V} {d : D} (h : PE X e (tC v)) (r : ∀ F m, Rep cl F m v d) : DE cl X e (fun _ => ret d) := PEw h fun σ H Q ⟨F, m, vh, ρ, w, _, q⟩ => Run.ret q w v (r F m)
theorem de_int {i j pos} : DE cl X (.Constant (.int i) j pos) (fun _ => ret (.int i)) := de_c pe_int fun _ _ => .int _
theorem de_bl {i j pos} : DE cl X (.Constant (.bool i) j pos) (fun _ => ret (.bl i)) := de_c pe_bl fun _ _ => .bl _
theorem de_str {i j pos} : DE cl X (.Constant (.str i) j pos) (fun _ => ret (.str i)) := de_c pe_str fun _ _ => .str _
theorem de_non {j pos} : DE cl X (.Constant .none j pos) (fun _ => ret .non) := de_c pe_non fun _ _ => .non

/-! ### operators, by values -/
def rD1 (cl : Cn) (o : D → M D) : V → Hp → VK → Prop := fun x H Q => ∃ F m vh a, Wd cl F m vh H ∧ Rep cl F m x a ∧ Run cl F m H (o a vh) (kV' cl Q)
def rD2 (cl : Cn) (o : D → D → M D) : R2 := fun x y H Q => ∃ F m vh a b, Wd cl F m vh H ∧ Rep cl F m x a ∧ Rep cl F m y b ∧ Run cl F m H (o a b vh) (kV' cl Q)
def rDs (cl : Cn) (o : List D → M D) : List V → Hp → VK → Prop := fun xs H Q => ∃ F m vh as, Wd cl F m vh H ∧ Reps cl F m xs as ∧ Run cl F m H (o as vh) (kV' cl Q)
def rDm (cl : Cn) (o : D → List D → M D) : V → List V → Hp → VK → Prop := fun x xs H Q => ∃ F m vh a as, Wd cl F m vh H ∧ Rep cl F m x a ∧ Reps cl F m xs as ∧ Run cl F m H (o a as vh) (kV' cl Q)
abbrev den2 (o : D → D → M D) (fa fb : Rho → M D) : Rho → M D := fun ρ => bind (fa ρ) fun a => bind (fb ρ) fun b => o a b
abbrev den1 (o : D → M D) (fa : Rho → M D) : Rho → M D := fun ρ => bind (fa ρ) fun a => o a
theorem tOpD {o : D → D → M D} {fa fb : Rho → M D} {Q : VK} (h : tD cl (den2 o fa fb) σ H Q) : tOp (rD2 cl o) (tD cl fa) (tD cl fb) σ H Q := by
  obtain ⟨F, m, vh, ρ, w, r, q⟩ := h
  refine tD_bind w r q fun F1 m1 vh1 H1 a v w1 r1 g1 rv q1 => ?_
  refine tD_bind w1 r1 q1 fun F2 m2 vh2 H2 b u w2 r2 g2 ru q2 => ?_
  exact ⟨F2, m2, vh2, a, b, w2, rv.mono g2, ru, q2⟩
theorem de_op {a b : Expr} {op : Operator} {pos : Pos} {o : D → D → M D} {fa fb : Rho → M D} (ho : OpR X (binaryOp op) (rD2 cl o)) (ha : DE cl X a fa) (hb : DE cl X b fb) : DE cl X (.BinOp a op b pos) (den2 o fa fb) :=
  PEw (pe_op ho ha hb) fun σ H Q h => tOpD h
theorem de_cmp {a b : Expr} {op : CmpOp} {pos : Pos} {o : D → D → M D} {fa fb : Rho → M D} (ho : OpR X (compareOp op) (rD2 cl o)) (ha : DE cl X a fa) (hb : DE cl X b fb) (hm : behindInMarks op b = false) : DE cl X (.Compare a [op] [b] pos) (den2 o fa fb) :=
  PEw (pe_cmpR ho ha hb hm) fun σ H Q h => tOpD h
theorem de_un {a : Expr} {op : UnaryOp} {pos : Pos} {o : D → M D} {fa : Rho → M D} (ho : UnR X (unaryOp op) (rD1 cl o)) (ha : DE cl X a fa) : DE cl X (.UnaryOp op a pos) (den1 o fa) :=
  PEw (pe_un ho ha) fun σ H Q ⟨F, m, vh, ρ, w, r, q⟩ => tD_bind w r q fun F1 m1 vh1 H1 a v w1 r1 g1 rv q1 => ⟨F1, m1, vh1, a, w1, rv, q1⟩
theorem de_ix {a b : Expr} {pos : Pos} {o : D → D → M D} {fa fb : Rho → M D} (ho : IxR X (rD2 cl o)) (ha : DE cl X a fa) (hb : DE cl X b fb) (hs : PlainIx b) : DE cl X (.Subscript a b pos) (den2 o fa fb) :=
  PEw (pe_ix ho ha hb hs) fun σ H Q h => tOpD h

/-! ### tests -/
def toB : D → M Bool
  | .bl b => ret b
  | _ => fail
theorem rep_bl {v : V} {b : Bool} (h : Rep cl F m v (.bl b)) : v = .bl b := by cases h; rfl
theorem dt_val {e : Expr} {f : Rho → M D} (h : DE cl X e f) (hv : ∀ {t : TE}, PE X e t → PT X e (tB t) := by exact fun h => pt_val h) : DT cl X e (fun ρ => bind (f ρ) toB) :=
  PTw (hv h) fun σ H Q ⟨F, m, vh, ρ, w, r, q⟩ => tD_bind w r q fun F1 m1 vh1 H1 a v w1 r1 g1 rv q1 => by
    cases a with
    | bl b =>
      exact ⟨b, rep_bl rv, Run.ret q1 w1⟩
    | _ => exact False.elim q1
theorem dt_cmp {a b : Expr} {op : CmpOp} {pos : Pos} {o : D → D → M D} {fa fb : Rho → M D} (ho : OpR X (compareOp op) (rD2 cl o)) (ha : DE cl X a fa) (hb : DE cl X b fb) (hm : behindInMarks op b = false) :
    DT cl X (.Compare a [op] [b] pos) (fun ρ => bind (den2 o fa fb ρ) toB) :=
  PTw (pt_cmpR ho ha hb hm) fun σ H Q ⟨F, m, vh, ρ, w, r, q⟩ => by
    refine tOpD (o := o) ⟨F, m, vh, ρ, w, r, (Run.bind q).mono fun F1 m1 vh1 H1 a p w1 q1 v rv => ?_⟩
    cases a with
    | bl b =>
      exact ⟨b, rep_bl rv, Run.ret q1 w1⟩
    | _ => exact False.elim q1
def andB (f g : Rho → M Bool) : Rho → M Bool := fun ρ => bind (f ρ) fun b => if b then g ρ else ret false
def orB (f g : Rho → M Bool) : Rho → M Bool := fun ρ => bind (f ρ) fun b => if b then ret true else g ρ
def notB (f : Rho → M Bool) : Rho → M Bool := fun ρ => bind (f ρ) fun b => ret (!b)
theorem dt_not {a : Expr} {pos : Pos} {f : Rho → M Bool} (h : DT cl X a f) : DT cl X (.UnaryOp .Not a pos) (notB f) :=
  PTw (pt_not h) fun σ H Q ⟨F, m, vh, ρ, w, r, q⟩ => tT_bind w r q fun F1 m1 vh1 H1 b w1 r1 g1 q1 => Run.ret q1 w1
theorem tAndD {f g : Rho → M Bool} {Q : Bool → Hp → Prop} (h : tT cl (andB f g) σ H Q) : tAnd (tT cl f) (tT cl g) σ H Q := by
  obtain ⟨F, m, vh, ρ, w, r, q⟩ := h
  refine tT_bind w r q fun F1 m1 vh1 H1 b w1 r1 g1 q1 => ?_
  cases b with
  | true => exact iteT ⟨F1, m1, vh1, ρ, w1, r1, q1⟩
  | false => exact iteF (Run.ret q1 w1)
theorem tOrD {f g : Rho → M Bool} {Q : Bool → Hp → Prop} (h : tT cl (orB f g) σ H Q) : tOr (tT cl f) (tT cl g) σ H Q := by
  obtain ⟨F, m, vh, ρ, w, r, q⟩ := h
  refine tT_bind w r q fun F1 m1 vh1 H1 b w1 r1 g1 q1 => ?_
  cases b with
  | true => exact iteT (Run.ret q1 w1)
  | false => exact iteF ⟨F1, m1, vh1, ρ, w1, r1, q1⟩

theorem dw_and {a b : Expr} {rest : List Expr} {pos : Pos} {f g : Rho → M Bool} (ha : DT cl X a f) (hb : DW cl X (.BoolOp .And (b :: rest) pos) g) : DW cl X (.BoolOp .And (a :: b :: rest) pos) (andB f g) := PWw (pw_and ha hb) fun _ _ _ h => tAndD h
theorem dw_and1 {a : Expr} {pos : Pos} {f : Rho → M Bool} (ha : DT cl X a f) : DW cl X (.BoolOp .And [a] pos) f := pw_and1 ha
theorem dw_or {a b : Expr} {rest : List Expr} {pos : Pos} {f g : Rho → M Bool} (ha : DT cl X a f) (hb : DW cl X (.BoolOp .Or (b :: rest) pos) g) : DW cl X (.BoolOp .Or (a :: b :: rest) pos) (orB f g) := PWw (pw_or ha hb) fun _ _ _ h => tOrD h
theorem dw_or1 {a : Expr} {pos : Pos} {f : Rho → M Bool} (ha : DT cl X a f) : DW cl X (.BoolOp .Or [a] pos) f := pw_or1 ha
theorem dt_w {e : Expr} {f : Rho → M Bool} (h : DW cl X e f) : DT cl X e f := h.pt
/-- values True, False by and, or, not -/
def andD (f g : Rho → M D) : Rho → M D := fun ρ => bind (f ρ) fun a => bind (toB a) fun b => if b then g ρ else ret (.bl false)
def orD (f g : Rho → M D) : Rho → M D := fun ρ => bind (f ρ) fun a => bind (toB a) fun b => if b then ret (.bl true) else g ρ
def notD (a : D) : M D := bind (toB a) fun b => ret (.bl (!b))
theorem toB_bind {α : Type} {a : D} {g : Bool → M α} {k : Kn α} (h : Run cl F m H (bind (toB a) g vh) k) : ∃ b, a = .bl b ∧ Run cl F m H (g b vh) k := by
  cases a with
  | bl b => exact ⟨b, rfl, h⟩
  | _ => exact False.elim h
theorem de_and {a b : Expr} {rest : List Expr} {pos : Pos} {f g : Rho → M D} (ha : DE cl X a f) (hb : DE cl X (.BoolOp .And (b :: rest) pos) g) : DE cl X (.BoolOp .And (a :: b :: rest) pos) (andD f g) :=
  PEw (pe_and ha hb) fun σ H Q ⟨F, m, vh, ρ, w, r, q⟩ => tD_bind w r q fun F1 m1 vh1 H1 a v w1 r1 g1 rv q1 => by
    obtain ⟨b, rfl, q1⟩ := toB_bind q1
    refine ⟨b, rep_bl rv, ?_⟩
    cases b with
    | true => exact iteT ⟨F1, m1, vh1, ρ, w1, r1, q1⟩
    | false => exact iteF (Run.ret q1 w1 _ (.bl false))
theorem de_or {a b : Expr} {rest : List Expr} {pos : Pos} {f g : Rho → M D} (ha : DE cl X a f) (hb : DE cl X (.BoolOp .Or (b :: rest) pos) g) : DE cl X (.BoolOp .Or (a :: b :: rest) pos) (orD f g) :=
  PEw (pe_or ha hb) fun σ H Q ⟨F, m, vh, ρ, w, r, q⟩ => tD_bind w r q fun F1 m1 vh1 H1 a v w1 r1 g1 rv q1 => by
    obtain ⟨b, rfl, q1⟩ := toB_bind q1
    refine ⟨b, rep_bl rv, ?_⟩
    cases b with
    | true => exact iteT (Run.ret q1 w1 _ (.bl true))
    | false => exact iteF ⟨F1, m1, vh1, ρ, w1, r1, q1⟩
theorem de_one {a : Expr} {pos : Pos} {op : BoolOp} {f : Rho → M D} (ha : DE cl X a f) : DE cl X (.BoolOp op [a] pos) f := pe_one ha
theorem de_not {a : Expr} {pos : Pos} {f : Rho → M D} (ha : DE cl X a f) : DE cl X (.UnaryOp .Not a pos) (den1 notD f) :=
  PEw (pe_not ha) fun σ H Q ⟨F, m, vh, ρ, w, r, q⟩ => tD_bind w r q fun F1 m1 vh1 H1 a v w1 r1 g1 rv q1 => by
    obtain ⟨b, rfl, q1⟩ := toB_bind q1
    exact ⟨b, rep_bl rv, Run.ret q1 w1 _ (.bl _)⟩
def ifD (c : Rho → M Bool) (f g : Rho → M D) : Rho → M D := fun ρ => bind (c ρ) fun b => if b then f ρ else g ρ
theorem de_ifExp {a b c : Expr} {pos : Pos} {h : Rho → M Bool} {f g : Rho → M D} (hc : DT cl X c h) (ha : DE cl X a f) (hb : DE cl X b g) : DE cl X (.IfExp c a b pos) (ifD h f g) :=
  PEw (pe_ifExp hc ha hb) fun σ H Q ⟨F, m, vh, ρ, w, r, q⟩ => tT_bind w r q fun F1 m1 vh1 H1 b w1 r1 g1 q1 => by
    cases b with
    | true => exact iteT ⟨F1, m1, vh1, ρ, w1, r1, q1⟩
    | false => exact iteF ⟨F1, m1, vh1, ρ, w1, r1, q1⟩

/-! ### arguments, displays, calls -/
def nilA (_ : Rho) : M (List D) := ret []
def consA (f : Rho → M D) (g : Rho → M (List D)) : Rho → M (List D) := fun ρ => bind (f ρ) fun a => bind (g ρ) fun as => ret (a :: as)
theorem da_nil : DA cl X [] nilA := PAw pa_nil fun σ H Q ⟨F, m, vh, ρ, w, r, q⟩ => Run.ret q w [] .nil
theorem da_cons {e : Expr} {es : List Expr} {f : Rho → M D} {g : Rho → M (List D)} (ha : DE cl X e f) (hr : DA cl X es g) (hs : starEach (e :: es) X.env = (false, eval e X.env) :: starEach es X.env := by rfl) : DA cl X (e :: es) (consA f g) :=
  PAw (pa_cons ha hr hs) fun σ H Q ⟨F, m, vh, ρ, w, r, q⟩ => tD_bind w r q fun F1 m1 vh1 H1 a v w1 r1 g1 rv q1 => tDs_bind w1 r1 q1 fun F2 m2 vh2 H2 as vs w2 r2 g2 rvs q2 => Run.ret q2 w2 _ (.cons (rv.mono g2) rvs)
abbrev line : Nat := 16777216
def mkLst (xs : List D) : M D := if xs.length ≤ line then ret (.lst xs) else fail
def mkTup (xs : List D) : M D := if xs.length ≤ line then ret (.tup xs) else fail
def mkLstM (xs : List D) : M D := if xs.length ≤ line then new (.lst xs) else fail
theorem le_line {n : Nat} (h : n ≤ line) : n ≤ sizeLine := by rw [sizeLine_eq]; exact h
theorem run_if {α : Type} {c : Prop} [Decidable c] {a : M α} {k : Kn α} (h : Run cl F m H ((if c then a else fail : M α) vh) k) : c ∧ Run cl F m H (a vh) k := by
  by_cases hc : c
  · rw [if_pos hc] at h
    exact ⟨hc, h⟩
  · rw [if_neg hc] at h
    exact False.elim h
abbrev denA (o : List D → M D) (fa : Rho → M (List D)) : Rho → M D := fun ρ => bind (fa ρ) fun a => o a
/-- a new list that stands still -/
theorem runNewLst {us : List V} {xs : List D} {Q : VK} {p : Addr} (q : Run cl F m H (ret (D.lst xs) vh) (kV' cl Q)) (w : Wd cl F m vh H) (r : Reps cl F m us xs) (hp : H p = none) : Q (.ref p) (upd H p (.lst us)) := by
  have z := w.frozen (o := .lst us) hp
  exact Run.frozen q w hp _ (.lst upd_same (r.mono z.2.gr))
theorem runNewTup {us : List V} {xs : List D} {Q : VK} {p : Addr} (q : Run cl F m H (ret (D.tup xs) vh) (kV' cl Q)) (w : Wd cl F m vh H) (r : Reps cl F m us xs) (hp : H p = none) : Q (.ref p) (upd H p (.tup us)) := by
  have z := w.frozen (o := .tup us) hp
  exact Run.frozen q w hp _ (.tup upd_same (r.mono z.2.gr))
theorem at_snoc {m : List Addr} {p : Addr} {vh : VH} (h : m.length = vh.length) : (m ++ [p])[vh.length]? = some p := by
  rw [← h, List.getElem?_append_right (Nat.le_refl _)]
  simp
theorem runNewLstM {us : List V} {xs : List D} {Q : VK} {p : Addr} (q : Run cl F m H (new (.lst xs) vh) (kV' cl Q)) (w : Wd cl F m vh H) (r : Reps cl F m us xs) (hp : H p = none) : Q (.ref p) (upd H p (.lst us)) := by
  have z := w.grown (u := .lst us) (o := .lst xs) hp fun P => ⟨us, upd_same, r.mono P.gr⟩
  exact q _ _ _ z.2 z.1 _ (.ref (at_snoc w.len))
theorem de_lst {es : List Expr} {pos : Pos} {fs : Rho → M (List D)} (h : DA cl X es fs) : DE cl X (.List es pos) (denA mkLst fs) :=
  PEw (pe_lst h) fun σ H Q ⟨F, m, vh, ρ, w, r, q⟩ => tDs_bind w r q fun F1 m1 vh1 H1 as vs w1 r1 g1 rvs q1 => by
    obtain ⟨hl, q1⟩ := run_if q1
    exact ⟨by rw [rvs.length]; exact le_line hl, fun p hp => runNewLst q1 w1 rvs hp⟩
theorem de_lstM {es : List Expr} {pos : Pos} {fs : Rho → M (List D)} (h : DA cl X es fs) : DE cl X (.List es pos) (denA mkLstM fs) :=
  PEw (pe_lst h) fun σ H Q ⟨F, m, vh, ρ, w, r, q⟩ => tDs_bind w r q fun F1 m1 vh1 H1 as vs w1 r1 g1 rvs q1 => by
    obtain ⟨hl, q1⟩ := run_if q1
    exact ⟨by rw [rvs.length]; exact le_line hl, fun p hp => runNewLstM q1 w1 rvs hp⟩
theorem de_tup {es : List Expr} {k : Nat} {pos : Pos} {fs : Rho → M (List D)} (h : DA cl X es fs) : DE cl X (.Tuple es k pos) (denA mkTup fs) :=
  PEw (pe_tup h) fun σ H Q ⟨F, m, vh, ρ, w, r, q⟩ => tDs_bind w r q fun F1 m1 vh1 H1 as vs w1 r1 g1 rvs q1 => by
    obtain ⟨hl, q1⟩ := run_if q1
    exact ⟨by rw [rvs.length]; exact le_line hl, fun p hp => runNewTup q1 w1 rvs hp⟩
/-- a builtin by its name: the hand layer's rule is handed in -/
theorem de_cb {e : Expr} {es : List Expr} {pos : Pos} {fn : Expr} {o : List D → M D} {fs : Rho → M (List D)} (ha : DA cl X es fs)
    (hb : ∀ {t : TA}, PA X es t → PE X e (tCB (rDs cl o) t)) : DE cl X e (denA o fs) :=
  PEw (hb ha) fun σ H Q ⟨F, m, vh, ρ, w, r, q⟩ => tDs_bind w r q fun F1 m1 vh1 H1 as vs w1 r1 g1 rvs q1 => ⟨F1, m1, vh1, as, w1, rvs, q1⟩
/-- what a def promises: its mirror's value -/
def spD (cl : Cn) (n : Nat) (den : List D → M D) : Sp := fun vs H Q _ => ∃ F m vh ds, vs.length = n ∧ Wd cl F m vh H ∧ Reps cl F m vs ds ∧ Run cl F m H (den ds vh) (kV' cl Q)
def denC (n : Nat) (den : List D → M D) (as : List D) : M D := if as.length = n then den as else fail
theorem tCallD {n : Nat} {den : List D → M D} {fs : Rho → M (List D)} {E : XK} {Q : VK} (h : tD cl (denA (denC n den) fs) σ H Q) : tCall (spD cl n den) [] E (tDs cl fs) σ H Q := by
  obtain ⟨F, m, vh, ρ, w, r, q⟩ := h
  refine tDs_bind w r q fun F1 m1 vh1 H1 as vs w1 r1 g1 rvs q1 => ?_
  obtain ⟨hl, q1⟩ := run_if q1
  refine ⟨F1, m1, vh1, as, ?_, w1, ?_, q1⟩
  · rw [List.append_nil, rvs.length, hl]
  · rw [List.append_nil]
    exact rvs
/-- a def of the module, called -/
theorem de_call {k n : Nat} {f : Addr} {fd : FuncData} {ps : List Str} {den : List D → M D} {x : Str} {p pos : Pos} {e : Expr} {es : List Expr} {fs : Rho → M (List D)}
    (Fo : FnOk X.prog X.w X.K X.mg X.base CX0 k f fd ps (spD cl n den)) (ha : DA cl X (e :: es) fs)
    (hb : ∀ {t : TA}, PA X (e :: es) t → PE X (.Call (.Name x p) (e :: es) [] pos) (tCall (spD cl n den) [] E0 t)) : DE cl X (.Call (.Name x p) (e :: es) [] pos) (denA (denC n den) fs) :=
  PEw (hb ha) fun σ H Q h => tCallD h
end
end VL

namespace VL
open PySem PySem.Spec PyProof.Rows L2

section
variable {X : Cx} {cl : Cn} {K : PySem.W.Frag} {F F' F1 F2 : Hp} {m m' m1 m2 : List Addr} {H H' H1 H2 : Hp} {vh vh1 : VH} {ρ : Rho} {σ : Sl}
/-! ### statements -/
inductive Out where
  | nx (ρ : Rho) | rt (d : D) | bk (ρ : Rho) | ct (ρ : Rho)
def kO (cl : Cn) (D : Ends) : Kn Out := fun F' m' _ H' o => match o with
  | .nx ρ' => ∀ σ', RS cl F' m' σ' ρ' → D.nx σ' H'
  | .rt d => ∀ v, Rep cl F' m' v d → D.rt v H'
  | .bk ρ' => ∀ σ', RS cl F' m' σ' ρ' → D.bk σ' H'
  | .ct ρ' => ∀ σ', RS cl F' m' σ' ρ' → D.ct σ' H'
def tS (cl : Cn) (g : Rho → M Out) : TS := fun D σ H => ∃ F m vh ρ, Wd cl F m vh H ∧ RS cl F m σ ρ ∧ Run cl F m H (g ρ vh) (kO cl D)
abbrev DS (cl : Cn) (X : Cx) (st : Stmt) (g : Rho → M Out) : Prop := PS X st (tS cl g)
abbrev DSs (cl : Cn) (X : Cx) (st : List Stmt) (g : Rho → M Out) : Prop := PSs X st (tS cl g)
abbrev Bk := Rho → M Out
def seqS (g h : Bk) : Bk := fun ρ => bind (g ρ) fun o => match o with
  | .nx ρ' => h ρ'
  | o => ret o
def nopS : Bk := fun ρ => ret (.nx ρ)
theorem dss_nil : DSs cl X [] nopS := PSsw pss_nil fun D σ H ⟨F, m, vh, ρ, w, r, q⟩ => Run.ret q w σ r
theorem dss_cons {st : Stmt} {rest : List Stmt} {g h : Bk} (h1 : DS cl X st g) (h2 : DSs cl X rest h) : DSs cl X (st :: rest) (seqS g h) :=
  PSsw (pss_cons h1 h2) fun D σ H ⟨F, m, vh, ρ, w, r, q⟩ => ⟨F, m, vh, ρ, w, r, (Run.bind q).mono fun F1 m1 vh1 H1 o p w1 q1 => by
    cases o with
    | nx ρ' => exact fun σ' r' => ⟨F1, m1, vh1, ρ', w1, r', q1⟩
    | rt d => exact Run.ret q1 w1
    | bk ρ' => exact Run.ret q1 w1
    | ct ρ' => exact Run.ret q1 w1⟩
theorem dss_one {st : Stmt} {g : Bk} (h1 : DS cl X st g) : DSs cl X [st] g := pss_one h1
def passS : Bk := fun ρ => ret (.nx ρ)
def breakS : Bk := fun ρ => ret (.bk ρ)
def contS : Bk := fun ρ => ret (.ct ρ)
def neverS : Bk := fun _ => fail
theorem ds_pass {pos : Pos} : DS cl X (.Pass pos) passS := PSw ps_pass fun D σ H ⟨F, m, vh, ρ, w, r, q⟩ => Run.ret q w σ r
theorem ds_break {pos : Pos} : DS cl X (.Break pos) breakS := PSw ps_break fun D σ H ⟨F, m, vh, ρ, w, r, q⟩ => Run.ret q w σ r
theorem ds_continue {pos : Pos} : DS cl X (.Continue pos) contS := PSw ps_continue fun D σ H ⟨F, m, vh, ρ, w, r, q⟩ => Run.ret q w σ r
theorem ds_never {st : Stmt} : DS cl X st neverS := PSw ps_never fun D σ H ⟨F, m, vh, ρ, w, r, q⟩ => q
theorem dss_never {st : List Stmt} : DSs cl X st neverS := PSsw pss_never fun D σ H ⟨F, m, vh, ρ, w, r, q⟩ => q
def dropS (f : Rho → M D) : Bk := fun ρ => bind (f ρ) fun _ => ret (.nx ρ)
theorem rep_any (d : D) (F : Hp) (m : List Addr) : True := trivial
/-- the value of a thing that is thrown away: it must be shown by some value -/
theorem ds_expr {e : Expr} {pos : Pos} {f : Rho → M D} (he : DE cl X e f) (hs : swapsWith e none pos.line X.env = pure false := by rfl) : DS cl X (.Expr e pos) (dropS f) :=
  PSw (ps_expr he hs) fun D σ H ⟨F, m, vh, ρ, w, r, q⟩ => tD_bind w r q fun F1 m1 vh1 H1 a v w1 r1 g1 rv q1 => Run.ret q1 w1 σ r1
def retS (f : Rho → M D) : Bk := fun ρ => bind (f ρ) fun d => ret (.rt d)
theorem ds_ret {e : Expr} {pos : Pos} {f : Rho → M D} (he : DE cl X e f) : DS cl X (.Return (some e) pos) (retS f) :=
  PSw (ps_ret he) fun D σ H ⟨F, m, vh, ρ, w, r, q⟩ => tD_bind w r q fun F1 m1 vh1 H1 a v w1 r1 g1 rv q1 => Run.ret q1 w1 v rv
def retNS : Bk := fun _ => ret (.rt .non)
theorem ds_retN {pos : Pos} : DS cl X (.Return none pos) retNS := PSw ps_retN fun D σ H ⟨F, m, vh, ρ, w, r, q⟩ => Run.ret q w _ .non
def ifS (c : Rho → M Bool) (g h : Bk) : Bk := fun ρ => bind (c ρ) fun b => if b then g ρ else h ρ
theorem ds_if {c : Expr} {a b : List Stmt} {pos : Pos} {f : Rho → M Bool} {g h : Bk} (hc : DT cl X c f) (ha : DSs cl X a g) (hb : DSs cl X b h) : DS cl X (.If c a b pos) (ifS f g h) :=
  PSw (ps_if hc ha hb) fun D σ H ⟨F, m, vh, ρ, w, r, q⟩ => tT_bind w r q fun F1 m1 vh1 H1 b w1 r1 g1 q1 => by
    cases b with
    | true => exact iteT ⟨F1, m1, vh1, ρ, w1, r1, q1⟩
    | false => exact iteF ⟨F1, m1, vh1, ρ, w1, r1, q1⟩
/-- a ghost step: a name's object stands still from now on -/
def stillS (i : Nat) : Bk := fun ρ => match ρ[i]? with
  | some (some d) => bind (still d) fun d' => ret (.nx (ρ.set i (some d')))
  | _ => fail

/-! ### targets -/
abbrev Tg := D → Rho → M Rho
abbrev Tgs := List D → Rho → M Rho
def kG (cl : Cn) (S : List Nat) (σ : Sl) (Q : Sl → Hp → Prop) : Kn Rho := fun F' m' _ H' ρ' => ∀ σ', RS cl F' m' σ' ρ' → σ'.length = σ.length → (∀ i, i ∉ S → σ'[i]? = σ[i]?) → Q σ' H'
def tG (cl : Cn) (S : List Nat) (g : Tg) : TG := fun v σ H Q => ∃ F m vh ρ d, Wd cl F m vh H ∧ RS cl F m σ ρ ∧ Rep cl F m v d ∧ Run cl F m H (g d ρ vh) (kG cl S σ Q)
def tGs (cl : Cn) (S : List Nat) (g : Tgs) : TGs := fun vs σ H Q => ∃ F m vh ρ ds, Wd cl F m vh H ∧ RS cl F m σ ρ ∧ Reps cl F m vs ds ∧ Run cl F m H (g ds ρ vh) (kG cl S σ Q)
abbrev DG (cl : Cn) (X : Cx) (tg : Expr) (S : List Nat) (g : Tg) : Prop := PG X tg (tG cl S g)
abbrev DGs (cl : Cn) (X : Cx) (tg : List Expr) (S : List Nat) (g : Tgs) : Prop := PGs X tg (tGs cl S g)
theorem PGw {tg : Expr} {t t' : TG} (h : PG X tg t) (w : ∀ v σ H Q, t' v σ H Q → t v σ H Q) : PG X tg t' := ⟨fun pins s σ H v u Q I r q => h.run pins s σ H v u Q I r (w v σ H Q q)⟩
theorem PGsw {tg : List Expr} {t t' : TGs} (h : PGs X tg t) (w : ∀ v σ H Q, t' v σ H Q → t v σ H Q) : PGs X tg t' := ⟨fun pins s σ H v u Q I r q => h.run pins s σ H v u Q I r (w v σ H Q q)⟩
def nameG (i : Nat) : Tg := fun d ρ => ret (ρ.set i (some d))
theorem dg_name' {tg : Expr} {i : Nat} (h : PG X tg (gName i)) : DG cl X tg [i] (nameG i) :=
  PGw h fun v σ H Q ⟨F, m, vh, ρ, d, w, r, rv, q⟩ => Run.ret q w (σ.set i (some v)) (r.set rv i) (by simp) fun j hj => by
    rw [List.getElem?_set_ne]
    intro e
    exact hj (by simp [e])
def nilG : Tgs := fun ds ρ => match ds with
  | [] => ret ρ
  | _ => fail
def consG (g : Tg) (h : Tgs) : Tgs := fun ds ρ => match ds with
  | d :: ds => bind (g d ρ) fun ρ' => h ds ρ'
  | [] => fail
theorem dgs_nil : DGs cl X [] [] nilG := PGsw pgs_nil fun vs σ H Q ⟨F, m, vh, ρ, ds, w, r, rv, q⟩ => by
  cases rv with
  | nil => exact ⟨rfl, Run.ret q w σ r rfl fun _ _ => rfl⟩
  | cons _ _ => exact False.elim q
theorem dgs_cons {e : Expr} {es : List Expr} {S T : List Nat} {g : Tg} {h : Tgs} (h1 : DG cl X e S g) (h2 : DGs cl X es T h)
    (hs : (assignEach (e :: es) X.env).map (·.2) = assign e X.env :: (assignEach es X.env).map (·.2) := by rfl) : DGs cl X (e :: es) (S ++ T) (consG g h) :=
  PGsw (pgs_cons h1 h2 hs) fun vs σ H Q ⟨F, m, vh, ρ, ds, w, r, rv, q⟩ => by
    cases rv with
    | nil => exact False.elim q
    | @cons v vs d ds rv rvs =>
      refine ⟨v, vs, rfl, F, m, vh, ρ, d, w, r, rv, (Run.bind q).mono fun F1 m1 vh1 H1 ρ1 p w1 q1 σ1 r1 hl1 hs1 => ?_⟩
      refine ⟨F1, m1, vh1, ρ1, ds, w1, r1, rvs.mono p.gr, q1.mono fun F2 m2 vh2 H2 ρ2 p2 w2 q2 σ2 r2 hl2 hs2 => q2 σ2 r2 (hl2.trans hl1) fun i hi => ?_⟩
      have a : i ∉ S := fun z => hi (List.mem_append_left _ z)
      have b : i ∉ T := fun z => hi (List.mem_append_right _ z)
      exact (hs2 i b).trans (hs1 i a)
def tupG (n : Nat) (h : Tgs) : Tg := fun d ρ => match d with
  | .tup ds => if ds.length = n then h ds ρ else fail
  | _ => fail
theorem rep_tup {v : V} {ds : List D} (h : Rep cl F m v (.tup ds)) : ∃ a us, v = .ref a ∧ F a = some (.tup us) ∧ Reps cl F m us ds := by
  cases h with
  | tup e r => exact ⟨_, _, rfl, e, r⟩
theorem rep_lst {v : V} {ds : List D} (h : Rep cl F m v (.lst ds)) : ∃ a us, v = .ref a ∧ F a = some (.lst us) ∧ Reps cl F m us ds := by
  cases h with
  | lst e r => exact ⟨_, _, rfl, e, r⟩
theorem Wd.sqT {a : Addr} {us : List V} (w : Wd cl F m vh H) (h : F a = some (.tup us)) : SqT K H a us := .inl (.inl (w.ext _ _ h))
theorem Wd.sqL {a : Addr} {us : List V} (w : Wd cl F m vh H) (h : F a = some (.lst us)) : SqL K H a us := .inl (.inl (w.ext _ _ h))
theorem dg_tup {es : List Expr} {k n : Nat} {pos : Pos} {S : List Nat} {h : Tgs} (hc : X.calm = true) (hh : DGs cl X es S h)
    (hn : (assignEach es X.env).length = n := by rfl) (hst : (assignEach es X.env).findIdx? (·.1) = none := by rfl) : DG cl X (.Tuple es k pos) S (tupG n h) :=
  PGw (pg_tup hc hh hn hst) fun v σ H Q ⟨F, m, vh, ρ, d, w, r, rv, q⟩ => by
    cases d with
    | tup ds =>
      obtain ⟨a, us, rfl, e, rs⟩ := rep_tup rv
      obtain ⟨hl, q⟩ := run_if q
      exact ⟨a, us, rfl, w.sqT e, by rw [rs.length, hl], F, m, vh, ρ, ds, w, r, rs, q⟩
    | _ => exact False.elim q
def asgS (f : Rho → M D) (g : Tg) : Bk := fun ρ => bind (f ρ) fun d => bind (g d ρ) fun ρ' => ret (.nx ρ')
theorem tAsgD {f : Rho → M D} {S : List Nat} {g : Tg} {D : Ends} (h : tS cl (asgS f g) D σ H) : tAsg (tD cl f) (tG cl S g) D σ H := by
  obtain ⟨F, m, vh, ρ, w, r, q⟩ := h
  refine tD_bind w r q fun F1 m1 vh1 H1 a v w1 r1 g1 rv q1 => ?_
  exact ⟨F1, m1, vh1, ρ, a, w1, r1, rv, (Run.bind q1).mono fun F2 m2 vh2 H2 ρ2 p2 w2 q2 σ2 r2 _ _ => Run.ret q2 w2 σ2 r2⟩
theorem ds_asg {tg e : Expr} {pos : Pos} {f : Rho → M D} {S : List Nat} {g : Tg} (he : DE cl X e f) (hg : DG cl X tg S g) (hs : swapsWithSole [tg] e pos.line X.env = pure false := by rfl) (hw : swappedStores [tg] e X.env = pure none := by rfl)
    (h1 : (assignEach [tg] X.env).map (·.2) = [assign tg X.env] := by rfl) : DS cl X (.Assign [tg] e pos) (asgS f g) := PSw (ps_asg he hg hs hw h1) fun D σ H h => tAsgD h
theorem tSetD {f : Rho → M D} {i : Nat} {D : Ends} (h : tS cl (asgS f (nameG i)) D σ H) : tAsg (tD cl f) (gName i) D σ H := by
  obtain ⟨F, m, vh, ρ, w, r, q⟩ := h
  refine tD_bind w r q fun F1 m1 vh1 H1 a v w1 r1 g1 rv q1 => ?_
  exact Run.ret q1 w1 _ (r1.set rv i)
theorem ds_set {i : Nat} {x : Str} {e : Expr} {pos pos' : Pos} {f : Rho → M D} (he : DE cl X e f) (h : ∀ {te : TE}, PE X e te → PS X (.Assign [.Name x pos'] e pos) (tAsg te (gName i))) : DS cl X (.Assign [.Name x pos'] e pos) (asgS f (nameG i)) :=
  PSw (h he) fun D σ H h => tSetD h
/-- a, b = x, y -/
def parS (i j : Nat) (f : Rho → M (List D)) : Bk := fun ρ => bind (f ρ) fun ds => match ds with
  | [a, b] => ret (.nx ((ρ.set i (some a)).set j (some b)))
  | _ => fail
theorem ds_par {st : Stmt} {i j : Nat} {es : List Expr} {f : Rho → M (List D)} (ha : DA cl X es f) (h : ∀ {ta : TA}, PA X es ta → PS X st (tPar i j ta)) : DS cl X st (parS i j f) :=
  PSw (h ha) fun D σ H ⟨F, m, vh, ρ, w, r, q⟩ => tDs_bind w r q fun F1 m1 vh1 H1 as vs w1 r1 g1 rvs q1 => by
    match as, vs, rvs with
    | [a, b], [v, u], .cons rv (.cons ru .nil) => exact ⟨v, u, rfl, Run.ret q1 w1 _ ((r1.set rv i).set ru j)⟩
    | [], _, _ => exact False.elim q1
    | [_], _, _ => exact False.elim q1
    | _ :: _ :: _ :: _, _, _ => exact False.elim q1

/-! ### while -/
def whileS (c : Rho → M Bool) (b : Bk) : Nat → Bk
  | 0 => fun _ => fail
  | n + 1 => fun ρ => bind (c ρ) fun t => if t then bind (b ρ) fun o => match o with
      | .nx ρ' => whileS c b n ρ'
      | .ct ρ' => whileS c b n ρ'
      | .bk ρ' => ret (.nx ρ')
      | .rt d => ret (.rt d)
    else ret (.nx ρ)
theorem ds_while {c : Expr} {body : List Stmt} {pos : Pos} {f : Rho → M Bool} {b : Bk} (n : Nat) (hp : PassesOwn (model X.prog X.w) X.A X.env X.xe) (hc : DT cl X c f) (hb : DSs cl X body b) : DS cl X (.While c body [] pos) (whileS f b n) :=
  PSw (ps_while hp hc hb) fun D σ H h => by
    refine ⟨fun k σ H => tS cl (whileS f b k) D σ H, ⟨n, h⟩, fun k σ H h => ?_⟩
    obtain ⟨F, m, vh, ρ, w, r, q⟩ := h
    cases k with
    | zero => exact False.elim q
    | succ k =>
      refine tT_bind w r q fun F1 m1 vh1 H1 t w1 r1 g1 q1 => ?_
      cases t with
      | false => exact iteF (Run.ret q1 w1 σ r1)
      | true =>
        refine iteT ⟨fun σ' H' => tS cl (whileS f b k) D σ' H', fun σ' H' h => ⟨k, Nat.lt_succ_self _, h⟩, F1, m1, vh1, ρ, w1, r1, (Run.bind q1).mono fun F2 m2 vh2 H2 o p2 w2 q2 => ?_⟩
        cases o with
        | nx ρ' => exact fun σ' r' => ⟨F2, m2, vh2, ρ', w2, r', q2⟩
        | ct ρ' => exact fun σ' r' => ⟨F2, m2, vh2, ρ', w2, r', q2⟩
        | bk ρ' => exact Run.ret q2 w2
        | rt d => exact Run.ret q2 w2

/-! ### what is walked -/
def ItOk (cl : Cn) (F : Hp) (m : List Addr) (H : Hp) (items : List D) (J : It) : Prop := ∃ G Y, Walk J items.length G Y ∧ (∀ F2 m2 vh2 H2, Post F m H F2 m2 H2 → Wd cl F2 m2 vh2 H2 → G H2) ∧
  ∀ i H2 x H3 F2 m2 vh2, i < items.length → Gr F m F2 m2 → Wd cl F2 m2 vh2 H2 → Y i H2 x H3 → ∃ F3 d, Post F2 m2 H2 F3 m2 H3 ∧ Wd cl F3 m2 vh2 H3 ∧ items[i]? = some d ∧ Rep cl F3 m2 x d
def kI (cl : Cn) (R : It → Hp → Prop) : Kn (List D) := fun F' m' _ H' items => ∀ J, ItOk cl F' m' H' items J → R J H'
def tI (cl : Cn) (f : Rho → M (List D)) : TI := fun σ H R => ∃ F m vh ρ, Wd cl F m vh H ∧ RS cl F m σ ρ ∧ Run cl F m H (f ρ vh) (kI cl R)
abbrev DI (cl : Cn) (X : Cx) (tg iter : Expr) (f : Rho → M (List D)) : Prop := PI X tg iter (tI cl f)
theorem tI_bind {α : Type} {f : Rho → M (List D)} {g : List D → M α} {k : Kn α} {R : It → Hp → Prop} (w : Wd cl F m vh H) (r : RS cl F m σ ρ) (h : Run cl F m H (bind (f ρ) g vh) k)
    (hq : ∀ F1 m1 vh1 H1 a J, Wd cl F1 m1 vh1 H1 → RS cl F1 m1 σ ρ → Gr F m F1 m1 → ItOk cl F1 m1 H1 a J → Run cl F1 m1 H1 (g a vh1) k → R J H1) : tI cl f σ H R :=
  ⟨F, m, vh, ρ, w, r, (Run.bind h).mono fun F1 m1 vh1 H1 a p w1 q J ok => hq F1 m1 vh1 H1 a J w1 (r.mono p.gr) p.gr ok q⟩

def forL (g : Tg) (b : Bk) : List D → Bk
  | [] => fun ρ => ret (.nx ρ)
  | d :: ds => fun ρ => bind (g d ρ) fun ρ' => bind (b ρ') fun o => match o with
      | .nx ρ' => forL g b ds ρ'
      | .ct ρ' => forL g b ds ρ'
      | .bk ρ' => ret (.nx ρ')
      | .rt d => ret (.rt d)
def forS (f : Rho → M (List D)) (g : Tg) (b : Bk) : Bk := fun ρ => bind (f ρ) fun items => forL g b items ρ
theorem ds_for {tg iter : Expr} {body : List Stmt} {pos : Pos} {f : Rho → M (List D)} {S : List Nat} {g : Tg} {b : Bk} (hp : PassesOwn (model X.prog X.w) X.A X.env X.xe) (hc : X.calm = true) (hi : DI cl X tg iter f) (hg : DG cl X tg S g) (hb : DSs cl X body b)
    (hs : ∀ x, foldedSetIterable iter X.env x = pure x := by intro _; rfl) : DS cl X (.For tg iter body [] pos) (forS f g b) :=
  PSw (ps_for hp hc hi hg hb hs) fun D σ H ⟨F, m, vh, ρ, w, r, q⟩ => by
    refine tI_bind w r q fun F1 m1 vh1 H1 items J w1 r1 g1 ok q1 => ?_
    obtain ⟨G, Y, wk, hG, hY⟩ := ok
    refine for_it wk (fun i σ H => ∃ F2 m2 vh2 ρ2, Post F1 m1 H1 F2 m2 H ∧ Wd cl F2 m2 vh2 H ∧ RS cl F2 m2 σ ρ2 ∧ Run cl F2 m2 H (forL g b (items.drop i) ρ2 vh2) (kO cl D)) ⟨F1, m1, vh1, ρ, .refl, w1, r1, q1⟩ ?_ ?_ ?_
    · rintro i σ H _ ⟨F2, m2, vh2, ρ2, g2, w2, r2, q2⟩
      exact hG F2 m2 vh2 H g2 w2
    · rintro i x σ H H' hi ⟨F2, m2, vh2, ρ2, g2, w2, r2, q2⟩ y
      obtain ⟨F3, d, p3, w3, e, rv⟩ := hY i H x H' F2 m2 vh2 hi g2.gr w2 y
      have q3 := Run.pre q2 p3
      rw [List.drop_eq_getElem_cons hi] at q3
      have ed : items[i] = d := by
        rw [List.getElem?_eq_getElem hi] at e
        exact Option.some.inj e
      rw [ed] at q3
      refine ⟨F3, m2, vh2, ρ2, d, w3, r2.mono p3.gr, rv, (Run.bind q3).mono fun F4 m4 vh4 H4 ρ4 p4 w4 q4 σ4 r4 _ _ => ?_⟩
      refine ⟨F4, m4, vh4, ρ4, w4, r4, (Run.bind q4).mono fun F5 m5 vh5 H5 o p5 w5 q5 => ?_⟩
      have gg := g2.trans (p3.trans (p4.trans p5))
      cases o with
      | nx ρ' => exact fun σ' r' => ⟨F5, m5, vh5, ρ', gg, w5, r', q5⟩
      | ct ρ' => exact fun σ' r' => ⟨F5, m5, vh5, ρ', gg, w5, r', q5⟩
      | bk ρ' => exact Run.ret q5 w5
      | rt d => exact Run.ret q5 w5
    · rintro σ H ⟨F2, m2, vh2, ρ2, g2, w2, r2, q2⟩
      rw [List.drop_length] at q2
      exact Run.ret q2 w2 σ r2

/-! ### a def -/
def denF (n : Nat) (g : Bk) (ds : List D) : M D := bind (g (ds.map some ++ List.replicate (n - ds.length) none)) fun o => match o with
  | .nx _ => ret .non
  | .rt d => ret d
  | _ => fail
theorem rs_start (N : List Str) : ∀ {vs : List V} {ds : List D}, Reps cl F m vs ds → RS cl F m (L2.start N vs) (ds.map some ++ List.replicate (N.length - ds.length) none) := by
  intro vs ds r
  unfold L2.start
  rw [r.length]
  refine ⟨by simp [r.length], fun i d h => ?_⟩
  by_cases hi : i < ds.length
  · rw [List.getElem?_append_left (by simpa using hi)] at h
    rw [List.getElem?_map] at h
    have e : ds[i]? = some d := by
      cases q : ds[i]? with
      | none => rw [q] at h; cases h
      | some z => rw [q] at h; exact Option.some.inj h
    obtain ⟨v, e1, rv⟩ := r.get e
    refine ⟨v, ?_, rv⟩
    rw [List.getElem?_append_left (by simpa [r.length] using hi), List.getElem?_map, e1]
    rfl
  · rw [List.getElem?_append_right (by simpa using hi)] at h
    have : (List.replicate (N.length - ds.length) (none : Option D))[i - (ds.map some).length]? ≠ some (some d) := by
      intro z
      have := List.mem_of_getElem? z
      simp at this
    exact absurd h this
end
section
variable {P : Program} {w : World} {cl : Cn} {K : PySem.W.Frag} {mg : Str → Option Value} {base : Heap}
theorem fn_D {x qual : Str} {st : Stmt} {f : Addr} {fd : FuncData} {N ps : List Str} {k : Nat} {g : Bk} (Fu : Fun K x qual st f fd) (S : FnScope N ps (defScope st))
    (hb : ∀ (cdv : Value) (A : Around) (outer : List Env) (s : Shared) (H : Hp) (E : XK), Room k (A.deeper (envOfC qual (defScope st) s.heap.objs.size f cdv)) → DSs cl (cxOf CX0 P w K mg base N qual (defScope st) f cdv A outer s H E).nox (defBody st) g) :
    FnOk P w K mg base CX0 (k + 1) f fd ps (spD cl ps.length (denF N.length g)) := by
  refine Fu.ok S (fun vs H Q E h => ?_) (fun cdv A outer s H vs Q E hr h => ?_)
  · obtain ⟨_, _, _, _, e, _⟩ := h
    exact e
  · obtain ⟨F, m, vh, ds, e, wd, r, q⟩ := h
    refine ⟨_, hb cdv A outer s H E hr, F, m, vh, _, wd, rs_start N r, (Run.bind q).mono fun F1 m1 vh1 H1 o p w1 q1 => ?_⟩
    cases o with
    | nx ρ => exact fun σ' _ => Run.ret q1 w1 _ .non
    | rt d => exact Run.ret q1 w1
    | bk ρ => exact False.elim q1
    | ct ρ => exact False.elim q1
end
end VL

namespace VL
open PySem PySem.Spec PyProof.Rows L2

section
variable {X : Cx} {cl : Cn} {K : PySem.W.Frag} {F F' F1 F2 : Hp} {m m' m1 m2 : List Addr} {H H' H1 H2 : Hp} {vh vh1 : VH} {ρ : Rho} {σ : Sl} {tg : Expr}
theorem PIor {e : Expr} {t t' : TI} (h : PI X tg e t) (h' : PI X tg e t') : PI X tg e (fun σ H R => t σ H R ∨ t' σ H R) := ⟨fun pins s σ H R I q => q.elim (h.run pins s σ H R I) (h'.run pins s σ H R I)⟩
/-- at turns that leave the heap as it is -/
theorem itOk_at {items : List D} {J : It} {G : Hp → Prop} {us : List V} (r : Reps cl F m us items) (wk : Walk J items.length G (YAt us)) (hG : ∀ F2 m2 vh2 H2, Post F m H F2 m2 H2 → Wd cl F2 m2 vh2 H2 → G H2) : ItOk cl F m H items J := by
  refine ⟨G, _, wk, hG, fun i H2 x H3 F2 m2 vh2 hi g w y => ?_⟩
  obtain ⟨rfl, e⟩ := y
  obtain ⟨d, e1, rv⟩ := r.get' e
  exact ⟨F2, d, .refl, w, e1, rv.mono g⟩
theorem itOk_list {items : List D} {a : Addr} {us : List V} (e : F a = some (.lst us)) (r : Reps cl F m us items) : ItOk cl F m H items (Itl K a) :=
  itOk_at r (by rw [← r.length]; exact walk_list) fun F2 m2 vh2 H2 g w => w.sqL (g.gr.ext _ _ e)
theorem itOk_scr {a : Addr} {o : Obj} {ns : List Int} (e : F a = some (.frz o (.lst (ns.map V.int)))) : ItOk cl F m H (ns.map D.int) (Itl K a) :=
  itOk_at (G := fun H => SqL K H a (ns.map V.int)) (Reps.of_ints ns) (by
    rw [show (ns.map D.int).length = (ns.map V.int).length by simp]
    exact walk_list) fun F2 m2 vh2 H2 g w => Or.inl (Or.inr ⟨o, w.ext _ _ (g.gr.ext _ _ e)⟩)
theorem itOk_tup {items : List D} {a : Addr} {us : List V} (e : F a = some (.tup us)) (r : Reps cl F m us items) : ItOk cl F m H items (Itt K a) :=
  itOk_at r (by rw [← r.length]; exact walk_tup) fun F2 m2 vh2 H2 g w => w.sqT (g.gr.ext _ _ e)
theorem itOk_fn {items : List D} {J : It} {f : Nat → V} (wk : Walk J items.length (fun _ => True) (YFn f)) (h : ∀ F m i d, items[i]? = some d → Rep cl F m (f i) d) : ItOk cl F m H items J := by
  refine ⟨_, _, wk, fun _ _ _ _ _ _ => trivial, fun i H2 x H3 F2 m2 vh2 hi g w y => ?_⟩
  obtain ⟨rfl, rfl⟩ := y
  exact ⟨F2, items[i], .refl, w, List.getElem?_eq_getElem hi, h _ _ _ _ (List.getElem?_eq_getElem hi)⟩
def rangeL (lo : Int) (n : Nat) : List D := (List.range n).map fun i => D.int (lo + (i : Nat))
theorem itOk_range {lo : Int} {n : Nat} : ItOk cl F m H (rangeL lo n) (Itr lo n) :=
  itOk_fn (by
    rw [show (rangeL lo n).length = n by simp [rangeL]]
    exact walk_range) fun F m i d e => by
      unfold rangeL at e
      rw [List.getElem?_map] at e
      cases q : (List.range n)[i]? with
      | none => rw [q] at e; cases e
      | some j =>
        rw [q] at e
        obtain ⟨hl, ej⟩ := List.getElem?_eq_some_iff.mp q
        simp at ej
        subst ej
        cases Option.some.inj e
        exact .int _
def signsL (s : Str) : List D := s.cps.toList.map fun c => D.str ⟨#[c]⟩
theorem itOk_str {z : Str} : ItOk cl F m H (signsL z) (Its z) := by
  refine ⟨fun _ => True, _, (by
    rw [show (signsL z).length = z.cps.size by simp [signsL]]
    exact walk_str), fun _ _ _ _ _ _ => trivial, fun i H2 x H3 F2 m2 vh2 hi g w y => ?_⟩
  obtain ⟨rfl, c, e, rfl⟩ := y
  refine ⟨F2, .str ⟨#[c]⟩, .refl, w, ?_, .str _⟩
  unfold signsL
  rw [List.getElem?_map, Array.getElem?_toList, e]
  rfl
theorem itOk_lck {items : List D} {a : Addr} {o : Obj} {us : List V} (e : H a = some (.frz o (.lst us))) (r : Reps cl F m us items) : ItOk cl F m H items (Itl K a) :=
  itOk_at (G := fun H => SqL K H a us) r (by rw [← r.length]; exact walk_list) fun F2 m2 vh2 H2 g w => Or.inl (Or.inr ⟨o, g.frz _ _ _ e⟩)
/-- a new pair at each turn -/
def pairL (xs ys : List D) : List D := (xs.zip ys).map fun p => D.tup [p.1, p.2]
theorem itOk_pair {J : It} {n : Nat} {G : Hp → Prop} {f g : Nat → Option V} {xs ys : List D} (hn : n = min xs.length ys.length) (wk : Walk J n G (YPair f g)) (hG : ∀ F2 m2 vh2 H2, Post F m H F2 m2 H2 → Wd cl F2 m2 vh2 H2 → G H2)
    (hx : ∀ i v, f i = some v → i < n → ∃ d, xs[i]? = some d ∧ Rep cl F m v d) (hy : ∀ i v, g i = some v → i < n → ∃ d, ys[i]? = some d ∧ Rep cl F m v d) : ItOk cl F m H (pairL xs ys) J := by
  have hl : (pairL xs ys).length = n := by simp [pairL, hn]
  refine ⟨G, _, (by rw [hl]; exact wk), hG, fun i H2 x H3 F2 m2 vh2 hi g w y => ?_⟩
  rw [hl] at hi
  obtain ⟨T, u, v, rfl, nT, rfl, e1, e2⟩ := y
  obtain ⟨d1, f1, r1⟩ := hx i u e1 hi
  obtain ⟨d2, f2, r2⟩ := hy i v e2 hi
  have z := w.frozen (o := .tup [u, v]) nT
  refine ⟨_, .tup [d1, d2], z.2, z.1, ?_, .tup upd_same (.cons ((r1.mono g).mono z.2.gr) (.cons ((r2.mono g).mono z.2.gr) .nil))⟩
  unfold pairL
  rw [List.getElem?_map, show (xs.zip ys)[i]? = some (d1, d2) from List.getElem?_zip_eq_some.mpr ⟨f1, f2⟩]
  rfl
theorem itOk_zip {xs ys : List D} {a b : Addr} {us vs : List V} (e1 : F a = some (.lst us)) (e2 : F b = some (.lst vs)) (r1 : Reps cl F m us xs) (r2 : Reps cl F m vs ys) : ItOk cl F m H (pairL xs ys) (Itz K a b) :=
  itOk_pair rfl (walk_zip (xs := us) (ys := vs) (by rw [r1.length, r2.length])) (fun F2 m2 vh2 H2 g w => ⟨w.sqL (g.gr.ext _ _ e1), w.sqL (g.gr.ext _ _ e2)⟩) (fun i v e _ => r1.get' e) fun i v e _ => r2.get' e
def enumL (xs : List D) : List D := pairL ((List.range xs.length).map fun (i : Nat) => D.int (i : Nat)) xs
theorem itOk_enum {xs : List D} {a : Addr} {us : List V} (e1 : F a = some (.lst us)) (r1 : Reps cl F m us xs) : ItOk cl F m H (enumL xs) (Ite K a) := by
  refine itOk_pair (n := us.length) (by simp [r1.length]) walk_enum (fun F2 m2 vh2 H2 g w => w.sqL (g.gr.ext _ _ e1)) (fun i v e hi => ?_) fun i v e _ => r1.get' e
  have : v = .int (i : Nat) := (Option.some.inj e).symm
  subst this
  refine ⟨.int (i : Nat), ?_, .int _⟩
  rw [r1.length] at hi
  simp [hi]

theorem itOk_enumL {xs : List D} {a : Addr} {o : Obj} {us : List V} (e1 : H a = some (.frz o (.lst us))) (r1 : Reps cl F m us xs) : ItOk cl F m H (enumL xs) (Ite K a) := by
  refine itOk_pair (n := us.length) (by simp [r1.length]) walk_enum (fun F2 m2 vh2 H2 g w => (Or.inl (Or.inr ⟨o, g.frz _ _ _ e1⟩) : SqL K H2 a us)) (fun i v e hi => ?_) fun i v e _ => r1.get' e
  have : v = .int (i : Nat) := (Option.some.inj e).symm
  subst this
  refine ⟨.int (i : Nat), ?_, .int _⟩
  rw [r1.length] at hi
  simp [hi]
/-- what a for may walk by itself -/
def lckAt : Option (Option MO) → Option (List D)
  | some (some (.lstL xs)) => some xs
  | _ => none
theorem lckAt_eq {o : Option (Option MO)} {xs : List D} (e : lckAt o = some xs) : o = some (some (.lstL xs)) := by
  unfold lckAt at e
  split at e
  · cases e; rfl
  · cases e
theorem Wd.refLck {v : V} {n : Nat} {xs : List D} (w : Wd cl F m vh H) (r : Rep cl F m v (.ref n)) (e : lckAt vh[n]? = some xs) : ∃ a o us, v = .ref a ∧ H a = some (.frz o (.lst us)) ∧ Reps cl F m us xs := by
  cases r with
  | ref h =>
    obtain ⟨_, o, us, h1, h2⟩ := w.live _ _ _ h (lckAt_eq e)
    exact ⟨_, o, us, rfl, h1, h2⟩
def seqIt : D → M (List D)
  | .ref n => fun vh => (lckAt vh[n]?).map fun xs => (xs, vh)
  | .lst xs => ret xs
  | .tup xs => ret xs
  | .str s => ret (signsL s)
  | .scr ns => ret (ns.map D.int)
  | _ => fail
theorem di_seq {e : Expr} {f : Rho → M D} (he : DE cl X e f) : DI cl X tg e (fun ρ => bind (f ρ) seqIt) :=
  PIw (PIor (pi_list he) (PIor (pi_tup he) (pi_str he))) fun σ H R ⟨F, m, vh, ρ, w, r, q⟩ => by
    have q0 := Run.bind q
    cases e0 : f ρ vh with
    | none =>
      rw [e0] at q0
      exact False.elim q0
    | some z =>
      obtain ⟨d, vh1⟩ := z
      rw [e0] at q0
      cases d with
      | lst xs =>
        refine .inl ⟨F, m, vh, ρ, w, r, ?_⟩
        rw [e0]
        intro F1 m1 H1 p w1 v rv
        obtain ⟨a, us, rfl, ea, ru⟩ := rep_lst rv
        exact ⟨a, rfl, ⟨us, w1.sqL ea⟩, Run.ret (q0 F1 m1 H1 p w1) w1 _ (itOk_list ea ru)⟩
      | scr ns =>
        refine .inl ⟨F, m, vh, ρ, w, r, ?_⟩
        rw [e0]
        intro F1 m1 H1 p w1 v rv
        cases rv with
        | @scr a o _ ea =>
          exact ⟨a, rfl, ⟨_, .inl (.inr ⟨o, w1.ext _ _ ea⟩)⟩, Run.ret (q0 F1 m1 H1 p w1) w1 _ (itOk_scr ea)⟩
      | tup xs =>
        refine .inr (.inl ⟨F, m, vh, ρ, w, r, ?_⟩)
        rw [e0]
        intro F1 m1 H1 p w1 v rv
        obtain ⟨a, us, rfl, ea, ru⟩ := rep_tup rv
        exact ⟨a, rfl, ⟨us, w1.sqT ea⟩, Run.ret (q0 F1 m1 H1 p w1) w1 _ (itOk_tup ea ru)⟩
      | ref n =>
        refine .inl ⟨F, m, vh, ρ, w, r, ?_⟩
        rw [e0]
        intro F1 m1 H1 p w1 v rv
        have q1 : Run cl F1 m1 H1 ((lckAt vh1[n]?).map fun xs => (xs, vh1)) (kI cl R) := q0 F1 m1 H1 p w1
        cases e1 : lckAt vh1[n]? with
        | none => rw [e1] at q1; exact False.elim q1
        | some xs =>
          rw [e1] at q1
          obtain ⟨a, o, us, rfl, ea, ru⟩ := w1.refLck rv e1
          exact ⟨a, rfl, ⟨us, .inl (.inr ⟨o, ea⟩)⟩, Run.ret (a := xs) q1 w1 _ (itOk_lck ea ru)⟩
      | str s =>
        refine .inr (.inr ⟨F, m, vh, ρ, w, r, ?_⟩)
        rw [e0]
        intro F1 m1 H1 p w1 v rv
        cases rv
        exact ⟨s, rfl, Run.ret (q0 F1 m1 H1 p w1) w1 _ itOk_str⟩
      | _ =>
        refine .inl ⟨F, m, vh, ρ, w, r, ?_⟩
        rw [e0]
        intro F1 m1 H1 p w1
        exact False.elim (q0 F1 m1 H1 p w1)
/-- range(n), range(a, b) -/
def range1It : List D → M (List D)
  | [.int n] => if -(2 ^ 62) ≤ n ∧ n < 2 ^ 62 then ret (rangeL 0 n.toNat) else fail
  | _ => fail
def range2It : List D → M (List D)
  | [.int a, .int b] => if -(2 ^ 62) ≤ a ∧ a < 2 ^ 62 ∧ -(2 ^ 62) ≤ b ∧ b < 2 ^ 62 then ret (rangeL a (b - a).toNat) else fail
  | _ => fail
def zipIt : List D → M (List D)
  | [.lst xs, .lst ys] => ret (pairL xs ys)
  | _ => fail
def enumIt : List D → M (List D)
  | [.ref n] => fun vh => (lckAt vh[n]?).map fun xs => (enumL xs, vh)
  | [.lst xs] => ret (enumL xs)
  | _ => fail
theorem rep_int {v : V} {i : Int} (h : Rep cl F m v (.int i)) : v = .int i := by cases h; rfl
/-- one argument -/
theorem reps1 {vs : List V} {d : D} (h : Reps cl F m vs [d]) : ∃ v, vs = [v] ∧ Rep cl F m v d := by
  cases h with
  | cons r t => cases t; exact ⟨_, rfl, r⟩
theorem reps2 {vs : List V} {d e : D} (h : Reps cl F m vs [d, e]) : ∃ v u, vs = [v, u] ∧ Rep cl F m v d ∧ Rep cl F m u e := by
  cases h with
  | cons r t =>
    obtain ⟨u, rfl, r'⟩ := reps1 t
    exact ⟨_, u, rfl, r, r'⟩
theorem di_range1 {a e : Expr} {fs : Rho → M (List D)} (ha : DA cl X [a] fs) (hb : ∀ {ta : TA}, PA X [a] ta → PI X tg e (iRng1 ta)) : DI cl X tg e (fun ρ => bind (fs ρ) range1It) :=
  PIw (hb ha) fun σ H R ⟨F, m, vh, ρ, w, r, q⟩ => tDs_bind w r q fun F1 m1 vh1 H1 as vs w1 r1 g1 rvs q1 => by
    unfold range1It at q1
    split at q1
    · obtain ⟨v, rfl, rv⟩ := reps1 rvs
      cases rep_int rv
      obtain ⟨hc, q1⟩ := run_if q1
      exact ⟨_, rfl, hc.1, hc.2, Run.ret q1 w1 _ itOk_range⟩
    · exact False.elim q1
theorem di_range2 {a b e : Expr} {fs : Rho → M (List D)} (ha : DA cl X [a, b] fs) (hb : ∀ {ta : TA}, PA X [a, b] ta → PI X tg e (iRng2 ta)) : DI cl X tg e (fun ρ => bind (fs ρ) range2It) :=
  PIw (hb ha) fun σ H R ⟨F, m, vh, ρ, w, r, q⟩ => tDs_bind w r q fun F1 m1 vh1 H1 as vs w1 r1 g1 rvs q1 => by
    unfold range2It at q1
    split at q1
    · obtain ⟨v, u, rfl, rv, ru⟩ := reps2 rvs
      cases rep_int rv
      cases rep_int ru
      obtain ⟨hc, q1⟩ := run_if q1
      exact ⟨_, _, rfl, hc, Run.ret q1 w1 _ itOk_range⟩
    · exact False.elim q1
theorem di_zip {a b e : Expr} {fs : Rho → M (List D)} (ha : DA cl X [a, b] fs) (hb : ∀ {ta : TA}, PA X [a, b] ta → PI X tg e (iZip X.K ta)) : DI cl X tg e (fun ρ => bind (fs ρ) zipIt) :=
  PIw (hb ha) fun σ H R ⟨F, m, vh, ρ, w, r, q⟩ => tDs_bind w r q fun F1 m1 vh1 H1 as vs w1 r1 g1 rvs q1 => by
    unfold zipIt at q1
    split at q1
    · obtain ⟨v, u, rfl, rv, ru⟩ := reps2 rvs
      obtain ⟨a, us, rfl, ea, rs⟩ := rep_lst rv
      obtain ⟨b, ws, rfl, eb, rs'⟩ := rep_lst ru
      exact ⟨a, b, us, ws, rfl, w1.sqL ea, w1.sqL eb, Run.ret q1 w1 _ (itOk_zip ea eb rs rs')⟩
    · exact False.elim q1
theorem di_enum {a e : Expr} {fs : Rho → M (List D)} (ha : DA cl X [a] fs) (hb : ∀ {ta : TA}, PA X [a] ta → PI X tg e (iEnum X.K ta)) : DI cl X tg e (fun ρ => bind (fs ρ) enumIt) :=
  PIw (hb ha) fun σ H R ⟨F, m, vh, ρ, w, r, q⟩ => tDs_bind w r q fun F1 m1 vh1 H1 as vs w1 r1 g1 rvs q1 => by
    unfold enumIt at q1
    split at q1
    · rename_i n
      obtain ⟨v, rfl, rv⟩ := reps1 rvs
      cases e1 : lckAt vh1[n]? with
      | none => rw [e1] at q1; exact False.elim q1
      | some xs =>
        rw [e1] at q1
        obtain ⟨a, o, us, rfl, ea, ru⟩ := w1.refLck rv e1
        exact ⟨a, us, rfl, .inl (.inr ⟨o, ea⟩), Run.ret (a := enumL xs) q1 w1 _ (itOk_enumL ea ru)⟩
    · obtain ⟨v, rfl, rv⟩ := reps1 rvs
      obtain ⟨a, us, rfl, ea, rs⟩ := rep_lst rv
      exact ⟨a, us, rfl, w1.sqL ea, Run.ret q1 w1 _ (itOk_enum ea rs)⟩
    · exact False.elim q1

/-! ### comprehensions -/
def wipeR (ρ : Rho) : List Nat → Rho
  | [] => ρ
  | v :: vs => (wipeR ρ vs).set v none
theorem RS.wipe {ρ : Rho} {σ : Sl} (r : RS cl F m σ ρ) : ∀ vs : List Nat, RS cl F m (wipe σ vs) (wipeR ρ vs)
  | [] => r
  | v :: vs => by
    have ih := RS.wipe r vs
    refine ⟨by simp [L2.wipe, wipeR, ih.len], fun i d h => ?_⟩
    unfold wipeR at h
    by_cases hi : v = i
    · subst hi
      have hl : v < (wipeR ρ vs).length := by
        have := (List.getElem?_eq_some_iff.mp h).1
        simpa using this
      rw [List.getElem?_set_self hl] at h
      cases h
    · rw [List.getElem?_set_ne hi] at h
      obtain ⟨v', e, rv⟩ := ih.at_ i d h
      exact ⟨v', by unfold L2.wipe; rw [List.getElem?_set_ne hi]; exact e, rv⟩
def compL (g : Tg) (t : Rho → M Bool) (e : Rho → M D) (ρ : Rho) : List D → M (List D)
  | [] => ret []
  | d :: ds => bind (g d ρ) fun ρ' => bind (t ρ') fun b => if b then bind (e ρ') fun y => bind (compL g t e ρ ds) fun ys => ret (y :: ys) else compL g t e ρ ds
theorem wipe_same {σ σ' : Sl} {S vs : List Nat} (hl : σ'.length = σ.length) (h : ∀ i, i ∉ S → σ'[i]? = σ[i]?) (hs : ∀ i, i ∈ S → i ∈ vs) : wipe σ' vs = wipe σ vs := by
  apply List.ext_getElem?
  intro i
  by_cases hi : i ∈ vs
  · have out : ∀ (τ : Sl) (vs : List Nat), i ∈ vs → (wipe τ vs)[i]? = if i < τ.length then some none else none := by
      intro τ vs
      induction vs with
      | nil => intro h; cases h
      | cons v vs ih =>
        intro h
        unfold L2.wipe
        by_cases e : v = i
        · subst e
          rw [List.getElem?_set]
          simp [wipe_length]
        · rw [List.getElem?_set_ne e]
          rcases List.mem_cons.mp h with z | z
          · exact absurd z.symm e
          · exact ih z
    rw [out σ' vs hi, out σ vs hi, hl]
  · rw [wipe_out hi, wipe_out hi]
    exact h i fun z => hi (hs i z)
def lcD (f : Rho → M (List D)) (g : Tg) (t : Rho → M Bool) (e : Rho → M D) (vs : List Nat) (mk : List D → M D) : Rho → M D := fun ρ => bind (f ρ) fun items => if items.length < line then bind (compL g t e (wipeR ρ vs) items) mk else fail
theorem bind_assoc {α β γ : Type} (a : M α) (b : α → M β) (c : β → M γ) : bind (bind a b) c = bind a fun x => bind (b x) c := by
  funext s
  unfold bind
  cases a s <;> rfl
theorem ret_bind {α β : Type} (a : α) (k : α → M β) : bind (ret a) k = k a := rfl
theorem wipe_idem (σ : Sl) (vs : List Nat) : wipe (wipe σ vs) vs = wipe σ vs := wipe_same (S := vs) (wipe_length _ _) (fun i hi => wipe_out hi) fun i hi => hi
theorem tT_bind' {α : Type} {f : Rho → M Bool} {g : Bool → M α} {k : Kn α} {Q : Bool → Hp → Prop} (w : Wd cl F m vh H) (r : RS cl F m σ ρ) (h : Run cl F m H (bind (f ρ) g vh) k)
    (hq : ∀ F1 m1 vh1 H1 a, Wd cl F1 m1 vh1 H1 → Post F m H F1 m1 H1 → Run cl F1 m1 H1 (g a vh1) k → Q a H1) : tT cl f σ H Q :=
  ⟨F, m, vh, ρ, w, r, (Run.bind h).mono fun F1 m1 vh1 H1 a p w1 q => hq F1 m1 vh1 H1 a w1 p q⟩
theorem tD_bind' {α : Type} {f : Rho → M D} {g : D → M α} {k : Kn α} {Q : VK} (w : Wd cl F m vh H) (r : RS cl F m σ ρ) (h : Run cl F m H (bind (f ρ) g vh) k)
    (hq : ∀ F1 m1 vh1 H1 a v, Wd cl F1 m1 vh1 H1 → Post F m H F1 m1 H1 → Rep cl F1 m1 v a → Run cl F1 m1 H1 (g a vh1) k → Q v H1) : tD cl f σ H Q :=
  ⟨F, m, vh, ρ, w, r, (Run.bind h).mono fun F1 m1 vh1 H1 a p w1 q v rv => hq F1 m1 vh1 H1 a v w1 p rv q⟩
/-- the heap without D -/
def mask (D : Addr) (H : Hp) : Hp := fun a => if a = D then none else H a
theorem mask_same {D : Addr} : mask D H D = none := if_pos rfl
theorem mask_ne {D a : Addr} (h : a ≠ D) : mask D H a = H a := if_neg h
theorem mask_upd {D : Addr} {o : HO} : mask D (upd H D o) = mask D H := by
  funext a
  unfold mask
  split
  · rfl
  · rw [upd_ne (by assumption)]
theorem mask_none {D : Addr} (h : H D = none) : mask D H = H := by
  funext a
  unfold mask
  split
  · subst a; exact h.symm
  · rfl
theorem upd_mask {D : Addr} {o : HO} (h : H D = some o) : upd (mask D H) D o = H := by
  funext a
  by_cases e : a = D
  · subst e; rw [upd_same, h]
  · rw [upd_ne e, mask_ne e]
theorem Post.masked {D : Addr} (p : Post F m H F' m' H') : Post F m (mask D H) F' m' (mask D H') := ⟨p.gr, fun a o e n => by
  have ha : a ≠ D := fun z => by subst z; rw [mask_same] at e; cases e
  rw [mask_ne ha] at e
  obtain ⟨h1, h2, h3⟩ := p.fr a o e n
  exact ⟨by rw [mask_ne ha]; exact h1, h2, h3⟩, fun a o u e => by
  have ha : a ≠ D := fun z => by subst z; rw [mask_same] at e; cases e
  rw [mask_ne ha] at e ⊢
  exact p.frz a o u e⟩
theorem Wd.masked {D : Addr} {vh : VH} (w : Wd cl F m vh H) (hm : D ∉ m) (hF : F D = none) : Wd cl F m vh (mask D H) := by
  refine ⟨fun a o e => ?_, w.len, w.nd, fun a h => ?_, fun n a mo g1 g2 => ?_⟩
  · rw [mask_ne (fun z => by subst z; rw [hF] at e; cases e)]
    exact w.ext0 _ _ e
  · rw [mask_ne (fun z => by subst z; exact hm h)]
    exact w.used a h
  · obtain ⟨y1, y2⟩ := w.live n a mo g1 g2
    have hne : a ≠ D := fun y => by subst y; exact hm (List.mem_of_getElem? g1)
    refine ⟨y1, ?_⟩
    cases mo with
    | lst ds => obtain ⟨us, y3, y4⟩ := y2; exact ⟨us, by rw [mask_ne hne]; exact y3, y4⟩
    | dct ks ds => obtain ⟨us, y3, y4⟩ := y2; exact ⟨us, by rw [mask_ne hne]; exact y3, y4⟩
    | dctL ks ds => obtain ⟨ob, us, y3, y4⟩ := y2; exact ⟨ob, us, by rw [mask_ne hne]; exact y3, y4⟩
    | lstL ds => obtain ⟨ob, us, y3, y4⟩ := y2; exact ⟨ob, us, by rw [mask_ne hne]; exact y3, y4⟩
    | obj C ns ds => obtain ⟨dx, us, y3, y4⟩ := y2; exact ⟨dx, us, by rw [mask_ne hne]; exact y3, y4⟩
theorem Wd.aside {D : Addr} {vh : VH} {o : HO} (w : Wd cl F m vh H) (hm : D ∉ m) (hF : F D = none) : Wd cl F m vh (upd H D o) := by
  refine ⟨fun a o e => ?_, w.len, w.nd, fun a h => ?_, fun n a mo g1 g2 => ?_⟩
  · rw [upd_ne (fun z => by subst z; rw [hF] at e; cases e)]
    exact w.ext0 _ _ e
  · rw [upd_ne (fun z => by subst z; exact hm h)]
    exact w.used a h
  · obtain ⟨y1, y2⟩ := w.live n a mo g1 g2
    have hne : a ≠ D := fun y => by subst y; exact hm (List.mem_of_getElem? g1)
    refine ⟨y1, ?_⟩
    cases mo with
    | lst ds => obtain ⟨us, y3, y4⟩ := y2; exact ⟨us, by rw [upd_ne hne]; exact y3, y4⟩
    | dct ks ds => obtain ⟨us, y3, y4⟩ := y2; exact ⟨us, by rw [upd_ne hne]; exact y3, y4⟩
    | dctL ks ds => obtain ⟨ob, us, y3, y4⟩ := y2; exact ⟨ob, us, by rw [upd_ne hne]; exact y3, y4⟩
    | lstL ds => obtain ⟨ob, us, y3, y4⟩ := y2; exact ⟨ob, us, by rw [upd_ne hne]; exact y3, y4⟩
    | obj C ns ds => obtain ⟨dx, us, y3, y4⟩ := y2; exact ⟨dx, us, by rw [upd_ne hne]; exact y3, y4⟩
/-- a part's run, while the thing at D is looked away from -/
theorem run_masked {α β : Type} {D : Addr} {c : M α} {g : α → M β} {k : Kn β} {k' : Kn α} (h : Run cl F m (mask D H) (bind c g vh) k)
    (hk : ∀ F1 m1 vh1 H1 a, Wd cl F1 m1 vh1 H1 → Post F m H F1 m1 H1 → Run cl F1 m1 (mask D H1) (g a vh1) k → k' F1 m1 vh1 H1 a) : Run cl F m H (c vh) k' := by
  unfold bind at h
  cases e : c vh with
  | none =>
    rw [e] at h
    exact False.elim h
  | some z =>
    obtain ⟨a, vh1⟩ := z
    rw [e] at h
    exact fun F1 m1 H1 p w1 => hk F1 m1 vh1 H1 a w1 p (Run.pre h p.masked)
/-- what a comprehension's reading wants -/
theorem Post.onD {D : Addr} {o : HO} (p : Post F m H F' m' H') (hD : H D = none) : Post F m H F' m' (upd H' D o) := ⟨p.gr, fun a u e n => by
  obtain ⟨h1, h2, h3⟩ := p.fr a u e n
  exact ⟨by rw [upd_ne (ne_of_none e hD)]; exact h1, h2, h3⟩, fun a o u e => by rw [upd_ne (ne_of_none e hD)]; exact p.frz a o u e⟩
theorem tLcG {f : Rho → M (List D)} {wi : TI} {S : List Nat} {g : Tg} {t : Rho → M Bool} {e : Rho → M D} {vs : List Nat} {Q : VK} {mk : List D → M D}
    (hS : ∀ i, i ∈ S → i ∈ vs) (w : Wd cl F m vh H) (r : RS cl F m σ ρ) (q : Run cl F m H (lcD f g t e vs mk ρ vh) (kV' cl Q)) (hI : ∀ R : It → Hp → Prop, Run cl F m H (f ρ vh) (kI cl R) → wi σ H R)
    (hmk : ∀ {F m vh H} {us : List V} {xs : List D} {p : Addr}, Run cl F m (H : Hp) (mk xs vh) (kV' cl Q) → Wd cl F m vh H → Reps cl F m us xs → us.length ≤ line → H p = none → Q (.ref p) (upd H p (.lst us))) :
    tLc wi (tG cl S g) (tT cl t) (tD cl e) vs σ H Q := by
  refine hI _ ((Run.bind q).mono fun F1 m1 vh1 H1 items p1 w1 q1 J ok => ?_)
  have r1 := r.mono p1.gr
  obtain ⟨hlen, q1⟩ := run_if q1
  intro D hD
  obtain ⟨G, Y, wk, hG, hY⟩ := ok
  have hF1 : F1 D = none := w1.freeF hD
  have hm1 : D ∉ m1 := fun z => w1.used D z hD
  refine lc_it wk (fun i H => ∃ F2 m2 vh2 us ys, Post F1 m1 H1 F2 m2 H ∧ Wd cl F2 m2 vh2 H ∧ H D = some (.lst us) ∧ D ∉ m2 ∧ F2 D = none ∧ Reps cl F2 m2 us ys ∧ us.length ≤ i ∧
      Run cl F2 m2 (mask D H) (bind (compL g t e (wipeR ρ vs) (items.drop i)) (fun zs => mk (ys ++ zs)) vh2) (kV' cl Q)) ?_ ?_ ?_ ?_
  · refine ⟨F1, m1, vh1, [], [], Post.refl.onD hD, w1.aside hm1 hF1, upd_same, hm1, hF1, .nil, Nat.le_refl _, ?_⟩
    rw [mask_upd, mask_none hD]
    exact q1
  · rintro i H2 _ ⟨F2, m2, vh2, us, ys, g2, w2, _⟩
    exact hG F2 m2 vh2 H2 g2 w2
  · rintro i x H2 H3 hi ⟨F2, m2, vh2, us, ys, g2, w2, hd2, hm2, hf2, ru, hul, q2⟩ y
    obtain ⟨F3, d, p3, w3, ed, rv⟩ := hY i H2 x H3 F2 m2 vh2 hi g2.gr w2 y
    have q3 := Run.pre q2 p3.masked
    rw [List.drop_eq_getElem_cons hi] at q3
    have ed' : items[i] = d := by
      rw [List.getElem?_eq_getElem hi] at ed
      exact Option.some.inj ed
    rw [ed'] at q3
    obtain ⟨hd3, ef3, hm3⟩ := p3.fr D _ hd2 hm2
    refine ⟨F3, m2, vh2, wipeR ρ vs, d, w3, (r1.mono (g2.gr.trans p3.gr)).wipe vs, rv, ?_⟩
    unfold compL at q3
    rw [bind_assoc] at q3
    refine run_masked q3 fun F4 m4 vh4 H4 ρ4 w4 p4 q4 σ4 r4 hl4 hs4 => ?_
    refine ⟨(wipe_same hl4 hs4 hS).trans (wipe_idem σ vs), ?_⟩
    rw [bind_assoc] at q4
    obtain ⟨hd4, ef4, hm4⟩ := p4.fr D _ hd3 hm3
    refine ⟨F4, m4, vh4, ρ4, w4, r4, run_masked q4 fun F5 m5 vh5 H5 b w5 p5 q5 => ?_⟩
    obtain ⟨hd5, ef5, hm5⟩ := p5.fr D _ hd4 hm4
    have gg : Post F1 m1 H1 F5 m5 H5 := g2.trans (p3.trans (p4.trans p5))
    show if b = true then _ else _
    cases b with
    | false =>
      refine iteF ⟨F5, m5, vh5, us, ys, gg, w5, hd5, hm5, by rw [ef5, ef4, ef3, hf2], ru.mono (p3.gr.trans (p4.gr.trans p5.gr)), by omega, ?_⟩
      rw [if_neg Bool.false_ne_true] at q5
      exact q5
    | true =>
      rw [if_pos rfl, bind_assoc] at q5
      refine iteT ⟨F5, m5, vh5, ρ4, w5, r4.mono p5.gr, run_masked q5 fun F6 m6 vh6 H6 z w6 p6 q6 v rz => ?_⟩
      rw [bind_assoc] at q6
      obtain ⟨hd6, ef6, hm6⟩ := p6.fr D _ hd5 hm5
      have f6 : F6 D = none := by rw [ef6, ef5, ef4, ef3, hf2]
      have g6 := (p3.gr.trans (p4.gr.trans (p5.gr.trans p6.gr)))
      refine ⟨us, hd6, Nat.lt_of_le_of_lt hul (Nat.lt_trans hi (by rw [sizeLine_eq]; exact hlen)), F6, m6, vh6, us ++ [v], ys ++ [z], (gg.trans p6).onD hD, w6.aside hm6 f6, upd_same, hm6, f6, (ru.mono g6).append (.cons rz .nil), by simp; omega, ?_⟩
      rw [mask_upd]
      have e7 : (fun x => bind (ret (z :: x)) fun zs => mk (ys ++ zs)) = fun zs => mk ((ys ++ [z]) ++ zs) := by
        funext x
        rw [ret_bind]
        simp
      rw [← e7]
      exact q6
  · rintro H2 ⟨F2, m2, vh2, us, ys, g2, w2, hd2, hm2, hf2, ru, hul, q2⟩
    rw [List.drop_length] at q2
    have q3 : Run cl F2 m2 (mask D H2) (mk (ys ++ []) vh2) (kV' cl Q) := q2
    rw [List.append_nil] at q3
    have := hmk q3 (w2.masked hm2 hf2) ru (by omega) mask_same
    rw [upd_mask hd2] at this
    exact this
theorem tLcD {f : Rho → M (List D)} {S : List Nat} {g : Tg} {t : Rho → M Bool} {e : Rho → M D} {vs : List Nat} {Q : VK} {mk : List D → M D}
    (hS : ∀ i, i ∈ S → i ∈ vs) (h : tD cl (lcD f g t e vs mk) σ H Q)
    (hmk : ∀ {F m vh H} {us : List V} {xs : List D} {p : Addr}, Run cl F m (H : Hp) (mk xs vh) (kV' cl Q) → Wd cl F m vh H → Reps cl F m us xs → us.length ≤ line → H p = none → Q (.ref p) (upd H p (.lst us))) :
    tLc (tI cl f) (tG cl S g) (tT cl t) (tD cl e) vs σ H Q := by
  obtain ⟨F, m, vh, ρ, w, r, q⟩ := h
  exact tLcG hS w r q (fun R h => ⟨F, m, vh, ρ, w, r, h⟩) hmk
end
end VL

namespace VL
open PySem PySem.Spec PyProof.Rows L2

section
variable {X : Cx} {cl : Cn} {K : PySem.W.Frag} {F F' F1 F2 : Hp} {m m' m1 m2 : List Addr} {H H' H1 H2 : Hp} {vh vh1 : VH} {ρ : Rho} {σ : Sl} {tg : Expr}
def still0 (xs : List D) : M D := ret (.lst xs)
def fresh0 (xs : List D) : M D := new (.lst xs)
theorem lcD_still {f : Rho → M (List D)} {S vs : List Nat} {g : Tg} {t : Rho → M Bool} {e : Rho → M D} {Q : VK} (hS : ∀ i, i ∈ S → i ∈ vs) (h : tD cl (lcD f g t e vs still0) σ H Q) : tLc (tI cl f) (tG cl S g) (tT cl t) (tD cl e) vs σ H Q :=
  tLcD hS h fun q w r _ hp => runNewLst q w r hp
theorem lcD_fresh {f : Rho → M (List D)} {S vs : List Nat} {g : Tg} {t : Rho → M Bool} {e : Rho → M D} {Q : VK} (hS : ∀ i, i ∈ S → i ∈ vs) (h : tD cl (lcD f g t e vs fresh0) σ H Q) : tLc (tI cl f) (tG cl S g) (tT cl t) (tD cl e) vs σ H Q :=
  tLcD hS h fun q w r _ hp => runNewLstM q w r hp
theorem PTsw {e : List Expr} {t t' : TT} (h : PTs X e t) (w : ∀ σ H Q, t' σ H Q → t σ H Q) : PTs X e t' := ⟨fun pins s σ H Q I q => h.run pins s σ H Q I (w σ H Q q)⟩
def yesT : Rho → M Bool := fun _ => ret true
theorem dts_nil : PTs X [] (tT cl yesT) := PTsw pts_nil fun σ H Q ⟨F, m, vh, ρ, w, r, q⟩ => Run.ret q w
theorem dts_one {c : Expr} {f : Rho → M Bool} (h : DT cl X c f) : PTs X [c] (tT cl f) := pts_one h
section
variable {elt kx vx iter : Expr} {ifs : List Expr} {scope : Scope} {own : List (Str × Nat)} {pos : Pos} {f : Rho → M (List D)} {S : List Nat} {g : Tg} {t : Rho → M Bool} {e ek : Rho → M D}
theorem de_lc (hc : X.calm = true) (hN : X.N.Nodup) (hi : DI cl X tg iter f) (ok : BlkOk X.N X.env.scope scope own)
    (hg : ∀ (s : Shared) (H : Hp) (C : Addr) (cL : List (Str × Addr)) (fp : List Addr), DG cl (X.blk s H scope (compEnvC scope cL C X.env) fp) tg S g)
    (ht : ∀ (s : Shared) (H : Hp) (C : Addr) (cL : List (Str × Addr)) (fp : List Addr), PTs (X.blk s H scope (compEnvC scope cL C X.env) fp) ifs (tT cl t))
    (he : ∀ (s : Shared) (H : Hp) (C : Addr) (cL : List (Str × Addr)) (fp : List Addr), DE cl (X.blk s H scope (compEnvC scope cL C X.env) fp) elt e)
    (hS : ∀ i, i ∈ S → i ∈ own.map (·.2) := by decide) (hs : ∀ x, foldedSetIterable iter X.env x = pure x := by intro _; rfl) : DE cl X (.ListComp elt [⟨tg, iter, ifs, 0⟩] scope pos) (lcD f g t e (own.map (·.2)) still0) :=
  PEw (pe_lc hc hN hi ok hg ht he hs) fun σ H Q h => lcD_still hS h
theorem ds_setLc {i : Nat} {y : Str} {py spos : Pos} (hc : X.calm = true) (hN : X.N.Nodup) (hy : X.N[i]? = some y) (hyl : X.env.scope.names.lookup y = some .local)
    (hsw : swapsWith (.ListComp elt [⟨tg, iter, ifs, 0⟩] scope pos) (some (.Name y py)) spos.line X.env = pure true) (hi : DI cl X tg iter f) (ok : BlkOk X.N X.env.scope scope own)
    (hg : ∀ (s : Shared) (H : Hp) (C : Addr) (cL : List (Str × Addr)) (fp : List Addr), DG cl (X.blk s H scope (compEnvC scope cL C X.env) fp) tg S g)
    (ht : ∀ (s : Shared) (H : Hp) (C : Addr) (cL : List (Str × Addr)) (fp : List Addr), PTs (X.blk s H scope (compEnvC scope cL C X.env) fp) ifs (tT cl t))
    (he : ∀ (s : Shared) (H : Hp) (C : Addr) (cL : List (Str × Addr)) (fp : List Addr), DE cl (X.blk s H scope (compEnvC scope cL C X.env) fp) elt e)
    (hS : ∀ i, i ∈ S → i ∈ own.map (·.2) := by decide) (hs : ∀ x, foldedSetIterable iter X.env x = pure x := by intro _; rfl) :
    DS cl X (.Assign [.Name y py] (.ListComp elt [⟨tg, iter, ifs, 0⟩] scope pos) spos) (asgS (lcD f g t e (own.map (·.2)) still0) (nameG i)) :=
  PSw (ps_setLc (i := i) hc hN hy hyl hsw hi ok hg ht he hs) fun D σ H ⟨F, m, vh, ρ, w, r, q⟩ => by
    refine lcD_still hS ⟨F, m, vh, ρ, w, r, (Run.bind q).mono fun F1 m1 vh1 H1 a p w1 q1 v rv => ?_⟩
    exact Run.ret q1 w1 _ ((r.mono p.gr).set rv i)
end

/-! ### dicts -/
def toKey : D → Option Key
  | .int i => some (.inl i)
  | .str s => some (.inr s)
  | _ => none
theorem rep_key {v : V} {d : D} {k : Key} (e : toKey d = some k) (r : Rep cl F m v d) : v = kV k := by
  cases d with
  | int i => cases Option.some.inj e; cases r; rfl
  | str s => cases Option.some.inj e; cases r; rfl
  | _ => cases e
def valD : List Key → List D → Key → Option D
  | k :: ks, d :: ds, j => if k = j then some d else valD ks ds j
  | _, _, _ => none
def hasK (ks : List Key) (j : Key) : Bool := ks.any fun k => decide (k = j)
def putKs (ks : List Key) (j : Key) : List Key := if hasK ks j = true then ks else ks ++ [j]
def putVs (ks : List Key) (vs : List D) (j : Key) (d : D) : List D := if hasK ks j = true then (ks.zip vs).map (fun p => if p.1 = j then d else p.2) else vs ++ [d]
theorem val_rep {j : Key} : ∀ {kvs : List (Key × V)} {ds : List D}, Reps cl F m (kvs.map (·.2)) ds →
    (∀ d, valD (kvs.map (·.1)) ds j = some d → ∃ v, valV kvs j = some v ∧ Rep cl F m v d) ∧ (valD (kvs.map (·.1)) ds j = none → valV kvs j = none)
  | [], ds, r => by
    cases r
    exact ⟨fun d e => (by cases e), fun _ => rfl⟩
  | p :: kvs, ds, r => by
    cases r with
    | @cons v vs d ds rv rvs =>
      have ih := val_rep (j := j) rvs
      by_cases e : p.1 = j
      · refine ⟨fun d' z => ?_, fun z => ?_⟩
        · simp only [List.map_cons, valD, if_pos e] at z
          cases z
          exact ⟨p.2, valV_pos e, rv⟩
        · simp only [List.map_cons, valD, if_pos e] at z
          cases z
      · refine ⟨fun d' z => ?_, fun z => ?_⟩
        · simp only [List.map_cons, valD, if_neg e] at z
          obtain ⟨u, e1, e2⟩ := ih.1 d' z
          exact ⟨u, by rw [valV_neg e]; exact e1, e2⟩
        · simp only [List.map_cons, valD, if_neg e] at z
          rw [valV_neg e]
          exact ih.2 z
theorem any_mem {kvs : List (Key × V)} {j : Key} : (kvs.any fun kv => decide (kv.1 = j)) = hasK (kvs.map (·.1)) j := by
  unfold hasK
  rw [List.any_map]
  rfl
theorem put_rep {j : Key} {v : V} {d : D} {kvs : List (Key × V)} {ds : List D} (r : Reps cl F m (kvs.map (·.2)) ds) (rv : Rep cl F m v d) :
    (putK kvs j v).map (·.1) = putKs (kvs.map (·.1)) j ∧ Reps cl F m ((putK kvs j v).map (·.2)) (putVs (kvs.map (·.1)) ds j d) := by
  unfold putK putKs putVs
  by_cases h : hasK (kvs.map (·.1)) j = true
  · rw [if_pos (by rw [any_mem]; exact h), if_pos h, if_pos h]
    refine ⟨?_, ?_⟩
    · rw [List.map_map]
      apply List.map_congr_left
      intro p hp
      simp only [Function.comp]
      split <;> rfl
    · clear h
      induction kvs generalizing ds with
      | nil => cases r; exact .nil
      | cons p kvs ih =>
        cases r with
        | @cons u us e es ru rus =>
          simp only [List.map_cons, List.zip_cons_cons]
          refine .cons ?_ (ih rus)
          split
          · exact rv
          · exact ru
  · rw [if_neg (by rw [any_mem]; exact h), if_neg h, if_neg h]
    simp only [List.map_append, List.map_cons, List.map_nil]
    exact ⟨trivial, r.append (.cons rv .nil)⟩
theorem length_putKs (ks : List Key) (j : Key) : (putKs ks j).length ≤ ks.length + 1 := by
  unfold putKs; split <;> simp

/-- a dict comprehension: the pairs, then the dict -/
def dcompL (g : Tg) (t : Rho → M Bool) (ek ev : Rho → M D) (ρ : Rho) : List D → List Key → List D → M (List Key × List D)
  | [], ks, vs => ret (ks, vs)
  | d :: ds, ks, vs => bind (g d ρ) fun ρ' => bind (t ρ') fun b => if b then bind (ek ρ') fun y => bind (ev ρ') fun z => match toKey y with
      | some k => dcompL g t ek ev ρ ds (putKs ks k) (putVs ks vs k z)
      | none => fail
    else dcompL g t ek ev ρ ds ks vs
def dcD (f : Rho → M (List D)) (g : Tg) (t : Rho → M Bool) (ek ev : Rho → M D) (vs : List Nat) (mk : List Key × List D → M D) : Rho → M D := fun ρ => bind (f ρ) fun items => if items.length < line then bind (dcompL g t ek ev (wipeR ρ vs) items [] []) mk else fail
def stillD (p : List Key × List D) : M D := ret (.dct p.1 p.2)
def freshD (p : List Key × List D) : M D := new (.dct p.1 p.2)
theorem dc_walk {J : It} {n : Nat} {G : Hp → Prop} {Y : Nat → Hp → V → Hp → Prop} (wk : Walk J n G Y) {H1 : Hp} {D : Addr} {Qd : Hp → Prop} {T : Nat → Hp → V → Hp → (Hp → Prop) → Prop} (Pv : Nat → Hp → Prop) (h0 : Pv 0 (upd H1 D (.dK [])))
    (hG : ∀ i H, i ≤ n → Pv i H → G H) (hT : ∀ i x H H', i < n → Pv i H → Y i H x H' → T i H x H' (Pv (i + 1))) (hd : ∀ H, Pv n H → Qd H) :
    ∃ W : Nat → Nat → Hp → Prop, (∃ m, W 0 m (upd H1 D (.dK []))) ∧ ∀ i m H, W i m H →
      (J.stop i H ∧ Qd H) ∨ (J.go i H ∧ ∃ Nx : Hp → Prop, (∀ H', Nx H' → ∃ m', m' < m ∧ W (i + 1) m' H') ∧ ∀ x H', J.yld i H x H' → T i H x H' Nx) := by
  refine ⟨fun i m H => m = n - i ∧ i ≤ n ∧ Pv i H, ⟨n, rfl, Nat.zero_le _, h0⟩, ?_⟩
  intro i m H h
  obtain ⟨e, hi, p⟩ := h
  rcases Nat.lt_or_ge i n with hlt | hge
  · exact Or.inr ⟨wk.goes i H hlt (hG i H hi p), Pv (i + 1), fun H' p' => ⟨n - (i + 1), by omega, rfl, hlt, p'⟩, fun x H' y => hT i x H H' hlt p (wk.yields i H x H' hlt (hG i H hi p) y)⟩
  · have : i = n := by omega
    subst this
    exact Or.inl ⟨wk.stops H (hG i H hi p), hd H p⟩
theorem tDcG {f : Rho → M (List D)} {wi : TI} {S : List Nat} {g : Tg} {t : Rho → M Bool} {ek ev : Rho → M D} {vs : List Nat} {Q : VK} {mk : List Key × List D → M D}
    (hS : ∀ i, i ∈ S → i ∈ vs) (w : Wd cl F m vh H) (r : RS cl F m σ ρ) (q : Run cl F m H (dcD f g t ek ev vs mk ρ vh) (kV' cl Q)) (hI : ∀ R : It → Hp → Prop, Run cl F m H (f ρ vh) (kI cl R) → wi σ H R)
    (hmk : ∀ {F m vh H} {kvs : List (Key × V)} {xs : List D} {p : Addr}, Run cl F m (H : Hp) (mk (kvs.map (·.1), xs) vh) (kV' cl Q) → Wd cl F m vh H → Reps cl F m (kvs.map (·.2)) xs → H p = none → Q (.ref p) (upd H p (.dK kvs))) :
    tDc wi (tG cl S g) (tT cl t) (tD cl ek) (tD cl ev) vs σ H Q := by
  refine hI _ ((Run.bind q).mono fun F1 m1 vh1 H1 items p1 w1 q1 J ok => ?_)
  have r1 := r.mono p1.gr
  obtain ⟨hlen, q1⟩ := run_if q1
  intro D hD
  obtain ⟨G, Y, wk, hG, hY⟩ := ok
  have hF1 : F1 D = none := w1.freeF hD
  have hm1 : D ∉ m1 := fun z => w1.used D z hD
  refine dc_walk wk (fun i H => ∃ F2 m2 vh2 kvs ys, Post F1 m1 H1 F2 m2 H ∧ Wd cl F2 m2 vh2 H ∧ H D = some (.dK kvs) ∧ D ∉ m2 ∧ F2 D = none ∧ Reps cl F2 m2 (kvs.map (·.2)) ys ∧ kvs.length ≤ i ∧
      Run cl F2 m2 (mask D H) (bind (dcompL g t ek ev (wipeR ρ vs) (items.drop i) (kvs.map (·.1)) ys) mk vh2) (kV' cl Q)) ?_ ?_ ?_ ?_
  · refine ⟨F1, m1, vh1, [], [], Post.refl.onD hD, w1.aside hm1 hF1, upd_same, hm1, hF1, .nil, Nat.le_refl _, ?_⟩
    rw [mask_upd, mask_none hD]
    exact q1
  · rintro i H2 _ ⟨F2, m2, vh2, us, ys, g2, w2, _⟩
    exact hG F2 m2 vh2 H2 g2 w2
  · rintro i x H2 H3 hi ⟨F2, m2, vh2, kvs, ys, g2, w2, hd2, hm2, hf2, ru, hul, q2⟩ y
    obtain ⟨F3, d, p3, w3, ed, rv⟩ := hY i H2 x H3 F2 m2 vh2 hi g2.gr w2 y
    have q3 := Run.pre q2 p3.masked
    rw [List.drop_eq_getElem_cons hi] at q3
    have ed' : items[i] = d := by
      rw [List.getElem?_eq_getElem hi] at ed
      exact Option.some.inj ed
    rw [ed'] at q3
    obtain ⟨hd3, ef3, hm3⟩ := p3.fr D _ hd2 hm2
    refine ⟨F3, m2, vh2, wipeR ρ vs, d, w3, (r1.mono (g2.gr.trans p3.gr)).wipe vs, rv, ?_⟩
    unfold dcompL at q3
    rw [bind_assoc] at q3
    refine run_masked q3 fun F4 m4 vh4 H4 ρ4 w4 p4 q4 σ4 r4 hl4 hs4 => ?_
    refine ⟨(wipe_same hl4 hs4 hS).trans (wipe_idem σ vs), ?_⟩
    rw [bind_assoc] at q4
    obtain ⟨hd4, ef4, hm4⟩ := p4.fr D _ hd3 hm3
    refine ⟨F4, m4, vh4, ρ4, w4, r4, run_masked q4 fun F5 m5 vh5 H5 b w5 p5 q5 => ?_⟩
    obtain ⟨hd5, ef5, hm5⟩ := p5.fr D _ hd4 hm4
    have gg : Post F1 m1 H1 F5 m5 H5 := g2.trans (p3.trans (p4.trans p5))
    show if b = true then _ else _
    cases b with
    | false =>
      refine iteF ⟨F5, m5, vh5, kvs, ys, gg, w5, hd5, hm5, by rw [ef5, ef4, ef3, hf2], ru.mono (p3.gr.trans (p4.gr.trans p5.gr)), by omega, ?_⟩
      rw [if_neg Bool.false_ne_true] at q5
      exact q5
    | true =>
      rw [if_pos rfl, bind_assoc] at q5
      refine iteT ⟨F5, m5, vh5, ρ4, w5, r4.mono p5.gr, run_masked q5 fun F6 m6 vh6 H6 z w6 p6 q6 v rz => ?_⟩
      rw [bind_assoc] at q6
      obtain ⟨hd6, ef6, hm6⟩ := p6.fr D _ hd5 hm5
      refine ⟨F6, m6, vh6, ρ4, w6, (r4.mono p5.gr).mono p6.gr, run_masked q6 fun F7 m7 vh7 H7 u w7 p7 q7 v' ru7 => ?_⟩
      obtain ⟨hd7, ef7, hm7⟩ := p7.fr D _ hd6 hm6
      have f7 : F7 D = none := by rw [ef7, ef6, ef5, ef4, ef3, hf2]
      have g7 := (p3.gr.trans (p4.gr.trans (p5.gr.trans (p6.gr.trans p7.gr))))
      cases ek7 : toKey z with
      | none =>
        rw [ek7] at q7
        exact False.elim q7
      | some k =>
        rw [ek7] at q7
        have pr := put_rep (j := k) (ru.mono g7) ru7
        refine ⟨kvs, k, rep_key ek7 (rz.mono p7.gr), hd7, Nat.lt_of_le_of_lt hul (Nat.lt_trans hi (by rw [sizeLine_eq]; exact hlen)), F7, m7, vh7, putK kvs k v', putVs (kvs.map (·.1)) ys k u, (gg.trans (p6.trans p7)).onD hD, w7.aside hm7 f7, upd_same, hm7, f7, pr.2, ?_, ?_⟩
        · have := length_putK kvs k v'
          omega
        · rw [mask_upd, pr.1]
          exact q7
  · rintro H2 ⟨F2, m2, vh2, kvs, ys, g2, w2, hd2, hm2, hf2, ru, hul, q2⟩
    rw [List.drop_length] at q2
    have q3 : Run cl F2 m2 (mask D H2) (mk (kvs.map (·.1), ys) vh2) (kV' cl Q) := q2
    have := hmk q3 (w2.masked hm2 hf2) ru mask_same
    rw [upd_mask hd2] at this
    exact this
theorem tDcD {f : Rho → M (List D)} {S : List Nat} {g : Tg} {t : Rho → M Bool} {ek ev : Rho → M D} {vs : List Nat} {Q : VK} {mk : List Key × List D → M D}
    (hS : ∀ i, i ∈ S → i ∈ vs) (h : tD cl (dcD f g t ek ev vs mk) σ H Q)
    (hmk : ∀ {F m vh H} {kvs : List (Key × V)} {xs : List D} {p : Addr}, Run cl F m (H : Hp) (mk (kvs.map (·.1), xs) vh) (kV' cl Q) → Wd cl F m vh H → Reps cl F m (kvs.map (·.2)) xs → H p = none → Q (.ref p) (upd H p (.dK kvs))) :
    tDc (tI cl f) (tG cl S g) (tT cl t) (tD cl ek) (tD cl ev) vs σ H Q := by
  obtain ⟨F, m, vh, ρ, w, r, q⟩ := h
  exact tDcG hS w r q (fun R h => ⟨F, m, vh, ρ, w, r, h⟩) hmk
theorem runNewDct {kvs : List (Key × V)} {xs : List D} {Q : VK} {p : Addr} (q : Run cl F m H (stillD (kvs.map (·.1), xs) vh) (kV' cl Q)) (w : Wd cl F m vh H) (r : Reps cl F m (kvs.map (·.2)) xs) (hp : H p = none) : Q (.ref p) (upd H p (.dK kvs)) := by
  have z := w.frozen (o := .dK kvs) hp
  exact Run.frozen q w hp _ (.dct upd_same (r.mono z.2.gr))
theorem runNewDctM {kvs : List (Key × V)} {xs : List D} {Q : VK} {p : Addr} (q : Run cl F m H (freshD (kvs.map (·.1), xs) vh) (kV' cl Q)) (w : Wd cl F m vh H) (r : Reps cl F m (kvs.map (·.2)) xs) (hp : H p = none) : Q (.ref p) (upd H p (.dK kvs)) := by
  have z := w.grown (u := .dK kvs) (o := .dct (kvs.map (·.1)) xs) hp fun P => ⟨kvs, upd_same, rfl, r.mono P.gr⟩
  exact q _ _ _ z.2 z.1 _ (.ref (at_snoc w.len))
section
variable {elt kx vx iter : Expr} {ifs : List Expr} {scope : Scope} {own : List (Str × Nat)} {pos : Pos} {f : Rho → M (List D)} {S : List Nat} {g : Tg} {t : Rho → M Bool} {e ek : Rho → M D}
theorem de_dc (hc : X.calm = true) (hN : X.N.Nodup) (hi : DI cl X tg iter f) (ok : BlkOk X.N X.env.scope scope own)
    (hg : ∀ (s : Shared) (H : Hp) (C : Addr) (cL : List (Str × Addr)) (fp : List Addr), DG cl (X.blk s H scope (compEnvC scope cL C X.env) fp) tg S g)
    (ht : ∀ (s : Shared) (H : Hp) (C : Addr) (cL : List (Str × Addr)) (fp : List Addr), PTs (X.blk s H scope (compEnvC scope cL C X.env) fp) ifs (tT cl t))
    (hk : ∀ (s : Shared) (H : Hp) (C : Addr) (cL : List (Str × Addr)) (fp : List Addr), DE cl (X.blk s H scope (compEnvC scope cL C X.env) fp) kx ek)
    (he : ∀ (s : Shared) (H : Hp) (C : Addr) (cL : List (Str × Addr)) (fp : List Addr), DE cl (X.blk s H scope (compEnvC scope cL C X.env) fp) vx e)
    (hS : ∀ i, i ∈ S → i ∈ own.map (·.2) := by decide) (hs : ∀ x, foldedSetIterable iter X.env x = pure x := by intro _; rfl) : DE cl X (.DictComp kx vx [⟨tg, iter, ifs, 0⟩] scope pos) (dcD f g t ek e (own.map (·.2)) stillD) :=
  PEw (pe_dc hc hN hi ok hg ht hk he hs) fun σ H Q h => tDcD hS h fun q w r hp => runNewDct q w r hp
end
end
end VL

namespace VL
open PySem PySem.Spec PyProof.Rows L2

section
variable {X : Cx} {cl : Cn} {K : PySem.W.Frag} {F F' F1 F2 : Hp} {m m' m1 m2 : List Addr} {H H' H1 H2 : Hp} {vh vh1 : VH} {ρ : Rho} {σ : Sl} {tg : Expr}
theorem rep_str {v : V} {s : Str} (h : Rep cl F m v (.str s)) : v = .str s := by cases h; rfl
theorem rep_non {v : V} (h : Rep cl F m v .non) : v = .non := by cases h; rfl
def lstAt : Option (Option MO) → Option (List D)
  | some (some (.lst xs)) => some xs
  | _ => none
def dctAt : Option (Option MO) → Option (List Key × List D)
  | some (some (.dct ks vs)) => some (ks, vs)
  | _ => none
/-- .. to be read: locked or not -/
def dctRd : Option (Option MO) → Option (List Key × List D)
  | some (some (.dct ks vs)) => some (ks, vs)
  | some (some (.dctL ks vs)) => some (ks, vs)
  | _ => none
theorem lstAt_eq {o : Option (Option MO)} {xs : List D} (e : lstAt o = some xs) : o = some (some (.lst xs)) := by
  unfold lstAt at e
  split at e
  · cases e; rfl
  · cases e
theorem dctAt_eq {o : Option (Option MO)} {ks : List Key} {xs : List D} (e : dctAt o = some (ks, xs)) : o = some (some (.dct ks xs)) := by
  unfold dctAt at e
  split at e
  · cases e; rfl
  · cases e
theorem dctRd_eq {o : Option (Option MO)} {ks : List Key} {xs : List D} (e : dctRd o = some (ks, xs)) : o = some (some (.dct ks xs)) ∨ o = some (some (.dctL ks xs)) := by
  unfold dctRd at e
  split at e
  · cases e; exact Or.inl rfl
  · cases e; exact Or.inr rfl
  · cases e
/-- the items of a list or tuple, as it is now -/
def seqV (vh : VH) : D → Option (List D)
  | .lst xs => some xs
  | .tup xs => some xs
  | .scr ns => some (ns.map D.int)
  | .ref n => lstAt vh[n]?
  | _ => none
/-- .. of a list alone that the hand layer's strict rules take -/
def lstV (vh : VH) : D → Option (List D)
  | .lst xs => some xs
  | .ref n => lstAt vh[n]?
  | _ => none
def dctV (vh : VH) : D → Option (List Key × List D)
  | .dct ks vs => some (ks, vs)
  | .ref n => dctRd vh[n]?
  | _ => none
theorem Wd.refLst {v : V} {n : Nat} {xs : List D} (w : Wd cl F m vh H) (r : Rep cl F m v (.ref n)) (e : vh[n]? = some (some (.lst xs))) : ∃ a us, v = .ref a ∧ m[n]? = some a ∧ H a = some (.lst us) ∧ Reps cl F m us xs := by
  cases r with
  | ref h =>
    obtain ⟨_, us, h1, h2⟩ := w.live _ _ _ h e
    exact ⟨_, us, rfl, h, h1, h2⟩
theorem Wd.refDct {v : V} {n : Nat} {ks : List Key} {xs : List D} (w : Wd cl F m vh H) (r : Rep cl F m v (.ref n)) (e : vh[n]? = some (some (.dct ks xs))) : ∃ a kvs, v = .ref a ∧ m[n]? = some a ∧ H a = some (.dK kvs) ∧ kvs.map (·.1) = ks ∧ Reps cl F m (kvs.map (·.2)) xs := by
  cases r with
  | ref h =>
    obtain ⟨_, us, h1, h2, h3⟩ := w.live _ _ _ h e
    exact ⟨_, us, rfl, h, h1, h2, h3⟩
theorem Wd.lstV {v : V} {d : D} {xs : List D} (w : Wd cl F m vh H) (r : Rep cl F m v d) (e : lstV vh d = some xs) : ∃ a us, v = .ref a ∧ H a = some (.lst us) ∧ Reps cl F m us xs := by
  cases d with
  | lst ys =>
    cases Option.some.inj e
    obtain ⟨a, us, rfl, ea, ru⟩ := rep_lst r
    exact ⟨a, us, rfl, w.ext _ _ ea, ru⟩
  | ref n =>
    obtain ⟨a, us, rfl, _, h, ru⟩ := w.refLst r (lstAt_eq e)
    exact ⟨a, us, rfl, h, ru⟩
  | _ => cases e
theorem Wd.seqV {v : V} {d : D} {xs : List D} (w : Wd cl F m vh H) (r : Rep cl F m v d) (e : seqV vh d = some xs) : ∃ a us, v = .ref a ∧ (SqL K H a us ∨ SqT K H a us) ∧ Reps cl F m us xs := by
  cases d with
  | lst ys =>
    cases Option.some.inj e
    obtain ⟨a, us, rfl, ea, ru⟩ := rep_lst r
    exact ⟨a, us, rfl, .inl (w.sqL ea), ru⟩
  | tup ys =>
    cases Option.some.inj e
    obtain ⟨a, us, rfl, ea, ru⟩ := rep_tup r
    exact ⟨a, us, rfl, .inr (w.sqT ea), ru⟩
  | scr ns =>
    cases Option.some.inj e
    cases r with
    | @scr a o _ ea => exact ⟨a, _, rfl, .inl (.inl (.inr ⟨o, w.ext _ _ ea⟩)), Reps.of_ints ns⟩
  | ref n =>
    obtain ⟨a, us, rfl, _, h, ru⟩ := w.refLst r (lstAt_eq e)
    exact ⟨a, us, rfl, .inl (.inl (.inl h)), ru⟩
  | _ => cases e
theorem rep_dct {v : V} {ks : List Key} {ds : List D} (h : Rep cl F m v (.dct ks ds)) : ∃ a kvs, v = .ref a ∧ F a = some (.dK kvs) ∧ kvs.map (·.1) = ks ∧ Reps cl F m (kvs.map (·.2)) ds := by
  cases h with
  | dct e r => exact ⟨_, _, rfl, e, rfl, r⟩
theorem Wd.rdK {a : Addr} {kvs : List (Key × V)} (w : Wd cl F m vh H) (h : F a = some (.dK kvs)) : Rd H a (.dK kvs) :=
  (w.ext0 _ _ h).elim (fun h => Or.inl h) fun ⟨ob, _, _, h⟩ => Or.inr ⟨ob, h⟩
theorem Wd.dctV {v : V} {d : D} {ks : List Key} {xs : List D} (w : Wd cl F m vh H) (r : Rep cl F m v d) (e : dctV vh d = some (ks, xs)) : ∃ a kvs, v = .ref a ∧ Rd H a (.dK kvs) ∧ kvs.map (·.1) = ks ∧ Reps cl F m (kvs.map (·.2)) xs := by
  cases d with
  | dct ls ys =>
    cases Option.some.inj e
    obtain ⟨a, us, rfl, ea, ek, ru⟩ := rep_dct r
    exact ⟨a, us, rfl, w.rdK ea, ek, ru⟩
  | ref n =>
    rcases dctRd_eq e with h0 | h0
    · obtain ⟨a, us, rfl, _, h, ek, ru⟩ := w.refDct r h0
      exact ⟨a, us, rfl, Or.inl h, ek, ru⟩
    · cases r with
      | ref hm =>
        obtain ⟨_, ob, us, h1, h2, h3⟩ := w.live _ _ _ hm h0
        exact ⟨_, us, rfl, Or.inr ⟨ob, h1⟩, h2, h3⟩
  | _ => cases e
/-! ### arithmetic -/
def opI (c : Int → Int → Bool) (f : Int → Int → Int) : D → D → M D
  | .int i, .int j => if c i j = true then ret (.int (f i j)) else fail
  | _, _ => fail
theorem op_I {o : Value → Value → Sem Value} {C : Int → Int → Prop} {g : Int → Int → V} {c : Int → Int → Bool} {f : Int → Int → Int} (h : OpR X o (rI C g)) (hc : ∀ i j, c i j = true → C i j) (hg : ∀ i j, g i j = .int (f i j)) : OpR X o (rD2 cl (opI c f)) := by
  intro pins s σ H x y v u Q I rx ry q
  obtain ⟨F, m, vh, a, b, w, ra, rb, q⟩ := q
  unfold opI at q
  split at q
  · cases rep_int ra
    cases rep_int rb
    obtain ⟨c1, q⟩ := run_if q
    exact h pins s σ H _ _ v u Q I rx ry ⟨_, _, rfl, rfl, hc _ _ c1, by rw [hg]; exact Run.ret q w _ (.int _)⟩
  · exact False.elim q
def subD : D → D → M D := opI (fun _ _ => true) fun i j => i - j
def fdivD : D → D → M D := opI (fun i j => decide (j ≠ 0 ∧ j.natAbs < 1073741824)) fun i j => i.fdiv j
def modD : D → D → M D := opI (fun i j => decide (j ≠ 0)) fun i j => i.fmod j
def powD : D → D → M D := opI (fun i j => decide (0 ≤ j ∧ j ≤ 1000000 ∧ i.natAbs < 18446744073709551616)) fun i j => i ^ j.toNat
theorem OpRw {o : Value → Value → Sem Value} {r r' : R2} (h : OpR X o r) (w : ∀ x y H Q, r' x y H Q → r x y H Q) : OpR X o r' := fun pins s σ H x y v u Q I rx ry q => h pins s σ H x y v u Q I rx ry (w x y H Q q)
theorem op_subD : OpR X (binaryOp .Sub) (rD2 cl subD) := op_I (C := fun _ _ => True) (OpRw op_sub fun x y H Q ⟨i, j, a, b, _, q⟩ => ⟨i, j, a, b, q⟩) (fun _ _ _ => trivial) fun _ _ => rfl
theorem op_fdivD : OpR X (binaryOp .FloorDiv) (rD2 cl fdivD) := op_I op_fdivN (fun i j h => show j ≠ 0 ∧ j.natAbs < 1073741824 from of_decide_eq_true h) fun _ _ => rfl
theorem op_modD : OpR X (binaryOp .Mod) (rD2 cl modD) := op_I op_modN (fun i j h => of_decide_eq_true h) fun _ _ => rfl
theorem op_powD : OpR X (binaryOp .Pow) (rD2 cl powD) := op_I op_pow (fun i j h => show 0 ≤ j ∧ j ≤ 1000000 ∧ i.natAbs < 2 ^ 64 from of_decide_eq_true h) fun _ _ => rfl
/-- a + b: numbers, texts, lists, tuples -/
def addD (a b : D) : M D := match a, b with
  | .int i, .int j => ret (.int (i + j))
  | .str i, .str j => if i.length + j.length ≤ line then ret (.str (i ++ j)) else fail
  | .tup i, .tup j => if i.length + j.length ≤ line then ret (.tup (i ++ j)) else fail
  | a, b => fun vh => match lstV vh a, lstV vh b with
    | some xs, some ys => if xs.length + ys.length ≤ line then some (.lst (xs ++ ys), vh) else none
    | _, _ => none
theorem addLst {a b : D} {x y : V} {Q : VK} (w : Wd cl F m vh H) (ra : Rep cl F m x a) (rb : Rep cl F m y b)
    (q : Run cl F m H (match lstV vh a, lstV vh b with
      | some xs, some ys => if xs.length + ys.length ≤ line then some (D.lst (xs ++ ys), vh) else none
      | _, _ => none) (kV' cl Q)) : rCat x y H Q := by
  cases e1 : lstV vh a with
  | none => rw [e1] at q; exact False.elim q
  | some xs =>
    cases e2 : lstV vh b with
    | none => rw [e1, e2] at q; exact False.elim q
    | some ys =>
      rw [e1, e2] at q
      by_cases hl : xs.length + ys.length ≤ line
      · obtain ⟨a, us, rfl, ea, ru⟩ := w.lstV ra e1
        obtain ⟨b, ws, rfl, eb, rw'⟩ := w.lstV rb e2
        refine ⟨a, b, us, ws, rfl, rfl, ea, eb, by rw [ru.length, rw'.length]; exact le_line hl, fun p hp => ?_⟩
        have q' : Run cl F m H (ret (D.lst (xs ++ ys)) vh) (kV' cl Q) := by
          have : (if xs.length + ys.length ≤ line then some (D.lst (xs ++ ys), vh) else none) = ret (D.lst (xs ++ ys)) vh := if_pos hl
          rw [← this]
          exact q
        exact runNewLst q' w (ru.append rw') hp
      · simp only [if_neg hl] at q
        exact False.elim q
theorem op_addD : OpR X (binaryOp .Add) (rD2 cl addD) := by
  intro pins s σ H x y v u Q I rx ry q
  obtain ⟨F, m, vh, a, b, w, ra, rb, q⟩ := q
  unfold addD at q
  split at q
  · cases rep_int ra
    cases rep_int rb
    exact op_add pins s σ H _ _ v u Q I rx ry ⟨_, _, rfl, rfl, Run.ret q w _ (.int _)⟩
  · cases rep_str ra
    cases rep_str rb
    obtain ⟨c1, q⟩ := run_if q
    exact op_add_str pins s σ H _ _ v u Q I rx ry ⟨_, _, rfl, rfl, le_line c1, Run.ret q w _ (.str _)⟩
  · obtain ⟨a, us, rfl, ea, ru⟩ := rep_tup ra
    obtain ⟨b, ws, rfl, eb, rw'⟩ := rep_tup rb
    obtain ⟨c2, q⟩ := run_if q
    refine op_catA pins s σ H _ _ v u Q I rx ry ⟨a, b, us, ws, rfl, rfl, w.sqT ea, w.sqT eb, by rw [ru.length, rw'.length]; exact le_line c2, fun e0 => ?_, fun e0 e1 => ?_, fun e0 e1 p hp => runNewTup q w (ru.append rw') hp⟩
    · subst e0
      cases ru
      exact Run.ret q w _ (.tup eb rw')
    · subst e1
      cases rw'
      rw [List.append_nil] at q
      exact Run.ret q w _ (.tup ea ru)
  · exact op_cat pins s σ H _ _ v u Q I rx ry (addLst w ra rb q)
/-- a * b: numbers, a list so many times -/
def mulD (a b : D) : M D := match a, b with
  | .int i, .int j => if decide ((-(18446744073709551616) < i ∧ i < 18446744073709551616) ∨ (-(18446744073709551616) < j ∧ j < 18446744073709551616)) = true then ret (.int (i * j)) else fail
  | .str z, .int k => if 2 ≤ k ∧ k ≤ 1000 ∧ 1 ≤ z.length ∧ z.length ≤ 1000 ∧ (⟨(List.replicate k.toNat z.cps).foldl (· ++ ·) #[]⟩ : Str).length ≤ line then ret (.str ⟨(List.replicate k.toNat z.cps).foldl (· ++ ·) #[]⟩) else fail
  | .lst xs, .int k => if -(9223372036854775808) ≤ k ∧ k < 9223372036854775808 ∧ xs.length * k.toNat ≤ line then ret (.lst (List.replicate k.toNat xs).flatten) else fail
  | _, _ => fail
theorem Reps.rep {us : List V} {xs : List D} (r : Reps cl F m us xs) : ∀ k : Nat, Reps cl F m (List.replicate k us).flatten (List.replicate k xs).flatten
  | 0 => .nil
  | k + 1 => by
    simp only [List.replicate_succ, List.flatten_cons]
    exact r.append (Reps.rep r k)
/-- a text, so many times -/
theorem op_repS : OpR X (binaryOp .Mult) (fun x y H Q => ∃ z k, x = .str z ∧ y = .int k ∧ 2 ≤ k ∧ k ≤ 1000 ∧ 1 ≤ z.length ∧ z.length ≤ 1000 ∧ (⟨(List.replicate k.toNat z.cps).foldl (· ++ ·) #[]⟩ : Str).length ≤ sizeLine ∧ Q (.str ⟨(List.replicate k.toNat z.cps).foldl (· ++ ·) #[]⟩) H) := by
  intro pins s σ H x y v u Q I rx ry h
  obtain ⟨z, k, rfl, rfl, h1, h2, h3, h4, h5, q⟩ := h
  obtain ⟨t, rfl⟩ := rx
  obtain ⟨t', rfl⟩ := ry
  have e1 : ¬ k < 1 := by omega
  have hk : (k == 1) = false := by
    have : k ≠ 1 := by omega
    simpa using this
  have hz : (z.length == 0) = false := by
    have : z.length ≠ 0 := by omega
    simpa using this
  have e2 : (k == 1 || z.length == 0) = false := by rw [hk, hz]; rfl
  have hb : z.length * k.toNat ≤ 1000000 := Nat.le_trans (Nat.mul_le_mul h4 (show k.toNat ≤ 1000 by omega)) (by decide)
  refine PySem.P.mul_str (by
    have a1 : ¬ k < -(2 ^ 63 : Int) := by omega
    have a2 : ¬ k ≥ 2 ^ 63 := by omega
    rw [decide_eq_false a1, decide_eq_false a2]; rfl) (fun _ _ => ?_) (fun _ _ => ?_) ?_
  · have : (1000 : Int) ≤ (2 ^ 63 - 1 : Int) / k := (Int.le_ediv_iff_mul_le (by omega)).mpr (by omega)
    omega
  · exact decide_eq_false (by rw [sizeLine_eq]; omega)
  · rw [if_neg e1, e2, if_neg Bool.false_ne_true]
    exact ⟨h5, ⟨.str _, H, I.tok _, ⟨_, rfl⟩, q⟩⟩
theorem op_mulD : OpR X (binaryOp .Mult) (rD2 cl mulD) := by
  intro pins s σ H x y v u Q I rx ry q
  obtain ⟨F, m, vh, a, b, w, ra, rb, q⟩ := q
  unfold mulD at q
  split at q
  · cases rep_int ra
    cases rep_int rb
    obtain ⟨c1, q⟩ := run_if q
    exact op_mul pins s σ H _ _ v u Q I rx ry ⟨_, _, rfl, rfl, (show (-(2 ^ 64) < _ ∧ _ < 2 ^ 64) ∨ (-(2 ^ 64) < _ ∧ _ < 2 ^ 64) from of_decide_eq_true c1), Run.ret q w _ (.int _)⟩
  · cases rep_str ra
    cases rep_int rb
    obtain ⟨⟨c0, c1, c2, c3, c4⟩, q⟩ := run_if q
    exact op_repS pins s σ H _ _ v u Q I rx ry ⟨_, _, rfl, rfl, c0, c1, c2, c3, le_line c4, Run.ret q w _ (.str _)⟩
  · obtain ⟨a, us, rfl, ea, ru⟩ := rep_lst ra
    cases rep_int rb
    obtain ⟨⟨c0, c1, c2⟩, q⟩ := run_if q
    exact op_rep pins s σ H _ _ v u Q I rx ry ⟨a, _, us, rfl, rfl, w.ext _ _ ea, c0, c1, by rw [ru.length]; exact le_line c2, fun p hp => runNewLst q w (ru.rep _) hp⟩
  · exact False.elim q
def negD : D → M D
  | .int i => ret (.int (-i))
  | _ => fail
theorem un_negD : UnR X (unaryOp .USub) (rD1 cl negD) := by
  intro pins s σ H x v Q I rx q
  obtain ⟨F, m, vh, a, w, ra, q⟩ := q
  unfold negD at q
  split at q
  · cases rep_int ra
    exact un_neg pins s σ H _ v Q I rx ⟨_, rfl, Run.ret q w _ (.int _)⟩
  · exact False.elim q

/-! ### comparisons -/
def cmpI (f : Int → Int → Bool) : D → D → M D
  | .int i, .int j => ret (.bl (f i j))
  | _, _ => fail
theorem op_cmpI {o : Value → Value → Sem Value} {f : Int → Int → Bool} (h : OpR X o (rI0 fun i j => .bl (f i j))) : OpR X o (rD2 cl (cmpI f)) := by
  intro pins s σ H x y v u Q I rx ry q
  obtain ⟨F, m, vh, a, b, w, ra, rb, q⟩ := q
  unfold cmpI at q
  split at q
  · cases rep_int ra
    cases rep_int rb
    exact h pins s σ H _ _ v u Q I rx ry ⟨_, _, rfl, rfl, Run.ret q w _ (.bl _)⟩
  · exact False.elim q
def ltD : D → D → M D := cmpI fun i j => decide (i < j)
def leD : D → D → M D := cmpI fun i j => decide (i ≤ j)
def gtD : D → D → M D := cmpI fun i j => decide (j < i)
def geD : D → D → M D := cmpI fun i j => decide (j ≤ i)
theorem op_ltD : OpR X (compareOp .Lt) (rD2 cl ltD) := op_cmpI op_lt
theorem op_leD : OpR X (compareOp .LtE) (rD2 cl leD) := op_cmpI op_le
theorem op_gtD : OpR X (compareOp .Gt) (rD2 cl gtD) := op_cmpI op_gt
theorem op_geD : OpR X (compareOp .GtE) (rD2 cl geD) := op_cmpI op_ge
def isNonD : D → Bool
  | .non => true
  | _ => false
theorem isNon_rep {v : V} {d : D} (r : Rep cl F m v d) : decide (v = .non) = isNonD d := by
  cases r <;> first | rfl | exact decide_eq_false fun z => nomatch z
def isD (a b : D) : M D := if isNonD b = true then ret (.bl (isNonD a)) else fail
def isNotD (a b : D) : M D := if isNonD b = true then ret (.bl (!isNonD a)) else fail
theorem isNon_eq {v : V} {d : D} (r : Rep cl F m v d) (h : isNonD d = true) : v = .non := by
  cases r <;> first | rfl | cases h
theorem op_isD : OpR X (compareOp .Is) (rD2 cl isD) := by
  intro pins s σ H x y v u Q I rx ry q
  obtain ⟨F, m, vh, a, b, w, ra, rb, q⟩ := q
  obtain ⟨c, q⟩ := run_if q
  exact op_isN pins s σ H _ _ v u Q I rx ry ⟨isNon_eq rb c, by rw [isNon_rep ra]; exact Run.ret q w _ (.bl _)⟩
theorem op_isNotD : OpR X (compareOp .IsNot) (rD2 cl isNotD) := by
  intro pins s σ H x y v u Q I rx ry q
  obtain ⟨F, m, vh, a, b, w, ra, rb, q⟩ := q
  obtain ⟨c, q⟩ := run_if q
  exact op_notN pins s σ H _ _ v u Q I rx ry ⟨isNon_eq rb c, by rw [isNon_rep ra]; exact Run.ret q w _ (.bl _)⟩
mutual
def toPy : D → Option PyData
  | .non => some .none
  | .bl b => some (.bool b)
  | .int i => some (.int i)
  | .str s => some (.str s)
  | .lst xs => (toPys xs).map .list
  | .tup xs => (toPys xs).map .tuple
  | .dct _ _ => none
  | .obj _ _ _ => none
  | .scr ns => none
  | .ref _ => none
  | .ty _ => none
  | .cls _ => none
  | .exc _ _ _ => none
def toPys : List D → Option (List PyData)
  | [] => some []
  | d :: ds => match toPy d, toPys ds with
    | some p, some ps => some (p :: ps)
    | _, _ => none
end
mutual
theorem toPy_rep (w : Wd cl F m vh H) : ∀ (d : D) (v : V) (p : PyData), toPy d = some p → Rep cl F m v d → Dp K H v p
  | .non, _, _, e, r => by cases r; cases e; exact .non
  | .bl b, _, _, e, r => by cases r; cases e; exact .bl b
  | .int b, _, _, e, r => by cases r; cases e; exact .int b
  | .str b, _, _, e, r => by cases r; cases e; exact .str b
  | .lst xs, _, _, e, r => by
    unfold toPy at e
    obtain ⟨ps, e1, rfl⟩ := Option.map_eq_some_iff.mp e
    cases r with
    | lst h r => exact .lst (w.sqL h) (toPys_rep w xs _ _ e1 r)
  | .tup xs, _, _, e, r => by
    unfold toPy at e
    obtain ⟨ps, e1, rfl⟩ := Option.map_eq_some_iff.mp e
    cases r with
    | tup h r => exact .tup (w.sqT h) (toPys_rep w xs _ _ e1 r)
  | .dct _ _, _, _, e, _ => by cases e
  | .obj _ _ _, _, _, e, _ => by cases e
  | .scr _, _, _, e, _ => by cases e
  | .ref _, _, _, e, _ => by cases e
  | .ty _, _, _, e, _ => by cases e
  | .cls _, _, _, e, _ => by cases e
  | .exc _ _ _, _, _, e, _ => by cases e
theorem toPys_rep (w : Wd cl F m vh H) : ∀ (d : List D) (v : List V) (p : List PyData), toPys d = some p → Reps cl F m v d → DpAll K H v p
  | [], _, _, e, r => by cases r; cases e; exact .nil
  | d :: ds, _, _, e, r => by
    unfold toPys at e
    cases e1 : toPy d with
    | none => rw [e1] at e; cases e
    | some p =>
      cases e2 : toPys ds with
      | none => rw [e1, e2] at e; cases e
      | some ps =>
        rw [e1, e2] at e
        cases Option.some.inj e
        cases r with
        | cons r t => exact .cons (toPy_rep w d _ _ e1 r) (toPys_rep w ds _ _ e2 t)
end
/-- .. a changing list at the top -/
def topPy (vh : VH) : D → Option PyData
  | .ref n => (lstAt vh[n]?).bind fun xs => (toPys xs).map .list
  | d => toPy d
theorem topPy_rep {d : D} {v : V} {p : PyData} (w : Wd cl F m vh H) (e : topPy vh d = some p) (r : Rep cl F m v d) : Dp K H v p := by
  cases d with
  | ref n =>
    unfold topPy at e
    obtain ⟨xs, h, e⟩ := Option.bind_eq_some_iff.mp e
    obtain ⟨a, us, rfl, _, h, ru⟩ := w.refLst r (lstAt_eq h)
    obtain ⟨ps, e1, rfl⟩ := Option.map_eq_some_iff.mp e
    exact .lst (.inl (.inl h)) (toPys_rep w _ _ _ e1 ru)
  | _ => exact toPy_rep w _ _ _ e r
def eqPy (vh : VH) (a b : D) : Option Bool := match topPy vh a, topPy vh b with
  | some p, some q => if SeqAt.shaped p && SeqAt.shaped q then some (PyData.eqv p q) else none
  | _, _ => none
def eqD (a b : D) : M D := fun vh => match eqPy vh a b with
  | some r => some (.bl r, vh)
  | none => none
def neD (a b : D) : M D := fun vh => match eqPy vh a b with
  | some r => some (.bl (!r), vh)
  | none => none
theorem eqPy_rep {a b : D} {x y : V} {c : Bool} (w : Wd cl F m vh H) (e : eqPy vh a b = some c) (ra : Rep cl F m x a) (rb : Rep cl F m y b) :
    ∃ d e, Dp K H x d ∧ Dp K H y e ∧ SeqAt.shaped d = true ∧ SeqAt.shaped e = true ∧ PyData.eqv d e = c := by
  unfold eqPy at e
  cases e1 : topPy vh a with
  | none => rw [e1] at e; cases e
  | some p =>
    cases e2 : topPy vh b with
    | none => rw [e1, e2] at e; cases e
    | some q =>
      rw [e1, e2] at e
      simp only [] at e
      by_cases hs : (SeqAt.shaped p && SeqAt.shaped q) = true
      · rw [if_pos hs] at e
        obtain ⟨s1, s2⟩ := Bool.and_eq_true_iff.mp hs
        exact ⟨p, q, topPy_rep w e1 ra, topPy_rep w e2 rb, s1, s2, Option.some.inj e⟩
      · rw [if_neg hs] at e
        cases e
theorem op_eqD' (hu : X.A.units + 64 < cLine) : OpR X (compareOp .Eq) (rD2 cl eqD) := by
  intro pins s σ H x y v u Q I rx ry q
  obtain ⟨F, m, vh, a, b, w, ra, rb, q⟩ := q
  unfold eqD at q
  cases e : eqPy vh a b with
  | none => rw [e] at q; exact False.elim q
  | some c =>
    rw [e] at q
    obtain ⟨d, e', h1, h2, h3, h4, h5⟩ := eqPy_rep w e ra rb
    exact L2.op_eqD hu pins s σ H _ _ v u Q I rx ry ⟨d, e', h1, h2, h3, h4, by rw [h5]; exact Run.ret q w _ (.bl _)⟩
theorem op_neD' (hu : X.A.units + 64 < cLine) : OpR X (compareOp .NotEq) (rD2 cl neD) := by
  intro pins s σ H x y v u Q I rx ry q
  obtain ⟨F, m, vh, a, b, w, ra, rb, q⟩ := q
  unfold neD at q
  cases e : eqPy vh a b with
  | none => rw [e] at q; exact False.elim q
  | some c =>
    rw [e] at q
    obtain ⟨d, e', h1, h2, h3, h4, h5⟩ := eqPy_rep w e ra rb
    exact L2.op_neD hu pins s σ H _ _ v u Q I rx ry ⟨d, e', h1, h2, h3, h4, by rw [h5]; exact Run.ret q w _ (.bl _)⟩
end
end VL

namespace VL
open PySem PySem.Spec PyProof.Rows L2

section
variable {X : Cx} {cl : Cn} {K : PySem.W.Frag} {F F' F1 F2 : Hp} {m m' m1 m2 : List Addr} {H H' H1 H2 : Hp} {vh vh1 : VH} {ρ : Rho} {σ : Sl} {tg : Expr}
/-! ### in -/
def flatD : D → Bool
  | .non => true
  | .bl _ => true
  | .int _ => true
  | .str _ => true
  | _ => false
def eqF : D → D → Bool
  | .non, .non => true
  | .bl a, .bl b => a == b
  | .bl a, .int b => (if a then 1 else 0) == b
  | .int a, .bl b => a == (if b then 1 else 0)
  | .int a, .int b => a == b
  | .str a, .str b => a == b
  | _, _ => false
theorem flat_rep {v : V} {d : D} (r : Rep cl F m v d) (h : flatD d = true) : flatV v = true := by
  cases r <;> first | rfl | cases h
theorem eqF_rep {v u : V} {d e : D} (r : Rep cl F m v d) (r' : Rep cl F m u e) (h : flatD d = true) (h' : flatD e = true) : eqV v u = eqF d e := by
  cases r <;> first | (cases h; done) | (cases r' <;> first | rfl | (cases h'; done))
theorem inF_rep {u : V} {e : D} (r' : Rep cl F m u e) (h' : flatD e = true) : ∀ {vs : List V} {ds : List D}, Reps cl F m vs ds → ds.all flatD = true → vs.all flatV = true ∧ inV u vs = ds.any fun d => eqF d e
  | _, _, .nil, _ => ⟨rfl, rfl⟩
  | _, _, .cons r t, h => by
    rw [List.all_cons, Bool.and_eq_true] at h
    obtain ⟨a, b⟩ := inF_rep r' h' t h.2
    refine ⟨by rw [List.all_cons, flat_rep r h.1, a]; rfl, ?_⟩
    unfold inV at b ⊢
    rw [List.any_cons, List.any_cons, b, eqF_rep r r' h.1 h']
def oneSign (s : Str) : Option Nat := match s.cps.toList with
  | [c] => some c
  | _ => none
theorem oneSign_eq {s : Str} {c : Nat} (h : oneSign s = some c) : s = ⟨#[c]⟩ := by
  obtain ⟨a⟩ := s
  unfold oneSign at h
  split at h
  · rename_i c' e
    cases Option.some.inj h
    congr
    apply Array.ext'
    simpa using e
  · cases h
/-- x in c: a sign in a text, a flat thing in a list or tuple, a key in a dict -/
def inRes (vh : VH) (x c : D) : Option Bool := match c with
  | .str z => match x with
    | .str y => (oneSign y).map fun k => decide (k ∈ z.cps.toList)
    | _ => none
  | c => match seqV vh c with
    | some xs => if flatD x && xs.all flatD then some (xs.any fun d => eqF d x) else none
    | none => match dctV vh c with
      | some (ks, vs) => (toKey x).map fun k => (valD ks vs k).isSome
      | none => none
def inD (x c : D) : M D := fun vh => (inRes vh x c).map fun b => (.bl b, vh)
def ninD (x c : D) : M D := fun vh => (inRes vh x c).map fun b => (.bl (!b), vh)
theorem val_isSome {j : Key} {kvs : List (Key × V)} {ds : List D} (r : Reps cl F m (kvs.map (·.2)) ds) : (valV kvs j).isSome = (valD (kvs.map (·.1)) ds j).isSome := by
  have := val_rep (j := j) r
  cases e : valD (kvs.map (·.1)) ds j with
  | none => rw [this.2 e]; rfl
  | some d =>
    obtain ⟨v, e', _⟩ := this.1 d e
    rw [e']; rfl
theorem DGet.r {H : Hp} {a : Addr} {kvs : List (Key × V)} {k : Key} (e : Rd H a (.dK kvs)) : DGet H a (kV k) (valV kvs k) := Or.inl ⟨kvs, k, e, rfl, rfl⟩
theorem in_cases {x c : D} {b : Bool} {u y : V} (w : Wd cl F m vh H) (e : inRes vh x c = some b) (rx : Rep cl F m u x) (rc : Rep cl F m y c) :
    (∃ k z, u = .str ⟨#[k]⟩ ∧ y = .str z ∧ decide (k ∈ z.cps.toList) = b) ∨ (∃ p us, y = .ref p ∧ (SqL K H p us ∨ SqT K H p us) ∧ flatV u = true ∧ us.all flatV = true ∧ inV u us = b) ∨ ∃ a o, y = .ref a ∧ DGet H a u o ∧ o.isSome = b := by
  unfold inRes at e
  split at e
  · split at e
    · obtain ⟨k, e1, e2⟩ := Option.map_eq_some_iff.mp e
      have := oneSign_eq e1
      subst this
      exact .inl ⟨k, _, rep_str rx, rep_str rc, e2⟩
    · cases e
  · cases e1 : seqV vh c with
    | some xs =>
      rw [e1] at e
      simp only [] at e
      by_cases hf : (flatD x && xs.all flatD) = true
      · rw [if_pos hf] at e
        obtain ⟨f1, f2⟩ := Bool.and_eq_true_iff.mp hf
        obtain ⟨a, us, rfl, hs, ru⟩ := w.seqV (K := K) rc e1
        obtain ⟨g1, g2⟩ := inF_rep rx f1 ru f2
        exact .inr (.inl ⟨a, us, rfl, hs, flat_rep rx f1, g1, g2.trans (Option.some.inj e)⟩)
      · rw [if_neg hf] at e
        cases e
    | none =>
      rw [e1] at e
      simp only [] at e
      cases e2 : dctV vh c with
      | none => rw [e2] at e; cases e
      | some p =>
        obtain ⟨ks, vs⟩ := p
        rw [e2] at e
        obtain ⟨k, e3, e4⟩ := Option.map_eq_some_iff.mp e
        obtain ⟨a, kvs, rfl, hd, ek, ru⟩ := w.dctV rc e2
        refine .inr (.inr ⟨a, valV kvs k, rfl, ?_, ?_⟩)
        · rw [rep_key e3 rx]
          exact DGet.r hd
        · rw [val_isSome ru, ek]
          exact e4
theorem op_inD (hu : X.A.units + 1 < cLine) : OpR X (compareOp .In) (rD2 cl inD) := by
  intro pins s σ H x y v u Q I rx ry q
  obtain ⟨F, m, vh, a, b, w, ra, rb, q⟩ := q
  unfold inD at q
  cases e : inRes vh a b with
  | none => rw [e] at q; exact False.elim q
  | some c =>
    rw [e] at q
    have fin : Q (.bl c) H := Run.ret (a := D.bl c) q w _ (.bl c)
    rcases in_cases (K := X.K) w e ra rb with ⟨k, z, rfl, rfl, h⟩ | ⟨p, us, rfl, h1, h2, h3, h4⟩ | ⟨p, o, rfl, h1, h2⟩
    · exact op_in_sign pins s σ H _ _ v u Q I rx ry ⟨k, z, rfl, rfl, by rw [h]; exact fin⟩
    · exact op_in_seq pins s σ H _ _ v u Q I rx ry ⟨p, us, rfl, h1, h2, h3, by rw [if_neg (by decide), h4]; exact fin⟩
    · cases ry
      exact d_in hu I h1 rx fun s' I' => ⟨.bl c, H, I', by rw [← h2]; rfl, fin⟩
theorem op_ninD (hu : X.A.units + 1 < cLine) : OpR X (compareOp .NotIn) (rD2 cl ninD) := by
  intro pins s σ H x y v u Q I rx ry q
  obtain ⟨F, m, vh, a, b, w, ra, rb, q⟩ := q
  unfold ninD at q
  cases e : inRes vh a b with
  | none => rw [e] at q; exact False.elim q
  | some c =>
    rw [e] at q
    have fin : Q (.bl (!c)) H := Run.ret (a := D.bl (!c)) q w _ (.bl (!c))
    rcases in_cases (K := X.K) w e ra rb with ⟨k, z, rfl, rfl, h⟩ | ⟨p, us, rfl, h1, h2, h3, h4⟩ | ⟨p, o, rfl, h1, h2⟩
    · exact op_notIn_sign pins s σ H _ _ v u Q I rx ry ⟨k, z, rfl, rfl, by rw [h]; exact fin⟩
    · exact op_notIn_seq pins s σ H _ _ v u Q I rx ry ⟨p, us, rfl, h1, h2, h3, by rw [if_pos rfl, h4]; exact fin⟩
    · cases ry
      exact d_notIn hu I h1 rx fun s' I' => ⟨.bl (!c), H, I', by rw [← h2]; rfl, fin⟩

/-! ### items -/
def ixRes (vh : VH) (d i : D) : Option D := match d, i with
  | .str s, .int i => if s.length ≤ line then (atI s.cps.toList i).map fun c => D.str ⟨#[c]⟩ else none
  | d, i => match seqV vh d with
    | some xs => match i with
      | .int i => atI xs i
      | _ => none
    | none => match dctV vh d, toKey i with
      | some (ks, vs), some k => valD ks vs k
      | _, _ => none
def ixD (d i : D) : M D := fun vh => (ixRes vh d i).map fun b => (b, vh)
theorem atI_rep {us : List V} {ds : List D} {i : Int} {d : D} (r : Reps cl F m us ds) (h : atI ds i = some d) : ∃ v, atI us i = some v ∧ Rep cl F m v d := by
  unfold atI at h ⊢
  obtain ⟨j, e1, e2⟩ := Option.bind_eq_some_iff.mp h
  obtain ⟨v, e3, rv⟩ := r.get e2
  exact ⟨v, by rw [r.length, e1]; exact e3, rv⟩
theorem ix_D (hu : X.A.units + 1 < cLine) : IxR X (rD2 cl ixD) := by
  intro value slice pins s σ H x y v u Q I rx ry q hs
  obtain ⟨F, m, vh, a, b, w, ra, rb, q⟩ := q
  unfold ixD at q
  cases e : ixRes vh a b with
  | none => rw [e] at q; exact False.elim q
  | some c =>
    rw [e] at q
    have fin : ∀ z, Rep cl F m z c → Q z H := fun z rz => Run.ret (a := c) q w _ rz
    unfold ixRes at e
    split at e
    · rename_i z i
      by_cases hl : z.length ≤ line
      · rw [if_pos hl] at e
        obtain ⟨k, e1, rfl⟩ := Option.map_eq_some_iff.mp e
        cases rep_str ra
        cases rep_int rb
        exact ix_str value slice pins s σ H _ _ v u Q I rx ry ⟨z, i, k, rfl, rfl, le_line hl, e1, fin _ (.str _)⟩ hs
      · rw [if_neg hl] at e
        cases e
    · cases e1 : seqV vh a with
      | some xs =>
        rw [e1] at e
        simp only [] at e
        split at e
        · obtain ⟨p, us, rfl, hs', ru⟩ := w.seqV (K := X.K) ra e1
          cases rep_int rb
          obtain ⟨z, e2, rz⟩ := atI_rep ru e
          rcases hs' with h | h
          · exact ix_list value slice pins s σ H _ _ v u Q I rx ry ⟨p, us, _, z, rfl, rfl, h, e2, fin _ rz⟩ hs
          · exact ix_tup value slice pins s σ H _ _ v u Q I rx ry ⟨p, us, _, z, rfl, rfl, h, e2, fin _ rz⟩ hs
        · cases e
      | none =>
        rw [e1] at e
        simp only [] at e
        split at e
        · rename_i ks vs k e2 e3
          obtain ⟨p, kvs, rfl, hd, ek, ru⟩ := w.dctV ra e2
          subst ek
          obtain ⟨z, e4, rz⟩ := (val_rep (j := k) ru).1 _ e
          cases rx
          have hg : DGet H p y (some z) := by
            rw [rep_key e3 rb, ← e4]
            exact DGet.r hd
          exact tail_any (dict_typeIs I hg) PySem.F.slot_dict_getitem.lookup (d_getItem hu I hg ry fun w' s' I' rw' => ⟨z, H, I', rw', fin _ rz⟩) hs
        · cases e
end
end VL

namespace VL
open PySem PySem.Spec PyProof.Rows L2

section
variable {X : Cx} {cl : Cn} {K : PySem.W.Frag} {F F' F1 F2 : Hp} {m m' m1 m2 : List Addr} {H H' H1 H2 : Hp} {vh vh1 : VH} {ρ : Rho} {σ : Sl} {tg : Expr}
/-- what a builtin gives that changes nothing and makes nothing -/
def pureD (f : VH → List D → Option D) : List D → M D := fun as vh => (f vh as).map fun d => (d, vh)
theorem run_pure {f : VH → List D → Option D} {as : List D} {k : Kn D} (q : Run cl F m H (pureD f as vh) k) : ∃ d, f vh as = some d ∧ Run cl F m H (ret d vh) k := by
  unfold pureD at q
  cases e : f vh as with
  | none => rw [e] at q; exact False.elim q
  | some d => rw [e] at q; exact ⟨d, rfl, q⟩
/-! ### len, list, tuple, int, str -/
def lenR (vh : VH) : List D → Option D
  | [d] => match seqV vh d with
    | some xs => some (.int (xs.length : Nat))
    | none => match dctV vh d with
      | some (ks, _) => some (.int (ks.length : Nat))
      | none => match d with
        | .str s => if s.length ≤ line then some (.int (s.length : Nat)) else none
        | _ => none
  | _ => none
def lenD : List D → M D := pureD lenR
theorem call_lenR : CallR X (.builtin "len") (fun xs H Q => ∃ a kvs, xs = [V.ref a] ∧ Rd H a (.dK kvs) ∧ Q (.int kvs.length) H) := by
  intro pins s σ H xs us Q I r h
  obtain ⟨a, kvs, rfl, ha, q⟩ := h
  obtain ⟨u, rfl, ru⟩ := vals1 r
  cases ru
  exact d_len I ha fun t s' I' => ⟨V.int kvs.length, H, I', ⟨t, rfl⟩, q⟩
theorem cr_len : CallR X (.builtin "len") (rDs cl lenD) := by
  intro pins s σ H xs us Q I r q
  obtain ⟨F, m, vh, as, w, ra, q⟩ := q
  obtain ⟨d, e, q⟩ := run_pure q
  unfold lenR at e
  split at e
  · obtain ⟨v, rfl, rv⟩ := reps1 ra
    split at e
    · rename_i e1
      cases Option.some.inj e
      obtain ⟨a, ws, rfl, hs, ru⟩ := w.seqV (K := X.K) rv e1
      exact call_len_seq pins s σ H _ us Q I r ⟨a, ws, rfl, hs, by rw [ru.length]; exact Run.ret q w _ (.int _)⟩
    · split at e
      · rename_i e2
        cases Option.some.inj e
        obtain ⟨a, kvs, rfl, hd, ek, ru⟩ := w.dctV rv e2
        exact call_lenR pins s σ H _ us Q I r ⟨a, kvs, rfl, hd, by rw [show kvs.length = (kvs.map (·.1)).length by simp, ek]; exact Run.ret q w _ (.int _)⟩
      · split at e
        · rename_i z _ _
          by_cases hl : z.length ≤ line
          · rw [if_pos hl] at e
            cases Option.some.inj e
            cases rep_str rv
            exact call_len_str pins s σ H _ us Q I r ⟨_, rfl, le_line hl, Run.ret q w _ (.int _)⟩
          · rw [if_neg hl] at e
            cases e
        · cases e
  · cases e
def listD (as : List D) : M D := fun vh => match as with
  | [d] => match seqV vh d with
    | some xs => some (.lst xs, vh)
    | none => none
  | _ => none
def listMD (as : List D) : M D := fun vh => match as with
  | [d] => match seqV vh d with
    | some xs => new (.lst xs) vh
    | none => none
  | _ => none
theorem cr_list : CallR X (.type "list") (rDs cl listD) := by
  intro pins s σ H xs us Q I r q
  obtain ⟨F, m, vh, as, w, ra, q⟩ := q
  unfold listD at q
  split at q
  · obtain ⟨v, rfl, rv⟩ := reps1 ra
    split at q
    · rename_i e1
      obtain ⟨a, ws, rfl, hs, ru⟩ := w.seqV (K := X.K) rv e1
      exact call_list_of pins s σ H _ us Q I r ⟨a, ws, rfl, hs, fun l hl => runNewLst q w ru hl⟩
    · exact False.elim q
  · exact False.elim q
theorem cr_listM : CallR X (.type "list") (rDs cl listMD) := by
  intro pins s σ H xs us Q I r q
  obtain ⟨F, m, vh, as, w, ra, q⟩ := q
  unfold listMD at q
  split at q
  · obtain ⟨v, rfl, rv⟩ := reps1 ra
    split at q
    · rename_i e1
      obtain ⟨a, ws, rfl, hs, ru⟩ := w.seqV (K := X.K) rv e1
      exact call_list_of pins s σ H _ us Q I r ⟨a, ws, rfl, hs, fun l hl => runNewLstM q w ru hl⟩
    · exact False.elim q
  · exact False.elim q
def tupleD (as : List D) : M D := fun vh => match as with
  | [.tup xs] => some (.tup xs, vh)
  | [d] => match lstV vh d with
    | some xs => some (.tup xs, vh)
    | none => none
  | _ => none
theorem cr_tuple : CallR X (.type "tuple") (rDs cl tupleD) := by
  intro pins s σ H xs us Q I r q
  obtain ⟨F, m, vh, as, w, ra, q⟩ := q
  unfold tupleD at q
  split at q
  · obtain ⟨v, rfl, rv⟩ := reps1 ra
    obtain ⟨a, ws, rfl, ea, ru⟩ := rep_tup rv
    exact call_tuple_of pins s σ H _ us Q I r ⟨a, ws, rfl, .inr ⟨w.sqT ea, Run.ret (a := D.tup _) q w _ rv⟩⟩
  · obtain ⟨v, rfl, rv⟩ := reps1 ra
    split at q
    · rename_i e1
      obtain ⟨a, ws, rfl, hs, ru⟩ := w.lstV rv e1
      exact call_tuple_of pins s σ H _ us Q I r ⟨a, ws, rfl, .inl ⟨.inl (.inl hs), fun l hl => runNewTup q w ru hl⟩⟩
    · exact False.elim q
  · exact False.elim q
def intR (_ : VH) : List D → Option D
  | [.int i] => some (.int i)
  | [.bl b] => some (.int (if b then 1 else 0))
  | _ => none
def intD : List D → M D := pureD intR
theorem cr_int : CallR X (.type "int") (rDs cl intD) := by
  intro pins s σ H xs us Q I r q
  obtain ⟨F, m, vh, as, w, ra, q⟩ := q
  obtain ⟨d, e, q⟩ := run_pure q
  unfold intR at e
  split at e
  · obtain ⟨v, rfl, rv⟩ := reps1 ra
    cases rep_int rv
    cases Option.some.inj e
    exact call_int1 pins s σ H _ us Q I r (.inl ⟨_, rfl, Run.ret q w _ (.int _)⟩)
  · obtain ⟨v, rfl, rv⟩ := reps1 ra
    cases rep_bl rv
    cases Option.some.inj e
    exact call_int1 pins s σ H _ us Q I r (.inr ⟨_, rfl, Run.ret q w _ (.int _)⟩)
  · cases e
def strR (_ : VH) : List D → Option D
  | [.int i] => if i.natAbs.log2 < 1920 then some (.str (toString i)) else none
  | _ => none
def strD : List D → M D := pureD strR
theorem cr_str : CallR X (.type "str") (rDs cl strD) := by
  intro pins s σ H xs us Q I r q
  obtain ⟨F, m, vh, as, w, ra, q⟩ := q
  obtain ⟨d, e, q⟩ := run_pure q
  unfold strR at e
  split at e
  · obtain ⟨v, rfl, rv⟩ := reps1 ra
    cases rep_int rv
    split at e
    · cases Option.some.inj e
      exact call_str_int pins s σ H _ us Q I r ⟨_, rfl, by assumption, Run.ret q w _ (.str _)⟩
    · cases e
  · cases e
/-! ### sums, all, any -/
def intsOf : List D → Option (List Int)
  | [] => some []
  | .int i :: r => (intsOf r).map (i :: ·)
  | _ => none
def blsOf : List D → Option (List Bool)
  | [] => some []
  | .bl i :: r => (blsOf r).map (i :: ·)
  | _ => none
theorem intsOf_eq : ∀ {xs : List D} {ns : List Int}, intsOf xs = some ns → xs = ns.map D.int
  | [], _, e => by cases e; rfl
  | .int i :: r, ns, e => by
    obtain ⟨js, e1, rfl⟩ := Option.map_eq_some_iff.mp e
    rw [intsOf_eq e1]; rfl
theorem blsOf_eq : ∀ {xs : List D} {ns : List Bool}, blsOf xs = some ns → xs = ns.map D.bl
  | [], _, e => by cases e; rfl
  | .bl i :: r, ns, e => by
    obtain ⟨js, e1, rfl⟩ := Option.map_eq_some_iff.mp e
    rw [blsOf_eq e1]; rfl
def sumR (vh : VH) : List D → Option D
  | [d] => (lstV vh d).bind fun xs => (intsOf xs).map fun ns => .int ns.sum
  | _ => none
def allR (vh : VH) : List D → Option D
  | [d] => (lstV vh d).bind fun xs => (blsOf xs).map fun ns => .bl (ns.all id)
  | _ => none
def anyR (vh : VH) : List D → Option D
  | [d] => (lstV vh d).bind fun xs => (blsOf xs).map fun ns => .bl (ns.any id)
  | _ => none
def sumD : List D → M D := pureD sumR
def allD : List D → M D := pureD allR
def anyD : List D → M D := pureD anyR
theorem crr_sum (hc : X.calm = true) : CallR X (.builtin "sum") (rDs cl sumD) := by
  intro pins s σ H xs us Q I r q
  obtain ⟨F, m, vh, as, w, ra, q⟩ := q
  obtain ⟨d, e, q⟩ := run_pure q
  unfold sumR at e
  split at e
  · obtain ⟨v, rfl, rv⟩ := reps1 ra
    obtain ⟨ys, e1, e⟩ := Option.bind_eq_some_iff.mp e
    obtain ⟨ns, e2, rfl⟩ := Option.map_eq_some_iff.mp e
    obtain ⟨a, ws, rfl, hs, ru⟩ := w.lstV rv e1
    rw [intsOf_eq e2] at ru
    cases ru.ints
    exact L2.cr_sum hc pins s σ H _ us Q I r ⟨a, ns, rfl, .inl (.inl hs), Run.ret q w _ (.int _)⟩
  · cases e
theorem crr_all (hc : X.calm = true) : CallR X (.builtin "all") (rDs cl allD) := by
  intro pins s σ H xs us Q I r q
  obtain ⟨F, m, vh, as, w, ra, q⟩ := q
  obtain ⟨d, e, q⟩ := run_pure q
  unfold allR at e
  split at e
  · obtain ⟨v, rfl, rv⟩ := reps1 ra
    obtain ⟨ys, e1, e⟩ := Option.bind_eq_some_iff.mp e
    obtain ⟨ns, e2, rfl⟩ := Option.map_eq_some_iff.mp e
    obtain ⟨a, ws, rfl, hs, ru⟩ := w.lstV rv e1
    rw [blsOf_eq e2] at ru
    cases ru.bls
    exact L2.cr_all hc pins s σ H _ us Q I r ⟨a, ns, rfl, .inl (.inl hs), Run.ret q w _ (.bl _)⟩
  · cases e
theorem crr_any (hc : X.calm = true) : CallR X (.builtin "any") (rDs cl anyD) := by
  intro pins s σ H xs us Q I r q
  obtain ⟨F, m, vh, as, w, ra, q⟩ := q
  obtain ⟨d, e, q⟩ := run_pure q
  unfold anyR at e
  split at e
  · obtain ⟨v, rfl, rv⟩ := reps1 ra
    obtain ⟨ys, e1, e⟩ := Option.bind_eq_some_iff.mp e
    obtain ⟨ns, e2, rfl⟩ := Option.map_eq_some_iff.mp e
    obtain ⟨a, ws, rfl, hs, ru⟩ := w.lstV rv e1
    rw [blsOf_eq e2] at ru
    cases ru.bls
    exact L2.cr_any hc pins s σ H _ us Q I r ⟨a, ns, rfl, .inl (.inl hs), Run.ret q w _ (.bl _)⟩
  · cases e
/-! ### isinstance of data and built-in classes -/
inductive Tn where
  | non | bl | int | str | lst | tup | dct
def Tn.nm : Tn → String
  | .non => "NoneType" | .bl => "bool" | .int => "int" | .str => "str" | .lst => "list" | .tup => "tuple" | .dct => "dict"
def tnOf (n : String) : Option Tn := if n = "bool" then some .bl else if n = "int" then some .int else if n = "str" then some .str else if n = "list" then some .lst else if n = "tuple" then some .tup else if n = "dict" then some .dct else none
theorem tnOf_nm {n : String} {t : Tn} (h : tnOf n = some t) : n = t.nm := by
  unfold tnOf at h
  repeat' split at h
  all_goals first | (cases Option.some.inj h; assumption) | cases h
def isT : Tn → Tn → Bool
  | .bl, .int => true
  | .non, .non => true | .bl, .bl => true | .int, .int => true | .str, .str => true | .lst, .lst => true | .tup, .tup => true | .dct, .dct => true
  | _, _ => false
theorem isT_kit : ∀ a b : Tn, kitB a.nm b.nm = some (isT a b) := by
  intro a b
  cases a <;> cases b <;> decide +kernel
def moT : MO → Option Tn
  | .lst _ => some .lst
  | .dct _ _ => some .dct
  | .dctL _ _ => some .dct
  | .lstL _ => none
  | .obj _ _ _ => none
def moAt : Option (Option MO) → Option Tn
  | some (some o) => moT o
  | _ => none
def tnD (vh : VH) : D → Option Tn
  | .non => some .non
  | .bl _ => some .bl
  | .int _ => some .int
  | .str _ => some .str
  | .lst _ => some .lst
  | .tup _ => some .tup
  | .dct _ _ => some .dct
  | .obj _ _ _ => none
  | .scr _ => some .lst
  | .ref n => moAt vh[n]?
  | .ty _ => none
  | .cls _ => none
  | .exc _ _ _ => none
theorem ty_dct {a : Addr} {kvs : List (Key × V)} (h : Rd H a (.dK kvs)) : TyX K H (.ref a) (.type Tn.dct.nm) := by
  rcases h with h | ⟨o, h⟩
  · exact TyX.base (TyOf.dK h)
  · exact TyX.fDict h
theorem tn_rep {v : V} {d : D} {t : Tn} (w : Wd cl F m vh H) (r : Rep cl F m v d) (e : tnD vh d = some t) : TyX K H v (.type t.nm) := by
  cases d with
  | non => cases r; cases e; exact .base .non
  | bl b => cases r; cases e; exact .base (.bl b)
  | int i => cases r; cases e; exact .base (.int i)
  | str s => cases r; cases e; exact .base (.str s)
  | lst xs => obtain ⟨a, us, rfl, ea, _⟩ := rep_lst r; cases e; exact .base (.lst (w.ext _ _ ea))
  | tup xs => obtain ⟨a, us, rfl, ea, _⟩ := rep_tup r; cases e; exact .base (.tup (w.ext _ _ ea))
  | dct ks xs => obtain ⟨a, us, rfl, ea, _⟩ := rep_dct r; cases e; exact ty_dct (w.rdK ea)
  | obj c ns vs => cases e
  | scr ns => cases r with | scr ea => cases e; exact .base (.frz (w.ext _ _ ea))
  | ref n =>
    have e : moAt vh[n]? = some t := e
    cases h : vh[n]? with
    | none => rw [h] at e; cases e
    | some x =>
      cases x with
      | none => rw [h] at e; cases e
      | some o =>
        rw [h] at e
        cases o with
        | lst xs => obtain ⟨a, us, rfl, _, ea, _⟩ := w.refLst r h; cases e; exact .base (.lst ea)
        | dct ks xs => obtain ⟨a, us, rfl, _, ea, _⟩ := w.refDct r h; cases e; exact ty_dct (Or.inl ea)
        | dctL ks xs =>
          obtain ⟨a, us, rfl, ea, _⟩ := w.dctV (d := .ref n) r (by show dctRd vh[n]? = _; rw [h]; rfl)
          cases e
          exact ty_dct ea
        | obj c ns vs => cases e
        | lstL xs => cases e
  | ty n => cases e
  | cls c => cases e
  | exc c ns vs => cases e
def tnsOf : List D → Option (List Tn)
  | [] => some []
  | .ty n :: r => match tnOf n, tnsOf r with
    | some t, some ts => some (t :: ts)
    | _, _ => none
  | _ => none
def isiR (vh : VH) : List D → Option D
  | [d, .ty n] => match tnD vh d, tnOf n with
    | some a, some b => some (.bl (isT a b))
    | _, _ => none
  | [d, .tup ts] => match tnD vh d, tnsOf ts with
    | some a, some bs => some (.bl (bs.any (isT a)))
    | _, _ => none
  | _ => none
def isiD : List D → M D := pureD isiR
theorem tns_rep : ∀ {ts : List D} {us : List V} {bs : List Tn}, tnsOf ts = some bs → Reps cl F m us ts → Paired ClsV us (bs.map fun t => Value.type t.nm)
  | [], _, _, e, r => by cases r; cases e; exact .nil
  | .ty n :: r, _, _, e, rr => by
    unfold tnsOf at e
    split at e
    · rename_i t ts e1 e2
      cases Option.some.inj e
      cases rr with
      | cons h t' =>
        cases h
        have := tnOf_nm e1
        subst this
        exact .cons (.ty _) (tns_rep e2 t')
    · cases e
theorem kitAny_tn {a : Tn} : ∀ (bs : List Tn), PySem.W.kitAny K (.type a.nm) (bs.map fun t => Value.type t.nm) = some (bs.any (isT a))
  | [] => rfl
  | b :: bs => by
    refine kitAny_cons (kit_ty (isT_kit a b)) (fun h => ?_) (fun h => ?_)
    · rw [List.any_cons, h, Bool.false_or]
      exact kitAny_tn bs
    · rw [List.any_cons, h, Bool.true_or]
theorem cr_isi : CallR X (.builtin "isinstance") (rDs cl isiD) := by
  intro pins s σ H xs us Q I r q
  obtain ⟨F, m, vh, as, w, ra, q⟩ := q
  obtain ⟨d, e, q2⟩ := run_pure q
  clear q
  unfold isiR at e
  split at e
  · obtain ⟨v, u, rfl, rv, ru⟩ := reps2 ra
    split at e
    · rename_i a b e1 e2
      cases Option.some.inj e
      cases ru
      have := tnOf_nm e2
      subst this
      exact call_isi pins s σ H _ us Q I r ⟨v, _, _, _, _, rfl, .ty _, tn_rep w rv e1, kit_ty (isT_kit a b), Run.ret q2 w _ (.bl _)⟩
    · cases e
  · obtain ⟨v, u, rfl, rv, ru⟩ := reps2 ra
    split at e
    · rename_i a bs e1 e2
      cases Option.some.inj e
      obtain ⟨p, ws, rfl, ep, rw'⟩ := rep_tup ru
      exact call_isiT pins s σ H _ us Q I r ⟨v, p, ws, _, _, _, rfl, w.ext _ _ ep, tns_rep e2 rw', tn_rep w rv e1, kitAny_tn bs, Run.ret q2 w _ (.bl _)⟩
    · cases e
  · cases e
theorem de_ty {e : Expr} {n : String} (h : PE X e (tC (.ty n))) : DE cl X e (fun _ => ret (.ty n)) := de_c h fun _ _ => .ty n
end
end VL

namespace VL
open PySem PySem.Spec PyProof.Rows L2

section
variable {X : Cx} {cl : Cn} {K : PySem.W.Frag} {F F' F1 F2 : Hp} {m m' m1 m2 : List Addr} {H H' H1 H2 : Hp} {vh vh1 : VH} {ρ : Rho} {σ : Sl} {tg : Expr}
/-! ### truth of any flat thing, list, tuple, dict -/
def truR (vh : VH) (d : D) : Option Bool := match d with
  | .non => some false
  | .bl b => some b
  | .int i => some (i != 0)
  | .str s => if s.length ≤ line then some ((s.length : Int) != 0) else none
  | d => match seqV vh d with
    | some xs => some (!xs.isEmpty)
    | none => (dctV vh d).map fun p => !p.1.isEmpty
def truD (d : D) : M Bool := fun vh => (truR vh d).map fun b => (b, vh)
/-- a value's truth, locked dicts too -/
def Tru2 (K : PySem.W.Frag) (x : V) (H : Hp) (k : Bool) : Prop := TruV K x H k ∨ ∃ p kvs, x = .ref p ∧ Rd H p (.dK kvs) ∧ k = !kvs.isEmpty
theorem tru2_ok : TruR X (fun x H Q => ∃ k, Tru2 X.K x H k ∧ Q k H) := by
  intro pins s σ H x v Q I rx h
  obtain ⟨k, e, q⟩ := h
  rcases e with e | ⟨p, kvs, rfl, hx, rfl⟩
  · exact tru_ok pins s σ H x v Q I rx ⟨k, e, q⟩
  · cases rx
    obtain ⟨hz, hS, vs, r, mm⟩ := dk_rd I.hok hx
    have hlen : kvs.length = vs.length := Paired.length r
    have h1 := line63
    refine wpAny_truthy_dict hS mm (by omega) ⟨H, I.tok _, ?_⟩
    rw [isEmpty_kv r]
    exact q
theorem pt_truth2 {e : Expr} {ta : TE} (ha : PE X e ta) (he : ∀ whole, isTrue e X.env whole = (do let v ← whole; standAt e.pos; holding [v] (truthy v))) :
    PT X e (fun σ H Q => ta σ H fun x H' => ∃ k, Tru2 X.K x H' k ∧ Q k H') :=
  ⟨fun pins s σ H Q I h => isTrue_plain (thn (ha.run pins s σ H _ I h) fun v s1 ⟨x, H1, I1, r1, q1⟩ => tru2_ok pins s1 σ H1 x v Q I1 r1 q1) (he _)⟩
theorem isEmpty_reps {us : List V} {ds : List D} (r : Reps cl F m us ds) : us.isEmpty = ds.isEmpty := by
  cases r <;> rfl
theorem tru_rep {v : V} {d : D} {b : Bool} (w : Wd cl F m vh H) (r : Rep cl F m v d) (e : truR vh d = some b) : Tru2 K v H b := by
  have rest : ∀ {d}, Rep cl F m v d → (match seqV vh d with
    | some xs => some (!xs.isEmpty)
    | none => (dctV vh d).map fun p => !p.1.isEmpty) = some b → Tru2 K v H b := by
    intro d r e
    cases e1 : seqV vh d with
    | some xs =>
      rw [e1] at e
      obtain ⟨a, us, rfl, hs, ru⟩ := w.seqV (K := K) r e1
      have eb : b = !us.isEmpty := by rw [isEmpty_reps ru]; exact (Option.some.inj e).symm
      rcases hs with h | h
      · exact Or.inl (Or.inl ⟨us, h, eb⟩)
      · exact Or.inl (Or.inr (Or.inl ⟨us, h, eb⟩))
    | none =>
      rw [e1] at e
      obtain ⟨p, e2, e3⟩ := Option.map_eq_some_iff.mp e
      obtain ⟨a, kvs, rfl, hd, ek, ru⟩ := w.dctV r e2
      refine Or.inr ⟨a, kvs, rfl, hd, ?_⟩
      rw [← e3, ← ek]
      simp
  cases d with
  | non => cases r; exact Or.inl (Option.some.inj e).symm
  | bl x => cases r; exact Or.inl (Option.some.inj e).symm
  | int x => cases r; exact Or.inl (Option.some.inj e).symm
  | str s =>
    cases r
    unfold truR at e
    by_cases hl : s.length ≤ line
    · simp only [if_pos hl] at e
      exact Or.inl ⟨le_line hl, (Option.some.inj e).symm⟩
    · simp only [if_neg hl] at e
      cases e
  | _ => exact rest r e
theorem dt_tru {e : Expr} {f : Rho → M D} (h : DE cl X e f) (hv : ∀ whole, isTrue e X.env whole = (do let v ← whole; standAt e.pos; holding [v] (truthy v)) := by intro _; rfl) : DT cl X e (fun ρ => bind (f ρ) truD) :=
  PTw (pt_truth2 h hv) fun σ H Q ⟨F, m, vh, ρ, w, r, q⟩ => tD_bind w r q fun F1 m1 vh1 H1 a v w1 r1 g1 rv q1 => by
    unfold truD at q1
    cases e : truR vh1 a with
    | none => rw [e] at q1; exact False.elim q1
    | some b =>
      rw [e] at q1
      exact ⟨b, tru_rep w1 rv e, Run.ret (a := b) q1 w1⟩


/-! ### methods of built-in types -/
def methD (chk : VH → D → Bool) (fo : Rho → M D) (fs : Rho → M (List D)) (o : D → List D → M D) : Rho → M D := fun ρ => bind (fo ρ) fun d => fun vh => if chk vh d = true then bind (fs ρ) (fun as => o d as) vh else none
theorem de_bm {T : String} {call ob : Expr} {es : List Expr} {r : V → List V → Hp → VK → Prop} {chk : VH → D → Bool} {o : D → List D → M D} {fo : Rho → M D} {fs : Rho → M (List D)}
    (ho : DE cl X ob fo) (ha : DA cl X es fs) (hpe : ∀ {to : TE} {t : TA}, PE X ob to → PA X es t → PE X call (tBM X.K T r to t))
    (hty : ∀ {F m vh H v d}, Wd cl F m vh H → Rep cl F m v d → chk vh d = true → tyV X.K T v H) (hr : ∀ x xs H Q, rDm cl o x xs H Q → r x xs H Q) : DE cl X call (methD chk fo fs o) :=
  PEw (hpe ho ha) fun σ H Q ⟨F, m, vh, ρ, w, r, q⟩ => tD_bind w r q fun F1 m1 vh1 H1 a v w1 r1 g1 rv q1 => by
    by_cases hc : chk vh1 a = true
    · simp only [if_pos hc] at q1
      refine ⟨hty w1 rv hc, tDs_bind w1 r1 q1 fun F2 m2 vh2 H2 as vs w2 r2 g2 rvs q2 => hr _ _ _ _ ⟨F2, m2, vh2, a, as, w2, rv.mono g2, rvs, q2⟩⟩
    · simp only [if_neg hc] at q1
      exact False.elim q1
theorem de_bm0 {T : String} {call ob : Expr} {r : V → List V → Hp → VK → Prop} {chk : VH → D → Bool} {o : D → List D → M D} {fo : Rho → M D}
    (ho : DE cl X ob fo) (hpe : ∀ {to : TE}, PE X ob to → PE X call (tBM0 X.K T r to))
    (hty : ∀ {F m vh H v d}, Wd cl F m vh H → Rep cl F m v d → chk vh d = true → tyV X.K T v H) (hr : ∀ x xs H Q, rDm cl o x xs H Q → r x xs H Q) : DE cl X call (methD chk fo nilA o) :=
  PEw (hpe ho) fun σ H Q ⟨F, m, vh, ρ, w, r, q⟩ => tD_bind w r q fun F1 m1 vh1 H1 a v w1 r1 g1 rv q1 => by
    by_cases hc : chk vh1 a = true
    · simp only [if_pos hc] at q1
      exact ⟨hty w1 rv hc, hr _ _ _ _ ⟨F1, m1, vh1, a, [], w1, rv, .nil, q1⟩⟩
    · simp only [if_neg hc] at q1
      exact False.elim q1
def isLst (vh : VH) (d : D) : Bool := (lstV vh d).isSome
def isStr (_ : VH) (d : D) : Bool := match d with
  | .str _ => true
  | _ => false
def isDct (vh : VH) (d : D) : Bool := match d with
  | .ref n => (dctAt vh[n]?).isSome
  | _ => false
theorem ty_list {F m vh H v d} (w : Wd cl F m vh H) (r : Rep cl F m v d) (h : isLst vh d = true) : tyV K "list" v H := by
  obtain ⟨xs, e⟩ := Option.isSome_iff_exists.mp h
  obtain ⟨a, us, rfl, hd, _⟩ := w.lstV r e
  exact .inl ⟨rfl, us, .inl (.inl hd)⟩
theorem ty_str {F m vh H v d} (w : Wd cl F m vh H) (r : Rep cl F m v d) (h : isStr vh d = true) : tyV K "str" v H := by
  unfold isStr at h
  split at h
  · cases r; rfl
  · cases h
theorem ty_dict {F m vh H v d} (w : Wd cl F m vh H) (r : Rep cl F m v d) (h : isDct vh d = true) : tyV K "dict" v H := by
  cases d with
  | ref n =>
    have h : (dctAt vh[n]?).isSome = true := h
    obtain ⟨⟨ks, xs⟩, e⟩ := Option.isSome_iff_exists.mp h
    obtain ⟨a, us, rfl, _, hd, _⟩ := w.refDct r (dctAt_eq e)
    exact Or.inr (Or.inr (Or.inl ⟨rfl, Or.inl ⟨us, hd⟩⟩))
  | _ => cases h
/-- a changing list, written: what becomes of it, what the method gives -/
def wrL (f : List D → List D → Option (D × List D)) (d : D) (as : List D) : M D := fun vh => match d with
  | .ref n => (lstAt vh[n]?).bind fun xs => (f xs as).map fun p => (p.1, vh.set n (some (.lst p.2)))
  | _ => none
theorem runWrL {f : List D → List D → Option (D × List D)} {d : D} {as : List D} {v : V} {k : Kn D} (w : Wd cl F m vh H) (r : Rep cl F m v d) (q : Run cl F m H (wrL f d as vh) k) :
    ∃ a us xs y ys, v = .ref a ∧ H a = some (.lst us) ∧ Reps cl F m us xs ∧ f xs as = some (y, ys) ∧ ∀ ws, Reps cl F m ws ys → ∃ F' m' vh', k F' m' vh' (upd H a (.lst ws)) y ∧ Gr F m F' m' := by
  cases d with
  | ref n =>
    have q : Run cl F m H ((lstAt vh[n]?).bind fun xs => (f xs as).map fun p => (p.1, vh.set n (some (.lst p.2)))) k := q
    cases e : lstAt vh[n]? with
    | none => rw [e] at q; exact False.elim q
    | some xs =>
      rw [e] at q
      have hv := lstAt_eq e
      obtain ⟨a, us, rfl, hm, ha, ru⟩ := w.refLst r hv
      cases e2 : f xs as with
      | none => simp only [Option.bind_some, e2] at q; exact False.elim q
      | some p =>
        obtain ⟨y, ys⟩ := p
        simp only [Option.bind_some, e2] at q
        refine ⟨a, us, xs, y, ys, rfl, ha, ru, e2, fun ws rw' => ?_⟩
        have z := w.written (u := .lst ws) (o' := .lst ys) hm hv (fun ob v z => by rw [ha] at z; cases z) fun P => ⟨ws, upd_same, rw'.mono P.gr⟩
        exact ⟨F, m, _, q _ _ _ z.2 z.1, .refl⟩
  | _ => exact False.elim q
def appendF (xs : List D) : List D → Option (D × List D)
  | [y] => if xs.length < line then some (.non, xs ++ [y]) else none
  | _ => none
def appendD : D → List D → M D := wrL appendF
theorem lt_line {n : Nat} (h : n < line) : n < sizeLine := by rw [sizeLine_eq]; exact h
theorem r_append {x : V} {xs : List V} {Q : VK} (h : rDm cl appendD x xs H Q) : rAppend x xs H Q := by
  obtain ⟨F, m, vh, a, as, w, ra, rs, q⟩ := h
  obtain ⟨p, us, ds, y, ys, rfl, hp, ru, e, fin⟩ := runWrL w ra q
  unfold appendF at e
  split at e
  · rename_i b
    by_cases hl : ds.length < line
    · rw [if_pos hl] at e
      cases Option.some.inj e
      obtain ⟨v, rfl, rv⟩ := reps1 rs
      obtain ⟨F', m', vh', k, g⟩ := fin (us ++ [v]) (ru.append (.cons rv .nil))
      exact ⟨p, us, v, rfl, rfl, hp, lt_line (by rw [ru.length]; exact hl), k _ .non⟩
    · rw [if_neg hl] at e
      cases e
  · cases e
/-- pop(i) with 0 ≤ i, pop() -/
def popAtF (xs : List D) : List D → Option (D × List D)
  | [.int i] => if 0 ≤ i ∧ i < 9223372036854775808 then (xs[i.toNat]?).map fun y => (y, xs.eraseIdx i.toNat) else none
  | _ => none
def popAtD : D → List D → M D := wrL popAtF
theorem r_popAt {x : V} {xs : List V} {Q : VK} (h : rDm cl popAtD x xs H Q) : rPopAt x xs H Q := by
  obtain ⟨F, m, vh, a, as, w, ra, rs, q⟩ := h
  obtain ⟨p, us, ds, y, ys, rfl, hp, ru, e, fin⟩ := runWrL w ra q
  unfold popAtF at e
  split at e
  · rename_i i
    by_cases hl : 0 ≤ i ∧ i < 9223372036854775808
    · rw [if_pos hl] at e
      obtain ⟨z, e1, e2⟩ := Option.map_eq_some_iff.mp e
      cases e2
      obtain ⟨v, rfl, rv⟩ := reps1 rs
      cases rep_int rv
      obtain ⟨u, e3, rz⟩ := ru.get e1
      obtain ⟨F', m', vh', k, g⟩ := fin (us.eraseIdx i.toNat) (ru.eraseIdx _)
      have hlt : i.toNat < us.length := (List.getElem?_eq_some_iff.mp e3).1
      have hseq : seqIndex? i us.length = some i.toNat := by
        have hx : ixN us.length i = some i.toNat := by
          unfold ixN
          rw [if_pos hl.1, if_pos (by omega)]
        exact (ixN_seq hx).1
      exact ⟨p, us, i, i.toNat, u, rfl, rfl, hp, (show -(2 ^ 63 : Int) ≤ i by omega), hl.2, hseq, e3, k _ (rz.mono g)⟩
    · rw [if_neg hl] at e
      cases e
  · cases e
def popF (xs : List D) : List D → Option (D × List D)
  | [] => (xs[xs.length - 1]?).map fun y => (y, xs.dropLast)
  | _ => none
def popD : D → List D → M D := wrL popF
theorem Reps.dropLast {us : List V} {ds : List D} (r : Reps cl F m us ds) : Reps cl F m us.dropLast ds.dropLast := by
  rw [List.dropLast_eq_take, List.dropLast_eq_take, r.length]
  exact r.take _
theorem r_pop {x : V} {xs : List V} {Q : VK} (h : rDm cl popD x xs H Q) : rPop x xs H Q := by
  obtain ⟨F, m, vh, a, as, w, ra, rs, q⟩ := h
  obtain ⟨p, us, ds, y, ys, rfl, hp, ru, e, fin⟩ := runWrL w ra q
  unfold popF at e
  split at e
  · obtain ⟨z, e1, e2⟩ := Option.map_eq_some_iff.mp e
    cases e2
    cases rs
    rw [← ru.length] at e1
    obtain ⟨u, e3, rz⟩ := ru.get e1
    obtain ⟨F', m', vh', k, g⟩ := fin us.dropLast ru.dropLast
    exact ⟨p, us, u, rfl, rfl, hp, e3, k _ (rz.mono g)⟩
  · cases e
/-- extend by a list that is another one -/
def extendD (d : D) (as : List D) : M D := fun vh => match as with
  | [b] => match lstV vh b with
    | some zs => wrL (fun xs _ => if xs.length + zs.length ≤ line then some (.non, xs ++ zs) else none) d [] vh
    | none => none
  | _ => none
theorem r_extend {x : V} {xs : List V} {Q : VK} (h : rDm cl extendD x xs H Q) : rExtend x xs H Q := by
  obtain ⟨F, m, vh, a, as, w, ra, rs, q⟩ := h
  unfold extendD at q
  split at q
  · split at q
    · rename_i b _ zs e0
      obtain ⟨p, us, ds, y, ys, rfl, hp, ru, e, fin⟩ := runWrL w ra q
      by_cases hl : ds.length + zs.length ≤ line
      · rw [if_pos hl] at e
        cases Option.some.inj e
        obtain ⟨v, rfl, rv⟩ := reps1 rs
        obtain ⟨c, ws, rfl, hc, rw'⟩ := w.lstV rv e0
        obtain ⟨F', m', vh', k, g⟩ := fin (us ++ ws) (ru.append rw')
        exact ⟨p, c, us, ws, rfl, rfl, hp, hc, by rw [ru.length, rw'.length]; exact le_line hl, k _ .non⟩
      · rw [if_neg hl] at e
        cases e
    · exact False.elim q
  · exact False.elim q
/-- sep.join(xs) -/
def strsOf : List D → Option (List Str)
  | [] => some []
  | .str i :: r => (strsOf r).map (i :: ·)
  | _ => none
theorem strsOf_eq : ∀ {xs : List D} {ns : List Str}, strsOf xs = some ns → xs = ns.map D.str
  | [], _, e => by cases e; rfl
  | .str i :: r, ns, e => by
    obtain ⟨js, e1, rfl⟩ := Option.map_eq_some_iff.mp e
    rw [strsOf_eq e1]; rfl
def joinR (vh : VH) (d : D) : List D → Option D
  | [b] => match d with
    | .str a => (seqV vh b).bind fun xs => (strsOf xs).bind fun ys => if (ys.map (·.length)).sum + ys.length * a.length ≤ line then some (.str (Txt.join a ys)) else none
    | _ => none
  | _ => none
def joinD (d : D) : List D → M D := pureD fun vh as => joinR vh d as
theorem r_join (pins : List (Addr × Obj)) {x : V} {xs : List V} {Q : VK} (h : rDm cl joinD x xs H Q) : ∃ a p, ∃ ys : List Str, x = .str a ∧ xs = [.ref p] ∧ (SqL K H p (ys.map V.str) ∨ SqT K H p (ys.map V.str)) ∧
    (ys.map (·.length)).sum + ys.length * a.length ≤ 16777216 ∧ Q (.str (Txt.join a ys)) H := by
  obtain ⟨F, m, vh, a, as, w, ra, rs, q⟩ := h
  obtain ⟨d, e, q⟩ := run_pure q
  unfold joinR at e
  split at e
  · split at e
    · rename_i z
      obtain ⟨zs, e1, e⟩ := Option.bind_eq_some_iff.mp e
      obtain ⟨ys, e2, e⟩ := Option.bind_eq_some_iff.mp e
      split at e
      · rename_i hl
        cases Option.some.inj e
        obtain ⟨v, rfl, rv⟩ := reps1 rs
        obtain ⟨p, us, rfl, hs, ru⟩ := w.seqV (K := K) rv e1
        rw [strsOf_eq e2] at ru
        cases ru.strs
        exact ⟨z, p, ys, rep_str ra, rfl, hs, hl, Run.ret q w _ (.str _)⟩
      · cases e
    · cases e
  · cases e
end
end VL

namespace VL
open PySem PySem.Spec PyProof.Rows L2

section
variable {X : Cx} {cl : Cn} {K : PySem.W.Frag} {F F' F1 F2 : Hp} {m m' m1 m2 : List Addr} {H H' H1 H2 : Hp} {vh vh1 : VH} {ρ : Rho} {σ : Sl} {tg : Expr}
/-! ### stores by a subscript -/
def setLF (xs : List D) : List D → Option (D × List D)
  | [.int i, v] => (ixN xs.length i).map fun j => (.non, xs.set j v)
  | _ => none
/-- o[i] = v -/
def setD (o i v : D) : M D := fun vh => match o with
  | .ref n => match lstAt vh[n]? with
    | some _ => wrL setLF o [i, v] vh
    | none => match dctAt vh[n]?, toKey i with
      | some (ks, vs), some k => if ks.length < line then some (.non, vh.set n (some (.dct (putKs ks k) (putVs ks vs k v)))) else none
      | _, _ => none
  | _ => none
theorem PSet.or {t t' : TSet} (h : PSet X t) (h' : PSet X t') : PSet X (fun o i v H Q => t o i v H Q ∨ t' o i v H Q) := fun pins s σ H o i v ov iv u Q I r1 r2 r3 q => q.elim (h pins s σ H o i v ov iv u Q I r1 r2 r3) (h' pins s σ H o i v ov iv u Q I r1 r2 r3)
def rSetK : TSet := fun o i v H Q => ∃ a H', o = .ref a ∧ DPut H a i v H' ∧ Q H'
theorem set_dict (hu : X.A.units + 1 < cLine) : PSet X rSetK := fun pins s σ H o i v ov iv u Q I r1 r2 r3 ⟨a, H', e, g, q⟩ => by
  subst e
  cases r1
  exact d_setItem hu I g r2 r3 fun s' I' => ⟨H', I', q⟩
theorem setD_rep {o i v : D} {x y z : V} {k : Kn D} (w : Wd cl F m vh H) (ro : Rep cl F m x o) (ri : Rep cl F m y i) (rv : Rep cl F m z v) (q : Run cl F m H (setD o i v vh) k) :
    (∃ H' F' m' vh', rSetL x y z H (fun H2 => H2 = H') ∧ k F' m' vh' H' .non ∧ Gr F m F' m' ∧ Post F m H F' m' H' ∧ Wd cl F' m' vh' H') ∨ (∃ H' F' m' vh', rSetK x y z H (fun H2 => H2 = H') ∧ k F' m' vh' H' .non ∧ Gr F m F' m' ∧ Post F m H F' m' H' ∧ Wd cl F' m' vh' H') := by
  cases o with
  | ref n =>
    have q : Run cl F m H (match lstAt vh[n]? with
      | some _ => wrL setLF (.ref n) [i, v] vh
      | none => match dctAt vh[n]?, toKey i with
        | some (ks, vs), some k => if ks.length < line then some (.non, vh.set n (some (.dct (putKs ks k) (putVs ks vs k v)))) else none
        | _, _ => none) k := q
    cases e : lstAt vh[n]? with
    | some xs =>
      rw [e] at q
      have hv := lstAt_eq e
      obtain ⟨a, us, rfl, hm, ha, ru⟩ := w.refLst ro hv
      have q : Run cl F m H ((lstAt vh[n]?).bind fun xs => (setLF xs [i, v]).map fun p => (p.1, vh.set n (some (.lst p.2)))) k := q
      rw [e] at q
      simp only [Option.bind_some] at q
      cases i with
      | int j =>
        cases e2 : ixN xs.length j with
        | none =>
          simp only [setLF, e2] at q
          exact False.elim q
        | some t =>
          simp only [setLF, e2, Option.map_some] at q
          cases rep_int ri
          have z := w.written (u := .lst (us.set t z)) (o' := .lst (xs.set t v)) hm hv (fun ob v z => by rw [ha] at z; cases z) fun P => ⟨_, upd_same, (ru.set rv t).mono P.gr⟩
          exact .inl ⟨_, F, m, _, ⟨a, us, j, t, rfl, rfl, ha, by rw [ru.length]; exact e2, rfl⟩, q _ _ _ z.2 z.1, .refl, z.2, z.1⟩
      | _ => exact False.elim q
    | none =>
      rw [e] at q
      simp only [] at q
      cases e1 : dctAt vh[n]? with
      | none => rw [e1] at q; exact False.elim q
      | some p =>
        obtain ⟨ks, vs⟩ := p
        rw [e1] at q
        cases e2 : toKey i with
        | none => rw [e2] at q; exact False.elim q
        | some kk =>
          rw [e2] at q
          simp only [] at q
          by_cases hl : ks.length < line
          · rw [if_pos hl] at q
            have hv := dctAt_eq e1
            obtain ⟨a, kvs, rfl, hm, ha, ek, ru⟩ := w.refDct ro hv
            have pr := put_rep (j := kk) ru rv
            have z := w.written (u := .dK (putK kvs kk z)) (o' := .dct (putKs ks kk) (putVs ks vs kk v)) hm hv (fun ob v z => by rw [ha] at z; cases z) fun P => ⟨_, upd_same, by rw [pr.1, ek], by rw [← ek]; exact pr.2.mono P.gr⟩
            refine .inr ⟨_, F, m, _, ⟨a, _, rfl, ?_, rfl⟩, q _ _ _ z.2 z.1, .refl, z.2, z.1⟩
            rw [rep_key e2 ri]
            exact DPut.k ha (lt_line (by rw [show kvs.length = (kvs.map (·.1)).length by simp, ek]; exact hl))
          · rw [if_neg hl] at q
            exact False.elim q
  | _ => exact False.elim q
def subG (fo fi : Rho → M D) : Tg := fun d ρ => bind (fo ρ) fun x => bind (fi ρ) fun y => bind (setD x y d) fun _ => ret ρ
theorem dg_sub {o i : Expr} {pos : Pos} {fo fi : Rho → M D} (hu : X.A.units + 1 < cLine) (ho : DE cl X o fo) (hi : DE cl X i fi)
    (hb : ∀ {to ti : TE} {t : TSet}, PE X o to → PE X i ti → PSet X t → PG X (.Subscript o i pos) (gSub to ti t)) : DG cl X (.Subscript o i pos) [] (subG fo fi) :=
  PGw (hb ho hi (PSet.or set_list (set_dict hu))) fun v σ H Q ⟨F, m, vh, ρ, d, w, r, rv, q⟩ => by
    refine tD_bind w r q fun F1 m1 vh1 H1 x u w1 r1 g1 ru q1 => ?_
    refine tD_bind w1 r1 q1 fun F2 m2 vh2 H2 y t w2 r2 g2 rt q2 => ?_
    rcases setD_rep w2 (ru.mono g2) rt (rv.mono (g1.trans g2)) (Run.bind q2) with ⟨H', F', m', vh', hs, hk, g, p, w'⟩ | ⟨H', F', m', vh', hs, hk, g, p, w'⟩
    · obtain ⟨a, us, j, t, e1, e2, e3, e4, e5⟩ := hs
      exact .inl ⟨a, us, j, t, e1, e2, e3, e4, by rw [e5]; exact Run.ret hk w' σ (r2.mono g) rfl fun _ _ => rfl⟩
    · obtain ⟨a, H3, e1, e2, e3⟩ := hs
      exact .inr ⟨a, H3, e1, e2, by rw [e3]; exact Run.ret hk w' σ (r2.mono g) rfl fun _ _ => rfl⟩

/-! ### x += e, d[k] += e (numbers) -/
def augS (i : Nat) (f : Rho → M D) (o : D → D → M D) : Bk := fun ρ => bind (var i ρ) fun x => bind (f ρ) fun y => bind (o x y) fun z => ret (.nx (ρ.set i (some z)))
theorem ds_aug {st : Stmt} {i : Nat} {e : Expr} {f : Rho → M D} {o : D → D → M D} {ti : TIp} (he : DE cl X e f) (hb : ∀ {te : TE}, PE X e te → PS X st (tAug i te ti)) (ht : ∀ x y H Q, rD2 cl o x y H Q → ti x y H Q) : DS cl X st (augS i f o) :=
  PSw (hb he) fun D σ H ⟨F, m, vh, ρ, w, r, q⟩ => by
    unfold augS var at q
    cases e0 : ρ[i]? with
    | none => rw [e0] at q; exact False.elim q
    | some od =>
      cases od with
      | none => rw [e0] at q; exact False.elim q
      | some d =>
        rw [e0] at q
        obtain ⟨v, e1, rv⟩ := r.at_ i d e0
        refine ⟨v, e1, tD_bind w r q fun F1 m1 vh1 H1 a u w1 r1 g1 ru q1 => ht _ _ _ _ ⟨F1, m1, vh1, d, a, w1, rv.mono g1, ru, (Run.bind q1).mono fun F2 m2 vh2 H2 z p2 w2 q2 t rt => ?_⟩⟩
        exact Run.ret q2 w2 _ ((r1.mono p2.gr).set rt i)
def addI : D → D → M D := opI (fun _ _ => true) fun i j => i + j
theorem ip_addI {x y : V} {Q : VK} (h : rD2 cl addI x y H Q) : ipI (fun i j => i + j) x y H Q := by
  obtain ⟨F, m, vh, a, b, w, ra, rb, q⟩ := h
  unfold addI opI at q
  split at q
  · cases rep_int ra
    cases rep_int rb
    obtain ⟨_, q⟩ := run_if q
    exact ⟨_, _, rfl, rfl, Run.ret q w _ (.int _)⟩
  · exact False.elim q
theorem ip_subI {x y : V} {Q : VK} (h : rD2 cl subD x y H Q) : ipI (fun i j => i - j) x y H Q := by
  obtain ⟨F, m, vh, a, b, w, ra, rb, q⟩ := h
  unfold subD opI at q
  split at q
  · cases rep_int ra
    cases rep_int rb
    obtain ⟨_, q⟩ := run_if q
    exact ⟨_, _, rfl, rfl, Run.ret q w _ (.int _)⟩
  · exact False.elim q
theorem in_addI {x y : V} {Q : VK} (h : rD2 cl addI x y H Q) : rAdd x y H Q := ip_addI h
theorem in_subI {x y : V} {Q : VK} (h : rD2 cl subD x y H Q) : rSub x y H Q := ip_subI h
/-! ### instances -/
def lookupF : List Str → List D → Str → Option D
  | k :: ks, d :: ds, j => if j = k then some d else lookupF ks ds j
  | _, _, _ => none
def putFn (ks : List Str) (f : Str) : List Str := match ks with
  | [] => [f]
  | k :: ks => if k = f then k :: ks else k :: putFn ks f
def putFv (ks : List Str) (vs : List D) (f : Str) (d : D) : List D := match ks, vs with
  | k :: ks, v :: vs => if k = f then d :: vs else v :: putFv ks vs f d
  | _, _ => [d]
theorem lookupF_rep {j : Str} : ∀ {fs : List (Str × V)} {ds : List D}, Reps cl F m (fs.map (·.2)) ds →
    (∀ d, lookupF (fs.map (·.1)) ds j = some d → ∃ v, fs.lookup j = some v ∧ Rep cl F m v d) ∧ (lookupF (fs.map (·.1)) ds j = none → fs.lookup j = none)
  | [], ds, r => by
    cases r
    exact ⟨fun d e => (by cases e), fun _ => rfl⟩
  | p :: fs, ds, r => by
    cases r with
    | @cons v vs d ds rv rvs =>
      have ih := lookupF_rep (j := j) rvs
      by_cases e : j = p.1
      · refine ⟨fun d' z => ?_, fun z => ?_⟩
        · simp only [List.map_cons, lookupF, if_pos e] at z
          cases z
          exact ⟨p.2, by rw [List.lookup]; simp [e], rv⟩
        · simp only [List.map_cons, lookupF, if_pos e] at z
          cases z
      · have eb : (j == p.1) = false := beq_eq_false_iff_ne.mpr e
        have hl : List.lookup j (p :: fs) = List.lookup j fs := by
          obtain ⟨g, x⟩ := p
          simp only [List.lookup, eb]
        refine ⟨fun d' z => ?_, fun z => ?_⟩
        · simp only [List.map_cons, lookupF, if_neg e] at z
          obtain ⟨u, e1, e2⟩ := ih.1 d' z
          exact ⟨u, hl.trans e1, e2⟩
        · simp only [List.map_cons, lookupF, if_neg e] at z
          exact hl.trans (ih.2 z)
theorem putF_rep {f : Str} {v : V} {d : D} (rv : Rep cl F m v d) : ∀ {fs : List (Str × V)} {ds : List D}, Reps cl F m (fs.map (·.2)) ds →
    (putF f v fs).map (·.1) = putFn (fs.map (·.1)) f ∧ Reps cl F m ((putF f v fs).map (·.2)) (putFv (fs.map (·.1)) ds f d)
  | [], ds, r => by
    cases r
    exact ⟨rfl, .cons rv .nil⟩
  | p :: fs, ds, r => by
    cases r with
    | @cons v' vs d' ds rv' rvs =>
      have ih := putF_rep (f := f) rv rvs
      obtain ⟨g, x⟩ := p
      by_cases e : g = f
      · simp only [putF, putFn, putFv, List.map_cons, if_pos e]
        exact ⟨trivial, .cons rv rvs⟩
      · simp only [putF, putFn, putFv, List.map_cons, if_neg e, ih.1]
        exact ⟨trivial, .cons rv' ih.2⟩
/-- the attributes of an instance of the class c, as they are now -/
def objAt (c : Nat) : Option (Option MO) → Option (List Str × List D)
  | some (some (.obj c' ns vs)) => if c' = c then some (ns, vs) else none
  | _ => none
def objV (c : Nat) (vh : VH) : D → Option (List Str × List D)
  | .obj c' ns vs => if c' = c then some (ns, vs) else none
  | .ref n => objAt c vh[n]?
  | _ => none
theorem objAt_eq {c : Nat} {o : Option (Option MO)} {ns : List Str} {vs : List D} (e : objAt c o = some (ns, vs)) : o = some (some (.obj c ns vs)) := by
  unfold objAt at e
  split at e
  · split at e
    · cases e
      subst c
      rfl
    · cases e
  · cases e
theorem Wd.refObj {v : V} {n c : Nat} {ns : List Str} {xs : List D} (w : Wd cl F m vh H) (r : Rep cl F m v (.ref n)) (e : vh[n]? = some (some (.obj c ns xs))) : ∃ a dx fs, v = .ref a ∧ m[n]? = some a ∧ H a = some (.ins (cl c) dx fs) ∧ fs.map (·.1) = ns ∧ Reps cl F m (fs.map (·.2)) xs := by
  cases r with
  | ref h =>
    obtain ⟨_, dx, us, h1, h2, h3⟩ := w.live _ _ _ h e
    exact ⟨_, dx, us, rfl, h, h1, h2, h3⟩
theorem rep_obj {v : V} {c : Nat} {ns : List Str} {ds : List D} (h : Rep cl F m v (.obj c ns ds)) : ∃ a dx fs, v = .ref a ∧ F a = some (.ins (cl c) dx fs) ∧ fs.map (·.1) = ns ∧ Reps cl F m (fs.map (·.2)) ds := by
  cases h with
  | obj e r => exact ⟨_, _, _, rfl, e, rfl, r⟩
theorem Wd.objV {v : V} {d : D} {c : Nat} {ns : List Str} {xs : List D} (w : Wd cl F m vh H) (r : Rep cl F m v d) (e : objV c vh d = some (ns, xs)) : ∃ a dx fs, v = .ref a ∧ H a = some (.ins (cl c) dx fs) ∧ fs.map (·.1) = ns ∧ Reps cl F m (fs.map (·.2)) xs := by
  cases d with
  | obj c' ls ys =>
    have e : (if c' = c then some (ls, ys) else none) = some (ns, xs) := e
    by_cases hc : c' = c
    · rw [if_pos hc] at e
      cases e
      subst hc
      obtain ⟨a, dx, us, rfl, ea, ek, ru⟩ := rep_obj r
      exact ⟨a, dx, us, rfl, w.ext _ _ ea, ek, ru⟩
    · rw [if_neg hc] at e
      cases e
  | ref n =>
    obtain ⟨a, dx, us, rfl, _, h, ek, ru⟩ := w.refObj r (objAt_eq e)
    exact ⟨a, dx, us, rfl, h, ek, ru⟩
  | _ => cases e
def fldD (c : Nat) (f : Str) (d : D) : M D := fun vh => match objV c vh d with
  | some (ns, vs) => (lookupF ns vs f).map fun x => (x, vh)
  | none => none
theorem de_fld {o : Expr} {f : Str} {pos : Pos} {c : Nat} {fo : Rho → M D} (ho : DE cl X o fo) (hc : Cls X.K (cl c)) (hn : NoAttr X.K (cl c) f) (hb : ∀ {to : TE}, PE X o to → PE X (.Attribute o f pos) (tFld X.K to f)) : DE cl X (.Attribute o f pos) (den1 (fldD c f) fo) :=
  PEw (hb ho) fun σ H Q ⟨F, m, vh, ρ, w, r, q⟩ => tD_bind w r q fun F1 m1 vh1 H1 a v w1 r1 g1 rv q1 => by
    unfold fldD at q1
    cases e : objV c vh1 a with
    | none => rw [e] at q1; exact False.elim q1
    | some p =>
      obtain ⟨ns, vs⟩ := p
      rw [e] at q1
      cases e2 : lookupF ns vs f with
      | none => simp only [e2] at q1; exact False.elim q1
      | some x =>
        simp only [e2] at q1
        obtain ⟨p, dx, fs, rfl, hp, ek, ru⟩ := w1.objV rv e
        subst ek
        obtain ⟨u, e3, rx⟩ := (lookupF_rep ru).1 x e2
        exact ⟨p, cl c, dx, fs, u, rfl, hp, hc, hn, e3, Run.ret (a := x) q1 w1 u rx⟩
/-- o.f = e -/
def setFD (c : Nat) (f : Str) (o v : D) : M D := fun vh => match o with
  | .ref n => match objAt c vh[n]? with
    | some (ns, vs) => if ns.length < 1000 then some (.non, vh.set n (some (.obj c (putFn ns f) (putFv ns vs f v)))) else none
    | none => none
  | _ => none
def fldS (c : Nat) (f : Str) (fo fe : Rho → M D) : Bk := fun ρ => bind (fe ρ) fun v => bind (fo ρ) fun o => bind (setFD c f o v) fun _ => ret (.nx ρ)
theorem ds_fld {o e : Expr} {st : Stmt} {f : Str} {c : Nat} {fo fe : Rho → M D} (ho : DE cl X o fo) (he : DE cl X e fe) (hc : Cls X.K (cl c)) (hn : NoAttr X.K (cl c) f) (hb : ∀ {to te : TE}, PE X o to → PE X e te → PS X st (sFld X.K to te f)) : DS cl X st (fldS c f fo fe) :=
  PSw (hb ho he) fun D σ H ⟨F, m, vh, ρ, w, r, q⟩ => by
    refine tD_bind w r q fun F1 m1 vh1 H1 x u w1 r1 g1 ru q1 => ?_
    refine tD_bind w1 r1 q1 fun F2 m2 vh2 H2 y t w2 r2 g2 rt q2 => ?_
    have q3 := Run.bind q2
    unfold setFD at q3
    cases y with
    | ref n =>
      simp only [] at q3
      cases e : objAt c vh2[n]? with
      | none => rw [e] at q3; exact False.elim q3
      | some p =>
        obtain ⟨ns, vs⟩ := p
        rw [e] at q3
        simp only [] at q3
        by_cases hl : ns.length < 1000
        · rw [if_pos hl] at q3
          have hv := objAt_eq e
          obtain ⟨a, dx, fs, rfl, hm, ha, ek, rs⟩ := w2.refObj rt hv
          have pr := putF_rep (f := f) (ru.mono g2) rs
          have z := w2.written (u := .ins (cl c) dx (putF f u fs)) (o' := .obj c (putFn ns f) (putFv ns vs f x)) hm hv (fun ob v z => by rw [ha] at z; cases z) fun P => ⟨dx, _, upd_same, by rw [pr.1, ek], by rw [← ek]; exact pr.2.mono P.gr⟩
          refine ⟨a, cl c, dx, fs, rfl, ha, hc, hn, by rw [show fs.length = (fs.map (·.1)).length by simp, ek]; exact hl, ?_⟩
          exact Run.ret (q3 _ _ _ z.2 z.1) z.1 σ r2
        · rw [if_neg hl] at q3
          exact False.elim q3
    | _ => exact False.elim q3
/-- C(e, ..): its __init__, then it stands still -/
def mkD (c : Nat) (n : Nat) (den : List D → M D) (as : List D) : M D := fun vh => match denC n den (.ref vh.length :: as) (vh ++ [some (.obj c [] [])]) with
  | some (.non, vh') => still (.ref vh.length) vh'
  | _ => none
/-- .. and it may change -/
def mkMD (c : Nat) (n : Nat) (den : List D → M D) (as : List D) : M D := fun vh => match denC n den (.ref vh.length :: as) (vh ++ [some (.obj c [] [])]) with
  | some (.non, vh') => some (.ref vh.length, vh')
  | _ => none
theorem Wd.extra {vh : VH} {p : Addr} {o : HO} (w : Wd cl F m vh H) (hp : H p = none) : Wd cl F m vh (upd H p o) ∧ Post F m H F m (upd H p o) :=
  ⟨w.aside (fun h => w.used p h hp) (w.freeF hp), .refl, fun a o e n => ⟨by rw [upd_ne (ne_of_none e hp)]; exact e, rfl, n⟩, fun a o u e => by rw [upd_ne (ne_of_none e hp)]; exact e⟩
theorem runMake {c n : Nat} {den : List D → M D} {as : List D} {vs : List V} {fin : D → M D} {Q : VK} (w : Wd cl F m vh H) (r : Reps cl F m vs as)
    (q : Run cl F m H ((match denC n den (.ref vh.length :: as) (vh ++ [some (.obj c [] [])]) with
      | some (.non, vh') => fin (.ref vh.length) vh'
      | _ => none) : Option (D × VH)) (kV' cl Q))
    (hf : ∀ {F m vh H a d n} {Q : VK}, Wd cl F m vh H → m[n]? = some a → d = D.ref n → Run cl F m H (fin d vh) (kV' cl Q) → Q (.ref a) H) {x dx : Addr} (nx : H x = none) (ndx : H dx = none) (hne : dx ≠ x) :
    spD cl n den (.ref x :: (vs ++ [])) (upd (upd H dx (.own x)) x (.ins (cl c) dx [])) (fun v H2 => v = .non ∧ Q (.ref x) H2) E0 := by
  obtain ⟨w1, p1⟩ := w.extra (o := .own x) ndx
  have nx1 : (upd H dx (.own x)) x = none := by rw [upd_ne (Ne.symm hne)]; exact nx
  have z := w1.grown (u := .ins (cl c) dx []) (o := .obj c [] []) nx1 fun P => ⟨dx, [], upd_same, rfl, .nil⟩
  have hlen : m.length = vh.length := w.len
  have hx : (m ++ [x])[vh.length]? = some x := at_snoc hlen
  have rs : Reps cl F (m ++ [x]) (.ref x :: (vs ++ [])) (.ref vh.length :: as) := .cons (.ref hx) (by rw [List.append_nil]; exact r.mono (p1.gr.trans z.2.gr))
  cases e : denC n den (.ref vh.length :: as) (vh ++ [some (.obj c [] [])]) with
  | none => rw [e] at q; exact False.elim q
  | some y =>
    obtain ⟨d, vh'⟩ := y
    have hlA : (D.ref vh.length :: as).length = n := by
      unfold denC at e
      split at e
      · assumption
      · cases e
    have e' : den (.ref vh.length :: as) (vh ++ [some (.obj c [] [])]) = some (d, vh') := by
      unfold denC at e
      rw [if_pos hlA] at e
      exact e
    rw [e] at q
    cases d with
    | non =>
      refine ⟨F, m ++ [x], _, _, by rw [rs.length, hlA], z.1, rs, ?_⟩
      rw [e']
      intro F2 m2 H2 p2 w2 v rv
      refine ⟨rep_non rv, ?_⟩
      have q2 : Run cl F m H (fin (.ref vh.length) vh') (kV' cl Q) := q
      exact hf w2 (p2.gr.pre _ _ hx) rfl (Run.pre q2 ((p1.trans z.2).trans p2))
    | _ => exact False.elim q
theorem fin_still {F m vh H a} {d : D} {n : Nat} {Q : VK} (w : Wd cl F m vh H) (hm : m[n]? = some a) (e : d = D.ref n) (q : Run cl F m H (still d vh) (kV' cl Q)) : Q (.ref a) H := by
  subst e
  have q : Run cl F m H (match vh[n]? with
    | some (some o) => (stillO o).map fun d => (d, vh.set n none)
    | _ => none) (kV' cl Q) := q
  cases h : vh[n]? with
  | none => rw [h] at q; exact False.elim q
  | some o =>
    cases o with
    | none => rw [h] at q; exact False.elim q
    | some o =>
      rw [h] at q
      cases h3 : stillO o with
      | none => simp only [h3] at q; exact False.elim q
      | some d =>
        simp only [h3] at q
        obtain ⟨F', w', p', r'⟩ := w.stilled hm h h3
        exact q F' m H p' w' _ r'
theorem de_make {c n k : Nat} {f : Addr} {fd : FuncData} {ps : List Str} {den : List D → M D} {call : Expr} {es : List Expr} {fs : Rho → M (List D)} (ha : DA cl X es fs)
    (hb : ∀ {t : TA}, PA X es t → PE X call (tMake (cl c) (spD cl n den) [] E0 t)) : DE cl X call (denA (mkD c n den) fs) :=
  PEw (hb ha) fun σ H Q ⟨F, m, vh, ρ, w, r, q⟩ => tDs_bind w r q fun F1 m1 vh1 H1 as vs w1 r1 g1 rvs q1 => fun x dx nx ndx hne =>
    runMake w1 rvs q1 (fun w hm e q => fin_still w hm e q) nx ndx hne
theorem de_makeM {c n k : Nat} {f : Addr} {fd : FuncData} {ps : List Str} {den : List D → M D} {call : Expr} {es : List Expr} {fs : Rho → M (List D)} (ha : DA cl X es fs)
    (hb : ∀ {t : TA}, PA X es t → PE X call (tMake (cl c) (spD cl n den) [] E0 t)) : DE cl X call (denA (mkMD c n den) fs) :=
  PEw (hb ha) fun σ H Q ⟨F, m, vh, ρ, w, r, q⟩ => tDs_bind w r q fun F1 m1 vh1 H1 as vs w1 r1 g1 rvs q1 => fun x dx nx ndx hne =>
    runMake (fin := fun d vh => some (d, vh)) w1 rvs q1 (fun w hm e q => by subst e; exact Run.ret (a := D.ref _) q w _ (.ref hm)) nx ndx hne
/-- o.m(e, ..) of the text's own class -/
def omethD (c : Nat) (mt : Str) (n : Nat) (den : List D → M D) (fo : Rho → M D) (fs : Rho → M (List D)) : Rho → M D := fun ρ => bind (fo ρ) fun d => fun vh => match objV c vh d with
  | some (ns, vs) => match lookupF ns vs mt with
    | none => bind (fs ρ) (fun as => denC n den (d :: as)) vh
    | some _ => none
  | none => none
theorem de_ometh {c n : Nat} {mt : Str} {den : List D → M D} {call o : Expr} {es : List Expr} {fo : Rho → M D} {fs : Rho → M (List D)} (ho : DE cl X o fo) (ha : DA cl X es fs)
    (hb : ∀ {to : TE} {t : TA}, PE X o to → PA X es t → PE X call (tMeth (cl c) mt (spD cl n den) [] E0 to t)) : DE cl X call (omethD c mt n den fo fs) :=
  PEw (hb ho ha) fun σ H Q ⟨F, m, vh, ρ, w, r, q⟩ => tD_bind w r q fun F1 m1 vh1 H1 a v w1 r1 g1 rv q1 => by
    cases e : objV c vh1 a with
    | none => simp only [e] at q1; exact False.elim q1
    | some p =>
      obtain ⟨ns, vs⟩ := p
      simp only [e] at q1
      cases e2 : lookupF ns vs mt with
      | some _ => simp only [e2] at q1; exact False.elim q1
      | none =>
        simp only [e2] at q1
        obtain ⟨p, dx, fs', rfl, hp, ek, ru⟩ := w1.objV rv e
        subst ek
        refine ⟨p, dx, fs', rfl, hp, (lookupF_rep ru).2 e2, tDs_bind w1 r1 q1 fun F2 m2 vh2 H2 as vs w2 r2 g2 rvs q2 => ?_⟩
        obtain ⟨hl, q2⟩ := run_if q2
        have rr : Reps cl F2 m2 (.ref p :: (vs ++ [])) (a :: as) := .cons (rv.mono g2) (by rw [List.append_nil]; exact rvs)
        exact ⟨F2, m2, vh2, a :: as, by rw [rr.length, hl], w2, rr, q2⟩
theorem de_ometh0 {c n : Nat} {mt : Str} {den : List D → M D} {call o : Expr} {fo : Rho → M D} (ho : DE cl X o fo)
    (hb : ∀ {to : TE}, PE X o to → PE X call (tMeth (cl c) mt (spD cl n den) [] E0 to tNil)) : DE cl X call (omethD c mt n den fo nilA) :=
  PEw (hb ho) fun σ H Q ⟨F, m, vh, ρ, w, r, q⟩ => tD_bind w r q fun F1 m1 vh1 H1 a v w1 r1 g1 rv q1 => by
    cases e : objV c vh1 a with
    | none => simp only [e] at q1; exact False.elim q1
    | some p =>
      obtain ⟨ns, vs⟩ := p
      simp only [e] at q1
      cases e2 : lookupF ns vs mt with
      | some _ => simp only [e2] at q1; exact False.elim q1
      | none =>
        simp only [e2] at q1
        obtain ⟨p, dx, fs', rfl, hp, ek, ru⟩ := w1.objV rv e
        subst ek
        refine ⟨p, dx, fs', rfl, hp, (lookupF_rep ru).2 e2, ?_⟩
        have q1 : Run cl F1 m1 H1 (denC n den [a] vh1) (kV' cl Q) := q1
        obtain ⟨hl, q2⟩ := run_if q1
        have rr : Reps cl F1 m1 [.ref p] [a] := .cons rv .nil
        exact ⟨F1, m1, vh1, [a], by rw [← hl]; rfl, w1, rr, q2⟩
end
end VL

namespace VL
open PySem PySem.Spec PyProof.Rows L2

section
variable {X : Cx} {cl : Cn} {K : PySem.W.Frag} {F F' F1 F2 : Hp} {m m' m1 m2 : List Addr} {H H' H1 H2 : Hp} {vh vh1 : VH} {ρ : Rho} {σ : Sl} {tg : Expr}
/-! ### d.update(e) -/
def rUpdK : V → List V → Hp → VK → Prop := fun x vs H Q => ∃ (a b : Addr) (kvs more : List (Key × V)), x = .ref a ∧ vs = [.ref b] ∧ a ≠ b ∧ H a = some (.dK kvs) ∧ Rd H b (.dK more) ∧ kvs.length + more.length ≤ sizeLine ∧ Q .non (upd H a (.dK (mergeK kvs more)))
theorem mt_update : MtR X "dict.update" rUpdK := by
  intro pins s σ H x xs v us Q I rx rs h
  obtain ⟨a, b, kvs, more, rfl, rfl, hne, ha, hb, hz, q⟩ := h
  cases rx
  obtain ⟨u, rfl, ru⟩ := vals1 rs
  cases ru
  obtain ⟨z1, hd1, vs1, r1, d1⟩ := dk_of I.hok ha
  obtain ⟨z2, hd2, vs2, r2, d2⟩ := dk_rd I.hok hb
  have l1 : kvs.length = vs1.length := Paired.length r1
  have l2 : more.length = vs2.length := Paired.length r2
  refine call_meetsIn PySem.F.slot_dict_update d1.typeIs PySem.F.entry_dict_update (PySem.F.args_dict_update_2 _ _) (meets_dict_update (mixKind X.prog X.w) a b hne hd2) ⟨vs1, vs2, d1, d2, by omega, fun h' dd' _ hs => ?_⟩
  have hl := length_mergeK more kvs
  have he : ∃ q, h'.get? a = some q := let ⟨q, _, _, hq, _⟩ := dd'; ⟨q, hq⟩
  exact ⟨V.non, _, d_write I (t' := s.toks) (by rw [ha]; exact True.intro) hs he (dk_new (by omega) hd1 (r2.merge r1) dd'), rfl, q⟩
/-- pairs of keys and values put one after another -/
def putAll : List Key → List D → List Key → List D → List Key × List D
  | ks, vs, k :: ls, d :: ds => putAll (putKs ks k) (putVs ks vs k d) ls ds
  | ks, vs, _, _ => (ks, vs)
theorem merge_rep : ∀ {more kvs : List (Key × V)} {ds vs : List D}, Reps cl F m (kvs.map (·.2)) vs → Reps cl F m (more.map (·.2)) ds →
    (mergeK kvs more).map (·.1) = (putAll (kvs.map (·.1)) vs (more.map (·.1)) ds).1 ∧ Reps cl F m ((mergeK kvs more).map (·.2)) (putAll (kvs.map (·.1)) vs (more.map (·.1)) ds).2
  | [], kvs, ds, vs, r, r' => by
    cases r'
    exact ⟨rfl, r⟩
  | p :: more, kvs, ds, vs, r, r' => by
    cases r' with
    | @cons u us d ds ru rus =>
      have pr := put_rep (j := p.1) r ru
      have ih := merge_rep (more := more) (kvs := putK kvs p.1 p.2) pr.2 rus
      rw [pr.1] at ih
      exact ih
def isRefN (n : Nat) : D → Bool
  | .ref k => decide (k = n)
  | _ => false
def updateD (d : D) (as : List D) : M D := fun vh => match d, as with
  | .ref n, [b] => match dctAt vh[n]?, dctV vh b with
    | some (ks, vs), some (ls, ds) => if isRefN n b = true then none else if ks.length + ls.length ≤ line then some (.non, vh.set n (some (.dct (putAll ks vs ls ds).1 (putAll ks vs ls ds).2))) else none
    | _, _ => none
  | _, _ => none
theorem r_update {x : V} {xs : List V} {Q : VK} (h : rDm cl updateD x xs H Q) : rUpdK x xs H Q := by
  obtain ⟨F, m, vh, a, as, w, ra, rs, q⟩ := h
  unfold updateD at q
  split at q
  · rename_i n b
    split at q
    · rename_i ks vs ls ds e1 e2
      have hv := dctAt_eq e1
      obtain ⟨p, kvs, rfl, hm, hp, ek, ru⟩ := w.refDct ra hv
      obtain ⟨v, rfl, rv⟩ := reps1 rs
      obtain ⟨p2, more, rfl, hp2, ek2, ru2⟩ := w.dctV rv e2
      by_cases hb : isRefN n b = true
      · rw [if_pos hb] at q
        exact False.elim q
      · rw [if_neg hb] at q
        by_cases hl : ks.length + ls.length ≤ line
        · rw [if_pos hl] at q
          have pr := merge_rep ru ru2
          rw [ek, ek2] at pr
          have z := w.written (u := .dK (mergeK kvs more)) (o' := .dct (putAll ks vs ls ds).1 (putAll ks vs ls ds).2) hm hv (fun ob v z => by rw [hp] at z; cases z) fun P => ⟨_, upd_same, pr.1, pr.2.mono P.gr⟩
          have hne : p ≠ p2 := by
            intro e
            subst e
            cases b with
            | dct ls' ds' =>
              obtain ⟨a', us', e', ea', _⟩ := rep_dct rv
              cases e'
              have := (w.live _ _ _ hm hv).1
              rw [ea'] at this
              cases this
            | ref k =>
              cases rv with
              | ref hk =>
                obtain ⟨l1, e3⟩ := List.getElem?_eq_some_iff.mp hm
                obtain ⟨l2, e4⟩ := List.getElem?_eq_some_iff.mp hk
                have : n = k := (List.getElem_inj w.nd).mp (e3.trans e4.symm)
                exact hb (decide_eq_true this.symm)
            | _ => cases e2
          exact ⟨p, p2, kvs, more, rfl, rfl, hne, hp, hp2, by rw [show kvs.length = (kvs.map (·.1)).length by simp, show more.length = (more.map (·.1)).length by simp, ek, ek2]; exact le_line hl, q _ _ _ z.2 z.1 _ .non⟩
        · rw [if_neg hl] at q
          exact False.elim q
    · exact False.elim q
  · exact False.elim q
/-! ### dict(list of pairs) -/
def pairsOf : List D → Option (List Key × List D)
  | [] => some ([], [])
  | .tup [k, d] :: r => match toKey k, pairsOf r with
    | some k, some (ks, ds) => some (k :: ks, d :: ds)
    | _, _ => none
  | _ => none
def dictD (as : List D) : M D := fun vh => match as with
  | [.lst xs] => match pairsOf xs with
    | some (ks, ds) => stillD (putAll [] [] ks ds) vh
    | none => none
  | _ => none
def dictMD (as : List D) : M D := fun vh => match as with
  | [.lst xs] => match pairsOf xs with
    | some (ks, ds) => freshD (putAll [] [] ks ds) vh
    | none => none
  | _ => none
theorem pairs_rep (w : Wd cl F m vh H) : ∀ {xs : List D} {us : List V} {ks : List Key} {ds : List D}, pairsOf xs = some (ks, ds) → Reps cl F m us xs →
    ∃ (ps : List Addr) (kvs : List (Key × V)), us = ps.map V.ref ∧ Paired (fun p kv => SqT K H p [kV kv.1, kv.2]) ps kvs ∧ kvs.map (·.1) = ks ∧ Reps cl F m (kvs.map (·.2)) ds := by
  intro xs
  induction xs with
  | nil =>
    intro us ks ds e r
    cases r
    cases e
    exact ⟨[], [], rfl, .nil, rfl, .nil⟩
  | cons x xs ih =>
    intro us ks ds e r
    unfold pairsOf at e
    split at e
    · rename_i h0
      cases h0
    · rename_i k d r' h0
      cases h0
      split at e
      · rename_i kk ks' ds' e1 e2
        cases e
        cases r with
        | cons r1 r2 =>
          obtain ⟨ps, kvs, rfl, hp, ek, rr⟩ := ih e2 r2
          obtain ⟨a, ws, rfl, ea, rw'⟩ := rep_tup r1
          obtain ⟨v, u, rfl, rv, ru⟩ := reps2 rw'
          refine ⟨a :: ps, (kk, u) :: kvs, rfl, .cons ?_ hp, by simp [ek], .cons ru rr⟩
          rw [← rep_key e1 rv]
          exact w.sqT ea
      · cases e
    · cases e
theorem cr_dict (hc : X.calm = true) : CallR X (.type "dict") (rDs cl dictD) := by
  intro pins s σ H xs us Q I r q
  obtain ⟨F, m, vh, as, w, ra, q⟩ := q
  unfold dictD at q
  split at q
  · split at q
    · rename_i ks ds e
      obtain ⟨v, rfl, rv⟩ := reps1 ra
      obtain ⟨a, ws, rfl, ea, rw'⟩ := rep_lst rv
      obtain ⟨ps, kvs, rfl, hp, ek, rr⟩ := pairs_rep (K := X.K) w e rw'
      refine call_dictP hc pins s σ H _ us Q I r ⟨a, ps, kvs, rfl, w.sqL ea, hp, fun p hp => ?_⟩
      have pr := merge_rep (kvs := []) (vs := []) .nil rr
      rw [ek] at pr
      refine runNewDct (xs := (putAll [] [] ks ds).2) ?_ w pr.2 hp
      rw [pr.1]
      exact q
    · exact False.elim q
  · exact False.elim q
theorem cr_dictM (hc : X.calm = true) : CallR X (.type "dict") (rDs cl dictMD) := by
  intro pins s σ H xs us Q I r q
  obtain ⟨F, m, vh, as, w, ra, q⟩ := q
  unfold dictMD at q
  split at q
  · split at q
    · rename_i ks ds e
      obtain ⟨v, rfl, rv⟩ := reps1 ra
      obtain ⟨a, ws, rfl, ea, rw'⟩ := rep_lst rv
      obtain ⟨ps, kvs, rfl, hp, ek, rr⟩ := pairs_rep (K := X.K) w e rw'
      refine call_dictP hc pins s σ H _ us Q I r ⟨a, ps, kvs, rfl, w.sqL ea, hp, fun p hp => ?_⟩
      have pr := merge_rep (kvs := []) (vs := []) .nil rr
      rw [ek] at pr
      refine runNewDctM (xs := (putAll [] [] ks ds).2) ?_ w pr.2 hp
      rw [pr.1]
      exact q
    · exact False.elim q
  · exact False.elim q
/-- {} -/
theorem de_dnew {pos : Pos} : DE cl X (.Dict [] [] pos) (fun _ => stillD ([], [])) := PEw pe_dnewK fun σ H Q ⟨F, m, vh, ρ, w, r, q⟩ => fun p hp => runNewDct (kvs := []) (xs := []) q w .nil hp
theorem de_dnewM {pos : Pos} : DE cl X (.Dict [] [] pos) (fun _ => freshD ([], [])) := PEw pe_dnewK fun σ H Q ⟨F, m, vh, ρ, w, r, q⟩ => fun p hp => runNewDctM (kvs := []) (xs := []) q w .nil hp

/-! ### any, all of numbers too -/
def trus : List D → Option (List Bool)
  | [] => some []
  | .bl b :: r => (trus r).map (b :: ·)
  | .int i :: r => (trus r).map ((i != 0) :: ·)
  | _ => none
def truU : Value → Option Bool
  | .bool b => some b
  | .int i _ => some (i != 0)
  | _ => none
theorem trus_rep : ∀ {xs : List D} {us : List V} {its : List Value} {bs : List Bool}, trus xs = some bs → Reps cl F m us xs → Vals us its → its.map truU = bs.map some
  | [], _, _, _, e, r, v => by cases e; cases r; cases v; rfl
  | .bl b :: xs, _, _, bs, e, r, v => by
    obtain ⟨cs, e1, rfl⟩ := Option.map_eq_some_iff.mp e
    cases r with
    | cons r1 r2 =>
      cases r1
      cases v with
      | cons v1 v2 =>
        cases v1
        simp only [List.map_cons, trus_rep e1 r2 v2, truU]
  | .int i :: xs, _, _, bs, e, r, v => by
    obtain ⟨cs, e1, rfl⟩ := Option.map_eq_some_iff.mp e
    cases r with
    | cons r1 r2 =>
      cases r1
      cases v with
      | cons v1 v2 =>
        obtain ⟨t, rfl⟩ := v1
        simp only [List.map_cons, trus_rep e1 r2 v2, truU]
theorem truth_trus {prog : Program} {w : World} {A : Around} {bs : List Bool} {its : List Value} (e : its.map truU = bs.map some) :
    TruthOf prog w A (fun i v => its.toArray[i]? = some v) (fun i => bs.getD i false) := fun i v s Q E hv hq => by
  have hv' : its[i]? = some v := by simpa using hv
  have h1 : (its.map truU)[i]? = some (truU v) := by rw [List.getElem?_map, hv']; rfl
  rw [e, List.getElem?_map] at h1
  obtain ⟨b, hb, h2⟩ := Option.map_eq_some_iff.mp h1
  have hg : bs.getD i false = b := by rw [List.getD_eq_getElem?_getD, hb] <;> rfl
  have hq' : Q (bs.getD i false) s := hq
  rw [hg] at hq'
  cases v with
  | bool c => cases h2; exact wpAny_truthy_bool hq'
  | int n t => cases h2; exact PyProof.Rows.truthy_int hq'
  | _ => cases h2
def anyTR (vh : VH) : List D → Option D
  | [d] => (lstV vh d).bind fun xs => (trus xs).map fun ns => .bl (ns.any id)
  | _ => none
def anyTD : List D → M D := pureD anyTR
theorem crr_anyT (hc : X.calm = true) : CallR X (.builtin "any") (rDs cl anyTD) := by
  intro pins s σ H xs us Q I r q
  obtain ⟨F, m, vh, as, w, ra, q⟩ := q
  obtain ⟨d, e, q⟩ := run_pure q
  unfold anyTR at e
  split at e
  · obtain ⟨v, rfl, rv⟩ := reps1 ra
    obtain ⟨ys, e1, e⟩ := Option.bind_eq_some_iff.mp e
    obtain ⟨bs, e2, rfl⟩ := Option.map_eq_some_iff.mp e
    obtain ⟨a, ws, rfl, hs, ru⟩ := w.lstV rv e1
    obtain ⟨its, rvl, hl, _⟩ := I.list (.inl (.inl hs))
    rw [Vals.ref1 r]
    have hb := trus_rep e2 ru rvl
    refine call_any_walk (iter_any hl.isList fun s₂ e2 st hne => ?_)
    subst e2
    refine ⟨_, _, _, _, _, _, _, rfl, Walks.list (A := X.A.in1) (I.ok.hd hc) _ a hne its.toArray, st, truth_trus hb, fun h' tk hk => ?_⟩
    refine ⟨V.bl (bs.any id), H, I.kept fun b o eo => hk b o (fun hmem => ?_) (Heap.get?_push_of_some _ eo), ?_, Run.ret q w _ (.bl _)⟩
    · rcases List.mem_cons.mp hmem with e1 | hmem
      · exact absurd (e1 ▸ Heap.lt_size eo) (Nat.lt_irrefl _)
      · cases hmem
    · show Value.bool _ = Value.bool _
      have hlen : its.length = bs.length := by
        have := congrArg List.length hb
        simpa using this
      rw [← L2.any_range, List.size_toArray, hlen]
  · cases e

/-! ### is, is not of True, False -/
def isBlD (a b : D) : M D := match a, b with
  | .bl x, .bl y => ret (.bl (x == y))
  | _, _ => fail
def isNBlD (a b : D) : M D := match a, b with
  | .bl x, .bl y => ret (.bl (!(x == y)))
  | _, _ => fail


/-! ### slices -/
def optI (f : Rho → M D) : Rho → M (Option Int) := fun ρ => bind (f ρ) fun d => match d with
  | .int i => ret (some i)
  | _ => fail
def noI : Rho → M (Option Int) := fun _ => ret none
def tO (cl : Cn) (f : Rho → M (Option Int)) : TO := fun σ H Q => ∃ F m vh ρ, Wd cl F m vh H ∧ RS cl F m σ ρ ∧ Run cl F m H (f ρ vh) (fun _ _ _ H' o => Q o H')
abbrev DO (cl : Cn) (X : Cx) (e : Option Expr) (f : Rho → M (Option Int)) : Prop := PO X e (tO cl f)
theorem POw {e : Option Expr} {t t' : TO} (h : PO X e t) (w : ∀ σ H Q, t' σ H Q → t σ H Q) : PO X e t' := ⟨fun pins s σ H Q I q => h.run pins s σ H Q I (w σ H Q q)⟩
theorem do_none : DO cl X none noI := POw po_none fun σ H Q ⟨F, m, vh, ρ, w, r, q⟩ => Run.ret q w
theorem do_some {e : Expr} {f : Rho → M D} (h : DE cl X e f) : DO cl X (some e) (optI f) := POw (po_some h) fun σ H Q ⟨F, m, vh, ρ, w, r, q⟩ => tD_bind w r q fun F1 m1 vh1 H1 a v w1 r1 g1 rv q1 => by
  cases a with
  | int i => exact ⟨i, rep_int rv, Run.ret q1 w1⟩
  | _ => exact False.elim q1
def cutL {α : Type} (xs : List α) (lo hi : Option Int) : List α := (xs.drop (HT.sIx xs.length 0 lo)).take (HT.sIx xs.length xs.length hi - HT.sIx xs.length 0 lo)
theorem cut_rep {us : List V} {xs : List D} (r : Reps cl F m us xs) (lo hi : Option Int) : Reps cl F m (cutV us lo hi) (cutL xs lo hi) := by
  unfold cutV cutL
  rw [r.length]
  exact (r.drop _).take _
def slD (d : D) (lo hi : Option Int) : M D := fun vh => match lstV vh d with
  | some xs => some (.lst (cutL xs lo hi), vh)
  | none => match d with
    | .tup xs => if HT.sIx xs.length 0 lo = 0 ∧ HT.sIx xs.length xs.length hi = xs.length then none else some (.tup (cutL xs lo hi), vh)
    | _ => none
def sliceD (fd : Rho → M D) (fl fh : Rho → M (Option Int)) : Rho → M D := fun ρ => bind (fd ρ) fun d => bind (fl ρ) fun l => bind (fh ρ) fun h => slD d l h
theorem tO_bind {α : Type} {f : Rho → M (Option Int)} {g : Option Int → M α} {k : Kn α} {Q : Option Int → Hp → Prop} (w : Wd cl F m vh H) (r : RS cl F m σ ρ) (h : Run cl F m H (bind (f ρ) g vh) k)
    (hq : ∀ F1 m1 vh1 H1 a, Wd cl F1 m1 vh1 H1 → RS cl F1 m1 σ ρ → Gr F m F1 m1 → Run cl F1 m1 H1 (g a vh1) k → Q a H1) : tO cl f σ H Q :=
  ⟨F, m, vh, ρ, w, r, (Run.bind h).mono fun F1 m1 vh1 H1 a p w1 q => hq F1 m1 vh1 H1 a w1 (r.mono p.gr) p.gr q⟩
theorem de_slice {e : Expr} {lo hi : Option Expr} {pos p2 : Pos} {fd : Rho → M D} {fl fh : Rho → M (Option Int)} (he : DE cl X e fd) (hl : DO cl X lo fl) (hh : DO cl X hi fh) : DE cl X (.Subscript e (.Slice lo hi none p2) pos) (sliceD fd fl fh) :=
  PEw (pe_slice (SlR.or sl_list sl_tup) he hl hh) fun σ H Q ⟨F, m, vh, ρ, w, r, q⟩ => tD_bind w r q fun F1 m1 vh1 H1 a v w1 r1 g1 rv q1 => by
    refine tO_bind w1 r1 q1 fun F2 m2 vh2 H2 l w2 r2 g2 q2 => ?_
    refine tO_bind w2 r2 q2 fun F3 m3 vh3 H3 h w3 r3 g3 q3 => ?_
    have rv3 := (rv.mono g2).mono g3
    unfold slD at q3
    split at q3
    · rename_i xs e1
      obtain ⟨p, us, rfl, hp, ru⟩ := w3.lstV rv3 e1
      exact Or.inl ⟨p, us, rfl, .inl (.inl hp), fun p' hp' => runNewLst q3 w3 (cut_rep ru l h) hp'⟩
    · split at q3
      · rename_i xs _
        obtain ⟨p, us, rfl, ep, ru⟩ := rep_tup rv3
        by_cases hc : HT.sIx xs.length 0 l = 0 ∧ HT.sIx xs.length xs.length h = xs.length
        · rw [if_pos hc] at q3
          exact False.elim q3
        · rw [if_neg hc] at q3
          exact Or.inr ⟨p, us, rfl, w3.sqT ep, by rw [ru.length]; exact hc, fun p' hp' => runNewTup q3 w3 (cut_rep ru l h) hp'⟩
      · exact False.elim q3
def revD (d : D) : M D := fun vh => match lstV vh d with
  | some xs => some (.lst xs.reverse, vh)
  | none => none
theorem op_isBlD : OpR X (compareOp .Is) (rD2 cl isBlD) := by
  intro pins s σ H x y v u Q I rx ry q
  obtain ⟨F, m, vh, a, b, w, ra, rb, q⟩ := q
  unfold isBlD at q
  split at q
  · rename_i c d
    cases rep_bl ra
    cases rep_bl rb
    have : decide (c = d) = (c == d) := by cases c <;> cases d <;> rfl
    exact op_isBl pins s σ H _ _ v u Q I rx ry ⟨_, _, rfl, rfl, by rw [this]; exact Run.ret q w _ (.bl _)⟩
  · exact False.elim q
theorem op_isNBlD : OpR X (compareOp .IsNot) (rD2 cl isNBlD) := by
  intro pins s σ H x y v u Q I rx ry q
  obtain ⟨F, m, vh, a, b, w, ra, rb, q⟩ := q
  unfold isNBlD at q
  split at q
  · rename_i c d
    cases rep_bl ra
    cases rep_bl rb
    have : decide (c = d) = (c == d) := by cases c <;> cases d <;> rfl
    exact op_notBl pins s σ H _ _ v u Q I rx ry ⟨_, _, rfl, rfl, by rw [this]; exact Run.ret q w _ (.bl _)⟩
  · exact False.elim q


end
end VL

namespace VL
open PySem PySem.Spec PyProof.Rows L2

section
variable {X : Cx} {cl : Cn} {K : PySem.W.Frag} {F F' F1 F2 : Hp} {m m' m1 m2 : List Addr} {H H' H1 H2 : Hp} {vh vh1 : VH} {ρ : Rho} {σ : Sl} {tg : Expr}
theorem de_rev {call e : Expr} {f : Rho → M D} (he : DE cl X e f) (hb : ∀ {te : TE}, PE X e te → PE X call (tRevL X.K te)) : DE cl X call (den1 revD f) :=
  PEw (hb he) fun σ H Q ⟨F, m, vh, ρ, w, r, q⟩ => tD_bind w r q fun F1 m1 vh1 H1 a v w1 r1 g1 rv q1 => by
    unfold revD at q1
    split at q1
    · rename_i xs e1
      obtain ⟨p, us, rfl, hp, ru⟩ := w1.lstV rv e1
      exact ⟨p, us, rfl, .inl (.inl hp), fun p' hp' => runNewLst q1 w1 ru.reverse hp'⟩
    · exact False.elim q1
/-! ### targets: a tuple or a list is unpacked -/
theorem PGor {tg : Expr} {t t' : TG} (h : PG X tg t) (h' : PG X tg t') : PG X tg (fun v σ H Q => t v σ H Q ∨ t' v σ H Q) := ⟨fun pins s σ H v u Q I r q => q.elim (h.run pins s σ H v u Q I r) (h'.run pins s σ H v u Q I r)⟩
def unpG (n : Nat) (h : Tgs) : Tg := fun d ρ => fun vh => match seqV vh d with
  | some ds => if ds.length = n then h ds ρ vh else none
  | none => none
theorem dg_unp {es : List Expr} {k n : Nat} {pos : Pos} {S : List Nat} {h : Tgs} (hc : X.calm = true) (hh : DGs cl X es S h)
    (hn : (assignEach es X.env).length = n := by rfl) (hst : (assignEach es X.env).findIdx? (·.1) = none := by rfl) : DG cl X (.Tuple es k pos) S (unpG n h) :=
  PGw (PGor (pg_tup hc hh hn hst) (pg_unl hc hh hn hst)) fun v σ H Q ⟨F, m, vh, ρ, d, w, r, rv, q⟩ => by
    unfold unpG at q
    cases e : seqV vh d with
    | none => rw [e] at q; exact False.elim q
    | some ds =>
      rw [e] at q
      simp only [] at q
      by_cases hl : ds.length = n
      · rw [if_pos hl] at q
        obtain ⟨a, us, rfl, hs, ru⟩ := w.seqV (K := X.K) rv e
        rcases hs with hs | hs
        · exact Or.inr ⟨a, us, rfl, hs, by rw [ru.length, hl], F, m, vh, ρ, ds, w, r, ru, q⟩
        · exact Or.inl ⟨a, us, rfl, hs, by rw [ru.length, hl], F, m, vh, ρ, ds, w, r, ru, q⟩
      · rw [if_neg hl] at q
        exact False.elim q
/-! ### d.get(k, x) -/
def getD (fd fk fx : Rho → M D) : Rho → M D := fun ρ => bind (fd ρ) fun d => bind (fun vh => if (dctV vh d).isSome = true then some ((), vh) else none) fun _ => bind (fk ρ) fun k => bind (fx ρ) fun x => fun vh => match dctV vh d, toKey k with
  | some (ks, vs), some j => some ((valD ks vs j).getD x, vh)
  | _, _ => none
theorem de_get {call o e f : Expr} {fd fk fx : Rho → M D} (ho : DE cl X o fd) (he : DE cl X e fk) (hf : DE cl X f fx) (hb : ∀ {to te tf : TE}, PE X o to → PE X e te → PE X f tf → PE X call (tDGet2 to te tf)) : DE cl X call (getD fd fk fx) :=
  PEw (hb ho he hf) fun σ H Q ⟨F, m, vh, ρ, w, r, q⟩ => tD_bind w r q fun F1 m1 vh1 H1 d v w1 r1 g1 rv q1 => by
    have q1' := Run.bind q1
    cases e0 : dctV vh1 d with
    | none =>
      simp only [e0] at q1'
      exact False.elim q1'
    | some p =>
      obtain ⟨ks, vs⟩ := p
      simp only [e0] at q1'
      have q2 := q1' F1 m1 H1 .refl w1
      obtain ⟨a, kvs, rfl, hd, ek, ru⟩ := w1.dctV rv e0
      refine ⟨a, rfl, Or.inl ⟨kvs, hd⟩, tD_bind w1 r1 q2 fun F2 m2 vh2 H2 k u w2 r2 g2 rk q3 => tD_bind w2 r2 q3 fun F3 m3 vh3 H3 x t w3 r3 g3 rx q4 => ?_⟩
      cases e1 : dctV vh3 d with
      | none => simp only [e1] at q4; exact False.elim q4
      | some p =>
        obtain ⟨ks', vs'⟩ := p
        cases e2 : toKey k with
        | none => simp only [e1, e2] at q4; exact False.elim q4
        | some j =>
          simp only [e1, e2] at q4
          obtain ⟨a', kvs', ea, hd', ek', ru'⟩ := w3.dctV ((rv.mono g2).mono g3) e1
          cases ea
          refine ⟨valV kvs' j, by rw [rep_key e2 (rk.mono g3)]; exact DGet.r hd', ?_⟩
          subst ek'
          have vr := val_rep (j := j) ru'
          cases e3 : valD (kvs'.map (·.1)) vs' j with
          | none =>
            rw [vr.2 e3]
            rw [e3] at q4
            exact Run.ret (a := x) q4 w3 _ rx
          | some y =>
            obtain ⟨z, e4, rz⟩ := vr.1 y e3
            rw [e4]
            rw [e3] at q4
            exact Run.ret (a := y) q4 w3 _ rz
/-! ### the text's own in, len -/
/-- x in o, by the own __contains__ -/
def ownInD (den : List D → M D) (x o : D) : M D := bind (denC 2 den [o, x]) fun r => match r with
  | .bl b => ret (.bl b)
  | _ => fail
def ownNinD (den : List D → M D) (x o : D) : M D := bind (denC 2 den [o, x]) fun r => match r with
  | .bl b => ret (.bl (!b))
  | _ => fail
def isObj (c : Nat) (vh : VH) (d : D) : Bool := (objV c vh d).isSome
def chkO (c : Nat) (o : D → D → M D) : D → D → M D := fun x d vh => if isObj c vh d = true then o x d vh else none
theorem instAt {c : Nat} {pins : List (Addr × Obj)} {s : Shared} {a dx : Addr} {fs : List (Str × V)} (I : Inv X pins σ H s) (h : H a = some (.ins (cl c) dx fs)) : ∃ ox od, PySem.W.InstAt s.heap a ox (cl c) (some od) := by
  obtain ⟨mA, J, _⟩ := ins_get I.hok h
  obtain ⟨od, J, _⟩ := J.look
  exact ⟨_, od, J⟩
section
variable {k c : Nat} {f : Addr} {fd : FuncData} {ps : List Str} {den : List D → M D}
theorem run_own {n : Nat} {pins : List (Addr × Obj)} {s : Shared} {as : List D} {us : List Value} {vs : List V} {g : D → M D} {Q : VK} {P : Value → Shared → Prop} (Fo : FnOk X.prog X.w X.K X.mg X.base CX0 k f fd ps (spD cl n den)) (hr : Room k X.A) (hb : Binds X.K fd ps [])
    (I : Inv X pins σ H s) (w : Wd cl F m vh H) (rs : Reps cl F m vs as) (rv : Vals vs us) (q : Run cl F m H (bind (denC n den as) g vh) (kV' cl Q))
    (fin : ∀ v u s' F1 m1 vh1 H1 d, Inv X pins σ H1 s' → RelV v u → Wd cl F1 m1 vh1 H1 → Rep cl F1 m1 v d → Run cl F1 m1 H1 (g d vh1) (kV' cl Q) → P u s') :
    wpAny (model X.prog X.w) X.A (call (.ref f) us) P X.xe s := by
  have q' := Run.bind q
  by_cases hl : as.length = n
  · have e : denC n den as vh = den as vh := by
      unfold denC
      rw [if_pos hl]
    rw [e] at q'
    have hq : spD cl n den (vs ++ []) H (fun v H1 => ∃ F1 m1 vh1 d, Wd cl F1 m1 vh1 H1 ∧ Rep cl F1 m1 v d ∧ Run cl F1 m1 H1 (g d vh1) (kV' cl Q)) E0 := by
      rw [List.append_nil]
      exact ⟨F, m, vh, as, by rw [rs.length, hl], w, rs, q'.mono fun F1 m1 vh1 H1 d p w1 q1 v rv => ⟨F1, m1, vh1, d, w1, rv, q1⟩⟩
    refine thn (run_fn (dvs := []) Fo hr hb .nil pass0 I rv hq) fun u s' h => ?_
    obtain ⟨v, H1, I1, r1, F1, m1, vh1, d, w1, rd, q1⟩ := h
    exact fin v u s' F1 m1 vh1 H1 d I1 r1 w1 rd q1
  · have e : denC n den as vh = none := by
      unfold denC
      rw [if_neg hl]
      rfl
    rw [e] at q'
    exact False.elim q'
theorem op_ownIn (Fo : FnOk X.prog X.w X.K X.mg X.base CX0 k f fd ps (spD cl 2 den)) (hr : Room k X.A) (hb : Binds X.K fd ps []) (hs : PySem.W.findIn X.K (.ref (cl c)) "__contains__" = some (some (.ref f))) (hf : PySem.W.isFn X.K (.ref f) = true) :
    OpR X (compareOp .In) (rD2 cl (chkO c (ownInD den))) := by
  intro pins s σ H x y v u Q I rx ry q
  obtain ⟨F, m, vh, a, b, w, ra, rb, q⟩ := q
  unfold chkO at q
  by_cases hc : isObj c vh b = true
  · rw [if_pos hc] at q
    obtain ⟨⟨ns, ds⟩, e⟩ := Option.isSome_iff_exists.mp hc
    obtain ⟨p, dx, fs, rfl, hp, _, _⟩ := w.objV rb e
    cases ry
    obtain ⟨ox, od, J⟩ := instAt I hp
    obtain ⟨mm, hF⟩ := I.fr
    refine PySem.W.in_K hF I.ok.mod.kin J hs hf ?_
    refine run_own (us := [.ref p, v]) (vs := [.ref p, x]) Fo hr hb I w (.cons rb (.cons ra .nil)) (.cons rfl (.cons rx .nil)) q fun v1 u1 s' F1 m1 vh1 H1 d I1 r1 w1 rd q1 => ?_
    cases d with
    | bl z =>
      cases rep_bl rd
      cases r1
      exact wpAny_truthy_bool ⟨V.bl z, H1, I1, rfl, Run.ret q1 w1 _ (.bl z)⟩
    | _ => exact False.elim q1
  · rw [if_neg hc] at q
    exact False.elim q
theorem op_ownNin (Fo : FnOk X.prog X.w X.K X.mg X.base CX0 k f fd ps (spD cl 2 den)) (hr : Room k X.A) (hb : Binds X.K fd ps []) (hs : PySem.W.findIn X.K (.ref (cl c)) "__contains__" = some (some (.ref f))) (hf : PySem.W.isFn X.K (.ref f) = true) :
    OpR X (compareOp .NotIn) (rD2 cl (chkO c (ownNinD den))) := by
  intro pins s σ H x y v u Q I rx ry q
  obtain ⟨F, m, vh, a, b, w, ra, rb, q⟩ := q
  unfold chkO at q
  by_cases hc : isObj c vh b = true
  · rw [if_pos hc] at q
    obtain ⟨⟨ns, ds⟩, e⟩ := Option.isSome_iff_exists.mp hc
    obtain ⟨p, dx, fs, rfl, hp, _, _⟩ := w.objV rb e
    cases ry
    obtain ⟨ox, od, J⟩ := instAt I hp
    obtain ⟨mm, hF⟩ := I.fr
    refine PySem.W.notIn_K hF I.ok.mod.kin J hs hf ?_
    refine run_own (us := [.ref p, v]) (vs := [.ref p, x]) Fo hr hb I w (.cons rb (.cons ra .nil)) (.cons rfl (.cons rx .nil)) q fun v1 u1 s' F1 m1 vh1 H1 d I1 r1 w1 rd q1 => ?_
    cases d with
    | bl z =>
      cases rep_bl rd
      cases r1
      exact wpAny_truthy_bool ⟨V.bl (!z), H1, I1, rfl, Run.ret q1 w1 _ (.bl (!z))⟩
    | _ => exact False.elim q1
  · rw [if_neg hc] at q
    exact False.elim q
end
/-! ### d[k] op= e -/
def isDctM (vh : VH) : D → Bool
  | .ref n => (dctAt vh[n]?).isSome
  | _ => false
def daugS (fo fi fe : Rho → M D) (o : D → D → M D) : Bk := fun ρ => bind (fo ρ) fun x => bind (fi ρ) fun y => fun vh => if isDctM vh x = true then bind (ixD x y) (fun old => bind (fe ρ) fun e => bind (o old e) fun z => fun vh2 => if isDctM vh2 x = true then bind (setD x y z) (fun _ => ret (.nx ρ)) vh2 else none) vh else none
theorem isDctM_lst {d : D} (h : isDctM vh d = true) : ∃ n ks vs, d = .ref n ∧ vh[n]? = some (some (.dct ks vs)) := by
  cases d with
  | ref n =>
    obtain ⟨⟨ks, vs⟩, e⟩ := Option.isSome_iff_exists.mp (show (dctAt vh[n]?).isSome = true from h)
    exact ⟨n, ks, vs, rfl, dctAt_eq e⟩
  | _ => cases h
theorem ds_daug {st : Stmt} {od i e : Expr} {fo fi fe : Rho → M D} {o : D → D → M D} {rd : V → V → Hp → VK → Prop} (ho : DE cl X od fo) (hi : DE cl X i fi) (he : DE cl X e fe)
    (hb : ∀ {to ti te : TE}, PE X od to → PE X i ti → PE X e te → PS X st (sDAug to ti te rd)) (ht : ∀ {x y H Q}, rD2 cl o x y H Q → rd x y H Q) : DS cl X st (daugS fo fi fe o) :=
  PSw (hb ho hi he) fun D σ H ⟨F, m, vh, ρ, w, r, q⟩ => tD_bind w r q fun F1 m1 vh1 H1 x v w1 r1 g1 rv q1 => tD_bind w1 r1 q1 fun F2 m2 vh2 H2 y u w2 r2 g2 ru q2 => by
    by_cases hc : isDctM vh2 x = true
    · rw [if_pos hc] at q2
      obtain ⟨n, ks, vs, rfl, hv⟩ := isDctM_lst hc
      have rx := rv.mono g2
      obtain ⟨a, kvs, rfl, hm, ha, ek, rr⟩ := w2.refDct rx hv
      have q3 := Run.bind q2
      have hix : ixD (.ref n) y vh2 = (match toKey y with
        | some k => valD ks vs k
        | none => none).map fun b => (b, vh2) := by
        unfold ixD ixRes
        have h1 : seqV vh2 (.ref n) = none := by show lstAt vh2[n]? = none; rw [hv]; rfl
        have h2 : dctV vh2 (.ref n) = some (ks, vs) := by show dctRd vh2[n]? = _; rw [hv]; rfl
        cases e : toKey y <;> simp [h1, h2, e]
      rw [hix] at q3
      cases e : toKey y with
      | none => rw [e] at q3; exact False.elim q3
      | some k =>
        rw [e] at q3
        cases e2 : valD ks vs k with
        | none => simp only [e2] at q3; exact False.elim q3
        | some old =>
          simp only [e2] at q3
          have q4 := q3 F2 m2 H2 .refl w2
          subst ek
          obtain ⟨z, e3, rz⟩ := (val_rep (j := k) rr).1 old e2
          have eu := rep_key e ru
          refine ⟨a, z, rfl, by rw [eu, ← e3]; exact DGet.k ha, tD_bind w2 r2 q4 fun F3 m3 vh3 H3 b t w3 r3 g3 rt q5 => ht ⟨F3, m3, vh3, old, b, w3, rz.mono g3, rt, (Run.bind q5).mono fun F4 m4 vh4 H4 nw p4 w4 q6 t' rt' => ?_⟩⟩
          by_cases hc2 : isDctM vh4 (.ref n) = true
          · rw [if_pos hc2] at q6
            obtain ⟨n', ks4, vs4, en, hv4⟩ := isDctM_lst hc2
            cases en
            rcases setD_rep w4 ((rx.mono g3).mono p4.gr) ((ru.mono g3).mono p4.gr) rt' (Run.bind q6) with ⟨H', F', m', vh', hs, hk, g, p, w'⟩ | ⟨H', F', m', vh', hs, hk, g, p, w'⟩
            · obtain ⟨a', us', j', t2, e1', e2', e3', e4', e5'⟩ := hs
              cases e1'
              obtain ⟨a'', kvs', ea, _, hd, _⟩ := w4.refDct ((rx.mono g3).mono p4.gr) hv4
              cases ea
              rw [hd] at e3'
              cases e3'
            · obtain ⟨a', H3', e1', e2', e3'⟩ := hs
              cases e1'
              exact ⟨H3', e2', by rw [e3']; exact Run.ret hk w' σ ((r3.mono p4.gr).mono g)⟩
          · rw [if_neg hc2] at q6
            exact False.elim q6
    · rw [if_neg hc] at q2
      exact False.elim q2
end
end VL

namespace VL
open PySem PySem.Spec PyProof.Rows L2

section
variable {X : Cx} {cl : Cn} {K : PySem.W.Frag} {F F' F1 F2 : Hp} {m m' m1 m2 : List Addr} {H H' H1 H2 : Hp} {vh vh1 : VH} {ρ : Rho} {σ : Sl} {tg : Expr}
/-! ### a walk over a dict, which is locked meanwhile -/
def keyD : Key → D
  | .inl i => .int i
  | .inr s => .str s
theorem rep_kV (k : Key) : Rep cl F m (kV k) (keyD k) := by
  cases k with
  | inl i => exact .int i
  | inr s => exact .str s
def keysIt (i : Nat) : Rho → M (List D) := fun ρ => bind (var i ρ) fun d vh => (dctV vh d).map fun p => (p.1.map keyD, vh)
def lockV {α : Type} (i : Nat) (f : Rho → M α) : Rho → M α := fun ρ => match ρ[i]? with
  | some (some (.dct _ _)) => f ρ
  | some (some (.ref n)) => fun vh => match vh[n]? with
    | some (some (.dct ks vs)) => match f ρ (vh.set n (some (.dctL ks vs))) with
      | some (r, vh') => match vh'[n]? with
        | some (some (.dctL ks' vs')) => some (r, vh'.set n (some (.dct ks' vs')))
        | _ => none
      | none => none
    | some (some (.dctL _ _)) => f ρ vh
    | _ => none
  | _ => fail
theorem itOk_keys {a : Addr} {o : Obj} {kvs : List (Key × V)} (h : H a = some (.frz o (.dK kvs))) : ItOk cl F m H ((kvs.map (·.1)).map keyD) (Itk a o kvs) := by
  refine ⟨_, _, (by rw [show ((kvs.map (·.1)).map keyD).length = kvs.length by simp]; exact walk_keys), fun F2 m2 vh2 H2 p w => p.frz _ _ _ h, fun i H2 x H3 F2 m2 vh2 hi g w y => ?_⟩
  obtain ⟨rfl, k, v, e, rfl⟩ := y
  exact ⟨F2, keyD k, .refl, w, by simp [e], rep_kV k⟩
theorem RepO.same {a : Addr} {o : MO} (r : RepO cl F m H a o) (hH : H' a = H a) : RepO cl F m H' a o := by
  cases o with
  | lst ds => obtain ⟨us, h, q⟩ := r; exact ⟨us, hH.trans h, q⟩
  | dct ks ds => obtain ⟨us, h, q⟩ := r; exact ⟨us, hH.trans h, q⟩
  | dctL ks ds => obtain ⟨ob, us, h, q⟩ := r; exact ⟨ob, us, hH.trans h, q⟩
  | lstL ds => obtain ⟨ob, us, h, q⟩ := r; exact ⟨ob, us, hH.trans h, q⟩
  | obj c ns ds => obtain ⟨dx, us, h, q⟩ := r; exact ⟨dx, us, hH.trans h, q⟩
theorem Wd.rewrite {vh : VH} {n : Nat} {p : Addr} {u : HO} {o o' : MO} (w : Wd cl F m vh H) (h1 : m[n]? = some p) (h2 : vh[n]? = some (some o)) (hr : RepO cl F m (upd H p u) p o') : Wd cl F m (vh.set n (some o')) (upd H p u) := by
  obtain ⟨hF, _⟩ := w.live n p o h1 h2
  refine ⟨fun a v e => ?_, by simp [w.len], w.nd, fun a h => ?_, fun k a mo g1 g2 => ?_⟩
  · rw [upd_ne (fun z => by subst z; rw [hF] at e; cases e)]
    exact w.ext0 _ _ e
  · by_cases hap : a = p
    · subst hap
      rw [upd_same]
      exact fun e => nomatch e
    · rw [upd_ne hap]
      exact w.used a h
  · by_cases hk : n = k
    · subst hk
      rw [h1] at g1
      cases g1
      have hl : n < vh.length := (List.getElem?_eq_some_iff.mp h2).1
      rw [List.getElem?_set_self hl] at g2
      cases g2
      exact ⟨hF, hr⟩
    · rw [List.getElem?_set_ne hk] at g2
      obtain ⟨g3, g4⟩ := w.live k a mo g1 g2
      have hne : a ≠ p := fun e => by
        subst e
        obtain ⟨l1, e1⟩ := List.getElem?_eq_some_iff.mp h1
        obtain ⟨l2, e2⟩ := List.getElem?_eq_some_iff.mp g1
        exact hk ((List.getElem_inj w.nd).mp (e1.trans e2.symm))
      exact ⟨g3, g4.same (by rw [upd_ne hne])⟩
/-- what the body of a locked walk is asked -/
structure Lk (cl : Cn) (F : Hp) (m : List Addr) (vh : VH) (H : Hp) (σ : Sl) (ρ : Rho) (i : Nat) (a : Addr) (od : Obj) (kvs : List (Key × V)) : Prop where
  w : Wd cl F m vh H
  r : RS cl F m σ ρ
  at_ : σ[i]? = some (some (.ref a))
  fz : H a = some (.frz od (.dK kvs))
  it : ∀ R : It → Hp → Prop, Run cl F m H (keysIt i ρ vh) (kI cl R) → R (Itk a od kvs) H
theorem keys_it {i : Nat} {d : D} {a : Addr} {od : Obj} {kvs : List (Key × V)} {vs : List D} (w : Wd cl F m vh H) (hρ : ρ[i]? = some (some d)) (hd : dctV vh d = some (kvs.map (·.1), vs)) (fz : H a = some (.frz od (.dK kvs))) (R : It → Hp → Prop)
    (q : Run cl F m H (keysIt i ρ vh) (kI cl R)) : R (Itk a od kvs) H := by
  have e : keysIt i ρ vh = some ((kvs.map (·.1)).map keyD, vh) := by
    unfold keysIt var
    rw [hρ]
    show ((dctV vh d).map fun p => (p.1.map keyD, vh)) = _
    rw [hd]
    rfl
  rw [e] at q
  exact q F m H .refl w _ (itOk_keys fz)
theorem lock_go {i : Nat} {f : Rho → M D} {t : TE} {Q : VK} (w : Wd cl F m vh H) (r : RS cl F m σ ρ) (q : Run cl F m H (lockV i f ρ vh) (kV' cl Q))
    (ht : ∀ {F m vh H a od kvs} {Q : VK}, Lk cl F m vh H σ ρ i a od kvs → Run cl F m H (f ρ vh) (kV' cl Q) → t σ H Q) : tLockE t σ H Q ∨ t σ H Q := by
  unfold lockV at q
  cases e0 : ρ[i]? with
  | none => rw [e0] at q; exact False.elim q
  | some od0 =>
    cases od0 with
    | none => rw [e0] at q; exact False.elim q
    | some d =>
      rw [e0] at q
      obtain ⟨v, ev, rv⟩ := r.at_ i d e0
      cases d with
      | dct ks vs =>
        have q9 : Run cl F m H (f ρ vh) (kV' cl Q) := q
        clear q
        obtain ⟨a, kvs, rfl, ea, ek, ru⟩ := rep_dct rv
        subst ek
        rcases w.ext0 _ _ ea with ha | ⟨ob, _, _, ha⟩
        · refine Or.inl ⟨a, .dK kvs, ha, True.intro, fun od => ?_⟩
          have w1 : Wd cl F m vh (upd H a (.frz od (.dK kvs))) := by
            refine ⟨fun b o e => ?_, w.len, w.nd, fun b hb => ?_, fun n b mo g1 g2 => ?_⟩
            · by_cases hb : b = a
              · subst hb
                rw [ea] at e
                cases e
                exact Or.inr ⟨od, kvs, rfl, upd_same⟩
              · rw [upd_ne hb]
                exact w.ext0 _ _ e
            · by_cases hba : b = a
              · subst hba
                rw [upd_same]
                exact fun e => nomatch e
              · rw [upd_ne hba]
                exact w.used b hb
            · obtain ⟨g3, g4⟩ := w.live n b mo g1 g2
              have hne : b ≠ a := fun e => by subst e; rw [ea] at g3; cases g3
              exact ⟨g3, g4.same (by rw [upd_ne hne])⟩
          refine ht (Q := fun v H' => H' a = some (.frz od (.dK kvs)) ∧ Q v (upd H' a (.dK kvs))) ⟨w1, r, ev, upd_same, fun R h => keys_it w1 e0 rfl upd_same R h⟩ ?_
          cases ef : f ρ vh with
          | none => rw [ef] at q9; exact False.elim q9
          | some y =>
            obtain ⟨d', vh'⟩ := y
            rw [ef] at q9
            intro F' m' H' p w' v rv'
            have hz : H' a = some (.frz od (.dK kvs)) := p.frz _ _ _ upd_same
            refine ⟨hz, ?_⟩
            have eF : F' a = some (.dK kvs) := p.gr.ext _ _ ea
            have w2 : Wd cl F' m' vh' (upd H' a (.dK kvs)) := by
              refine ⟨fun b o e => ?_, w'.len, w'.nd, fun b hb => ?_, fun n b mo g1 g2 => ?_⟩
              · by_cases hb : b = a
                · subst hb
                  rw [eF] at e
                  cases e
                  exact Or.inl upd_same
                · rw [upd_ne hb]
                  exact w'.ext0 _ _ e
              · by_cases hba : b = a
                · subst hba
                  rw [upd_same]
                  exact fun e => nomatch e
                · rw [upd_ne hba]
                  exact w'.used b hb
              · obtain ⟨g3, g4⟩ := w'.live n b mo g1 g2
                have hne : b ≠ a := fun e => by subst e; rw [eF] at g3; cases g3
                exact ⟨g3, g4.same (by rw [upd_ne hne])⟩
            have p2 : Post F m H F' m' (upd H' a (.dK kvs)) := by
              refine ⟨p.gr, fun b o e n => ?_, fun b o u e => ?_⟩
              · by_cases hb : b = a
                · subst hb
                  obtain ⟨_, e2, n2⟩ := p.fr b _ upd_same n
                  rw [ha] at e
                  cases e
                  exact ⟨upd_same, e2, n2⟩
                · obtain ⟨e1, e2, n2⟩ := p.fr b o (by rw [upd_ne hb]; exact e) n
                  exact ⟨by rw [upd_ne hb]; exact e1, e2, n2⟩
              · have hb : b ≠ a := fun z => by subst z; rw [ha] at e; cases e
                rw [upd_ne hb]
                exact p.frz b o u (by rw [upd_ne hb]; exact e)
            exact q9 F' m' _ p2 w2 v rv'
        · exact Or.inr (ht ⟨w, r, ev, ha, fun R h => keys_it w e0 rfl ha R h⟩ q9)
      | ref n =>
        simp only [] at q
        cases e1 : vh[n]? with
        | none => rw [e1] at q; exact False.elim q
        | some o1 =>
          cases o1 with
          | none => rw [e1] at q; exact False.elim q
          | some mo =>
            rw [e1] at q
            cases mo with
            | lst xs => exact False.elim q
            | lstL xs => exact False.elim q
            | obj c ns vs => exact False.elim q
            | dctL ks vs =>
              have q : Run cl F m H (f ρ vh) (kV' cl Q) := q
              cases rv with
              | @ref _ a hm =>
                obtain ⟨_, ob, kvs, h1, h2, h3⟩ := w.live _ _ _ hm e1
                subst h2
                exact Or.inr (ht ⟨w, r, ev, h1, fun R h => keys_it w e0 (show dctRd vh[n]? = _ by rw [e1]; rfl) h1 R h⟩ q)
            | dct ks vs =>
              simp only [] at q
              obtain ⟨a, kvs, rfl, hm, ha, ek, ru⟩ := w.refDct rv e1
              subst ek
              refine Or.inl ⟨a, .dK kvs, ha, True.intro, fun od => ?_⟩
              have hn : n < vh.length := (List.getElem?_eq_some_iff.mp e1).1
              have z := w.written (u := .frz od (.dK kvs)) (o' := .dctL (kvs.map (·.1)) vs) hm e1 (fun ob v z => by rw [ha] at z; cases z) fun P => ⟨od, kvs, upd_same, rfl, ru.mono P.gr⟩
              have el : (vh.set n (some (MO.dctL (kvs.map (·.1)) vs)))[n]? = some (some (.dctL (kvs.map (·.1)) vs)) := List.getElem?_set_self hn
              refine ht (Q := fun v H' => H' a = some (.frz od (.dK kvs)) ∧ Q v (upd H' a (.dK kvs))) ⟨z.1, r, ev, upd_same, fun R h => keys_it z.1 e0 (show dctRd (vh.set n (some (MO.dctL (kvs.map (·.1)) vs)))[n]? = _ by rw [el]; rfl) upd_same R h⟩ ?_
              cases ef : f ρ (vh.set n (some (.dctL (kvs.map (·.1)) vs))) with
              | none => rw [ef] at q; exact False.elim q
              | some y =>
                obtain ⟨d', vh'⟩ := y
                rw [ef] at q
                simp only [] at q
                intro F' m' H' p w' v rv'
                have hz : H' a = some (.frz od (.dK kvs)) := p.frz _ _ _ upd_same
                refine ⟨hz, ?_⟩
                cases e2 : vh'[n]? with
                | none => rw [e2] at q; exact False.elim q
                | some o2 =>
                  cases o2 with
                  | none => rw [e2] at q; exact False.elim q
                  | some mo2 =>
                    rw [e2] at q
                    cases mo2 with
                    | dctL ks' vs' =>
                      have hm' := p.gr.pre _ _ hm
                      obtain ⟨_, ob, kvs', h1, h2, h3⟩ := w'.live _ _ _ hm' e2
                      rw [hz] at h1
                      cases h1
                      have w2 := w'.rewrite (u := .dK kvs) (o' := .dct ks' vs') hm' e2 ⟨kvs, upd_same, h2, h3⟩
                      have p2 : Post F m H F' m' (upd H' a (.dK kvs)) := by
                        have hma : a ∈ m := List.mem_of_getElem? hm
                        refine ⟨p.gr, fun b o e nb => ?_, fun b o u e => ?_⟩
                        · have hb : b ≠ a := fun z => by subst z; exact nb hma
                          obtain ⟨x1, x2, x3⟩ := p.fr b o (by rw [upd_ne hb]; exact e) nb
                          exact ⟨by rw [upd_ne hb]; exact x1, x2, x3⟩
                        · have hb : b ≠ a := fun z => by subst z; rw [ha] at e; cases e
                          rw [upd_ne hb]
                          exact p.frz b o u (by rw [upd_ne hb]; exact e)
                      exact q F' m' _ p2 w2 v rv'
                    | _ => exact False.elim q
      | _ => exact False.elim q
theorem PEor {e : Expr} {t t' : TE} (h : PE X e t) (h' : PE X e t') : PE X e (fun σ H Q => t σ H Q ∨ t' σ H Q) := ⟨fun pins s σ H Q I q => q.elim (h.run pins s σ H Q I) (h'.run pins s σ H Q I)⟩
section
variable {elt kx vx : Expr} {x : Str} {px : Pos} {ifs : List Expr} {scope : Scope} {own : List (Str × Nat)} {pos : Pos} {S : List Nat} {g : Tg} {t : Rho → M Bool} {e ek : Rho → M D} {i : Nat}
/-- [elt for k in d] over a dict by its name -/
theorem de_lcK (hc : X.calm = true) (hN : X.N.Nodup) (hx : PE X (.Name x px) (tVar i)) (ok : BlkOk X.N X.env.scope scope own)
    (hg : ∀ (s : Shared) (H : Hp) (C : Addr) (cL : List (Str × Addr)) (fp : List Addr), DG cl (X.blk s H scope (compEnvC scope cL C X.env) fp) tg S g)
    (ht : ∀ (s : Shared) (H : Hp) (C : Addr) (cL : List (Str × Addr)) (fp : List Addr), PTs (X.blk s H scope (compEnvC scope cL C X.env) fp) ifs (tT cl t))
    (he : ∀ (s : Shared) (H : Hp) (C : Addr) (cL : List (Str × Addr)) (fp : List Addr), DE cl (X.blk s H scope (compEnvC scope cL C X.env) fp) elt e)
    (hS : ∀ i, i ∈ S → i ∈ own.map (·.2) := by decide) (hs : ∀ y, foldedSetIterable (.Name x px) X.env y = pure y := by intro _; rfl) :
    DE cl X (.ListComp elt [⟨tg, .Name x px, ifs, 0⟩] scope pos) (lockV i (lcD (keysIt i) g t e (own.map (·.2)) still0)) :=
  have pl := pe_lc hc hN (pi_keys hx) ok hg ht he hs
  PEw (PEor (pe_lock pl) pl) fun σ H Q ⟨F, m, vh, ρ, w, r, q⟩ => lock_go w r q fun {F m vh H a od kvs Q} L q2 =>
    tLcG hS L.w L.r q2 (fun R h => ⟨.ref a, L.at_, a, od, rfl, Or.inl ⟨kvs, L.fz, L.it R h⟩⟩) fun q w r _ hp => runNewLst q w r hp
theorem de_dcK (hc : X.calm = true) (hN : X.N.Nodup) (hx : PE X (.Name x px) (tVar i)) (ok : BlkOk X.N X.env.scope scope own)
    (hg : ∀ (s : Shared) (H : Hp) (C : Addr) (cL : List (Str × Addr)) (fp : List Addr), DG cl (X.blk s H scope (compEnvC scope cL C X.env) fp) tg S g)
    (ht : ∀ (s : Shared) (H : Hp) (C : Addr) (cL : List (Str × Addr)) (fp : List Addr), PTs (X.blk s H scope (compEnvC scope cL C X.env) fp) ifs (tT cl t))
    (hk : ∀ (s : Shared) (H : Hp) (C : Addr) (cL : List (Str × Addr)) (fp : List Addr), DE cl (X.blk s H scope (compEnvC scope cL C X.env) fp) kx ek)
    (he : ∀ (s : Shared) (H : Hp) (C : Addr) (cL : List (Str × Addr)) (fp : List Addr), DE cl (X.blk s H scope (compEnvC scope cL C X.env) fp) vx e)
    (hS : ∀ i, i ∈ S → i ∈ own.map (·.2) := by decide) (hs : ∀ y, foldedSetIterable (.Name x px) X.env y = pure y := by intro _; rfl) :
    DE cl X (.DictComp kx vx [⟨tg, .Name x px, ifs, 0⟩] scope pos) (lockV i (dcD (keysIt i) g t ek e (own.map (·.2)) stillD)) :=
  have pl := pe_dc hc hN (pi_keys hx) ok hg ht hk he hs
  PEw (PEor (pe_lock pl) pl) fun σ H Q ⟨F, m, vh, ρ, w, r, q⟩ => lock_go w r q fun {F m vh H a od kvs Q} L q2 =>
    tDcG hS L.w L.r q2 (fun R h => ⟨.ref a, L.at_, a, od, rfl, Or.inl ⟨kvs, L.fz, L.it R h⟩⟩) fun q w r hp => runNewDct q w r hp
end
end
end VL

namespace VL
open PySem PySem.Spec PyProof.Rows L2

/-! ### short words for the printed derivations -/
theorem b_len : bootBuiltins "len" = some (.builtin "len") := by decide +kernel
theorem b_isinstance : bootBuiltins "isinstance" = some (.builtin "isinstance") := by decide +kernel
theorem b_all : bootBuiltins "all" = some (.builtin "all") := by decide +kernel
theorem b_any : bootBuiltins "any" = some (.builtin "any") := by decide +kernel
theorem b_sum : bootBuiltins "sum" = some (.builtin "sum") := by decide +kernel
theorem b_list : bootBuiltins "list" = some (.type "list") := by decide +kernel
theorem b_tuple : bootBuiltins "tuple" = some (.type "tuple") := by decide +kernel
theorem b_dict : bootBuiltins "dict" = some (.type "dict") := by decide +kernel
theorem b_int : bootBuiltins "int" = some (.type "int") := by decide +kernel
theorem b_str : bootBuiltins "str" = some (.type "str") := by decide +kernel
theorem b_bool : bootBuiltins "bool" = some (.type "bool") := by decide +kernel
def kst (d : D) : Rho → M D := fun _ => ret d

section
variable {X : Cx} {cl : Cn} {x : Str} {p pos : Pos} {e : Expr} {es : List Expr} {fs : Rho → M (List D)}
theorem kInt {i j pos} : DE cl X (.Constant (.int i) j pos) (kst (.int i)) := de_int
theorem kBl {i j pos} : DE cl X (.Constant (.bool i) j pos) (kst (.bl i)) := de_bl
theorem kStr {i j pos} : DE cl X (.Constant (.str i) j pos) (kst (.str i)) := de_str
theorem kNon {j pos} : DE cl X (.Constant .none j pos) (kst .non) := de_non
/-- a built-in class as a value -/
theorem kTy {n : String} (hv : bootBuiltins x = some (.type n)) (hm : X.mg x = none) (hg : Gl X x := by rfl) (hn : x ≠ "__name__" := by decide) (hd : (x == ("__debug__" : Str)) = false := by decide) : DE cl X (.Name x pos) (kst (.ty n)) :=
  de_ty (pe_bltn hg hm hv rfl hn hd)
/-- a text, a number of the module -/
theorem kGs {s : Str} (hm : ∃ t, X.mg x = some (.str s t)) (hg : Gl X x := by rfl) (hd : (x == ("__debug__" : Str)) = false := by decide) : DE cl X (.Name x pos) (kst (.str s)) := by
  obtain ⟨t, hm⟩ := hm
  exact de_c (pe_glob (v := V.str s) hg hm ⟨t, rfl⟩ hd) fun _ _ => .str s
theorem kGi {i : Int} (hm : ∃ t, X.mg x = some (.int i t)) (hg : Gl X x := by rfl) (hd : (x == ("__debug__" : Str)) = false := by decide) : DE cl X (.Name x pos) (kst (.int i)) := by
  obtain ⟨t, hm⟩ := hm
  exact de_c (pe_glob (v := V.int i) hg hm ⟨t, rfl⟩ hd) fun _ _ => .int i
theorem kCls {c : Nat} (hm : X.mg x = some (.ref (cl c))) (hg : Gl X x := by rfl) (hd : (x == ("__debug__" : Str)) = false := by decide) : DE cl X (.Name x pos) (kst (.cls c)) := de_c (pe_glob (v := V.ref (cl c)) hg hm rfl hd) fun _ _ => .cls c
theorem vr (i : Nat) {x : Str} {pos : Pos} (hN : X.N[i]? = some x := by rfl) (hv : Vis X.env.scope x := by first | exact Or.inl rfl | exact Or.inr (Or.inl rfl) | exact Or.inr (Or.inr rfl)) (hd : (x == ("__debug__" : Str)) = false := by decide)
    (hcd : (x == ("__classdict__" : Str)) = false := by decide) : DE cl X (.Name x pos) (var i) := de_var (pv i hN hv hd hcd)
theorem bB {id : String} {o : List D → M D} (hc : CallR X (.builtin id) (rDs cl o)) (hv : bootBuiltins x = some (.builtin id)) (hm : X.mg x = none) (ha : DA cl X (e :: es) fs) (hg : Gl X x := by rfl)
    (hn : x ≠ "__name__" := by decide) (hdb : (x == ("__debug__" : Str)) = false := by decide) (hs : starEach (e :: es) X.env = (false, eval e X.env) :: starEach es X.env := by rfl) (hpl : (backTo pos (starEach es X.env)).any (·.1) = false := by rfl) :
    DE cl X (.Call (.Name x p) (e :: es) [] pos) (denA o fs) := de_cb (pos := pos) (fn := e) ha fun h => pe_callB hc hg hm hv h hn hdb hs hpl
theorem bT {id : String} {o : List D → M D} (hc : CallR X (.type id) (rDs cl o)) (hv : bootBuiltins x = some (.type id)) (hm : X.mg x = none) (ha : DA cl X (e :: es) fs) (hg : Gl X x := by rfl)
    (hn : x ≠ "__name__" := by decide) (hdb : (x == ("__debug__" : Str)) = false := by decide) (hs : starEach (e :: es) X.env = (false, eval e X.env) :: starEach es X.env := by rfl) (hpl : (backTo pos (starEach es X.env)).any (·.1) = false := by rfl) :
    DE cl X (.Call (.Name x p) (e :: es) [] pos) (denA o fs) := de_cb (pos := pos) (fn := e) ha fun h => pe_callTy hc hg hm hv h hn hdb hs hpl
end
/-- a def of the module with its mirror -/
structure Cal (P : Program) (w : World) (K : PySem.W.Frag) (mg : Str → Option Value) (base : Heap) (cl : Cn) (x : Str) (k n : Nat) (den : List D → M D) : Prop where
  ex : ∃ (f : Addr) (fd : FuncData) (ps : List Str), mg x = some (.ref f) ∧ PySem.W.keepIn K (.ref f) = true ∧ FnOk P w K mg base CX0 k f fd ps (spD cl n den) ∧ L2.Binds K fd ps []
/-- a method with its mirror -/
structure CalM (P : Program) (w : World) (K : PySem.W.Frag) (mg : Str → Option Value) (base : Heap) (cl : Cn) (C : Addr) (x : Str) (k n : Nat) (den : List D → M D) : Prop where
  ex : ∃ (f : Addr) (fd : FuncData) (ps : List Str), PySem.W.findIn K (.ref C) x = some (some (.ref f)) ∧ PySem.W.isFn K (.ref f) = true ∧ PySem.W.keepIn K (.ref f) = true ∧ FnOk P w K mg base CX0 k f fd ps (spD cl n den) ∧ L2.Binds K fd ps []
section
variable {X : Cx} {cl : Cn} {x : Str} {p pos apos : Pos} {e o : Expr} {es : List Expr} {fo : Rho → M D} {fs : Rho → M (List D)} {k n : Nat} {den : List D → M D}
theorem cF (C : Cal X.prog X.w X.K X.mg X.base cl x k n den) (hr : Room k X.A) (ha : DA cl X (e :: es) fs) (hg : Gl X x := by rfl) (hdb : (x == ("__debug__" : Str)) = false := by decide)
    (hs : starEach (e :: es) X.env = (false, eval e X.env) :: starEach es X.env := by rfl) (hpl : (backTo pos (starEach es X.env)).any (·.1) = false := by rfl) : DE cl X (.Call (.Name x p) (e :: es) [] pos) (denA (denC n den) fs) := by
  obtain ⟨f, fd, ps, hm, kp, Fo, hb⟩ := C.ex
  exact de_call Fo ha fun h => pe_call Fo hr hg hm kp hb .nil pass0 h hdb hs hpl
theorem cF0 (C : Cal X.prog X.w X.K X.mg X.base cl x k n den) (hr : Room k X.A) (hg : Gl X x := by rfl) (hdb : (x == ("__debug__" : Str)) = false := by decide) : DE cl X (.Call (.Name x p) [] [] pos) (denA (denC n den) nilA) := by
  obtain ⟨f, fd, ps, hm, kp, Fo, hb⟩ := C.ex
  refine PEw (pe_call0 Fo hr hg hm kp hb .nil pass0 hdb) fun σ H Q h => ?_
  obtain ⟨F, m, vh, ρ, w, r, q⟩ := h
  have q : Run cl F m H (denC n den [] vh) (kV' cl Q) := q
  obtain ⟨hl, q1⟩ := run_if q
  exact ⟨F, m, vh, [], by rw [← hl]; rfl, w, .nil, q1⟩
/-- C(e, ..) -/
theorem cN {c : Nat} (C : CalM X.prog X.w X.K X.mg X.base cl (cl c) "__init__" k n den) (hk : PySem.W.makesIn X.K (cl c) = true) (kc : PySem.W.keepIn X.K (.ref (cl c)) = true) (hm : X.mg x = some (.ref (cl c))) (hr : Room (k + 1) X.A) (ha : DA cl X (e :: es) fs) (hg : Gl X x := by rfl)
    (hdb : (x == ("__debug__" : Str)) = false := by decide) (hs : starEach (e :: es) X.env = (false, eval e X.env) :: starEach es X.env := by rfl) (hpl : (backTo pos (starEach es X.env)).any (·.1) = false := by rfl) : DE cl X (.Call (.Name x p) (e :: es) [] pos) (denA (mkD c n den) fs) := by
  obtain ⟨f, fd, ps, hi, hf, kp, Fo, hb⟩ := C.ex
  exact de_make (k := k) (f := f) (fd := fd) (ps := ps) ha fun h => pe_make ⟨hk, hi, hf, kc⟩ Fo hr hg hm hb .nil pass0 h hdb hs hpl
theorem cNM {c : Nat} (C : CalM X.prog X.w X.K X.mg X.base cl (cl c) "__init__" k n den) (hk : PySem.W.makesIn X.K (cl c) = true) (kc : PySem.W.keepIn X.K (.ref (cl c)) = true) (hm : X.mg x = some (.ref (cl c))) (hr : Room (k + 1) X.A) (ha : DA cl X (e :: es) fs) (hg : Gl X x := by rfl)
    (hdb : (x == ("__debug__" : Str)) = false := by decide) (hs : starEach (e :: es) X.env = (false, eval e X.env) :: starEach es X.env := by rfl) (hpl : (backTo pos (starEach es X.env)).any (·.1) = false := by rfl) : DE cl X (.Call (.Name x p) (e :: es) [] pos) (denA (mkMD c n den) fs) := by
  obtain ⟨f, fd, ps, hi, hf, kp, Fo, hb⟩ := C.ex
  exact de_makeM (k := k) (f := f) (fd := fd) (ps := ps) ha fun h => pe_make ⟨hk, hi, hf, kc⟩ Fo hr hg hm hb .nil pass0 h hdb hs hpl
/-- o.m(e, ..), o.m() -/
theorem cM {c : Nat} {mt : Str} {pl : Sem Bool} (C : CalM X.prog X.w X.K X.mg X.base cl (cl c) mt k n den) (hc : Cls X.K (cl c)) (hr : Room k X.A) (ho : DE cl X o fo) (ha : DA cl X (e :: es) fs)
    (hs : starEach (e :: es) X.env = (false, eval e X.env) :: starEach es X.env := by rfl) (hpl : (backTo pos (starEach es X.env)).any (·.1) = false := by rfl)
    (ht : eval (.Call (.Attribute o mt apos) (e :: es) [] pos) X.env = (do
      let ov ← eval o X.env
      standAt apos.atName
      let (f, first) ← holding [ov] (getMethod ov mt pl)
      callWith pos f first (backTo pos (starEach (e :: es) X.env)) (backToKw pos (keywordEach [] X.env))) := by rfl) : DE cl X (.Call (.Attribute o mt apos) (e :: es) [] pos) (omethD c mt n den fo fs) := by
  obtain ⟨f, fd, ps, hi, hf, kp, Fo, hb⟩ := C.ex
  exact de_ometh ho ha fun h1 h2 => pe_meth (pl := pl) h1 hc ⟨hi, hf, kp⟩ Fo hr hb .nil pass0 h2 hs hpl ht
theorem cM0 {c : Nat} {mt : Str} {pl : Sem Bool} (C : CalM X.prog X.w X.K X.mg X.base cl (cl c) mt k n den) (hc : Cls X.K (cl c)) (hr : Room k X.A) (ho : DE cl X o fo)
    (ht : eval (.Call (.Attribute o mt apos) [] [] pos) X.env = (do
      let ov ← eval o X.env
      standAt apos.atName
      let (f, first) ← holding [ov] (getMethod ov mt pl)
      callWith pos f first (backTo pos (starEach [] X.env)) (backToKw pos (keywordEach [] X.env))) := by rfl) : DE cl X (.Call (.Attribute o mt apos) [] [] pos) (omethD c mt n den fo nilA) := by
  obtain ⟨f, fd, ps, hi, hf, kp, Fo, hb⟩ := C.ex
  exact de_ometh0 ho fun h1 => pe_meth0 (pl := pl) h1 hc ⟨hi, hf, kp⟩ Fo hr hb .nil pass0 ht
theorem oIn {c : Nat} (C : CalM X.prog X.w X.K X.mg X.base cl (cl c) "__contains__" k 2 den) (hr : Room k X.A) : OpR X (compareOp .In) (rD2 cl (chkO c (ownInD den))) := by
  obtain ⟨f, fd, ps, hi, hf, kp, Fo, hb⟩ := C.ex
  exact op_ownIn Fo hr hb hi hf
theorem oNin {c : Nat} (C : CalM X.prog X.w X.K X.mg X.base cl (cl c) "__contains__" k 2 den) (hr : Room k X.A) : OpR X (compareOp .NotIn) (rD2 cl (chkO c (ownNinD den))) := by
  obtain ⟨f, fd, ps, hi, hf, kp, Fo, hb⟩ := C.ex
  exact op_ownNin Fo hr hb hi hf
theorem fF {c : Nat} {f : Str} (hc : Cls X.K (cl c)) (hn : NoAttr X.K (cl c) f) (ho : DE cl X o fo) (hb : attributeBase o f X.env (eval o X.env) = eval o X.env := by rfl) : DE cl X (.Attribute o f pos) (den1 (fldD c f) fo) := de_fld ho hc hn fun h => pe_fld h hb
end
section
variable {X : Cx} {cl : Cn} {o e : Expr} {es : List Expr} {apos cpos pos : Pos} {fo fe : Rho → M D} {fs : Rho → M (List D)}
theorem mApp {e : Expr} (ho : DE cl X o fo) (ha : DA cl X [e] fs) (hb : attributeBase o "append" X.env (eval o X.env) = eval o X.env := by rfl)
    (hf : ((backTo cpos (starEach [e] X.env)).all (fun x => !x.1) && (backToKw cpos (keywordEach [] X.env)).all (fun x => x.1.isSome) && decide (([e] : List Expr).length + ([] : List Keyword).length + (if ([] : List Keyword).isEmpty then 0 else 1) < 30)) = true := by rfl)
    (hl : (apos.endLine == cpos.line) = true := by rfl) (hs : starEach [e] X.env = (false, eval e X.env) :: starEach [] X.env := by rfl) (hp : (backTo cpos (starEach [] X.env)).any (·.1) = false := by rfl) :
    DE cl X (.Call (.Attribute o "append" apos) [e] [] cpos) (methD isLst fo fs appendD) :=
  de_bm ho ha (fun h1 h2 => pe_bm PySem.F.plainAttrs_list PySem.F.slot_list_append PySem.F.type_list_append mt_append h1 h2 hb hf hl hs hp) (fun w r h => ty_list w r h) fun _ _ _ _ h => r_append h
theorem mExt {e : Expr} (ho : DE cl X o fo) (ha : DA cl X [e] fs) (hb : attributeBase o "extend" X.env (eval o X.env) = eval o X.env := by rfl)
    (hf : ((backTo cpos (starEach [e] X.env)).all (fun x => !x.1) && (backToKw cpos (keywordEach [] X.env)).all (fun x => x.1.isSome) && decide (([e] : List Expr).length + ([] : List Keyword).length + (if ([] : List Keyword).isEmpty then 0 else 1) < 30)) = true := by rfl)
    (hl : (apos.endLine == cpos.line) = true := by rfl) (hs : starEach [e] X.env = (false, eval e X.env) :: starEach [] X.env := by rfl) (hp : (backTo cpos (starEach [] X.env)).any (·.1) = false := by rfl) :
    DE cl X (.Call (.Attribute o "extend" apos) [e] [] cpos) (methD isLst fo fs extendD) :=
  de_bm ho ha (fun h1 h2 => pe_bm PySem.F.plainAttrs_list PySem.F.slot_list_extend PySem.F.type_list_extend mt_extend h1 h2 hb hf hl hs hp) (fun w r h => ty_list w r h) fun _ _ _ _ h => r_extend h
theorem mPopAt {e : Expr} (ho : DE cl X o fo) (ha : DA cl X [e] fs) (hb : attributeBase o "pop" X.env (eval o X.env) = eval o X.env := by rfl)
    (hf : ((backTo cpos (starEach [e] X.env)).all (fun x => !x.1) && (backToKw cpos (keywordEach [] X.env)).all (fun x => x.1.isSome) && decide (([e] : List Expr).length + ([] : List Keyword).length + (if ([] : List Keyword).isEmpty then 0 else 1) < 30)) = true := by rfl)
    (hl : (apos.endLine == cpos.line) = true := by rfl) (hs : starEach [e] X.env = (false, eval e X.env) :: starEach [] X.env := by rfl) (hp : (backTo cpos (starEach [] X.env)).any (·.1) = false := by rfl) :
    DE cl X (.Call (.Attribute o "pop" apos) [e] [] cpos) (methD isLst fo fs popAtD) :=
  de_bm ho ha (fun h1 h2 => pe_bm PySem.F.plainAttrs_list PySem.F.slot_list_pop PySem.F.type_list_pop mt_popAt h1 h2 hb hf hl hs hp) (fun w r h => ty_list w r h) fun _ _ _ _ h => r_popAt h
theorem mPop (ho : DE cl X o fo) (hb : attributeBase o "pop" X.env (eval o X.env) = eval o X.env := by rfl) (hl : (apos.endLine == cpos.line) = true := by rfl) :
    DE cl X (.Call (.Attribute o "pop" apos) [] [] cpos) (methD isLst fo nilA popD) :=
  de_bm0 ho (fun h1 => pe_bm0 PySem.F.plainAttrs_list PySem.F.slot_list_pop PySem.F.type_list_pop mt_pop h1 hb hl) (fun w r h => ty_list w r h) fun _ _ _ _ h => r_pop h
theorem mUpd {e : Expr} (ho : DE cl X o fo) (ha : DA cl X [e] fs) (hb : attributeBase o "update" X.env (eval o X.env) = eval o X.env := by rfl)
    (hf : ((backTo cpos (starEach [e] X.env)).all (fun x => !x.1) && (backToKw cpos (keywordEach [] X.env)).all (fun x => x.1.isSome) && decide (([e] : List Expr).length + ([] : List Keyword).length + (if ([] : List Keyword).isEmpty then 0 else 1) < 30)) = true := by rfl)
    (hl : (apos.endLine == cpos.line) = true := by rfl) (hs : starEach [e] X.env = (false, eval e X.env) :: starEach [] X.env := by rfl) (hp : (backTo cpos (starEach [] X.env)).any (·.1) = false := by rfl) :
    DE cl X (.Call (.Attribute o "update" apos) [e] [] cpos) (methD isDct fo fs updateD) :=
  de_bm ho ha (fun h1 h2 => pe_bm PySem.F.plainAttrs_dict PySem.F.slot_dict_update PySem.F.type_dict_update mt_update h1 h2 hb hf hl hs hp) (fun w r h => ty_dict w r h) fun _ _ _ _ h => r_update h
theorem mJoin {e : Expr} (ho : DE cl X o fo) (ha : DA cl X [e] fs) (hb : attributeBase o "join" X.env (eval o X.env) = eval o X.env := by rfl)
    (hf : ((backTo cpos (starEach [e] X.env)).all (fun x => !x.1) && (backToKw cpos (keywordEach [] X.env)).all (fun x => x.1.isSome) && decide (([e] : List Expr).length + ([] : List Keyword).length + (if ([] : List Keyword).isEmpty then 0 else 1) < 30)) = true := by rfl)
    (hl : (apos.endLine == cpos.line) = true := by rfl) (hs : starEach [e] X.env = (false, eval e X.env) :: starEach [] X.env := by rfl) (hp : (backTo cpos (starEach [] X.env)).any (·.1) = false := by rfl) :
    DE cl X (.Call (.Attribute o "join" apos) [e] [] cpos) (methD isStr fo fs joinD) :=
  de_bm ho ha (fun h1 h2 => pe_bm PySem.F.plainAttrs_str PySem.F.slot_str_join PySem.F.type_str_join mt_join h1 h2 hb hf hl hs hp) (fun w r h => ty_str w r h) fun _ _ _ _ h => r_join [] h
end
end VL

namespace VL
open PySem PySem.Spec PyProof.Rows L2

section
variable {X : Cx} {cl : Cn} {K : PySem.W.Frag} {F F' F1 F2 : Hp} {m m' m1 m2 : List Addr} {H H' H1 H2 : Hp} {vh vh1 : VH} {ρ : Rho} {σ : Sl} {tg : Expr}
/-! ### ghosts: a thing stands still from now on -/
theorem run_still {d : D} {v : V} {k : Kn D} (w : Wd cl F m vh H) (r : Rep cl F m v d) (q : Run cl F m H (still d vh) k) : ∃ F' vh' d', Wd cl F' m vh' H ∧ Post F m H F' m H ∧ Rep cl F' m v d' ∧ k F' m vh' H d' := by
  have same : ∀ {d}, Rep cl F m v d → Run cl F m H (some (d, vh)) k → ∃ F' vh' d', Wd cl F' m vh' H ∧ Post F m H F' m H ∧ Rep cl F' m v d' ∧ k F' m vh' H d' :=
    fun {d} r q => ⟨F, vh, d, w, .refl, r, q F m H .refl w⟩
  cases d with
  | ref n =>
    have q : Run cl F m H (match vh[n]? with
      | some (some o) => (stillO o).map fun d => (d, vh.set n none)
      | _ => none) k := q
    cases h : vh[n]? with
    | none => rw [h] at q; exact False.elim q
    | some o =>
      cases o with
      | none => rw [h] at q; exact False.elim q
      | some o =>
        rw [h] at q
        cases h3 : stillO o with
        | none => simp only [h3] at q; exact False.elim q
        | some d =>
          simp only [h3] at q
          cases r with
          | ref hm =>
            obtain ⟨F', w', p', r'⟩ := w.stilled hm h h3
            exact ⟨F', _, d, w', p', r', q F' m H p' w'⟩
  | non => exact same r q
  | bl b => exact same r q
  | int b => exact same r q
  | str b => exact same r q
  | lst b => exact same r q
  | tup b => exact same r q
  | dct a b => exact same r q
  | obj a b c => exact same r q
  | scr b => exact same r q
  | ty b => exact same r q
  | cls b => exact same r q
  | exc a b c => exact same r q
def stE (f : Rho → M D) : Rho → M D := fun ρ => bind (f ρ) still
theorem de_still {e : Expr} {f : Rho → M D} (h : DE cl X e f) : DE cl X e (stE f) :=
  PEw h fun σ H Q ⟨F, m, vh, ρ, w, r, q⟩ => tD_bind w r q fun F1 m1 vh1 H1 a v w1 r1 g1 rv q1 => by
    obtain ⟨F', vh', d', w', p', r', k⟩ := run_still w1 rv q1
    exact k v r'
theorem dss_still {sts : List Stmt} {g : Bk} (i : Nat) (h : DSs cl X sts g) : DSs cl X sts (seqS (stillS i) g) :=
  PSsw h fun D σ H ⟨F, m, vh, ρ, w, r, q⟩ => by
    unfold seqS stillS at q
    cases e : ρ[i]? with
    | none => rw [e] at q; exact False.elim q
    | some o =>
      cases o with
      | none => rw [e] at q; exact False.elim q
      | some d =>
        rw [e] at q
        obtain ⟨v, ev, rv⟩ := r.at_ i d e
        have q := Run.bind (show Run cl F m H (bind (still d) (fun d' => bind (ret (Out.nx (ρ.set i (some d')))) fun o => match o with
          | .nx ρ' => g ρ'
          | o => ret o) vh) (kO cl D) from by rw [← bind_assoc]; exact q)
        obtain ⟨F', vh', d', w', p', r', k⟩ := run_still w rv q
        have r2 := (r.mono p'.gr).set r' i
        have e2 : σ.set i (some v) = σ := by
          apply List.ext_getElem?
          intro j
          by_cases hj : i = j
          · subst hj
            rw [List.getElem?_set_self (List.getElem?_eq_some_iff.mp ev).1, ev]
          · rw [List.getElem?_set_ne hj]
        rw [e2] at r2
        exact ⟨F', m, vh', _, w', r2, k⟩
def cmpT (o : D → D → M D) (fa fb : Rho → M D) : Rho → M Bool := fun ρ => bind (den2 o fa fb ρ) toB
def valT (f : Rho → M D) : Rho → M Bool := fun ρ => bind (f ρ) toB
def truT (f : Rho → M D) : Rho → M Bool := fun ρ => bind (f ρ) truD
def seqI (f : Rho → M D) : Rho → M (List D) := fun ρ => bind (f ρ) seqIt
def argI (o : List D → M (List D)) (f : Rho → M (List D)) : Rho → M (List D) := fun ρ => bind (f ρ) o
theorem xDput {o i e : Expr} {pos pos' : Pos} {fo fi fe : Rho → M D} (hu : X.A.units + 1 < cLine) (he : DE cl X e fe) (ho : DE cl X o fo) (hi : DE cl X i fi)
    (ha : ∀ v, assign (.Subscript o i pos) X.env v = (do
      let ov ← holding [v] (eval o X.env)
      let iv ← holding [v, ov] (eval i X.env)
      standAt pos
      holding [v, ov, iv] (setItem ov iv v)
      release [v, ov, iv] []) := by intro _; rfl)
    (hs : swapsWithSole [.Subscript o i pos] e pos'.line X.env = pure false := by rfl) (hw : swappedStores [.Subscript o i pos] e X.env = pure none := by rfl)
    (h1 : (assignEach [.Subscript o i pos] X.env).map (·.2) = [assign (.Subscript o i pos) X.env] := by rfl) : DS cl X (.Assign [.Subscript o i pos] e pos') (asgS fe (subG fo fi)) :=
  ds_asg he (dg_sub hu ho hi fun h1 h2 h3 => pg_sub h1 h2 h3 ha) hs hw h1
end
end VL

namespace VL
open PySem PySem.Spec PyProof.Rows L2 RZ
/-! zip of two sequences, each a list or a tuple -/
def ItB : Bool → Heap → Addr → Addr → Nat → Prop
  | false, h, it, l, i => h.IsListIter it l i
  | true, h, it, l, i => h.IsTupleIter it l i
def SqB : Bool → Heap → Addr → Array Value → Prop
  | false, h, l, xs => h.IsList l xs
  | true, h, l, xs => h.IsTuple l xs
section
variable {b : Bool} {h h' : Heap} {it l : Addr} {i : Nat} {xs : Array Value}
theorem ItB.at (q : ItB b h it l i) (k : ∀ o, h.get? it = some o → h'.get? it = some o) : ItB b h' it l i := by
  cases b
  · exact Heap.IsListIter.at q k
  · exact Heap.IsTupleIter.at q k
theorem SqB.at (q : SqB b h l xs) (k : ∀ o, h.get? l = some o → h'.get? l = some o) : SqB b h' l xs := by
  cases b
  · exact Heap.IsList.at q k
  · exact Heap.IsTuple.at q k
theorem ItB.live (q : ItB b h it l i) : ∃ o, h.get? it = some o := by
  cases b <;> exact ⟨_, (Classical.choose_spec q).1⟩
theorem SqB.live (q : SqB b h l xs) : ∃ o, h.get? l = some o := by
  cases b <;> exact ⟨_, (Classical.choose_spec q).1⟩
end
section
variable {P : Program} {w : World} {A : Around} {E : Value → Shared → Prop} {s : Shared}
theorem nxB_item {b : Bool} {it l : Addr} {i : Nat} {xs : Array Value} {x : Value} {Q : Value → Shared → Prop} (q : ItB b s.heap it l i) (ql : SqB b s.heap l xs) (e : xs[i]? = some x)
    (k : ∀ h', ItB b h' it l (i + 1) → Heap.SameBut it s.heap h' → Q x { s with heap := h' }) : wpAny (model P w) A (Builtin.SmallTypes.nextOf (.ref it)) Q E s := by
  cases b
  · exact wpAny_nextOf_list_item q ql e k
  · exact nextOf_tuple_item q ql e k
theorem nxB_end {b : Bool} {it l : Addr} {i : Nat} {xs : Array Value} {Q : Value → Shared → Prop} (hh : A.handled = none) (q : ItB b s.heap it l i) (ql : SqB b s.heap l xs) (e : xs[i]? = none)
    (k : ∀ h' x, Heap.ExtBut it s.heap h' → (∃ o, h'.get? x = some o ∧ o.cls = .type "StopIteration") → E (.ref x) { s with heap := h' }) : wpAny (model P w) A (Builtin.SmallTypes.nextOf (.ref it)) Q E s := by
  cases b
  · exact wpAny_nextOf_list_end hh q ql e k
  · exact nextOf_tuple_end hh q ql e k
end
/-- all that a zip stands on -/
structure Zp (b1 b2 : Bool) (z TI TO i1 i2 l1 l2 : Addr) (xs ys : Array Value) (h : Heap) (f : Value) (x y : Value) (k1 k2 : Nat) : Prop where
  hz : IsZip h z TI TO f
  ti : IsPair h TI (.ref i1) (.ref i2)
  to : IsPair h TO x y
  j1 : ItB b1 h i1 l1 k1
  j2 : ItB b2 h i2 l2 k2
  q1 : SqB b1 h l1 xs
  q2 : SqB b2 h l2 ys
section
variable {b1 b2 : Bool} {z TI TO i1 i2 l1 l2 : Addr} {xs ys : Array Value} {h h' : Heap} {f f' x y x' y' : Value} {k1 k2 k1' k2' : Nat}
theorem Zp.onZ (D : ZipApart z TI TO i1 i2 l1 l2) (p : Zp b1 b2 z TI TO i1 i2 l1 l2 xs ys h f x y k1 k2) (n : IsZip h' z TI TO f') (e : Heap.ExtBut z h h') : Zp b1 b2 z TI TO i1 i2 l1 l2 xs ys h' f' x y k1 k2 :=
  ⟨n, e _ _ D.TIz p.ti, e _ _ D.TOz p.to, p.j1.at fun o => e _ o D.i1z, p.j2.at fun o => e _ o D.i2z, p.q1.at fun o => e _ o D.l1z, p.q2.at fun o => e _ o D.l2z⟩
theorem Zp.onTO (D : ZipApart z TI TO i1 i2 l1 l2) (p : Zp b1 b2 z TI TO i1 i2 l1 l2 xs ys h f x y k1 k2) (n : IsPair h' TO x' y') (e : Heap.ExtBut TO h h') : Zp b1 b2 z TI TO i1 i2 l1 l2 xs ys h' f x' y' k1 k2 :=
  ⟨e _ _ D.TOz.symm p.hz, e _ _ D.TITO p.ti, n, p.j1.at fun o => e _ o D.TOi1.symm, p.j2.at fun o => e _ o D.TOi2.symm, p.q1.at fun o => e _ o D.l1TO, p.q2.at fun o => e _ o D.l2TO⟩
theorem Zp.on1 (D : ZipApart z TI TO i1 i2 l1 l2) (p : Zp b1 b2 z TI TO i1 i2 l1 l2 xs ys h f x y k1 k2) (n : ItB b1 h' i1 l1 k1') (e : Heap.ExtBut i1 h h') : Zp b1 b2 z TI TO i1 i2 l1 l2 xs ys h' f x y k1' k2 :=
  ⟨e _ _ D.i1z.symm p.hz, e _ _ D.TIi1 p.ti, e _ _ D.TOi1 p.to, n, p.j2.at fun o => e _ o D.i12.symm, p.q1.at fun o => e _ o D.l1i1, p.q2.at fun o => e _ o D.l2i1⟩
theorem Zp.on2 (D : ZipApart z TI TO i1 i2 l1 l2) (p : Zp b1 b2 z TI TO i1 i2 l1 l2 xs ys h f x y k1 k2) (n : ItB b2 h' i2 l2 k2') (e : Heap.ExtBut i2 h h') : Zp b1 b2 z TI TO i1 i2 l1 l2 xs ys h' f x y k1 k2' :=
  ⟨e _ _ D.i2z.symm p.hz, e _ _ D.TIi2 p.ti, e _ _ D.TOi2 p.to, p.j1.at fun o => e _ o D.i12, n, p.q1.at fun o => e _ o D.l1i2, p.q2.at fun o => e _ o D.l2i2⟩
/-- what a turn of zip leaves as it was -/
def But4 (z TO i1 i2 : Addr) (h h' : Heap) : Prop := ∀ c o, c ≠ z → c ≠ TO → c ≠ i1 → c ≠ i2 → h.get? c = some o → h'.get? c = some o
theorem But4.tr {h1 h2 h3 : Heap} (p : But4 z TO i1 i2 h1 h2) (q : But4 z TO i1 i2 h2 h3) : But4 z TO i1 i2 h1 h3 := fun c o a b d e g => q c o a b d e (p c o a b d e g)
theorem b4z (e : Heap.ExtBut z h h') : But4 z TO i1 i2 h h' := fun c o n _ _ _ g => e c o n g
theorem b4t (e : Heap.ExtBut TO h h') : But4 z TO i1 i2 h h' := fun c o _ n _ _ g => e c o n g
theorem b41 (e : Heap.ExtBut i1 h h') : But4 z TO i1 i2 h h' := fun c o _ _ n _ g => e c o n g
theorem b42 (e : Heap.ExtBut i2 h h') : But4 z TO i1 i2 h h' := fun c o _ _ _ n g => e c o n g
end
section
variable {P : Program} {w : World} {A : Around} {E : Value → Shared → Prop} {s : Shared} {b1 b2 : Bool} {z TI TO i1 i2 l1 l2 : Addr} {xs ys : Array Value} {x0 y0 x y : Value} {k1 k2 : Nat}
theorem zp_item {Q : Value → Shared → Prop} (D : ZipApart z TI TO i1 i2 l1 l2) (p : Zp b1 b2 z TI TO i1 i2 l1 l2 xs ys s.heap .none x0 y0 k1 k2) (ex : xs[k1]? = some x) (ey : ys[k2]? = some y)
    (k : ∀ h', Zp b1 b2 z TI TO i1 i2 l1 l2 xs ys h' (rawInt s.heap.objs.size) x y (k1 + 1) (k2 + 1) → IsPair h' s.heap.objs.size x y → h'.objs.size = s.heap.objs.size + 1 → But4 z TO i1 i2 s.heap h' → Q (.ref s.heap.objs.size) { s with heap := h' }) :
    wpAny (model P w) A (Builtin.«zip.__next__» ⟨[.ref z], []⟩) (fun f t => ∃ v, f = .done (.ret v) ∧ Q v t) E s := by
  show wpAny _ _ (field (.ref z) 2 >>= _) _ _ _
  refine wpAny_bind (wpAny_field p.hz rfl (x := .bool false) rfl ?_)
  show wpAny _ _ (field (.ref z) 3 >>= _) _ _ _
  refine wpAny_bind (wpAny_field p.hz rfl (x := .ref TI) rfl ?_)
  refine wpAny_bind (wpAny_seqItems p.ti rfl ?_)
  show wpAny _ _ (Builtin.SmallTypes.ownedTupleIsFree (.ref z) >>= _) _ _ _
  refine wpAny_bind ?_
  unfold Builtin.SmallTypes.ownedTupleIsFree
  refine wpAny_bind (wpAny_field p.hz rfl (x := .none) rfl (wpAny_pure ?_))
  simp only [if_true]
  refine wpAny_bind (wpAny_rule ?_)
  refine wpAny_bind (wpAny_field p.hz rfl (x := .ref TO) rfl ?_)
  refine wpAny_bind (wpAny_setField_rec p.hz (by simp) fun ha na sa => ?_)
  have pa := p.onZ D (f' := .ellipsis) na sa.extBut
  refine wpAny_bind ?_
  simp only [List.zipIdx_cons, List.zipIdx_nil, List.forIn_cons, List.forIn_nil]
  refine wpAny_bind (wpAny_bind (wpAny_onRaise ?_))
  show wpAny _ _ (Builtin.SmallTypes.nextOf (.ref i1) >>= _) _ _ _
  refine wpAny_bind (nxB_item (s := { s with heap := ha }) pa.j1 pa.q1 ex fun hb nb sb => wpAny_pure ?_)
  have pb := pa.on1 D nb sb.extBut
  refine wpAny_bind (wpAny_seqItems (s := { s with heap := hb }) pb.to rfl ?_)
  refine wpAny_bind (wpAny_updateSeq_pair (s := { s with heap := hb }) pb.to fun hc nc sc => ?_)
  have pc := pb.onTO D (x' := x) (y' := y0) nc sc.extBut
  refine wpAny_bind (wpAny_letGo (wpAny_pure ?_))
  refine wpAny_bind (wpAny_bind (wpAny_onRaise ?_))
  show wpAny _ _ (Builtin.SmallTypes.nextOf (.ref i2) >>= _) _ _ _
  refine wpAny_bind (nxB_item (s := { s with heap := hc }) pc.j2 pc.q2 ey fun hd nd sd => wpAny_pure ?_)
  have pd := pc.on2 D nd sd.extBut
  refine wpAny_bind (wpAny_seqItems (s := { s with heap := hd }) pd.to rfl ?_)
  refine wpAny_bind (wpAny_updateSeq_pair (s := { s with heap := hd }) pd.to fun he ne se => ?_)
  have pe := pd.onTO D (x' := x) (y' := y) ne se.extBut
  refine wpAny_bind (wpAny_letGo (wpAny_pure (wpAny_pure ?_)))
  have be : But4 z TO i1 i2 s.heap he := ((((b4z sa.extBut).tr (b41 sb.extBut)).tr (b4t sc.extBut)).tr (b42 sd.extBut)).tr (b4t se.extBut)
  have ze : he.objs.size = s.heap.objs.size := by
    have z1 := sa.1
    have z2 := sb.1
    have z3 := sc.1
    have z4 := sd.1
    have z5 := se.1
    dsimp only at z2 z3 z4 z5
    omega
  refine wpAny_bind (wpAny_seqItems (s := { s with heap := he }) pe.to rfl ?_)
  refine wpAny_bind (wpAny_newTuple ?_)
  show wpAny _ _ (Builtin.SmallTypes.ownedTupleHandOut (.ref z) (.ref he.objs.size) >>= _) _ _ _
  refine wpAny_bind ?_
  unfold Builtin.SmallTypes.ownedTupleHandOut
  have lz : z < he.objs.size := Heap.lt_size pe.hz
  have kf : Heap.ExtBut z he (he.push { cls := .type "tuple", data := .seq #[x, y] }) := fun c o _ g => Heap.get?_push_of_some _ g
  have pf := pe.onZ D (Heap.get?_push_of_some _ pe.hz) kf
  have tf : IsPair (he.push { cls := .type "tuple", data := .seq #[x, y] }) he.objs.size x y := Heap.get?_push_size _ rfl
  refine wpAny_bind (wpAny_setField_rec pf.hz (by simp) fun hg ng sg => ?_)
  have pg := pf.onZ D (f' := rawInt he.objs.size) ng sg.extBut
  refine wpAny_setField_rec (s := { s with heap := hg }) pg.hz (by simp) fun hi ni si => ?_
  have pi := pg.onZ D (f' := rawInt he.objs.size) ni si.extBut
  have ti := si.extBut _ _ (Nat.ne_of_gt lz) (sg.extBut _ _ (Nat.ne_of_gt lz) tf)
  have zi : hi.objs.size = he.objs.size + 1 := by rw [si.1, sg.1, Heap.size_push]
  rw [ze] at pi ti zi
  refine wpAny_pure ⟨_, rfl, ?_⟩
  show Q (.ref he.objs.size) _
  rw [ze]
  exact k hi pi ti zi (((be.tr (b4z kf)).tr (b4z sg.extBut)).tr (b4z si.extBut))
theorem zp_end {Q : Fin → Shared → Prop} (hh : A.handled = none) (D : ZipApart z TI TO i1 i2 l1 l2) (p : Zp b1 b2 z TI TO i1 i2 l1 l2 xs ys s.heap .none x0 y0 k1 k2) (no : xs[k1]? = none ∨ ys[k2]? = none)
    (k : ∀ h' x, But4 z TO i1 i2 s.heap h' → (∃ o, h'.get? x = some o ∧ o.cls = .type "StopIteration") → E (.ref x) { s with heap := h' }) :
    wpAny (model P w) A (Builtin.«zip.__next__» ⟨[.ref z], []⟩) Q E s := by
  show wpAny _ _ (field (.ref z) 2 >>= _) _ _ _
  refine wpAny_bind (wpAny_field p.hz rfl (x := .bool false) rfl ?_)
  show wpAny _ _ (field (.ref z) 3 >>= _) _ _ _
  refine wpAny_bind (wpAny_field p.hz rfl (x := .ref TI) rfl ?_)
  refine wpAny_bind (wpAny_seqItems p.ti rfl ?_)
  show wpAny _ _ (Builtin.SmallTypes.ownedTupleIsFree (.ref z) >>= _) _ _ _
  refine wpAny_bind ?_
  unfold Builtin.SmallTypes.ownedTupleIsFree
  refine wpAny_bind (wpAny_field p.hz rfl (x := .none) rfl (wpAny_pure ?_))
  simp only [if_true]
  refine wpAny_bind (wpAny_rule ?_)
  refine wpAny_bind (wpAny_field p.hz rfl (x := .ref TO) rfl ?_)
  refine wpAny_bind (wpAny_setField_rec p.hz (by simp) fun ha na sa => ?_)
  have pa := p.onZ D (f' := .ellipsis) na sa.extBut
  have fin : ∀ h1 x, But4 z TO i1 i2 s.heap h1 → IsZip h1 z TI TO .ellipsis → (∃ o, h1.get? x = some o ∧ o.cls = .type "StopIteration") →
      wpAny (model P w) A (setField (.ref z) 0 .none) (fun _ t => E (.ref x) t) E { s with heap := h1 } := fun h1 x b4 hz he => by
    obtain ⟨o, ho, hc⟩ := he
    have ne : x ≠ z := fun e => by
      subst e
      rw [hz] at ho
      cases ho
      simp at hc
    exact wpAny_setField_rec (s := { s with heap := h1 }) hz (by simp) fun h2 _ s2 => k h2 x (b4.tr (b4z s2.extBut)) ⟨o, s2.extBut _ _ ne ho, hc⟩
  refine wpAny_bind ?_
  simp only [List.zipIdx_cons, List.zipIdx_nil, List.forIn_cons, List.forIn_nil]
  refine wpAny_bind (wpAny_bind (wpAny_onRaise ?_))
  show wpAny _ _ (Builtin.SmallTypes.nextOf (.ref i1) >>= _) _ _ _
  cases ex : xs[k1]? with
  | none => exact wpAny_bind (nxB_end (s := { s with heap := ha }) hh pa.j1 pa.q1 ex fun hb x eb he => fin hb x ((b4z sa.extBut).tr (b41 eb)) (eb _ _ D.i1z.symm pa.hz) he)
  | some x =>
    have ey : ys[k2]? = none := no.resolve_left (by rw [ex]; simp)
    refine wpAny_bind (nxB_item (s := { s with heap := ha }) pa.j1 pa.q1 ex fun hb nb sb => wpAny_pure ?_)
    have pb := pa.on1 D nb sb.extBut
    refine wpAny_bind (wpAny_seqItems (s := { s with heap := hb }) pb.to rfl ?_)
    refine wpAny_bind (wpAny_updateSeq_pair (s := { s with heap := hb }) pb.to fun hc nc sc => ?_)
    have pc := pb.onTO D (x' := x) (y' := y0) nc sc.extBut
    refine wpAny_bind (wpAny_letGo (wpAny_pure ?_))
    refine wpAny_bind (wpAny_bind (wpAny_onRaise ?_))
    show wpAny _ _ (Builtin.SmallTypes.nextOf (.ref i2) >>= _) _ _ _
    exact wpAny_bind (nxB_end (s := { s with heap := hc }) hh pc.j2 pc.q2 ey fun hd u ed he => fin hd u ((((b4z sa.extBut).tr (b41 sb.extBut)).tr (b4t sc.extBut)).tr (b42 ed)) (ed _ _ D.i2z.symm pc.hz) he)
theorem pn_item {Q : Option Value → Shared → Prop} (D : ZipApart z TI TO i1 i2 l1 l2) (p : Zp b1 b2 z TI TO i1 i2 l1 l2 xs ys s.heap .none x0 y0 k1 k2) (ex : xs[k1]? = some x) (ey : ys[k2]? = some y)
    (k : ∀ h', Zp b1 b2 z TI TO i1 i2 l1 l2 xs ys h' (rawInt s.heap.objs.size) x y (k1 + 1) (k2 + 1) → IsPair h' s.heap.objs.size x y → h'.objs.size = s.heap.objs.size + 1 → But4 z TO i1 i2 s.heap h' → Q (some (.ref s.heap.objs.size)) { s with heap := h' }) :
    wpAny (model P w) A (pyNext (.ref z)) Q E s := by
  have t : s.TypeIs (.ref z) "zip" := ⟨_, p.hz, rfl⟩
  unfold pyNext
  refine wpAny_bind (wpAny_attempt (wpAny_callSpecial?_slot (name := Str.ofString "__next__") t F.slot_zip_next (wpAny_call_entry F.slot_zip_next t F.entry_zip_next ?_ (F.args_zip_next_1 _))))
  exact zp_item D p ex ey fun h' a b c d => wpAny_pure (k h' a b c d)
theorem pn_end {Q : Option Value → Shared → Prop} (hh : A.handled = none) (D : ZipApart z TI TO i1 i2 l1 l2) (p : Zp b1 b2 z TI TO i1 i2 l1 l2 xs ys s.heap .none x0 y0 k1 k2) (no : xs[k1]? = none ∨ ys[k2]? = none)
    (k : ∀ h', But4 z TO i1 i2 s.heap h' → Q none { s with heap := h' }) : wpAny (model P w) A (pyNext (.ref z)) Q E s := by
  have t : s.TypeIs (.ref z) "zip" := ⟨_, p.hz, rfl⟩
  unfold pyNext
  refine wpAny_bind (wpAny_attempt (wpAny_callSpecial?_slot (name := Str.ofString "__next__") t F.slot_zip_next (wpAny_call_entry F.slot_zip_next t F.entry_zip_next ?_ (F.args_zip_next_1 _))))
  refine zp_end hh D p no fun h' x b4 ⟨o, ho, hc⟩ => ?_
  refine wpAny_bind (wpAny_isInstance (T := "StopIteration") (b := true) ⟨o, ho, hc⟩ isSubtype_stop ?_)
  exact wpAny_pure (k _ b4)
end
end VL

namespace VL
open PySem PySem.Spec PyProof.Rows L2 RZ
def SqV (b : Bool) (K : PySem.W.Frag) (H : Hp) (a : Addr) (xs : List V) : Prop := match b with
  | false => SqL K H a xs
  | true => SqT K H a xs
/-- a zip's turns: a fresh pair from both sides -/
def Itm (b1 b2 : Bool) (K : PySem.W.Frag) (a b : Addr) : It where
  go := fun i H => ∃ us ws u v, (SqV b1 K H a us ∧ SqV b2 K H b ws) ∧ us[i]? = some u ∧ ws[i]? = some v
  yld := fun i H r H' => ∃ T u v, r = V.ref T ∧ H T = none ∧ H' = upd H T (.tup [u, v]) ∧ (∀ us, SqV b1 K H a us → us[i]? = some u) ∧ (∀ ws, SqV b2 K H b ws → ws[i]? = some v)
  stop := fun i H => ∃ us ws, (SqV b1 K H a us ∧ SqV b2 K H b ws) ∧ (us.length ≤ i ∨ ws.length ≤ i)
section
variable {X : Cx} {pins : List (Addr × Obj)} {σ : L2.St} {H : Hp} {s : Shared} {b b1 b2 : Bool} {a c : Addr} {us ws : List V}
theorem sqv_items (I : Inv X pins σ H s) (q : SqV b X.K H a us) : ∃ its : List Value, Vals us its ∧ SqB b s.heap a its.toArray := by
  cases b
  · obtain ⟨its, r, p, _⟩ := I.list q
    exact ⟨its, r, p.isList⟩
  · obtain ⟨its, r, p, _⟩ := I.tuple q
    exact ⟨its, r, p⟩
theorem sqv_inj (I : Inv X pins σ H s) (q : SqV b X.K H a us) (q' : SqV b X.K H a ws) : us = ws := by
  cases b
  · exact I.list_inj q q'
  · exact I.tuple_inj q q'
end
theorem walk_m {b1 b2 : Bool} {K : PySem.W.Frag} {a b : Addr} {us ws : List V} {n : Nat} (hn : n = min us.length ws.length) : Walk (Itm b1 b2 K a b) n (fun H => SqV b1 K H a us ∧ SqV b2 K H b ws) (YPair (fun i => us[i]?) (fun i => ws[i]?)) where
  goes := fun i H hi q => ⟨us, ws, us[i]'(by omega), ws[i]'(by omega), q, List.getElem?_eq_getElem (by omega), List.getElem?_eq_getElem (by omega)⟩
  stops := fun H q => ⟨us, ws, q, by omega⟩
  yields := fun i H r H' _ q ⟨T, u, v, e1, e2, e3, e4, e5⟩ => ⟨T, u, v, e1, e2, e3, e4 us q.1, e5 ws q.2⟩
theorem turn_m {P : Program} {w : World} {K : PySem.W.Frag} {el : List Expr} {kk : Nat} {tp : Pos} {b1 b2 : Bool} {a b z TI TO i1 i2 : Addr} (D : ZipApart z TI TO i1 i2 a b) :
    Turn P w K (.Tuple el kk tp) (Itm b1 b2 K a b) [z, TI, TO, i1, i2] z (fun i h => IsZip h z TI TO .none ∧ IsPair h TI (.ref i1) (.ref i2) ∧ (∃ x y, IsPair h TO x y) ∧ ItB b1 h i1 a i ∧ ItB b2 h i2 b i) where
  mem := List.mem_cons_self ..
  obj := fun i h st c hc => by
    obtain ⟨hz, hti, ⟨x, y, hto⟩, j1, j2⟩ := st
    have it : ∀ {bb it l i}, ItB bb h it l i → ∃ o, h.get? it = some o ∧ ∀ v, o.data ≠ .cell v := fun {bb it l i} q => by
      cases bb
      · obtain ⟨o, e, _, d⟩ := q
        exact ⟨o, e, fun v n => by rw [d] at n; cases n⟩
      · obtain ⟨o, e, _, d⟩ := q
        exact ⟨o, e, fun v n => by rw [d] at n; cases n⟩
    simp only [List.mem_cons, List.not_mem_nil, or_false] at hc
    rcases hc with rfl | rfl | rfl | rfl | rfl
    · exact ⟨_, hz, nofun⟩
    · exact ⟨_, hti, nofun⟩
    · exact ⟨_, hto, nofun⟩
    · exact it j1
    · exact it j2
  keep := fun i h h' ⟨hz, hti, ⟨x, y, hto⟩, j1, j2⟩ k => by
    simp only [List.forall_mem_cons] at k
    exact ⟨k.1 _ hz, k.2.1 _ hti, ⟨x, y, k.2.2.1 _ hto⟩, j1.at k.2.2.2.1, j2.at k.2.2.2.2.1⟩
  item := by
    intro X hP hw hK hc i pins s σ H E I hf ⟨hz, hti, ⟨x0, y0, hto⟩, j1, j2⟩ hg
    subst hP hw hK
    obtain ⟨us, ws, u, v, ⟨q1, q2⟩, eu, ev⟩ := hg
    obtain ⟨is1, r1, p1⟩ := sqv_items I q1
    obtain ⟨is2, r2, p2⟩ := sqv_items I q2
    obtain ⟨x, ex, rx⟩ := r1.get eu
    obtain ⟨y, ey, ry⟩ := r2.get ev
    have lz : z < s.heap.objs.size := Heap.lt_size hz
    refine pn_item D ⟨hz, hti, hto, j1, j2, p1, p2⟩ (x := x) (y := y) (by simpa using ex) (by simpa using ey) fun h1 zp tz _ b4 => ?_
    refine ⟨_, rfl, wpAny_letOwnedTupleGo_zip (s := { s with heap := h1 }) zp.hz fun h2 z2 sb => ?_⟩
    have zq := zp.onZ D z2 sb.extBut
    have t2 : h2.get? s.heap.objs.size = some { cls := .type "tuple", data := .seq #[x, y] } := (sb.2 _ (Nat.ne_of_gt lz)).trans tz
    have new : ObjOk X.prog X.w (upd H s.heap.objs.size (.tup [u, v])) h2 s.heap.objs.size (.tup [u, v]) :=
      ⟨by show 2 ≤ sizeLine; decide, [x, y], .cons rx (.cons ry .nil), ⟨_, t2, rfl, _, rfl⟩⟩
    have I2 : Inv X pins σ (upd H s.heap.objs.size (.tup [u, v])) { s with heap := h2 } :=
      I.turnedNew (t' := s.toks) (ch := [z, TI, TO, i1, i2]) (fun c o hb q => by
        simp only [List.mem_cons, List.not_mem_nil, or_false, not_or] at hb
        exact (sb.2 c hb.1).trans (b4 c o hb.1 hb.2.2.1 hb.2.2.2.1 hb.2.2.2.2 q)) hf (Nat.le_refl _) new
    refine ⟨.ref s.heap.objs.size, _, I2, rfl, ⟨_, u, v, rfl, I.hok.fresh (Nat.le_refl _), rfl, fun l hl => by rw [sqv_inj I hl q1]; exact eu, fun l hl => by rw [sqv_inj I hl q2]; exact ev⟩,
      ⟨z2, zq.ti, ⟨x, y, zq.to⟩, zq.j1, zq.j2⟩, fun c hc => ?_⟩
    have lc : c < s.heap.objs.size := by
      have l1 : i1 < s.heap.objs.size := (fun ⟨_, e⟩ => Heap.lt_size e) j1.live
      have l2 : i2 < s.heap.objs.size := (fun ⟨_, e⟩ => Heap.lt_size e) j2.live
      simp only [List.mem_cons, List.not_mem_nil, or_false] at hc
      rcases hc with rfl | rfl | rfl | rfl | rfl
      · exact lz
      · exact Heap.lt_size hti
      · exact Heap.lt_size hto
      · exact l1
      · exact l2
    rw [upd_ne (Nat.ne_of_lt lc)]
    exact (hf c hc).1
  done := by
    intro X hP hw hK hc i pins s σ H E I hf ⟨hz, hti, ⟨x0, y0, hto⟩, j1, j2⟩ hg
    subst hP hw hK
    obtain ⟨us, ws, ⟨q1, q2⟩, no⟩ := hg
    obtain ⟨is1, r1, p1⟩ := sqv_items I q1
    obtain ⟨is2, r2, p2⟩ := sqv_items I q2
    have n1 := r1.length
    have n2 := r2.length
    refine pn_end (I.ok.hd hc) D ⟨hz, hti, hto, j1, j2, p1, p2⟩ (no.imp (fun q => by simp; omega) fun q => by simp; omega) fun h1 b4 => ⟨rfl, I.turnedL (t' := s.toks) (ch := [z, TI, TO, i1, i2]) (fun c o hb q => ?_) hf⟩
    simp only [List.mem_cons, List.not_mem_nil, or_false, not_or] at hb
    exact b4 c o hb.1 hb.2.2.1 hb.2.2.2.1 hb.2.2.2.2 q
  self := fun A i s Q E st h => wpAny_pyIter_zip st.1 h
/-! the call -/
def itN : Bool → String
  | false => "list_iterator"
  | true => "tuple_iterator"
def itO (b : Bool) (l : Addr) : Obj := { cls := .type (itN b), data := .fields #[.ref l, .int 0 0] }
def twO (x y : Value) : Obj := { cls := .type "tuple", data := .seq #[x, y] }
def zipO (x y : Addr) : Obj := { cls := .type "zip", data := .fields #[.none, .bool false, .bool false, .ref x, .ref y] }
section
variable {P : Program} {w : World} {A : Around} {E : Value → Shared → Prop} {s : Shared}
theorem iterB {b : Bool} {l : Addr} {xs : Array Value} {Q : Value → Shared → Prop} (q : SqB b s.heap l xs) (k : Q (.ref s.heap.objs.size) { s with heap := s.heap.push (itO b l) }) : wpAny (model P w) A (pyIter (.ref l)) Q E s := by
  cases b
  · exact wpAny_pyIter_list q k
  · exact wpAny_pyIter_tuple q k
end
theorem SqB.push {b : Bool} {h : Heap} {l : Addr} {xs : Array Value} (q : SqB b h l xs) (o : Obj) : SqB b (h.push o) l xs := q.at fun _ e => Heap.get?_push_of_some _ e
def zh1 (b1 : Bool) (h : Heap) (l1 : Addr) : Heap := h.push (itO b1 l1)
def zh2 (b1 b2 : Bool) (h : Heap) (l1 l2 : Addr) : Heap := (zh1 b1 h l1).push (itO b2 l2)
def zh3 (b1 b2 : Bool) (h : Heap) (l1 l2 : Addr) : Heap := (zh2 b1 b2 h l1 l2).push (twO (.ref h.objs.size) (.ref (zh1 b1 h l1).objs.size))
def zh4 (b1 b2 : Bool) (h : Heap) (l1 l2 : Addr) : Heap := (zh3 b1 b2 h l1 l2).push (twO .none .none)
def zh5 (b1 b2 : Bool) (h : Heap) (l1 l2 : Addr) : Heap := (zh4 b1 b2 h l1 l2).push (zipO (zh2 b1 b2 h l1 l2).objs.size (zh3 b1 b2 h l1 l2).objs.size)
theorem zip_makes (b1 b2 : Bool) (l1 l2 : Addr) (xs ys : Array Value) :
    Meets (Builtin.«zip.__new__» ⟨[.type "zip", .ref l1, .ref l2], []⟩) (fun _ R s => (SqB b1 s.heap l1 xs ∧ SqB b2 s.heap l2 ys) ∧ R (.ok (.ret (.ref (zh4 b1 b2 s.heap l1 l2).objs.size))) { s with heap := zh5 b1 b2 s.heap l1 l2 }) :=
  .of_wp fun prog w A R s ⟨⟨p1, p2⟩, k⟩ => by
    obtain ⟨hp, g, d, tk, os⟩ := s
    have e1 : SqB b1 (Shared.heap ⟨hp, g, d, tk, os⟩) l1 xs := p1
    have e2 : SqB b2 (Shared.heap ⟨hp.push (itO b1 l1), g, d, tk, os⟩) l2 ys := SqB.push p2 _
    have hsub := sub_zip
    wp_walk using iterB e1, iterB e2
    exact ⟨_, rfl, k⟩
section
variable {P : Program} {w : World} {A : Around} {E : Value → Shared → Prop} {s : Shared}
theorem zip_call {b1 b2 : Bool} {l1 l2 : Addr} {xs ys : Array Value} {Q : Value → Shared → Prop} (p1 : SqB b1 s.heap l1 xs) (p2 : SqB b2 s.heap l2 ys)
    (k : ∀ h' n, n = s.heap.objs.size → IsZip h' (n + 4) (n + 2) (n + 3) .none → IsPair h' (n + 2) (.ref n) (.ref (n + 1)) → IsPair h' (n + 3) .none .none → ItB b1 h' n l1 0 → ItB b2 h' (n + 1) l2 0 →
      (∀ c o, s.heap.get? c = some o → h'.get? c = some o) → Q (.ref (n + 4)) { s with heap := h' }) : wpAny (model P w) A (call (.type "zip") [.ref l1, .ref l2]) Q E s := by
  refine callType_new F.called_zip (by decide) (F.typeCall_zip_2 _ _) (F.newCall_zip_2 _ _) (fun o => F.args_object_init_3 o _ _) F.entry_zip_new (zip_makes b1 b2 l1 l2 xs ys) ⟨⟨p1, p2⟩, ?_⟩
  obtain ⟨hp, g, d, tk, os⟩ := s
  dsimp only at k ⊢
  have z1 : (zh1 b1 hp l1).objs.size = hp.objs.size + 1 := Heap.size_push ..
  have z2 : (zh2 b1 b2 hp l1 l2).objs.size = hp.objs.size + 2 := (Heap.size_push ..).trans (by rw [z1])
  have z3 : (zh3 b1 b2 hp l1 l2).objs.size = hp.objs.size + 3 := (Heap.size_push ..).trans (by rw [z2])
  have z4 : (zh4 b1 b2 hp l1 l2).objs.size = hp.objs.size + 4 := (Heap.size_push ..).trans (by rw [z3])
  have up : ∀ {h : Heap} {c o o'}, h.get? c = some o → (h.push o').get? c = some o := fun e => Heap.get?_push_of_some _ e
  have c0 : ItB b1 (zh1 b1 hp l1) hp.objs.size l1 0 := by cases b1 <;> exact ⟨_, Heap.get?_push_size _ rfl, rfl, rfl⟩
  have c1 : ItB b2 (zh2 b1 b2 hp l1 l2) (zh1 b1 hp l1).objs.size l2 0 := by cases b2 <;> exact ⟨_, Heap.get?_push_size _ rfl, rfl, rfl⟩
  have c2 : (zh3 b1 b2 hp l1 l2).get? (zh2 b1 b2 hp l1 l2).objs.size = some (twO (.ref hp.objs.size) (.ref (zh1 b1 hp l1).objs.size)) := Heap.get?_push_size _ rfl
  have c3 : (zh4 b1 b2 hp l1 l2).get? (zh3 b1 b2 hp l1 l2).objs.size = some (twO .none .none) := Heap.get?_push_size _ rfl
  have c4 : (zh5 b1 b2 hp l1 l2).get? (zh4 b1 b2 hp l1 l2).objs.size = some (zipO (zh2 b1 b2 hp l1 l2).objs.size (zh3 b1 b2 hp l1 l2).objs.size) := Heap.get?_push_size _ rfl
  rw [z1] at c1 c2
  rw [z2] at c2 c4
  rw [z3] at c3 c4
  rw [z4] at c4 ⊢
  exact ⟨⟨_, c4, rfl⟩, k _ hp.objs.size rfl c4 (up (up c2)) (up c3) (c0.at fun o e => up (up (up (up e)))) (c1.at fun o e => up (up (up e))) fun c o e => up (up (up (up (up e))))⟩
end
/-! zip in a loop's head -/
def iZipM (K : PySem.W.Frag) (ta : TA) : TI := fun σ H R => ta σ H fun vs H1 => ∃ b1 b2 a b us ws, vs = [V.ref a, V.ref b] ∧ SqV b1 K H1 a us ∧ SqV b2 K H1 b ws ∧ R (Itm b1 b2 K a b) H1
theorem pi_zipM {X : Cx} {e e' : Expr} {ta : TA} {p pos tp : Pos} {el : List Expr} {kk : Nat} (hg : Gl X "zip") (hm : X.mg "zip" = none) (ha : PA X [e, e'] ta)
    (st : starEach [e, e'] X.env = (false, eval e X.env) :: starEach [e'] X.env := by rfl) (pl : (backTo pos (starEach [e'] X.env)).any (·.1) = false := by rfl) :
    PI X (.Tuple el kk tp) (.Call (.Name "zip" p) [e, e'] [] pos) (iZipM X.K ta) where
  run := fun pins s σ H R I h => by
    refine Call_ (ld_blt I hg hm boot_zip (callWith_type1 (thn (ha.run pos pins s σ H _ I h) fun us s1 ⟨vs, H1, I1, r1, q1⟩ => ?_) st pl))
    obtain ⟨b1, b2, a, b, x1, x2, rfl, g1, g2, q⟩ := q1
    obtain ⟨u1, t1, rfl, ru, r1⟩ : ∃ u t, us = u :: t ∧ RelV (.ref a) u ∧ Vals [.ref b] t := by cases r1 with | cons r rr => exact ⟨_, _, rfl, r, rr⟩
    obtain ⟨u2, rfl, ru2⟩ := vals1 r1
    cases ru
    cases ru2
    obtain ⟨is1, _, p1⟩ := sqv_items I1 g1
    obtain ⟨is2, _, p2⟩ := sqv_items I1 g2
    have la : a < s1.heap.objs.size := (fun ⟨_, e⟩ => Heap.lt_size e) p1.live
    have lb : b < s1.heap.objs.size := (fun ⟨_, e⟩ => Heap.lt_size e) p2.live
    refine zip_call p1 p2 fun h' n en hz hti hto j1 j2 kp => wpAny_pyIter_zip hz ?_
    subst en
    have I2 : Inv X pins σ H1 { s1 with heap := h' } := I1.kept (t' := s1.toks) kp
    refine ⟨_, [_ + 4, _ + 2, _ + 3, _, _ + 1], _, _, H1, rfl, I2, turn_m (zipApart_new la lb), ⟨hz, hti, ⟨_, _, hto⟩, j1, j2⟩, fun c hc => ?_, q⟩
    have ge : s1.heap.objs.size ≤ c := by
      simp only [List.mem_cons, List.not_mem_nil, or_false] at hc
      rcases hc with rfl | rfl | rfl | rfl | rfl
      · exact Nat.le_add_right _ 4
      · exact Nat.le_add_right _ 2
      · exact Nat.le_add_right _ 3
      · exact Nat.le_refl _
      · exact Nat.le_add_right _ 1
    exact I1.fpOk ge (I1.hok.fresh ge)
def zipMIt : List D → M (List D)
  | [.lst xs, .lst ys] => ret (pairL xs ys)
  | [.lst xs, .tup ys] => ret (pairL xs ys)
  | [.tup xs, .lst ys] => ret (pairL xs ys)
  | [.tup xs, .tup ys] => ret (pairL xs ys)
  | _ => fail
def sqD (b : Bool) (xs : List D) : D := if b then .tup xs else .lst xs
section
variable {X : Cx} {cl : Cn} {K : PySem.W.Frag} {F : Hp} {m : List Addr} {H : Hp} {vh : VH} {tg : Expr}
theorem rep_sq {b : Bool} {v : V} {xs : List D} (r : Rep cl F m v (sqD b xs)) (w : Wd cl F m vh H) : ∃ a us, v = .ref a ∧ SqV b K H a us ∧ Reps cl F m us xs ∧ ∀ {F2 m2 vh2 H2}, Post F m H F2 m2 H2 → Wd cl F2 m2 vh2 H2 → SqV b K H2 a us := by
  cases b
  · obtain ⟨a, us, rfl, e, rs⟩ := rep_lst r
    exact ⟨a, us, rfl, w.sqL e, rs, fun g w2 => w2.sqL (g.gr.ext _ _ e)⟩
  · obtain ⟨a, us, rfl, e, rs⟩ := rep_tup r
    exact ⟨a, us, rfl, w.sqT e, rs, fun g w2 => w2.sqT (g.gr.ext _ _ e)⟩
theorem zipM_cases {ds : List D} {z : List D × VH} (q : zipMIt ds vh = some z) : ∃ b1 b2 xs ys, ds = [sqD b1 xs, sqD b2 ys] ∧ z = (pairL xs ys, vh) := by
  unfold zipMIt at q
  split at q
  · exact ⟨false, false, _, _, rfl, (Option.some.inj q).symm⟩
  · exact ⟨false, true, _, _, rfl, (Option.some.inj q).symm⟩
  · exact ⟨true, false, _, _, rfl, (Option.some.inj q).symm⟩
  · exact ⟨true, true, _, _, rfl, (Option.some.inj q).symm⟩
  · cases q
theorem zipM_eq (b1 b2 : Bool) (xs ys : List D) : zipMIt [sqD b1 xs, sqD b2 ys] = ret (pairL xs ys) := by cases b1 <;> cases b2 <;> rfl
theorem di_zipM {a b : Expr} {p pos tp : Pos} {el : List Expr} {kk : Nat} {fs : Rho → M (List D)} (ha : DA cl X [a, b] fs) (hg : Gl X "zip") (hm : X.mg "zip" = none)
    (st : starEach [a, b] X.env = (false, eval a X.env) :: starEach [b] X.env := by rfl) (pl : (backTo pos (starEach [b] X.env)).any (·.1) = false := by rfl) :
    DI cl X (.Tuple el kk tp) (.Call (.Name "zip" p) [a, b] [] pos) (fun ρ => bind (fs ρ) zipMIt) :=
  PIw (pi_zipM hg hm ha st pl) fun σ H R ⟨F, m, vh, ρ, w, r, q⟩ => tDs_bind w r q fun F1 m1 vh1 H1 as vs w1 r1 g1 rvs q1 => by
    cases e0 : zipMIt as vh1 with
    | none =>
      unfold Run at q1
      rw [e0] at q1
      exact False.elim q1
    | some z =>
      obtain ⟨b1, b2, xs, ys, rfl, rfl⟩ := zipM_cases e0
      rw [zipM_eq] at q1
      obtain ⟨v, u, rfl, rv, ru⟩ := reps2 rvs
      obtain ⟨a, us, rfl, ea, rs, ka⟩ := rep_sq (K := X.K) rv w1
      obtain ⟨b, ws, rfl, eb, rs', kb⟩ := rep_sq (K := X.K) ru w1
      exact ⟨b1, b2, a, b, us, ws, rfl, ea, eb, Run.ret q1 w1 _ (itOk_pair rfl (walk_m (us := us) (ws := ws) (by rw [rs.length, rs'.length])) (fun F2 m2 vh2 H2 g w => ⟨ka g w, kb g w⟩) (fun i v e _ => rs.get' e) fun i v e _ => rs'.get' e)⟩
end
/-! a def asked beyond its depth: it promises nothing -/
section
variable {P : Program} {w : World} {K : PySem.W.Frag} {mg : Str → Option Value} {base : Heap} {cl : Cn}
theorem fn_none {f : Addr} {fd : FuncData} {ps : List Str} {k : Nat} : FnOk P w K mg base CX0 k f fd ps (spD cl ps.length fun _ => fail) where
  len := fun vs H Q E ⟨_, _, _, _, e, _⟩ => e
  run := fun A outer s H args us vs Q E _ _ _ _ ⟨_, _, _, _, _, _, _, q⟩ => False.elim q
end
end VL

namespace VL
open PySem PySem.Spec PyProof.Rows L2
section
variable {X : Cx} {cl : Cn} {kx vx tg iter : Expr} {ifs : List Expr} {scope : Scope} {own : List (Str × Nat)} {pos : Pos} {f : Rho → M (List D)} {S : List Nat} {g : Tg} {t : Rho → M Bool} {e ek : Rho → M D}
theorem swD {gs : List Comprehension} {scope : Scope} {pos py : Pos} {y : Str} {l : Nat} {env : Env} (hk : env.scope.kind = .function) (hy : env.scope.names.lookup y = some .local) (hl : (py.line == pos.line) = true)
    (no : (scope.names.any fun (n, k) => n == y && (k == .local || k == .cell)) = false) : swapsWith (.DictComp kx vx gs scope pos) (some (.Name y py)) l env = pure true := by
  have k1 : env.kindOf y = some .local := hy
  have k2 : env.blockKind = .function := by
    unfold Env.blockKind
    rw [hk]
    rfl
  unfold swapsWith
  simp only [k2, k1, no, Expr.pos, hl]
  rfl
/-- x = {k: v for ..}, x a name of the def alone -/
theorem psDc {i : Nat} {y : Str} {py sp : Pos} {wi : TI} {tgg : TG} {tt : TT} {tk tv : TE} (hc : X.calm = true) (hN : X.N.Nodup) (hy : X.N[i]? = some y) (hyl : X.env.scope.names.lookup y = some .local)
    (sw : swapsWith (.DictComp kx vx [⟨tg, iter, ifs, 0⟩] scope pos) (some (.Name y py)) sp.line X.env = pure true) (hi : PI X tg iter wi) (ok : BlkOk X.N X.env.scope scope own)
    (hg : ∀ (s : Shared) (H : Hp) (C : Addr) (cL : List (Str × Addr)) (fp : List Addr), PG (X.blk s H scope (compEnvC scope cL C X.env) fp) tg tgg)
    (ht : ∀ (s : Shared) (H : Hp) (C : Addr) (cL : List (Str × Addr)) (fp : List Addr), PTs (X.blk s H scope (compEnvC scope cL C X.env) fp) ifs tt)
    (hk : ∀ (s : Shared) (H : Hp) (C : Addr) (cL : List (Str × Addr)) (fp : List Addr), PE (X.blk s H scope (compEnvC scope cL C X.env) fp) kx tk)
    (he : ∀ (s : Shared) (H : Hp) (C : Addr) (cL : List (Str × Addr)) (fp : List Addr), PE (X.blk s H scope (compEnvC scope cL C X.env) fp) vx tv) (hs : ∀ x, foldedSetIterable iter X.env x = pure x := by intro _; rfl) :
    PS X (.Assign [.Name y py] (.DictComp kx vx [⟨tg, iter, ifs, 0⟩] scope pos) sp) (tAsg (tDc wi tgg tt tk tv (own.map (·.2))) (gName i)) where
  run := fun pins s σ H D I h => by
    have h : tDc wi tgg tt tk tv (own.map (·.2)) σ H (fun x H1 => gName i x σ H1 D.nx) := h
    rw [exec_Assign_Name_used _ _ _ _ sw]
    refine wpAny_bind (wpAny_standAt (wpAny_bind ?_))
    change wpAny _ X.A (comprehension (.DictComp kx vx [⟨tg, iter, ifs, 0⟩] scope pos) scope X.env (firstIterPos [⟨tg, iter, ifs, 0⟩] pos) newDict false (eval iter X.env) (some (assign (.Name y py) X.env)) >>= fun _ => pure ()) _ _ s
    refine wpAny_bind (thn (dc_core (use := some (assign (.Name y py) X.env)) (pos' := firstIterPos [⟨tg, iter, ifs, 0⟩] pos) (Qf := fun _ s' => SP X pins D .next s') hc hN I hi ok hg ht hk he hs h fun L C s' m H' I' q hn fp => ?_) fun _ s' z => wpAny_pure (wpAny_pure z))
    obtain ⟨p0, p1, p2, p3, p4, p5⟩ := fp
    show wpAny _ _ (assign (.Name y py) X.env (.ref L)) _ _ _
    refine wpAny_assign_Name (store_ok2 (v := V.ref L) I' hN hy (.inl hyl) rfl (fun s2 I2 ⟨a, sb, ha⟩ => ?_) (.inr hyl))
    have ne : C ≠ a := ha.elim (fun z => by rw [z]; exact p1) fun z k => p4 y a z k.symm
    exact ⟨m, hn.sameBut sb ne, fun h3 s3 => ⟨_, H', I2.turned (t' := s2.toks) (fun b o hb k => (s3.2 b hb).trans k) p0 p1 p3 p4 p5, q⟩⟩
theorem ds_setDc {i : Nat} {y : Str} {py sp : Pos} (hc : X.calm = true) (hN : X.N.Nodup) (hy : X.N[i]? = some y) (hyl : X.env.scope.names.lookup y = some .local)
    (sw : swapsWith (.DictComp kx vx [⟨tg, iter, ifs, 0⟩] scope pos) (some (.Name y py)) sp.line X.env = pure true) (hi : DI cl X tg iter f) (ok : BlkOk X.N X.env.scope scope own)
    (hg : ∀ (s : Shared) (H : Hp) (C : Addr) (cL : List (Str × Addr)) (fp : List Addr), DG cl (X.blk s H scope (compEnvC scope cL C X.env) fp) tg S g)
    (ht : ∀ (s : Shared) (H : Hp) (C : Addr) (cL : List (Str × Addr)) (fp : List Addr), PTs (X.blk s H scope (compEnvC scope cL C X.env) fp) ifs (tT cl t))
    (hk : ∀ (s : Shared) (H : Hp) (C : Addr) (cL : List (Str × Addr)) (fp : List Addr), DE cl (X.blk s H scope (compEnvC scope cL C X.env) fp) kx ek)
    (he : ∀ (s : Shared) (H : Hp) (C : Addr) (cL : List (Str × Addr)) (fp : List Addr), DE cl (X.blk s H scope (compEnvC scope cL C X.env) fp) vx e)
    (hS : ∀ i, i ∈ S → i ∈ own.map (·.2) := by decide) (hs : ∀ x, foldedSetIterable iter X.env x = pure x := by intro _; rfl) :
    DS cl X (.Assign [.Name y py] (.DictComp kx vx [⟨tg, iter, ifs, 0⟩] scope pos) sp) (asgS (dcD f g t ek e (own.map (·.2)) stillD) (nameG i)) :=
  PSw (psDc (i := i) hc hN hy hyl sw hi ok hg ht hk he hs) fun D σ H ⟨F, m, vh, ρ, w, r, q⟩ => by
    refine tDcD hS ⟨F, m, vh, ρ, w, r, (Run.bind q).mono fun F1 m1 vh1 H1 a p w1 q1 v rv => ?_⟩ fun q w r hp => runNewDct q w r hp
    exact Run.ret q1 w1 _ ((r.mono p.gr).set rv i)
end
/-- a comprehension's own names within another's -/
def relS (scope sc : Scope) : Scope := { scope with names := scope.names.map fun (n, k) => if (k == .free && sc.kind == .function && sc.names.lookup n == some .cell) then (n, .cell) else (n, k) }
theorem relS_eq (scope : Scope) (env : Env) : relabel scope env = relS scope env.scope := rfl
end VL

namespace VL
open PySem PySem.Spec PyProof.Rows L2
/-! ### the script: a frozen list, or a list that the module itself has written -/
def scrK (ns : List Int) (as : List D) : M D := fun vh => match as with
  | [.cls 99] => new (.lst (ns.map D.int)) vh
  | _ => none
/-- L is what list(..) does to the script -/
def ListOk (cl : Cn) (K : PySem.W.Frag) (L : List D → M D) : Prop := ∀ X : Cx, X.K = K → CallR X (.type "list") (rDs cl L)
theorem listOk_M {cl : Cn} {K : PySem.W.Frag} : ListOk cl K listMD := fun X _ => cr_listM
theorem sqK {K : PySem.W.Frag} {H : Hp} {a : Addr} {xs : List V} (h : SqL K (fun _ => none) a xs) : SqL K H a xs := by
  rcases h with (h | ⟨o, h⟩) | h
  · cases h
  · cases h
  · exact .inr h
theorem listOk_K {cl : Cn} {K : PySem.W.Frag} {ns : List Int} (hk : SqL K (fun _ => none) (cl 99) (ns.map V.int)) : ListOk cl K (scrK ns) := by
  intro X e pins s σ H xs us Q I r q
  subst e
  obtain ⟨F, m, vh, as, w, ra, q⟩ := q
  unfold scrK at q
  split at q
  · obtain ⟨v, rfl, rv⟩ := reps1 ra
    cases rv
    exact call_list_of pins s σ H _ us Q I r ⟨cl 99, ns.map V.int, rfl, .inl (sqK hk), fun l hl => runNewLstM q w (Reps.of_ints ns) hl⟩
  · exact False.elim q
def cl2 (cs : Cn) (a : Addr) : Cn := fun c => if c = 99 then a else cs c
def spLaw (K : PySem.W.Frag) : Sp := fun vs H Q _ => ∃ (a : Addr) (ns : List Int), vs = [V.ref a] ∧ Only H ∧ SqL K H a (ns.map V.int) ∧ ns.length ≤ 63 ∧ ∀ H', Q (.bl true) H'
theorem wd_start {cl : Cn} {H : Hp} : Wd cl H [] [] H := ⟨fun _ _ h => .inl h, rfl, .nil, fun _ h => absurd h (by simp), fun _ _ _ h => absurd h (by simp)⟩
theorem fn_law {P : Program} {w : World} {K : PySem.W.Frag} {mg : Str → Option Value} {base : Heap} {cs : Cn} {k : Nat} {f : Addr} {fd : FuncData} {x : Str} {den : (List D → M D) → List D → M D}
    (ok : ∀ a L, ListOk (cl2 cs a) K L → FnOk P w K mg base CX0 k f fd [x] (spD (cl2 cs a) 1 (den L)))
    (hm : ∀ (L : List D → M D) (s : D) (ns : List Int), ns.length ≤ 63 → (∀ vh, L [s] vh = new (.lst (ns.map D.int)) vh) → ∃ vh', den L [s] [] = some (.bl true, vh')) : FnOk P w K mg base CX0 k f fd [x] (spLaw K) where
  len := fun vs H Q E ⟨a, ns, e, _⟩ => by rw [e]; rfl
  run := fun A outer s H args us vs Q E hr he hb hv ⟨a, ns, e, hO, hS, hl, hq⟩ => by
    subst e
    have go : ∀ (L : List D → M D) (d : D), ListOk (cl2 cs a) K L → (∀ vh, L [d] vh = new (.lst (ns.map D.int)) vh) → Rep (cl2 cs a) H [] (.ref a) d → codeAny (model P w) A (.call (.ref f) args) (CR CX0 outer P w H s Q E) s := fun L d hL eL r => by
      refine (ok a L hL).run A outer s H args us [.ref a] Q E hr he hb hv ⟨H, [], [], [d], rfl, wd_start, .cons r .nil, ?_⟩
      obtain ⟨vh', e⟩ := hm L d ns hl eL
      rw [e]
      intro F' m' H' _ _ v rv
      cases rv
      exact hq H'
    rcases hS with (h | ⟨o, h⟩) | h
    · rcases hO a with z | ⟨o, xs, z⟩
      · rw [h] at z; cases z
      · rw [h] at z; cases z
    · exact go listMD (.scr ns) listOk_M (fun vh => rfl) (.scr h)
    · exact go (scrK ns) (.cls 99) (listOk_K (cl := cl2 cs a) (.inr h)) (fun vh => rfl) (.cls 99)
theorem walkL {l : PySem.W.OpenLaw} {q : Program} {loose : List Str} {XP : (Str → Option Value) → Heap → Prop} {YP : World → Heap → Prop} {d : DefRec} {K : Params → PySem.W.Frag} {x : Str} {k : Nat} (hn : l.most = some 63) (hdf : d.params.defaults = []) (hr : Room k callerA)
    (hY : ∀ (w : World) (h : Heap), YP w h → (K w.params).In h)
    (F : ∀ (w : World) (mg : Str → Option Value) (fa : Addr) (h : Heap), (K w.params).In h → h.Ns mainGlobals mg → mg d.name = some (.ref fa) →
      ∃ fd : FuncData, (∀ (s : Shared) (u : Value), BindsTo s fd ⟨[u], []⟩ [(x, u)]) ∧ ∀ base : Heap, (K w.params).In base → base.Ns mainGlobals mg → FnOk l.prog w (K w.params) mg base CX0 k fa fd [x] (spLaw (K w.params))) :
    PySem.W.WalkO q loose XP YP l.row.toRowW d [] (fun f vs => PySem.call f vs) :=
  L2.walk_of (n := 63) (k := k) (x := x) (CX := fun _ => CX0) (sp := fun w => spLaw (K w.params)) hn (by decide) hdf hr hY F (fun _ _ a ns hl hO hS => ⟨a, ns, rfl, hO, hS, hl, fun _ => rfl⟩) fun _ _ _ _ _ z => z
end VL

namespace VL
open PySem PySem.Spec PyProof.Rows L2
section
variable {X : Cx} {cl : Cn} {K : PySem.W.Frag} {F F' F1 F2 : Hp} {m m' m1 m2 : List Addr} {H H' H1 H2 : Hp} {vh vh1 : VH} {ρ : Rho} {σ : Sl} {tg : Expr}
/-! ### a changing list, locked while it is walked -/
def lockL {α : Type} (i : Nat) (f : Rho → M α) : Rho → M α := fun ρ vh => match ρ[i]? with
  | some (some (.ref n)) => match vh[n]? with
    | some (some (.lst xs)) => match f ρ (vh.set n (some (.lstL xs))) with
      | some (r, vh') => match vh'[n]? with
        | some (some (.lstL xs')) => some (r, vh'.set n (some (.lst xs')))
        | _ => none
      | none => none
    | _ => f ρ vh
  | _ => f ρ vh
def LkL (cl : Cn) {α : Type} (F : Hp) (m : List Addr) (H : Hp) (f : Rho → M α) (ρ : Rho) (k : Kn α) : Prop := ∃ (a : Addr) (us : List V), H a = some (.lst us) ∧ ∀ od, ∃ vh1, Wd cl F m vh1 (upd H a (.frz od (.lst us))) ∧
  Run cl F m (upd H a (.frz od (.lst us))) (f ρ vh1) (fun F' m' vh' H' x => H' a = some (.frz od (.lst us)) ∧ ∃ vh2, k F' m' vh2 (upd H' a (.lst us)) x)
theorem lockL_run {α : Type} {i : Nat} {f : Rho → M α} {k : Kn α} (w : Wd cl F m vh H) (r : RS cl F m σ ρ) (q : Run cl F m H (lockL i f ρ vh) k) : LkL cl F m H f ρ k ∨ Run cl F m H (f ρ vh) k := by
  unfold lockL at q
  split at q
  · rename_i n e0
    split at q
    · rename_i xs e1
      obtain ⟨v, ev, rv⟩ := r.at_ i _ e0
      obtain ⟨a, us, rfl, hm, ha, ru⟩ := w.refLst rv e1
      refine Or.inl ⟨a, us, ha, fun od => ?_⟩
      have hn : n < vh.length := (List.getElem?_eq_some_iff.mp e1).1
      have z := w.written (u := .frz od (.lst us)) (o' := .lstL xs) hm e1 (fun ob v z => by rw [ha] at z; cases z) fun P => ⟨od, us, upd_same, ru.mono P.gr⟩
      refine ⟨_, z.1, ?_⟩
      cases ef : f ρ (vh.set n (some (.lstL xs))) with
      | none => rw [ef] at q; exact False.elim q
      | some y =>
        obtain ⟨d', vh'⟩ := y
        rw [ef] at q
        simp only [] at q
        intro F' m' H' p w'
        have hz : H' a = some (.frz od (.lst us)) := p.frz _ _ _ upd_same
        refine ⟨hz, ?_⟩
        cases e2 : vh'[n]? with
        | none => rw [e2] at q; exact False.elim q
        | some o2 =>
          cases o2 with
          | none => rw [e2] at q; exact False.elim q
          | some mo2 =>
            rw [e2] at q
            cases mo2 with
            | lstL xs' =>
              have hm' := p.gr.pre _ _ hm
              obtain ⟨_, ob, us', h1, h3⟩ := w'.live _ _ _ hm' e2
              rw [hz] at h1
              cases h1
              have w2 := w'.rewrite (u := .lst us) (o' := .lst xs') hm' e2 ⟨us, upd_same, h3.mono ⟨fun _ _ h => h, fun _ _ h => h⟩⟩
              have p2 : Post F m H F' m' (upd H' a (.lst us)) := by
                have hma : a ∈ m := List.mem_of_getElem? hm
                refine ⟨p.gr, fun b o e nb => ?_, fun b o u e => ?_⟩
                · have hb : b ≠ a := fun z => by subst z; exact nb hma
                  obtain ⟨x1, x2, x3⟩ := p.fr b o (by rw [upd_ne hb]; exact e) nb
                  exact ⟨by rw [upd_ne hb]; exact x1, x2, x3⟩
                · have hb : b ≠ a := fun z => by subst z; rw [ha] at e; cases e
                  rw [upd_ne hb]
                  exact p.frz b o u (by rw [upd_ne hb]; exact e)
              exact ⟨_, q F' m' _ p2 w2⟩
            | _ => exact False.elim q
    · exact Or.inr q
  · exact Or.inr q
theorem PEor' {e : Expr} {t t' : TE} (h : PE X e t) (h' : PE X e t') : PE X e (fun σ H Q => t σ H Q ∨ t' σ H Q) := ⟨fun pins s σ H Q I q => q.elim (h.run pins s σ H Q I) (h'.run pins s σ H Q I)⟩
theorem PSor {st : Stmt} {t t' : TS} (h : PS X st t) (h' : PS X st t') : PS X st (fun D σ H => t D σ H ∨ t' D σ H) := ⟨fun pins s σ H D I q => q.elim (h.run pins s σ H D I) (h'.run pins s σ H D I)⟩
theorem deL {e : Expr} {f : Rho → M D} (i : Nat) (h : DE cl X e f) : DE cl X e (lockL i f) :=
  PEw (PEor' (pe_lock h) h) fun σ H Q ⟨F, m, vh, ρ, w, r, q⟩ => by
    rcases lockL_run w r q with ⟨a, us, ha, hh⟩ | q
    · refine Or.inl ⟨a, .lst us, ha, True.intro, fun od => ?_⟩
      obtain ⟨vh1, w1, q1⟩ := hh od
      refine ⟨F, m, vh1, ρ, w1, r, q1.mono fun F' m' vh' H' d p w' q2 v rv => ?_⟩
      obtain ⟨hz, vh2, q3⟩ := q2
      exact ⟨hz, q3 v rv⟩
    · exact Or.inr ⟨F, m, vh, ρ, w, r, q⟩
theorem dsL {st : Stmt} {g : Bk} (i : Nat) (h : DS cl X st g) : DS cl X st (lockL i g) :=
  PSw (PSor (ps_lock h) h) fun D σ H ⟨F, m, vh, ρ, w, r, q⟩ => by
    rcases lockL_run w r q with ⟨a, us, ha, hh⟩ | q
    · refine Or.inl ⟨a, .lst us, ha, True.intro, fun od => ?_⟩
      obtain ⟨vh1, w1, q1⟩ := hh od
      refine ⟨F, m, vh1, ρ, w1, r, q1.mono fun F' m' vh' H' o p w' q2 => ?_⟩
      obtain ⟨hz, vh2, q3⟩ := q2
      cases o with
      | nx ρ' => exact fun σ' r' => ⟨hz, q3 σ' r'⟩
      | rt d => exact fun v r' => ⟨hz, q3 v r'⟩
      | bk ρ' => exact fun σ' r' => ⟨hz, q3 σ' r'⟩
      | ct ρ' => exact fun σ' r' => ⟨hz, q3 σ' r'⟩
    · exact Or.inr ⟨F, m, vh, ρ, w, r, q⟩
end
end VL

namespace PySem.W
open PySem PySem.Spec PySem.Calls PyProof.Rows
section
variable {prog : Program} {w : World} {A : Around} {E : Value → Shared → Prop} {s : Shared} {K : Frag} {x f C : Addr} {ox : Obj} {od : Option Obj} {b tb : Value} {h₀ : Heap} {L : List Addr} {m : Str → Option Value}
theorem objNe_K {Q : Fin → Shared → Prop} (X : K.In s.heap) (I : InstAt s.heap x ox C od) (hs : findIn K (.ref C) "__eq__" = some (some (.ref f))) (hf : isFn K (.ref f) = true) (hu : A.units < cLine)
    (hcall : wpAny (model prog w) A (call (.ref f) [.ref x, b]) (fun v s' => ∃ c, v = .bool c ∧ Q (.done (.ret (.bool (!c)))) s') E s) :
    wpAny (model prog w) A (Builtin.«object.__ne__» ⟨[.ref x, b], []⟩) Q E s := by
  unfold Builtin.«object.__ne__»
  repeat (first
    | with_reducible refine wpAny_cRoomFor hu ?_
    | (refine wpAny_bind (m := callSpecialIfBound? (.ref x) (Str.ofString "__eq__") [b])
        (ifBound_K X I hs hf (wpAny_mono hcall (fun r s' hr => by
          obtain ⟨c, rfl, hq⟩ := hr
          repeat (first | exact hq | exact wpAny_pure hq | exact wpAny_truthy_bool hq | (refine wpAny_bind (m := truthy (.bool _)) (wpAny_truthy_bool ?_)) | wp_step)) fun _ _ e => e)))
    | wp_step)
theorem callB_K {M : Model} {name : Str} {id : String} {T : String} {args : List Value} {Q : Option Value → Shared → Prop} (X : K.In s.heap) (I : InstAt s.heap x ox C od) (hs : findIn K (.ref C) name = some (some (.builtin id))) {n : Str} (S : Slot T n id)
    (h : wpAny M A (call (.builtin id) (.ref x :: args)) (fun v => Q (some v)) E s) : wpAny M A (callSpecialIfBound? (.ref x) name args) Q E s := by
  simp only [callSpecialIfBound?, bindSpecialIfBound?]
  refine wpAny_holding (wpAny_bind (wpAny_bind (wpAny_bind (I.type.here ((looks_findIn X hs).here ?_)))))
  simp only [S.bind]
  refine wpAny_bind (wpAny_askSetting (wpAny_ite ?_))
  have fin : wpAny M A (call (.builtin id) ([.ref x] ++ args) >>= fun v => pure (some v)) Q E s := wpAny_bind (wpAny_mono h (fun v s' h' => wpAny_pure h') fun _ _ h' => h')
  split
  · exact wpAny_bind (wpAny_pure (wpAny_pure fin))
  · exact wpAny_tryCatch (wpAny_bind (wpAny_pure (wpAny_pure fin)))
theorem ne_K {Q : Value → Shared → Prop} (hu : A.units + 1 < cLine) (X : K.In s.heap) (I : InstAt s.heap x ox C od) (hb : Looks (model prog w) s.heap (typeOf b) tb) (hn : notFirst K C tb = true)
    (hne : findIn K (.ref C) "__ne__" = some (some (.builtin "object.__ne__"))) (hm : mroIn K C (.type "object") = some true)
    (hs : findIn K (.ref C) "__eq__" = some (some (.ref f))) (hf : isFn K (.ref f) = true)
    (h : wpAny (model prog w) A.in1 (call (.ref f) [.ref x, b]) (fun v s' => ∃ c, v = .bool c ∧ Q (.bool (!c)) s') E s) : wpAny (model prog w) A (richCompare .NotEq (.ref x) b) Q E s := by
  have sub : Looks (model prog w) s.heap (isInstance (.ref x) (.type "object")) true := I.type.andThen (looks_mroIn X hm)
  have one : wpAny (model prog w) A (tryCompare (.ref x) "__ne__" b) (fun r s' => ∃ v, r = some v ∧ Q v s') E s := by
    unfold tryCompare
    refine wpAny_bind (callB_K X I hne (S := F.cmp_object.ne) (wpAny_call (codeAny_call_builtin F.cmp_object.ne.plain F.cmpEntry_ne (check_slot F.cmpKind_ne F.cmpSplit_ne sub (F.cmpArgs_ne _ _)
        (objNe_K (A := A.in1) X I hs hf hu (wpAny_mono h (fun v s' hv => ?_) fun _ _ e => e))))))
    obtain ⟨c, rfl, q⟩ := hv
    first | exact ⟨_, rfl, wpAny_pure ⟨_, rfl, q⟩⟩ | exact ⟨_, rfl, _, rfl, q⟩ | exact wpAny_pure ⟨_, rfl, q⟩
  unfold richCompare
  simp only [oneThing_ref]
  refine wpAny_holding (wpAny_bind (wpAny_cRoomFor (Nat.lt_of_succ_lt hu) ?_))
  refine wpAny_bind (I.type.here (wpAny_bind (hb.here ?_)))
  split
  · rename_i q
    have e : subIn K tb (.ref C) = some false := by
      rcases Bool.or_eq_true_iff.mp hn with e | e
      · rw [beq_iff_eq.mp e] at q; simp at q
      · exact beq_iff_eq.mp e
    refine wpAny_bind ((looks_subIn X e).here ?_)
    simp only [Bool.false_eq_true, if_false]
    refine wpAny_bind (wpAny_mono one (fun r s' z => ?_) fun _ _ e => e)
    obtain ⟨v, rfl, hq⟩ := z
    exact wpAny_pure hq
  · refine wpAny_bind (wpAny_pure ?_)
    simp only [Bool.false_eq_true, if_false]
    refine wpAny_bind (wpAny_mono one (fun r s' z => ?_) fun _ _ e => e)
    obtain ⟨v, rfl, hq⟩ := z
    exact wpAny_pure hq
end
end PySem.W
namespace PySem.W
open PySem PySem.Spec PySem.Calls PyProof.Rows PySem.F
section
variable {prog : Program} {w : World} {A : Around} {E : Value → Shared → Prop} {s : Shared} {K : Frag} {x f C : Addr} {ox : Obj} {od : Option Obj} {h₀ : Heap}
theorem callF_K {M : Model} {name : Str} {Q : Option Value → Shared → Prop} (X : K.In s.heap) (I : InstAt s.heap x ox C od) (hs : findIn K (.ref C) name = some (some (.ref f))) (hf : isFn K (.ref f) = true)
    (hc : wpAny M A (call (.ref f) [.ref x]) (fun v => Q (some v)) E s) : wpAny M A (callSpecial? (.ref x) name) Q E s := by
  have sp : Looks M s.heap (specialOf (.ref x) name) (some (.ref f)) := I.type.andThen (looks_findIn X hs)
  simp only [callSpecial?]
  refine wpAny_bind (sp.here ?_)
  show wpAny M A (holding _ (bindSpecial (.ref f) (.ref x) >>= _)) _ _ _
  refine wpAny_holding (wpAny_bind ((bind_fn X _ (beq_iff_eq.mp hf)).here ?_))
  exact wpAny_bind (wpAny_mono hc (fun v s' h' => wpAny_pure h') fun _ _ h' => h')
theorem lenO_K {Q : Value → Shared → Prop} (X : K.In s.heap) (I : InstAt s.heap x ox C od) (hs : findIn K (.ref C) "__len__" = some (some (.ref f))) (hf : isFn K (.ref f) = true)
    (hcall : wpAny (model prog w) A.in1 (call (.ref f) [.ref x]) (fun r s' => ∃ n u, r = .int n u ∧ 0 ≤ n ∧ n < 2 ^ 63 ∧ Q (.int n s'.toks) { s' with toks := s'.toks + 1 }) E s) :
    wpAny (model prog w) A (call (.builtin "len") [.ref x]) Q E s := by
  refine Calls.call_function_entry kind_len plain_len entry_len (args_len1 _) ?_
  unfold Builtin.«len»
  refine wpAny_bind (m := oneArg "len" _) (wpAny_pure ?_)
  refine wpAny_bind (m := callSpecial? (.ref x) (Str.ofString "__len__")) (callF_K X I hs hf (wpAny_mono hcall (fun r s' hr => ?_) fun _ _ y => y))
  obtain ⟨n, u, rfl, h0, h1, hq⟩ := hr
  refine wpAny_bind (wpAny_holding (wpAny_pure ?_))
  refine wpAny_bind (wpAny_letGo ?_)
  show wpAny _ _ (if n < 0 then _ else _) _ _ _
  rw [if_neg (by omega)]
  show wpAny _ _ (if n ≥ 2 ^ 63 then _ else _) _ _ _
  rw [if_neg (by omega)]
  exact wpAny_bind (wpAny_mkInt (wpAny_pure ⟨_, rfl, hq⟩))
end
end PySem.W
namespace VL
open PySem PySem.Spec PyProof.Rows L2
section
variable {X : Cx} {cl : Cn} {K : PySem.W.Frag} {F F' F1 F2 : Hp} {m m' m1 m2 : List Addr} {H H' H1 H2 : Hp} {vh vh1 : VH} {ρ : Rho} {σ : Sl} {tg : Expr}
section
variable {k c : Nat} {f : Addr} {fd : FuncData} {ps : List Str} {den : List D → M D}
/-- as run_own, a call within a built-in -/
theorem run_ownA {A : Around} {n : Nat} {pins : List (Addr × Obj)} {s : Shared} {as : List D} {us : List Value} {vs : List V} {g : D → M D} {Q : VK} {P : Value → Shared → Prop} (Fo : FnOk X.prog X.w X.K X.mg X.base CX0 k f fd ps (spD cl n den)) (hr : Room k A) (hA : A.frames = X.A.frames) (hb : Binds X.K fd ps [])
    (I : Inv X pins σ H s) (w : Wd cl F m vh H) (rs : Reps cl F m vs as) (rv : Vals vs us) (q : Run cl F m H (bind (denC n den as) g vh) (kV' cl Q))
    (fin : ∀ v u s' F1 m1 vh1 H1 d, Inv X pins σ H1 s' → RelV v u → Wd cl F1 m1 vh1 H1 → Rep cl F1 m1 v d → Run cl F1 m1 H1 (g d vh1) (kV' cl Q) → P u s') :
    wpAny (model X.prog X.w) A (call (.ref f) us) P X.xe s := by
  have q' := Run.bind q
  by_cases hl : as.length = n
  · have e : denC n den as vh = den as vh := by
      unfold denC
      rw [if_pos hl]
    rw [e] at q'
    have hq : spD cl n den vs H (fun v H1 => ∃ F1 m1 vh1 d, Wd cl F1 m1 vh1 H1 ∧ Rep cl F1 m1 v d ∧ Run cl F1 m1 H1 (g d vh1) (kV' cl Q)) E0 := by
      exact ⟨F, m, vh, as, by rw [rs.length, hl], w, rs, q'.mono fun F1 m1 vh1 H1 d p w1 q1 v rv => ⟨F1, m1, vh1, d, w1, rv, q1⟩⟩
    have hl2 := Fo.len _ _ _ _ hq
    have e0 : Env0 X.prog X.w X.K X.mg X.base A X.stack s H := by
      have e := I.env0
      exact ⟨by rw [hA]; exact e.frames, e.mod, e.bs, e.bsz, e.funs, e.frf, e.hok, e.bare⟩
    refine wpAny_call (codeAny_mono (Fo.run A X.stack s H ⟨us, []⟩ us vs _ E0 hr e0 (by
      have := hb s us I.kIn (by simpa [← rv.length] using hl2)
      simpa using this) rv hq) fun r s' hq' => ?_)
    cases r with
    | error er => exact absurd hq' (by intro h; exact h.elim)
    | ok fl =>
      cases fl with
      | ret u =>
        obtain ⟨v, H1, I1, r1, F1, m1, vh1, d, w1, rd, q1⟩ := I.after hq'
        exact fin v u s' F1 m1 vh1 H1 d I1 r1 w1 rd q1
      | next => exact False.elim hq'
      | brk => exact False.elim hq'
      | cont => exact False.elim hq'
  · have e : denC n den as vh = none := by
      unfold denC
      rw [if_neg hl]
      rfl
    rw [e] at q'
    exact False.elim q'
/-- what an own class with its own == says -/
structure EqC (K : PySem.W.Frag) (C : Addr) : Prop where
  ne : PySem.W.findIn K (.ref C) "__ne__" = some (some (.builtin "object.__ne__"))
  cl : Cls K C
  ha : PySem.W.findIn K (.ref C) "__class__" = some (some (.builtin "object.__class__"))
  hn : PySem.W.specialIn K (.builtin "object.__class__") "__get__" = some (some (.builtin "getset_descriptor.__get__"))
  htk : PySem.W.takesIn K (.builtin "object.__class__") = some true
  hm : PySem.W.mroIn K C (.type "object") = some true
  ty : PySem.W.typeIn K (.ref C) = some (.type "type")
  n0 : PySem.W.subIn K (.type "NoneType") (.ref C) = some false
  n1 : PySem.W.subIn K (.type "bool") (.ref C) = some false
  n2 : PySem.W.subIn K (.type "int") (.ref C) = some false
  n3 : PySem.W.subIn K (.type "str") (.ref C) = some false
  n4 : PySem.W.subIn K (.type "list") (.ref C) = some false
  n5 : PySem.W.subIn K (.type "tuple") (.ref C) = some false
  n6 : PySem.W.subIn K (.type "dict") (.ref C) = some false
theorem EqC.nf {C : Addr} (T : EqC K C) (t : Tn) : PySem.W.notFirst K C (.type t.nm) = true := by
  unfold PySem.W.notFirst
  refine Bool.or_eq_true_iff.mpr (Or.inr (beq_iff_eq.mpr ?_))
  cases t
  · exact T.n0
  · exact T.n1
  · exact T.n2
  · exact T.n3
  · exact T.n4
  · exact T.n5
  · exact T.n6
theorem EqC.me {C : Addr} (_ : EqC K C) : PySem.W.kitOne K (.ref C) (.ref C) = some true := by
  unfold PySem.W.kitOne
  rw [if_pos (beq_self_eq_true _)]
theorem EqC.ki {C : Addr} (T : EqC K C) (t : Tn) : PySem.W.kitOne K (.type t.nm) (.ref C) = some false := by
  have e1 : ((Value.type t.nm) == (Value.ref C)) = false := rfl
  have e2 : (PySem.W.clsIn K C).isSome = true := by
    obtain ⟨cd, hc, _⟩ := PySem.W.any_some T.cl.hd
    rw [hc]
    rfl
  have e3 : (PySem.W.typeIn K (.ref C) == some (.type "type")) = true := by rw [T.ty] <;> rfl
  unfold PySem.W.kitOne PySem.W.kitCls
  rw [e1, if_neg Bool.false_ne_true]
  show (if ((PySem.W.clsIn K C).isSome && PySem.W.typeIn K (.ref C) == some (.type "type")) = true then _ else _) = _
  rw [e2, e3, if_pos (show (true && true) = true from rfl)]
  cases t
  · exact T.n0
  · exact T.n1
  · exact T.n2
  · exact T.n3
  · exact T.n4
  · exact T.n5
  · exact T.n6
/-- the kind of a value, an instance of c among them -/
def tnO (c : Nat) (vh : VH) (d : D) : Bool := isObj c vh d || (tnD vh d).isSome
theorem tnO_rep {v : V} {u : Value} {d : D} {pins : List (Addr × Obj)} {s : Shared} (T : EqC X.K (cl c)) (I : Inv X pins σ H s) (w : Wd cl F m vh H) (r : Rep cl F m v d) (rv : RelV v u) (e : tnO c vh d = true) :
    ∃ tb, PySem.W.Looks (model X.prog X.w) s.heap (typeOf u) tb ∧ PySem.W.notFirst X.K (cl c) tb = true := by
  rcases Bool.or_eq_true_iff.mp e with e | e
  · obtain ⟨⟨ns, ds⟩, e⟩ := Option.isSome_iff_exists.mp e
    obtain ⟨p, dx, fs, rfl, hp, _, _⟩ := w.objV r e
    cases rv
    obtain ⟨ox, od, J⟩ := instAt I hp
    exact ⟨_, J.type, by simp [PySem.W.notFirst]⟩
  · obtain ⟨t, e⟩ := Option.isSome_iff_exists.mp e
    obtain ⟨P, Z, p, _⟩ := kit_of (X := X) I rv (tn_rep w r e)
    exact ⟨_, Z.ty _ _ I.kIn p, T.nf t⟩
def eqOD (c : Nat) (den : List D → M D) (a b : D) : M D := fun vh => if isObj c vh a = true ∧ tnO c vh b = true then bind (denC 2 den [a, b]) (fun r => match r with
  | .bl x => ret (.bl x)
  | _ => fail) vh else none
def neOD (c : Nat) (den : List D → M D) (a b : D) : M D := fun vh => if isObj c vh a = true ∧ tnO c vh b = true then bind (denC 2 den [a, b]) (fun r => match r with
  | .bl x => ret (.bl (!x))
  | _ => fail) vh else none
theorem op_eqO (T : EqC X.K (cl c)) (Fo : FnOk X.prog X.w X.K X.mg X.base CX0 k f fd ps (spD cl 2 den)) (hr : Room k X.A) (hb : Binds X.K fd ps []) (hs : PySem.W.findIn X.K (.ref (cl c)) "__eq__" = some (some (.ref f))) (hf : PySem.W.isFn X.K (.ref f) = true) :
    OpR X (compareOp .Eq) (rD2 cl (eqOD c den)) := by
  intro pins s σ H x y v u Q I rx ry q
  obtain ⟨F, m, vh, a, b, w, ra, rb, q⟩ := q
  unfold eqOD at q
  by_cases hc : isObj c vh a = true ∧ tnO c vh b = true
  · rw [if_pos hc] at q
    obtain ⟨hc, ht⟩ := hc
    obtain ⟨⟨ns, ds⟩, e⟩ := Option.isSome_iff_exists.mp hc
    obtain ⟨p, dx, fs, rfl, hp, _, _⟩ := w.objV ra e
    cases rx
    obtain ⟨ox, od, J⟩ := instAt I hp
    obtain ⟨mm, hF⟩ := I.fr
    obtain ⟨tb, L, nf⟩ := tnO_rep T I w rb ry ht
    show wpAny (model X.prog X.w) X.A (richCompare .Eq (.ref p) u) (EP X pins σ Q) X.xe s
    refine PySem.W.cmp_K (op := .Eq) hr.units0 hF I.ok.mod.kin J L nf hs hf ?_
    refine run_own (us := [.ref p, u]) (vs := [.ref p, y]) Fo hr hb I w (.cons ra (.cons rb .nil)) (.cons rfl (.cons ry .nil)) q fun v1 u1 s' F1 m1 vh1 H1 d I1 r1 w1 rd q1 => ?_
    cases d with
    | bl z =>
      cases rep_bl rd
      cases r1
      exact ⟨V.bl z, H1, I1, rfl, Run.ret q1 w1 _ (.bl z)⟩
    | _ => exact False.elim q1
  · rw [if_neg hc] at q
    exact False.elim q
theorem op_neO (T : EqC X.K (cl c)) (Fo : FnOk X.prog X.w X.K X.mg X.base CX0 k f fd ps (spD cl 2 den)) (hr : Room (k + 1) X.A) (hu : X.A.units + 1 < cLine) (hb : Binds X.K fd ps []) (hs : PySem.W.findIn X.K (.ref (cl c)) "__eq__" = some (some (.ref f))) (hf : PySem.W.isFn X.K (.ref f) = true) :
    OpR X (compareOp .NotEq) (rD2 cl (neOD c den)) := by
  intro pins s σ H x y v u Q I rx ry q
  obtain ⟨F, m, vh, a, b, w, ra, rb, q⟩ := q
  unfold neOD at q
  by_cases hc : isObj c vh a = true ∧ tnO c vh b = true
  · rw [if_pos hc] at q
    obtain ⟨hc, ht⟩ := hc
    obtain ⟨⟨ns, ds⟩, e⟩ := Option.isSome_iff_exists.mp hc
    obtain ⟨p, dx, fs, rfl, hp, _, _⟩ := w.objV ra e
    cases rx
    obtain ⟨ox, od, J⟩ := instAt I hp
    obtain ⟨tb, L, nf⟩ := tnO_rep T I w rb ry ht
    show wpAny (model X.prog X.w) X.A (richCompare .NotEq (.ref p) u) (EP X pins σ Q) X.xe s
    refine PySem.W.ne_K hu I.kIn J L nf T.ne T.hm hs hf ?_
    refine run_ownA (A := X.A.in1) (us := [.ref p, u]) (vs := [.ref p, y]) Fo hr.in1 rfl hb I w (.cons ra (.cons rb .nil)) (.cons rfl (.cons ry .nil)) q fun v1 u1 s' F1 m1 vh1 H1 d I1 r1 w1 rd q1 => ?_
    cases d with
    | bl z =>
      cases rep_bl rd
      cases r1
      exact ⟨z, rfl, V.bl (!z), H1, I1, rfl, Run.ret q1 w1 _ (.bl (!z))⟩
    | _ => exact False.elim q1
  · rw [if_neg hc] at q
    exact False.elim q
/-- len(o) -/
def lenOD (c : Nat) (den : List D → M D) (as : List D) : M D := fun vh => match as with
  | [d] => if isObj c vh d = true then bind (denC 1 den [d]) (fun r => match r with
    | .int n => if 0 ≤ n ∧ n < 9223372036854775808 then ret (.int n) else fail
    | _ => fail) vh else none
  | _ => none
theorem cr_lenO (Fo : FnOk X.prog X.w X.K X.mg X.base CX0 k f fd ps (spD cl 1 den)) (hr : Room (k + 1) X.A) (hb : Binds X.K fd ps []) (hs : PySem.W.findIn X.K (.ref (cl c)) "__len__" = some (some (.ref f))) (hf : PySem.W.isFn X.K (.ref f) = true) :
    CallR X (.builtin "len") (rDs cl (lenOD c den)) := by
  intro pins s σ H xs us Q I r q
  obtain ⟨F, m, vh, as, w, ra, q⟩ := q
  unfold lenOD at q
  split at q
  · rename_i d
    by_cases hc : isObj c vh d = true
    · rw [if_pos hc] at q
      obtain ⟨v, rfl, rv⟩ := reps1 ra
      obtain ⟨u, rfl, ru⟩ := vals1 r
      obtain ⟨⟨ns, ds⟩, e⟩ := Option.isSome_iff_exists.mp hc
      obtain ⟨p, dx, fs, rfl, hp, _, _⟩ := w.objV rv e
      cases ru
      obtain ⟨ox, od, J⟩ := instAt I hp
      refine PySem.W.lenO_K I.kIn J hs hf ?_
      refine run_ownA (A := X.A.in1) (us := [.ref p]) (vs := [.ref p]) Fo hr.in1 rfl hb I w (.cons rv .nil) (.cons rfl .nil) q fun v1 u1 s' F1 m1 vh1 H1 d I1 r1 w1 rd q1 => ?_
      cases d with
      | int z =>
        cases rep_int rd
        obtain ⟨t, rfl⟩ := r1
        obtain ⟨⟨h0, h1⟩, q1⟩ := run_if q1
        exact ⟨z, t, rfl, h0, h1, V.int z, H1, I1.tok _, ⟨_, rfl⟩, Run.ret q1 w1 _ (.int z)⟩
      | _ => exact False.elim q1
    · rw [if_neg hc] at q
      exact False.elim q
  · exact False.elim q
/-- isinstance(x, C), C the own class c -/
def isiCR (c : Nat) (vh : VH) : List D → Option D
  | [d, .cls c'] => if c' = c then (if isObj c vh d = true then some (.bl true) else (tnD vh d).map fun _ => .bl false) else none
  | _ => none
def isiCD (c : Nat) : List D → M D := pureD (isiCR c)
theorem cr_isiC (T : EqC X.K (cl c)) : CallR X (.builtin "isinstance") (rDs cl (isiCD c)) := by
  intro pins s σ H xs us Q I r q
  obtain ⟨F, m, vh, as, w, ra, q⟩ := q
  obtain ⟨d, e, q2⟩ := run_pure q
  clear q
  unfold isiCR at e
  split at e
  · obtain ⟨v, u, rfl, rv, ru⟩ := reps2 ra
    by_cases hcc : ‹Nat› = c
    · rw [if_pos hcc] at e
      subst hcc
      cases ru
      split at e
      · rename_i hc
        cases Option.some.inj e
        obtain ⟨⟨ns, ds⟩, e⟩ := Option.isSome_iff_exists.mp hc
        obtain ⟨p, dx, fs, rfl, hp, _, _⟩ := w.objV rv e
        exact call_isi pins s σ H _ us Q I r ⟨_, _, _, _, _, rfl, .own _, .base (TyOf.ins hp T.cl T.ha T.hn T.htk T.hm), T.me, Run.ret q2 w _ (.bl _)⟩
      · obtain ⟨t, e1, rfl⟩ := Option.map_eq_some_iff.mp e
        exact call_isi pins s σ H _ us Q I r ⟨v, _, _, _, _, rfl, .own _, tn_rep w rv e1, T.ki t, Run.ret q2 w _ (.bl _)⟩
    · rw [if_neg hcc] at e
      cases e
  · cases e
end
section
variable {c k : Nat} {den : List D → M D}
theorem oEq (T : EqC X.K (cl c)) (C : CalM X.prog X.w X.K X.mg X.base cl (cl c) "__eq__" k 2 den) (hr : Room k X.A) : OpR X (compareOp .Eq) (rD2 cl (eqOD c den)) := by
  obtain ⟨f, fd, ps, hi, hf, kp, Fo, hb⟩ := C.ex
  exact op_eqO T Fo hr hb hi hf
theorem oNe (T : EqC X.K (cl c)) (C : CalM X.prog X.w X.K X.mg X.base cl (cl c) "__eq__" k 2 den) (hr : Room (k + 1) X.A) (hu : X.A.units + 1 < cLine) : OpR X (compareOp .NotEq) (rD2 cl (neOD c den)) := by
  obtain ⟨f, fd, ps, hi, hf, kp, Fo, hb⟩ := C.ex
  exact op_neO T Fo hr hu hb hi hf
theorem crLenO (C : CalM X.prog X.w X.K X.mg X.base cl (cl c) "__len__" k 1 den) (hr : Room (k + 1) X.A) : CallR X (.builtin "len") (rDs cl (lenOD c den)) := by
  obtain ⟨f, fd, ps, hi, hf, kp, Fo, hb⟩ := C.ex
  exact cr_lenO Fo hr hb hi hf
end
end
end VL

namespace VL
open PySem PySem.Spec PyProof.Rows L2
/-! ### exceptions as values: made, read -/
/-- what an own exception class with its own __init__ says -/
structure ExK (K : PySem.W.Frag) (C fI : Addr) : Prop where
  T : OexC K C
  iC : PySem.W.findIn K (.ref C) "__init__" = some (some (.ref fI))
  tI : PySem.W.typeIn K (.ref fI) = some (.type "function")
/-- the __init__: self.f = y -/
def spX (C : Addr) (f : Str) : Sp := fun vs H Q _ => ∃ (a : Addr) (y : V), vs = [V.ref a, y] ∧ H a = some (exo a C none) ∧ ∀ dx, H dx = none → dx ≠ a → Q V.non (upd (upd H dx (exd dx [(f, y)])) a (exo a C (some dx)))
section
variable {X : Cx} {cl : Cn} {C fI : Addr} {k : Nat} {fd : FuncData} {ps : List Str} {f : Str}
theorem spX_len : ∀ vs H Q E, spX C f vs H Q E → vs.length = 2 := fun vs H Q E ⟨a, y, e, _⟩ => by rw [e]; rfl
theorem upd_swap {H : Hp} {a b : Addr} {o u : HO} (h : a ≠ b) : upd (upd H a o) b u = upd (upd H b u) a o := by
  funext c
  by_cases e1 : c = a
  · subst e1
    rw [upd_ne h, upd_same, upd_same]
  · by_cases e2 : c = b
    · subst e2
      rw [upd_same, upd_ne e1, upd_same]
    · rw [upd_ne e2, upd_ne e1, upd_ne e1, upd_ne e2]
/-- the making, by values and keywords; the exception and its dict are new -/
theorem run_mkX {pins : List (Addr × Obj)} {σ : L2.St} {H : Hp} {s : Shared} {Q : VK} {us : List Value} {kw : List (Str × Value)} {y : V} {u : Value} (E : ExK X.K C fI) (F1 : FnOk X.prog X.w X.K X.mg X.base CX0 k fI fd ps (spX C f)) (hr : Room (k + 1) X.A)
    (hb : ∀ (s : Shared) (self : Value), X.K.In s.heap → BindsTo s fd ⟨self :: us, kw⟩ (ps.zip [self, u])) (hl : us.length ≤ 1) (hk : kw = [] ∨ us = []) (I : Inv X pins σ H s) (ry : RelV y u)
    (q : ∀ a dx, H a = none → H dx = none → dx ≠ a → Q (.ref a) (upd (upd H dx (exd dx [(f, y)])) a (exo a C (some dx)))) :
    wpAny (model X.prog X.w) X.A (call (.ref C) us kw) (EP X pins σ Q) X.xe s := by
  obtain ⟨nm, qn, N, bs, bm, sn, sub, ab, col, dd, k0, k1, k2, k3, k5, hC, hbm⟩ := E.T.cls
  obtain ⟨hp, g, dr, tk, os⟩ := s
  have hz := Nat.le_succ hp.objs.size
  have hn : H (hp.objs.size + 1) = none := I.hok.fresh hz
  have I2 : Inv X pins σ (upd H (hp.objs.size + 1) (exo (hp.objs.size + 1) C none)) ⟨bareL hp us C, g, dr, tk, os⟩ := I.laid (t' := tk) (fun _ _ => bare_old) hz (exo_ok bare_me)
  have r2 : Vals [V.ref (hp.objs.size + 1), y] [Value.ref (hp.objs.size + 1), u] := .cons rfl (.cons ry .nil)
  have hq : spX C f [V.ref (hp.objs.size + 1), y] (upd H (hp.objs.size + 1) (exo (hp.objs.size + 1) C none)) (fun v H2 => v = .non ∧ Q (.ref (hp.objs.size + 1)) H2) E0 := by
    refine ⟨_, y, rfl, upd_same, fun dx h1 h2 => ⟨rfl, ?_⟩⟩
    rw [upd_ne h2] at h1
    rw [upd_swap (Ne.symm h2), upd_upd]
    exact q _ dx hn h1 h2
  refine wpAny_call (Lies.either ⟨fun Y => PySem.HandSPX.refsVE_contains Y bm hbm, _, _, _, _, _, _, _, _, _, _, _, _, _, _, _, I.kIn _ _ hC⟩ hl hk (PySem.W.looks_findIn I.kIn E.iC) (fun self => PySem.W.bind_fn I.kIn self E.tI)
    (codeAny_mono (F1.run _ X.stack _ _ ⟨Value.ref (hp.objs.size + 1) :: us, kw⟩ [Value.ref (hp.objs.size + 1), u] _ _ E0 (hr.make C us kw) (I2.env0.make C us kw) (hb _ _ I2.kIn) r2 hq) fun r s' hq' => ?_))
  cases r with
  | error er => exact absurd hq' (fun h => h.elim)
  | ok fl =>
    cases fl with
    | ret u =>
      obtain ⟨v, H2, I3, rv, ev, q3⟩ := I2.after hq'
      subst ev
      exact ⟨rv, V.ref (hp.objs.size + 1), H2, I3, rfl, q3⟩
    | next => exact False.elim hq'
    | brk => exact False.elim hq'
    | cont => exact False.elim hq'
def tMkX (C : Addr) (f : Str) (ta : TA) : TE := fun σ H Q => ta σ H fun vs H1 => ∃ y, vs = [y] ∧ ∀ a dx, H1 a = none → H1 dx = none → dx ≠ a → Q (.ref a) (upd (upd H1 dx (exd dx [(f, y)])) a (exo a C (some dx)))
section
variable {x : Str} {p pos : Pos} {e : Expr} {ta : TA} {nm : Str} {kpos : Pos}
theorem pe_mkX (E : ExK X.K C fI) (F1 : FnOk X.prog X.w X.K X.mg X.base CX0 k fI fd ps (spX C f)) (hr : Room (k + 1) X.A) (hb : ∀ (s : Shared) (self u : Value), X.K.In s.heap → BindsTo s fd ⟨[self, u], []⟩ (ps.zip [self, u])) (hm : X.mg x = some (.ref C))
    (ha : PA X [e] ta) (hg : Gl X x := by rfl) (hdb : (x == ("__debug__" : Str)) = false := by decide) (he : starEach [e] X.env = (false, eval e X.env) :: starEach [] X.env := by rfl) (hpl : (backTo pos (starEach [] X.env)).any (·.1) = false := by rfl) :
    PE X (.Call (.Name x p) [e] [] pos) (tMkX C f ta) := by
  refine ⟨fun pins s σ H Q I h => ?_⟩
  refine wpAny_Call_Name_kw (ld_glob I hg hm ?_ hdb)
  refine PySem.W.callWith_K (h₀ := X.base) I.ok.mod.kin E.T.kC (thn (ha.run pos pins s σ H _ I h) fun us s1 ⟨vs, H1, I1, r1, y, ev, q⟩ => ⟨I1.kIn, ?_⟩) he hpl
  subst ev
  obtain ⟨u, rfl, ry⟩ := vals1 r1
  exact run_mkX E F1 hr (fun s self h => hb s self u h) (by simp) (.inl rfl) I1 ry q
theorem pe_mkXk (E : ExK X.K C fI) (F1 : FnOk X.prog X.w X.K X.mg X.base CX0 k fI fd ps (spX C f)) (hr : Room (k + 1) X.A) (hb : ∀ (s : Shared) (self u : Value), X.K.In s.heap → BindsTo s fd ⟨[self], [(nm, u)]⟩ (ps.zip [self, u])) (hm : X.mg x = some (.ref C))
    (hkw : PK X [⟨some nm, e, kpos⟩] ta) (hg : Gl X x := by rfl) (hdb : (x == ("__debug__" : Str)) = false := by decide) (hall : (backToKw pos (keywordEach [⟨some nm, e, kpos⟩] X.env)).all (·.1.isSome) = true := by rfl)
    (hks : (backToKw pos (keywordEach [⟨some nm, e, kpos⟩] X.env)).filterMap (·.1) = [nm] := by rfl)
    (hpl : ((backTo pos (starEach [] X.env)).any (·.1) || (backToKw pos (keywordEach [⟨some nm, e, kpos⟩] X.env)).any (·.1.isNone)) = false := by rfl) :
    PE X (.Call (.Name x p) [] [⟨some nm, e, kpos⟩] pos) (tMkX C f ta) := by
  refine ⟨fun pins s σ H Q I h => ?_⟩
  refine wpAny_Call_Name_kw (ld_glob I hg hm ?_ hdb)
  refine PySem.W.callWith_KW0 (h₀ := X.base) I.ok.mod.kin E.T.kC hall ?_ hpl
  refine thn (hkw.run pos pins s σ H _ I h) fun ws s2 ⟨zs, H2, I2, rz, y, ev, q⟩ => ⟨I2.kIn, ?_⟩
  rw [hks]
  subst ev
  obtain ⟨u, rfl, ry⟩ := vals1 rz
  exact run_mkX (us := []) E F1 hr (fun s self h => hb s self u h) (by simp) (.inr rfl) I2 ry q
end
/-- the def of such an __init__ -/
theorem fn_X {P : Program} {w : World} {K : PySem.W.Frag} {mg : Str → Option Value} {base : Heap} {qual : Str} {st : Stmt} {n0 n1 : Str} (Fu : Fun K "__init__" qual st fI fd) (S : FnScope [n0, n1] [n0, n1] (defScope st)) (T : OexC K C) (hno : PySem.W.findIn K (.ref C) f = some none)
    (hb : ∀ (cdv : Value) (A : Around) (outer : List Env) (s : Shared) (H : Hp) (E : XK), PSs (cxOf CX0 P w K mg base [n0, n1] qual (defScope st) fI cdv A outer s H E).nox (defBody st) (tOst K f (tVar 0) (tVar 1))) :
    FnOk P w K mg base CX0 1 fI fd [n0, n1] (spX C f) := by
  refine Fu.ok (k := 0) S (fun vs H Q E h => spX_len vs H Q E h) (fun cdv A outer s H vs Q E hr h => ?_)
  obtain ⟨a, y, rfl, ha, q⟩ := h
  refine ⟨_, hb cdv A outer s H E, ?_⟩
  refine ⟨y, rfl, .ref a, rfl, a, C, rfl, T, hno, Or.inl ⟨ha, fun dx h1 h2 => ?_⟩⟩
  exact q dx h1 h2
end
end VL

namespace VL
open PySem PySem.Spec PyProof.Rows L2
/-- a class of exceptions with its __init__ -/
structure CalX (P : Program) (w : World) (K : PySem.W.Frag) (mg : Str → Option Value) (base : Heap) (C : Addr) (f nm : Str) : Prop where
  ex : ∃ (fI : Addr) (fd : FuncData) (ps : List Str), ExK K C fI ∧ FnOk P w K mg base CX0 1 fI fd ps (spX C f) ∧ (∀ (s : Shared) (self u : Value), K.In s.heap → BindsTo s fd ⟨[self, u], []⟩ (ps.zip [self, u])) ∧ ∀ (s : Shared) (self u : Value), K.In s.heap → BindsTo s fd ⟨[self], [(nm, u)]⟩ (ps.zip [self, u])
/-- what reading a field, asking the class wants of a class of exceptions -/
structure ExF (K : PySem.W.Frag) (C : Addr) : Prop where
  ga : PySem.W.findIn K (.ref C) "__getattribute__" = some (some (.builtin "BaseException.__getattribute__"))
  gt : PySem.W.findIn K (.ref C) "__getattr__" = some none
  sb : PySem.W.subIn K (.ref C) (.type "BaseException") = some true
  hd : PySem.W.hasDictIn K C = true
  ha : PySem.W.findIn K (.ref C) "__class__" = some (some (.builtin "object.__class__"))
  hn : PySem.W.specialIn K (.builtin "object.__class__") "__get__" = some (some (.builtin "getset_descriptor.__get__"))
  ht : PySem.W.takesIn K (.builtin "object.__class__") = some true
  hm : PySem.W.mroIn K C (.type "object") = some true
/-- which class is below which -/
structure ExT (K : PySem.W.Frag) (cl : Cn) (n : Nat) : Prop where
  sub : ∀ i j, i < n → j < n → PySem.W.subIn K (.ref (cl i)) (.ref (cl j)) = some (decide (i = j))
  top : ∀ i, i < n → PySem.W.subIn K (.ref (cl i)) (.ref (cl n)) = some true
  val : ∀ i, i < n → PySem.W.subIn K (.ref (cl i)) (.type "ValueError") = some true
  ty : ∀ i, i ≤ n → PySem.W.typeIn K (.ref (cl i)) = some (.type "type")
  is : ∀ i, i ≤ n → (PySem.W.clsIn K (cl i)).isSome = true
  F : ∀ i, i < n → ExF K (cl i)
section
variable {X : Cx} {cl : Cn} {K : PySem.W.Frag} {F F' F1 F2 : Hp} {m m' m1 m2 : List Addr} {H H' H1 H2 : Hp} {vh vh1 : VH} {ρ : Rho} {σ : Sl}
/-! ### made -/
def mkXD (c : Nat) (f : Str) (as : List D) : M D := match as with
  | [d] => ret (.exc c [f] [d])
  | _ => fail
theorem tMkXD {c : Nat} {f : Str} {fs : Rho → M (List D)} {Q : VK} (h : tD cl (denA (mkXD c f) fs) σ H Q) : tMkX (cl c) f (tDs cl fs) σ H Q := by
  obtain ⟨F, m, vh, ρ, w, r, q⟩ := h
  refine tDs_bind w r q fun F1 m1 vh1 H1 as vs w1 r1 g1 rvs q1 => ?_
  unfold mkXD at q1
  split at q1
  · obtain ⟨y, rfl, ry⟩ := reps1 rvs
    refine ⟨y, rfl, fun a dx na ndx hne => ?_⟩
    obtain ⟨w2, p2⟩ := w1.frozen (o := exd dx [(f, y)]) ndx
    obtain ⟨w3, p3⟩ := w2.frozen (p := a) (o := exo a (cl c) (some dx)) (by rw [upd_ne (Ne.symm hne)]; exact na)
    have z := q1 _ _ _ (p2.trans p3) w3
    exact z _ (.exc (fs := [(f, y)]) upd_same (by rw [upd_ne hne]; exact upd_same) (.cons ((ry.mono p2.gr).mono p3.gr) .nil))
  · exact False.elim q1
section
variable {P : Program} {x : Str} {p pos : Pos} {e : Expr} {c : Nat} {f nm : Str} {fs : Rho → M (List D)} {fe : Rho → M D} {kpos : Pos}
theorem cX (C : CalX X.prog X.w X.K X.mg X.base (cl c) f nm) (hm : X.mg x = some (.ref (cl c))) (hr : Room 2 X.A) (ha : DA cl X [e] fs) (hg : Gl X x := by rfl) (hdb : (x == ("__debug__" : Str)) = false := by decide)
    (he : starEach [e] X.env = (false, eval e X.env) :: starEach [] X.env := by rfl) (hpl : (backTo pos (starEach [] X.env)).any (·.1) = false := by rfl) : DE cl X (.Call (.Name x p) [e] [] pos) (denA (mkXD c f) fs) := by
  obtain ⟨fI, fd, ps, E, F1, b1, b2⟩ := C.ex
  exact PEw (pe_mkX E F1 hr b1 hm ha hg hdb he hpl) fun σ H Q h => tMkXD h
theorem PKw {kws : List Keyword} {t t' : TA} (h : PK X kws t) (w : ∀ σ H Q, t' σ H Q → t σ H Q) : PK X kws t' := ⟨fun pos pins s σ H Q I q => h.run pos pins s σ H Q I (w σ H Q q)⟩
theorem dk_one (ha : DE cl X e fe) : PK X [⟨some nm, e, kpos⟩] (tDs cl (consA fe nilA)) :=
  PKw (pk_cons ha pk_nil) fun σ H Q ⟨F, m, vh, ρ, w, r, q⟩ => tD_bind w r q fun F1 m1 vh1 H1 a v w1 r1 g1 rv q1 => Run.ret q1 w1 [v] (.cons rv .nil)
theorem cXk (C : CalX X.prog X.w X.K X.mg X.base (cl c) f nm) (hm : X.mg x = some (.ref (cl c))) (hr : Room 2 X.A) (ha : DE cl X e fe) (hg : Gl X x := by rfl) (hdb : (x == ("__debug__" : Str)) = false := by decide)
    (hall : (backToKw pos (keywordEach [⟨some nm, e, kpos⟩] X.env)).all (·.1.isSome) = true := by rfl) (hks : (backToKw pos (keywordEach [⟨some nm, e, kpos⟩] X.env)).filterMap (·.1) = [nm] := by rfl)
    (hpl : ((backTo pos (starEach [] X.env)).any (·.1) || (backToKw pos (keywordEach [⟨some nm, e, kpos⟩] X.env)).any (·.1.isNone)) = false := by rfl) : DE cl X (.Call (.Name x p) [] [⟨some nm, e, kpos⟩] pos) (denA (mkXD c f) (consA fe nilA)) := by
  obtain ⟨fI, fd, ps, E, F1, b1, b2⟩ := C.ex
  exact PEw (pe_mkXk E F1 hr b2 hm (dk_one ha) hg hdb hall hks hpl) fun σ H Q h => tMkXD h
/-- C(), a class without an __init__ of its own -/
theorem pe_mkX0 {C : Addr} (q : PySem.W.excIn X.K C [.type "ValueError", .type "Exception", .type "BaseException", .type "object"] "ValueError.__new__" = true) (hm : X.mg x = some (.ref C)) (kC : PySem.W.keepIn X.K (.ref C) = true)
    (hg : Gl X x) (hdb : (x == ("__debug__" : Str)) = false) : PE X (.Call (.Name x p) [] [] pos) (fun _ H Q => ∀ a, H a = none → Q (.ref a) (upd H a (exo a C none))) := by
  refine ⟨fun pins s σ H Q I h => wpAny_Call_Name_kw (ld_glob I hg hm ?_ hdb)⟩
  refine PySem.W.callWith_K0 I.kIn kC ?_
  obtain ⟨hp, g, d, t, os⟩ := s
  obtain ⟨bm, N, nm, qn, bs, hdct, sn, sub, ab, col, dd, k0, k1, k2, k3, k5, mN, hC, hN, hni, T⟩ := exc_obj I.kIn q
  refine wpAny_call_exc_subT PySem.F.excBase_ValueError T hC hN hni (fun h' a hm => ?_) (Nat.zero_le _)
  have hn : H a = none := I.hok.gone hm.new
  obtain ⟨t, ht, _, _⟩ := hm.there
  exact ⟨.ref a, upd H a (exo a C none), I.laidN hm.keeps hm.new hn (exo_ok ht), rfl, h a hn⟩
theorem cX0 (q : PySem.W.excIn X.K (cl c) [.type "ValueError", .type "Exception", .type "BaseException", .type "object"] "ValueError.__new__" = true) (hm : X.mg x = some (.ref (cl c))) (kC : PySem.W.keepIn X.K (.ref (cl c)) = true)
    (hg : Gl X x := by rfl) (hdb : (x == ("__debug__" : Str)) = false := by decide) : DE cl X (.Call (.Name x p) [] [] pos) (fun _ => ret (.exc c [] [])) :=
  PEw (pe_mkX0 q hm kC hg hdb) fun σ H Q ⟨F, m, vh, ρ, w, r, h⟩ a na => by
    obtain ⟨w2, p2⟩ := w.frozen (o := exo a (cl c) none) na
    exact h _ _ _ p2 w2 _ (.exc0 upd_same)
end
/-! ### read -/
theorem exo_inst {P : Program} {w : World} {H : Hp} {h : Heap} {a C dx : Addr} {fs : List (Str × V)} (hok : HOk P w H h) (ha : H a = some (exo a C (some dx))) (hd : H dx = some (exd dx fs)) :
    ∃ ox od mA, PySem.W.InstAt h a ox C (some od) ∧ h.Ns1 dx mA ∧ (∀ f, RelO (fs.lookup f) (mA f)) ∧ h.get? dx = some od := by
  obtain ⟨t1, ho⟩ := exo_at hok ha
  obtain ⟨mA, hns, rel⟩ := exd_at hok hd
  obtain ⟨od, es, ep, hod, z⟩ := id hns
  exact ⟨_, od, mA, ⟨ho, rfl, rfl, hod⟩, hns, rel, hod⟩
theorem exo_inst0 {P : Program} {w : World} {H : Hp} {h : Heap} {a C : Addr} (hok : HOk P w H h) (ha : H a = some (exo a C none)) : ∃ ox, PySem.W.InstAt h a ox C none := by
  obtain ⟨t1, ho⟩ := exo_at hok ha
  exact ⟨_, ho, rfl, rfl, trivial⟩
def tXV (K : PySem.W.Frag) (n : Str) (te : TE) : TE := fun σ H Q => te σ H fun x H1 => ∃ (a C dx : Addr) (fs : List (Str × V)) (v : V), x = .ref a ∧ ExF K C ∧ PySem.W.findIn K (.ref C) n = some none ∧ H1 a = some (exo a C (some dx)) ∧ H1 dx = some (exd dx fs) ∧ fs.lookup n = some v ∧ Q v H1
theorem pe_xv {e : Expr} {n : Str} {pos : Pos} {te : TE} (he : PE X e te) (hb : attributeBase e n X.env (eval e X.env) = eval e X.env := by rfl) : PE X (.Attribute e n pos) (tXV X.K n te) := by
  refine ⟨fun pins s σ H Q I h => attr_of hb (thn (he.run pins s σ H _ I h) fun u s1 hh => ?_)⟩
  obtain ⟨x, H1, I1, rx, a, C, dx, fs, v, ex, T, hno, ha, hd, l, q⟩ := hh
  subst ex
  obtain rfl : u = Value.ref a := rx
  obtain ⟨t1, ho⟩ := exo_at I1.hok ha
  obtain ⟨mA, hns, hrl⟩ := exd_at I1.hok hd
  obtain ⟨od, hod, hl⟩ := lookIn_ns hns
  obtain ⟨u, hu, ru⟩ := RelO.some_of (v := v) (o := mA n) (by rw [← l]; exact hrl n)
  have J : PySem.W.InstAt s1.heap a _ C (some od) := ⟨ho, rfl, rfl, hod⟩
  exact HandSPX.exc_get I1.kIn J T.ga T.gt T.sb (PySem.W.findObj_own T.hd hno rfl (by rw [hl, hu])) (handed_of ru) ⟨v, H1, I1.tok _, ru, q⟩
def fldX (c : Nat) (n : Str) : D → M D
  | .exc c' ns vs => fun vh => if c' = c then (lookupF ns vs n).map fun d => (d, vh) else none
  | _ => fail
theorem fX {o : Expr} {n : Str} {pos : Pos} {c : Nat} {fo : Rho → M D} (T : ExF X.K (cl c)) (hno : NoAttr X.K (cl c) n) (ho : DE cl X o fo) (hb : attributeBase o n X.env (eval o X.env) = eval o X.env := by rfl) : DE cl X (.Attribute o n pos) (den1 (fldX c n) fo) :=
  PEw (pe_xv ho hb) fun σ H Q ⟨F, m, vh, ρ, w, r, q⟩ => tD_bind w r q fun F1 m1 vh1 H1 a v w1 r1 g1 rv q1 => by
    unfold fldX at q1
    split at q1
    · rename_i c' ns vs
      by_cases hc : c' = c
      · subst hc
        rw [if_pos rfl] at q1
        cases e : lookupF ns vs n with
        | none => rw [e] at q1; exact False.elim q1
        | some d =>
          rw [e] at q1
          cases rv with
          | exc h1 h2 rs =>
            obtain ⟨u, l, ru⟩ := (lookupF_rep (j := n) rs).1 d e
            exact ⟨_, _, _, _, u, rfl, T, hno, w1.ext _ _ h1 (fun _ z => by cases z), w1.ext _ _ h2 (fun _ z => by cases z), l, Run.ret (a := d) q1 w1 _ ru⟩
          | exc0 h1 => unfold lookupF at e; cases e
      · rw [if_neg hc] at q1
        exact False.elim q1
    · exact False.elim q1
/-! ### isinstance of exceptions -/
def excOf : D → Option Nat
  | .exc c _ _ => some c
  | _ => none
/-- n classes, the n-th above them all -/
def isiXR (n : Nat) (_ : VH) : List D → Option D
  | [.exc i _ _, .cls j] => if i < n ∧ j ≤ n then some (.bl (decide (i = j) || decide (j = n))) else none
  | [.exc i _ _, .ty t] => if i < n ∧ t = "ValueError" then some (.bl true) else none
  | _ => none
def isiXD (n : Nat) : List D → M D := pureD (isiXR n)
theorem exc_at {v : V} {i : Nat} {ns : List Str} {vs : List D} {pins : List (Addr × Obj)} {s : Shared} (I : Inv X pins σ H s) (w : Wd cl F m vh H) (r : Rep cl F m v (.exc i ns vs)) : ∃ a ox od, v = .ref a ∧ PySem.W.InstAt s.heap a ox (cl i) od := by
  cases r with
  | exc h1 h2 rs =>
    obtain ⟨ox, od, mA, J, _⟩ := exo_inst I.hok (w.ext _ _ h1 (fun _ z => by cases z)) (w.ext _ _ h2 (fun _ z => by cases z))
    exact ⟨_, ox, some od, rfl, J⟩
  | exc0 h1 =>
    obtain ⟨ox, J⟩ := exo_inst0 I.hok (w.ext _ _ h1 (fun _ z => by cases z))
    exact ⟨_, ox, none, rfl, J⟩
theorem kit_cls' {C D : Addr} {b : Bool} (h : PySem.W.subIn K (.ref C) (.ref D) = some b) (hb : C = D → b = true) (hi : (PySem.W.clsIn K D).isSome = true) (ht : PySem.W.typeIn K (.ref D) = some (.type "type")) : PySem.W.kitOne K (.ref C) (.ref D) = some b := by
  unfold PySem.W.kitOne
  by_cases e : (Value.ref C == Value.ref D) = true
  · rw [if_pos e]
    have : C = D := Value.ref.inj (beq_iff_eq.mp e)
    rw [hb this]
  · rw [if_neg e]
    have e3 : (PySem.W.typeIn K (.ref D) == some (.type "type")) = true := by rw [ht] <;> rfl
    show (if ((PySem.W.clsIn K D).isSome && PySem.W.typeIn K (.ref D) == some (.type "type")) = true then _ else _) = _
    rw [hi, e3, if_pos (show (true && true) = true from rfl), h]
theorem cr_isiX {n : Nat} (T : ExT X.K cl n) : CallR X (.builtin "isinstance") (rDs cl (isiXD n)) := by
  intro pins s σ H xs us Q I r q
  obtain ⟨F, m, vh, as, w, ra, q⟩ := q
  obtain ⟨d, e, q2⟩ := run_pure q
  clear q
  unfold isiXR at e
  split at e
  · rename_i i ns vs j
    obtain ⟨v, u, rfl, rv, ru⟩ := reps2 ra
    split at e
    · rename_i hc
      cases Option.some.inj e
      obtain ⟨hi, hj⟩ := hc
      obtain ⟨a, ox, od, rfl, J⟩ := exc_at I w rv
      cases ru
      obtain ⟨u1, u2, rfl, r1, r2⟩ := vals2 r
      cases r1
      cases r2
      have Z := T.F i hi
      have hk : PySem.W.kitOne X.K (.ref (cl i)) (.ref (cl j)) = some (decide (i = j) || decide (j = n)) := by
        by_cases hjn : j = n
        · subst hjn
          have e1 := T.top i hi
          have e2 : (decide (i = j) || decide (j = j)) = true := by simp
          rw [e2]
          exact kit_cls' e1 (fun _ => rfl) (T.is _ (Nat.le_refl _)) (T.ty _ (Nat.le_refl _))
        · have e1 := T.sub i j hi (by omega)
          have e2 : (decide (i = j) || decide (j = n)) = decide (i = j) := by rw [decide_eq_false hjn, Bool.or_false]
          rw [e2]
          refine kit_cls' e1 (fun h => ?_) (T.is _ hj) (T.ty _ hj)
          have e3 := T.sub j j (by omega) (by omega)
          rw [decide_eq_true rfl] at e3
          rw [h, e3] at e1
          exact (Option.some.inj e1).symm
      exact PySem.W.kia_one (PySem.W.kitx_exc (ox := ox) (od := od) (T.is i (by omega)) Z.ga Z.gt Z.sb Z.ha Z.hn Z.ht Z.hm) I.kIn J hk (fun z => nomatch z) fun tk => ⟨.bl _, H, I.tok tk, rfl, Run.ret q2 w _ (.bl _)⟩
    · cases e
  · rename_i i ns vs t
    obtain ⟨v, u, rfl, rv, ru⟩ := reps2 ra
    split at e
    · rename_i hc
      cases Option.some.inj e
      obtain ⟨hi, rfl⟩ := hc
      obtain ⟨a, ox, od, rfl, J⟩ := exc_at I w rv
      cases ru
      obtain ⟨u1, u2, rfl, r1, r2⟩ := vals2 r
      cases r1
      cases (show u2 = Value.type "ValueError" from r2)
      have Z := T.F i hi
      have hk : PySem.W.kitOne X.K (.ref (cl i)) (.type "ValueError") = some true := by
        have e0 : ((Value.ref (cl i)) == (Value.type "ValueError")) = false := rfl
        unfold PySem.W.kitOne
        rw [e0, if_neg Bool.false_ne_true]
        show (if PySem.W.kitMeta "ValueError" = true then PySem.W.subIn X.K (.ref (cl i)) (.type "ValueError") else none) = some true
        rw [if_pos (show PySem.W.kitMeta "ValueError" = true by decide +kernel)]
        exact T.val i hi
      exact PySem.W.kia_one (PySem.W.kitx_exc (ox := ox) (od := od) (T.is i (by omega)) Z.ga Z.gt Z.sb Z.ha Z.hn Z.ht Z.hm) I.kIn J hk (fun z => nomatch z) fun tk => ⟨.bl true, H, I.tok tk, rfl, Run.ret q2 w _ (.bl _)⟩
    · cases e
  · cases e
/-! ### a dict of one pair, written; the same dict is not unlike itself -/
def dic1 (k : Str) (i : Int) : Rho → M D := fun _ => new (.dct [.inr k] [.int i])
theorem de_dic1 {k : Str} {i : Int} {j1 j2 : Nat} {p1 p2 pos : Pos} : DE cl X (.Dict [some (.Constant (.str k) j1 p1)] [.Constant (.int i) j2 p2] pos) (dic1 k i) :=
  PEw (pe_disp (pps_cons pe_str pe_int pps_nil) rfl rfl (by simp) (by simp)) fun σ H Q ⟨F, m, vh, ρ, w, r, q⟩ p hp => by
    refine ⟨upd_same, [(.inr k, .int i)], rfl, by simp, ?_⟩
    rw [upd_upd]
    have z := w.grown (u := .dK (mergeK [] [(.inr k, .int i)])) (o := .dct [.inr k] [.int i]) hp fun P => ⟨_, upd_same, rfl, .cons (.int i) .nil⟩
    exact q _ _ _ z.2 z.1 _ (.ref (at_snoc w.len))
/-- != : a changing dict of one pair and itself -/
def neXD (a b : D) : M D := fun vh => match a, b with
  | .ref n, .ref k => match dctAt vh[n]? with
    | some ([.inr _], [.int _]) => if n = k then some (.bl false, vh) else none
    | some _ => none
    | none => neD a b vh
  | a, b => neD a b vh
theorem op_neXD (hu : X.A.units + 64 < cLine) : OpR X (compareOp .NotEq) (rD2 cl neXD) := by
  intro pins s σ H x y v u Q I rx ry q
  obtain ⟨F, m, vh, a, b, w, ra, rb, q⟩ := q
  unfold neXD at q
  split at q
  · rename_i n k
    split at q
    · rename_i sx ix e
      by_cases hk : n = k
      · subst hk
        rw [if_pos rfl] at q
        obtain ⟨p, kvs, rfl, hm, hp, ek, rs⟩ := w.refDct ra (dctAt_eq e)
        obtain ⟨p', kvs', e2, hm', _⟩ := w.refDct rb (dctAt_eq e)
        subst e2
        rw [hm] at hm'
        cases hm'
        match kvs, ek, rs with
        | [(k1, v1)], ek, rs =>
          simp at ek
          subst ek
          obtain ⟨v2, ev, rv⟩ := reps1 rs
          simp at ev
          subst ev
          cases rep_int rv
          exact op_ne_dictA (X := X) (by omega) pins s σ H _ _ v u Q I rx ry ⟨p, p, _, _, rfl, rfl, hp, hp, rfl, fun z hz => by
            rw [List.mem_singleton.mp hz]
            exact ⟨by simp [valV], rfl⟩, Run.ret (a := D.bl false) q w _ (.bl false)⟩
      · rw [if_neg hk] at q
        exact False.elim q
    · exact False.elim q
    · exact op_neD' hu pins s σ H _ _ v u Q I rx ry ⟨F, m, vh, _, _, w, ra, rb, q⟩
  · exact op_neD' hu pins s σ H _ _ v u Q I rx ry ⟨F, m, vh, _, _, w, ra, rb, q⟩
end
end VL

namespace VL
open PySem PySem.Spec PyProof.Rows L2
theorem b_ValueError : bootBuiltins "ValueError" = some (.type "ValueError") := by decide +kernel
/-- the order of classes above an error of a value -/
abbrev tailVE : List Value := [.type "ValueError", .type "Exception", .type "BaseException", .type "object"]
theorem exT_of {K : PySem.W.Frag} {L : List Addr} {n : Nat} {a : Addr} (hl : L.length = n + 1) (hn : n < 99) (nd : L.Nodup)
    (hc : ∀ i, i < n → ∃ cd, PySem.W.clsIn K (L.getD i 0) = some cd ∧ cd.mro = .ref (L.getD i 0) :: .ref (L.getD n 0) :: tailVE)
    (ht : ∃ cd, PySem.W.clsIn K (L.getD n 0) = some cd)
    (ty : ∀ i, i ≤ n → PySem.W.typeIn K (.ref (L.getD i 0)) = some (.type "type"))
    (F : ∀ i, i < n → ExF K (L.getD i 0)) : ExT K (cl2 (fun c => L.getD c 0) a) n := by
  have eC : ∀ i, i ≤ n → cl2 (fun c => L.getD c 0) a i = L.getD i 0 := fun i hi => if_neg (by omega)
  have inj : ∀ i j, i ≤ n → j ≤ n → L.getD i 0 = L.getD j 0 → i = j := fun i j hi hj h => by
    rw [List.getD_eq_getElem?_getD, List.getD_eq_getElem?_getD, List.getElem?_eq_getElem (by omega), List.getElem?_eq_getElem (by omega)] at h
    exact (List.getElem_inj nd).mp h
  have sub : ∀ i, i < n → ∀ b, PySem.W.subIn K (.ref (L.getD i 0)) b = some ((.ref (L.getD i 0) :: .ref (L.getD n 0) :: tailVE : List Value).contains b) := fun i hi b => by
    obtain ⟨cd, e1, e2⟩ := hc i hi
    show PySem.W.mroIn K _ _ = _
    unfold PySem.W.mroIn
    rw [e1, Option.bind_some, e2, if_neg (by simp)]
  refine ⟨fun i j hi hj => ?_, fun i hi => ?_, fun i hi => ?_, fun i hi => ?_, fun i hi => ?_, fun i hi => ?_⟩
  · rw [eC i (by omega), eC j (by omega), sub i hi]
    congr 1
    rw [Bool.eq_iff_iff, List.contains_iff_mem, decide_eq_true_iff]
    constructor
    · intro h
      simp only [List.mem_cons, List.not_mem_nil, or_false] at h
      rcases h with h | h | h | h | h | h
      · exact (inj j i (by omega) (by omega) (Value.ref.inj h)).symm
      · have := inj j n (by omega) (by omega) (Value.ref.inj h); omega
      all_goals cases h
    · rintro rfl
      exact List.mem_cons_self
  · rw [eC i (by omega), eC n (by omega), sub i hi]
    congr 1
    rw [List.contains_iff_mem]
    exact List.mem_cons_of_mem _ List.mem_cons_self
  · rw [eC i (by omega), sub i hi]
    congr 1
  · rw [eC i hi]
    exact ty i hi
  · rw [eC i hi]
    rcases Nat.lt_or_eq_of_le hi with h | rfl
    · obtain ⟨cd, e1, _⟩ := hc i h
      rw [e1]; rfl
    · obtain ⟨cd, e1⟩ := ht
      rw [e1]; rfl
  · rw [eC i (by omega)]
    exact F i hi
theorem ex_mk {K : PySem.W.Frag} {C : Addr} {cd : ClassData} (h : PySem.W.clsIn K C = some cd) : ∃ cd, PySem.W.clsIn K C = some cd := ⟨_, h⟩
theorem cls_mk {K : PySem.W.Frag} {C : Addr} {cd : ClassData} {m : List Value} (h : PySem.W.clsIn K C = some cd) (e : cd.mro = m) : ∃ cd, PySem.W.clsIn K C = some cd ∧ cd.mro = m := ⟨_, h, e⟩
theorem oex_mk {K : PySem.W.Frag} {C N : Addr} {nm q : Str} {bs bm : List Value} {sn : List Str} {sub : List Value} {ab : Bool} {col : Option Bool} {dd : Option Addr} {k0 k1 k2 k3 k5 : Option Value}
    (h : K.lookup C = some (excClassObj nm q C N bs bm true sn sub ab col dd k0 k1 k2 k3 k5 "ValueError.__new__")) (e : PySem.HandSPX.refsVE bm = true) :
    ∃ nm q N bs bm sn sub ab col dd k0 k1 k2 k3 k5, K.lookup C = some (excClassObj nm q C N bs bm true sn sub ab col dd k0 k1 k2 k3 k5 "ValueError.__new__") ∧ PySem.HandSPX.refsVE bm = true := ⟨_, _, _, _, _, _, _, _, _, _, _, _, _, _, _, h, e⟩
end VL

namespace VL
open PySem PySem.Spec PyProof.Rows L2
section
variable {X : Cx} {cl : Cn}
/-! ### d.get(k) -/
def getD1 (fd fk : Rho → M D) : Rho → M D := fun ρ => bind (fd ρ) fun d => bind (fun vh => if (dctV vh d).isSome = true then some ((), vh) else none) fun _ => bind (fk ρ) fun k => fun vh => match dctV vh d, toKey k with
  | some (ks, vs), some j => some ((valD ks vs j).getD .non, vh)
  | _, _ => none
theorem de_get1 {call o e : Expr} {fd fk : Rho → M D} (ho : DE cl X o fd) (he : DE cl X e fk) (hb : ∀ {to te : TE}, PE X o to → PE X e te → PE X call (tDGet1 to te)) : DE cl X call (getD1 fd fk) :=
  PEw (hb ho he) fun σ H Q ⟨F, m, vh, ρ, w, r, q⟩ => tD_bind w r q fun F1 m1 vh1 H1 d v w1 r1 g1 rv q1 => by
    have q1' := Run.bind q1
    cases e0 : dctV vh1 d with
    | none =>
      simp only [e0] at q1'
      exact False.elim q1'
    | some p =>
      obtain ⟨ks, vs⟩ := p
      simp only [e0] at q1'
      have q2 := q1' F1 m1 H1 .refl w1
      obtain ⟨a, kvs, rfl, hd, ek, ru⟩ := w1.dctV rv e0
      refine ⟨a, rfl, Or.inl ⟨kvs, hd⟩, tD_bind w1 r1 q2 fun F2 m2 vh2 H2 k u w2 r2 g2 rk q4 => ?_⟩
      cases e1 : dctV vh2 d with
      | none => simp only [e1] at q4; exact False.elim q4
      | some p =>
        obtain ⟨ks', vs'⟩ := p
        cases e2 : toKey k with
        | none => simp only [e1, e2] at q4; exact False.elim q4
        | some j =>
          simp only [e1, e2] at q4
          obtain ⟨a', kvs', ea, hd', ek', ru'⟩ := w2.dctV (rv.mono g2) e1
          cases ea
          refine ⟨valV kvs' j, by rw [rep_key e2 rk]; exact DGet.r hd', ?_⟩
          subst ek'
          have vr := val_rep (j := j) ru'
          cases e3 : valD (kvs'.map (·.1)) vs' j with
          | none =>
            rw [vr.2 e3]
            rw [e3] at q4
            exact Run.ret (a := D.non) q4 w2 V.non Rep.non
          | some y =>
            obtain ⟨z, e4, rz⟩ := vr.1 y e3
            rw [e4]
            rw [e3] at q4
            exact Run.ret (a := y) q4 w2 _ rz
end
end VL

namespace VL
open PySem PySem.Spec PyProof.Rows L2
section
variable {X : Cx} {cl : Cn} {K : PySem.W.Frag} {F F' F1 F2 : Hp} {m m' m1 m2 : List Addr} {H H' H1 H2 : Hp} {vh vh1 : VH} {ρ : Rho} {σ : Sl}
/-! ### == of two dicts, and of anything else -/
def hitsD (vh : VH) (ls : List Key) (ws : List D) : List Key → List D → Option Bool
  | [], [] => some true
  | k :: ks, v :: vs => match valD ls ws k with
    | none => some false
    | some y => match eqPy vh v y, hitsD vh ls ws ks vs with
      | some e, some b => some (e && b)
      | _, _ => none
  | _, _ => none
def eqKD (a b : D) : M D := fun vh => match dctV vh a, dctV vh b with
  | some (ks, vs), some (ls, ws) => if ks.length = ls.length then (hitsD vh ls ws ks vs).map fun r => (.bl r, vh) else some (.bl false, vh)
  | _, _ => eqD a b vh
theorem hits_rep {A : Around} {pins : List (Addr × Obj)} {s : Shared} {σ' : L2.St} (I : Inv X pins σ' H s) (w : Wd cl F m vh H) (hu : A.in1.units + 64 < cLine) {ls : List (Key × V)} {ws : List D} {vb : List (Key × Value)} (rb : KV ls vb) (rw' : Reps cl F m (ls.map (·.2)) ws) :
    ∀ (ks : List (Key × V)) (vs : List D) (va : List (Key × Value)) (r : Bool), KV ks va → Reps cl F m (ks.map (·.2)) vs → hitsD vh (ls.map (·.1)) ws (ks.map (·.1)) vs = some r → PySem.W.KeqHits A.in1 s vb va r
  | [], vs, va, r, ra, rs, e => by
    cases rs
    cases e
    cases ra
    exact .nil
  | p :: ks, vs, va, r, ra, rs, e => by
    obtain ⟨k0, v0⟩ := p
    rw [List.map_cons] at rs
    cases rs with
    | @cons _ _ d ds rv rvs =>
      unfold KV at ra
      cases ra with
      | @cons _ q _ qs h t =>
        obtain ⟨k1, u⟩ := q
        obtain ⟨h1, h2⟩ := h
        cases (show k0 = k1 from h1)
        have vr := val_rep (j := k0) rw'
        have e' : (match valD (ls.map (·.1)) ws k0 with
          | none => some false
          | some y => match eqPy vh d y, hitsD vh (ls.map (·.1)) ws (ks.map (·.1)) ds with
            | some e, some b => some (e && b)
            | _, _ => none) = some r := e
        cases e1 : valD (ls.map (·.1)) ws k0 with
        | none =>
          rw [e1] at e'
          cases Option.some.inj e'
          have n0 := vr.2 e1
          have z := rb.val k0
          rw [n0] at z
          refine .miss ?_
          cases e2 : valueAt vb k0 with
          | none => rfl
          | some y => rw [e2] at z; exact z.elim
        | some y =>
          obtain ⟨x, ex, rx⟩ := vr.1 y e1
          cases e2 : eqPy vh d y with
          | none => simp only [e1, e2] at e'; cases e'
          | some c =>
            cases e3 : hitsD vh (ls.map (·.1)) ws (ks.map (·.1)) ds with
            | none => simp only [e1, e2, e3] at e'; cases e'
            | some b =>
              simp only [e1, e2, e3] at e'
              cases Option.some.inj e'
              obtain ⟨d1, d2, p1, p2, s1, s2, ec⟩ := eqPy_rep (K := X.K) w e2 rv rx
              have rr : RelO (some x) (valueAt vb k0) := by rw [← ex]; exact rb.val k0
              obtain ⟨y', hy, ry⟩ := rr.some_of
              obtain ⟨as, r1⟩ := Dp.reads I d1 _ _ p1 h2
              obtain ⟨bs, r2⟩ := Dp.reads I d2 _ _ p2 ry
              have at_ := PySem.W.keq_at (A := A) r1 r2 s1 s2 hu
              rw [ec] at at_
              exact .hit hy at_ (hits_rep I w hu rb rw' ks ds qs b t rvs e3)
theorem op_eqKD (hu : X.A.units + 66 < cLine) : OpR X (compareOp .Eq) (rD2 cl eqKD) := by
  intro pins s σ H x y v u Q I rx ry q
  obtain ⟨F, m, vh, a, b, w, ra, rb, q⟩ := q
  unfold eqKD at q
  split at q
  · rename_i ks vs ls ws e1 e2
    obtain ⟨a1, k1, rfl, h1, ek, r1⟩ := w.dctV ra e1
    obtain ⟨a2, k2, rfl, h2, el, r2⟩ := w.dctV rb e2
    obtain rfl : v = Value.ref a1 := rx
    obtain rfl : u = Value.ref a2 := ry
    subst ek el
    obtain ⟨_, ya, va, kva, da⟩ := dk_rd I.hok h1
    obtain ⟨_, yb, vb, kvb, db⟩ := dk_rd I.hok h2
    have la : k1.length = va.length := Paired.length kva
    have lb : k2.length = vb.length := Paired.length kvb
    split at q
    · rename_i hl
      rw [List.length_map, List.length_map] at hl
      cases e3 : hitsD vh (k2.map (·.1)) ws (k1.map (·.1)) vs with
      | none => rw [e3] at q; exact False.elim q
      | some r =>
        rw [e3] at q
        refine PySem.W.keq_eq (knd := mixKind X.prog X.w) (r := r) ya yb da db (by omega) (fun _ => hits_rep I w (by show X.A.units + 1 + 64 < cLine; omega) kvb r2 _ _ _ _ kva r1 e3) (fin_bl (k := r) I (Run.ret (a := D.bl r) q w _ (.bl r)) ?_)
        rw [← la, ← lb, hl]
        simp
    · rename_i hl
      rw [List.length_map, List.length_map] at hl
      refine PySem.W.keq_eq (knd := mixKind X.prog X.w) (r := false) ya yb da db (by omega) (fun z => absurd (la.trans (z.trans lb.symm)) hl) (fin_bl (k := false) I (Run.ret (a := D.bl false) q w _ (.bl false)) ?_)
      simp
  · exact op_eqD' (by omega) pins s σ H _ _ v u Q I rx ry ⟨F, m, vh, _, _, w, ra, rb, q⟩
/-! ### a dict of one pair, written -/
def dicE (k : Str) (fe : Rho → M D) : Rho → M D := fun ρ => bind (new (.dct [] [])) fun r => bind (fe ρ) fun d => fun vh => match r with
  | .ref n => match dctAt vh[n]? with
    | some ([], []) => some (.ref n, vh.set n (some (.dct [.inr k] [d])))
    | _ => none
  | _ => none
theorem de_dicE {k : Str} {e : Expr} {fe : Rho → M D} {j1 : Nat} {p1 pos : Pos} (he : DE cl X e fe) : DE cl X (.Dict [some (.Constant (.str k) j1 p1)] [e] pos) (dicE k fe) :=
  PEw (pe_disp (pps_cons pe_str he pps_nil) rfl rfl (by simp) (by simp)) fun σ H Q ⟨F, m, vh, ρ, w, r, q⟩ p hp => by
    have z := w.grown (u := .dK []) (o := .dct [] []) hp fun P => ⟨_, upd_same, rfl, .nil⟩
    have q0 := Run.bind q
    have q1 : Run cl F (m ++ [p]) (upd H p (.dK [])) ((bind (fe ρ) fun d => fun vh2 => match dctAt vh2[vh.length]? with
      | some ([], []) => some (D.ref vh.length, vh2.set vh.length (some (.dct [.inr k] [d])))
      | _ => none) (vh ++ [some (.dct [] [])])) (kV' cl Q) := q0 _ _ _ z.2 z.1
    refine tD_bind z.1 (r.mono z.2.gr) q1 fun F2 m2 vh2 H2 d v w2 r2 g2 rv q2 => ?_
    cases e : dctAt vh2[vh.length]? with
    | none => simp only [e] at q2; exact False.elim q2
    | some pr =>
      obtain ⟨ks, vs⟩ := pr
      match ks, vs, e with
      | [], [], e =>
        simp only [e] at q2
        have mp : m2[vh.length]? = some p := g2.pre _ _ (at_snoc w.len)
        obtain ⟨a, kvs, ea, hm, ha, ek, ru⟩ := w2.refDct (n := vh.length) (v := .ref p) (.ref mp) (dctAt_eq e)
        cases ea
        obtain rfl : kvs = [] := by simpa using ek
        have z2 := w2.written (u := .dK (mergeK [] [(.inr k, v)])) (o' := .dct [.inr k] [d]) hm (dctAt_eq e) (fun ob v z => by rw [ha] at z; cases z) fun P => ⟨_, upd_same, rfl, .cons (rv.mono P.gr) .nil⟩
        refine ⟨ha, [(.inr k, v)], rfl, by simp, ?_⟩
        exact q2 _ _ _ z2.2 z2.1 _ (.ref mp)
      | _ :: _, _, e => simp only [e] at q2; exact False.elim q2
      | [], _ :: _, e => simp only [e] at q2; exact False.elim q2
/-! ### a, b, c = x, y, z -/
def parS3 (i j l : Nat) (f : Rho → M (List D)) : Bk := fun ρ => bind (f ρ) fun ds => match ds with
  | [a, b, c] => ret (.nx (((ρ.set i (some a)).set j (some b)).set l (some c)))
  | _ => fail
theorem ds_par3 {st : Stmt} {i j l : Nat} {es : List Expr} {f : Rho → M (List D)} (ha : DA cl X es f) (h : ∀ {ta : TA}, PA X es ta → PS X st (tPar3 i j l ta)) : DS cl X st (parS3 i j l f) :=
  PSw (h ha) fun D σ H ⟨F, m, vh, ρ, w, r, q⟩ => tDs_bind w r q fun F1 m1 vh1 H1 as vs w1 r1 g1 rvs q1 => by
    match as, vs, rvs with
    | [a, b, c], [v, u, t], .cons rv (.cons ru (.cons rt .nil)) => exact ⟨v, u, t, rfl, Run.ret q1 w1 _ (((r1.set rv i).set ru j).set rt l)⟩
    | [], _, _ => exact False.elim q1
    | [_], _, _ => exact False.elim q1
    | [_, _], _, _ => exact False.elim q1
    | _ :: _ :: _ :: _ :: _, _, _ => exact False.elim q1
end
theorem hu66 {A : Around} {k : Nat} (hr : Room k A) : A.units + 66 < cLine := by have := hr.un; omega
end VL

namespace VL
open PySem PySem.Spec PyProof.Rows L2
/-! ### a tuple by 1, by 0 and less -/
abbrev tupO (its : Array Value) (n : Nat) (dd : Option Addr) (sl : Array (Option Value)) : Obj := { cls := .type "tuple", dict := dd, data := .seq its n, slots := sl }
theorem by_one (l : Addr) (its : Array Value) (n : Nat) (dd : Option Addr) (sl : Array (Option Value)) (t : Tok) :
    Meets (Builtin.«tuple.__mul__» ⟨[.ref l, .int 1 t], []⟩) (fun _ R s => s.heap.get? l = some (tupO its n dd sl) ∧ R (.ok (.ret (.ref l))) s) := by
  refine .of_wp fun prog w A R s h => ?_
  obtain ⟨hp, g, d, tk, os⟩ := s
  obtain ⟨at_, h⟩ := h
  have ix := AutoSeq1.idx_int
  have one : (its.isEmpty || (1 : Int) == 1) = true := by rw [Bool.or_comm]; rfl
  wp_walk using wpAny_loadPart' at_
  repeat
    first
    | (refine wpAny_ite_false (by decide) ?_; wp_walk using wpAny_loadPart' at_)
    | (refine wpAny_ite_true (by first | decide | exact decide_eq_true one | simp) ?_; wp_walk using wpAny_loadPart' at_)
  exact ⟨_, rfl, h⟩
theorem by_none (l : Addr) (its : Array Value) (n : Nat) (dd : Option Addr) (sl : Array (Option Value)) (k : Int) (t : Tok) (k0 : k ≤ 0) (k1 : -(2 ^ 63) ≤ k) (ne : its.isEmpty = false) :
    Meets (Builtin.«tuple.__mul__» ⟨[.ref l, .int k t], []⟩) (fun _ R s => s.heap.get? l = some (tupO its n dd sl) ∧
      R (.ok (.ret (.ref s.heap.objs.size))) { s with heap := s.heap.push { cls := .type "tuple", data := .seq #[] }, toks := s.toks }) := by
  refine .of_wp fun prog w A R s h => ?_
  obtain ⟨hp, g, d, tk, os⟩ := s
  obtain ⟨at_, h⟩ := h
  have ix := AutoSeq1.idx_int
  have c0 : (decide (k < -(2 ^ 63)) || decide (k ≥ 2 ^ 63)) = false := by
    rw [decide_eq_false (by omega), decide_eq_false (by omega)]
    rfl
  have c1 : (its.isEmpty || k == 1) = false := by
    rw [ne, Bool.false_or]
    exact beq_eq_false_iff_ne.mpr (by omega)
  have c2 : (decide (k ≤ 0) || its.isEmpty) = true := by
    rw [decide_eq_true k0]
    rfl
  wp_walk using wpAny_loadPart' at_
  repeat
    first
    | (refine wpAny_ite_false (decide_eq_false (by rw [c0]; exact Bool.false_ne_true)) ?_; wp_walk using wpAny_loadPart' at_)
    | (refine wpAny_ite_false (decide_eq_false (by rw [c1]; exact Bool.false_ne_true)) ?_; wp_walk using wpAny_loadPart' at_)
    | (refine wpAny_ite_true (decide_eq_true c2) ?_; wp_walk using wpAny_loadPart' at_)
  exact ⟨_, rfl, h⟩
section
variable {X : Cx} {cl : Cn} {K : PySem.W.Frag} {F F' F1 F2 : Hp} {m m' m1 m2 : List Addr} {H H' H1 H2 : Hp} {vh vh1 : VH} {ρ : Rho} {σ : Sl}
def mulTD (a b : D) : M D := match a, b with
  | .tup xs, .int k => if 0 < xs.length ∧ xs.length ≤ 1000 then (if k = 1 then ret (.tup xs) else if -(4611686018427387904) ≤ k ∧ k ≤ 0 then ret (.tup []) else if 2 ≤ k ∧ k ≤ 1000 then ret (.tup (List.replicate k.toNat xs).flatten) else fail) else fail
  | a, b => mulD a b
theorem op_mulTD : OpR X (binaryOp .Mult) (rD2 cl mulTD) := by
  intro pins s σ H x y v u Q I rx ry q
  obtain ⟨F, m, vh, a, b, w, ra, rb, q⟩ := q
  unfold mulTD at q
  split at q
  · rename_i xs k
    obtain ⟨⟨l0, l1⟩, q0⟩ := run_if q
    clear q
    obtain ⟨l, us, rfl, ea, ru⟩ := rep_tup ra
    cases rep_int rb
    have hT := w.sqT (K := X.K) ea
    have lu : us.length = xs.length := ru.length
    split at q0
    · rename_i k1
      subst k1
      cases rx
      obtain ⟨t, rfl⟩ := ry
      obtain ⟨its, r, ⟨⟨cls, dd, data, sl⟩, ho, hc, n, hd⟩, hs⟩ := I.tuple hT
      simp only at hc hd
      subst hc hd
      refine wpAny_binaryOp_repeat_ref (T := "tuple") (U := "int") (by decide) ⟨_, ho, rfl⟩ (fun s' => typeIs_int s' 1 t) noFill_tuple_mul PySem.F.fills_int_mul PySem.F.slot_int_rmul repeat_tuple PySem.F.slot_int_index.lookup
        (call_meets PySem.F.slot_int_rmul (typeIs_int s 1 t) PySem.F.entry_int_rmul (PySem.F.args_int_rmul_2 _ _) (int_rmul_tuple 1 t l its.toArray n dd sl)
          ⟨ho, rfl, ⟨_, ho, rfl⟩, call_meets PySem.F.slot_tuple_mul ⟨_, ho, rfl⟩ PySem.F.entry_tuple_mul (PySem.F.args_tuple_mul_2 _ _) (by_one l its.toArray n dd sl t) ⟨ho, ?_⟩⟩)
      exact ⟨.ref l, H, I, rfl, Run.ret q0 w _ ra⟩
    · split at q0
      · rename_i k1
        cases rx
        obtain ⟨t, rfl⟩ := ry
        obtain ⟨its, r, ⟨⟨cls, dd, data, sl⟩, ho, hc, n, hd⟩, hs⟩ := I.tuple hT
        simp only at hc hd
        subst hc hd
        have ne : its.toArray.isEmpty = false := by
          have : its.length = us.length := r.length.symm
          cases its with
          | nil => rw [List.length_nil] at this; omega
          | cons a b => rfl
        refine wpAny_binaryOp_repeat_ref (T := "tuple") (U := "int") (by decide) ⟨_, ho, rfl⟩ (fun s' => typeIs_int s' k t) noFill_tuple_mul PySem.F.fills_int_mul PySem.F.slot_int_rmul repeat_tuple PySem.F.slot_int_index.lookup
          (call_meets PySem.F.slot_int_rmul (typeIs_int s k t) PySem.F.entry_int_rmul (PySem.F.args_int_rmul_2 _ _) (int_rmul_tuple k t l its.toArray n dd sl)
            ⟨ho, rfl, ⟨_, ho, rfl⟩, call_meets PySem.F.slot_tuple_mul ⟨_, ho, rfl⟩ PySem.F.entry_tuple_mul (PySem.F.args_tuple_mul_2 _ _) (by_none l its.toArray n dd sl k t k1.2 (by omega) ne) ⟨ho, ?_⟩⟩)
        refine ⟨.ref s.heap.objs.size, _, I.laid (t' := s.toks) (o := .tup []) (fun b ob q => Heap.get?_push_of_some _ q) (Nat.le_refl _) ?_, rfl, runNewTup q0 w .nil (I.hok.fresh (Nat.le_refl _))⟩
        exact ⟨Nat.zero_le _, _, .nil, IsTup.new _ _⟩
      · obtain ⟨⟨k1, k2⟩, q1⟩ := run_if q0
        exact op_repT pins s σ H _ _ v u Q I rx ry ⟨l, k, us, rfl, rfl, hT, (by intro e; rw [e] at lu; simp at lu; omega), k1, k2, (by omega), fun p hp => runNewTup q1 w (ru.rep _) hp⟩
  · exact op_mulD pins s σ H _ _ v u Q I rx ry ⟨F, m, vh, _, _, w, ra, rb, q⟩
/-! ### a dict comprehension whose dict changes later -/
section
variable {tg elt kx vx iter : Expr} {ifs : List Expr} {scope : Scope} {own : List (Str × Nat)} {pos : Pos} {f : Rho → M (List D)} {S : List Nat} {g : Tg} {t : Rho → M Bool} {e ek : Rho → M D}
theorem de_dcM (hc : X.calm = true) (hN : X.N.Nodup) (hi : DI cl X tg iter f) (ok : BlkOk X.N X.env.scope scope own)
    (hg : ∀ (s : Shared) (H : Hp) (C : Addr) (cL : List (Str × Addr)) (fp : List Addr), DG cl (X.blk s H scope (compEnvC scope cL C X.env) fp) tg S g)
    (ht : ∀ (s : Shared) (H : Hp) (C : Addr) (cL : List (Str × Addr)) (fp : List Addr), PTs (X.blk s H scope (compEnvC scope cL C X.env) fp) ifs (tT cl t))
    (hk : ∀ (s : Shared) (H : Hp) (C : Addr) (cL : List (Str × Addr)) (fp : List Addr), DE cl (X.blk s H scope (compEnvC scope cL C X.env) fp) kx ek)
    (he : ∀ (s : Shared) (H : Hp) (C : Addr) (cL : List (Str × Addr)) (fp : List Addr), DE cl (X.blk s H scope (compEnvC scope cL C X.env) fp) vx e)
    (hS : ∀ i, i ∈ S → i ∈ own.map (·.2) := by decide) (hs : ∀ x, foldedSetIterable iter X.env x = pure x := by intro _; rfl) : DE cl X (.DictComp kx vx [⟨tg, iter, ifs, 0⟩] scope pos) (dcD f g t ek e (own.map (·.2)) freshD) :=
  PEw (pe_dc hc hN hi ok hg ht hk he hs) fun σ H Q h => tDcD hS h fun q w r hp => runNewDctM q w r hp
end
end
end VL

namespace VL
open PySem PySem.Spec PyProof.Rows L2
section
variable {X : Cx} {cl : Cn} {a b c : Expr} {op op' : CmpOp} {pos : Pos} {o o' : D → D → M D} {fa fb fc : Rho → M D}
/-- a < b < c -/
def chainD (o o' : D → D → M D) (fa fb fc : Rho → M D) : Rho → M D := fun ρ => bind (fa ρ) fun x => bind (fb ρ) fun y => bind (o x y) fun z => bind (toB z) fun k => if k then bind (fc ρ) fun u => o' y u else ret (.bl false)
theorem tChainD {σ : Sl} {H : Hp} {Q : VK} (h : tD cl (chainD o o' fa fb fc) σ H Q) : tChain (rD2 cl o) (rD2 cl o') (tD cl fa) (tD cl fb) (tD cl fc) σ H Q := by
  obtain ⟨F, m, vh, ρ, w, r, q⟩ := h
  refine tD_bind w r q fun F1 m1 vh1 H1 x v w1 r1 g1 rv q1 => ?_
  refine tD_bind w1 r1 q1 fun F2 m2 vh2 H2 y u w2 r2 g2 ru q2 => ?_
  refine ⟨F2, m2, vh2, x, y, w2, rv.mono g2, ru, (Run.bind q2).mono fun F3 m3 vh3 H3 z p w3 q3 zv rz => ?_⟩
  obtain ⟨k, rfl, q3⟩ := toB_bind q3
  refine ⟨k, rep_bl rz, ?_⟩
  cases k with
  | true => exact iteT (tD_bind w3 (r2.mono p.gr) q3 fun F4 m4 vh4 H4 c x w4 r4 g4 rx q4 => ⟨F4, m4, vh4, y, c, w4, ru.mono (p.gr.trans g4), rx, q4⟩)
  | false => exact iteF (Run.ret q3 w3 _ (.bl false))
theorem de_chain (ho : OpR X (compareOp op) (rD2 cl o)) (ho' : OpR X (compareOp op') (rD2 cl o')) (ha : DE cl X a fa) (hb : DE cl X b fb) (hc : DE cl X c fc) (hm : lastMarks [op, op'] [b, c] = false := by with_unfolding_all rfl) :
    DE cl X (.Compare a [op, op'] [b, c] pos) (chainD o o' fa fb fc) := PEw (pe_chain ho ho' ha hb hc hm) fun σ H Q h => tChainD h
theorem dt_chain (ho : OpR X (compareOp op) (rD2 cl o)) (ho' : OpR X (compareOp op') (rD2 cl o')) (ha : DE cl X a fa) (hb : DE cl X b fb) (hc : DE cl X c fc) (hm : lastMarks [op, op'] [b, c] = false := by with_unfolding_all rfl) :
    DT cl X (.Compare a [op, op'] [b, c] pos) (fun ρ => bind (chainD o o' fa fb fc ρ) toB) := PTw (pt_chain ho ho' ha hb hc hm) fun σ H Q ⟨F, m, vh, ρ, w, r, q⟩ =>
  tChainD ⟨F, m, vh, ρ, w, r, (Run.bind q).mono fun F1 m1 vh1 H1 x p w1 q1 v rv => by
    cases x with
    | bl k => exact ⟨k, rep_bl rv, Run.ret q1 w1⟩
    | _ => exact False.elim q1⟩
end
end VL

namespace K04
open PySem PySem.Spec PyProof.Rows L2 VL
def top (i : Nat) : Stmt := PySem.Challenge.pw_repeatnets_k04_closed_ways_looked_at.main.body.getD i (.Pass ⟨0, 0, 0, 0⟩)
def fuelW : Nat := 100000
structure Tx (K : PySem.W.Frag) (mg : Str → Option Value) (cl : Cn) : Prop where
  b_all : mg "all" = none
  b_any : mg "any" = none
  b_bool : mg "bool" = none
  b_dict : mg "dict" = none
  b_enumerate : mg "enumerate" = none
  b_int : mg "int" = none
  b_isinstance : mg "isinstance" = none
  b_len : mg "len" = none
  b_list : mg "list" = none
  b_range : mg "range" = none
  b_str : mg "str" = none
  b_sum : mg "sum" = none
  b_tuple : mg "tuple" = none
  b_zip : mg "zip" = none
  c_SIGNS : ∃ t, mg "SIGNS" = some (.str "abcdefghijklmnopqrstuvwxyz0123456789." t)
  c_MOST_AXES : ∃ t, mg "MOST_AXES" = some (.int 4 t)
  g_Net : mg "Net" = some (.ref (cl 0))
  cl_Net : Cls K (cl 0)
  mk_Net : PySem.W.makesIn K (cl 0) = true
  kc_Net : PySem.W.keepIn K (.ref (cl 0)) = true
  n_Net__named : NoAttr K (cl 0) "_named"
  n_Net__rooms : NoAttr K (cl 0) "_rooms"
  n_Net__ties : NoAttr K (cl 0) "_ties"
  n_Net_axes : NoAttr K (cl 0) "axes"
section
variable {P : Program} {w : World} {K : PySem.W.Frag} {mg : Str → Option Value} {base : Heap} {cl : Cn}
/-! #### _law_start -/
abbrev s__law_start : Stmt := top 29
abbrev N__law_start : List Str := ["_law_script"]
theorem sc__law_start : FnScope ["_law_script"] ["_law_script"] (defScope s__law_start) := ⟨rfl, rfl, rfl, by decide +kernel, rfl, by decide +kernel, by decide +kernel⟩
def g__law_start (L : List D → M D) : Bk := (retS (denA mkLstM (consA (denA L (consA (var 0) nilA)) (consA (kst (.int 0)) (consA (kst (.int 0)) (consA (kst (.int 11)) nilA))))))
def d__law_start (L : List D → M D) : List D → M D := denF 1 (g__law_start L)
theorem ok__law_start {f : Addr} {fd : FuncData} {L : List D → M D} (T : Tx K mg cl) (hL : ListOk cl K L) (Fu : Fun K "_law_start" "_law_start" s__law_start f fd) (hm : mg "_law_start" = some (.ref f)) : Cal P w K mg base cl "_law_start" 1 1 (d__law_start L) := by
  have nd := sc__law_start.nd
  have body : FnOk P w K mg base CX0 1 f fd ["_law_script"] (spD cl 1 (d__law_start L)) := fn_D Fu sc__law_start (fun cdv A outer s H E hr => (dss_one (ds_ret (de_lstM (da_cons (bT (hL _ rfl) b_list T.b_list (da_cons (vr 0) da_nil)) (da_cons kInt (da_cons kInt (da_cons kInt da_nil))))))))
  exact ⟨f, fd, ["_law_script"], hm, Fu.kp, body, Fu.binds (ps := ["_law_script"]) fun _ _ _ _ _ _ us hl => match us, hl with | [_], _ => rfl⟩
/-! #### _law_draw -/
abbrev s__law_draw : Stmt := top 30
abbrev N__law_draw : List Str := ["_law_stream", "_law_many", "_law_mixed", "_law_cell", "_law_digit"]
theorem sc__law_draw : FnScope ["_law_stream", "_law_many", "_law_mixed", "_law_cell", "_law_digit"] ["_law_stream", "_law_many"] (defScope s__law_draw) := ⟨rfl, rfl, rfl, by decide +kernel, rfl, by decide +kernel, by decide +kernel⟩
def g__law_draw : Bk := (seqS (asgS (den2 addD (den2 ixD (var 0) (kst (.int 2))) (kst (.int 1))) (subG (var 0) (kst (.int 2))))
  (seqS (ifS (andB (cmpT eqD (den2 ixD (var 0) (kst (.int 1))) (kst (.int 0))) (cmpT neD (den2 ixD (var 0) (kst (.int 0))) (denA mkLst nilA)))
  (seqS (asgS (methD isLst (den2 ixD (var 0) (kst (.int 0))) (consA (kst (.int 0)) nilA) popAtD) (nameG 3))
  (seqS (asgS (den2 modD (denA intD (consA (den2 addD (den2 addD (den2 mulD (den2 ixD (var 0) (kst (.int 3))) (kst (.int 8191))) (var 3)) (kst (.int 3))) nilA)) (kst (.int 2147483647))) (subG (var 0) (kst (.int 3))))
  (asgS (ifD (cmpT geD (var 3) (den2 powD (kst (.int 10)) (kst (.int 18)))) (var 3) (kst (.int 0))) (subG (var 0) (kst (.int 1)))))) nopS)
  (seqS (ifS (cmpT gtD (den2 ixD (var 0) (kst (.int 1))) (kst (.int 0)))
  (seqS (asgS (den2 modD (denA intD (consA (den2 ixD (var 0) (kst (.int 1))) nilA)) (var 1)) (nameG 4))
  (seqS (asgS (den2 fdivD (den2 ixD (var 0) (kst (.int 1))) (var 1)) (subG (var 0) (kst (.int 1))))
  (retS (var 4)))) nopS)
  (seqS (asgS (den2 modD (denA intD (consA (den2 powD (den2 addD (den2 addD (den2 ixD (var 0) (kst (.int 3))) (den2 mulD (kst (.int 7919)) (den2 ixD (var 0) (kst (.int 2))))) (kst (.int 104729))) (kst (.int 5))) nilA)) (kst (.int 2147483629))) (nameG 2))
  (retS (den2 modD (den2 modD (denA intD (consA (den2 powD (den2 addD (den2 addD (den2 mulD (var 2) (kst (.int 48271))) (den2 mulD (kst (.int 30011)) (den2 ixD (var 0) (kst (.int 2))))) (kst (.int 29))) (kst (.int 3))) nilA)) (kst (.int 1000000007))) (var 1)))))))
def d__law_draw : List D → M D := denF 5 g__law_draw
theorem ok__law_draw {f : Addr} {fd : FuncData} (T : Tx K mg cl) (Fu : Fun K "_law_draw" "_law_draw" s__law_draw f fd) (hm : mg "_law_draw" = some (.ref f)) : Cal P w K mg base cl "_law_draw" 1 2 d__law_draw := by
  have nd := sc__law_draw.nd
  have body : FnOk P w K mg base CX0 1 f fd ["_law_stream", "_law_many"] (spD cl 2 d__law_draw) := fn_D Fu sc__law_draw (fun cdv A outer s H E hr => (dss_cons (xDput (hu_of hr) (de_op op_addD (de_ix (ix_D (hu_of hr)) (vr 0) kInt (fun _ _ => rfl)) kInt) (vr 0) kInt)
  (dss_cons (ds_if (dt_w (dw_and (dt_cmp (op_eqD' (hr.units)) (de_ix (ix_D (hu_of hr)) (vr 0) kInt (fun _ _ => rfl)) kInt (nomark _)) (dw_and1 (dt_cmp (op_neD' (hr.units)) (de_ix (ix_D (hu_of hr)) (vr 0) kInt (fun _ _ => rfl)) (de_lst da_nil) (nomark _)))))
  (dss_cons (ds_set (mPopAt (de_ix (ix_D (hu_of hr)) (vr 0) kInt (fun _ _ => rfl)) (da_cons kInt da_nil)) fun h => ps_set (i := 3) nd rfl (by first | exact Or.inl rfl | exact Or.inr rfl) h)
  (dss_cons (xDput (hu_of hr) (de_op op_modD (bT cr_int b_int T.b_int (da_cons (de_op op_addD (de_op op_addD (de_op op_mulD (de_ix (ix_D (hu_of hr)) (vr 0) kInt (fun _ _ => rfl)) kInt) (vr 3)) kInt) da_nil)) kInt) (vr 0) kInt)
  (dss_one (xDput (hu_of hr) (de_ifExp (dt_cmp op_geD (vr 3) (de_op op_powD kInt kInt) (nomark _)) (vr 3) kInt) (vr 0) kInt)))) dss_nil)
  (dss_cons (ds_if (dt_cmp op_gtD (de_ix (ix_D (hu_of hr)) (vr 0) kInt (fun _ _ => rfl)) kInt (nomark _))
  (dss_cons (ds_set (de_op op_modD (bT cr_int b_int T.b_int (da_cons (de_ix (ix_D (hu_of hr)) (vr 0) kInt (fun _ _ => rfl)) da_nil)) (vr 1)) fun h => ps_set (i := 4) nd rfl (by first | exact Or.inl rfl | exact Or.inr rfl) h)
  (dss_cons (xDput (hu_of hr) (de_op op_fdivD (de_ix (ix_D (hu_of hr)) (vr 0) kInt (fun _ _ => rfl)) (vr 1)) (vr 0) kInt)
  (dss_one (ds_ret (vr 4))))) dss_nil)
  (dss_cons (ds_set (de_op op_modD (bT cr_int b_int T.b_int (da_cons (de_op op_powD (de_op op_addD (de_op op_addD (de_ix (ix_D (hu_of hr)) (vr 0) kInt (fun _ _ => rfl)) (de_op op_mulD kInt (de_ix (ix_D (hu_of hr)) (vr 0) kInt (fun _ _ => rfl)))) kInt) kInt) da_nil)) kInt) fun h => ps_set (i := 2) nd rfl (by first | exact Or.inl rfl | exact Or.inr rfl) h)
  (dss_one (ds_ret (de_op op_modD (de_op op_modD (bT cr_int b_int T.b_int (da_cons (de_op op_powD (de_op op_addD (de_op op_addD (de_op op_mulD (vr 2) kInt) (de_op op_mulD kInt (de_ix (ix_D (hu_of hr)) (vr 0) kInt (fun _ _ => rfl)))) kInt) kInt) da_nil)) kInt) (vr 1)))))))))
  exact ⟨f, fd, ["_law_stream", "_law_many"], hm, Fu.kp, body, Fu.binds (ps := ["_law_stream", "_law_many"]) fun _ _ _ _ _ _ us hl => match us, hl with | [_, _], _ => rfl⟩
/-! #### _law_pick -/
abbrev s__law_pick : Stmt := top 31
abbrev N__law_pick : List Str := ["_law_stream", "_law_some"]
theorem sc__law_pick : FnScope ["_law_stream", "_law_some"] ["_law_stream", "_law_some"] (defScope s__law_pick) := ⟨rfl, rfl, rfl, by decide +kernel, rfl, by decide +kernel, by decide +kernel⟩
def g__law_pick : Bk := (retS (den2 ixD (var 1) (denA (denC 2 d__law_draw) (consA (var 0) (consA (denA lenD (consA (var 1) nilA)) nilA)))))
def d__law_pick : List D → M D := denF 2 g__law_pick
theorem ok__law_pick {f : Addr} {fd : FuncData} (T : Tx K mg cl) (C__law_draw : Cal P w K mg base cl "_law_draw" 1 2 d__law_draw) (Fu : Fun K "_law_pick" "_law_pick" s__law_pick f fd) (hm : mg "_law_pick" = some (.ref f)) : Cal P w K mg base cl "_law_pick" 2 2 d__law_pick := by
  have nd := sc__law_pick.nd
  have body : FnOk P w K mg base CX0 2 f fd ["_law_stream", "_law_some"] (spD cl 2 d__law_pick) := fn_D Fu sc__law_pick (fun cdv A outer s H E hr => (dss_one (ds_ret (de_ix (ix_D (hu_of hr)) (vr 1) (cF C__law_draw (hr.mono (by decide)) (da_cons (vr 0) (da_cons (bB cr_len b_len T.b_len (da_cons (vr 1) da_nil)) da_nil))) (fun _ _ => rfl)))))
  exact ⟨f, fd, ["_law_stream", "_law_some"], hm, Fu.kp, body, Fu.binds (ps := ["_law_stream", "_law_some"]) fun _ _ _ _ _ _ us hl => match us, hl with | [_, _], _ => rfl⟩
/-! #### _law_n_words -/
abbrev s__law_n_words : Stmt := top 26
abbrev N__law_n_words : List Str := ["_law_stream", "_law_many", "_law_found", "_law_k", "_law_word", "_law_spare", "_law_sign", "_law_letter", "_law_x"]
theorem sc__law_n_words : FnScope ["_law_stream", "_law_many", "_law_found", "_law_k", "_law_word", "_law_spare", "_law_sign", "_law_letter", "_law_x"] ["_law_stream", "_law_many"] (defScope s__law_n_words) := ⟨rfl, rfl, rfl, by decide +kernel, rfl, by decide +kernel, by decide +kernel⟩
def g__law_n_words : Bk := (seqS (asgS (denA mkLstM nilA) (nameG 2))
  (seqS (forS (argI range1It (consA (var 1) nilA)) (nameG 3)
  (seqS (asgS (methD isStr (kst (.str "")) (consA (lcD (argI range1It (consA (den2 addD (kst (.int 1)) (denA (denC 2 d__law_draw) (consA (var 0) (consA (kst (.int 4)) nilA)))) nilA)) (nameG 6) yesT (denA (denC 2 d__law_pick) (consA (var 0) (consA (kst (.str "abcxyz019.")) nilA))) [6] still0) nilA) joinD) (nameG 4))
  (seqS (asgS (den2 addD (denA mkLst (consA (var 4) nilA)) (lcD (seqI (kst (.str "abcdefghijklmnopqrstuvwxyz"))) (nameG 7) yesT (den2 addD (var 7) (kst (.str "q"))) [7] still0)) (nameG 5))
  (dropS (methD isLst (var 2) (consA (den2 ixD (lcD (seqI (var 5)) (nameG 8) (cmpT ninD (var 8) (var 2)) (var 8) [8] still0) (kst (.int 0))) nilA) appendD)))))
  (retS (stE (var 2)))))
def d__law_n_words : List D → M D := denF 9 g__law_n_words
theorem ok__law_n_words {f : Addr} {fd : FuncData} (T : Tx K mg cl) (C__law_draw : Cal P w K mg base cl "_law_draw" 1 2 d__law_draw) (C__law_pick : Cal P w K mg base cl "_law_pick" 2 2 d__law_pick) (Fu : Fun K "_law_n_words" "_law_n_words" s__law_n_words f fd) (hm : mg "_law_n_words" = some (.ref f)) : Cal P w K mg base cl "_law_n_words" 3 2 d__law_n_words := by
  have nd := sc__law_n_words.nd
  have body : FnOk P w K mg base CX0 3 f fd ["_law_stream", "_law_many"] (spD cl 2 d__law_n_words) := fn_D Fu sc__law_n_words (fun cdv A outer s H E hr => (dss_cons (ds_set (de_lstM da_nil) fun h => ps_set (i := 2) nd rfl (by first | exact Or.inl rfl | exact Or.inr rfl) h)
  (dss_cons (ds_for PassesOwn.never rfl (di_range1 (da_cons (vr 1) da_nil) fun h => pi_range1 (by rfl) T.b_range h) (dg_name' (pg_name (i := 3) nd rfl (by first | exact Or.inl rfl | exact Or.inr rfl)))
  (dss_cons (ds_set (mJoin kStr (da_cons (de_lc (own := [("_law_sign", 6)]) rfl nd (di_range1 (da_cons (de_op op_addD kInt (cF C__law_draw (hr.mono (by decide)) (da_cons (vr 0) (da_cons kInt da_nil)))) da_nil) fun h => pi_range1 (by rfl) T.b_range h) (blkOk_by (show blkC N__law_n_words (defScope s__law_n_words) _ _ = true from by decide +kernel)) (fun _ _ _ _ _ => (dg_name' (pg_name (i := 6) nd rfl (by first | exact Or.inl rfl | exact Or.inr rfl)))) (fun _ _ _ _ _ => dts_nil) (fun _ _ _ _ _ => (cF C__law_pick (hr.mono (by decide)) (da_cons (vr 0) (da_cons kStr da_nil))))) da_nil)) fun h => ps_set (i := 4) nd rfl (by first | exact Or.inl rfl | exact Or.inr rfl) h)
  (dss_cons (ds_set (de_op op_addD (de_lst (da_cons (vr 4) da_nil)) (de_lc (own := [("_law_letter", 7)]) rfl nd (di_seq kStr) (blkOk_by (show blkC N__law_n_words (defScope s__law_n_words) _ _ = true from by decide +kernel)) (fun _ _ _ _ _ => (dg_name' (pg_name (i := 7) nd rfl (by first | exact Or.inl rfl | exact Or.inr rfl)))) (fun _ _ _ _ _ => dts_nil) (fun _ _ _ _ _ => (de_op op_addD (vr 7) kStr)))) fun h => ps_set (i := 5) nd rfl (by first | exact Or.inl rfl | exact Or.inr rfl) h)
  (dss_one (ds_expr (mApp (vr 2) (da_cons (de_ix (ix_D (hu_of hr)) (de_lc (own := [("_law_x", 8)]) rfl nd (di_seq (vr 5)) (blkOk_by (show blkC N__law_n_words (defScope s__law_n_words) _ _ = true from by decide +kernel)) (fun _ _ _ _ _ => (dg_name' (pg_name (i := 8) nd rfl (by first | exact Or.inl rfl | exact Or.inr rfl)))) (fun _ _ _ _ _ => (dts_one (dt_cmp (op_ninD (hu_of hr)) (vr 8) (vr 2) (by rfl)))) (fun _ _ _ _ _ => (vr 8))) kInt (fun _ _ => rfl)) da_nil)))))))
  (dss_one (ds_ret (de_still (vr 2)))))))
  exact ⟨f, fd, ["_law_stream", "_law_many"], hm, Fu.kp, body, Fu.binds (ps := ["_law_stream", "_law_many"]) fun _ _ _ _ _ _ us hl => match us, hl with | [_, _], _ => rfl⟩
/-! #### _law_n_plan -/
abbrev s__law_n_plan : Stmt := top 27
abbrev N__law_n_plan : List Str := ["_law_stream", "_law_axes", "_law_halls", "_law_many", "_law_wide", "_law_names", "_law_count", "_law_ties", "_law_k", "_law_name", "_law_start_here", "_law_end", "_law_step", "_law_axis"]
theorem sc__law_n_plan : FnScope ["_law_stream", "_law_axes", "_law_halls", "_law_many", "_law_wide", "_law_names", "_law_count", "_law_ties", "_law_k", "_law_name", "_law_start_here", "_law_end", "_law_step", "_law_axis"] ["_law_stream", "_law_axes", "_law_halls", "_law_many", "_law_wide"] (defScope s__law_n_plan) := ⟨rfl, rfl, rfl, by decide +kernel, rfl, by decide +kernel, by decide +kernel⟩
def g__law_n_plan : Bk := (seqS (asgS (denA (denC 2 d__law_n_words) (consA (var 0) (consA (den2 addD (kst (.int 1)) (denA (denC 2 d__law_draw) (consA (var 0) (consA (var 2) nilA)))) nilA))) (nameG 5))
  (seqS (parS 6 7 (consA (den2 addD (kst (.int 1)) (denA (denC 2 d__law_draw) (consA (var 0) (consA (var 3) nilA)))) (consA (denA mkLstM nilA) nilA)))
  (seqS (forS (argI enumIt (consA (denA (denC 2 d__law_n_words) (consA (var 0) (consA (var 6) nilA))) nilA)) (unpG 2 (consG (nameG 8) (consG (nameG 9) nilG)))
  (seqS (parS 10 11 (consA (denA (denC 2 d__law_pick) (consA (var 0) (consA (var 5) nilA))) (consA (denA (denC 2 d__law_pick) (consA (var 0) (consA (var 5) nilA))) nilA)))
  (seqS (ifS (andB (cmpT ltD (var 8) (denA lenD (consA (var 5) nilA))) (cmpT gtD (denA (denC 2 d__law_draw) (consA (var 0) (consA (kst (.int 4)) nilA))) (kst (.int 0))))
  (parS 10 11 (consA (den2 ixD (var 5) (var 8)) (consA (den2 ixD (var 5) (den2 modD (den2 addD (var 8) (kst (.int 1))) (denA lenD (consA (var 5) nilA)))) nilA))) nopS)
  (seqS (asgS (lcD (argI range1It (consA (var 1) nilA)) (nameG 13) yesT (den2 subD (denA (denC 2 d__law_draw) (consA (var 0) (consA (den2 addD (den2 mulD (kst (.int 2)) (var 4)) (kst (.int 1))) nilA))) (var 4)) [13] still0) (nameG 12))
  (dropS (methD isLst (var 7) (consA (denA mkTup (consA (var 9) (consA (var 10) (consA (var 11) (consA (denA tupleD (consA (var 12) nilA)) nilA))))) nilA) appendD))))))
  (retS (denA mkTup (consA (var 1) (consA (var 5) (consA (stE (var 7)) nilA))))))))
def d__law_n_plan : List D → M D := denF 14 g__law_n_plan
theorem ok__law_n_plan {f : Addr} {fd : FuncData} (T : Tx K mg cl) (C__law_draw : Cal P w K mg base cl "_law_draw" 1 2 d__law_draw) (C__law_n_words : Cal P w K mg base cl "_law_n_words" 3 2 d__law_n_words) (C__law_pick : Cal P w K mg base cl "_law_pick" 2 2 d__law_pick) (Fu : Fun K "_law_n_plan" "_law_n_plan" s__law_n_plan f fd) (hm : mg "_law_n_plan" = some (.ref f)) : Cal P w K mg base cl "_law_n_plan" 4 5 d__law_n_plan := by
  have nd := sc__law_n_plan.nd
  have body : FnOk P w K mg base CX0 4 f fd ["_law_stream", "_law_axes", "_law_halls", "_law_many", "_law_wide"] (spD cl 5 d__law_n_plan) := fn_D Fu sc__law_n_plan (fun cdv A outer s H E hr => (dss_cons (ds_set (cF C__law_n_words (hr.mono (by decide)) (da_cons (vr 0) (da_cons (de_op op_addD kInt (cF C__law_draw (hr.mono (by decide)) (da_cons (vr 0) (da_cons (vr 2) da_nil)))) da_nil))) fun h => ps_set (i := 5) nd rfl (by first | exact Or.inl rfl | exact Or.inr rfl) h)
  (dss_cons (ds_par (da_cons (de_op op_addD kInt (cF C__law_draw (hr.mono (by decide)) (da_cons (vr 0) (da_cons (vr 3) da_nil)))) (da_cons (de_lstM da_nil) da_nil)) fun h => ps_par (i := 6) (j := 7) rfl nd rfl rfl (by decide) rfl rfl h (by rfl))
  (dss_cons (ds_for PassesOwn.never rfl (di_enum (da_cons (cF C__law_n_words (hr.mono (by decide)) (da_cons (vr 0) (da_cons (vr 6) da_nil))) da_nil) fun h => pi_enum (by rfl) T.b_enumerate h) (dg_unp rfl (dgs_cons (dg_name' (pg_name (i := 8) nd rfl (by first | exact Or.inl rfl | exact Or.inr rfl))) (dgs_cons (dg_name' (pg_name (i := 9) nd rfl (by first | exact Or.inl rfl | exact Or.inr rfl))) dgs_nil)))
  (dss_cons (ds_par (da_cons (cF C__law_pick (hr.mono (by decide)) (da_cons (vr 0) (da_cons (vr 5) da_nil))) (da_cons (cF C__law_pick (hr.mono (by decide)) (da_cons (vr 0) (da_cons (vr 5) da_nil))) da_nil)) fun h => ps_par (i := 10) (j := 11) rfl nd rfl rfl (by decide) rfl rfl h (by rfl))
  (dss_cons (ds_if (dt_w (dw_and (dt_cmp op_ltD (vr 8) (bB cr_len b_len T.b_len (da_cons (vr 5) da_nil)) (nomark _)) (dw_and1 (dt_cmp op_gtD (cF C__law_draw (hr.mono (by decide)) (da_cons (vr 0) (da_cons kInt da_nil))) kInt (nomark _)))))
  (dss_one (ds_par (da_cons (de_ix (ix_D (hu_of hr)) (vr 5) (vr 8) (fun _ _ => rfl)) (da_cons (de_ix (ix_D (hu_of hr)) (vr 5) (de_op op_modD (de_op op_addD (vr 8) kInt) (bB cr_len b_len T.b_len (da_cons (vr 5) da_nil))) (fun _ _ => rfl)) da_nil)) fun h => ps_par (i := 10) (j := 11) rfl nd rfl rfl (by decide) rfl rfl h (by rfl))) dss_nil)
  (dss_cons (ds_setLc (i := 12) (own := [("_law_axis", 13)]) rfl nd rfl rfl (sw_true rfl rfl rfl (by decide +kernel)) (di_range1 (da_cons (vr 1) da_nil) fun h => pi_range1 (by rfl) T.b_range h) (blkOk_by (show blkC N__law_n_plan (defScope s__law_n_plan) _ _ = true from by decide +kernel)) (fun _ _ _ _ _ => (dg_name' (pg_name (i := 13) nd rfl (by first | exact Or.inl rfl | exact Or.inr rfl)))) (fun _ _ _ _ _ => dts_nil) (fun _ _ _ _ _ => (de_op op_subD (cF C__law_draw (hr.mono (by decide)) (da_cons (vr 0) (da_cons (de_op op_addD (de_op op_mulD kInt (vr 4)) kInt) da_nil))) (vr 4))))
  (dss_one (ds_expr (mApp (vr 7) (da_cons (de_tup (da_cons (vr 9) (da_cons (vr 10) (da_cons (vr 11) (da_cons (bT cr_tuple b_tuple T.b_tuple (da_cons (vr 12) da_nil)) da_nil))))) da_nil))))))))
  (dss_one (ds_ret (de_tup (da_cons (vr 1) (da_cons (vr 5) (da_cons (de_still (vr 7)) da_nil))))))))))
  exact ⟨f, fd, ["_law_stream", "_law_axes", "_law_halls", "_law_many", "_law_wide"], hm, Fu.kp, body, Fu.binds (ps := ["_law_stream", "_law_axes", "_law_halls", "_law_many", "_law_wide"]) fun _ _ _ _ _ _ us hl => match us, hl with | [_, _, _, _, _], _ => rfl⟩
/-! #### is_whole -/
abbrev s_is_whole : Stmt := top 11
abbrev N_is_whole : List Str := ["thing"]
theorem sc_is_whole : FnScope ["thing"] ["thing"] (defScope s_is_whole) := ⟨rfl, rfl, rfl, by decide +kernel, rfl, by decide +kernel, by decide +kernel⟩
def g_is_whole : Bk := (retS (andD (denA isiD (consA (var 0) (consA (kst (.ty "int")) nilA))) (den1 notD (denA isiD (consA (var 0) (consA (kst (.ty "bool")) nilA))))))
def d_is_whole : List D → M D := denF 1 g_is_whole
theorem ok_is_whole {f : Addr} {fd : FuncData} (T : Tx K mg cl) (Fu : Fun K "is_whole" "is_whole" s_is_whole f fd) (hm : mg "is_whole" = some (.ref f)) : Cal P w K mg base cl "is_whole" 1 1 d_is_whole := by
  have nd := sc_is_whole.nd
  have body : FnOk P w K mg base CX0 1 f fd ["thing"] (spD cl 1 d_is_whole) := fn_D Fu sc_is_whole (fun cdv A outer s H E hr => (dss_one (ds_ret (de_and (bB cr_isi b_isinstance T.b_isinstance (da_cons (vr 0) (da_cons (kTy b_int T.b_int) da_nil))) (de_one (de_not (bB cr_isi b_isinstance T.b_isinstance (da_cons (vr 0) (da_cons (kTy b_bool T.b_bool) da_nil)))))))))
  exact ⟨f, fd, ["thing"], hm, Fu.kp, body, Fu.binds (ps := ["thing"]) fun _ _ _ _ _ _ us hl => match us, hl with | [_], _ => rfl⟩
/-! #### is_between -/
abbrev s_is_between : Stmt := top 12
abbrev N_is_between : List Str := ["thing", "least", "most"]
theorem sc_is_between : FnScope ["thing", "least", "most"] ["thing", "least", "most"] (defScope s_is_between) := ⟨rfl, rfl, rfl, by decide +kernel, rfl, by decide +kernel, by decide +kernel⟩
def g_is_between : Bk := (retS (andD (denA (denC 1 d_is_whole) (consA (var 0) nilA)) (chainD leD leD (var 1) (var 0) (var 2))))
def d_is_between : List D → M D := denF 3 g_is_between
theorem ok_is_between {f : Addr} {fd : FuncData} (T : Tx K mg cl) (C_is_whole : Cal P w K mg base cl "is_whole" 1 1 d_is_whole) (Fu : Fun K "is_between" "is_between" s_is_between f fd) (hm : mg "is_between" = some (.ref f)) : Cal P w K mg base cl "is_between" 2 3 d_is_between := by
  have nd := sc_is_between.nd
  have body : FnOk P w K mg base CX0 2 f fd ["thing", "least", "most"] (spD cl 3 d_is_between) := fn_D Fu sc_is_between (fun cdv A outer s H E hr => (dss_one (ds_ret (de_and (cF C_is_whole (hr.mono (by decide)) (da_cons (vr 0) da_nil)) (de_one (de_chain op_leD op_leD (vr 1) (vr 0) (vr 2)))))))
  exact ⟨f, fd, ["thing", "least", "most"], hm, Fu.kp, body, Fu.binds (ps := ["thing", "least", "most"]) fun _ _ _ _ _ _ us hl => match us, hl with | [_, _, _], _ => rfl⟩
/-! #### is_list -/
abbrev s_is_list : Stmt := top 13
abbrev N_is_list : List Str := ["thing"]
theorem sc_is_list : FnScope ["thing"] ["thing"] (defScope s_is_list) := ⟨rfl, rfl, rfl, by decide +kernel, rfl, by decide +kernel, by decide +kernel⟩
def g_is_list : Bk := (retS (denA isiD (consA (var 0) (consA (denA mkTup (consA (kst (.ty "list")) (consA (kst (.ty "tuple")) nilA))) nilA))))
def d_is_list : List D → M D := denF 1 g_is_list
theorem ok_is_list {f : Addr} {fd : FuncData} (T : Tx K mg cl) (Fu : Fun K "is_list" "is_list" s_is_list f fd) (hm : mg "is_list" = some (.ref f)) : Cal P w K mg base cl "is_list" 1 1 d_is_list := by
  have nd := sc_is_list.nd
  have body : FnOk P w K mg base CX0 1 f fd ["thing"] (spD cl 1 d_is_list) := fn_D Fu sc_is_list (fun cdv A outer s H E hr => (dss_one (ds_ret (bB cr_isi b_isinstance T.b_isinstance (da_cons (vr 0) (da_cons (de_tup (da_cons (kTy b_list T.b_list) (da_cons (kTy b_tuple T.b_tuple) da_nil))) da_nil))))))
  exact ⟨f, fd, ["thing"], hm, Fu.kp, body, Fu.binds (ps := ["thing"]) fun _ _ _ _ _ _ us hl => match us, hl with | [_], _ => rfl⟩
/-! #### is_name -/
abbrev s_is_name : Stmt := top 14
abbrev N_is_name : List Str := ["thing", "sign"]
theorem sc_is_name : FnScope ["thing", "sign"] ["thing"] (defScope s_is_name) := ⟨rfl, rfl, rfl, by decide +kernel, rfl, by decide +kernel, by decide +kernel⟩
def g_is_name : Bk := (retS (andD (denA isiD (consA (var 0) (consA (kst (.ty "str")) nilA))) (andD (den2 gtD (denA lenD (consA (var 0) nilA)) (kst (.int 0))) (denA allD (consA (lcD (seqI (var 0)) (nameG 1) yesT (den2 inD (var 1) (kst (.str "abcdefghijklmnopqrstuvwxyz0123456789."))) [1] still0) nilA)))))
def d_is_name : List D → M D := denF 2 g_is_name
theorem ok_is_name {f : Addr} {fd : FuncData} (T : Tx K mg cl) (Fu : Fun K "is_name" "is_name" s_is_name f fd) (hm : mg "is_name" = some (.ref f)) : Cal P w K mg base cl "is_name" 1 1 d_is_name := by
  have nd := sc_is_name.nd
  have body : FnOk P w K mg base CX0 1 f fd ["thing"] (spD cl 1 d_is_name) := fn_D Fu sc_is_name (fun cdv A outer s H E hr => (dss_one (ds_ret (de_and (bB cr_isi b_isinstance T.b_isinstance (da_cons (vr 0) (da_cons (kTy b_str T.b_str) da_nil))) (de_and (de_cmp op_gtD (bB cr_len b_len T.b_len (da_cons (vr 0) da_nil)) kInt (nomark _)) (de_one (bB (crr_all rfl) b_all T.b_all (da_cons (de_lc (own := [("sign", 1)]) rfl nd (di_seq (vr 0)) (blkOk_by (show blkC N_is_name (defScope s_is_name) _ _ = true from by decide +kernel)) (fun _ _ _ _ _ => (dg_name' (pg_name (i := 1) nd rfl (by first | exact Or.inl rfl | exact Or.inr rfl)))) (fun _ _ _ _ _ => dts_nil) (fun _ _ _ _ _ => (de_cmp (op_inD (hu_of hr)) (vr 1) (kGs T.c_SIGNS) (by rfl)))) da_nil))))))))
  exact ⟨f, fd, ["thing"], hm, Fu.kp, body, Fu.binds (ps := ["thing"]) fun _ _ _ _ _ _ us hl => match us, hl with | [_], _ => rfl⟩
/-! #### are_rooms -/
abbrev s_are_rooms : Stmt := top 19
abbrev N_are_rooms : List Str := ["thing", "word"]
theorem sc_are_rooms : FnScope ["thing", "word"] ["thing"] (defScope s_are_rooms) := ⟨rfl, rfl, rfl, by decide +kernel, rfl, by decide +kernel, by decide +kernel⟩
def g_are_rooms : Bk := (seqS (ifS (orB (notB (valT (denA (denC 1 d_is_list) (consA (var 0) nilA)))) (orB (cmpT eqD (denA lenD (consA (var 0) nilA)) (kst (.int 0))) (notB (valT (denA allD (consA (lcD (seqI (var 0)) (nameG 1) yesT (denA (denC 1 d_is_name) (consA (var 1) nilA)) [1] still0) nilA))))))
  (retS (kst (.bl false))) nopS)
  (retS (den2 eqD (denA lenD (consA (dcD (seqI (var 0)) (nameG 1) yesT (var 1) (kst (.bl true)) [1] stillD) nilA)) (denA lenD (consA (var 0) nilA)))))
def d_are_rooms : List D → M D := denF 2 g_are_rooms
theorem ok_are_rooms {f : Addr} {fd : FuncData} (T : Tx K mg cl) (C_is_list : Cal P w K mg base cl "is_list" 1 1 d_is_list) (C_is_name : Cal P w K mg base cl "is_name" 1 1 d_is_name) (Fu : Fun K "are_rooms" "are_rooms" s_are_rooms f fd) (hm : mg "are_rooms" = some (.ref f)) : Cal P w K mg base cl "are_rooms" 2 1 d_are_rooms := by
  have nd := sc_are_rooms.nd
  have body : FnOk P w K mg base CX0 2 f fd ["thing"] (spD cl 1 d_are_rooms) := fn_D Fu sc_are_rooms (fun cdv A outer s H E hr => (dss_cons (ds_if (dt_w (dw_or (dt_not (dt_val (cF C_is_list (hr.mono (by decide)) (da_cons (vr 0) da_nil)))) (dw_or (dt_cmp (op_eqD' (hr.units)) (bB cr_len b_len T.b_len (da_cons (vr 0) da_nil)) kInt (nomark _)) (dw_or1 (dt_not (dt_val (bB (crr_all rfl) b_all T.b_all (da_cons (de_lc (own := [("word", 1)]) rfl nd (di_seq (vr 0)) (blkOk_by (show blkC N_are_rooms (defScope s_are_rooms) _ _ = true from by decide +kernel)) (fun _ _ _ _ _ => (dg_name' (pg_name (i := 1) nd rfl (by first | exact Or.inl rfl | exact Or.inr rfl)))) (fun _ _ _ _ _ => dts_nil) (fun _ _ _ _ _ => (cF C_is_name (hr.mono (by decide)) (da_cons (vr 1) da_nil)))) da_nil))))))))
  (dss_one (ds_ret kBl)) dss_nil)
  (dss_one (ds_ret (de_cmp (op_eqD' (hr.units)) (bB cr_len b_len T.b_len (da_cons (de_dc (own := [("word", 1)]) rfl nd (di_seq (vr 0)) (blkOk_by (show blkC N_are_rooms (defScope s_are_rooms) _ _ = true from by decide +kernel)) (fun _ _ _ _ _ => (dg_name' (pg_name (i := 1) nd rfl (by first | exact Or.inl rfl | exact Or.inr rfl)))) (fun _ _ _ _ _ => dts_nil) (fun _ _ _ _ _ => (vr 1)) (fun _ _ _ _ _ => kBl)) da_nil)) (bB cr_len b_len T.b_len (da_cons (vr 0) da_nil)) (nomark _))))))
  exact ⟨f, fd, ["thing"], hm, Fu.kp, body, Fu.binds (ps := ["thing"]) fun _ _ _ _ _ _ us hl => match us, hl with | [_], _ => rfl⟩
/-! #### is_key -/
abbrev s_is_key : Stmt := top 15
abbrev N_is_key : List Str := ["thing", "table"]
theorem sc_is_key : FnScope ["thing", "table"] ["thing", "table"] (defScope s_is_key) := ⟨rfl, rfl, rfl, by decide +kernel, rfl, by decide +kernel, by decide +kernel⟩
def g_is_key : Bk := (retS (andD (denA isiD (consA (var 0) (consA (kst (.ty "str")) nilA))) (den2 inD (var 0) (var 1))))
def d_is_key : List D → M D := denF 2 g_is_key
theorem ok_is_key {f : Addr} {fd : FuncData} (T : Tx K mg cl) (Fu : Fun K "is_key" "is_key" s_is_key f fd) (hm : mg "is_key" = some (.ref f)) : Cal P w K mg base cl "is_key" 1 2 d_is_key := by
  have nd := sc_is_key.nd
  have body : FnOk P w K mg base CX0 1 f fd ["thing", "table"] (spD cl 2 d_is_key) := fn_D Fu sc_is_key (fun cdv A outer s H E hr => (dss_one (ds_ret (de_and (bB cr_isi b_isinstance T.b_isinstance (da_cons (vr 0) (da_cons (kTy b_str T.b_str) da_nil))) (de_one (de_cmp (op_inD (hu_of hr)) (vr 0) (vr 1) (by rfl)))))))
  exact ⟨f, fd, ["thing", "table"], hm, Fu.kp, body, Fu.binds (ps := ["thing", "table"]) fun _ _ _ _ _ _ us hl => match us, hl with | [_, _], _ => rfl⟩
/-! #### are_whole -/
abbrev s_are_whole : Stmt := top 16
abbrev N_are_whole : List Str := ["thing", "many", "number"]
theorem sc_are_whole : FnScope ["thing", "many", "number"] ["thing", "many"] (defScope s_are_whole) := ⟨rfl, rfl, rfl, by decide +kernel, rfl, by decide +kernel, by decide +kernel⟩
def g_are_whole : Bk := (retS (andD (denA (denC 1 d_is_list) (consA (var 0) nilA)) (andD (den2 eqD (denA lenD (consA (var 0) nilA)) (var 1)) (denA allD (consA (lcD (seqI (var 0)) (nameG 2) yesT (denA (denC 1 d_is_whole) (consA (var 2) nilA)) [2] still0) nilA)))))
def d_are_whole : List D → M D := denF 3 g_are_whole
theorem ok_are_whole {f : Addr} {fd : FuncData} (T : Tx K mg cl) (C_is_list : Cal P w K mg base cl "is_list" 1 1 d_is_list) (C_is_whole : Cal P w K mg base cl "is_whole" 1 1 d_is_whole) (Fu : Fun K "are_whole" "are_whole" s_are_whole f fd) (hm : mg "are_whole" = some (.ref f)) : Cal P w K mg base cl "are_whole" 2 2 d_are_whole := by
  have nd := sc_are_whole.nd
  have body : FnOk P w K mg base CX0 2 f fd ["thing", "many"] (spD cl 2 d_are_whole) := fn_D Fu sc_are_whole (fun cdv A outer s H E hr => (dss_one (ds_ret (de_and (cF C_is_list (hr.mono (by decide)) (da_cons (vr 0) da_nil)) (de_and (de_cmp (op_eqD' (hr.units)) (bB cr_len b_len T.b_len (da_cons (vr 0) da_nil)) (vr 1) (nomark _)) (de_one (bB (crr_all rfl) b_all T.b_all (da_cons (de_lc (own := [("number", 2)]) rfl nd (di_seq (vr 0)) (blkOk_by (show blkC N_are_whole (defScope s_are_whole) _ _ = true from by decide +kernel)) (fun _ _ _ _ _ => (dg_name' (pg_name (i := 2) nd rfl (by first | exact Or.inl rfl | exact Or.inr rfl)))) (fun _ _ _ _ _ => dts_nil) (fun _ _ _ _ _ => (cF C_is_whole (hr.mono (by decide)) (da_cons (vr 2) da_nil)))) da_nil))))))))
  exact ⟨f, fd, ["thing", "many"], hm, Fu.kp, body, Fu.binds (ps := ["thing", "many"]) fun _ _ _ _ _ _ us hl => match us, hl with | [_, _], _ => rfl⟩
/-! #### is_tie -/
abbrev s_is_tie : Stmt := top 20
abbrev N_is_tie : List Str := ["axes", "rooms", "thing", "name", "start", "end", "step"]
theorem sc_is_tie : FnScope ["axes", "rooms", "thing", "name", "start", "end", "step"] ["axes", "rooms", "thing"] (defScope s_is_tie) := ⟨rfl, rfl, rfl, by decide +kernel, rfl, by decide +kernel, by decide +kernel⟩
def g_is_tie : Bk := (seqS (ifS (orB (notB (valT (denA (denC 1 d_is_list) (consA (var 2) nilA)))) (cmpT neD (denA lenD (consA (var 2) nilA)) (kst (.int 4))))
  (retS (kst (.bl false))) nopS)
  (seqS (asgS (var 2) (unpG 4 (consG (nameG 3) (consG (nameG 4) (consG (nameG 5) (consG (nameG 6) nilG))))))
  (retS (andD (denA (denC 1 d_is_name) (consA (var 3) nilA)) (andD (denA (denC 2 d_is_key) (consA (var 4) (consA (var 1) nilA))) (andD (denA (denC 2 d_is_key) (consA (var 5) (consA (var 1) nilA))) (denA (denC 2 d_are_whole) (consA (var 6) (consA (var 0) nilA)))))))))
def d_is_tie : List D → M D := denF 7 g_is_tie
theorem ok_is_tie {f : Addr} {fd : FuncData} (T : Tx K mg cl) (C_are_whole : Cal P w K mg base cl "are_whole" 2 2 d_are_whole) (C_is_key : Cal P w K mg base cl "is_key" 1 2 d_is_key) (C_is_list : Cal P w K mg base cl "is_list" 1 1 d_is_list) (C_is_name : Cal P w K mg base cl "is_name" 1 1 d_is_name) (Fu : Fun K "is_tie" "is_tie" s_is_tie f fd) (hm : mg "is_tie" = some (.ref f)) : Cal P w K mg base cl "is_tie" 3 3 d_is_tie := by
  have nd := sc_is_tie.nd
  have body : FnOk P w K mg base CX0 3 f fd ["axes", "rooms", "thing"] (spD cl 3 d_is_tie) := fn_D Fu sc_is_tie (fun cdv A outer s H E hr => (dss_cons (ds_if (dt_w (dw_or (dt_not (dt_val (cF C_is_list (hr.mono (by decide)) (da_cons (vr 2) da_nil)))) (dw_or1 (dt_cmp (op_neD' (hr.units)) (bB cr_len b_len T.b_len (da_cons (vr 2) da_nil)) kInt (nomark _)))))
  (dss_one (ds_ret kBl)) dss_nil)
  (dss_cons (ds_asg (vr 2) (dg_unp rfl (dgs_cons (dg_name' (pg_name (i := 3) nd rfl (by first | exact Or.inl rfl | exact Or.inr rfl))) (dgs_cons (dg_name' (pg_name (i := 4) nd rfl (by first | exact Or.inl rfl | exact Or.inr rfl))) (dgs_cons (dg_name' (pg_name (i := 5) nd rfl (by first | exact Or.inl rfl | exact Or.inr rfl))) (dgs_cons (dg_name' (pg_name (i := 6) nd rfl (by first | exact Or.inl rfl | exact Or.inr rfl))) dgs_nil))))))
  (dss_one (ds_ret (de_and (cF C_is_name (hr.mono (by decide)) (da_cons (vr 3) da_nil)) (de_and (cF C_is_key (hr.mono (by decide)) (da_cons (vr 4) (da_cons (vr 1) da_nil))) (de_and (cF C_is_key (hr.mono (by decide)) (da_cons (vr 5) (da_cons (vr 1) da_nil))) (de_one (cF C_are_whole (hr.mono (by decide)) (da_cons (vr 6) (da_cons (vr 0) da_nil))))))))))))
  exact ⟨f, fd, ["axes", "rooms", "thing"], hm, Fu.kp, body, Fu.binds (ps := ["axes", "rooms", "thing"]) fun _ _ _ _ _ _ us hl => match us, hl with | [_, _, _], _ => rfl⟩
/-! #### first_no_tie -/
abbrev s_first_no_tie : Stmt := top 21
abbrev N_first_no_tie : List Str := ["axes", "rooms", "taken", "ties", "known", "names", "index", "thing", "room"]
theorem sc_first_no_tie : FnScope ["axes", "rooms", "taken", "ties", "known", "names", "index", "thing", "room"] ["axes", "rooms", "taken", "ties"] (defScope s_first_no_tie) := ⟨rfl, rfl, rfl, by decide +kernel, rfl, by decide +kernel, by decide +kernel⟩
def g_first_no_tie : Bk := (seqS (ifS (notB (valT (denA (denC 1 d_is_list) (consA (var 3) nilA))))
  (retS (kst (.int 0))) nopS)
  (seqS (asgS (dcD (seqI (var 1)) (nameG 8) yesT (var 8) (kst (.bl true)) [8] stillD) (nameG 4))
  (seqS (asgS (fun _ => freshD ([], [])) (nameG 5))
  (seqS (forS (argI enumIt (consA (var 3) nilA)) (unpG 2 (consG (nameG 6) (consG (nameG 7) nilG)))
  (seqS (ifS (orB (notB (valT (denA (denC 3 d_is_tie) (consA (var 0) (consA (var 4) (consA (var 7) nilA)))))) (orB (cmpT inD (den2 ixD (var 7) (kst (.int 0))) (var 2)) (cmpT inD (den2 ixD (var 7) (kst (.int 0))) (var 5))))
  (retS (var 6)) nopS)
  (asgS (kst (.bl true)) (subG (var 5) (den2 ixD (var 7) (kst (.int 0)))))))
  (retS (kst .non))))))
def d_first_no_tie : List D → M D := denF 9 g_first_no_tie
theorem ok_first_no_tie {f : Addr} {fd : FuncData} (T : Tx K mg cl) (C_is_list : Cal P w K mg base cl "is_list" 1 1 d_is_list) (C_is_tie : Cal P w K mg base cl "is_tie" 3 3 d_is_tie) (Fu : Fun K "first_no_tie" "first_no_tie" s_first_no_tie f fd) (hm : mg "first_no_tie" = some (.ref f)) : Cal P w K mg base cl "first_no_tie" 4 4 d_first_no_tie := by
  have nd := sc_first_no_tie.nd
  have body : FnOk P w K mg base CX0 4 f fd ["axes", "rooms", "taken", "ties"] (spD cl 4 d_first_no_tie) := fn_D Fu sc_first_no_tie (fun cdv A outer s H E hr => (dss_cons (ds_if (dt_not (dt_val (cF C_is_list (hr.mono (by decide)) (da_cons (vr 3) da_nil))))
  (dss_one (ds_ret kInt)) dss_nil)
  (dss_cons (ds_setDc (i := 4) (own := [("room", 8)]) rfl nd rfl rfl (swD rfl rfl rfl (by decide +kernel)) (di_seq (vr 1)) (blkOk_by (show blkC N_first_no_tie (defScope s_first_no_tie) _ _ = true from by decide +kernel)) (fun _ _ _ _ _ => (dg_name' (pg_name (i := 8) nd rfl (by first | exact Or.inl rfl | exact Or.inr rfl)))) (fun _ _ _ _ _ => dts_nil) (fun _ _ _ _ _ => (vr 8)) (fun _ _ _ _ _ => kBl))
  (dss_cons (ds_set de_dnewM fun h => ps_set (i := 5) nd rfl (by first | exact Or.inl rfl | exact Or.inr rfl) h)
  (dss_cons (ds_for PassesOwn.never rfl (di_enum (da_cons (vr 3) da_nil) fun h => pi_enum (by rfl) T.b_enumerate h) (dg_unp rfl (dgs_cons (dg_name' (pg_name (i := 6) nd rfl (by first | exact Or.inl rfl | exact Or.inr rfl))) (dgs_cons (dg_name' (pg_name (i := 7) nd rfl (by first | exact Or.inl rfl | exact Or.inr rfl))) dgs_nil)))
  (dss_cons (ds_if (dt_w (dw_or (dt_not (dt_val (cF C_is_tie (hr.mono (by decide)) (da_cons (vr 0) (da_cons (vr 4) (da_cons (vr 7) da_nil)))))) (dw_or (dt_cmp (op_inD (hu_of hr)) (de_ix (ix_D (hu_of hr)) (vr 7) kInt (fun _ _ => rfl)) (vr 2) (by rfl)) (dw_or1 (dt_cmp (op_inD (hu_of hr)) (de_ix (ix_D (hu_of hr)) (vr 7) kInt (fun _ _ => rfl)) (vr 5) (by rfl))))))
  (dss_one (ds_ret (vr 6))) dss_nil)
  (dss_one (xDput (hu_of hr) kBl (vr 5) (de_ix (ix_D (hu_of hr)) (vr 7) kInt (fun _ _ => rfl))))))
  (dss_one (ds_ret kNon)))))))
  exact ⟨f, fd, ["axes", "rooms", "taken", "ties"], hm, Fu.kp, body, Fu.binds (ps := ["axes", "rooms", "taken", "ties"]) fun _ _ _ _ _ _ us hl => match us, hl with | [_, _, _, _], _ => rfl⟩
/-! #### Net.__init__ -/
abbrev s_Net___init__ : Stmt := inClass (top 22) 0
abbrev N_Net___init__ : List Str := ["self", "axes", "rooms", "ties", "index", "tie", "name", "start", "end", "step"]
theorem sc_Net___init__ : FnScope ["self", "axes", "rooms", "ties", "index", "tie", "name", "start", "end", "step"] ["self", "axes", "rooms", "ties"] (defScope s_Net___init__) := ⟨rfl, rfl, rfl, by decide +kernel, rfl, by decide +kernel, by decide +kernel⟩
def g_Net___init__ : Bk := (seqS (ifS (notB (valT (denA (denC 3 d_is_between) (consA (var 1) (consA (kst (.int 0)) (consA (kst (.int 4)) nilA))))))
  neverS nopS)
  (seqS (ifS (notB (valT (denA (denC 1 d_are_rooms) (consA (var 2) nilA))))
  neverS nopS)
  (seqS (asgS (denA (denC 4 d_first_no_tie) (consA (var 1) (consA (var 2) (consA (fun _ => stillD ([], [])) (consA (var 3) nilA))))) (nameG 4))
  (seqS (ifS (cmpT isNotD (var 4) (kst .non))
  neverS nopS)
  (seqS (fldS 0 "axes" (var 0) (var 1))
  (seqS (fldS 0 "_rooms" (var 0) (denA tupleD (consA (var 2) nilA)))
  (seqS (fldS 0 "_ties" (var 0) (denA tupleD (consA (lcD (seqI (var 3)) (unpG 4 (consG (nameG 6) (consG (nameG 7) (consG (nameG 8) (consG (nameG 9) nilG))))) yesT (denA mkTup (consA (var 6) (consA (var 7) (consA (var 8) (consA (denA tupleD (consA (var 9) nilA)) nilA))))) [6, 7, 8, 9] still0) nilA)))
  (fldS 0 "_named" (var 0) (dcD (seqI (den1 (fldD 0 "_ties") (var 0))) (nameG 5) yesT (den2 ixD (var 5) (kst (.int 0))) (var 5) [5] stillD)))))))))
def d_Net___init__ : List D → M D := denF 10 g_Net___init__
theorem ok_Net___init__ {f : Addr} {fd : FuncData} (T : Tx K mg cl) (C_are_rooms : Cal P w K mg base cl "are_rooms" 2 1 d_are_rooms) (C_first_no_tie : Cal P w K mg base cl "first_no_tie" 4 4 d_first_no_tie) (C_is_between : Cal P w K mg base cl "is_between" 2 3 d_is_between) (Fu : Fun K "__init__" "Net.__init__" s_Net___init__ f fd) (hi : PySem.W.findIn K (.ref (cl 0)) "__init__" = some (some (.ref f))) (hf : PySem.W.isFn K (.ref f) = true) : CalM P w K mg base cl (cl 0) "__init__" 5 4 d_Net___init__ := by
  have nd := sc_Net___init__.nd
  have body : FnOk P w K mg base CX0 5 f fd ["self", "axes", "rooms", "ties"] (spD cl 4 d_Net___init__) := fn_D Fu sc_Net___init__ (fun cdv A outer s H E hr => (dss_cons (ds_if (dt_not (dt_val (cF C_is_between (hr.mono (by decide)) (da_cons (vr 1) (da_cons kInt (da_cons (kGi T.c_MOST_AXES) da_nil))))))
  (dss_one ds_never) dss_nil)
  (dss_cons (ds_if (dt_not (dt_val (cF C_are_rooms (hr.mono (by decide)) (da_cons (vr 2) da_nil))))
  (dss_one ds_never) dss_nil)
  (dss_cons (ds_set (cF C_first_no_tie (hr.mono (by decide)) (da_cons (vr 1) (da_cons (vr 2) (da_cons de_dnew (da_cons (vr 3) da_nil))))) fun h => ps_set (i := 4) nd rfl (by first | exact Or.inl rfl | exact Or.inr rfl) h)
  (dss_cons (ds_if (dt_cmp op_isNotD (vr 4) kNon (nomark _))
  (dss_one ds_never) dss_nil)
  (dss_cons (ds_fld (vr 0) (vr 1) T.cl_Net T.n_Net_axes fun h1 h2 => ps_fld h1 h2 rfl)
  (dss_cons (ds_fld (vr 0) (bT cr_tuple b_tuple T.b_tuple (da_cons (vr 2) da_nil)) T.cl_Net T.n_Net__rooms fun h1 h2 => ps_fld h1 h2 rfl)
  (dss_cons (ds_fld (vr 0) (bT cr_tuple b_tuple T.b_tuple (da_cons (de_lc (own := [("name", 6), ("start", 7), ("end", 8), ("step", 9)]) rfl nd (di_seq (vr 3)) (blkOk_by (show blkC N_Net___init__ (defScope s_Net___init__) _ _ = true from by decide +kernel)) (fun _ _ _ _ _ => (dg_unp rfl (dgs_cons (dg_name' (pg_name (i := 6) nd rfl (by first | exact Or.inl rfl | exact Or.inr rfl))) (dgs_cons (dg_name' (pg_name (i := 7) nd rfl (by first | exact Or.inl rfl | exact Or.inr rfl))) (dgs_cons (dg_name' (pg_name (i := 8) nd rfl (by first | exact Or.inl rfl | exact Or.inr rfl))) (dgs_cons (dg_name' (pg_name (i := 9) nd rfl (by first | exact Or.inl rfl | exact Or.inr rfl))) dgs_nil)))))) (fun _ _ _ _ _ => dts_nil) (fun _ _ _ _ _ => (de_tup (da_cons (vr 6) (da_cons (vr 7) (da_cons (vr 8) (da_cons (bT cr_tuple b_tuple T.b_tuple (da_cons (vr 9) da_nil)) da_nil))))))) da_nil)) T.cl_Net T.n_Net__ties fun h1 h2 => ps_fld h1 h2 rfl)
  (dss_one (ds_fld (vr 0) (de_dc (own := [("tie", 5)]) rfl nd (di_seq (fF T.cl_Net T.n_Net__ties (vr 0))) (blkOk_by (show blkC N_Net___init__ (defScope s_Net___init__) _ _ = true from by decide +kernel)) (fun _ _ _ _ _ => (dg_name' (pg_name (i := 5) nd rfl (by first | exact Or.inl rfl | exact Or.inr rfl)))) (fun _ _ _ _ _ => dts_nil) (fun _ _ _ _ _ => (de_ix (ix_D (hu_of hr)) (vr 5) kInt (fun _ _ => rfl))) (fun _ _ _ _ _ => (vr 5))) T.cl_Net T.n_Net__named fun h1 h2 => ps_fld h1 h2 rfl))))))))))
  exact ⟨f, fd, ["self", "axes", "rooms", "ties"], hi, hf, Fu.kp, body, Fu.binds (ps := ["self", "axes", "rooms", "ties"]) fun _ _ _ _ _ _ us hl => match us, hl with | [_, _, _, _], _ => rfl⟩
/-! #### _law_n_made -/
abbrev s__law_n_made : Stmt := top 28
abbrev N__law_n_made : List Str := ["_law_plan"]
theorem sc__law_n_made : FnScope ["_law_plan"] ["_law_plan"] (defScope s__law_n_made) := ⟨rfl, rfl, rfl, by decide +kernel, rfl, by decide +kernel, by decide +kernel⟩
def g__law_n_made : Bk := (retS (denA (mkD 0 4 d_Net___init__) (consA (den2 ixD (var 0) (kst (.int 0))) (consA (den2 ixD (var 0) (kst (.int 1))) (consA (den2 ixD (var 0) (kst (.int 2))) nilA)))))
def d__law_n_made : List D → M D := denF 1 g__law_n_made
theorem ok__law_n_made {f : Addr} {fd : FuncData} (T : Tx K mg cl) (C_Net___init__ : CalM P w K mg base cl (cl 0) "__init__" 5 4 d_Net___init__) (Fu : Fun K "_law_n_made" "_law_n_made" s__law_n_made f fd) (hm : mg "_law_n_made" = some (.ref f)) : Cal P w K mg base cl "_law_n_made" 7 1 d__law_n_made := by
  have nd := sc__law_n_made.nd
  have body : FnOk P w K mg base CX0 7 f fd ["_law_plan"] (spD cl 1 d__law_n_made) := fn_D Fu sc__law_n_made (fun cdv A outer s H E hr => (dss_one (ds_ret (cN C_Net___init__ T.mk_Net T.kc_Net T.g_Net (hr.mono (by decide)) (da_cons (de_ix (ix_D (hu_of hr)) (vr 0) kInt (fun _ _ => rfl)) (da_cons (de_ix (ix_D (hu_of hr)) (vr 0) kInt (fun _ _ => rfl)) (da_cons (de_ix (ix_D (hu_of hr)) (vr 0) kInt (fun _ _ => rfl)) da_nil)))))))
  exact ⟨f, fd, ["_law_plan"], hm, Fu.kp, body, Fu.binds (ps := ["_law_plan"]) fun _ _ _ _ _ _ us hl => match us, hl with | [_], _ => rfl⟩
/-! #### _law_gone -/
abbrev s__law_gone : Stmt := top 34
abbrev N__law_gone : List Str := ["_law_stream", "_law_plan", "_law_many", "_law_found", "_law_here", "_law_k", "_law_on", "_law_row"]
theorem sc__law_gone : FnScope ["_law_stream", "_law_plan", "_law_many", "_law_found", "_law_here", "_law_k", "_law_on", "_law_row"] ["_law_stream", "_law_plan", "_law_many"] (defScope s__law_gone) := ⟨rfl, rfl, rfl, by decide +kernel, rfl, by decide +kernel, by decide +kernel⟩
def g__law_gone : Bk := (seqS (asgS (denA mkTup (consA (denA mkLst nilA) (consA (denA (denC 2 d__law_pick) (consA (var 0) (consA (den2 ixD (var 1) (kst (.int 1))) nilA))) nilA))) (unpG 2 (consG (nameG 3) (consG (nameG 4) nilG))))
  (seqS (forS (argI range1It (consA (var 2) nilA)) (nameG 5)
  (seqS (asgS (lcD (seqI (den2 ixD (var 1) (kst (.int 2)))) (nameG 7) (cmpT eqD (den2 ixD (var 7) (kst (.int 1))) (var 4)) (var 7) [7] still0) (nameG 6))
  (ifS (cmpT neD (var 6) (denA mkLst nilA))
  (seqS (asgS (denA (denC 2 d__law_pick) (consA (var 0) (consA (var 6) nilA))) (nameG 7))
  (asgS (denA mkTup (consA (den2 addD (var 3) (denA mkLst (consA (den2 ixD (var 7) (kst (.int 0))) nilA))) (consA (den2 ixD (var 7) (kst (.int 2))) nilA))) (unpG 2 (consG (nameG 3) (consG (nameG 4) nilG))))) nopS)))
  (retS (var 3))))
def d__law_gone : List D → M D := denF 8 g__law_gone
theorem ok__law_gone {f : Addr} {fd : FuncData} (T : Tx K mg cl) (C__law_pick : Cal P w K mg base cl "_law_pick" 2 2 d__law_pick) (Fu : Fun K "_law_gone" "_law_gone" s__law_gone f fd) (hm : mg "_law_gone" = some (.ref f)) : Cal P w K mg base cl "_law_gone" 3 3 d__law_gone := by
  have nd := sc__law_gone.nd
  have body : FnOk P w K mg base CX0 3 f fd ["_law_stream", "_law_plan", "_law_many"] (spD cl 3 d__law_gone) := fn_D Fu sc__law_gone (fun cdv A outer s H E hr => (dss_cons (ds_asg (de_tup (da_cons (de_lst da_nil) (da_cons (cF C__law_pick (hr.mono (by decide)) (da_cons (vr 0) (da_cons (de_ix (ix_D (hu_of hr)) (vr 1) kInt (fun _ _ => rfl)) da_nil))) da_nil))) (dg_unp rfl (dgs_cons (dg_name' (pg_name (i := 3) nd rfl (by first | exact Or.inl rfl | exact Or.inr rfl))) (dgs_cons (dg_name' (pg_name (i := 4) nd rfl (by first | exact Or.inl rfl | exact Or.inr rfl))) dgs_nil))))
  (dss_cons (ds_for PassesOwn.never rfl (di_range1 (da_cons (vr 2) da_nil) fun h => pi_range1 (by rfl) T.b_range h) (dg_name' (pg_name (i := 5) nd rfl (by first | exact Or.inl rfl | exact Or.inr rfl)))
  (dss_cons (ds_setLc (i := 6) (own := [("_law_row", 7)]) rfl nd rfl rfl (sw_true rfl rfl rfl (by decide +kernel)) (di_seq (de_ix (ix_D (hu_of hr)) (vr 1) kInt (fun _ _ => rfl))) (blkOk_by (show blkC N__law_gone (defScope s__law_gone) _ _ = true from by decide +kernel)) (fun _ _ _ _ _ => (dg_name' (pg_name (i := 7) nd rfl (by first | exact Or.inl rfl | exact Or.inr rfl)))) (fun _ _ _ _ _ => (dts_one (dt_cmp (op_eqD' (hr.units)) (de_ix (ix_D (hu_of hr)) (vr 7) kInt (fun _ _ => rfl)) (vr 4) (nomark _)))) (fun _ _ _ _ _ => (vr 7)))
  (dss_one (ds_if (dt_cmp (op_neD' (hr.units)) (vr 6) (de_lst da_nil) (nomark _))
  (dss_cons (ds_set (cF C__law_pick (hr.mono (by decide)) (da_cons (vr 0) (da_cons (vr 6) da_nil))) fun h => ps_set (i := 7) nd rfl (by first | exact Or.inl rfl | exact Or.inr rfl) h)
  (dss_one (ds_asg (de_tup (da_cons (de_op op_addD (vr 3) (de_lst (da_cons (de_ix (ix_D (hu_of hr)) (vr 7) kInt (fun _ _ => rfl)) da_nil))) (da_cons (de_ix (ix_D (hu_of hr)) (vr 7) kInt (fun _ _ => rfl)) da_nil))) (dg_unp rfl (dgs_cons (dg_name' (pg_name (i := 3) nd rfl (by first | exact Or.inl rfl | exact Or.inr rfl))) (dgs_cons (dg_name' (pg_name (i := 4) nd rfl (by first | exact Or.inl rfl | exact Or.inr rfl))) dgs_nil)))))) dss_nil))))
  (dss_one (ds_ret (vr 3))))))
  exact ⟨f, fd, ["_law_stream", "_law_plan", "_law_many"], hm, Fu.kp, body, Fu.binds (ps := ["_law_stream", "_law_plan", "_law_many"]) fun _ _ _ _ _ _ us hl => match us, hl with | [_, _, _], _ => rfl⟩
/-! #### _law_same -/
abbrev s__law_same : Stmt := top 32
abbrev N__law_same : List Str := ["_law_found", "_law_due", "_law_x", "_law_y"]
theorem sc__law_same : FnScope ["_law_found", "_law_due", "_law_x", "_law_y"] ["_law_found", "_law_due"] (defScope s__law_same) := ⟨rfl, rfl, rfl, by decide +kernel, rfl, by decide +kernel, by decide +kernel⟩
def g__law_same (rec : List D → M D) : Bk := (seqS (ifS (valT (denA isiD (consA (var 1) (consA (denA mkTup (consA (kst (.ty "list")) (consA (kst (.ty "tuple")) nilA))) nilA))))
  (seqS (ifS (orB (cmpT neD (denA isiD (consA (var 0) (consA (kst (.ty "list")) nilA))) (denA isiD (consA (var 1) (consA (kst (.ty "list")) nilA)))) (cmpT neD (denA isiD (consA (var 0) (consA (kst (.ty "tuple")) nilA))) (denA isiD (consA (var 1) (consA (kst (.ty "tuple")) nilA)))))
  (retS (kst (.bl false))) nopS)
  (retS (andD (den2 eqD (denA lenD (consA (var 0) nilA)) (denA lenD (consA (var 1) nilA))) (denA allD (consA (lcD (argI zipMIt (consA (var 0) (consA (var 1) nilA))) (unpG 2 (consG (nameG 2) (consG (nameG 3) nilG))) yesT (denA (denC 2 rec) (consA (var 2) (consA (var 3) nilA))) [2, 3] still0) nilA))))) nopS)
  (seqS (ifS (valT (denA isiD (consA (var 1) (consA (kst (.ty "int")) nilA))))
  (retS (andD (denA isiD (consA (var 0) (consA (kst (.ty "int")) nilA))) (andD (den2 eqD (denA isiD (consA (var 0) (consA (kst (.ty "bool")) nilA))) (denA isiD (consA (var 1) (consA (kst (.ty "bool")) nilA)))) (den2 eqD (var 0) (var 1))))) nopS)
  (retS (andD (den2 isBlD (denA isiD (consA (var 0) (consA (denA mkTup (consA (kst (.ty "int")) (consA (kst (.ty "list")) (consA (kst (.ty "tuple")) nilA)))) nilA))) (kst (.bl false))) (den2 eqD (var 0) (var 1))))))
def d__law_same : Nat → List D → M D
  | 0 => fun _ => fail
  | n + 1 => denF 4 (g__law_same (d__law_same n))
theorem ok__law_same {f : Addr} {fd : FuncData} (T : Tx K mg cl) (Fu : Fun K "_law_same" "_law_same" s__law_same f fd) (hm : mg "_law_same" = some (.ref f)) : ∀ n : Nat, Cal P w K mg base cl "_law_same" (1 + n) 2 (d__law_same n) := by
  have nd := sc__law_same.nd
  intro n
  induction n with
  | zero => exact ⟨f, fd, ["_law_found", "_law_due"], hm, Fu.kp, fn_none, Fu.binds (ps := ["_law_found", "_law_due"]) fun _ _ _ _ _ _ us hl => match us, hl with | [_, _], _ => rfl⟩
  | succ n ih =>
    have C_rec := ih
    have body : FnOk P w K mg base CX0 (1 + n + 1) f fd ["_law_found", "_law_due"] (spD cl 2 (d__law_same (n + 1))) := fn_D Fu sc__law_same (fun cdv A outer s H E hr => (dss_cons (ds_if (dt_val (bB cr_isi b_isinstance T.b_isinstance (da_cons (vr 1) (da_cons (de_tup (da_cons (kTy b_list T.b_list) (da_cons (kTy b_tuple T.b_tuple) da_nil))) da_nil))))
  (dss_cons (ds_if (dt_w (dw_or (dt_cmp (op_neD' (hr.units)) (bB cr_isi b_isinstance T.b_isinstance (da_cons (vr 0) (da_cons (kTy b_list T.b_list) da_nil))) (bB cr_isi b_isinstance T.b_isinstance (da_cons (vr 1) (da_cons (kTy b_list T.b_list) da_nil))) (nomark _)) (dw_or1 (dt_cmp (op_neD' (hr.units)) (bB cr_isi b_isinstance T.b_isinstance (da_cons (vr 0) (da_cons (kTy b_tuple T.b_tuple) da_nil))) (bB cr_isi b_isinstance T.b_isinstance (da_cons (vr 1) (da_cons (kTy b_tuple T.b_tuple) da_nil))) (nomark _)))))
  (dss_one (ds_ret kBl)) dss_nil)
  (dss_one (ds_ret (de_and (de_cmp (op_eqD' (hr.units)) (bB cr_len b_len T.b_len (da_cons (vr 0) da_nil)) (bB cr_len b_len T.b_len (da_cons (vr 1) da_nil)) (nomark _)) (de_one (bB (crr_all rfl) b_all T.b_all (da_cons (de_lc (own := [("_law_x", 2), ("_law_y", 3)]) rfl nd (di_zipM (da_cons (vr 0) (da_cons (vr 1) da_nil)) (by rfl) T.b_zip) (blkOk_by (show blkC N__law_same (defScope s__law_same) _ _ = true from by decide +kernel)) (fun _ _ _ _ _ => (dg_unp rfl (dgs_cons (dg_name' (pg_name (i := 2) nd rfl (by first | exact Or.inl rfl | exact Or.inr rfl))) (dgs_cons (dg_name' (pg_name (i := 3) nd rfl (by first | exact Or.inl rfl | exact Or.inr rfl))) dgs_nil)))) (fun _ _ _ _ _ => dts_nil) (fun _ _ _ _ _ => (cF C_rec (hr.mono (by omega)) (da_cons (vr 2) (da_cons (vr 3) da_nil))))) da_nil))))))) dss_nil)
  (dss_cons (ds_if (dt_val (bB cr_isi b_isinstance T.b_isinstance (da_cons (vr 1) (da_cons (kTy b_int T.b_int) da_nil))))
  (dss_one (ds_ret (de_and (bB cr_isi b_isinstance T.b_isinstance (da_cons (vr 0) (da_cons (kTy b_int T.b_int) da_nil))) (de_and (de_cmp (op_eqD' (hr.units)) (bB cr_isi b_isinstance T.b_isinstance (da_cons (vr 0) (da_cons (kTy b_bool T.b_bool) da_nil))) (bB cr_isi b_isinstance T.b_isinstance (da_cons (vr 1) (da_cons (kTy b_bool T.b_bool) da_nil))) (nomark _)) (de_one (de_cmp (op_eqD' (hr.units)) (vr 0) (vr 1) (nomark _))))))) dss_nil)
  (dss_one (ds_ret (de_and (de_cmp op_isBlD (bB cr_isi b_isinstance T.b_isinstance (da_cons (vr 0) (da_cons (de_tup (da_cons (kTy b_int T.b_int) (da_cons (kTy b_list T.b_list) (da_cons (kTy b_tuple T.b_tuple) da_nil)))) da_nil))) kBl (nomark _)) (de_one (de_cmp (op_eqD' (hr.units)) (vr 0) (vr 1) (nomark _)))))))))
    exact ⟨f, fd, ["_law_found", "_law_due"], hm, Fu.kp, body, Fu.binds (ps := ["_law_found", "_law_due"]) fun _ _ _ _ _ _ us hl => match us, hl with | [_, _], _ => rfl⟩
/-! #### _law_is_way -/
abbrev s__law_is_way : Stmt := top 33
abbrev N__law_is_way : List Str := ["_law_plan", "_law_thing", "_law_rows", "_law_here", "_law_total", "_law_name", "_law_row", "_law_x", "_law_y"]
theorem sc__law_is_way : FnScope ["_law_plan", "_law_thing", "_law_rows", "_law_here", "_law_total", "_law_name", "_law_row", "_law_x", "_law_y"] ["_law_plan", "_law_thing"] (defScope s__law_is_way) := ⟨rfl, rfl, rfl, by decide +kernel, rfl, by decide +kernel, by decide +kernel⟩
def g__law_is_way : Bk := (seqS (ifS (orB (notB (valT (denA isiD (consA (var 1) (consA (denA mkTup (consA (kst (.ty "list")) (consA (kst (.ty "tuple")) nilA))) nilA))))) (cmpT eqD (denA lenD (consA (var 1) nilA)) (kst (.int 0))))
  (retS (kst (.bl false))) nopS)
  (seqS (asgS (denA dictD (consA (lcD (seqI (den2 ixD (var 0) (kst (.int 2)))) (nameG 6) yesT (denA mkTup (consA (den2 ixD (var 6) (kst (.int 0))) (consA (var 6) nilA))) [6] still0) nilA)) (nameG 2))
  (seqS (ifS (notB (valT (denA allD (consA (lcD (seqI (var 1)) (nameG 5) yesT (andD (denA isiD (consA (var 5) (consA (kst (.ty "str")) nilA))) (den2 inD (var 5) (var 2))) [5] still0) nilA))))
  (retS (kst (.bl false))) nopS)
  (seqS (parS 3 4 (consA (den2 ixD (den2 ixD (var 2) (den2 ixD (var 1) (kst (.int 0)))) (kst (.int 1))) (consA (den2 mulD (denA mkLst (consA (kst (.int 0)) nilA)) (den2 ixD (var 0) (kst (.int 0)))) nilA)))
  (seqS (forS (seqI (var 1)) (nameG 5)
  (seqS (ifS (cmpT neD (den2 ixD (den2 ixD (var 2) (var 5)) (kst (.int 1))) (var 3))
  (retS (kst (.bl false))) nopS)
  (seqS (asgS (den2 ixD (den2 ixD (var 2) (var 5)) (kst (.int 2))) (nameG 3))
  (asgS (lcD (argI zipMIt (consA (var 4) (consA (den2 ixD (den2 ixD (var 2) (var 5)) (kst (.int 3))) nilA))) (unpG 2 (consG (nameG 7) (consG (nameG 8) nilG))) yesT (den2 addD (var 7) (var 8)) [7, 8] still0) (nameG 4)))))
  (retS (andD (den2 eqD (var 3) (den2 ixD (den2 ixD (var 2) (den2 ixD (var 1) (kst (.int 0)))) (kst (.int 1)))) (den1 notD (denA anyTD (consA (var 4) nilA))))))))))
def d__law_is_way : List D → M D := denF 9 g__law_is_way
theorem ok__law_is_way {f : Addr} {fd : FuncData} (T : Tx K mg cl) (Fu : Fun K "_law_is_way" "_law_is_way" s__law_is_way f fd) (hm : mg "_law_is_way" = some (.ref f)) : Cal P w K mg base cl "_law_is_way" 1 2 d__law_is_way := by
  have nd := sc__law_is_way.nd
  have body : FnOk P w K mg base CX0 1 f fd ["_law_plan", "_law_thing"] (spD cl 2 d__law_is_way) := fn_D Fu sc__law_is_way (fun cdv A outer s H E hr => (dss_cons (ds_if (dt_w (dw_or (dt_not (dt_val (bB cr_isi b_isinstance T.b_isinstance (da_cons (vr 1) (da_cons (de_tup (da_cons (kTy b_list T.b_list) (da_cons (kTy b_tuple T.b_tuple) da_nil))) da_nil))))) (dw_or1 (dt_cmp (op_eqD' (hr.units)) (bB cr_len b_len T.b_len (da_cons (vr 1) da_nil)) kInt (nomark _)))))
  (dss_one (ds_ret kBl)) dss_nil)
  (dss_cons (ds_set (bT (cr_dict rfl) b_dict T.b_dict (da_cons (de_lc (own := [("_law_row", 6)]) rfl nd (di_seq (de_ix (ix_D (hu_of hr)) (vr 0) kInt (fun _ _ => rfl))) (blkOk_by (show blkC N__law_is_way (defScope s__law_is_way) _ _ = true from by decide +kernel)) (fun _ _ _ _ _ => (dg_name' (pg_name (i := 6) nd rfl (by first | exact Or.inl rfl | exact Or.inr rfl)))) (fun _ _ _ _ _ => dts_nil) (fun _ _ _ _ _ => (de_tup (da_cons (de_ix (ix_D (hu_of hr)) (vr 6) kInt (fun _ _ => rfl)) (da_cons (vr 6) da_nil))))) da_nil)) fun h => ps_set (i := 2) nd rfl (by first | exact Or.inl rfl | exact Or.inr rfl) h)
  (dss_cons (ds_if (dt_not (dt_val (bB (crr_all rfl) b_all T.b_all (da_cons (de_lc (own := [("_law_name", 5)]) rfl nd (di_seq (vr 1)) (blkOk_by (show blkC N__law_is_way (defScope s__law_is_way) _ _ = true from by decide +kernel)) (fun _ _ _ _ _ => (dg_name' (pg_name (i := 5) nd rfl (by first | exact Or.inl rfl | exact Or.inr rfl)))) (fun _ _ _ _ _ => dts_nil) (fun _ _ _ _ _ => (de_and (bB cr_isi b_isinstance T.b_isinstance (da_cons (vr 5) (da_cons (kTy b_str T.b_str) da_nil))) (de_one (de_cmp (op_inD (hu_of hr)) (vr 5) (vr 2) (by rfl)))))) da_nil))))
  (dss_one (ds_ret kBl)) dss_nil)
  (dss_cons (ds_par (da_cons (de_ix (ix_D (hu_of hr)) (de_ix (ix_D (hu_of hr)) (vr 2) (de_ix (ix_D (hu_of hr)) (vr 1) kInt (fun _ _ => rfl)) (fun _ _ => rfl)) kInt (fun _ _ => rfl)) (da_cons (de_op op_mulD (de_lst (da_cons kInt da_nil)) (de_ix (ix_D (hu_of hr)) (vr 0) kInt (fun _ _ => rfl))) da_nil)) fun h => ps_par (i := 3) (j := 4) rfl nd rfl rfl (by decide) rfl rfl h (by rfl))
  (dss_cons (ds_for PassesOwn.never rfl (di_seq (vr 1)) (dg_name' (pg_name (i := 5) nd rfl (by first | exact Or.inl rfl | exact Or.inr rfl)))
  (dss_cons (ds_if (dt_cmp (op_neD' (hr.units)) (de_ix (ix_D (hu_of hr)) (de_ix (ix_D (hu_of hr)) (vr 2) (vr 5) (fun _ _ => rfl)) kInt (fun _ _ => rfl)) (vr 3) (nomark _))
  (dss_one (ds_ret kBl)) dss_nil)
  (dss_cons (ds_set (de_ix (ix_D (hu_of hr)) (de_ix (ix_D (hu_of hr)) (vr 2) (vr 5) (fun _ _ => rfl)) kInt (fun _ _ => rfl)) fun h => ps_set (i := 3) nd rfl (by first | exact Or.inl rfl | exact Or.inr rfl) h)
  (dss_one (ds_setLc (i := 4) (own := [("_law_x", 7), ("_law_y", 8)]) rfl nd rfl rfl (sw_true rfl rfl rfl (by decide +kernel)) (di_zipM (da_cons (vr 4) (da_cons (de_ix (ix_D (hu_of hr)) (de_ix (ix_D (hu_of hr)) (vr 2) (vr 5) (fun _ _ => rfl)) kInt (fun _ _ => rfl)) da_nil)) (by rfl) T.b_zip) (blkOk_by (show blkC N__law_is_way (defScope s__law_is_way) _ _ = true from by decide +kernel)) (fun _ _ _ _ _ => (dg_unp rfl (dgs_cons (dg_name' (pg_name (i := 7) nd rfl (by first | exact Or.inl rfl | exact Or.inr rfl))) (dgs_cons (dg_name' (pg_name (i := 8) nd rfl (by first | exact Or.inl rfl | exact Or.inr rfl))) dgs_nil)))) (fun _ _ _ _ _ => dts_nil) (fun _ _ _ _ _ => (de_op op_addD (vr 7) (vr 8))))))))
  (dss_one (ds_ret (de_and (de_cmp (op_eqD' (hr.units)) (vr 3) (de_ix (ix_D (hu_of hr)) (de_ix (ix_D (hu_of hr)) (vr 2) (de_ix (ix_D (hu_of hr)) (vr 1) kInt (fun _ _ => rfl)) (fun _ _ => rfl)) kInt (fun _ _ => rfl)) (nomark _)) (de_one (de_not (bB (crr_anyT rfl) b_any T.b_any (da_cons (vr 4) da_nil)))))))))))))
  exact ⟨f, fd, ["_law_plan", "_law_thing"], hm, Fu.kp, body, Fu.binds (ps := ["_law_plan", "_law_thing"]) fun _ _ _ _ _ _ us hl => match us, hl with | [_, _], _ => rfl⟩
/-! #### Net.__contains__ -/
abbrev s_Net___contains__ : Stmt := inClass (top 22) 9
abbrev N_Net___contains__ : List Str := ["self", "thing"]
theorem sc_Net___contains__ : FnScope ["self", "thing"] ["self", "thing"] (defScope s_Net___contains__) := ⟨rfl, rfl, rfl, by decide +kernel, rfl, by decide +kernel, by decide +kernel⟩
def g_Net___contains__ : Bk := (retS (denA (denC 2 d_is_key) (consA (var 1) (consA (den1 (fldD 0 "_named") (var 0)) nilA))))
def d_Net___contains__ : List D → M D := denF 2 g_Net___contains__
theorem ok_Net___contains__ {f : Addr} {fd : FuncData} (T : Tx K mg cl) (C_is_key : Cal P w K mg base cl "is_key" 1 2 d_is_key) (Fu : Fun K "__contains__" "Net.__contains__" s_Net___contains__ f fd) (hi : PySem.W.findIn K (.ref (cl 0)) "__contains__" = some (some (.ref f))) (hf : PySem.W.isFn K (.ref f) = true) : CalM P w K mg base cl (cl 0) "__contains__" 2 2 d_Net___contains__ := by
  have nd := sc_Net___contains__.nd
  have body : FnOk P w K mg base CX0 2 f fd ["self", "thing"] (spD cl 2 d_Net___contains__) := fn_D Fu sc_Net___contains__ (fun cdv A outer s H E hr => (dss_one (ds_ret (cF C_is_key (hr.mono (by decide)) (da_cons (vr 1) (da_cons (fF T.cl_Net T.n_Net__named (vr 0)) da_nil))))))
  exact ⟨f, fd, ["self", "thing"], hi, hf, Fu.kp, body, Fu.binds (ps := ["self", "thing"]) fun _ _ _ _ _ _ us hl => match us, hl with | [_, _], _ => rfl⟩
/-! #### Net.tie -/
abbrev s_Net_tie : Stmt := inClass (top 22) 3
abbrev N_Net_tie : List Str := ["self", "name"]
theorem sc_Net_tie : FnScope ["self", "name"] ["self", "name"] (defScope s_Net_tie) := ⟨rfl, rfl, rfl, by decide +kernel, rfl, by decide +kernel, by decide +kernel⟩
def g_Net_tie : Bk := (seqS (ifS (cmpT (chkO 0 (ownNinD d_Net___contains__)) (var 1) (var 0))
  neverS nopS)
  (retS (den2 ixD (den1 (fldD 0 "_named") (var 0)) (var 1))))
def d_Net_tie : List D → M D := denF 2 g_Net_tie
theorem ok_Net_tie {f : Addr} {fd : FuncData} (T : Tx K mg cl) (C_Net___contains__ : CalM P w K mg base cl (cl 0) "__contains__" 2 2 d_Net___contains__) (Fu : Fun K "tie" "Net.tie" s_Net_tie f fd) (hi : PySem.W.findIn K (.ref (cl 0)) "tie" = some (some (.ref f))) (hf : PySem.W.isFn K (.ref f) = true) : CalM P w K mg base cl (cl 0) "tie" 3 2 d_Net_tie := by
  have nd := sc_Net_tie.nd
  have body : FnOk P w K mg base CX0 3 f fd ["self", "name"] (spD cl 2 d_Net_tie) := fn_D Fu sc_Net_tie (fun cdv A outer s H E hr => (dss_cons (ds_if (dt_cmp (oNin C_Net___contains__ (hr.mono (by decide))) (vr 1) (vr 0) (by rfl))
  (dss_one ds_never) dss_nil)
  (dss_one (ds_ret (de_ix (ix_D (hu_of hr)) (fF T.cl_Net T.n_Net__named (vr 0)) (vr 1) (fun _ _ => rfl))))))
  exact ⟨f, fd, ["self", "name"], hi, hf, Fu.kp, body, Fu.binds (ps := ["self", "name"]) fun _ _ _ _ _ _ us hl => match us, hl with | [_, _], _ => rfl⟩
/-! #### ties_around -/
abbrev s_ties_around : Stmt := top 23
abbrev N_ties_around : List Str := ["net", "thing", "ties", "name", "tie", "behind"]
theorem sc_ties_around : FnScope ["net", "thing", "ties", "name", "tie", "behind"] ["net", "thing"] (defScope s_ties_around) := ⟨rfl, rfl, rfl, by decide +kernel, rfl, by decide +kernel, by decide +kernel⟩
def g_ties_around : Bk := (seqS (ifS (orB (notB (valT (denA (denC 1 d_is_list) (consA (var 1) nilA)))) (orB (cmpT eqD (denA lenD (consA (var 1) nilA)) (kst (.int 0))) (notB (valT (denA allD (consA (lcD (seqI (var 1)) (nameG 3) yesT (den2 (chkO 0 (ownInD d_Net___contains__)) (var 3) (var 0)) [3] still0) nilA))))))
  (retS (kst .non)) nopS)
  (seqS (asgS (lcD (seqI (var 1)) (nameG 3) yesT (omethD 0 "tie" 2 d_Net_tie (var 0) (consA (var 3) nilA)) [3] still0) (nameG 2))
  (retS (ifD (valT (denA allD (consA (lcD (argI zipMIt (consA (var 2) (consA (den2 addD (sliceD (var 2) (optI (kst (.int 1))) noI) (sliceD (var 2) noI (optI (kst (.int 1))))) nilA))) (unpG 2 (consG (nameG 4) (consG (nameG 5) nilG))) yesT (den2 eqD (den2 ixD (var 4) (kst (.int 2))) (den2 ixD (var 5) (kst (.int 1)))) [4, 5] still0) nilA))) (var 2) (kst .non)))))
def d_ties_around : List D → M D := denF 6 g_ties_around
theorem ok_ties_around {f : Addr} {fd : FuncData} (T : Tx K mg cl) (C_Net___contains__ : CalM P w K mg base cl (cl 0) "__contains__" 2 2 d_Net___contains__) (C_Net_tie : CalM P w K mg base cl (cl 0) "tie" 3 2 d_Net_tie) (C_is_list : Cal P w K mg base cl "is_list" 1 1 d_is_list) (Fu : Fun K "ties_around" "ties_around" s_ties_around f fd) (hm : mg "ties_around" = some (.ref f)) : Cal P w K mg base cl "ties_around" 4 2 d_ties_around := by
  have nd := sc_ties_around.nd
  have body : FnOk P w K mg base CX0 4 f fd ["net", "thing"] (spD cl 2 d_ties_around) := fn_D Fu sc_ties_around (fun cdv A outer s H E hr => (dss_cons (ds_if (dt_w (dw_or (dt_not (dt_val (cF C_is_list (hr.mono (by decide)) (da_cons (vr 1) da_nil)))) (dw_or (dt_cmp (op_eqD' (hr.units)) (bB cr_len b_len T.b_len (da_cons (vr 1) da_nil)) kInt (nomark _)) (dw_or1 (dt_not (dt_val (bB (crr_all rfl) b_all T.b_all (da_cons (de_lc (own := [("name", 3)]) rfl nd (di_seq (vr 1)) (blkOk_by (show blkC N_ties_around (defScope s_ties_around) _ _ = true from by decide +kernel)) (fun _ _ _ _ _ => (dg_name' (pg_name (i := 3) nd rfl (by first | exact Or.inl rfl | exact Or.inr rfl)))) (fun _ _ _ _ _ => dts_nil) (fun _ _ _ _ _ => (de_cmp (oIn C_Net___contains__ (hr.mono (by decide))) (vr 3) (vr 0) (by rfl)))) da_nil))))))))
  (dss_one (ds_ret kNon)) dss_nil)
  (dss_cons (ds_setLc (i := 2) (own := [("name", 3)]) rfl nd rfl rfl (sw_true rfl rfl rfl (by decide +kernel)) (di_seq (vr 1)) (blkOk_by (show blkC N_ties_around (defScope s_ties_around) _ _ = true from by decide +kernel)) (fun _ _ _ _ _ => (dg_name' (pg_name (i := 3) nd rfl (by first | exact Or.inl rfl | exact Or.inr rfl)))) (fun _ _ _ _ _ => dts_nil) (fun _ _ _ _ _ => (cM C_Net_tie T.cl_Net (hr.mono (by decide)) (vr 0) (da_cons (vr 3) da_nil))))
  (dss_one (ds_ret (de_ifExp (dt_val (bB (crr_all rfl) b_all T.b_all (da_cons (de_lc (own := [("tie", 4), ("behind", 5)]) rfl nd (di_zipM (da_cons (vr 2) (da_cons (de_op op_addD (de_slice (vr 2) (do_some kInt) do_none) (de_slice (vr 2) do_none (do_some kInt))) da_nil)) (by rfl) T.b_zip) (blkOk_by (show blkC N_ties_around (defScope s_ties_around) _ _ = true from by decide +kernel)) (fun _ _ _ _ _ => (dg_unp rfl (dgs_cons (dg_name' (pg_name (i := 4) nd rfl (by first | exact Or.inl rfl | exact Or.inr rfl))) (dgs_cons (dg_name' (pg_name (i := 5) nd rfl (by first | exact Or.inl rfl | exact Or.inr rfl))) dgs_nil)))) (fun _ _ _ _ _ => dts_nil) (fun _ _ _ _ _ => (de_cmp (op_eqD' (hr.units)) (de_ix (ix_D (hu_of hr)) (vr 4) kInt (fun _ _ => rfl)) (de_ix (ix_D (hu_of hr)) (vr 5) kInt (fun _ _ => rfl)) (nomark _)))) da_nil))) (vr 2) kNon))))))
  exact ⟨f, fd, ["net", "thing"], hm, Fu.kp, body, Fu.binds (ps := ["net", "thing"]) fun _ _ _ _ _ _ us hl => match us, hl with | [_, _], _ => rfl⟩
/-! #### is_way -/
abbrev s_is_way : Stmt := top 24
abbrev N_is_way : List Str := ["net", "thing", "ties", "axis", "tie"]
theorem sc_is_way : FnScope ["net", "thing", "ties", "axis", "tie"] ["net", "thing"] (defScope s_is_way) := ⟨rfl, rfl, rfl, by decide +kernel, rfl, by decide +kernel, by decide +kernel⟩
def g_is_way : Bk := (seqS (asgS (denA (denC 2 d_ties_around) (consA (var 0) (consA (var 1) nilA))) (nameG 2))
  (retS (andD (den2 isNotD (var 2) (kst .non)) (denA allD (consA (lcD (argI range1It (consA (den1 (fldD 0 "axes") (var 0)) nilA)) (nameG 3) yesT (den2 eqD (denA sumD (consA (lcD (seqI (var 2)) (nameG 4) yesT (den2 ixD (den2 ixD (var 4) (kst (.int 3))) (var 3)) [4] still0) nilA)) (kst (.int 0))) [3] still0) nilA)))))
def d_is_way : List D → M D := denF 5 g_is_way
theorem ok_is_way {f : Addr} {fd : FuncData} (T : Tx K mg cl) (C_ties_around : Cal P w K mg base cl "ties_around" 4 2 d_ties_around) (Fu : Fun K "is_way" "is_way" s_is_way f fd) (hm : mg "is_way" = some (.ref f)) : Cal P w K mg base cl "is_way" 5 2 d_is_way := by
  have nd := sc_is_way.nd
  have body : FnOk P w K mg base CX0 5 f fd ["net", "thing"] (spD cl 2 d_is_way) := fn_D Fu sc_is_way (fun cdv A outer s H E hr => (dss_cons (ds_set (cF C_ties_around (hr.mono (by decide)) (da_cons (vr 0) (da_cons (vr 1) da_nil))) fun h => ps_set (i := 2) nd rfl (by first | exact Or.inl rfl | exact Or.inr rfl) h)
  (dss_one (ds_ret (de_and (de_cmp op_isNotD (vr 2) kNon (nomark _)) (de_one (bB (crr_all rfl) b_all T.b_all (da_cons (de_lc (own := [("axis", 3)]) rfl nd (di_range1 (da_cons (fF T.cl_Net T.n_Net_axes (vr 0)) da_nil) fun h => pi_range1 (by rfl) T.b_range h) (blkOk_by (show blkC N_is_way (defScope s_is_way) _ _ = true from by decide +kernel)) (fun _ _ _ _ _ => (dg_name' (pg_name (i := 3) nd rfl (by first | exact Or.inl rfl | exact Or.inr rfl)))) (fun _ _ _ _ _ => dts_nil) (fun _ _ _ _ _ => (de_cmp (op_eqD' (hr.units)) (bB (crr_sum rfl) b_sum T.b_sum (da_cons (de_lc (own := [("tie", 4)]) rfl nd (di_seq (vr 2)) (blkOk_by (by dsimp only [cxOf, Cx.nox, Cx.blk, compEnvC, relS_eq, envOfC]; decide +kernel)) (fun _ _ _ _ _ => (dg_name' (pg_name (i := 4) nd rfl (by first | exact Or.inl rfl | exact Or.inr rfl)))) (fun _ _ _ _ _ => dts_nil) (fun _ _ _ _ _ => (de_ix (ix_D (hu_of hr)) (de_ix (ix_D (hu_of hr)) (vr 4) kInt (fun _ _ => rfl)) (vr 3) (fun _ _ => rfl)))) da_nil)) kInt (nomark _)))) da_nil))))))))
  exact ⟨f, fd, ["net", "thing"], hm, Fu.kp, body, Fu.binds (ps := ["net", "thing"]) fun _ _ _ _ _ _ us hl => match us, hl with | [_, _], _ => rfl⟩
/-! #### law -/
abbrev s_law : Stmt := top 35
abbrev N_law : List Str := ["_law_script", "_law_stream", "_law_turn", "_law_axes", "_law_halls", "_law_rows", "_law_plan", "_law_net", "_law_k", "_law_odd", "_law_way", "_law_names", "_law_some", "_law_at", "_law_thing", "_law_row", "_law_name", "_law_x"]
theorem sc_law : FnScope ["_law_script", "_law_stream", "_law_turn", "_law_axes", "_law_halls", "_law_rows", "_law_plan", "_law_net", "_law_k", "_law_odd", "_law_way", "_law_names", "_law_some", "_law_at", "_law_thing", "_law_row", "_law_name", "_law_x"] ["_law_script"] (defScope s_law) := ⟨rfl, rfl, rfl, by decide +kernel, rfl, by decide +kernel, by decide +kernel⟩
def g_law (L : List D → M D) : Bk := (seqS (asgS (denA (denC 1 (d__law_start L)) (consA (var 0) nilA)) (nameG 1))
  (seqS (forS (argI range1It (consA (kst (.int 5)) nilA)) (nameG 2)
  (seqS (asgS (denA (denC 5 d__law_n_plan) (consA (var 1) (consA (denA (denC 2 d__law_draw) (consA (var 1) (consA (kst (.int 3)) nilA))) (consA (kst (.int 3)) (consA (kst (.int 4)) (consA (kst (.int 1)) nilA)))))) (unpG 3 (consG (nameG 3) (consG (nameG 4) (consG (nameG 5) nilG)))))
  (seqS (asgS (den2 addD (var 5) (lcD (seqI (var 5)) (nameG 15) yesT (denA mkTup (consA (den2 addD (kst (.str "r.")) (den2 ixD (var 15) (kst (.int 0)))) (consA (den2 ixD (var 15) (kst (.int 2))) (consA (den2 ixD (var 15) (kst (.int 1))) (consA (denA tupleD (consA (lcD (seqI (den2 ixD (var 15) (kst (.int 3)))) (nameG 17) yesT (den2 subD (kst (.int 0)) (var 17)) [17] still0) nilA)) nilA))))) [15] still0)) (nameG 5))
  (seqS (asgS (denA mkTup (consA (var 3) (consA (var 4) (consA (var 5) nilA)))) (nameG 6))
  (seqS (asgS (denA (denC 1 d__law_n_made) (consA (var 6) nilA)) (nameG 7))
  (seqS (forS (argI range1It (consA (kst (.int 12)) nilA)) (nameG 8)
  (seqS (asgS (denA (denC 3 d__law_gone) (consA (var 1) (consA (var 6) (consA (den2 addD (kst (.int 1)) (denA (denC 2 d__law_draw) (consA (var 1) (consA (kst (.int 6)) nilA)))) nilA)))) (nameG 10))
  (seqS (asgS (denA dictMD (consA (lcD (seqI (sliceD (var 5) noI (optI (den2 fdivD (denA lenD (consA (var 5) nilA)) (kst (.int 2)))))) (nameG 15) yesT (denA mkTup (consA (den2 ixD (var 15) (kst (.int 0))) (consA (den2 addD (kst (.str "r.")) (den2 ixD (var 15) (kst (.int 0)))) nilA))) [15] still0) nilA)) (nameG 11))
  (seqS (dropS (methD isDct (var 11) (consA (denA dictD (consA (lockV 11 (lcD (keysIt 11) (nameG 16) yesT (denA mkTup (consA (den2 ixD (var 11) (var 16)) (consA (var 16) nilA))) [16] still0)) nilA)) nilA) updateD))
  (seqS (asgS (denA mkLstM (consA (var 10) (consA (den2 addD (var 10) (lcD (seqI (den1 revD (var 10))) (nameG 16) yesT (den2 ixD (var 11) (var 16)) [16] still0)) (consA (den2 mulD (var 10) (kst (.int 2))) (consA (den2 addD (sliceD (var 10) (optI (kst (.int 1))) noI) (sliceD (var 10) noI (optI (kst (.int 1))))) nilA))))) (nameG 12))
  (seqS (asgS (denA (denC 2 d__law_draw) (consA (var 1) (consA (den2 addD (denA lenD (consA (var 10) nilA)) (kst (.int 1))) nilA))) (nameG 13))
  (seqS (dropS (methD isLst (var 12) (consA (den2 addD (den2 addD (sliceD (var 10) noI (optI (var 13))) (denA mkLst (consA (den2 ixD (denA (denC 2 d__law_pick) (consA (var 1) (consA (var 5) nilA))) (kst (.int 0))) nilA))) (sliceD (var 10) (optI (var 13)) noI)) nilA) appendD))
  (seqS (stillS 12) (forS (seqI (var 12)) (nameG 14)
  (ifS (notB (valT (denA (denC 2 (d__law_same 1)) (consA (denA (denC 2 d_is_way) (consA (var 7) (consA (denA (denC 2 d__law_pick) (consA (var 1) (consA (denA mkLst (consA (var 14) (consA (denA tupleD (consA (var 14) nilA)) nilA))) nilA))) nilA))) (consA (denA (denC 2 d__law_is_way) (consA (var 6) (consA (var 14) nilA))) nilA)))))
  (retS (kst (.bl false))) nopS))))))))))
  (seqS (asgS (denA mkLst (consA (kst .non) (consA (kst (.int 5)) (consA (kst (.str "")) (consA (den2 ixD (den2 ixD (var 5) (kst (.int 0))) (kst (.int 0))) (consA (denA mkLst nilA) (consA (fun _ => stillD ([], [])) (consA (denA mkLst (consA (kst .non) nilA)) (consA (denA mkLst (consA (denA mkLst nilA) nilA)) (consA (denA mkLst (consA (kst (.str "Q")) nilA)) (consA (kst (.bl true)) (consA (denA mkLst (consA (den2 ixD (var 5) (kst (.int 0))) nilA)) (consA (denA mkLst (consA (kst (.int 5)) nilA)) nilA))))))))))))) (nameG 9))
  (ifS (valT (denA anyTD (consA (lcD (seqI (var 9)) (nameG 14) yesT (den2 isNBlD (denA (denC 2 d_is_way) (consA (var 7) (consA (var 14) nilA))) (kst (.bl false))) [14] still0) nilA)))
  (retS (kst (.bl false))) nopS))))))))
  (retS (kst (.bl true)))))
def d_law (L : List D → M D) : List D → M D := denF 18 (g_law L)
theorem body_law {f : Addr} {fd : FuncData} {L : List D → M D} (T : Tx K mg cl) (C__law_draw : Cal P w K mg base cl "_law_draw" 1 2 d__law_draw) (C__law_gone : Cal P w K mg base cl "_law_gone" 3 3 d__law_gone) (C__law_is_way : Cal P w K mg base cl "_law_is_way" 1 2 d__law_is_way) (C__law_n_made : Cal P w K mg base cl "_law_n_made" 7 1 d__law_n_made) (C__law_n_plan : Cal P w K mg base cl "_law_n_plan" 4 5 d__law_n_plan) (C__law_pick : Cal P w K mg base cl "_law_pick" 2 2 d__law_pick) (C__law_same : Cal P w K mg base cl "_law_same" 2 2 (d__law_same 1)) (C__law_start : Cal P w K mg base cl "_law_start" 1 1 (d__law_start L)) (C_is_way : Cal P w K mg base cl "is_way" 5 2 d_is_way) (Fu : Fun K "law" "law" s_law f fd) : FnOk P w K mg base CX0 8 f fd ["_law_script"] (spD cl 1 (d_law L)) := by
  have nd := sc_law.nd
  exact fn_D Fu sc_law (fun cdv A outer s H E hr => (dss_cons (ds_set (cF C__law_start (hr.mono (by decide)) (da_cons (vr 0) da_nil)) fun h => ps_set (i := 1) nd rfl (by first | exact Or.inl rfl | exact Or.inr rfl) h)
  (dss_cons (ds_for PassesOwn.never rfl (di_range1 (da_cons kInt da_nil) fun h => pi_range1 (by rfl) T.b_range h) (dg_name' (pg_name (i := 2) nd rfl (by first | exact Or.inl rfl | exact Or.inr rfl)))
  (dss_cons (ds_asg (cF C__law_n_plan (hr.mono (by decide)) (da_cons (vr 1) (da_cons (cF C__law_draw (hr.mono (by decide)) (da_cons (vr 1) (da_cons kInt da_nil))) (da_cons kInt (da_cons kInt (da_cons kInt da_nil)))))) (dg_unp rfl (dgs_cons (dg_name' (pg_name (i := 3) nd rfl (by first | exact Or.inl rfl | exact Or.inr rfl))) (dgs_cons (dg_name' (pg_name (i := 4) nd rfl (by first | exact Or.inl rfl | exact Or.inr rfl))) (dgs_cons (dg_name' (pg_name (i := 5) nd rfl (by first | exact Or.inl rfl | exact Or.inr rfl))) dgs_nil)))))
  (dss_cons (ds_set (de_op op_addD (vr 5) (de_lc (own := [("_law_row", 15)]) rfl nd (di_seq (vr 5)) (blkOk_by (show blkC N_law (defScope s_law) _ _ = true from by decide +kernel)) (fun _ _ _ _ _ => (dg_name' (pg_name (i := 15) nd rfl (by first | exact Or.inl rfl | exact Or.inr rfl)))) (fun _ _ _ _ _ => dts_nil) (fun _ _ _ _ _ => (de_tup (da_cons (de_op op_addD kStr (de_ix (ix_D (hu_of hr)) (vr 15) kInt (fun _ _ => rfl))) (da_cons (de_ix (ix_D (hu_of hr)) (vr 15) kInt (fun _ _ => rfl)) (da_cons (de_ix (ix_D (hu_of hr)) (vr 15) kInt (fun _ _ => rfl)) (da_cons (bT cr_tuple b_tuple T.b_tuple (da_cons (de_lc (own := [("_law_x", 17)]) rfl nd (di_seq (de_ix (ix_D (hu_of hr)) (vr 15) kInt (fun _ _ => rfl))) (blkOk_by (by dsimp only [cxOf, Cx.nox, Cx.blk, compEnvC, relS_eq, envOfC]; decide +kernel)) (fun _ _ _ _ _ => (dg_name' (pg_name (i := 17) nd rfl (by first | exact Or.inl rfl | exact Or.inr rfl)))) (fun _ _ _ _ _ => dts_nil) (fun _ _ _ _ _ => (de_op op_subD kInt (vr 17)))) da_nil)) da_nil)))))))) fun h => ps_set (i := 5) nd rfl (by first | exact Or.inl rfl | exact Or.inr rfl) h)
  (dss_cons (ds_set (de_tup (da_cons (vr 3) (da_cons (vr 4) (da_cons (vr 5) da_nil)))) fun h => ps_set (i := 6) nd rfl (by first | exact Or.inl rfl | exact Or.inr rfl) h)
  (dss_cons (ds_set (cF C__law_n_made (hr.mono (by decide)) (da_cons (vr 6) da_nil)) fun h => ps_set (i := 7) nd rfl (by first | exact Or.inl rfl | exact Or.inr rfl) h)
  (dss_cons (ds_for PassesOwn.never rfl (di_range1 (da_cons kInt da_nil) fun h => pi_range1 (by rfl) T.b_range h) (dg_name' (pg_name (i := 8) nd rfl (by first | exact Or.inl rfl | exact Or.inr rfl)))
  (dss_cons (ds_set (cF C__law_gone (hr.mono (by decide)) (da_cons (vr 1) (da_cons (vr 6) (da_cons (de_op op_addD kInt (cF C__law_draw (hr.mono (by decide)) (da_cons (vr 1) (da_cons kInt da_nil)))) da_nil)))) fun h => ps_set (i := 10) nd rfl (by first | exact Or.inl rfl | exact Or.inr rfl) h)
  (dss_cons (ds_set (bT (cr_dictM rfl) b_dict T.b_dict (da_cons (de_lc (own := [("_law_row", 15)]) rfl nd (di_seq (de_slice (vr 5) do_none (do_some (de_op op_fdivD (bB cr_len b_len T.b_len (da_cons (vr 5) da_nil)) kInt)))) (blkOk_by (show blkC N_law (defScope s_law) _ _ = true from by decide +kernel)) (fun _ _ _ _ _ => (dg_name' (pg_name (i := 15) nd rfl (by first | exact Or.inl rfl | exact Or.inr rfl)))) (fun _ _ _ _ _ => dts_nil) (fun _ _ _ _ _ => (de_tup (da_cons (de_ix (ix_D (hu_of hr)) (vr 15) kInt (fun _ _ => rfl)) (da_cons (de_op op_addD kStr (de_ix (ix_D (hu_of hr)) (vr 15) kInt (fun _ _ => rfl))) da_nil))))) da_nil)) fun h => ps_set (i := 11) nd rfl (by first | exact Or.inl rfl | exact Or.inr rfl) h)
  (dss_cons (ds_expr (mUpd (vr 11) (da_cons (bT (cr_dict rfl) b_dict T.b_dict (da_cons (de_lcK (own := [("_law_name", 16)]) rfl nd (pv 11) (blkOk_by (show blkC N_law (defScope s_law) _ _ = true from by decide +kernel)) (fun _ _ _ _ _ => (dg_name' (pg_name (i := 16) nd rfl (by first | exact Or.inl rfl | exact Or.inr rfl)))) (fun _ _ _ _ _ => dts_nil) (fun _ _ _ _ _ => (de_tup (da_cons (de_ix (ix_D (hu_of hr)) (vr 11) (vr 16) (fun _ _ => rfl)) (da_cons (vr 16) da_nil))))) da_nil)) da_nil)))
  (dss_cons (ds_set (de_lstM (da_cons (vr 10) (da_cons (de_op op_addD (vr 10) (de_lc (own := [("_law_name", 16)]) rfl nd (di_seq (de_rev (vr 10) fun h => pe_revL h)) (blkOk_by (show blkC N_law (defScope s_law) _ _ = true from by decide +kernel)) (fun _ _ _ _ _ => (dg_name' (pg_name (i := 16) nd rfl (by first | exact Or.inl rfl | exact Or.inr rfl)))) (fun _ _ _ _ _ => dts_nil) (fun _ _ _ _ _ => (de_ix (ix_D (hu_of hr)) (vr 11) (vr 16) (fun _ _ => rfl))))) (da_cons (de_op op_mulD (vr 10) kInt) (da_cons (de_op op_addD (de_slice (vr 10) (do_some kInt) do_none) (de_slice (vr 10) do_none (do_some kInt))) da_nil))))) fun h => ps_set (i := 12) nd rfl (by first | exact Or.inl rfl | exact Or.inr rfl) h)
  (dss_cons (ds_set (cF C__law_draw (hr.mono (by decide)) (da_cons (vr 1) (da_cons (de_op op_addD (bB cr_len b_len T.b_len (da_cons (vr 10) da_nil)) kInt) da_nil))) fun h => ps_set (i := 13) nd rfl (by first | exact Or.inl rfl | exact Or.inr rfl) h)
  (dss_cons (ds_expr (mApp (vr 12) (da_cons (de_op op_addD (de_op op_addD (de_slice (vr 10) do_none (do_some (vr 13))) (de_lst (da_cons (de_ix (ix_D (hu_of hr)) (cF C__law_pick (hr.mono (by decide)) (da_cons (vr 1) (da_cons (vr 5) da_nil))) kInt (fun _ _ => rfl)) da_nil))) (de_slice (vr 10) (do_some (vr 13)) do_none)) da_nil)))
  (dss_still 12 (dss_one (ds_for PassesOwn.never rfl (di_seq (vr 12)) (dg_name' (pg_name (i := 14) nd rfl (by first | exact Or.inl rfl | exact Or.inr rfl)))
  (dss_one (ds_if (dt_not (dt_val (cF C__law_same (hr.mono (by decide)) (da_cons (cF C_is_way (hr.mono (by decide)) (da_cons (vr 7) (da_cons (cF C__law_pick (hr.mono (by decide)) (da_cons (vr 1) (da_cons (de_lst (da_cons (vr 14) (da_cons (bT cr_tuple b_tuple T.b_tuple (da_cons (vr 14) da_nil)) da_nil))) da_nil))) da_nil))) (da_cons (cF C__law_is_way (hr.mono (by decide)) (da_cons (vr 6) (da_cons (vr 14) da_nil))) da_nil)))))
  (dss_one (ds_ret kBl)) dss_nil))))))))))))
  (dss_cons (ds_set (de_lst (da_cons kNon (da_cons kInt (da_cons kStr (da_cons (de_ix (ix_D (hu_of hr)) (de_ix (ix_D (hu_of hr)) (vr 5) kInt (fun _ _ => rfl)) kInt (fun _ _ => rfl)) (da_cons (de_lst da_nil) (da_cons de_dnew (da_cons (de_lst (da_cons kNon da_nil)) (da_cons (de_lst (da_cons (de_lst da_nil) da_nil)) (da_cons (de_lst (da_cons kStr da_nil)) (da_cons kBl (da_cons (de_lst (da_cons (de_ix (ix_D (hu_of hr)) (vr 5) kInt (fun _ _ => rfl)) da_nil)) (da_cons (de_lst (da_cons kInt da_nil)) da_nil))))))))))))) fun h => ps_set (i := 9) nd rfl (by first | exact Or.inl rfl | exact Or.inr rfl) h)
  (dss_one (ds_if (dt_val (bB (crr_anyT rfl) b_any T.b_any (da_cons (de_lc (own := [("_law_thing", 14)]) rfl nd (di_seq (vr 9)) (blkOk_by (show blkC N_law (defScope s_law) _ _ = true from by decide +kernel)) (fun _ _ _ _ _ => (dg_name' (pg_name (i := 14) nd rfl (by first | exact Or.inl rfl | exact Or.inr rfl)))) (fun _ _ _ _ _ => dts_nil) (fun _ _ _ _ _ => (de_cmp op_isNBlD (cF C_is_way (hr.mono (by decide)) (da_cons (vr 7) (da_cons (vr 14) da_nil))) kBl (nomark _)))) da_nil)))
  (dss_one (ds_ret kBl)) dss_nil)))))))))
  (dss_one (ds_ret kBl)))))
theorem all_mk {l : PySem.W.OpenLaw} {w : World} {K : PySem.W.Frag} {h : Heap} {mg : Str → Option Value} {fa KNet f__law_start f__law_draw f__law_pick f__law_n_words f__law_n_plan f_is_whole f_is_between f_is_list f_is_name f_are_rooms f_is_key f_are_whole f_is_tie f_first_no_tie f_Net___init__ f__law_n_made f__law_gone f__law_same f__law_is_way f_Net___contains__ f_Net_tie f_ties_around f_is_way f_law : Addr} {od an : Option Addr} {sl : Array (Option Value)} {oc kV dc pm cd ct : Value} (X : K.In h) (G : h.Ns mainGlobals mg) (hfa : mg "law" = some (.ref fa))
    (a_Net : PySem.W.nsIn K mainGlobals "Net" = some (some (.ref KNet)))
    (a__law_start : PySem.W.nsIn K mainGlobals "_law_start" = some (some (.ref f__law_start))) (F__law_start : ∃ fd, Fun K "_law_start" "_law_start" s__law_start f__law_start fd)
    (a__law_draw : PySem.W.nsIn K mainGlobals "_law_draw" = some (some (.ref f__law_draw))) (F__law_draw : ∃ fd, Fun K "_law_draw" "_law_draw" s__law_draw f__law_draw fd)
    (a__law_pick : PySem.W.nsIn K mainGlobals "_law_pick" = some (some (.ref f__law_pick))) (F__law_pick : ∃ fd, Fun K "_law_pick" "_law_pick" s__law_pick f__law_pick fd)
    (a__law_n_words : PySem.W.nsIn K mainGlobals "_law_n_words" = some (some (.ref f__law_n_words))) (F__law_n_words : ∃ fd, Fun K "_law_n_words" "_law_n_words" s__law_n_words f__law_n_words fd)
    (a__law_n_plan : PySem.W.nsIn K mainGlobals "_law_n_plan" = some (some (.ref f__law_n_plan))) (F__law_n_plan : ∃ fd, Fun K "_law_n_plan" "_law_n_plan" s__law_n_plan f__law_n_plan fd)
    (a_is_whole : PySem.W.nsIn K mainGlobals "is_whole" = some (some (.ref f_is_whole))) (F_is_whole : ∃ fd, Fun K "is_whole" "is_whole" s_is_whole f_is_whole fd)
    (a_is_between : PySem.W.nsIn K mainGlobals "is_between" = some (some (.ref f_is_between))) (F_is_between : ∃ fd, Fun K "is_between" "is_between" s_is_between f_is_between fd)
    (a_is_list : PySem.W.nsIn K mainGlobals "is_list" = some (some (.ref f_is_list))) (F_is_list : ∃ fd, Fun K "is_list" "is_list" s_is_list f_is_list fd)
    (a_is_name : PySem.W.nsIn K mainGlobals "is_name" = some (some (.ref f_is_name))) (F_is_name : ∃ fd, Fun K "is_name" "is_name" s_is_name f_is_name fd)
    (a_are_rooms : PySem.W.nsIn K mainGlobals "are_rooms" = some (some (.ref f_are_rooms))) (F_are_rooms : ∃ fd, Fun K "are_rooms" "are_rooms" s_are_rooms f_are_rooms fd)
    (a_is_key : PySem.W.nsIn K mainGlobals "is_key" = some (some (.ref f_is_key))) (F_is_key : ∃ fd, Fun K "is_key" "is_key" s_is_key f_is_key fd)
    (a_are_whole : PySem.W.nsIn K mainGlobals "are_whole" = some (some (.ref f_are_whole))) (F_are_whole : ∃ fd, Fun K "are_whole" "are_whole" s_are_whole f_are_whole fd)
    (a_is_tie : PySem.W.nsIn K mainGlobals "is_tie" = some (some (.ref f_is_tie))) (F_is_tie : ∃ fd, Fun K "is_tie" "is_tie" s_is_tie f_is_tie fd)
    (a_first_no_tie : PySem.W.nsIn K mainGlobals "first_no_tie" = some (some (.ref f_first_no_tie))) (F_first_no_tie : ∃ fd, Fun K "first_no_tie" "first_no_tie" s_first_no_tie f_first_no_tie fd)
    (a_Net___init__ : PySem.W.findIn K (.ref KNet) "__init__" = some (some (.ref f_Net___init__))) (i_Net___init__ : PySem.W.isFn K (.ref f_Net___init__) = true) (F_Net___init__ : ∃ fd, Fun K "__init__" "Net.__init__" s_Net___init__ f_Net___init__ fd)
    (a__law_n_made : PySem.W.nsIn K mainGlobals "_law_n_made" = some (some (.ref f__law_n_made))) (F__law_n_made : ∃ fd, Fun K "_law_n_made" "_law_n_made" s__law_n_made f__law_n_made fd)
    (a__law_gone : PySem.W.nsIn K mainGlobals "_law_gone" = some (some (.ref f__law_gone))) (F__law_gone : ∃ fd, Fun K "_law_gone" "_law_gone" s__law_gone f__law_gone fd)
    (a__law_same : PySem.W.nsIn K mainGlobals "_law_same" = some (some (.ref f__law_same))) (F__law_same : ∃ fd, Fun K "_law_same" "_law_same" s__law_same f__law_same fd)
    (a__law_is_way : PySem.W.nsIn K mainGlobals "_law_is_way" = some (some (.ref f__law_is_way))) (F__law_is_way : ∃ fd, Fun K "_law_is_way" "_law_is_way" s__law_is_way f__law_is_way fd)
    (a_Net___contains__ : PySem.W.findIn K (.ref KNet) "__contains__" = some (some (.ref f_Net___contains__))) (i_Net___contains__ : PySem.W.isFn K (.ref f_Net___contains__) = true) (F_Net___contains__ : ∃ fd, Fun K "__contains__" "Net.__contains__" s_Net___contains__ f_Net___contains__ fd)
    (a_Net_tie : PySem.W.findIn K (.ref KNet) "tie" = some (some (.ref f_Net_tie))) (i_Net_tie : PySem.W.isFn K (.ref f_Net_tie) = true) (F_Net_tie : ∃ fd, Fun K "tie" "Net.tie" s_Net_tie f_Net_tie fd)
    (a_ties_around : PySem.W.nsIn K mainGlobals "ties_around" = some (some (.ref f_ties_around))) (F_ties_around : ∃ fd, Fun K "ties_around" "ties_around" s_ties_around f_ties_around fd)
    (a_is_way : PySem.W.nsIn K mainGlobals "is_way" = some (some (.ref f_is_way))) (F_is_way : ∃ fd, Fun K "is_way" "is_way" s_is_way f_is_way fd)
    (a_law : PySem.W.nsIn K mainGlobals "law" = some (some (.ref f_law))) (l_law : K.lookup f_law = some ⟨oc, od, .func (PySem.W.fnOf "law" "law" (defArgs s_law) (defBody s_law) (defScope s_law) .none kV dc pm an cd ct), sl⟩) (c_law : PySem.W.codeIn K cd "law" = true) (k_law : PySem.W.keepIn K (.ref f_law) = true)
    (pg_Net : PySem.W.plainGet K KNet Str.empty = true)
    (hd_Net : PySem.W.hasDictIn K KNet = true)
    (po_Net : PySem.W.plainOver K KNet = true)
    (sa_Net : PySem.W.findIn K (.ref KNet) "__setattr__" = some (some (.builtin "object.__setattr__")))
    (mk_Net : PySem.W.makesIn K KNet = true)
    (kc_Net : PySem.W.keepIn K (.ref KNet) = true)
    (n_Net__named : PySem.W.findIn K (.ref KNet) "_named" = some none)
    (n_Net__rooms : PySem.W.findIn K (.ref KNet) "_rooms" = some none)
    (n_Net__ties : PySem.W.findIn K (.ref KNet) "_ties" = some none)
    (n_Net_axes : PySem.W.findIn K (.ref KNet) "axes" = some none)
    (z_all : PySem.W.nsIn K mainGlobals "all" = some none)
    (z_any : PySem.W.nsIn K mainGlobals "any" = some none)
    (z_bool : PySem.W.nsIn K mainGlobals "bool" = some none)
    (z_dict : PySem.W.nsIn K mainGlobals "dict" = some none)
    (z_enumerate : PySem.W.nsIn K mainGlobals "enumerate" = some none)
    (z_int : PySem.W.nsIn K mainGlobals "int" = some none)
    (z_isinstance : PySem.W.nsIn K mainGlobals "isinstance" = some none)
    (z_len : PySem.W.nsIn K mainGlobals "len" = some none)
    (z_list : PySem.W.nsIn K mainGlobals "list" = some none)
    (z_range : PySem.W.nsIn K mainGlobals "range" = some none)
    (z_str : PySem.W.nsIn K mainGlobals "str" = some none)
    (z_sum : PySem.W.nsIn K mainGlobals "sum" = some none)
    (z_tuple : PySem.W.nsIn K mainGlobals "tuple" = some none)
    (z_zip : PySem.W.nsIn K mainGlobals "zip" = some none)
    {s_SIGNS : Str} {t_SIGNS : Tok} (c_SIGNS : PySem.W.nsIn K mainGlobals "SIGNS" = some (some (.str s_SIGNS t_SIGNS))) (e_SIGNS : s_SIGNS = ("abcdefghijklmnopqrstuvwxyz0123456789." : Str))
    {t_MOST_AXES : Tok} (c_MOST_AXES : PySem.W.nsIn K mainGlobals "MOST_AXES" = some (some (.int 4 t_MOST_AXES)))
    (math : ∀ (L : List D → M D) (s : D) (ns : List Int), ns.length ≤ 63 → (∀ vh, L [s] vh = new (.lst (ns.map D.int)) vh) → ∃ vh', d_law L [s] [] = some (.bl true, vh')) :
    ∃ fd : FuncData, (∀ (s : Shared) (v : Value), BindsTo s fd ⟨[v], []⟩ [("_law_script", v)]) ∧ ∀ base : Heap, K.In base → base.Ns mainGlobals mg → FnOk l.prog w K mg base CX0 8 fa fd ["_law_script"] (spLaw K) := by
  have e := hfa.symm.trans (PySem.W.mg_of X G a_law)
  cases e
  obtain ⟨_, F__law_start⟩ := F__law_start
  obtain ⟨_, F__law_draw⟩ := F__law_draw
  obtain ⟨_, F__law_pick⟩ := F__law_pick
  obtain ⟨_, F__law_n_words⟩ := F__law_n_words
  obtain ⟨_, F__law_n_plan⟩ := F__law_n_plan
  obtain ⟨_, F_is_whole⟩ := F_is_whole
  obtain ⟨_, F_is_between⟩ := F_is_between
  obtain ⟨_, F_is_list⟩ := F_is_list
  obtain ⟨_, F_is_name⟩ := F_is_name
  obtain ⟨_, F_are_rooms⟩ := F_are_rooms
  obtain ⟨_, F_is_key⟩ := F_is_key
  obtain ⟨_, F_are_whole⟩ := F_are_whole
  obtain ⟨_, F_is_tie⟩ := F_is_tie
  obtain ⟨_, F_first_no_tie⟩ := F_first_no_tie
  obtain ⟨_, F_Net___init__⟩ := F_Net___init__
  obtain ⟨_, F__law_n_made⟩ := F__law_n_made
  obtain ⟨_, F__law_gone⟩ := F__law_gone
  obtain ⟨_, F__law_same⟩ := F__law_same
  obtain ⟨_, F__law_is_way⟩ := F__law_is_way
  obtain ⟨_, F_Net___contains__⟩ := F_Net___contains__
  obtain ⟨_, F_Net_tie⟩ := F_Net_tie
  obtain ⟨_, F_ties_around⟩ := F_ties_around
  obtain ⟨_, F_is_way⟩ := F_is_way
  subst e_SIGNS
  have T : ∀ a, Tx K mg (cl2 (fun c => KNet) a) := fun a => ⟨PySem.W.mg_none_of X G z_all, PySem.W.mg_none_of X G z_any, PySem.W.mg_none_of X G z_bool, PySem.W.mg_none_of X G z_dict, PySem.W.mg_none_of X G z_enumerate, PySem.W.mg_none_of X G z_int, PySem.W.mg_none_of X G z_isinstance, PySem.W.mg_none_of X G z_len, PySem.W.mg_none_of X G z_list, PySem.W.mg_none_of X G z_range, PySem.W.mg_none_of X G z_str, PySem.W.mg_none_of X G z_sum, PySem.W.mg_none_of X G z_tuple, PySem.W.mg_none_of X G z_zip, ⟨_, PySem.W.mg_of X G c_SIGNS⟩, ⟨_, PySem.W.mg_of X G c_MOST_AXES⟩, PySem.W.mg_of X G a_Net, ⟨pg_Net, hd_Net, po_Net, sa_Net⟩, mk_Net, kc_Net, n_Net__named, n_Net__rooms, n_Net__ties, n_Net_axes⟩
  refine ⟨PySem.W.fnOf "law" "law" (defArgs s_law) (defBody s_law) (defScope s_law) .none kV dc pm an cd ct, fun s v => .of_eq rfl, fun base _ _ => fn_law (cs := fun c => KNet) (den := d_law) (fun a L hL => ?_) math⟩
  have C__law_start := ok__law_start (P := l.prog) (w := w) (base := base) (T a) hL F__law_start (PySem.W.mg_of X G a__law_start)
  have C__law_draw := ok__law_draw (P := l.prog) (w := w) (base := base) (T a) F__law_draw (PySem.W.mg_of X G a__law_draw)
  have C__law_pick := ok__law_pick (P := l.prog) (w := w) (base := base) (T a) C__law_draw F__law_pick (PySem.W.mg_of X G a__law_pick)
  have C__law_n_words := ok__law_n_words (P := l.prog) (w := w) (base := base) (T a) C__law_draw C__law_pick F__law_n_words (PySem.W.mg_of X G a__law_n_words)
  have C__law_n_plan := ok__law_n_plan (P := l.prog) (w := w) (base := base) (T a) C__law_draw C__law_n_words C__law_pick F__law_n_plan (PySem.W.mg_of X G a__law_n_plan)
  have C_is_whole := ok_is_whole (P := l.prog) (w := w) (base := base) (T a) F_is_whole (PySem.W.mg_of X G a_is_whole)
  have C_is_between := ok_is_between (P := l.prog) (w := w) (base := base) (T a) C_is_whole F_is_between (PySem.W.mg_of X G a_is_between)
  have C_is_list := ok_is_list (P := l.prog) (w := w) (base := base) (T a) F_is_list (PySem.W.mg_of X G a_is_list)
  have C_is_name := ok_is_name (P := l.prog) (w := w) (base := base) (T a) F_is_name (PySem.W.mg_of X G a_is_name)
  have C_are_rooms := ok_are_rooms (P := l.prog) (w := w) (base := base) (T a) C_is_list C_is_name F_are_rooms (PySem.W.mg_of X G a_are_rooms)
  have C_is_key := ok_is_key (P := l.prog) (w := w) (base := base) (T a) F_is_key (PySem.W.mg_of X G a_is_key)
  have C_are_whole := ok_are_whole (P := l.prog) (w := w) (base := base) (T a) C_is_list C_is_whole F_are_whole (PySem.W.mg_of X G a_are_whole)
  have C_is_tie := ok_is_tie (P := l.prog) (w := w) (base := base) (T a) C_are_whole C_is_key C_is_list C_is_name F_is_tie (PySem.W.mg_of X G a_is_tie)
  have C_first_no_tie := ok_first_no_tie (P := l.prog) (w := w) (base := base) (T a) C_is_list C_is_tie F_first_no_tie (PySem.W.mg_of X G a_first_no_tie)
  have C_Net___init__ := ok_Net___init__ (P := l.prog) (w := w) (base := base) (T a) C_are_rooms C_first_no_tie C_is_between F_Net___init__ a_Net___init__ i_Net___init__
  have C__law_n_made := ok__law_n_made (P := l.prog) (w := w) (base := base) (T a) C_Net___init__ F__law_n_made (PySem.W.mg_of X G a__law_n_made)
  have C__law_gone := ok__law_gone (P := l.prog) (w := w) (base := base) (T a) C__law_pick F__law_gone (PySem.W.mg_of X G a__law_gone)
  have C__law_same := ok__law_same (P := l.prog) (w := w) (base := base) (T a) F__law_same (PySem.W.mg_of X G a__law_same) 1
  have C__law_is_way := ok__law_is_way (P := l.prog) (w := w) (base := base) (T a) F__law_is_way (PySem.W.mg_of X G a__law_is_way)
  have C_Net___contains__ := ok_Net___contains__ (P := l.prog) (w := w) (base := base) (T a) C_is_key F_Net___contains__ a_Net___contains__ i_Net___contains__
  have C_Net_tie := ok_Net_tie (P := l.prog) (w := w) (base := base) (T a) C_Net___contains__ F_Net_tie a_Net_tie i_Net_tie
  have C_ties_around := ok_ties_around (P := l.prog) (w := w) (base := base) (T a) C_Net___contains__ C_Net_tie C_is_list F_ties_around (PySem.W.mg_of X G a_ties_around)
  have C_is_way := ok_is_way (P := l.prog) (w := w) (base := base) (T a) C_ties_around F_is_way (PySem.W.mg_of X G a_is_way)
  exact body_law (T a) C__law_draw C__law_gone C__law_is_way C__law_n_made C__law_n_plan C__law_pick C__law_same C__law_start C_is_way (fun_mk (st := s_law) l_law c_law k_law)
end
end K04

namespace K04
open PySem VL L2
/-- the stream: what is left of the script, the great number, the count, the mix -/
structure SS where
  xs : List Int
  p : Int
  c : Int
  m : Int
def SS.vh (s : SS) (t : VH) : VH := some (.lst (s.xs.map D.int)) :: some (.lst [.ref 0, .int s.p, .int s.c, .int s.m]) :: t
structure SS.Ok (k : Nat) (s : SS) : Prop where
  c0 : 0 ≤ s.c
  ck : s.c ≤ k
  m0 : 0 ≤ s.m
  m1 : s.m < 2147483647
  xl : s.xs.length ≤ 63
section
variable {s : SS} {t : VH} {k : Nat}
theorem ix_s0 : ixD (.ref 1) (.int 0) (s.vh t) = some (.ref 0, s.vh t) := rfl
theorem ix_s1 : ixD (.ref 1) (.int 1) (s.vh t) = some (.int s.p, s.vh t) := rfl
theorem ix_s2 : ixD (.ref 1) (.int 2) (s.vh t) = some (.int s.c, s.vh t) := rfl
theorem ix_s3 : ixD (.ref 1) (.int 3) (s.vh t) = some (.int s.m, s.vh t) := rfl
theorem set_s1 {p : Int} : setD (.ref 1) (.int 1) (.int p) (s.vh t) = some (.non, SS.vh { s with p := p } t) := rfl
theorem set_s2 {c : Int} : setD (.ref 1) (.int 2) (.int c) (s.vh t) = some (.non, SS.vh { s with c := c } t) := rfl
theorem set_s3 {m : Int} : setD (.ref 1) (.int 3) (.int m) (s.vh t) = some (.non, SS.vh { s with m := m } t) := rfl
theorem toPys_ints : ∀ xs : List Int, toPys (xs.map D.int) = some (xs.map PyData.int)
  | [] => rfl
  | x :: xs => by
    rw [List.map_cons]
    unfold toPys
    rw [toPys_ints xs]
    rfl
theorem eq_int {i j : Int} {vh : VH} : eqD (.int i) (.int j) vh = some (.bl (i == j), vh) := rfl
theorem isLst0 : isLst (s.vh t) (.ref 0) = true := rfl
theorem pop_s {x : Int} {xs : List Int} (e : s.xs = x :: xs) : popAtD (.ref 0) [.int 0] (s.vh t) = some (.int x, SS.vh { s with xs := xs } t) := by
  unfold SS.vh
  rw [e]
  rfl
end

theorem canLay_ints : ∀ xs : List Int, PyData.canLayAll0 (xs.map PyData.int) = true
  | [] => rfl
  | x :: xs => by
    rw [List.map_cons, PyData.canLayAll0, canLay_ints xs]
    rfl
theorem depth_ints : ∀ xs : List Int, PyData.depthAll (xs.map PyData.int) = 0
  | [] => rfl
  | x :: xs => by
    rw [List.map_cons, PyData.depthAll, depth_ints xs]
    rfl
theorem shaped_ints (xs : List Int) : SeqAt.shaped (.list (xs.map PyData.int)) = true := by
  have a : PyData.canLay0 (.list (xs.map PyData.int)) = true := canLay_ints xs
  have b : PyData.depth (.list (xs.map PyData.int)) = 1 := by
    rw [PyData.depth, depth_ints]
  unfold SeqAt.shaped
  rw [a, b]
  rfl
theorem ne_nil {s : SS} {t : VH} : neD (.ref 0) (.lst []) (s.vh t) = some (.bl (decide (s.xs ≠ [])), s.vh t) := by
  have a : topPy (s.vh t) (.ref 0) = some (.list (s.xs.map PyData.int)) := by
    show (toPys (s.xs.map D.int)).map PyData.list = _
    rw [toPys_ints]
    rfl
  have b : topPy (s.vh t) (.lst []) = some (.list []) := rfl
  have c : SeqAt.shaped (.list ([] : List PyData)) = true := shaped_ints []
  unfold neD eqPy
  simp only [a, b, shaped_ints, c, Bool.and_self, if_true]
  cases s.xs <;> rfl
theorem pow10 : powD (.int 10) (.int 18) = VL.ret (.int 1000000000000000000) := by
  show (if decide ((0 : Int) ≤ 18 ∧ (18 : Int) ≤ 1000000 ∧ (10 : Int).natAbs < 18446744073709551616) = true then VL.ret (D.int (10 ^ (18 : Int).toNat)) else VL.fail) = _
  rw [if_pos (by decide)]
  rfl
theorem mod_int {i j : Int} (h : j ≠ 0) : modD (.int i) (.int j) = VL.ret (.int (i.fmod j)) := by
  unfold modD VL.opI
  exact if_pos (decide_eq_true h)
theorem fdiv_int {i j : Int} (h : j ≠ 0) (h2 : j.natAbs < 1073741824) : fdivD (.int i) (.int j) = VL.ret (.int (i.fdiv j)) := by
  unfold fdivD VL.opI
  exact if_pos (decide_eq_true ⟨h, h2⟩)
theorem pow_int {i j : Int} (h0 : 0 ≤ j) (h1 : j ≤ 1000000) (h2 : i.natAbs < 18446744073709551616) : powD (.int i) (.int j) = VL.ret (.int (i ^ j.toNat)) := by
  unfold powD VL.opI
  exact if_pos (decide_eq_true ⟨h0, h1, h2⟩)
theorem mul_int {i j : Int} (h : -18446744073709551616 < j ∧ j < 18446744073709551616) : mulD (.int i) (.int j) = VL.ret (.int (i * j)) := by
  unfold mulD
  dsimp only
  rw [if_pos (decide_eq_true (Or.inr h))]
theorem mul_intL {i j : Int} (h : -18446744073709551616 < i ∧ i < 18446744073709551616) : mulD (.int i) (.int j) = VL.ret (.int (i * j)) := by
  unfold mulD
  dsimp only
  rw [if_pos (decide_eq_true (Or.inl h))]
theorem add_int {i j : Int} : addD (.int i) (.int j) = VL.ret (.int (i + j)) := rfl
theorem int_int {i : Int} {vh : VH} : intD [.int i] vh = some (.int i, vh) := rfl
theorem gt_int {i j : Int} : gtD (.int i) (.int j) = VL.ret (.bl (decide (j < i))) := rfl
theorem ge_int {i j : Int} : geD (.int i) (.int j) = VL.ret (.bl (decide (j ≤ i))) := rfl
theorem lt_int {i j : Int} : ltD (.int i) (.int j) = VL.ret (.bl (decide (i < j))) := rfl
theorem mkLst_nil : mkLst [] = VL.ret (.lst []) := rfl
theorem fm {i n : Int} (h : 0 < n) : 0 ≤ i.fmod n ∧ i.fmod n < n := by
  rw [Int.fmod_eq_emod_of_nonneg _ (Int.le_of_lt h)]
  exact ⟨Int.emod_nonneg _ (by omega), Int.emod_lt_of_pos _ h⟩
theorem sq {g h : Bk} {ρ ρ' : Rho} {vh vh' : VH} (e : g ρ vh = some (.nx ρ', vh')) : seqS g h ρ vh = h ρ' vh' := by
  unfold seqS VL.bind
  rw [e]
theorem denF_rt {n : Nat} {g : Bk} {ds : List D} {d : D} {vh vh' : VH} (h : g (ds.map some ++ List.replicate (n - ds.length) none) vh = some (.rt d, vh')) : denF n g ds vh = some (d, vh') := by
  unfold denF VL.bind
  rw [h]
  rfl
def drawA : Bk := asgS (den2 addD (den2 ixD (var 0) (kst (.int 2))) (kst (.int 1))) (subG (var 0) (kst (.int 2)))
def drawI : Bk := ifS (andB (cmpT eqD (den2 ixD (var 0) (kst (.int 1))) (kst (.int 0))) (cmpT neD (den2 ixD (var 0) (kst (.int 0))) (denA mkLst nilA)))
  (seqS (asgS (methD isLst (den2 ixD (var 0) (kst (.int 0))) (consA (kst (.int 0)) nilA) popAtD) (nameG 3))
  (seqS (asgS (den2 modD (denA intD (consA (den2 addD (den2 addD (den2 mulD (den2 ixD (var 0) (kst (.int 3))) (kst (.int 8191))) (var 3)) (kst (.int 3))) nilA)) (kst (.int 2147483647))) (subG (var 0) (kst (.int 3))))
  (asgS (ifD (cmpT geD (var 3) (den2 powD (kst (.int 10)) (kst (.int 18)))) (var 3) (kst (.int 0))) (subG (var 0) (kst (.int 1)))))) nopS
def drawB : Bk := (seqS (ifS (cmpT gtD (den2 ixD (var 0) (kst (.int 1))) (kst (.int 0)))
  (seqS (asgS (den2 modD (denA intD (consA (den2 ixD (var 0) (kst (.int 1))) nilA)) (var 1)) (nameG 4))
  (seqS (asgS (den2 fdivD (den2 ixD (var 0) (kst (.int 1))) (var 1)) (subG (var 0) (kst (.int 1))))
  (retS (var 4)))) nopS)
  (seqS (asgS (den2 modD (denA intD (consA (den2 powD (den2 addD (den2 addD (den2 ixD (var 0) (kst (.int 3))) (den2 mulD (kst (.int 7919)) (den2 ixD (var 0) (kst (.int 2))))) (kst (.int 104729))) (kst (.int 5))) nilA)) (kst (.int 2147483629))) (nameG 2))
  (retS (den2 modD (den2 modD (denA intD (consA (den2 powD (den2 addD (den2 addD (den2 mulD (var 2) (kst (.int 48271))) (den2 mulD (kst (.int 30011)) (den2 ixD (var 0) (kst (.int 2))))) (kst (.int 29))) (kst (.int 3))) nilA)) (kst (.int 1000000007))) (var 1)))))
theorem g_draw : g__law_draw = seqS drawA (seqS drawI drawB) := rfl
theorem draw_ok {s : SS} {t : VH} {k : Nat} (h : s.Ok k) (hk : k < 1099511627776) {n : Int} (h0 : 0 < n) (h1 : n < 1073741824) :
    ∃ (j : Int) (s' : SS), d__law_draw [.ref 1, .int n] (s.vh t) = some (.int j, s'.vh t) ∧ 0 ≤ j ∧ j < n ∧ s'.Ok (k + 1) := by
  obtain ⟨xs, p, c, m⟩ := s
  obtain ⟨c0, ck, m0, m1, xl⟩ := h
  dsimp only at c0 ck m0 m1 xl
  have hn : n ≠ 0 := by omega
  -- behind the first step: the great number, what is left, the mix
  have fin : ∀ (ys : List Int) (q m' : Int) (a : Option D), ys.length ≤ 63 → 0 ≤ m' → m' < 2147483647 → ∃ (j : Int) (s' : SS),
      drawB [some (.ref 1), some (.int n), none, a, none] (SS.vh ⟨ys, q, c + 1, m'⟩ t) = some (.rt (.int j), s'.vh t) ∧ 0 ≤ j ∧ j < n ∧ s'.Ok (k + 1) := by
    intro ys q m' a hy hm0 hm1
    by_cases hq : 0 < q
    · refine ⟨q.fmod n, ⟨ys, q.fdiv n, c + 1, m'⟩, ?_, (fm h0).1, (fm h0).2, ⟨by dsimp only; omega, by dsimp only; omega, hm0, hm1, hy⟩⟩
      simp only [VL.bind, VL.ret, VL.fail, denF, denA, den1, den2, denC, consA, nilA, var, kst, seqS, nopS, ifS, retS, asgS, nameG, subG, dropS, cmpT, valT, andB, orB, notB, toB, ifD, andD, orD, notD, methD, List.map_cons, List.map_nil, List.cons_append, List.nil_append, List.length_cons, List.length_nil, List.replicate, List.getElem?_cons_zero, List.getElem?_cons_succ, List.set_cons_zero, List.set_cons_succ, List.set_nil, List.getElem?_nil, Option.map_some, Option.map_none, Option.bind_some, Option.bind_none, if_true, if_false, Bool.false_eq_true, reduceIte, Nat.reduceAdd, Nat.reduceSub, Int.reduceAdd, Int.reduceNeg, drawB, ix_s1, gt_int, decide_eq_true hq, int_int, mod_int hn, fdiv_int hn (by omega : n.natAbs < 1073741824), set_s1]
    · have b1 : (m' + 7919 * (c + 1) + 104729).natAbs < 18446744073709551616 := by omega
      have b2 : (Int.fmod ((m' + 7919 * (c + 1) + 104729) ^ (5 : Int).toNat) 2147483629 * 48271 + 30011 * (c + 1) + 29).natAbs < 18446744073709551616 := by
        have f := fm (i := (m' + 7919 * (c + 1) + 104729) ^ (5 : Int).toNat) (n := 2147483629) (by decide)
        generalize Int.fmod ((m' + 7919 * (c + 1) + 104729) ^ (5 : Int).toNat) 2147483629 = z at f ⊢
        omega
      refine ⟨Int.fmod (Int.fmod ((Int.fmod ((m' + 7919 * (c + 1) + 104729) ^ (5 : Int).toNat) 2147483629 * 48271 + 30011 * (c + 1) + 29) ^ (3 : Int).toNat) 1000000007) n, ⟨ys, q, c + 1, m'⟩, ?_, (fm h0).1, (fm h0).2, ⟨by dsimp only; omega, by dsimp only; omega, hm0, hm1, hy⟩⟩
      simp only [VL.bind, VL.ret, VL.fail, denF, denA, den1, den2, denC, consA, nilA, var, kst, seqS, nopS, ifS, retS, asgS, nameG, subG, dropS, cmpT, valT, andB, orB, notB, toB, ifD, andD, orD, notD, methD, List.map_cons, List.map_nil, List.cons_append, List.nil_append, List.length_cons, List.length_nil, List.replicate, List.getElem?_cons_zero, List.getElem?_cons_succ, List.set_cons_zero, List.set_cons_succ, List.set_nil, List.getElem?_nil, Option.map_some, Option.map_none, Option.bind_some, Option.bind_none, if_true, if_false, Bool.false_eq_true, reduceIte, Nat.reduceAdd, Nat.reduceSub, Int.reduceAdd, Int.reduceNeg, drawB, ix_s1, ix_s2, ix_s3, gt_int, decide_eq_false hq, int_int, mod_int hn, mod_int (j := 2147483629) (by decide), mod_int (j := 1000000007) (by decide), add_int, mul_intL (i := 7919) (by decide), mul_intL (i := 30011) (by decide), mul_int (j := 48271) (by decide), pow_int (j := 5) (by decide) (by decide) b1, pow_int (j := 3) (by decide) (by decide) b2]
  have stA : drawA [some (.ref 1), some (.int n), none, none, none] (SS.vh ⟨xs, p, c, m⟩ t) = some (.nx [some (.ref 1), some (.int n), none, none, none], SS.vh ⟨xs, p, c + 1, m⟩ t) := by
    simp only [VL.bind, VL.ret, VL.fail, denF, denA, den1, den2, denC, consA, nilA, var, kst, seqS, nopS, ifS, retS, asgS, nameG, subG, dropS, cmpT, valT, andB, orB, notB, toB, ifD, andD, orD, notD, methD, List.map_cons, List.map_nil, List.cons_append, List.nil_append, List.length_cons, List.length_nil, List.replicate, List.getElem?_cons_zero, List.getElem?_cons_succ, List.set_cons_zero, List.set_cons_succ, List.set_nil, List.getElem?_nil, Option.map_some, Option.map_none, Option.bind_some, Option.bind_none, if_true, if_false, Bool.false_eq_true, reduceIte, Nat.reduceAdd, Nat.reduceSub, Int.reduceAdd, Int.reduceNeg, drawA, ix_s2, add_int, set_s2]
  by_cases hp : p = 0 ∧ xs ≠ []
  · obtain ⟨rfl, hx⟩ := hp
    cases xs with
    | nil => exact absurd rfl hx
    | cons x ys =>
      have f := fm (i := m * 8191 + x + 3) (n := 2147483647) (by decide)
      have stI : drawI [some (.ref 1), some (.int n), none, none, none] (SS.vh ⟨x :: ys, 0, c + 1, m⟩ t) = some (.nx [some (.ref 1), some (.int n), none, some (.int x), none], SS.vh ⟨ys, if 1000000000000000000 ≤ x then x else 0, c + 1, (m * 8191 + x + 3).fmod 2147483647⟩ t) := by
        simp only [VL.bind, VL.ret, VL.fail, denF, denA, den1, den2, denC, consA, nilA, var, kst, seqS, nopS, ifS, retS, asgS, nameG, subG, dropS, cmpT, valT, andB, orB, notB, toB, ifD, andD, orD, notD, methD, List.map_cons, List.map_nil, List.cons_append, List.nil_append, List.length_cons, List.length_nil, List.replicate, List.getElem?_cons_zero, List.getElem?_cons_succ, List.set_cons_zero, List.set_cons_succ, List.set_nil, List.getElem?_nil, Option.map_some, Option.map_none, Option.bind_some, Option.bind_none, if_true, if_false, Bool.false_eq_true, reduceIte, Nat.reduceAdd, Nat.reduceSub, Int.reduceAdd, Int.reduceNeg, drawI, ix_s0, ix_s1, ix_s3, eq_int, beq_self_eq_true, mkLst_nil, ne_nil, ne_eq, reduceCtorEq, not_false_eq_true, decide_true, isLst0, pop_s (s := ⟨x :: ys, 0, c + 1, m⟩) rfl, mul_int (j := 8191) (by decide), add_int, int_int, mod_int (j := 2147483647) (by decide), set_s3, pow10, ge_int]
        by_cases hc : 1000000000000000000 ≤ x
        · simp only [hc, decide_true, if_true, VL.ret, set_s1]
        · simp only [hc, decide_false, if_false, Bool.false_eq_true, VL.ret, set_s1]
      obtain ⟨j, s', e, r⟩ := fin ys (if 1000000000000000000 ≤ x then x else 0) _ (some (.int x)) (by simp at xl; omega) f.1 f.2
      exact ⟨j, s', denF_rt (by rw [g_draw]; exact (sq stA).trans ((sq stI).trans e)), r⟩
  · have stI : drawI [some (.ref 1), some (.int n), none, none, none] (SS.vh ⟨xs, p, c + 1, m⟩ t) = some (.nx [some (.ref 1), some (.int n), none, none, none], SS.vh ⟨xs, p, c + 1, m⟩ t) := by
      by_cases h1 : p = 0
      · have hx : xs = [] := Classical.byContradiction fun z => hp ⟨h1, z⟩
        subst h1 hx
        simp only [VL.bind, VL.ret, VL.fail, denF, denA, den1, den2, denC, consA, nilA, var, kst, seqS, nopS, ifS, retS, asgS, nameG, subG, dropS, cmpT, valT, andB, orB, notB, toB, ifD, andD, orD, notD, methD, List.map_cons, List.map_nil, List.cons_append, List.nil_append, List.length_cons, List.length_nil, List.replicate, List.getElem?_cons_zero, List.getElem?_cons_succ, List.set_cons_zero, List.set_cons_succ, List.set_nil, List.getElem?_nil, Option.map_some, Option.map_none, Option.bind_some, Option.bind_none, if_true, if_false, Bool.false_eq_true, reduceIte, Nat.reduceAdd, Nat.reduceSub, Int.reduceAdd, Int.reduceNeg, drawI, ix_s0, ix_s1, eq_int, beq_self_eq_true, mkLst_nil, ne_nil, ne_eq, not_true_eq_false, decide_false]
      · simp only [VL.bind, VL.ret, VL.fail, denF, denA, den1, den2, denC, consA, nilA, var, kst, seqS, nopS, ifS, retS, asgS, nameG, subG, dropS, cmpT, valT, andB, orB, notB, toB, ifD, andD, orD, notD, methD, List.map_cons, List.map_nil, List.cons_append, List.nil_append, List.length_cons, List.length_nil, List.replicate, List.getElem?_cons_zero, List.getElem?_cons_succ, List.set_cons_zero, List.set_cons_succ, List.set_nil, List.getElem?_nil, Option.map_some, Option.map_none, Option.bind_some, Option.bind_none, if_true, if_false, Bool.false_eq_true, reduceIte, Nat.reduceAdd, Nat.reduceSub, Int.reduceAdd, Int.reduceNeg, drawI, ix_s1, eq_int, beq_eq_false_iff_ne.mpr h1]
    obtain ⟨j, s', e, r⟩ := fin xs p m none xl m0 m1
    exact ⟨j, s', denF_rt (by rw [g_draw]; exact (sq stA).trans ((sq stI).trans e)), r⟩
end K04

namespace K04
open PySem VL L2
theorem atI_nat {α : Type} {xs : List α} {j : Int} (h0 : 0 ≤ j) (h : j < xs.length) : ∃ x, x ∈ xs ∧ atI xs j = some x := by
  unfold atI ixN
  rw [if_pos h0, if_pos h]
  have hl : j.toNat < xs.length := by omega
  exact ⟨xs[j.toNat], List.getElem_mem hl, by simp [hl]⟩
theorem len_lst {ds : List D} {vh : VH} : lenD [.lst ds] vh = some (.int (ds.length : Nat), vh) := rfl
theorem len_str {z : Str} {vh : VH} (h : z.length ≤ line) : lenD [.str z] vh = some (.int (z.length : Nat), vh) := by
  have e : lenR vh [.str z] = some (.int (z.length : Nat)) := if_pos h
  unfold lenD pureD
  rw [e]
  rfl
section
variable {s : SS} {t : VH} {k : Nat}
theorem pick_lst (h : s.Ok k) (hk : k < 1099511627776) {ds : List D} (h0 : 0 < ds.length) (h1 : ds.length < 1000000000) :
    ∃ (d : D) (s' : SS), d__law_pick [.ref 1, .lst ds] (s.vh t) = some (d, s'.vh t) ∧ d ∈ ds ∧ s'.Ok (k + 1) := by
  obtain ⟨j, s', e, j0, j1, ok⟩ := draw_ok (t := t) h hk (n := (ds.length : Nat)) (by omega) (by omega)
  obtain ⟨x, hx, ex⟩ := atI_nat (xs := ds) j0 j1
  have e2 : ixD (.lst ds) (.int j) (s'.vh t) = some (x, s'.vh t) := by
    show (atI ds j).map _ = _
    rw [ex]
    rfl
  exact ⟨x, s', by simp only [VL.bind, VL.ret, VL.fail, denF, denA, den1, den2, denC, consA, nilA, var, kst, seqS, nopS, ifS, retS, asgS, nameG, subG, dropS, cmpT, valT, andB, orB, notB, toB, ifD, andD, orD, notD, methD, List.map_cons, List.map_nil, List.cons_append, List.nil_append, List.length_cons, List.length_nil, List.replicate, List.getElem?_cons_zero, List.getElem?_cons_succ, List.set_cons_zero, List.set_cons_succ, List.set_nil, List.getElem?_nil, Option.map_some, Option.map_none, Option.bind_some, Option.bind_none, if_true, if_false, Bool.false_eq_true, reduceIte, Nat.reduceAdd, Nat.reduceSub, Int.reduceAdd, Int.reduceNeg, d__law_pick, g__law_pick, len_lst, e, e2], hx, ok⟩
theorem pick_str (h : s.Ok k) (hk : k < 1099511627776) {z : Str} (h0 : 0 < z.length) (h1 : z.length < 1000000) :
    ∃ (c : Nat) (s' : SS), d__law_pick [.ref 1, .str z] (s.vh t) = some (.str ⟨#[c]⟩, s'.vh t) ∧ c ∈ z.cps.toList ∧ s'.Ok (k + 1) := by
  obtain ⟨j, s', e, j0, j1, ok⟩ := draw_ok (t := t) h hk (n := (z.length : Nat)) (by omega) (by omega)
  have hl : z.length ≤ line := by show z.length ≤ 16777216; omega
  obtain ⟨x, hx, ex⟩ := atI_nat (xs := z.cps.toList) j0 (by rw [Array.length_toList]; exact j1)
  have e2 : ixD (.str z) (.int j) (s'.vh t) = some (.str ⟨#[x]⟩, s'.vh t) := by
    show ((if z.length ≤ line then (atI z.cps.toList j).map fun c => D.str ⟨#[c]⟩ else none).map fun b => (b, s'.vh t)) = _
    rw [if_pos hl, ex]
    rfl
  exact ⟨x, s', by simp only [VL.bind, VL.ret, VL.fail, denF, denA, den1, den2, denC, consA, nilA, var, kst, seqS, nopS, ifS, retS, asgS, nameG, subG, dropS, cmpT, valT, andB, orB, notB, toB, ifD, andD, orD, notD, methD, List.map_cons, List.map_nil, List.cons_append, List.nil_append, List.length_cons, List.length_nil, List.replicate, List.getElem?_cons_zero, List.getElem?_cons_succ, List.set_cons_zero, List.set_cons_succ, List.set_nil, List.getElem?_nil, Option.map_some, Option.map_none, Option.bind_some, Option.bind_none, if_true, if_false, Bool.false_eq_true, reduceIte, Nat.reduceAdd, Nat.reduceSub, Int.reduceAdd, Int.reduceNeg, d__law_pick, g__law_pick, len_str hl, e, e2], hx, ok⟩
/-- a comprehension whose parts draw once a turn -/
theorem comp_draws {g : Tg} {c : Rho → M Bool} {e : Rho → M D} {ρ : Rho} {Y : D → Prop} (B : Nat) (step : ∀ (d : D) (s : SS) (k : Nat), s.Ok k → k < B → ∃ (ρ' : Rho) (y : D) (s' : SS), g d ρ (s.vh t) = some (ρ', s.vh t) ∧ c ρ' (s.vh t) = some (true, s.vh t) ∧ e ρ' (s.vh t) = some (y, s'.vh t) ∧ Y y ∧ s'.Ok (k + 1)) :
    ∀ (items : List D) (s : SS) (k : Nat), s.Ok k → k + items.length ≤ B → ∃ (ys : List D) (s' : SS), compL g c e ρ items (s.vh t) = some (ys, s'.vh t) ∧ ys.length = items.length ∧ (∀ y ∈ ys, Y y) ∧ s'.Ok (k + items.length)
  | [], s, k, h, _ => ⟨[], s, rfl, rfl, by simp, h⟩
  | d :: ds, s, k, h, hk => by
    rw [List.length_cons] at hk
    obtain ⟨ρ', y, s1, e1, e2, e3, hy, h1⟩ := step d s k h (by omega)
    obtain ⟨ys, s2, e4, hl, hys, h2⟩ := comp_draws B step ds s1 (k + 1) h1 (by omega)
    refine ⟨y :: ys, s2, ?_, by simp [hl], by simpa using ⟨hy, hys⟩, by rw [List.length_cons]; rw [show k + (ds.length + 1) = k + 1 + ds.length by omega]; exact h2⟩
    simp only [compL, VL.bind, e1, e2, e3, e4, if_true, VL.ret]
end
/-- a comprehension that changes nothing -/
theorem comp_pure {g : Tg} {c : Rho → M Bool} {e : Rho → M D} {ρ : Rho} {vh : VH} {p : D → Bool} {f : D → D} : ∀ (items : List D),
    (∀ d ∈ items, ∃ ρ', g d ρ vh = some (ρ', vh) ∧ c ρ' vh = some (p d, vh) ∧ (p d = true → e ρ' vh = some (f d, vh))) → compL g c e ρ items vh = some ((items.filter p).map f, vh)
  | [], _ => rfl
  | d :: ds, h => by
    obtain ⟨ρ', e1, e2, e3⟩ := h d (List.mem_cons_self ..)
    have ih := comp_pure ds fun x hx => h x (List.mem_cons_of_mem _ hx)
    cases q : p d with
    | true => simp only [compL, VL.bind, e1, e2, q, e3 q, ih, if_true, VL.ret, List.filter_cons, List.map_cons]
    | false => simp only [compL, VL.bind, e1, e2, q, ih, Bool.false_eq_true, if_false, List.filter_cons]
/-- .. without a test -/
theorem comp_map {g : Tg} {e : Rho → M D} {ρ : Rho} {vh : VH} {f : D → D} (items : List D) (h : ∀ d ∈ items, ∃ ρ', g d ρ vh = some (ρ', vh) ∧ e ρ' vh = some (f d, vh)) : compL g yesT e ρ items vh = some (items.map f, vh) := by
  have z := comp_pure (c := yesT) (p := fun _ => true) (f := f) (g := g) (e := e) (ρ := ρ) (vh := vh) items fun d hd => by
    obtain ⟨ρ', a, b⟩ := h d hd
    exact ⟨ρ', a, rfl, fun _ => b⟩
  rw [z, show items.filter (fun _ => true) = items from List.filter_eq_self.mpr fun _ _ => rfl]
theorem joinL_nil : ∀ xs : List (List Nat), TL.joinL [] xs = xs.flatten
  | [] => rfl
  | [x] => by simp [TL.joinL]
  | x :: y :: r => by
    rw [TL.joinL, joinL_nil (y :: r)]
    simp
end K04

namespace K04
open PySem VL L2
theorem SS.Ok.mono {s : SS} {k k' : Nat} (h : s.Ok k) (l : k ≤ k') : s.Ok k' := ⟨h.c0, by have := h.ck; omega, h.m0, h.m1, h.xl⟩
theorem lc_eq {f : Rho → M (List D)} {g : Tg} {c : Rho → M Bool} {e : Rho → M D} {vs : List Nat} {mk : List D → M D} {ρ : Rho} {vh vh1 vh2 : VH} {items ys : List D} (hf : f ρ vh = some (items, vh1)) (hl : items.length < line)
    (hc : compL g c e (wipeR ρ vs) items vh1 = some (ys, vh2)) : lcD f g c e vs mk ρ vh = mk ys vh2 := by
  unfold lcD VL.bind
  simp only [hf, if_pos hl, VL.bind, hc]
theorem for_inv {g : Tg} {b : Bk} {items : List D} {ρ : Rho} {vh : VH} (I : Nat → Rho → VH → Prop) (h0 : I 0 ρ vh)
    (step : ∀ (i : Nat) (d : D) (ρ : Rho) (vh : VH), items[i]? = some d → I i ρ vh → ∃ (ρ' : Rho) (ρ1 : Rho) (vh' : VH), g d ρ vh = some (ρ1, vh) ∧ b ρ1 vh = some (.nx ρ', vh') ∧ I (i + 1) ρ' vh') :
    ∃ (ρ' : Rho) (vh' : VH), forL g b items ρ vh = some (.nx ρ', vh') ∧ I items.length ρ' vh' := by
  have go : ∀ (n : Nat) (xs : List D) (ρ : Rho) (vh : VH), xs = items.drop n → n ≤ items.length → I n ρ vh → ∃ (ρ' : Rho) (vh' : VH), forL g b xs ρ vh = some (.nx ρ', vh') ∧ I items.length ρ' vh' := by
    intro n xs
    induction xs generalizing n with
    | nil =>
      intro ρ vh e hn h
      have : n = items.length := by
        have z := congrArg List.length e
        simp at z
        omega
      exact ⟨ρ, vh, rfl, this ▸ h⟩
    | cons d ds ih =>
      intro ρ vh e hn h
      have hlt : n < items.length := by
        have z := congrArg List.length e
        simp at z
        omega
      rw [List.drop_eq_getElem_cons hlt] at e
      obtain ⟨rfl, rfl⟩ := List.cons.inj e
      obtain ⟨ρ', ρ1, vh', e1, e2, h'⟩ := step n _ ρ vh (List.getElem?_eq_getElem hlt) h
      obtain ⟨ρ2, vh2, e3, h2⟩ := ih (n + 1) ρ' vh' rfl (by omega) h'
      refine ⟨ρ2, vh2, ?_, h2⟩
      simp only [forL, VL.bind, e1, e2, e3]
  exact go 0 items ρ vh rfl (Nat.zero_le _) h0
/-! ### the words -/
def Sg : List Nat := ("abcdefghijklmnopqrstuvwxyz0123456789." : Str).cps.toList
/-- a word that the law makes -/
structure Wo (l : List Nat) : Prop where
  n0 : 0 < l.length
  n1 : l.length ≤ 16
  ok : ∀ c ∈ l, c ∈ Sg
def strD' (l : List Nat) : D := .str ⟨l.toArray⟩
/-- .. that does not begin with r. -/
def NoR (l : List Nat) : Prop := ∀ w, l ≠ 114 :: 46 :: w
def ten : List Nat := ("abcxyz019." : Str).cps.toList
theorem ten_sg : ∀ c ∈ ten, c ∈ Sg ∧ c ≠ 114 := by decide +kernel
def abc : List Nat := ("abcdefghijklmnopqrstuvwxyz" : Str).cps.toList
theorem abc_sg : ∀ c ∈ abc, c ∈ Sg := by decide +kernel
theorem abc_nd : abc.Nodup := by decide +kernel
theorem abc_len : abc.length = 26 := by decide +kernel
theorem wo_ten {l : List Nat} (h0 : 0 < l.length) (h1 : l.length ≤ 16) (h : ∀ c ∈ l, c ∈ ten) : Wo l ∧ NoR l :=
  ⟨⟨h0, h1, fun c hc => (ten_sg c (h c hc)).1⟩, fun w e => (ten_sg 114 (h 114 (by rw [e]; simp))).2 rfl⟩
theorem wo_abc {c : Nat} (h : c ∈ abc) : Wo [c, 113] ∧ NoR [c, 113] :=
  ⟨⟨by simp, by simp, fun x hx => by
    rcases List.mem_cons.mp hx with rfl | hx
    · exact abc_sg _ h
    · rw [List.mem_singleton.mp hx]
      decide +kernel⟩, fun w e => by injection e with e1 e2; injection e2 with e3 e4; cases e3⟩
section
variable {s : SS} {t : VH} {k : Nat}
theorem at_end {x : Option MO} : (s.vh (t ++ [x]))[t.length + 2]? = some x := by
  unfold SS.vh
  rw [List.getElem?_cons_succ, List.getElem?_cons_succ]
  simp
theorem set_end {x y : Option MO} : (s.vh (t ++ [x])).set (t.length + 2) y = s.vh (t ++ [y]) := by
  unfold SS.vh
  rw [List.set_cons_succ, List.set_cons_succ]
  simp
theorem lst_end {xs : List D} : lstV (s.vh (t ++ [some (.lst xs)])) (.ref (t.length + 2)) = some xs := by
  show lstAt _ = _
  rw [at_end]
  rfl
theorem app_end {xs : List D} {d : D} (h : xs.length < line) : appendD (.ref (t.length + 2)) [d] (s.vh (t ++ [some (.lst xs)])) = some (.non, s.vh (t ++ [some (.lst (xs ++ [d]))])) := by
  show ((lstAt _).bind fun xs => (appendF xs [d]).map fun p => (p.1, (s.vh _).set (t.length + 2) (some (.lst p.2)))) = _
  rw [at_end]
  show ((if xs.length < line then some (D.non, xs ++ [d]) else none).map fun p => (p.1, (s.vh _).set (t.length + 2) (some (.lst p.2)))) = _
  rw [if_pos h]
  show some (D.non, (s.vh _).set (t.length + 2) _) = _
  rw [set_end]
theorem new_end {o : MO} : new o (s.vh t) = some (.ref (t.length + 2), s.vh (t ++ [some o])) := rfl
end
end K04

namespace K04
open PySem VL L2
def wB1 : Bk := asgS (methD isStr (kst (.str "")) (consA (lcD (argI range1It (consA (den2 addD (kst (.int 1)) (denA (denC 2 d__law_draw) (consA (var 0) (consA (kst (.int 4)) nilA)))) nilA)) (nameG 6) yesT (denA (denC 2 d__law_pick) (consA (var 0) (consA (kst (.str "abcxyz019.")) nilA))) [6] still0) nilA) joinD) (nameG 4)
def wB2 : Bk := asgS (den2 addD (denA mkLst (consA (var 4) nilA)) (lcD (seqI (kst (.str "abcdefghijklmnopqrstuvwxyz"))) (nameG 7) yesT (den2 addD (var 7) (kst (.str "q"))) [7] still0)) (nameG 5)
def wB3 : Bk := dropS (methD isLst (var 2) (consA (den2 ixD (lcD (seqI (var 5)) (nameG 8) (cmpT ninD (var 8) (var 2)) (var 8) [8] still0) (kst (.int 0))) nilA) appendD)
theorem g_words : g__law_n_words = seqS (asgS (denA mkLstM nilA) (nameG 2)) (seqS (forS (argI range1It (consA (var 1) nilA)) (nameG 3) (seqS wB1 (seqS wB2 wB3))) (retS (stE (var 2)))) := rfl
theorem range_ok {n : Int} {vh : VH} (h0 : 0 ≤ n) (h1 : n < 1000000000) : range1It [.int n] vh = some (rangeL 0 n.toNat, vh) := by
  show (if -(2 ^ 62) ≤ n ∧ n < 2 ^ 62 then VL.ret (rangeL 0 n.toNat) else VL.fail) vh = _
  rw [if_pos (by constructor <;> omega)]
  rfl
theorem range_len (n : Nat) : (rangeL 0 n).length = n := by simp [rangeL]
theorem signs_of : ∀ {ys : List D}, (∀ y ∈ ys, ∃ c, c ∈ ten ∧ y = D.str ⟨#[c]⟩) → ∃ cs : List Nat, ys = cs.map (fun c => D.str ⟨#[c]⟩) ∧ ∀ c ∈ cs, c ∈ ten
  | [], _ => ⟨[], rfl, by simp⟩
  | y :: ys, h => by
    obtain ⟨c, hc, rfl⟩ := h y (List.mem_cons_self ..)
    obtain ⟨cs, rfl, h2⟩ := signs_of fun y hy => h y (List.mem_cons_of_mem _ hy)
    exact ⟨c :: cs, rfl, by simpa using ⟨hc, h2⟩⟩
theorem strsOf_signs : ∀ cs : List Nat, strsOf (cs.map fun c => D.str ⟨#[c]⟩) = some (cs.map fun c => (⟨#[c]⟩ : Str))
  | [] => rfl
  | c :: cs => by
    rw [List.map_cons, strsOf, strsOf_signs cs]
    rfl
theorem flat_one : ∀ cs : List Nat, (cs.map fun c => [c]).flatten = cs
  | [] => rfl
  | c :: cs => by
    rw [List.map_cons, List.flatten_cons, flat_one cs]
    rfl
theorem join_ok {cs : List Nat} {vh : VH} (h : cs.length ≤ 1000) : joinD (.str "") [.lst (cs.map fun c => D.str ⟨#[c]⟩)] vh = some (strD' cs, vh) := by
  have e : ("" : Str) = SX.S [] := by decide +kernel
  have l : ((cs.map fun c => (⟨#[c]⟩ : Str)).map (·.length)).sum + (cs.map fun c => (⟨#[c]⟩ : Str)).length * ("" : Str).length ≤ line := by
    have a : ((cs.map fun c => (⟨#[c]⟩ : Str)).map (·.length)).sum = cs.length := by
      rw [List.map_map]
      induction cs with
      | nil => rfl
      | cons c cs ih =>
        rw [List.map_cons, List.sum_cons, ih (by simp at h; omega), List.length_cons]
        show 1 + _ = _
        omega
    have b : ("" : Str).length = 0 := by decide +kernel
    rw [a, b]
    show _ ≤ 16777216
    omega
  have j : Txt.join (SX.S []) (cs.map fun c => (⟨#[c]⟩ : Str)) = SX.S cs := by
    have z := SX.join_S [] (cs.map fun c => [c])
    rw [joinL_nil, List.map_map] at z
    rw [show (cs.map fun c => (⟨#[c]⟩ : Str)) = cs.map (SX.S ∘ fun c => [c]) from rfl, z]
    congr
    exact flat_one cs
  unfold joinD pureD joinR
  simp only [seqV, Option.bind_some, strsOf_signs, if_pos l]
  rw [e, j]
  rfl
section
variable {s : SS} {t : VH} {k : Nat}
theorem wB1_ok (h : s.Ok k) (hk : k < 1000000000) (x1 x2 a3 a4 a5 : Option D) : ∃ (l : List Nat) (s' : SS), wB1 [some (.ref 1), x1, x2, a3, a4, a5, none, none, none] (s.vh t) = some (.nx [some (.ref 1), x1, x2, a3, some (strD' l), a5, none, none, none], s'.vh t) ∧ Wo l ∧ NoR l ∧ s'.Ok (k + 5) := by
  obtain ⟨j, s1, e1, j0, j1, h1⟩ := draw_ok (t := t) h (by omega) (n := 4) (by decide) (by decide)
  have er : (argI range1It (consA (den2 addD (kst (.int 1)) (denA (denC 2 d__law_draw) (consA (var 0) (consA (kst (.int 4)) nilA)))) nilA)) [some (.ref 1), x1, x2, a3, a4, a5, none, none, none] (s.vh t) = some (rangeL 0 (1 + j).toNat, s1.vh t) := by
    simp only [VL.bind, VL.ret, VL.fail, denF, denA, den1, den2, denC, consA, nilA, var, kst, seqS, nopS, ifS, retS, asgS, nameG, subG, dropS, cmpT, valT, andB, orB, notB, toB, ifD, andD, orD, notD, methD, List.map_cons, List.map_nil, List.cons_append, List.nil_append, List.length_cons, List.length_nil, List.replicate, List.getElem?_cons_zero, List.getElem?_cons_succ, List.set_cons_zero, List.set_cons_succ, List.set_nil, List.getElem?_nil, Option.map_some, Option.map_none, Option.bind_some, Option.bind_none, if_true, if_false, Bool.false_eq_true, reduceIte, Nat.reduceAdd, Nat.reduceSub, Int.reduceAdd, Int.reduceNeg, argI, e1, add_int, range_ok (n := 1 + j) (by omega) (by omega)]
  obtain ⟨ys, s2, e2, hl, hy, h2⟩ := comp_draws (t := t) (g := nameG 6) (c := yesT) (e := denA (denC 2 d__law_pick) (consA (var 0) (consA (kst (.str "abcxyz019.")) nilA))) (ρ := wipeR [some (.ref 1), x1, x2, a3, a4, a5, none, none, none] [6]) (Y := fun y => ∃ c, c ∈ ten ∧ y = D.str ⟨#[c]⟩) (k + 5) (fun d s k' hs hk' => by
    obtain ⟨c, s', e, hc, ho⟩ := pick_str (t := t) hs (by omega) (z := "abcxyz019.") (by decide +kernel) (by decide +kernel)
    exact ⟨_, _, s', rfl, rfl, by simp only [VL.bind, VL.ret, VL.fail, denF, denA, den1, den2, denC, consA, nilA, var, kst, seqS, nopS, ifS, retS, asgS, nameG, subG, dropS, cmpT, valT, andB, orB, notB, toB, ifD, andD, orD, notD, methD, List.map_cons, List.map_nil, List.cons_append, List.nil_append, List.length_cons, List.length_nil, List.replicate, List.getElem?_cons_zero, List.getElem?_cons_succ, List.set_cons_zero, List.set_cons_succ, List.set_nil, List.getElem?_nil, Option.map_some, Option.map_none, Option.bind_some, Option.bind_none, if_true, if_false, Bool.false_eq_true, reduceIte, Nat.reduceAdd, Nat.reduceSub, Int.reduceAdd, Int.reduceNeg, wipeR, e], ⟨c, hc, rfl⟩, ho⟩) (rangeL 0 (1 + j).toNat) s1 (k + 1) h1 (by rw [range_len]; omega)
  rw [range_len] at hl h2
  obtain ⟨cs, rfl, hc⟩ := signs_of hy
  rw [List.length_map] at hl
  have el := lc_eq (mk := still0) er (by rw [range_len]; show _ < 16777216; omega) e2
  obtain ⟨wo, nr⟩ := wo_ten (l := cs) (by omega) (by omega) hc
  refine ⟨cs, s2, ?_, wo, nr, h2.mono (by omega)⟩
  have c0 : isStr (s.vh t) (.str "") = true := rfl
  simp only [VL.bind, VL.ret, VL.fail, denF, denA, den1, den2, denC, consA, nilA, var, kst, seqS, nopS, ifS, retS, asgS, nameG, subG, dropS, cmpT, valT, andB, orB, notB, toB, ifD, andD, orD, notD, methD, List.map_cons, List.map_nil, List.cons_append, List.nil_append, List.length_cons, List.length_nil, List.replicate, List.getElem?_cons_zero, List.getElem?_cons_succ, List.set_cons_zero, List.set_cons_succ, List.set_nil, List.getElem?_nil, Option.map_some, Option.map_none, Option.bind_some, Option.bind_none, if_true, if_false, Bool.false_eq_true, reduceIte, Nat.reduceAdd, Nat.reduceSub, Int.reduceAdd, Int.reduceNeg, wB1, c0, el, still0, join_ok (cs := cs) (vh := s2.vh t) (by omega)]
end
end K04

namespace K04
open PySem VL L2
theorem strD_inj {a b : List Nat} (h : strD' a = strD' b) : a = b := by
  injection h with h
  exact SX.S_inj h
theorem eqF_str (a b : List Nat) : eqF (strD' a) (strD' b) = decide (a = b) := by
  show (SX.S a == SX.S b) = _
  by_cases h : a = b
  · subst h
    simp
  · rw [decide_eq_false h]
    exact beq_eq_false_iff_ne.mpr fun e => h (SX.S_inj e)
theorem flat_strs : ∀ ws : List (List Nat), (ws.map strD').all flatD = true
  | [] => rfl
  | w :: ws => by
    rw [List.map_cons, List.all_cons, flat_strs ws]
    rfl
theorem any_strs (a : List Nat) : ∀ ws : List (List Nat), ((ws.map strD').any fun d => eqF d (strD' a)) = decide (a ∈ ws)
  | [] => rfl
  | w :: ws => by
    rw [List.map_cons, List.any_cons, any_strs a ws, eqF_str]
    by_cases h : w = a
    · subst h
      simp
    · simp [h, Ne.symm h]
theorem add_str {a b : List Nat} (h : a.length + b.length ≤ 10000) : addD (strD' a) (strD' b) = VL.ret (strD' (a ++ b)) := by
  have l : (SX.S a).length + (SX.S b).length ≤ line := by
    rw [SX.S_len, SX.S_len]
    show _ ≤ 16777216
    omega
  show (if (SX.S a).length + (SX.S b).length ≤ line then VL.ret (D.str (SX.S a ++ SX.S b)) else VL.fail) = _
  rw [if_pos l]
  congr 2
  show (⟨a.toArray ++ b.toArray⟩ : Str) = ⟨(a ++ b).toArray⟩
  simp
theorem nd_le {α : Type} [DecidableEq α] : ∀ {xs ys : List α}, xs.Nodup → (∀ x, x ∈ xs → x ∈ ys) → xs.length ≤ ys.length
  | [], _, _, _ => Nat.zero_le _
  | x :: xs, ys, nd, h => by
    obtain ⟨n1, n2⟩ := List.nodup_cons.mp nd
    have hx : x ∈ ys := h x (List.mem_cons_self ..)
    have ih := nd_le (ys := ys.erase x) n2 fun y hy => (List.mem_erase_of_ne (show y ≠ x from fun e => n1 (by rw [← e]; exact hy))).mpr (h y (List.mem_cons_of_mem _ hy))
    rw [List.length_erase_of_mem hx] at ih
    have : 0 < ys.length := List.length_pos_of_mem hx
    rw [List.length_cons]
    omega
def spare (l : List Nat) : List (List Nat) := l :: abc.map fun c => [c, 113]
theorem spare_ok {l : List Nat} (w : Wo l) (n : NoR l) : ∀ x ∈ spare l, Wo x ∧ NoR x := fun x hx => by
  rcases List.mem_cons.mp hx with rfl | hx
  · exact ⟨w, n⟩
  · obtain ⟨c, hc, rfl⟩ := List.mem_map.mp hx
    exact wo_abc hc
theorem free_one (l : List Nat) {ws : List (List Nat)} (h : ws.length ≤ 25) : ∃ x xs, (spare l).filter (fun x => !decide (x ∈ ws)) = x :: xs := by
  cases e : (spare l).filter (fun x => !decide (x ∈ ws)) with
  | cons x xs => exact ⟨x, xs, rfl⟩
  | nil =>
    exfalso
    have sub : ∀ x, x ∈ abc.map (fun c => [c, 113]) → x ∈ ws := fun x hx => Classical.byContradiction fun n => by
      have : x ∈ (spare l).filter (fun x => !decide (x ∈ ws)) := List.mem_filter.mpr ⟨List.mem_cons_of_mem _ hx, by simp [n]⟩
      rw [e] at this
      cases this
    have nd : (abc.map fun c => [c, 113]).Nodup := by decide +kernel
    have := nd_le nd sub
    rw [List.length_map, abc_len] at this
    omega
section
variable {s : SS} {t : VH} {k : Nat}
theorem wB2_ok (l : List Nat) (hl : l.length ≤ 16) (vh : VH) (x0 x1 x2 a3 a5 : Option D) : wB2 [x0, x1, x2, a3, some (strD' l), a5, none, none, none] vh = some (.nx [x0, x1, x2, a3, some (strD' l), some (.lst ((spare l).map strD')), none, none, none], vh) := by
  have q : (D.str "q") = strD' [113] := by
    show D.str _ = D.str _
    congr 1
  have z := comp_map (g := nameG 7) (e := den2 addD (var 7) (kst (.str "q"))) (ρ := wipeR [x0, x1, x2, a3, some (strD' l), a5, none, none, none] [7]) (vh := vh) (f := fun d => match d with | .str c => .str (c ++ ⟨#[113]⟩) | d => d) (abc.map fun c => D.str ⟨#[c]⟩) (fun d hd => by
    obtain ⟨c, hc, rfl⟩ := List.mem_map.mp hd
    refine ⟨_, rfl, ?_⟩
    have a := add_str (a := [c]) (b := [113]) (by simp)
    have a' : addD (D.str ⟨#[c]⟩) (strD' [113]) = VL.ret (D.str (⟨#[c]⟩ ++ ⟨#[113]⟩)) := a
    simp only [VL.bind, VL.ret, VL.fail, denF, denA, den1, den2, denC, consA, nilA, var, kst, seqS, nopS, ifS, retS, asgS, nameG, subG, dropS, cmpT, valT, andB, orB, notB, toB, ifD, andD, orD, notD, methD, List.map_cons, List.map_nil, List.cons_append, List.nil_append, List.length_cons, List.length_nil, List.replicate, List.getElem?_cons_zero, List.getElem?_cons_succ, List.set_cons_zero, List.set_cons_succ, List.set_nil, List.getElem?_nil, Option.map_some, Option.map_none, Option.bind_some, Option.bind_none, if_true, if_false, Bool.false_eq_true, reduceIte, Nat.reduceAdd, Nat.reduceSub, Int.reduceAdd, Int.reduceNeg, wipeR, q, a'])
  have el := lc_eq (f := seqI (kst (.str "abcdefghijklmnopqrstuvwxyz"))) (mk := still0) (vs := [7]) (ρ := [x0, x1, x2, a3, some (strD' l), a5, none, none, none]) (vh := vh) (items := abc.map fun c => D.str ⟨#[c]⟩) rfl (by rw [List.length_map, abc_len]; decide) z
  have m1 : mkLst [strD' l] = VL.ret (.lst [strD' l]) := rfl
  have e2 : ((abc.map fun c => D.str ⟨#[c]⟩).map fun d => (match d with | .str c => .str (c ++ ⟨#[113]⟩) | d => d : D)) = (abc.map fun c => [c, 113]).map strD' := by
    rw [List.map_map, List.map_map]
    rfl
  rw [e2] at el
  have ad : addD (.lst [strD' l]) (.lst ((abc.map fun c => [c, 113]).map strD')) vh = some (.lst ((spare l).map strD'), vh) := by
    show (if [strD' l].length + ((abc.map fun c => [c, 113]).map strD').length ≤ line then some (D.lst ([strD' l] ++ (abc.map fun c => [c, 113]).map strD'), vh) else none) = _
    rw [if_pos (by rw [List.length_map, List.length_map, abc_len]; show 1 + 26 ≤ 16777216; decide)]
    rfl
  simp only [VL.bind, VL.ret, VL.fail, denF, denA, den1, den2, denC, consA, nilA, var, kst, seqS, nopS, ifS, retS, asgS, nameG, subG, dropS, cmpT, valT, andB, orB, notB, toB, ifD, andD, orD, notD, methD, List.map_cons, List.map_nil, List.cons_append, List.nil_append, List.length_cons, List.length_nil, List.replicate, List.getElem?_cons_zero, List.getElem?_cons_succ, List.set_cons_zero, List.set_cons_succ, List.set_nil, List.getElem?_nil, Option.map_some, Option.map_none, Option.bind_some, Option.bind_none, if_true, if_false, Bool.false_eq_true, reduceIte, Nat.reduceAdd, Nat.reduceSub, Int.reduceAdd, Int.reduceNeg, wB2, m1, el, still0, ad]
theorem wB3_ok (l : List Nat) (ws : List (List Nat)) (hw : ws.length ≤ 25) (x0 x1 a3 a4 : Option D) : ∃ x, x ∈ spare l ∧ x ∉ ws ∧
    wB3 [x0, x1, some (.ref (t.length + 2)), a3, a4, some (.lst ((spare l).map strD')), none, none, none] (s.vh (t ++ [some (.lst (ws.map strD'))])) =
      some (.nx [x0, x1, some (.ref (t.length + 2)), a3, a4, some (.lst ((spare l).map strD')), none, none, none], s.vh (t ++ [some (.lst ((ws ++ [x]).map strD'))])) := by
  obtain ⟨x, xs, e⟩ := free_one l hw
  have hx : x ∈ (spare l).filter (fun x => !decide (x ∈ ws)) := by rw [e]; exact List.mem_cons_self ..
  obtain ⟨h1, h2⟩ := List.mem_filter.mp hx
  have h2 : x ∉ ws := by simpa using h2
  refine ⟨x, h1, h2, ?_⟩
  have z := comp_pure (g := nameG 8) (c := cmpT ninD (var 8) (var 2)) (e := var 8) (ρ := wipeR [x0, x1, some (.ref (t.length + 2)), a3, a4, some (.lst ((spare l).map strD')), none, none, none] [8]) (vh := s.vh (t ++ [some (.lst (ws.map strD'))]))
    (p := fun d => !((ws.map strD').any fun y => eqF y d)) (f := fun d => d) ((spare l).map strD') (fun d hd => by
      obtain ⟨y, hy, rfl⟩ := List.mem_map.mp hd
      have ni : ninD (strD' y) (.ref (t.length + 2)) (s.vh (t ++ [some (.lst (ws.map strD'))])) = some (.bl (!((ws.map strD').any fun d => eqF d (strD' y))), s.vh (t ++ [some (.lst (ws.map strD'))])) := by
        have i : inRes (s.vh (t ++ [some (.lst (ws.map strD'))])) (strD' y) (.ref (t.length + 2)) = some ((ws.map strD').any fun d => eqF d (strD' y)) := by
          have sv : seqV (s.vh (t ++ [some (.lst (ws.map strD'))])) (.ref (t.length + 2)) = some (ws.map strD') := lst_end
          unfold inRes
          simp only [sv]
          rw [if_pos (by rw [flat_strs]; rfl)]
        unfold ninD
        rw [i]
        rfl
      exact ⟨_, rfl, by simp only [VL.bind, VL.ret, VL.fail, denF, denA, den1, den2, denC, consA, nilA, var, kst, seqS, nopS, ifS, retS, asgS, nameG, subG, dropS, cmpT, valT, andB, orB, notB, toB, ifD, andD, orD, notD, methD, List.map_cons, List.map_nil, List.cons_append, List.nil_append, List.length_cons, List.length_nil, List.replicate, List.getElem?_cons_zero, List.getElem?_cons_succ, List.set_cons_zero, List.set_cons_succ, List.set_nil, List.getElem?_nil, Option.map_some, Option.map_none, Option.bind_some, Option.bind_none, if_true, if_false, Bool.false_eq_true, reduceIte, Nat.reduceAdd, Nat.reduceSub, Int.reduceAdd, Int.reduceNeg, wipeR, ni], fun _ => by simp only [VL.bind, VL.ret, VL.fail, denF, denA, den1, den2, denC, consA, nilA, var, kst, seqS, nopS, ifS, retS, asgS, nameG, subG, dropS, cmpT, valT, andB, orB, notB, toB, ifD, andD, orD, notD, methD, List.map_cons, List.map_nil, List.cons_append, List.nil_append, List.length_cons, List.length_nil, List.replicate, List.getElem?_cons_zero, List.getElem?_cons_succ, List.set_cons_zero, List.set_cons_succ, List.set_nil, List.getElem?_nil, Option.map_some, Option.map_none, Option.bind_some, Option.bind_none, if_true, if_false, Bool.false_eq_true, reduceIte, Nat.reduceAdd, Nat.reduceSub, Int.reduceAdd, Int.reduceNeg, wipeR]⟩)
  have el := lc_eq (f := seqI (var 5)) (mk := still0) (vs := [8]) (ρ := [x0, x1, some (.ref (t.length + 2)), a3, a4, some (.lst ((spare l).map strD')), none, none, none]) (items := (spare l).map strD') rfl (by
    rw [List.length_map]
    show (abc.map _).length + 1 < line
    rw [List.length_map, abc_len]
    decide) z
  have ef : (((spare l).map strD').filter fun d => !((ws.map strD').any fun y => eqF y d)).map (fun d => d) = strD' x :: xs.map strD' := by
    rw [List.map_id', List.filter_map]
    have : ((fun d => !((ws.map strD').any fun y => eqF y d)) ∘ strD') = fun x => !decide (x ∈ ws) := by
      funext y
      show (!_) = _
      rw [any_strs]
    rw [this, e]
    rfl
  rw [ef] at el
  have i0 : ∀ vh, ixD (.lst (strD' x :: xs.map strD')) (.int 0) vh = some (strD' x, vh) := fun vh => by
    show (atI (strD' x :: xs.map strD') 0).map _ = _
    unfold atI ixN
    rw [if_pos (by decide), if_pos (by rw [List.length_cons]; omega)]
    rfl
  have c0 : isLst (s.vh (t ++ [some (.lst (ws.map strD'))])) (.ref (t.length + 2)) = true := by
    unfold isLst
    rw [lst_end]
    rfl
  have ap := app_end (s := s) (t := t) (xs := ws.map strD') (d := strD' x) (by rw [List.length_map]; show _ < 16777216; omega)
  have em : (ws ++ [x]).map strD' = ws.map strD' ++ [strD' x] := by simp
  rw [em]
  simp only [VL.bind, VL.ret, VL.fail, denF, denA, den1, den2, denC, consA, nilA, var, kst, seqS, nopS, ifS, retS, asgS, nameG, subG, dropS, cmpT, valT, andB, orB, notB, toB, ifD, andD, orD, notD, methD, List.map_cons, List.map_nil, List.cons_append, List.nil_append, List.length_cons, List.length_nil, List.replicate, List.getElem?_cons_zero, List.getElem?_cons_succ, List.set_cons_zero, List.set_cons_succ, List.set_nil, List.getElem?_nil, Option.map_some, Option.map_none, Option.bind_some, Option.bind_none, if_true, if_false, Bool.false_eq_true, reduceIte, Nat.reduceAdd, Nat.reduceSub, Int.reduceAdd, Int.reduceNeg, wB3, c0, el, still0, i0, ap]
end
end K04

namespace K04
open PySem VL L2
theorem sq_nx {g h : Bk} {ρ ρ' : Rho} {vh vh' : VH} {o : Out} (e : g ρ vh = some (.nx ρ', vh')) {r : Option (Out × VH)} (e2 : h ρ' vh' = r) : seqS g h ρ vh = r := (sq e).trans e2
section
variable {s : SS} {t : VH} {k : Nat}
theorem words_ok (h : s.Ok k) {n : Int} (n0 : 0 ≤ n) (n1 : n ≤ 25) (hk : k < 100000000) : ∃ (ws : List (List Nat)) (s' : SS), d__law_n_words [.ref 1, .int n] (s.vh t) = some (.lst (ws.map strD'), s'.vh (t ++ [none])) ∧
    ws.length = n.toNat ∧ ws.Nodup ∧ (∀ w ∈ ws, Wo w ∧ NoR w) ∧ s'.Ok (k + 5 * n.toNat) := by
  have e0 : (asgS (denA mkLstM nilA) (nameG 2)) [some (.ref 1), some (.int n), none, none, none, none, none, none, none] (s.vh t) = some (.nx [some (.ref 1), some (.int n), some (.ref (t.length + 2)), none, none, none, none, none, none], s.vh (t ++ [some (.lst [])])) := rfl
  have er : (argI range1It (consA (var 1) nilA)) [some (.ref 1), some (.int n), some (.ref (t.length + 2)), none, none, none, none, none, none] (s.vh (t ++ [some (.lst [])])) = some (rangeL 0 n.toNat, s.vh (t ++ [some (.lst [])])) := by
    simp only [VL.bind, VL.ret, VL.fail, denF, denA, den1, den2, denC, consA, nilA, var, kst, seqS, nopS, ifS, retS, asgS, nameG, subG, dropS, cmpT, valT, andB, orB, notB, toB, ifD, andD, orD, notD, methD, List.map_cons, List.map_nil, List.cons_append, List.nil_append, List.length_cons, List.length_nil, List.replicate, List.getElem?_cons_zero, List.getElem?_cons_succ, List.set_cons_zero, List.set_cons_succ, List.set_nil, List.getElem?_nil, Option.map_some, Option.map_none, Option.bind_some, Option.bind_none, if_true, if_false, Bool.false_eq_true, reduceIte, Nat.reduceAdd, Nat.reduceSub, Int.reduceAdd, Int.reduceNeg, argI, range_ok n0 (by omega : n < 1000000000)]
  obtain ⟨ρ', vh', e1, a, b, c, ws, s', rfl, rfl, hl, nd, hw, ho⟩ := for_inv (g := nameG 3) (b := seqS wB1 (seqS wB2 wB3)) (items := rangeL 0 n.toNat) (ρ := [some (.ref 1), some (.int n), some (.ref (t.length + 2)), none, none, none, none, none, none]) (vh := s.vh (t ++ [some (.lst [])]))
    (fun i ρ vh => ∃ (a b c : Option D) (ws : List (List Nat)) (s' : SS), ρ = [some (.ref 1), some (.int n), some (.ref (t.length + 2)), a, b, c, none, none, none] ∧ vh = s'.vh (t ++ [some (.lst (ws.map strD'))]) ∧ ws.length = i ∧ ws.Nodup ∧ (∀ w ∈ ws, Wo w ∧ NoR w) ∧ s'.Ok (k + 5 * i))
    ⟨none, none, none, [], s, rfl, rfl, rfl, .nil, by simp, h⟩ (fun i d ρ vh hd ⟨a, b, c, ws, s1, e1, e2, hl, nd, hw, ho⟩ => by
      subst e1 e2
      have hi : i < n.toNat := by
        have z := (List.getElem?_eq_some_iff.mp hd).1
        rw [range_len] at z
        exact z
      obtain ⟨l, s2, f1, wo, nr, h2⟩ := wB1_ok (t := t ++ [some (.lst (ws.map strD'))]) ho (by omega) (some (.int n)) (some (.ref (t.length + 2))) (some d) b c
      have f2 := wB2_ok l wo.n1 (s2.vh (t ++ [some (.lst (ws.map strD'))])) (some (.ref 1)) (some (.int n)) (some (.ref (t.length + 2))) (some d) c
      obtain ⟨x, x1, x2, f3⟩ := wB3_ok (s := s2) (t := t) l ws (by omega) (some (.ref 1)) (some (.int n)) (some d) (some (strD' l))
      refine ⟨_, _, _, rfl, (sq f1).trans ((sq f2).trans f3), some d, some (strD' l), _, ws ++ [x], s2, rfl, rfl, by simp [hl], ?_, ?_, h2.mono (by omega)⟩
      · rw [List.nodup_append]
        exact ⟨nd, by simp, fun y hy z hz => by
          rw [List.mem_singleton.mp hz]
          exact fun e => x2 (by rw [← e]; exact hy)⟩
      · intro w hw'
        rcases List.mem_append.mp hw' with z | z
        · exact hw w z
        · rw [List.mem_singleton.mp z]
          exact spare_ok wo nr x x1)
  rw [range_len] at hl ho
  have ef : (forS (argI range1It (consA (var 1) nilA)) (nameG 3) (seqS wB1 (seqS wB2 wB3))) [some (.ref 1), some (.int n), some (.ref (t.length + 2)), none, none, none, none, none, none] (s.vh (t ++ [some (.lst [])])) = some (.nx [some (.ref 1), some (.int n), some (.ref (t.length + 2)), a, b, c, none, none, none], s'.vh (t ++ [some (.lst (ws.map strD'))])) := by
    unfold forS VL.bind
    rw [er]
    exact e1
  have st : still (.ref (t.length + 2)) (s'.vh (t ++ [some (MO.lst (ws.map strD'))])) = some (D.lst (ws.map strD'), s'.vh (t ++ [none])) := by
    show (match (s'.vh (t ++ [some (MO.lst (ws.map strD'))]))[t.length + 2]? with
      | some (some o) => (stillO o).map fun d => (d, (s'.vh (t ++ [some (MO.lst (ws.map strD'))])).set (t.length + 2) none)
      | _ => none) = _
    rw [at_end]
    show some (D.lst _, (s'.vh (t ++ [some (MO.lst (ws.map strD'))])).set (t.length + 2) none) = _
    rw [set_end]
  refine ⟨ws, s', denF_rt ?_, hl, nd, hw, ho⟩
  rw [g_words]
  refine (sq e0).trans ((sq ef).trans ?_)
  simp only [VL.bind, VL.ret, VL.fail, denF, denA, den1, den2, denC, consA, nilA, var, kst, seqS, nopS, ifS, retS, asgS, nameG, subG, dropS, cmpT, valT, andB, orB, notB, toB, ifD, andD, orD, notD, methD, List.map_cons, List.map_nil, List.cons_append, List.nil_append, List.length_cons, List.length_nil, List.replicate, List.getElem?_cons_zero, List.getElem?_cons_succ, List.set_cons_zero, List.set_cons_succ, List.set_nil, List.getElem?_nil, Option.map_some, Option.map_none, Option.bind_some, Option.bind_none, if_true, if_false, Bool.false_eq_true, reduceIte, Nat.reduceAdd, Nat.reduceSub, Int.reduceAdd, Int.reduceNeg, stE, st]
end
end K04

namespace K04
open PySem VL L2
/-! ### a plan: rooms and rows -/
structure Row where
  nm : List Nat
  st : List Nat
  en : List Nat
  step : List Int
def Row.d (r : Row) : D := .tup [strD' r.nm, strD' r.st, strD' r.en, .tup (r.step.map D.int)]
def pP1 : Bk := parS 10 11 (consA (denA (denC 2 d__law_pick) (consA (var 0) (consA (var 5) nilA))) (consA (denA (denC 2 d__law_pick) (consA (var 0) (consA (var 5) nilA))) nilA))
def pP2 : Bk := ifS (andB (cmpT ltD (var 8) (denA lenD (consA (var 5) nilA))) (cmpT gtD (denA (denC 2 d__law_draw) (consA (var 0) (consA (kst (.int 4)) nilA))) (kst (.int 0))))
  (parS 10 11 (consA (den2 ixD (var 5) (var 8)) (consA (den2 ixD (var 5) (den2 modD (den2 addD (var 8) (kst (.int 1))) (denA lenD (consA (var 5) nilA)))) nilA))) nopS
def pP3 : Bk := asgS (lcD (argI range1It (consA (var 1) nilA)) (nameG 13) yesT (den2 subD (denA (denC 2 d__law_draw) (consA (var 0) (consA (den2 addD (den2 mulD (kst (.int 2)) (var 4)) (kst (.int 1))) nilA))) (var 4)) [13] still0) (nameG 12)
def pP4 : Bk := dropS (methD isLst (var 7) (consA (denA mkTup (consA (var 9) (consA (var 10) (consA (var 11) (consA (denA tupleD (consA (var 12) nilA)) nilA))))) nilA) appendD)
def pA : Bk := asgS (denA (denC 2 d__law_n_words) (consA (var 0) (consA (den2 addD (kst (.int 1)) (denA (denC 2 d__law_draw) (consA (var 0) (consA (var 2) nilA)))) nilA))) (nameG 5)
def pB : Bk := parS 6 7 (consA (den2 addD (kst (.int 1)) (denA (denC 2 d__law_draw) (consA (var 0) (consA (var 3) nilA)))) (consA (denA mkLstM nilA) nilA))
def pI : Rho → M (List D) := argI enumIt (consA (denA (denC 2 d__law_n_words) (consA (var 0) (consA (var 6) nilA))) nilA)
def pG : Tg := unpG 2 (consG (nameG 8) (consG (nameG 9) nilG))
theorem g_plan : g__law_n_plan = seqS pA (seqS pB (seqS (forS pI pG (seqS pP1 (seqS pP2 (seqS pP3 pP4)))) (retS (denA mkTup (consA (var 1) (consA (var 5) (consA (stE (var 7)) nilA))))))) := rfl
section
variable {s : SS} {u v : VH} {k : Nat}
theorem at_mid {x : Option MO} : (s.vh (u ++ x :: v))[u.length + 2]? = some x := by
  unfold SS.vh
  rw [List.getElem?_cons_succ, List.getElem?_cons_succ]
  simp
theorem set_mid {x y : Option MO} : (s.vh (u ++ x :: v)).set (u.length + 2) y = s.vh (u ++ y :: v) := by
  unfold SS.vh
  rw [List.set_cons_succ, List.set_cons_succ]
  simp
theorem lst_mid {xs : List D} : lstV (s.vh (u ++ some (.lst xs) :: v)) (.ref (u.length + 2)) = some xs := by
  show lstAt _ = _
  rw [at_mid]
  rfl
theorem isl_mid {xs : List D} : isLst (s.vh (u ++ some (.lst xs) :: v)) (.ref (u.length + 2)) = true := by
  unfold isLst
  rw [lst_mid]
  rfl
theorem app_mid {xs : List D} {d : D} (h : xs.length < line) : appendD (.ref (u.length + 2)) [d] (s.vh (u ++ some (.lst xs) :: v)) = some (.non, s.vh (u ++ some (.lst (xs ++ [d])) :: v)) := by
  show ((lstAt _).bind fun xs => (appendF xs [d]).map fun p => (p.1, (s.vh _).set (u.length + 2) (some (.lst p.2)))) = _
  rw [at_mid]
  show ((if xs.length < line then some (D.non, xs ++ [d]) else none).map fun p => (p.1, (s.vh _).set (u.length + 2) (some (.lst p.2)))) = _
  rw [if_pos h]
  show some (D.non, (s.vh _).set (u.length + 2) _) = _
  rw [set_mid]
theorem still_mid {xs : List D} : still (.ref (u.length + 2)) (s.vh (u ++ some (.lst xs) :: v)) = some (.lst xs, s.vh (u ++ none :: v)) := by
  show (match (s.vh (u ++ some (MO.lst xs) :: v))[u.length + 2]? with
    | some (some o) => (stillO o).map fun d => (d, (s.vh (u ++ some (MO.lst xs) :: v)).set (u.length + 2) none)
    | _ => none) = _
  rw [at_mid]
  show some (D.lst _, (s.vh (u ++ some (MO.lst xs) :: v)).set (u.length + 2) none) = _
  rw [set_mid]
end
theorem of_strs {ws : List (List Nat)} {d : D} (h : d ∈ ws.map strD') : ∃ w, w ∈ ws ∧ d = strD' w := by
  obtain ⟨w, hw, rfl⟩ := List.mem_map.mp h
  exact ⟨w, hw, rfl⟩
section
variable {s : SS} {t : VH} {k : Nat} {ns : List (List Nat)}
theorem pP1_ok (h : s.Ok k) (hk : k < 1000000000) (h0 : 0 < ns.length) (h1 : ns.length ≤ 1000) (x1 x2 x3 x4 x6 x7 x8 x9 x10 x11 x12 x13 : Option D) : ∃ (a b : List Nat) (s' : SS),
    pP1 [some (.ref 1), x1, x2, x3, x4, some (.lst (ns.map strD')), x6, x7, x8, x9, x10, x11, x12, x13] (s.vh t) = some (.nx [some (.ref 1), x1, x2, x3, x4, some (.lst (ns.map strD')), x6, x7, x8, x9, some (strD' a), some (strD' b), x12, x13], s'.vh t) ∧ a ∈ ns ∧ b ∈ ns ∧ s'.Ok (k + 2) := by
  obtain ⟨d1, s1, e1, m1, o1⟩ := pick_lst (t := t) h (by omega) (ds := ns.map strD') (by rw [List.length_map]; exact h0) (by rw [List.length_map]; omega)
  obtain ⟨d2, s2, e2, m2, o2⟩ := pick_lst (t := t) o1 (by omega) (ds := ns.map strD') (by rw [List.length_map]; exact h0) (by rw [List.length_map]; omega)
  obtain ⟨a, ha, rfl⟩ := of_strs m1
  obtain ⟨b, hb, rfl⟩ := of_strs m2
  exact ⟨a, b, s2, by simp only [VL.bind, VL.ret, VL.fail, denF, denA, den1, den2, denC, consA, nilA, var, kst, seqS, nopS, ifS, retS, asgS, nameG, subG, dropS, cmpT, valT, andB, orB, notB, toB, ifD, andD, orD, notD, methD, List.map_cons, List.map_nil, List.cons_append, List.nil_append, List.length_cons, List.length_nil, List.replicate, List.getElem?_cons_zero, List.getElem?_cons_succ, List.set_cons_zero, List.set_cons_succ, List.set_nil, List.getElem?_nil, Option.map_some, Option.map_none, Option.bind_some, Option.bind_none, if_true, if_false, Bool.false_eq_true, reduceIte, Nat.reduceAdd, Nat.reduceSub, Int.reduceAdd, Int.reduceNeg, pP1, parS, e1, e2], ha, hb, o2⟩
theorem pP2_ok (h : s.Ok k) (hk : k < 1000000000) (h0 : 0 < ns.length) (h1 : ns.length ≤ 1000) (i : Nat) {a b : List Nat} (ha : a ∈ ns) (hb : b ∈ ns) (x1 x2 x3 x4 x6 x7 x9 x12 x13 : Option D) : ∃ (a' b' : List Nat) (s' : SS),
    pP2 [some (.ref 1), x1, x2, x3, x4, some (.lst (ns.map strD')), x6, x7, some (.int (i : Nat)), x9, some (strD' a), some (strD' b), x12, x13] (s.vh t) = some (.nx [some (.ref 1), x1, x2, x3, x4, some (.lst (ns.map strD')), x6, x7, some (.int (i : Nat)), x9, some (strD' a'), some (strD' b'), x12, x13], s'.vh t) ∧ a' ∈ ns ∧ b' ∈ ns ∧ s'.Ok (k + 1) := by
  by_cases hi : (i : Int) < (ns.map strD').length
  · obtain ⟨j, s1, e1, j0, j1, o1⟩ := draw_ok (t := t) h (by omega) (n := 4) (by decide) (by decide)
    by_cases hj : 0 < j
    · have hl : ((ns.map strD').length : Int) ≠ 0 := by rw [List.length_map]; omega
      have f := fm (i := (i : Int) + 1) (n := ((ns.map strD').length : Int)) (by rw [List.length_map]; omega)
      obtain ⟨d1, m1, g1⟩ := atI_nat (xs := ns.map strD') (j := (i : Int)) (by omega) hi
      obtain ⟨d2, m2, g2⟩ := atI_nat (xs := ns.map strD') f.1 f.2
      obtain ⟨a', ha', rfl⟩ := of_strs m1
      obtain ⟨b', hb', rfl⟩ := of_strs m2
      have i1 : ixD (.lst (ns.map strD')) (.int (i : Nat)) (s1.vh t) = some (strD' a', s1.vh t) := by
        show (atI _ _).map _ = _
        rw [g1]
        rfl
      have i2 : ixD (.lst (ns.map strD')) (.int (((i : Int) + 1).fmod ((ns.map strD').length : Nat))) (s1.vh t) = some (strD' b', s1.vh t) := by
        show (atI _ _).map _ = _
        rw [g2]
        rfl
      exact ⟨a', b', s1, by simp only [VL.bind, VL.ret, VL.fail, denF, denA, den1, den2, denC, consA, nilA, var, kst, seqS, nopS, ifS, retS, asgS, nameG, subG, dropS, cmpT, valT, andB, orB, notB, toB, ifD, andD, orD, notD, methD, List.map_cons, List.map_nil, List.cons_append, List.nil_append, List.length_cons, List.length_nil, List.replicate, List.getElem?_cons_zero, List.getElem?_cons_succ, List.set_cons_zero, List.set_cons_succ, List.set_nil, List.getElem?_nil, Option.map_some, Option.map_none, Option.bind_some, Option.bind_none, if_true, if_false, Bool.false_eq_true, reduceIte, Nat.reduceAdd, Nat.reduceSub, Int.reduceAdd, Int.reduceNeg, pP2, parS, len_lst, lt_int, decide_eq_true hi, e1, gt_int, decide_eq_true hj, add_int, mod_int hl, i1, i2], ha', hb', o1⟩
    · exact ⟨a, b, s1, by simp only [VL.bind, VL.ret, VL.fail, denF, denA, den1, den2, denC, consA, nilA, var, kst, seqS, nopS, ifS, retS, asgS, nameG, subG, dropS, cmpT, valT, andB, orB, notB, toB, ifD, andD, orD, notD, methD, List.map_cons, List.map_nil, List.cons_append, List.nil_append, List.length_cons, List.length_nil, List.replicate, List.getElem?_cons_zero, List.getElem?_cons_succ, List.set_cons_zero, List.set_cons_succ, List.set_nil, List.getElem?_nil, Option.map_some, Option.map_none, Option.bind_some, Option.bind_none, if_true, if_false, Bool.false_eq_true, reduceIte, Nat.reduceAdd, Nat.reduceSub, Int.reduceAdd, Int.reduceNeg, pP2, parS, len_lst, lt_int, decide_eq_true hi, e1, gt_int, decide_eq_false hj], ha, hb, o1⟩
  · exact ⟨a, b, s, by simp only [VL.bind, VL.ret, VL.fail, denF, denA, den1, den2, denC, consA, nilA, var, kst, seqS, nopS, ifS, retS, asgS, nameG, subG, dropS, cmpT, valT, andB, orB, notB, toB, ifD, andD, orD, notD, methD, List.map_cons, List.map_nil, List.cons_append, List.nil_append, List.length_cons, List.length_nil, List.replicate, List.getElem?_cons_zero, List.getElem?_cons_succ, List.set_cons_zero, List.set_cons_succ, List.set_nil, List.getElem?_nil, Option.map_some, Option.map_none, Option.bind_some, Option.bind_none, if_true, if_false, Bool.false_eq_true, reduceIte, Nat.reduceAdd, Nat.reduceSub, Int.reduceAdd, Int.reduceNeg, pP2, parS, len_lst, lt_int, decide_eq_false hi], ha, hb, h.mono (by omega)⟩
theorem ints_of : ∀ {ys : List D}, (∀ y ∈ ys, ∃ i : Int, y = D.int i) → ∃ is : List Int, ys = is.map D.int
  | [], _ => ⟨[], rfl⟩
  | y :: ys, h => by
    obtain ⟨i, rfl⟩ := h y (List.mem_cons_self ..)
    obtain ⟨is, rfl⟩ := ints_of fun y hy => h y (List.mem_cons_of_mem _ hy)
    exact ⟨i :: is, rfl⟩
theorem pP3_ok (h : s.Ok k) (hk : k < 1000000000) {ax w : Int} (a0 : 0 ≤ ax) (a1 : ax ≤ 1000) (w0 : 0 ≤ w) (w1 : w ≤ 1000) (x2 x3 x5 x6 x7 x8 x9 x10 x11 x12 x13 : Option D) : ∃ (is : List Int) (s' : SS),
    pP3 [some (.ref 1), some (.int ax), x2, x3, some (.int w), x5, x6, x7, x8, x9, x10, x11, x12, x13] (s.vh t) = some (.nx [some (.ref 1), some (.int ax), x2, x3, some (.int w), x5, x6, x7, x8, x9, x10, x11, some (.lst (is.map D.int)), x13], s'.vh t) ∧ is.length = ax.toNat ∧ s'.Ok (k + ax.toNat) := by
  obtain ⟨ys, s2, e2, hl, hy, h2⟩ := comp_draws (t := t) (g := nameG 13) (c := yesT) (e := den2 subD (denA (denC 2 d__law_draw) (consA (var 0) (consA (den2 addD (den2 mulD (kst (.int 2)) (var 4)) (kst (.int 1))) nilA))) (var 4)) (ρ := wipeR [some (.ref 1), some (.int ax), x2, x3, some (.int w), x5, x6, x7, x8, x9, x10, x11, x12, x13] [13]) (Y := fun y => ∃ i : Int, y = D.int i) (k + ax.toNat) (fun d s k' hs hk' => by
    obtain ⟨j, s1, e1, j0, j1, o1⟩ := draw_ok (t := t) hs (by omega) (n := 2 * w + 1) (by omega) (by omega)
    have sb : subD (.int j) (.int w) = VL.ret (.int (j - w)) := rfl
    exact ⟨_, .int (j - w), s1, rfl, rfl, by simp only [VL.bind, VL.ret, VL.fail, denF, denA, den1, den2, denC, consA, nilA, var, kst, seqS, nopS, ifS, retS, asgS, nameG, subG, dropS, cmpT, valT, andB, orB, notB, toB, ifD, andD, orD, notD, methD, List.map_cons, List.map_nil, List.cons_append, List.nil_append, List.length_cons, List.length_nil, List.replicate, List.getElem?_cons_zero, List.getElem?_cons_succ, List.set_cons_zero, List.set_cons_succ, List.set_nil, List.getElem?_nil, Option.map_some, Option.map_none, Option.bind_some, Option.bind_none, if_true, if_false, Bool.false_eq_true, reduceIte, Nat.reduceAdd, Nat.reduceSub, Int.reduceAdd, Int.reduceNeg, wipeR, mul_intL (i := 2) (by decide), add_int, e1, sb], ⟨_, rfl⟩, o1⟩) (rangeL 0 ax.toNat) s k h (by rw [range_len]; omega)
  rw [range_len] at hl h2
  obtain ⟨is, rfl⟩ := ints_of hy
  have el := lc_eq (f := argI range1It (consA (var 1) nilA)) (mk := still0) (vs := [13]) (ρ := [some (.ref 1), some (.int ax), x2, x3, some (.int w), x5, x6, x7, x8, x9, x10, x11, x12, x13]) (vh := s.vh t) (by simp only [VL.bind, VL.ret, VL.fail, denF, denA, den1, den2, denC, consA, nilA, var, kst, seqS, nopS, ifS, retS, asgS, nameG, subG, dropS, cmpT, valT, andB, orB, notB, toB, ifD, andD, orD, notD, methD, List.map_cons, List.map_nil, List.cons_append, List.nil_append, List.length_cons, List.length_nil, List.replicate, List.getElem?_cons_zero, List.getElem?_cons_succ, List.set_cons_zero, List.set_cons_succ, List.set_nil, List.getElem?_nil, Option.map_some, Option.map_none, Option.bind_some, Option.bind_none, if_true, if_false, Bool.false_eq_true, reduceIte, Nat.reduceAdd, Nat.reduceSub, Int.reduceAdd, Int.reduceNeg, argI, range_ok (n := ax) a0 (by omega)]) (by rw [range_len]; show _ < 16777216; omega) e2
  exact ⟨is, s2, by simp only [VL.bind, VL.ret, VL.fail, denF, denA, den1, den2, denC, consA, nilA, var, kst, seqS, nopS, ifS, retS, asgS, nameG, subG, dropS, cmpT, valT, andB, orB, notB, toB, ifD, andD, orD, notD, methD, List.map_cons, List.map_nil, List.cons_append, List.nil_append, List.length_cons, List.length_nil, List.replicate, List.getElem?_cons_zero, List.getElem?_cons_succ, List.set_cons_zero, List.set_cons_succ, List.set_nil, List.getElem?_nil, Option.map_some, Option.map_none, Option.bind_some, Option.bind_none, if_true, if_false, Bool.false_eq_true, reduceIte, Nat.reduceAdd, Nat.reduceSub, Int.reduceAdd, Int.reduceNeg, pP3, el, still0], by simpa using hl, h2⟩
end
end K04

namespace K04
open PySem VL L2
section
variable {s : SS} {t u v : VH} {k : Nat} {ns ws : List (List Nat)}
theorem pP4_ok (r : Row) (rows : List Row) (hr : rows.length ≤ 1000) (x0 x1 x2 x3 x4 x5 x6 x8 x13 : Option D) :
    pP4 [x0, x1, x2, x3, x4, x5, x6, some (.ref (u.length + 2)), x8, some (strD' r.nm), some (strD' r.st), some (strD' r.en), some (.lst (r.step.map D.int)), x13] (s.vh (u ++ some (.lst (rows.map Row.d)) :: v)) =
      some (.nx [x0, x1, x2, x3, x4, x5, x6, some (.ref (u.length + 2)), x8, some (strD' r.nm), some (strD' r.st), some (strD' r.en), some (.lst (r.step.map D.int)), x13], s.vh (u ++ some (.lst ((rows ++ [r]).map Row.d)) :: v)) := by
  have tu : ∀ (xs : List D) (vh : VH), tupleD [.lst xs] vh = some (.tup xs, vh) := fun _ _ => rfl
  have mt : ∀ a b c d : D, mkTup [a, b, c, d] = VL.ret (.tup [a, b, c, d]) := fun _ _ _ _ => rfl
  have ap := app_mid (s := s) (u := u) (v := v) (xs := rows.map Row.d) (d := r.d) (by rw [List.length_map]; show _ < 16777216; omega)
  have em : (rows ++ [r]).map Row.d = rows.map Row.d ++ [r.d] := by simp
  rw [em]
  unfold Row.d at ap ⊢
  simp only [VL.bind, VL.ret, VL.fail, denF, denA, den1, den2, denC, consA, nilA, var, kst, seqS, nopS, ifS, retS, asgS, nameG, subG, dropS, cmpT, valT, andB, orB, notB, toB, ifD, andD, orD, notD, methD, List.map_cons, List.map_nil, List.cons_append, List.nil_append, List.length_cons, List.length_nil, List.replicate, List.getElem?_cons_zero, List.getElem?_cons_succ, List.set_cons_zero, List.set_cons_succ, List.set_nil, List.getElem?_nil, Option.map_some, Option.map_none, Option.bind_some, Option.bind_none, if_true, if_false, Bool.false_eq_true, reduceIte, Nat.reduceAdd, Nat.reduceSub, Int.reduceAdd, Int.reduceNeg, pP4, isl_mid, tu, mt, ap]
theorem enum_at {xs : List (List Nat)} {i : Nat} {d : D} (h : (enumL (xs.map strD'))[i]? = some d) : ∃ w, xs[i]? = some w ∧ d = .tup [.int (i : Nat), strD' w] := by
  unfold enumL pairL at h
  rw [List.getElem?_map] at h
  obtain ⟨p, hp, rfl⟩ := Option.map_eq_some_iff.mp h
  obtain ⟨h1, h2⟩ := List.getElem?_zip_eq_some.mp hp
  rw [List.getElem?_map] at h2
  obtain ⟨w, hw, e⟩ := Option.map_eq_some_iff.mp h2
  rw [List.getElem?_map] at h1
  obtain ⟨j, hj, e1⟩ := Option.map_eq_some_iff.mp h1
  have : j = i := by
    obtain ⟨hl, ej⟩ := List.getElem?_eq_some_iff.mp hj
    simp at ej
    exact ej.symm
  subst this
  exact ⟨w, hw, by rw [← e, ← e1]⟩
theorem enum_len {xs : List D} : (enumL xs).length = xs.length := by simp [enumL, pairL]
structure RowOk (ns : List (List Nat)) (ax : Int) (r : Row) : Prop where
  st : r.st ∈ ns
  en : r.en ∈ ns
  le : r.step.length = ax.toNat
theorem plan_loop (h : s.Ok k) (hk : k < 10000000) {ax w : Int} (a0 : 0 ≤ ax) (a1 : ax ≤ 4) (w0 : 0 ≤ w) (w1 : w ≤ 1000) (h0 : 0 < ns.length) (h1 : ns.length ≤ 100) (hws : ws.length ≤ 100) (x2 x3 x6 : Option D) :
    ∃ (x8 x9 x10 x11 x12 : Option D) (rows : List Row) (s' : SS), forL pG (seqS pP1 (seqS pP2 (seqS pP3 pP4))) (enumL (ws.map strD')) [some (.ref 1), some (.int ax), x2, x3, some (.int w), some (.lst (ns.map strD')), x6, some (.ref (u.length + 2)), none, none, none, none, none, none] (s.vh (u ++ some (.lst []) :: v)) =
      some (.nx [some (.ref 1), some (.int ax), x2, x3, some (.int w), some (.lst (ns.map strD')), x6, some (.ref (u.length + 2)), x8, x9, x10, x11, x12, none], s'.vh (u ++ some (.lst (rows.map Row.d)) :: v)) ∧
      rows.map Row.nm = ws ∧ (∀ r ∈ rows, RowOk ns ax r) ∧ s'.Ok (k + 7 * ws.length) := by
  obtain ⟨ρ', vh', e, x8, x9, x10, x11, x12, rows, s', rfl, rfl, hn, hr, ho⟩ := for_inv (g := pG) (b := seqS pP1 (seqS pP2 (seqS pP3 pP4))) (items := enumL (ws.map strD')) (ρ := [some (.ref 1), some (.int ax), x2, x3, some (.int w), some (.lst (ns.map strD')), x6, some (.ref (u.length + 2)), none, none, none, none, none, none]) (vh := s.vh (u ++ some (.lst []) :: v))
    (fun i ρ vh => ∃ (x8 x9 x10 x11 x12 : Option D) (rows : List Row) (s' : SS), ρ = [some (.ref 1), some (.int ax), x2, x3, some (.int w), some (.lst (ns.map strD')), x6, some (.ref (u.length + 2)), x8, x9, x10, x11, x12, none] ∧ vh = s'.vh (u ++ some (.lst (rows.map Row.d)) :: v) ∧
      rows.map Row.nm = ws.take i ∧ (∀ r ∈ rows, RowOk ns ax r) ∧ s'.Ok (k + 7 * i)) ⟨none, none, none, none, none, [], s, rfl, rfl, rfl, by simp, h⟩ (fun i d ρ vh hd ⟨x8, x9, x10, x11, x12, rows, s1, e1, e2, hn, hr, ho⟩ => by
      subst e1 e2
      obtain ⟨nm, hw, rfl⟩ := enum_at hd
      have hi : i < ws.length := (List.getElem?_eq_some_iff.mp hw).1
      have hrl : rows.length = i := by
        have z := congrArg List.length hn
        rw [List.length_map, List.length_take] at z
        omega
      obtain ⟨a, b, s2, f1, ha, hb, o2⟩ := pP1_ok (t := u ++ some (.lst (rows.map Row.d)) :: v) ho (by omega) h0 (by omega) (some (.int ax)) x2 x3 (some (.int w)) x6 (some (.ref (u.length + 2))) (some (.int (i : Nat))) (some (strD' nm)) x10 x11 x12 none
      obtain ⟨a', b', s3, f2, ha', hb', o3⟩ := pP2_ok (t := u ++ some (.lst (rows.map Row.d)) :: v) o2 (by omega) h0 (by omega) i ha hb (some (.int ax)) x2 x3 (some (.int w)) x6 (some (.ref (u.length + 2))) (some (strD' nm)) x12 none
      obtain ⟨is, s4, f3, hl, o4⟩ := pP3_ok (t := u ++ some (.lst (rows.map Row.d)) :: v) o3 (by omega) a0 (by omega) w0 w1 x2 x3 (some (.lst (ns.map strD'))) x6 (some (.ref (u.length + 2))) (some (.int (i : Nat))) (some (strD' nm)) (some (strD' a')) (some (strD' b')) x12 none
      have f4 := pP4_ok (s := s4) (u := u) (v := v) ⟨nm, a', b', is⟩ rows (by omega) (some (.ref 1)) (some (.int ax)) x2 x3 (some (.int w)) (some (.lst (ns.map strD'))) x6 (some (.int (i : Nat))) none
      refine ⟨_, _, _, rfl, (sq f1).trans ((sq f2).trans ((sq f3).trans f4)), _, _, _, _, _, rows ++ [⟨nm, a', b', is⟩], s4, rfl, rfl, ?_, ?_, o4.mono (by omega)⟩
      · rw [List.map_append, hn, List.take_add_one, hw]
        rfl
      · intro r hr'
        rcases List.mem_append.mp hr' with z | z
        · exact hr r z
        · rw [List.mem_singleton.mp z]
          exact ⟨ha', hb', hl⟩)
  rw [enum_len, List.length_map] at hn ho
  rw [List.take_length] at hn
  exact ⟨x8, x9, x10, x11, x12, rows, s', e, hn, hr, ho⟩
theorem plan_ok (h : s.Ok k) (hk : k < 1000000) {ax halls many w : Int} (a0 : 0 ≤ ax) (a1 : ax ≤ 4) (b0 : 0 < halls) (b1 : halls ≤ 20) (c0 : 0 < many) (c1 : many ≤ 20) (w0 : 0 ≤ w) (w1 : w ≤ 1000) : ∃ (ns : List (List Nat)) (rows : List Row) (s' : SS) (t' : VH),
    d__law_n_plan [.ref 1, .int ax, .int halls, .int many, .int w] (s.vh t) = some (.tup [.int ax, .lst (ns.map strD'), .lst (rows.map Row.d)], s'.vh t') ∧ 0 < ns.length ∧ ns.length ≤ 20 ∧ ns.Nodup ∧ (∀ w ∈ ns, Wo w) ∧
      0 < rows.length ∧ rows.length ≤ 20 ∧ (rows.map Row.nm).Nodup ∧ (∀ r ∈ rows, RowOk ns ax r ∧ Wo r.nm ∧ NoR r.nm) ∧ s'.Ok (k + 400) := by
  obtain ⟨j1, s1, e1, j10, j11, o1⟩ := draw_ok (t := t) h (by omega) (n := halls) b0 (by omega)
  obtain ⟨ns, s2, e2, l2, nd2, w2, o2⟩ := words_ok (t := t) o1 (n := 1 + j1) (by omega) (by omega) (by omega)
  obtain ⟨j3, s3, e3, j30, j31, o3⟩ := draw_ok (t := t ++ [none]) o2 (by omega) (n := many) c0 (by omega)
  obtain ⟨ws, s4, e4, l4, nd4, w4, o4⟩ := words_ok (t := t ++ [none] ++ [some (.lst [])]) o3 (n := 1 + j3) (by omega) (by omega) (by omega)
  obtain ⟨x8, x9, x10, x11, x12, rows, s5, e5, hn, hr, o5⟩ := plan_loop (u := t ++ [none]) (v := [none]) (ns := ns) (ws := ws) o4 (by omega) a0 a1 w0 w1 (by omega) (by omega) (by omega) (some (.int halls)) (some (.int many)) (some (.int (1 + j3)))
  have hrl : rows.length = ws.length := by rw [← hn, List.length_map]
  have eA : pA [some (.ref 1), some (.int ax), some (.int halls), some (.int many), some (.int w), none, none, none, none, none, none, none, none, none] (s.vh t) = some (.nx [some (.ref 1), some (.int ax), some (.int halls), some (.int many), some (.int w), some (.lst (ns.map strD')), none, none, none, none, none, none, none, none], s2.vh (t ++ [none])) := by
    simp only [VL.bind, VL.ret, VL.fail, denF, denA, den1, den2, denC, consA, nilA, var, kst, seqS, nopS, ifS, retS, asgS, nameG, subG, dropS, cmpT, valT, andB, orB, notB, toB, ifD, andD, orD, notD, methD, List.map_cons, List.map_nil, List.cons_append, List.nil_append, List.length_cons, List.length_nil, List.replicate, List.getElem?_cons_zero, List.getElem?_cons_succ, List.set_cons_zero, List.set_cons_succ, List.set_nil, List.getElem?_nil, Option.map_some, Option.map_none, Option.bind_some, Option.bind_none, if_true, if_false, Bool.false_eq_true, reduceIte, Nat.reduceAdd, Nat.reduceSub, Int.reduceAdd, Int.reduceNeg, pA, e1, add_int, e2]
  have nw : mkLstM [] (s3.vh (t ++ [none])) = some (.ref ((t ++ [none]).length + 2), s3.vh (t ++ [none] ++ [some (.lst [])])) := rfl
  have eB : pB [some (.ref 1), some (.int ax), some (.int halls), some (.int many), some (.int w), some (.lst (ns.map strD')), none, none, none, none, none, none, none, none] (s2.vh (t ++ [none])) =
      some (.nx [some (.ref 1), some (.int ax), some (.int halls), some (.int many), some (.int w), some (.lst (ns.map strD')), some (.int (1 + j3)), some (.ref ((t ++ [none]).length + 2)), none, none, none, none, none, none], s3.vh (t ++ [none] ++ [some (.lst [])])) := by
    simp only [VL.bind, VL.ret, VL.fail, denF, denA, den1, den2, denC, consA, nilA, var, kst, seqS, nopS, ifS, retS, asgS, nameG, subG, dropS, cmpT, valT, andB, orB, notB, toB, ifD, andD, orD, notD, methD, List.map_cons, List.map_nil, List.cons_append, List.nil_append, List.length_cons, List.length_nil, List.replicate, List.getElem?_cons_zero, List.getElem?_cons_succ, List.set_cons_zero, List.set_cons_succ, List.set_nil, List.getElem?_nil, Option.map_some, Option.map_none, Option.bind_some, Option.bind_none, if_true, if_false, Bool.false_eq_true, reduceIte, Nat.reduceAdd, Nat.reduceSub, Int.reduceAdd, Int.reduceNeg, pB, parS, e3, add_int, nw]
  have en : ∀ (xs : List D) (vh : VH), enumIt [.lst xs] vh = some (enumL xs, vh) := fun _ _ => rfl
  have eF : (forS pI pG (seqS pP1 (seqS pP2 (seqS pP3 pP4)))) [some (.ref 1), some (.int ax), some (.int halls), some (.int many), some (.int w), some (.lst (ns.map strD')), some (.int (1 + j3)), some (.ref ((t ++ [none]).length + 2)), none, none, none, none, none, none] (s3.vh (t ++ [none] ++ [some (.lst [])])) =
      some (.nx [some (.ref 1), some (.int ax), some (.int halls), some (.int many), some (.int w), some (.lst (ns.map strD')), some (.int (1 + j3)), some (.ref ((t ++ [none]).length + 2)), x8, x9, x10, x11, x12, none], s5.vh (t ++ [none] ++ some (.lst (rows.map Row.d)) :: [none])) := by
    have ei : pI [some (.ref 1), some (.int ax), some (.int halls), some (.int many), some (.int w), some (.lst (ns.map strD')), some (.int (1 + j3)), some (.ref ((t ++ [none]).length + 2)), none, none, none, none, none, none] (s3.vh (t ++ [none] ++ [some (.lst [])])) = some (enumL (ws.map strD'), s4.vh (t ++ [none] ++ some (.lst []) :: [none])) := by
      have ap : t ++ [none] ++ some (MO.lst []) :: [none] = t ++ [none] ++ [some (.lst [])] ++ [none] := by simp
      rw [ap]
      simp only [VL.bind, VL.ret, VL.fail, denF, denA, den1, den2, denC, consA, nilA, var, kst, seqS, nopS, ifS, retS, asgS, nameG, subG, dropS, cmpT, valT, andB, orB, notB, toB, ifD, andD, orD, notD, methD, List.map_cons, List.map_nil, List.cons_append, List.nil_append, List.length_cons, List.length_nil, List.replicate, List.getElem?_cons_zero, List.getElem?_cons_succ, List.set_cons_zero, List.set_cons_succ, List.set_nil, List.getElem?_nil, Option.map_some, Option.map_none, Option.bind_some, Option.bind_none, if_true, if_false, Bool.false_eq_true, reduceIte, Nat.reduceAdd, Nat.reduceSub, Int.reduceAdd, Int.reduceNeg, pI, argI, e4, en]
    unfold forS VL.bind
    rw [ei]
    exact e5
  have mt : ∀ a b c : D, mkTup [a, b, c] = VL.ret (.tup [a, b, c]) := fun _ _ _ => rfl
  have st := still_mid (s := s5) (u := t ++ [none]) (v := [none]) (xs := rows.map Row.d)
  refine ⟨ns, rows, s5, t ++ [none] ++ none :: [none], denF_rt ?_, by omega, by omega, nd2, fun w hw => (w2 w hw).1, by omega, by omega, by rw [hn]; exact nd4, fun r h => ⟨hr r h, ?_⟩, o5.mono (by omega)⟩
  · rw [g_plan]
    refine (sq eA).trans ((sq eB).trans ((sq eF).trans ?_))
    simp only [VL.bind, VL.ret, VL.fail, denF, denA, den1, den2, denC, consA, nilA, var, kst, seqS, nopS, ifS, retS, asgS, nameG, subG, dropS, cmpT, valT, andB, orB, notB, toB, ifD, andD, orD, notD, methD, List.map_cons, List.map_nil, List.cons_append, List.nil_append, List.length_cons, List.length_nil, List.replicate, List.getElem?_cons_zero, List.getElem?_cons_succ, List.set_cons_zero, List.set_cons_succ, List.set_nil, List.getElem?_nil, Option.map_some, Option.map_none, Option.bind_some, Option.bind_none, if_true, if_false, Bool.false_eq_true, reduceIte, Nat.reduceAdd, Nat.reduceSub, Int.reduceAdd, Int.reduceNeg, stE, st, mt]
  · exact w4 r.nm (by rw [← hn]; exact List.mem_map_of_mem h)
end
end K04

namespace K04
open PySem VL L2
/-! ### what the net asks of its parts -/
theorem tn_int : tnOf "int" = some .int := by simp [tnOf]
theorem tn_bool : tnOf "bool" = some .bl := by simp [tnOf]
theorem tn_str : tnOf "str" = some .str := by simp [tnOf]
theorem tn_list : tnOf "list" = some .lst := by simp [tnOf]
theorem tn_tuple : tnOf "tuple" = some .tup := by simp [tnOf]
theorem isi_ok {d : D} {n : String} {vh : VH} {a b : Tn} (h : tnD vh d = some a) (h2 : tnOf n = some b) : isiD [d, .ty n] vh = some (.bl (isT a b), vh) := by
  unfold isiD pureD isiR
  simp only [h, h2]
  rfl
theorem isi_two {d : D} {vh : VH} {a : Tn} (h : tnD vh d = some a) : isiD [d, .tup [.ty "list", .ty "tuple"]] vh = some (.bl (isT a .lst || isT a .tup), vh) := by
  have e : tnsOf [.ty "list", .ty "tuple"] = some [.lst, .tup] := by
    unfold tnsOf
    rw [tn_list]
    unfold tnsOf
    rw [tn_tuple]
    rfl
  unfold isiD pureD isiR
  simp only [h, e]
  simp only [Option.map_some, List.any_cons, List.any_nil, Bool.or_false]
theorem mkTup2 (a b : D) : mkTup [a, b] = VL.ret (.tup [a, b]) := rfl
theorem list_ok {d : D} {vh : VH} {a : Tn} (h : tnD vh d = some a) : d_is_list [d] vh = some (.bl (isT a .lst || isT a .tup), vh) := by
  simp only [VL.bind, VL.ret, VL.fail, denF, denA, den1, den2, denC, consA, nilA, var, kst, seqS, nopS, ifS, retS, asgS, nameG, subG, dropS, cmpT, valT, andB, orB, notB, toB, ifD, andD, orD, notD, methD, List.map_cons, List.map_nil, List.cons_append, List.nil_append, List.length_cons, List.length_nil, List.replicate, List.getElem?_cons_zero, List.getElem?_cons_succ, List.set_cons_zero, List.set_cons_succ, List.set_nil, List.getElem?_nil, Option.map_some, Option.map_none, Option.bind_some, Option.bind_none, if_true, if_false, Bool.false_eq_true, reduceIte, Nat.reduceAdd, Nat.reduceSub, Int.reduceAdd, Int.reduceNeg, d_is_list, g_is_list, mkTup2, isi_two h]
theorem whole_int (i : Int) (vh : VH) : d_is_whole [.int i] vh = some (.bl true, vh) := by
  simp only [VL.bind, VL.ret, VL.fail, denF, denA, den1, den2, denC, consA, nilA, var, kst, seqS, nopS, ifS, retS, asgS, nameG, subG, dropS, cmpT, valT, andB, orB, notB, toB, ifD, andD, orD, notD, methD, List.map_cons, List.map_nil, List.cons_append, List.nil_append, List.length_cons, List.length_nil, List.replicate, List.getElem?_cons_zero, List.getElem?_cons_succ, List.set_cons_zero, List.set_cons_succ, List.set_nil, List.getElem?_nil, Option.map_some, Option.map_none, Option.bind_some, Option.bind_none, if_true, if_false, Bool.false_eq_true, reduceIte, Nat.reduceAdd, Nat.reduceSub, Int.reduceAdd, Int.reduceNeg, d_is_whole, g_is_whole, isi_ok (d := .int i) (vh := vh) rfl tn_int, isi_ok (d := .int i) (vh := vh) rfl tn_bool, isT, Bool.not_false]
theorem le_int {i j : Int} : leD (.int i) (.int j) = VL.ret (.bl (decide (i ≤ j))) := rfl
theorem between_int {i a b : Int} (h1 : a ≤ i) (h2 : i ≤ b) (vh : VH) : d_is_between [.int i, .int a, .int b] vh = some (.bl true, vh) := by
  simp only [VL.bind, VL.ret, VL.fail, denF, denA, den1, den2, denC, consA, nilA, var, kst, seqS, nopS, ifS, retS, asgS, nameG, subG, dropS, cmpT, valT, andB, orB, notB, toB, ifD, andD, orD, notD, methD, List.map_cons, List.map_nil, List.cons_append, List.nil_append, List.length_cons, List.length_nil, List.replicate, List.getElem?_cons_zero, List.getElem?_cons_succ, List.set_cons_zero, List.set_cons_succ, List.set_nil, List.getElem?_nil, Option.map_some, Option.map_none, Option.bind_some, Option.bind_none, if_true, if_false, Bool.false_eq_true, reduceIte, Nat.reduceAdd, Nat.reduceSub, Int.reduceAdd, Int.reduceNeg, d_is_between, g_is_between, whole_int, chainD, le_int, decide_eq_true h1, decide_eq_true h2]
theorem all_bls (bs : List Bool) (vh : VH) : allD [.lst (bs.map D.bl)] vh = some (.bl (bs.all id), vh) := by
  have e : ∀ bs : List Bool, blsOf (bs.map D.bl) = some bs := fun bs => by
    induction bs with
    | nil => rfl
    | cons b bs ih => rw [List.map_cons, blsOf, ih]; rfl
  unfold allD pureD allR
  simp only [lstV, Option.bind_some, e]
  rfl
theorem any_bls_false {ds : List D} (vh : VH) (h : ∀ d ∈ ds, d = .bl true) : allD [.lst ds] vh = some (.bl true, vh) := by
  have e : ds = (ds.map fun _ => true).map D.bl := by
    rw [List.map_map]
    conv => lhs; rw [← List.map_id ds]
    exact List.map_congr_left fun d hd => h d hd
  rw [e, all_bls]
  congr 2
  simp
/-- names of rooms and ties -/
structure Nm (l : List Nat) : Prop where
  n0 : 0 < l.length
  n1 : l.length ≤ 1000
  ok : ∀ c ∈ l, c ∈ Sg
theorem Wo.nm {l : List Nat} (w : Wo l) : Nm l := ⟨w.n0, by have := w.n1; omega, w.ok⟩
theorem in_sg {c : Nat} (h : c ∈ Sg) (vh : VH) : inD (.str ⟨#[c]⟩) (.str "abcdefghijklmnopqrstuvwxyz0123456789.") vh = some (.bl true, vh) := by
  show (some (decide (c ∈ Sg))).map _ = _
  rw [decide_eq_true h]
  rfl
theorem len_strD {l : List Nat} (h : l.length ≤ 1000) (vh : VH) : lenD [strD' l] vh = some (.int (l.length : Nat), vh) := by
  have := len_str (z := SX.S l) (vh := vh) (by rw [SX.S_len]; show _ ≤ 16777216; omega)
  rw [SX.S_len] at this
  exact this
theorem signs_strD (l : List Nat) (vh : VH) : seqIt (strD' l) vh = some (l.map (fun c => D.str ⟨#[c]⟩), vh) := by
  show some (l.toArray.toList.map _, vh) = _
  simp
theorem name_ok {l : List Nat} (h : Nm l) (vh : VH) : d_is_name [strD' l] vh = some (.bl true, vh) := by
  have z := comp_map (g := nameG 1) (e := den2 inD (var 1) (kst (.str "abcdefghijklmnopqrstuvwxyz0123456789."))) (ρ := wipeR [some (strD' l), none] [1]) (vh := vh) (f := fun _ => .bl true) (l.map fun c => D.str ⟨#[c]⟩) (fun d hd => by
    obtain ⟨c, hc, rfl⟩ := List.mem_map.mp hd
    exact ⟨_, rfl, by simp only [VL.bind, VL.ret, VL.fail, denF, denA, den1, den2, denC, consA, nilA, var, kst, seqS, nopS, ifS, retS, asgS, nameG, subG, dropS, cmpT, valT, andB, orB, notB, toB, ifD, andD, orD, notD, methD, List.map_cons, List.map_nil, List.cons_append, List.nil_append, List.length_cons, List.length_nil, List.replicate, List.getElem?_cons_zero, List.getElem?_cons_succ, List.set_cons_zero, List.set_cons_succ, List.set_nil, List.getElem?_nil, Option.map_some, Option.map_none, Option.bind_some, Option.bind_none, if_true, if_false, Bool.false_eq_true, reduceIte, Nat.reduceAdd, Nat.reduceSub, Int.reduceAdd, Int.reduceNeg, wipeR, in_sg (h.ok c hc)]⟩)
  have el := lc_eq (f := seqI (var 0)) (mk := still0) (vs := [1]) (ρ := [some (strD' l), none]) (vh := vh) (by simp only [VL.bind, VL.ret, VL.fail, denF, denA, den1, den2, denC, consA, nilA, var, kst, seqS, nopS, ifS, retS, asgS, nameG, subG, dropS, cmpT, valT, andB, orB, notB, toB, ifD, andD, orD, notD, methD, List.map_cons, List.map_nil, List.cons_append, List.nil_append, List.length_cons, List.length_nil, List.replicate, List.getElem?_cons_zero, List.getElem?_cons_succ, List.set_cons_zero, List.set_cons_succ, List.set_nil, List.getElem?_nil, Option.map_some, Option.map_none, Option.bind_some, Option.bind_none, if_true, if_false, Bool.false_eq_true, reduceIte, Nat.reduceAdd, Nat.reduceSub, Int.reduceAdd, Int.reduceNeg, seqI, signs_strD]) (by rw [List.length_map]; have := h.n1; show _ < 16777216; omega) z
  have al := any_bls_false (ds := (l.map fun c => D.str ⟨#[c]⟩).map fun _ => D.bl true) vh (by simp)
  have l0 : (0 : Int) < (l.length : Nat) := by have := h.n0; omega
  simp only [VL.bind, VL.ret, VL.fail, denF, denA, den1, den2, denC, consA, nilA, var, kst, seqS, nopS, ifS, retS, asgS, nameG, subG, dropS, cmpT, valT, andB, orB, notB, toB, ifD, andD, orD, notD, methD, List.map_cons, List.map_nil, List.cons_append, List.nil_append, List.length_cons, List.length_nil, List.replicate, List.getElem?_cons_zero, List.getElem?_cons_succ, List.set_cons_zero, List.set_cons_succ, List.set_nil, List.getElem?_nil, Option.map_some, Option.map_none, Option.bind_some, Option.bind_none, if_true, if_false, Bool.false_eq_true, reduceIte, Nat.reduceAdd, Nat.reduceSub, Int.reduceAdd, Int.reduceNeg, d_is_name, g_is_name, isi_ok (d := strD' l) (vh := vh) rfl tn_str, isT, len_strD h.n1, gt_int, decide_eq_true l0, el, still0, al]
theorem key_ok {l : List Nat} {tb : D} {ks : List Key} {vs : List D} {vh : VH} (h : dctV vh tb = some (ks, vs)) (hs : seqV vh tb = none) (hstr : ∀ z, tb ≠ .str z) : d_is_key [strD' l, tb] vh = some (.bl (valD ks vs (.inr (SX.S l))).isSome, vh) := by
  have i : inRes vh (strD' l) tb = some (valD ks vs (.inr (SX.S l))).isSome := by
    unfold inRes
    cases tb with
    | str z => exact absurd rfl (hstr z)
    | _ => simp only [hs, h]; rfl
  have e : inD (strD' l) tb vh = some (.bl (valD ks vs (.inr (SX.S l))).isSome, vh) := by
    unfold inD
    rw [i]
    rfl
  simp only [VL.bind, VL.ret, VL.fail, denF, denA, den1, den2, denC, consA, nilA, var, kst, seqS, nopS, ifS, retS, asgS, nameG, subG, dropS, cmpT, valT, andB, orB, notB, toB, ifD, andD, orD, notD, methD, List.map_cons, List.map_nil, List.cons_append, List.nil_append, List.length_cons, List.length_nil, List.replicate, List.getElem?_cons_zero, List.getElem?_cons_succ, List.set_cons_zero, List.set_cons_succ, List.set_nil, List.getElem?_nil, Option.map_some, Option.map_none, Option.bind_some, Option.bind_none, if_true, if_false, Bool.false_eq_true, reduceIte, Nat.reduceAdd, Nat.reduceSub, Int.reduceAdd, Int.reduceNeg, d_is_key, g_is_key, isi_ok (d := strD' l) (vh := vh) rfl tn_str, isT, e]
theorem wholes_ok {is : List Int} (hl : is.length ≤ 1000) {ax : Int} (h : ax = (is.length : Nat)) (vh : VH) : d_are_whole [.tup (is.map D.int), .int ax] vh = some (.bl true, vh) := by
  subst h
  have z := comp_map (g := nameG 2) (e := denA (denC 1 d_is_whole) (consA (var 2) nilA)) (ρ := wipeR [some (.tup (is.map D.int)), some (.int (is.length : Nat)), none] [2]) (vh := vh) (f := fun _ => .bl true) (is.map D.int) (fun d hd => by
    obtain ⟨c, hc, rfl⟩ := List.mem_map.mp hd
    exact ⟨_, rfl, by simp only [VL.bind, VL.ret, VL.fail, denF, denA, den1, den2, denC, consA, nilA, var, kst, seqS, nopS, ifS, retS, asgS, nameG, subG, dropS, cmpT, valT, andB, orB, notB, toB, ifD, andD, orD, notD, methD, List.map_cons, List.map_nil, List.cons_append, List.nil_append, List.length_cons, List.length_nil, List.replicate, List.getElem?_cons_zero, List.getElem?_cons_succ, List.set_cons_zero, List.set_cons_succ, List.set_nil, List.getElem?_nil, Option.map_some, Option.map_none, Option.bind_some, Option.bind_none, if_true, if_false, Bool.false_eq_true, reduceIte, Nat.reduceAdd, Nat.reduceSub, Int.reduceAdd, Int.reduceNeg, wipeR, whole_int]⟩)
  have el := lc_eq (f := seqI (var 0)) (mk := still0) (vs := [2]) (ρ := [some (.tup (is.map D.int)), some (.int (is.length : Nat)), none]) (vh := vh) rfl (by rw [List.length_map]; show _ < 16777216; omega) z
  have al := any_bls_false (ds := (is.map D.int).map fun _ => D.bl true) vh (by simp)
  have lt : lenD [.tup (is.map D.int)] vh = some (.int (is.length : Nat), vh) := by
    show some (D.int ((is.map D.int).length : Nat), vh) = _
    rw [List.length_map]
  simp only [VL.bind, VL.ret, VL.fail, denF, denA, den1, den2, denC, consA, nilA, var, kst, seqS, nopS, ifS, retS, asgS, nameG, subG, dropS, cmpT, valT, andB, orB, notB, toB, ifD, andD, orD, notD, methD, List.map_cons, List.map_nil, List.cons_append, List.nil_append, List.length_cons, List.length_nil, List.replicate, List.getElem?_cons_zero, List.getElem?_cons_succ, List.set_cons_zero, List.set_cons_succ, List.set_nil, List.getElem?_nil, Option.map_some, Option.map_none, Option.bind_some, Option.bind_none, if_true, if_false, Bool.false_eq_true, reduceIte, Nat.reduceAdd, Nat.reduceSub, Int.reduceAdd, Int.reduceNeg, d_are_whole, g_are_whole, list_ok (d := .tup (is.map D.int)) (vh := vh) rfl, isT, Bool.or_true, lt, eq_int, beq_self_eq_true, el, still0, al]
end K04

namespace K04
open PySem VL L2
def ky (l : List Nat) : Key := .inr (SX.S l)
theorem ky_inj {a b : List Nat} (h : ky a = ky b) : a = b := SX.S_inj (Sum.inr.inj h)
theorem nd_map {α β : Type} {f : α → β} (inj : ∀ a b, f a = f b → a = b) : ∀ {xs : List α}, xs.Nodup → (xs.map f).Nodup
  | [], _ => .nil
  | x :: xs, h => by
    obtain ⟨n1, n2⟩ := List.nodup_cons.mp h
    rw [List.map_cons]
    refine List.nodup_cons.mpr ⟨fun m => ?_, nd_map inj n2⟩
    obtain ⟨y, hy, e⟩ := List.mem_map.mp m
    exact n1 (inj _ _ e ▸ hy)
theorem put_new {ks : List Key} {vs : List D} {j : Key} {d : D} (h : j ∉ ks) : putKs ks j = ks ++ [j] ∧ putVs ks vs j d = vs ++ [d] := by
  have e : hasK ks j = false := List.any_eq_false.mpr fun k hk => by
    rw [decide_eq_true_iff]
    exact fun e => h (e ▸ hk)
  unfold putKs putVs
  rw [e]
  exact ⟨rfl, rfl⟩
theorem dcomp_nd {g : Tg} {ek ev : Rho → M D} {ρ : Rho} {vh : VH} {kf : D → Key} {vf : D → D} : ∀ (items : List D) (ks : List Key) (vs : List D),
    (∀ d ∈ items, ∃ (ρ' : Rho) (y : D), g d ρ vh = some (ρ', vh) ∧ ek ρ' vh = some (y, vh) ∧ toKey y = some (kf d) ∧ ev ρ' vh = some (vf d, vh)) → (items.map kf).Nodup → (∀ d ∈ items, kf d ∉ ks) →
    dcompL g yesT ek ev ρ items ks vs vh = some ((ks ++ items.map kf, vs ++ items.map vf), vh)
  | [], ks, vs, _, _, _ => by simp [dcompL, VL.ret]
  | d :: ds, ks, vs, h, nd, no => by
    obtain ⟨ρ', y, e1, e2, e3, e4⟩ := h d (List.mem_cons_self ..)
    rw [List.map_cons] at nd
    obtain ⟨n1, n2⟩ := List.nodup_cons.mp nd
    obtain ⟨p1, p2⟩ := put_new (vs := vs) (d := vf d) (no d (List.mem_cons_self ..))
    have ih := dcomp_nd (kf := kf) (vf := vf) ds (ks ++ [kf d]) (vs ++ [vf d]) (fun x hx => h x (List.mem_cons_of_mem _ hx)) n2 (fun x hx m => by
      rcases List.mem_append.mp m with m | m
      · exact no x (List.mem_cons_of_mem _ hx) m
      · exact n1 (by rw [← List.mem_singleton.mp m]; exact List.mem_map_of_mem hx))
    have y1 : yesT ρ' vh = some (true, vh) := rfl
    simp only [dcompL, VL.bind, e1, y1, if_true, e2, e4, e3, p1, p2, ih]
    simp
theorem dc_eq {f : Rho → M (List D)} {g : Tg} {c : Rho → M Bool} {ek ev : Rho → M D} {vs : List Nat} {mk : List Key × List D → M D} {ρ : Rho} {vh vh1 vh2 : VH} {items : List D} {p : List Key × List D} (hf : f ρ vh = some (items, vh1)) (hl : items.length < line)
    (hc : dcompL g c ek ev (wipeR ρ vs) items [] [] vh1 = some (p, vh2)) : dcD f g c ek ev vs mk ρ vh = mk p vh2 := by
  unfold dcD VL.bind
  simp only [hf, if_pos hl, VL.bind, hc]
theorem len_map {α : Type} {f : α → D} {xs : List α} (vh : VH) : lenD [.lst (xs.map f)] vh = some (.int (xs.length : Nat), vh) := by
  rw [len_lst, List.length_map]
theorem rooms_ok {ns : List (List Nat)} (h0 : 0 < ns.length) (h1 : ns.length ≤ 1000) (nd : ns.Nodup) (hn : ∀ l ∈ ns, Nm l) (vh : VH) : d_are_rooms [.lst (ns.map strD')] vh = some (.bl true, vh) := by
  have z := comp_map (g := nameG 1) (e := denA (denC 1 d_is_name) (consA (var 1) nilA)) (ρ := wipeR [some (.lst (ns.map strD')), none] [1]) (vh := vh) (f := fun _ => .bl true) (ns.map strD') (fun d hd => by
    obtain ⟨w, hw, rfl⟩ := of_strs hd
    exact ⟨_, rfl, by simp only [VL.bind, VL.ret, VL.fail, denF, denA, den1, den2, denC, consA, nilA, var, kst, seqS, nopS, ifS, retS, asgS, nameG, subG, dropS, cmpT, valT, andB, orB, notB, toB, ifD, andD, orD, notD, methD, List.map_cons, List.map_nil, List.cons_append, List.nil_append, List.length_cons, List.length_nil, List.replicate, List.getElem?_cons_zero, List.getElem?_cons_succ, List.set_cons_zero, List.set_cons_succ, List.set_nil, List.getElem?_nil, Option.map_some, Option.map_none, Option.bind_some, Option.bind_none, if_true, if_false, Bool.false_eq_true, reduceIte, Nat.reduceAdd, Nat.reduceSub, Int.reduceAdd, Int.reduceNeg, wipeR, name_ok (hn w hw)]⟩)
  have el := lc_eq (f := seqI (var 0)) (mk := still0) (vs := [1]) (ρ := [some (.lst (ns.map strD')), none]) (vh := vh) rfl (by rw [List.length_map]; show _ < 16777216; omega) z
  have al := any_bls_false (ds := (ns.map strD').map fun _ => D.bl true) vh (by simp)
  have z2 := dcomp_nd (g := nameG 1) (ek := var 1) (ev := kst (.bl true)) (ρ := wipeR [some (.lst (ns.map strD')), none] [1]) (vh := vh) (kf := fun d => match d with | .str s => .inr s | _ => .inl 0) (vf := fun _ => .bl true) (ns.map strD') [] [] (fun d hd => by
    obtain ⟨w, hw, rfl⟩ := of_strs hd
    exact ⟨_, strD' w, rfl, by simp only [VL.bind, VL.ret, VL.fail, denF, denA, den1, den2, denC, consA, nilA, var, kst, seqS, nopS, ifS, retS, asgS, nameG, subG, dropS, cmpT, valT, andB, orB, notB, toB, ifD, andD, orD, notD, methD, List.map_cons, List.map_nil, List.cons_append, List.nil_append, List.length_cons, List.length_nil, List.replicate, List.getElem?_cons_zero, List.getElem?_cons_succ, List.set_cons_zero, List.set_cons_succ, List.set_nil, List.getElem?_nil, Option.map_some, Option.map_none, Option.bind_some, Option.bind_none, if_true, if_false, Bool.false_eq_true, reduceIte, Nat.reduceAdd, Nat.reduceSub, Int.reduceAdd, Int.reduceNeg, wipeR], rfl, rfl⟩) (by
      rw [List.map_map]
      exact nd_map (f := ky) (fun a b h => ky_inj h) nd) (by simp)
  have ed := dc_eq (f := seqI (var 0)) (mk := stillD) (vs := [1]) (ρ := [some (.lst (ns.map strD')), none]) (vh := vh) rfl (by rw [List.length_map]; show _ < 16777216; omega) z2
  have ld : ∀ ks vs, lenD [.dct ks vs] vh = some (.int (ks.length : Nat), vh) := fun _ _ => rfl
  have n0 : ((ns.length : Int) == 0) = false := beq_eq_false_iff_ne.mpr (by omega)
  simp only [VL.bind, VL.ret, VL.fail, denF, denA, den1, den2, denC, consA, nilA, var, kst, seqS, nopS, ifS, retS, asgS, nameG, subG, dropS, cmpT, valT, andB, orB, notB, toB, ifD, andD, orD, notD, methD, List.map_cons, List.map_nil, List.cons_append, List.nil_append, List.length_cons, List.length_nil, List.replicate, List.getElem?_cons_zero, List.getElem?_cons_succ, List.set_cons_zero, List.set_cons_succ, List.set_nil, List.getElem?_nil, Option.map_some, Option.map_none, Option.bind_some, Option.bind_none, if_true, if_false, Bool.false_eq_true, reduceIte, Nat.reduceAdd, Nat.reduceSub, Int.reduceAdd, Int.reduceNeg, d_are_rooms, g_are_rooms, list_ok (d := .lst (ns.map strD')) (vh := vh) rfl, isT, Bool.true_or, Bool.not_true, len_map, eq_int, n0, el, still0, al, ed, stillD, ld, List.length_map, beq_self_eq_true]
end K04

namespace K04
open PySem VL L2
theorem val_not : ∀ {ks : List Key} {vs : List D} {j : Key}, j ∉ ks → valD ks vs j = none
  | [], _, _, _ => by unfold valD; rfl
  | k :: ks, [], _, _ => by unfold valD; rfl
  | k :: ks, v :: vs, j, h => by
    rw [List.mem_cons, not_or] at h
    unfold valD
    rw [if_neg (fun e => h.1 e.symm)]
    exact val_not h.2
theorem val_mem : ∀ {ks : List Key} {vs : List D} {j : Key}, j ∈ ks → ks.length = vs.length → (valD ks vs j).isSome = true
  | [], _, _, h, _ => by cases h
  | k :: ks, [], _, _, hl => by cases hl
  | k :: ks, v :: vs, j, h, hl => by
    unfold valD
    by_cases e : k = j
    · rw [if_pos e]
      rfl
    · rw [if_neg e]
      rcases List.mem_cons.mp h with z | z
      · exact absurd z.symm e
      · exact val_mem z (by simpa using hl)
def known (ns : List (List Nat)) : D := .dct (ns.map ky) (ns.map fun _ => .bl true)
/-- a row that the net takes -/
structure RowGood (ns : List (List Nat)) (ax : Int) (r : Row) : Prop where
  nm : Nm r.nm
  st : r.st ∈ ns
  en : r.en ∈ ns
  le : ax = (r.step.length : Nat)
  l1 : r.step.length ≤ 1000
theorem known_ok {ns : List (List Nat)} {l : List Nat} (h : l ∈ ns) (vh : VH) : d_is_key [strD' l, known ns] vh = some (.bl true, vh) := by
  have z := key_ok (l := l) (tb := known ns) (vh := vh) rfl rfl (fun z e => by cases e)
  rw [z]
  have : (valD (ns.map ky) (ns.map fun _ => D.bl true) (.inr (SX.S l))).isSome = true := val_mem (List.mem_map_of_mem (f := ky) h) (by simp)
  rw [this]
theorem tie_ok {ns : List (List Nat)} {ax : Int} {r : Row} (g : RowGood ns ax r) (vh : VH) : d_is_tie [.int ax, known ns, r.d] vh = some (.bl true, vh) := by
  have li : d_is_list [r.d] vh = some (.bl true, vh) := list_ok (d := r.d) (vh := vh) rfl
  have le : lenD [r.d] vh = some (.int 4, vh) := rfl
  have ne : neD (.int 4) (.int 4) vh = some (.bl false, vh) := rfl
  have un : ∀ (a b c d e f h : Option D), unpG 4 (consG (nameG 3) (consG (nameG 4) (consG (nameG 5) (consG (nameG 6) nilG)))) r.d [a, b, c, d, e, f, h] vh = some ([a, b, c, some (strD' r.nm), some (strD' r.st), some (strD' r.en), some (.tup (r.step.map D.int))], vh) := fun _ _ _ _ _ _ _ => rfl
  simp only [VL.bind, VL.ret, VL.fail, denF, denA, den1, den2, denC, consA, nilA, var, kst, seqS, nopS, ifS, retS, asgS, nameG, subG, dropS, cmpT, valT, andB, orB, notB, toB, ifD, andD, orD, notD, methD, List.map_cons, List.map_nil, List.cons_append, List.nil_append, List.length_cons, List.length_nil, List.replicate, List.getElem?_cons_zero, List.getElem?_cons_succ, List.set_cons_zero, List.set_cons_succ, List.set_nil, List.getElem?_nil, Option.map_some, Option.map_none, Option.bind_some, Option.bind_none, if_true, if_false, Bool.false_eq_true, reduceIte, Nat.reduceAdd, Nat.reduceSub, Int.reduceAdd, Int.reduceNeg, d_is_tie, g_is_tie, li, Bool.not_true, le, ne, un, name_ok g.nm, known_ok g.st, known_ok g.en, wholes_ok g.l1 g.le]
theorem rat {vh : VH} {x : Option MO} : (vh ++ [x])[vh.length]? = some x := by simp
theorem rset {vh : VH} {x y : Option MO} : (vh ++ [x]).set vh.length y = vh ++ [y] := by simp
def fB : Bk := seqS (ifS (orB (notB (valT (denA (denC 3 d_is_tie) (consA (var 0) (consA (var 4) (consA (var 7) nilA)))))) (orB (cmpT inD (den2 ixD (var 7) (kst (.int 0))) (var 2)) (cmpT inD (den2 ixD (var 7) (kst (.int 0))) (var 5))))
  (retS (var 6)) nopS)
  (asgS (kst (.bl true)) (subG (var 5) (den2 ixD (var 7) (kst (.int 0)))))
def fG : Tg := unpG 2 (consG (nameG 6) (consG (nameG 7) nilG))
theorem g_first : g_first_no_tie = seqS (ifS (notB (valT (denA (denC 1 d_is_list) (consA (var 3) nilA)))) (retS (kst (.int 0))) nopS)
  (seqS (asgS (dcD (seqI (var 1)) (nameG 8) yesT (var 8) (kst (.bl true)) [8] stillD) (nameG 4))
  (seqS (asgS (fun _ => freshD ([], [])) (nameG 5)) (seqS (forS (argI enumIt (consA (var 3) nilA)) fG fB) (retS (kst .non))))) := rfl
theorem enum_row {xs : List D} {i : Nat} {d : D} (h : (enumL xs)[i]? = some d) : ∃ x, xs[i]? = some x ∧ d = .tup [.int (i : Nat), x] := by
  unfold enumL pairL at h
  rw [List.getElem?_map] at h
  obtain ⟨p, hp, rfl⟩ := Option.map_eq_some_iff.mp h
  obtain ⟨h1, h2⟩ := List.getElem?_zip_eq_some.mp hp
  rw [List.getElem?_map] at h1
  obtain ⟨j, hj, e1⟩ := Option.map_eq_some_iff.mp h1
  have : j = i := by
    obtain ⟨hl, ej⟩ := List.getElem?_eq_some_iff.mp hj
    simp at ej
    exact ej.symm
  subst this
  exact ⟨_, h2, by rw [← e1]⟩
theorem first_body {ns : List (List Nat)} {ax : Int} {r : Row} (g : RowGood ns ax r) (vh : VH) (ks : List Key) (hk : ky r.nm ∉ ks) (hl : ks.length ≤ 1000) (x1 x3 x6 x8 : Option D) :
    fB [some (.int ax), x1, some (.dct [] []), x3, some (known ns), some (.ref vh.length), x6, some r.d, x8] (vh ++ [some (.dct ks (ks.map fun _ => .bl true))]) =
      some (.nx [some (.int ax), x1, some (.dct [] []), x3, some (known ns), some (.ref vh.length), x6, some r.d, x8], vh ++ [some (.dct (ks ++ [ky r.nm]) ((ks ++ [ky r.nm]).map fun _ => .bl true))]) := by
  have i0 : ∀ w, ixD r.d (.int 0) w = some (strD' r.nm, w) := fun _ => rfl
  have n1 : ∀ w, inD (strD' r.nm) (.dct [] []) w = some (.bl false, w) := fun _ => rfl
  have n2 : inD (strD' r.nm) (.ref vh.length) (vh ++ [some (.dct ks (ks.map fun _ => .bl true))]) = some (.bl false, vh ++ [some (.dct ks (ks.map fun _ => .bl true))]) := by
    have s0 : seqV (vh ++ [some (.dct ks (ks.map fun _ => .bl true))]) (.ref vh.length) = none := by
      show lstAt _ = _
      rw [rat]
      rfl
    have s1 : dctV (vh ++ [some (.dct ks (ks.map fun _ => .bl true))]) (.ref vh.length) = some (ks, ks.map fun _ => .bl true) := by
      show dctRd _ = _
      rw [rat]
      rfl
    have s2 : inRes (vh ++ [some (.dct ks (ks.map fun _ => .bl true))]) (strD' r.nm) (.ref vh.length) = some (valD ks (ks.map fun _ => .bl true) (ky r.nm)).isSome := by
      unfold inRes
      simp only [s0, s1]
      rfl
    unfold inD
    rw [s2, val_not hk]
    rfl
  have st : setD (.ref vh.length) (strD' r.nm) (.bl true) (vh ++ [some (.dct ks (ks.map fun _ => .bl true))]) = some (.non, vh ++ [some (.dct (ks ++ [ky r.nm]) ((ks ++ [ky r.nm]).map fun _ => .bl true))]) := by
    obtain ⟨p1, p2⟩ := put_new (vs := ks.map fun _ => D.bl true) (d := .bl true) hk
    unfold setD
    simp only [rat, lstAt, dctAt]
    show (if ks.length < line then some (D.non, (vh ++ [some (MO.dct ks (ks.map fun _ => .bl true))]).set vh.length (some (.dct (putKs ks (ky r.nm)) (putVs ks (ks.map fun _ => .bl true) (ky r.nm) (.bl true))))) else none) = _
    rw [if_pos (by show _ < 16777216; omega), rset, p1, p2]
    simp
  simp only [VL.bind, VL.ret, VL.fail, denF, denA, den1, den2, denC, consA, nilA, var, kst, seqS, nopS, ifS, retS, asgS, nameG, subG, dropS, cmpT, valT, andB, orB, notB, toB, ifD, andD, orD, notD, methD, List.map_cons, List.map_nil, List.cons_append, List.nil_append, List.length_cons, List.length_nil, List.replicate, List.getElem?_cons_zero, List.getElem?_cons_succ, List.set_cons_zero, List.set_cons_succ, List.set_nil, List.getElem?_nil, Option.map_some, Option.map_none, Option.bind_some, Option.bind_none, if_true, if_false, Bool.false_eq_true, reduceIte, Nat.reduceAdd, Nat.reduceSub, Int.reduceAdd, Int.reduceNeg, fB, tie_ok g, Bool.not_true, i0, n1, n2, st]
theorem first_ok {ns : List (List Nat)} {ax : Int} {R : List Row} (nd : ns.Nodup) (hns : ns.length ≤ 1000) (hR : R.length ≤ 1000) (ndR : (R.map Row.nm).Nodup) (g : ∀ r ∈ R, RowGood ns ax r) (vh : VH) :
    ∃ ks, d_first_no_tie [.int ax, .lst (ns.map strD'), .dct [] [], .lst (R.map Row.d)] vh = some (.non, vh ++ [some (.dct ks (ks.map fun _ => .bl true))]) := by
  have z2 := dcomp_nd (g := nameG 8) (ek := var 8) (ev := kst (.bl true)) (ρ := wipeR [some (.int ax), some (.lst (ns.map strD')), some (.dct [] []), some (.lst (R.map Row.d)), none, none, none, none, none] [8]) (vh := vh) (kf := fun d => match d with | .str s => .inr s | _ => .inl 0) (vf := fun _ => .bl true) (ns.map strD') [] [] (fun d hd => by
    obtain ⟨w, hw, rfl⟩ := of_strs hd
    exact ⟨_, strD' w, rfl, by simp only [VL.bind, VL.ret, VL.fail, denF, denA, den1, den2, denC, consA, nilA, var, kst, seqS, nopS, ifS, retS, asgS, nameG, subG, dropS, cmpT, valT, andB, orB, notB, toB, ifD, andD, orD, notD, methD, List.map_cons, List.map_nil, List.cons_append, List.nil_append, List.length_cons, List.length_nil, List.replicate, List.getElem?_cons_zero, List.getElem?_cons_succ, List.set_cons_zero, List.set_cons_succ, List.set_nil, List.getElem?_nil, Option.map_some, Option.map_none, Option.bind_some, Option.bind_none, if_true, if_false, Bool.false_eq_true, reduceIte, Nat.reduceAdd, Nat.reduceSub, Int.reduceAdd, Int.reduceNeg, wipeR], rfl, rfl⟩) (by
      rw [List.map_map]
      exact nd_map (f := ky) (fun a b h => ky_inj h) nd) (by simp)
  have ed := dc_eq (f := seqI (var 1)) (mk := stillD) (vs := [8]) (ρ := [some (.int ax), some (.lst (ns.map strD')), some (.dct [] []), some (.lst (R.map Row.d)), none, none, none, none, none]) (vh := vh) rfl (by rw [List.length_map]; show _ < 16777216; omega) z2
  have ek : stillD ([] ++ (ns.map strD').map (fun d => match d with | .str s => (.inr s : Key) | _ => .inl 0), [] ++ (ns.map strD').map fun _ => D.bl true) = VL.ret (known ns) := by
    rw [List.map_map, List.map_map]
    rfl
  rw [ek] at ed
  obtain ⟨ρ', vh', e, a, b, rfl, rfl⟩ := for_inv (g := fG) (b := fB) (items := enumL (R.map Row.d)) (ρ := [some (.int ax), some (.lst (ns.map strD')), some (.dct [] []), some (.lst (R.map Row.d)), some (known ns), some (.ref vh.length), none, none, none]) (vh := vh ++ [some (.dct [] [])])
    (fun i ρ w => ∃ (a b : Option D), ρ = [some (.int ax), some (.lst (ns.map strD')), some (.dct [] []), some (.lst (R.map Row.d)), some (known ns), some (.ref vh.length), a, b, none] ∧ w = vh ++ [some (.dct ((R.take i).map fun r => ky r.nm) (((R.take i).map fun r => ky r.nm).map fun _ => .bl true))])
    ⟨none, none, rfl, rfl⟩ (fun i d ρ w hd ⟨a, b, e1, e2⟩ => by
      subst e1 e2
      obtain ⟨x, hx, rfl⟩ := enum_row hd
      rw [List.getElem?_map] at hx
      obtain ⟨r, hr, rfl⟩ := Option.map_eq_some_iff.mp hx
      have hi : i < R.length := (List.getElem?_eq_some_iff.mp hr).1
      have hk : ky r.nm ∉ (R.take i).map fun r => ky r.nm := fun m => by
        obtain ⟨y, hy, e⟩ := List.mem_map.mp m
        obtain ⟨j, hj⟩ := List.mem_iff_getElem?.mp hy
        rw [List.getElem?_take] at hj
        split at hj
        · have e := ky_inj e
          have p1 : (R.map Row.nm)[j]? = some y.nm := by rw [List.getElem?_map, hj]; rfl
          have p2 : (R.map Row.nm)[i]? = some r.nm := by rw [List.getElem?_map, hr]; rfl
          obtain ⟨q1, q2⟩ := List.getElem?_eq_some_iff.mp p1
          obtain ⟨q3, q4⟩ := List.getElem?_eq_some_iff.mp p2
          exact List.pairwise_iff_getElem.mp ndR j i q1 q3 (by assumption) (by rw [q2, q4, e])
        · cases hj
      have f := first_body (g r (List.mem_of_getElem? hr)) vh ((R.take i).map fun r => ky r.nm) hk (by rw [List.length_map, List.length_take]; omega) (some (.lst (ns.map strD'))) (some (.lst (R.map Row.d))) (some (.int (i : Nat))) none
      refine ⟨_, _, _, rfl, f, some (.int (i : Nat)), some r.d, rfl, ?_⟩
      rw [List.take_add_one, hr]
      simp)
  refine ⟨(R.take (enumL (R.map Row.d)).length).map fun r => ky r.nm, denF_rt ?_⟩
  rw [g_first]
  have s1 : (ifS (notB (valT (denA (denC 1 d_is_list) (consA (var 3) nilA)))) (retS (kst (.int 0))) nopS) [some (.int ax), some (.lst (ns.map strD')), some (.dct [] []), some (.lst (R.map Row.d)), none, none, none, none, none] vh = some (.nx [some (.int ax), some (.lst (ns.map strD')), some (.dct [] []), some (.lst (R.map Row.d)), none, none, none, none, none], vh) := by
    simp only [VL.bind, VL.ret, VL.fail, denF, denA, den1, den2, denC, consA, nilA, var, kst, seqS, nopS, ifS, retS, asgS, nameG, subG, dropS, cmpT, valT, andB, orB, notB, toB, ifD, andD, orD, notD, methD, List.map_cons, List.map_nil, List.cons_append, List.nil_append, List.length_cons, List.length_nil, List.replicate, List.getElem?_cons_zero, List.getElem?_cons_succ, List.set_cons_zero, List.set_cons_succ, List.set_nil, List.getElem?_nil, Option.map_some, Option.map_none, Option.bind_some, Option.bind_none, if_true, if_false, Bool.false_eq_true, reduceIte, Nat.reduceAdd, Nat.reduceSub, Int.reduceAdd, Int.reduceNeg, list_ok (d := .lst (R.map Row.d)) (vh := vh) rfl, isT, Bool.true_or, Bool.not_true]
  have s2 : (asgS (dcD (seqI (var 1)) (nameG 8) yesT (var 8) (kst (.bl true)) [8] stillD) (nameG 4)) [some (.int ax), some (.lst (ns.map strD')), some (.dct [] []), some (.lst (R.map Row.d)), none, none, none, none, none] vh = some (.nx [some (.int ax), some (.lst (ns.map strD')), some (.dct [] []), some (.lst (R.map Row.d)), some (known ns), none, none, none, none], vh) := by
    have ed' : dcD (seqI (var 1)) (nameG 8) yesT (var 8) (kst (.bl true)) [8] stillD [some (.int ax), some (.lst (ns.map strD')), some (.dct [] []), some (.lst (R.map Row.d)), none, none, none, none, none] vh = some (known ns, vh) := ed
    simp only [VL.bind, VL.ret, VL.fail, denF, denA, den1, den2, denC, consA, nilA, var, kst, seqS, nopS, ifS, retS, asgS, nameG, subG, dropS, cmpT, valT, andB, orB, notB, toB, ifD, andD, orD, notD, methD, List.map_cons, List.map_nil, List.cons_append, List.nil_append, List.length_cons, List.length_nil, List.replicate, List.getElem?_cons_zero, List.getElem?_cons_succ, List.set_cons_zero, List.set_cons_succ, List.set_nil, List.getElem?_nil, Option.map_some, Option.map_none, Option.bind_some, Option.bind_none, if_true, if_false, Bool.false_eq_true, reduceIte, Nat.reduceAdd, Nat.reduceSub, Int.reduceAdd, Int.reduceNeg, ed']
  have s3 : (asgS (fun _ => freshD ([], [])) (nameG 5)) [some (.int ax), some (.lst (ns.map strD')), some (.dct [] []), some (.lst (R.map Row.d)), some (known ns), none, none, none, none] vh = some (.nx [some (.int ax), some (.lst (ns.map strD')), some (.dct [] []), some (.lst (R.map Row.d)), some (known ns), some (.ref vh.length), none, none, none], vh ++ [some (.dct [] [])]) := rfl
  refine (sq s1).trans ((sq s2).trans ((sq s3).trans ?_))
  refine (sq (ρ' := [some (.int ax), some (.lst (ns.map strD')), some (.dct [] []), some (.lst (R.map Row.d)), some (known ns), some (.ref vh.length), a, b, none]) ?_).trans rfl
  unfold forS
  exact e
end K04

namespace K04
open PySem VL L2
theorem putF_new {f : Str} {d : D} : ∀ {ks : List Str} {vs : List D}, f ∉ ks → ks.length = vs.length → putFn ks f = ks ++ [f] ∧ putFv ks vs f d = vs ++ [d]
  | [], [], _, _ => ⟨rfl, rfl⟩
  | [], _ :: _, _, h => by cases h
  | _ :: _, [], _, h => by cases h
  | k :: ks, v :: vs, h, hl => by
    rw [List.mem_cons, not_or] at h
    have ih := putF_new (d := d) (ks := ks) (vs := vs) h.2 (by simpa using hl)
    have n : ¬ k = f := fun e => h.1 e.symm
    unfold putFn putFv
    rw [if_neg n, if_neg n, ih.1, ih.2]
    exact ⟨rfl, rfl⟩
theorem atv {vh u : VH} {x : Option MO} : (vh ++ x :: u)[vh.length]? = some x := by simp
theorem setv {vh u : VH} {x y : Option MO} : (vh ++ x :: u).set vh.length y = vh ++ y :: u := by simp
theorem setF {vh u : VH} {ks : List Str} {vs : List D} {f : Str} {d : D} (h : f ∉ ks) (hl : ks.length = vs.length) (h2 : ks.length < 1000) :
    setFD 0 f (.ref vh.length) d (vh ++ some (.obj 0 ks vs) :: u) = some (.non, vh ++ some (.obj 0 (ks ++ [f]) (vs ++ [d])) :: u) := by
  obtain ⟨p1, p2⟩ := putF_new (d := d) h hl
  unfold setFD
  simp only [atv, objAt, if_true, if_pos h2, setv, p1, p2]
def netD (ax : Int) (ns : List (List Nat)) (R : List Row) : D := .obj 0 ["axes", "_rooms", "_ties", "_named"] [.int ax, .tup (ns.map strD'), .tup (R.map Row.d), .dct (R.map fun r => ky r.nm) (R.map Row.d)]
def netO (ax : Int) (ns : List (List Nat)) (R : List Row) : MO := .obj 0 ["axes", "_rooms", "_ties", "_named"] [.int ax, .tup (ns.map strD'), .tup (R.map Row.d), .dct (R.map fun r => ky r.nm) (R.map Row.d)]
theorem tup_lst (xs : List D) (vh : VH) : tupleD [.lst xs] vh = some (.tup xs, vh) := rfl
theorem tup_tup (xs : List D) (vh : VH) : tupleD [.tup xs] vh = some (.tup xs, vh) := rfl
theorem mkTup4 (a b c d : D) : mkTup [a, b, c, d] = VL.ret (.tup [a, b, c, d]) := rfl
theorem mkTup3 (a b c : D) : mkTup [a, b, c] = VL.ret (.tup [a, b, c]) := rfl
theorem init_ok {ns : List (List Nat)} {ax : Int} {R : List Row} (a0 : 0 ≤ ax) (a1 : ax ≤ 4) (n0 : 0 < ns.length) (hns : ns.length ≤ 1000) (nd : ns.Nodup) (hn : ∀ l ∈ ns, Nm l) (hR : R.length ≤ 1000) (ndR : (R.map Row.nm).Nodup) (g : ∀ r ∈ R, RowGood ns ax r) (vh : VH) :
    ∃ u, d_Net___init__ [.ref vh.length, .int ax, .lst (ns.map strD'), .lst (R.map Row.d)] (vh ++ [some (.obj 0 [] [])]) =
      some (.non, vh ++ some (.obj 0 ["axes", "_rooms", "_ties", "_named"] [.int ax, .tup (ns.map strD'), .tup (R.map Row.d), .dct (R.map fun r => ky r.nm) (R.map Row.d)]) :: u) := by
  obtain ⟨ks, ef⟩ := first_ok nd hns hR ndR g (vh ++ [some (.obj 0 [] [])])
  refine ⟨[some (.dct ks (ks.map fun _ => .bl true))], ?_⟩
  have ef : d_first_no_tie [.int ax, .lst (ns.map strD'), .dct [] [], .lst (R.map Row.d)] (vh ++ [some (.obj 0 [] [])]) = some (.non, vh ++ some (.obj 0 [] []) :: [some (.dct ks (ks.map fun _ => .bl true))]) := by
    rw [ef]
    simp
  have sd : stillD ([], []) = VL.ret (.dct [] []) := rfl
  have isn : isNotD .non .non = VL.ret (.bl false) := rfl
  have f1 := setF (vh := vh) (u := [some (.dct ks (ks.map fun _ => .bl true))]) (ks := []) (vs := []) (f := "axes") (d := .int ax) (by simp) rfl (by decide)
  have f2 := setF (vh := vh) (u := [some (.dct ks (ks.map fun _ => .bl true))]) (ks := ["axes"]) (vs := [.int ax]) (f := "_rooms") (d := .tup (ns.map strD')) (by decide +kernel) rfl (by decide)
  have f3 := setF (vh := vh) (u := [some (.dct ks (ks.map fun _ => .bl true))]) (ks := ["axes", "_rooms"]) (vs := [.int ax, .tup (ns.map strD')]) (f := "_ties") (d := .tup (R.map Row.d)) (by decide +kernel) rfl (by decide)
  have f4 := setF (vh := vh) (u := [some (.dct ks (ks.map fun _ => .bl true))]) (ks := ["axes", "_rooms", "_ties"]) (vs := [.int ax, .tup (ns.map strD'), .tup (R.map Row.d)]) (f := "_named") (d := .dct (R.map fun r => ky r.nm) (R.map Row.d)) (by decide +kernel) rfl (by decide)
  simp only [List.nil_append, List.cons_append] at f1 f2 f3 f4
  have ff : fldD 0 "_ties" (.ref vh.length) (vh ++ some (.obj 0 ["axes", "_rooms", "_ties"] [.int ax, .tup (ns.map strD'), .tup (R.map Row.d)]) :: [some (.dct ks (ks.map fun _ => .bl true))]) = some (.tup (R.map Row.d), vh ++ some (.obj 0 ["axes", "_rooms", "_ties"] [.int ax, .tup (ns.map strD'), .tup (R.map Row.d)]) :: [some (.dct ks (ks.map fun _ => .bl true))]) := by
    have lk : lookupF ["axes", "_rooms", "_ties"] [.int ax, .tup (ns.map strD'), .tup (R.map Row.d)] "_ties" = some (.tup (R.map Row.d)) := by
      unfold lookupF
      rw [if_neg (by decide +kernel)]
      unfold lookupF
      rw [if_neg (by decide +kernel)]
      unfold lookupF
      rw [if_pos rfl]
    unfold fldD
    simp only [objV, atv, objAt, if_true, lk, Option.map_some]
  -- the ties once more, and by their names
  have z1 := comp_map (g := unpG 4 (consG (nameG 6) (consG (nameG 7) (consG (nameG 8) (consG (nameG 9) nilG))))) (e := denA mkTup (consA (var 6) (consA (var 7) (consA (var 8) (consA (denA tupleD (consA (var 9) nilA)) nilA)))))
    (ρ := wipeR [some (.ref vh.length), some (.int ax), some (.lst (ns.map strD')), some (.lst (R.map Row.d)), some .non, none, none, none, none, none] [6, 7, 8, 9]) (vh := vh ++ some (.obj 0 ["axes", "_rooms"] [.int ax, .tup (ns.map strD')]) :: [some (.dct ks (ks.map fun _ => .bl true))]) (f := fun d => d) (R.map Row.d) (fun d hd => by
      obtain ⟨r, hr, rfl⟩ := List.mem_map.mp hd
      refine ⟨[some (.ref vh.length), some (.int ax), some (.lst (ns.map strD')), some (.lst (R.map Row.d)), some .non, none, some (strD' r.nm), some (strD' r.st), some (strD' r.en), some (.tup (r.step.map D.int))], rfl, ?_⟩
      simp only [VL.bind, VL.ret, VL.fail, denF, denA, den1, den2, denC, consA, nilA, var, kst, seqS, nopS, ifS, retS, asgS, nameG, subG, dropS, cmpT, valT, andB, orB, notB, toB, ifD, andD, orD, notD, methD, List.map_cons, List.map_nil, List.cons_append, List.nil_append, List.length_cons, List.length_nil, List.replicate, List.getElem?_cons_zero, List.getElem?_cons_succ, List.set_cons_zero, List.set_cons_succ, List.set_nil, List.getElem?_nil, Option.map_some, Option.map_none, Option.bind_some, Option.bind_none, if_true, if_false, Bool.false_eq_true, reduceIte, Nat.reduceAdd, Nat.reduceSub, Int.reduceAdd, Int.reduceNeg, tup_tup, mkTup4]
      rfl)
  rw [List.map_id'] at z1
  have e1 := lc_eq (f := seqI (var 3)) (mk := still0) (vs := [6, 7, 8, 9]) (ρ := [some (.ref vh.length), some (.int ax), some (.lst (ns.map strD')), some (.lst (R.map Row.d)), some .non, none, none, none, none, none]) (vh := vh ++ some (.obj 0 ["axes", "_rooms"] [.int ax, .tup (ns.map strD')]) :: [some (.dct ks (ks.map fun _ => .bl true))]) rfl (by rw [List.length_map]; show _ < 16777216; omega) z1
  have z2 := dcomp_nd (g := nameG 5) (ek := den2 ixD (var 5) (kst (.int 0))) (ev := var 5) (ρ := wipeR [some (.ref vh.length), some (.int ax), some (.lst (ns.map strD')), some (.lst (R.map Row.d)), some .non, none, none, none, none, none] [5]) (vh := vh ++ some (.obj 0 ["axes", "_rooms", "_ties"] [.int ax, .tup (ns.map strD'), .tup (R.map Row.d)]) :: [some (.dct ks (ks.map fun _ => .bl true))])
    (kf := fun d => match d with | .tup (.str s :: _) => .inr s | _ => .inl 0) (vf := fun d => d) (R.map Row.d) [] [] (fun d hd => by
      obtain ⟨r, hr, rfl⟩ := List.mem_map.mp hd
      have i0 : ∀ w, ixD r.d (.int 0) w = some (strD' r.nm, w) := fun _ => rfl
      exact ⟨[some (.ref vh.length), some (.int ax), some (.lst (ns.map strD')), some (.lst (R.map Row.d)), some .non, some r.d, none, none, none, none], strD' r.nm, rfl, by simp only [VL.bind, VL.ret, VL.fail, denF, denA, den1, den2, denC, consA, nilA, var, kst, seqS, nopS, ifS, retS, asgS, nameG, subG, dropS, cmpT, valT, andB, orB, notB, toB, ifD, andD, orD, notD, methD, List.map_cons, List.map_nil, List.cons_append, List.nil_append, List.length_cons, List.length_nil, List.replicate, List.getElem?_cons_zero, List.getElem?_cons_succ, List.set_cons_zero, List.set_cons_succ, List.set_nil, List.getElem?_nil, Option.map_some, Option.map_none, Option.bind_some, Option.bind_none, if_true, if_false, Bool.false_eq_true, reduceIte, Nat.reduceAdd, Nat.reduceSub, Int.reduceAdd, Int.reduceNeg, i0], rfl, rfl⟩) (by
      rw [List.map_map]
      have : (R.map ((fun d => match d with | .tup (.str s :: _) => (.inr s : Key) | _ => .inl 0) ∘ Row.d)) = (R.map Row.nm).map ky := by rw [List.map_map]; rfl
      rw [this]
      exact nd_map (fun a b h => ky_inj h) ndR) (by simp)
  have e2 := dc_eq (f := seqI (den1 (fldD 0 "_ties") (var 0))) (mk := stillD) (vs := [5]) (ρ := [some (.ref vh.length), some (.int ax), some (.lst (ns.map strD')), some (.lst (R.map Row.d)), some .non, none, none, none, none, none]) (vh := vh ++ some (.obj 0 ["axes", "_rooms", "_ties"] [.int ax, .tup (ns.map strD'), .tup (R.map Row.d)]) :: [some (.dct ks (ks.map fun _ => .bl true))]) (by simp only [VL.bind, VL.ret, VL.fail, denF, denA, den1, den2, denC, consA, nilA, var, kst, seqS, nopS, ifS, retS, asgS, nameG, subG, dropS, cmpT, valT, andB, orB, notB, toB, ifD, andD, orD, notD, methD, List.map_cons, List.map_nil, List.cons_append, List.nil_append, List.length_cons, List.length_nil, List.replicate, List.getElem?_cons_zero, List.getElem?_cons_succ, List.set_cons_zero, List.set_cons_succ, List.set_nil, List.getElem?_nil, Option.map_some, Option.map_none, Option.bind_some, Option.bind_none, if_true, if_false, Bool.false_eq_true, reduceIte, Nat.reduceAdd, Nat.reduceSub, Int.reduceAdd, Int.reduceNeg, seqI, ff, seqIt]) (by rw [List.length_map]; show _ < 16777216; omega) z2
  have e3 : stillD ([] ++ (R.map Row.d).map (fun d => match d with | .tup (.str s :: _) => (.inr s : Key) | _ => .inl 0), [] ++ (R.map Row.d).map fun d => d) = VL.ret (.dct (R.map fun r => ky r.nm) (R.map Row.d)) := by
    rw [List.map_map, List.map_id']
    rfl
  rw [e3] at e2
  simp only [VL.bind, VL.ret, VL.fail, denF, denA, den1, den2, denC, consA, nilA, var, kst, seqS, nopS, ifS, retS, asgS, nameG, subG, dropS, cmpT, valT, andB, orB, notB, toB, ifD, andD, orD, notD, methD, List.map_cons, List.map_nil, List.cons_append, List.nil_append, List.length_cons, List.length_nil, List.replicate, List.getElem?_cons_zero, List.getElem?_cons_succ, List.set_cons_zero, List.set_cons_succ, List.set_nil, List.getElem?_nil, Option.map_some, Option.map_none, Option.bind_some, Option.bind_none, if_true, if_false, Bool.false_eq_true, reduceIte, Nat.reduceAdd, Nat.reduceSub, Int.reduceAdd, Int.reduceNeg, d_Net___init__, g_Net___init__, between_int a0 a1, Bool.not_true, rooms_ok n0 hns nd hn, sd, ef, isn, fldS, f1, tup_lst, f2, e1, still0, f3, e2, f4]
theorem made_ok {ns : List (List Nat)} {ax : Int} {R : List Row} (a0 : 0 ≤ ax) (a1 : ax ≤ 4) (n0 : 0 < ns.length) (hns : ns.length ≤ 1000) (nd : ns.Nodup) (hn : ∀ l ∈ ns, Nm l) (hR : R.length ≤ 1000) (ndR : (R.map Row.nm).Nodup) (g : ∀ r ∈ R, RowGood ns ax r) (s : SS) (t : VH) :
    ∃ t', d__law_n_made [.tup [.int ax, .lst (ns.map strD'), .lst (R.map Row.d)]] (s.vh t) = some (netD ax ns R, s.vh t') := by
  obtain ⟨u, e⟩ := init_ok a0 a1 n0 hns nd hn hR ndR g (s.vh t)
  refine ⟨t ++ none :: u, ?_⟩
  have i0 : ∀ w, ixD (.tup [.int ax, .lst (ns.map strD'), .lst (R.map Row.d)]) (.int 0) w = some (.int ax, w) := fun _ => rfl
  have i1 : ∀ w, ixD (.tup [.int ax, .lst (ns.map strD'), .lst (R.map Row.d)]) (.int 1) w = some (.lst (ns.map strD'), w) := fun _ => rfl
  have i2 : ∀ w, ixD (.tup [.int ax, .lst (ns.map strD'), .lst (R.map Row.d)]) (.int 2) w = some (.lst (R.map Row.d), w) := fun _ => rfl
  have em : mkD 0 4 d_Net___init__ [.int ax, .lst (ns.map strD'), .lst (R.map Row.d)] (s.vh t) = some (netD ax ns R, s.vh (t ++ none :: u)) := by
    have dn : denC 4 d_Net___init__ [.ref (s.vh t).length, .int ax, .lst (ns.map strD'), .lst (R.map Row.d)] = d_Net___init__ [.ref (s.vh t).length, .int ax, .lst (ns.map strD'), .lst (R.map Row.d)] := if_pos rfl
    unfold mkD
    rw [dn, e]
    show (match (s.vh t ++ some (netO ax ns R) :: u)[(s.vh t).length]? with
      | some (some o) => (stillO o).map fun d => (d, List.set (s.vh t ++ some (netO ax ns R) :: u) (s.vh t).length none)
      | _ => none) = _
    rw [atv]
    show some (netD ax ns R, List.set _ _ _) = _
    rw [setv]
    rfl
  simp only [VL.bind, VL.ret, VL.fail, denF, denA, den1, den2, denC, consA, nilA, var, kst, seqS, nopS, ifS, retS, asgS, nameG, subG, dropS, cmpT, valT, andB, orB, notB, toB, ifD, andD, orD, notD, methD, List.map_cons, List.map_nil, List.cons_append, List.nil_append, List.length_cons, List.length_nil, List.replicate, List.getElem?_cons_zero, List.getElem?_cons_succ, List.set_cons_zero, List.set_cons_succ, List.set_nil, List.getElem?_nil, Option.map_some, Option.map_none, Option.bind_some, Option.bind_none, if_true, if_false, Bool.false_eq_true, reduceIte, Nat.reduceAdd, Nat.reduceSub, Int.reduceAdd, Int.reduceNeg, d__law_n_made, g__law_n_made, i0, i1, i2, em]
end K04

namespace K04
open PySem VL L2
def planD (ax : Int) (ns : List (List Nat)) (R : List Row) : D := .tup [.int ax, .lst (ns.map strD'), .lst (R.map Row.d)]
theorem pl0 {ax : Int} {ns : List (List Nat)} {R : List Row} (w : VH) : ixD (planD ax ns R) (.int 0) w = some (.int ax, w) := rfl
theorem pl1 {ax : Int} {ns : List (List Nat)} {R : List Row} (w : VH) : ixD (planD ax ns R) (.int 1) w = some (.lst (ns.map strD'), w) := rfl
theorem pl2 {ax : Int} {ns : List (List Nat)} {R : List Row} (w : VH) : ixD (planD ax ns R) (.int 2) w = some (.lst (R.map Row.d), w) := rfl
theorem rw0 {r : Row} (w : VH) : ixD r.d (.int 0) w = some (strD' r.nm, w) := rfl
theorem rw1 {r : Row} (w : VH) : ixD r.d (.int 1) w = some (strD' r.st, w) := rfl
theorem rw2 {r : Row} (w : VH) : ixD r.d (.int 2) w = some (strD' r.en, w) := rfl
theorem rw3 {r : Row} (w : VH) : ixD r.d (.int 3) w = some (.tup (r.step.map D.int), w) := rfl
/-! ### comparing texts and rows -/
theorem sg_small : ∀ c ∈ Sg, c < 0x110000 := by decide +kernel
theorem strOk_nm {l : List Nat} (h : Nm l) : PyData.strOk (SX.S l) = true := by
  show l.toArray.all (fun c => decide (c < 0x110000)) = true
  rw [List.all_toArray, List.all_eq_true]
  exact fun c hc => decide_eq_true (sg_small c (h.ok c hc))
theorem shaped_nm {l : List Nat} (h : Nm l) : SeqAt.shaped (.str (SX.S l)) = true := by
  have a : PyData.canLay0 (.str (SX.S l)) = true := strOk_nm h
  have b : PyData.depth (.str (SX.S l)) = 0 := by rw [PyData.depth]
  unfold SeqAt.shaped
  rw [a, b]
  rfl
theorem eq_str {a b : List Nat} (ha : Nm a) (hb : Nm b) (w : VH) : eqD (strD' a) (strD' b) w = some (.bl (decide (a = b)), w) := by
  have e : eqPy w (strD' a) (strD' b) = some (decide (a = b)) := by
    have t1 : topPy w (strD' a) = some (.str (SX.S a)) := rfl
    have t2 : topPy w (strD' b) = some (.str (SX.S b)) := rfl
    unfold eqPy
    simp only [t1, t2, shaped_nm ha, shaped_nm hb, Bool.and_self, if_true]
    show some (SX.S a == SX.S b) = _
    congr 1
    by_cases h : a = b
    · subst h
      simp
    · rw [decide_eq_false h]
      exact beq_eq_false_iff_ne.mpr fun e => h (SX.S_inj e)
  unfold eqD
  rw [e]
theorem ne_str {a b : List Nat} (ha : Nm a) (hb : Nm b) (w : VH) : neD (strD' a) (strD' b) w = some (.bl (!decide (a = b)), w) := by
  have e := eq_str ha hb w
  unfold eqD at e
  unfold neD
  cases h : eqPy w (strD' a) (strD' b) with
  | none => rw [h] at e; cases e
  | some r =>
    rw [h] at e
    injection e with e
    injection e with e1 e2
    injection e1 with e1
    rw [e1]
/-- a row whose texts are names -/
structure RowNm (r : Row) : Prop where
  nm : Nm r.nm
  st : Nm r.st
  en : Nm r.en
def pyRow (r : Row) : PyData := .tuple [.str (SX.S r.nm), .str (SX.S r.st), .str (SX.S r.en), .tuple (r.step.map PyData.int)]
theorem toPy_row (r : Row) : toPy r.d = some (pyRow r) := by
  have e : toPys [strD' r.nm, strD' r.st, strD' r.en, .tup (r.step.map D.int)] = some [.str (SX.S r.nm), .str (SX.S r.st), .str (SX.S r.en), .tuple (r.step.map PyData.int)] := by
    have e4 : toPy (.tup (r.step.map D.int)) = some (.tuple (r.step.map PyData.int)) := by
      unfold toPy
      rw [toPys_ints]
      rfl
    unfold toPys strD' toPy
    unfold toPys toPy
    unfold toPys toPy
    unfold toPys
    rw [e4]
    unfold toPys
    rfl
  unfold Row.d toPy
  rw [e]
  rfl
theorem toPys_rows : ∀ rs : List Row, toPys (rs.map Row.d) = some (rs.map pyRow)
  | [] => by unfold toPys; rfl
  | r :: rs => by
    rw [List.map_cons]
    unfold toPys
    rw [toPy_row, toPys_rows rs]
    rfl
theorem lay_row {r : Row} (h : RowNm r) : PyData.canLay0 (pyRow r) = true ∧ PyData.depth (pyRow r) = 2 := by
  constructor
  · unfold pyRow
    simp only [PyData.canLay0, PyData.canLayAll0, strOk_nm h.nm, strOk_nm h.st, strOk_nm h.en, canLay_ints, Bool.and_self]
  · unfold pyRow
    simp only [PyData.depth, PyData.depthAll, depth_ints]
    rfl
theorem lay_rows : ∀ {rs : List Row}, (∀ r ∈ rs, RowNm r) → PyData.canLayAll0 (rs.map pyRow) = true ∧ PyData.depthAll (rs.map pyRow) ≤ 2
  | [], _ => ⟨by simp [PyData.canLayAll0], by simp [PyData.depthAll]⟩
  | r :: rs, h => by
    obtain ⟨a, b⟩ := lay_row (h r (List.mem_cons_self ..))
    obtain ⟨c, d⟩ := lay_rows fun x hx => h x (List.mem_cons_of_mem _ hx)
    rw [List.map_cons, PyData.canLayAll0, PyData.depthAll, a, b, c]
    exact ⟨rfl, by omega⟩
theorem ne_rows {rs : List Row} (h : ∀ r ∈ rs, RowNm r) (w : VH) : neD (.lst (rs.map Row.d)) (.lst []) w = some (.bl (decide (rs ≠ [])), w) := by
  obtain ⟨c, d⟩ := lay_rows h
  have a : topPy w (.lst (rs.map Row.d)) = some (.list (rs.map pyRow)) := by
    show toPy _ = _
    unfold toPy
    rw [toPys_rows]
    rfl
  have b : topPy w (.lst []) = some (.list []) := rfl
  have s1 : SeqAt.shaped (.list (rs.map pyRow)) = true := by
    have x : PyData.canLay0 (.list (rs.map pyRow)) = true := c
    unfold SeqAt.shaped
    rw [x, PyData.depth]
    simp only [Bool.true_and, decide_eq_true_eq]
    omega
  have s2 : SeqAt.shaped (.list ([] : List PyData)) = true := shaped_ints []
  unfold neD eqPy
  simp only [a, b, s1, s2, Bool.and_self, if_true]
  cases rs <;> rfl
/-! ### a walk -/
def gG : Tg := unpG 2 (consG (nameG 3) (consG (nameG 4) nilG))
def gB1 : Bk := asgS (lcD (seqI (den2 ixD (var 1) (kst (.int 2)))) (nameG 7) (cmpT eqD (den2 ixD (var 7) (kst (.int 1))) (var 4)) (var 7) [7] still0) (nameG 6)
def gB2 : Bk := ifS (cmpT neD (var 6) (denA mkLst nilA))
  (seqS (asgS (denA (denC 2 d__law_pick) (consA (var 0) (consA (var 6) nilA))) (nameG 7))
  (asgS (denA mkTup (consA (den2 addD (var 3) (denA mkLst (consA (den2 ixD (var 7) (kst (.int 0))) nilA))) (consA (den2 ixD (var 7) (kst (.int 2))) nilA))) gG)) nopS
def gA : Bk := asgS (denA mkTup (consA (denA mkLst nilA) (consA (denA (denC 2 d__law_pick) (consA (var 0) (consA (den2 ixD (var 1) (kst (.int 1))) nilA))) nilA))) gG
theorem g_gone : g__law_gone = seqS gA (seqS (forS (argI range1It (consA (var 2) nilA)) (nameG 5) (seqS gB1 gB2)) (retS (var 3))) := rfl
section
variable {s : SS} {t : VH} {k : Nat} {ax : Int} {ns : List (List Nat)} {R : List Row}
theorem gB1_ok (hR : R.length ≤ 1000) (g : ∀ r ∈ R, RowNm r) {h : List Nat} (hh : Nm h) (w : VH) (x0 x2 x3 x5 x6 x7 : Option D) :
    gB1 [x0, some (planD ax ns R), x2, x3, some (strD' h), x5, x6, x7] w = some (.nx [x0, some (planD ax ns R), x2, x3, some (strD' h), x5, some (.lst ((R.filter fun r => decide (r.st = h)).map Row.d)), x7], w) := by
  have z := comp_pure (g := nameG 7) (c := cmpT eqD (den2 ixD (var 7) (kst (.int 1))) (var 4)) (e := var 7) (ρ := wipeR [x0, some (planD ax ns R), x2, x3, some (strD' h), x5, x6, x7] [7]) (vh := w) (p := fun d => match d with | .tup [_, .str a, _, _] => decide (a = SX.S h) | _ => false) (f := fun d => d) (R.map Row.d) (fun d hd => by
    obtain ⟨r, hr, rfl⟩ := List.mem_map.mp hd
    have e : (match r.d with | .tup [_, .str a, _, _] => decide (a = SX.S h) | _ => false) = decide (r.st = h) := by
      show decide (SX.S r.st = SX.S h) = _
      by_cases q : r.st = h
      · rw [q]; simp
      · rw [decide_eq_false q, decide_eq_false fun e => q (SX.S_inj e)]
    refine ⟨_, rfl, ?_, fun _ => by simp only [VL.bind, VL.ret, VL.fail, denF, denA, den1, den2, denC, consA, nilA, var, kst, seqS, nopS, ifS, retS, asgS, nameG, subG, dropS, cmpT, valT, andB, orB, notB, toB, ifD, andD, orD, notD, methD, List.map_cons, List.map_nil, List.cons_append, List.nil_append, List.length_cons, List.length_nil, List.replicate, List.getElem?_cons_zero, List.getElem?_cons_succ, List.set_cons_zero, List.set_cons_succ, List.set_nil, List.getElem?_nil, Option.map_some, Option.map_none, Option.bind_some, Option.bind_none, if_true, if_false, Bool.false_eq_true, reduceIte, Nat.reduceAdd, Nat.reduceSub, Int.reduceAdd, Int.reduceNeg, wipeR]⟩
    rw [e]
    simp only [VL.bind, VL.ret, VL.fail, denF, denA, den1, den2, denC, consA, nilA, var, kst, seqS, nopS, ifS, retS, asgS, nameG, subG, dropS, cmpT, valT, andB, orB, notB, toB, ifD, andD, orD, notD, methD, List.map_cons, List.map_nil, List.cons_append, List.nil_append, List.length_cons, List.length_nil, List.replicate, List.getElem?_cons_zero, List.getElem?_cons_succ, List.set_cons_zero, List.set_cons_succ, List.set_nil, List.getElem?_nil, Option.map_some, Option.map_none, Option.bind_some, Option.bind_none, if_true, if_false, Bool.false_eq_true, reduceIte, Nat.reduceAdd, Nat.reduceSub, Int.reduceAdd, Int.reduceNeg, wipeR, rw1, eq_str (g r hr).st hh])
  rw [List.map_id', List.filter_map] at z
  have e2 : ((fun d => match d with | .tup [_, .str a, _, _] => decide (a = SX.S h) | _ => false) ∘ Row.d) = fun r : Row => decide (r.st = h) := by
    funext r
    show decide (SX.S r.st = SX.S h) = _
    by_cases q : r.st = h
    · rw [q]; simp
    · rw [decide_eq_false q, decide_eq_false fun e => q (SX.S_inj e)]
  rw [e2] at z
  have el := lc_eq (f := seqI (den2 ixD (var 1) (kst (.int 2)))) (mk := still0) (vs := [7]) (ρ := [x0, some (planD ax ns R), x2, x3, some (strD' h), x5, x6, x7]) (vh := w) (by simp only [VL.bind, VL.ret, VL.fail, denF, denA, den1, den2, denC, consA, nilA, var, kst, seqS, nopS, ifS, retS, asgS, nameG, subG, dropS, cmpT, valT, andB, orB, notB, toB, ifD, andD, orD, notD, methD, List.map_cons, List.map_nil, List.cons_append, List.nil_append, List.length_cons, List.length_nil, List.replicate, List.getElem?_cons_zero, List.getElem?_cons_succ, List.set_cons_zero, List.set_cons_succ, List.set_nil, List.getElem?_nil, Option.map_some, Option.map_none, Option.bind_some, Option.bind_none, if_true, if_false, Bool.false_eq_true, reduceIte, Nat.reduceAdd, Nat.reduceSub, Int.reduceAdd, Int.reduceNeg, seqI, pl2, seqIt]) (by rw [List.length_map]; show _ < 16777216; omega) z
  simp only [VL.bind, VL.ret, VL.fail, denF, denA, den1, den2, denC, consA, nilA, var, kst, seqS, nopS, ifS, retS, asgS, nameG, subG, dropS, cmpT, valT, andB, orB, notB, toB, ifD, andD, orD, notD, methD, List.map_cons, List.map_nil, List.cons_append, List.nil_append, List.length_cons, List.length_nil, List.replicate, List.getElem?_cons_zero, List.getElem?_cons_succ, List.set_cons_zero, List.set_cons_succ, List.set_nil, List.getElem?_nil, Option.map_some, Option.map_none, Option.bind_some, Option.bind_none, if_true, if_false, Bool.false_eq_true, reduceIte, Nat.reduceAdd, Nat.reduceSub, Int.reduceAdd, Int.reduceNeg, gB1, el, still0]
theorem gone_ok (h : s.Ok k) (hk : k < 10000000) (n0 : 0 < ns.length) (n1 : ns.length ≤ 1000) (hR : R.length ≤ 1000) (hn : ∀ l ∈ ns, Nm l) (g : ∀ r ∈ R, RowNm r) {m : Int} (m0 : 0 ≤ m) (m1 : m ≤ 100) : ∃ (rs : List Row) (s' : SS),
    d__law_gone [.ref 1, planD ax ns R, .int m] (s.vh t) = some (.lst ((rs.map Row.nm).map strD'), s'.vh t) ∧ (∀ r ∈ rs, r ∈ R) ∧ rs.length ≤ m.toNat ∧ s'.Ok (k + 200) := by
  obtain ⟨d, s1, e1, hd, o1⟩ := pick_lst (t := t) h (by omega) (ds := ns.map strD') (by rw [List.length_map]; exact n0) (by rw [List.length_map]; omega)
  obtain ⟨l, hl, rfl⟩ := of_strs hd
  have ug : ∀ (a b : D) (x0 x1 x2 x3 x4 x5 x6 x7 : Option D) (w : VH), gG (.tup [a, b]) [x0, x1, x2, x3, x4, x5, x6, x7] w = some ([x0, x1, x2, some a, some b, x5, x6, x7], w) := fun _ _ _ _ _ _ _ _ _ _ _ => rfl
  have m1l : ∀ a : D, mkLst [a] = VL.ret (.lst [a]) := fun _ => rfl
  have eA : gA [some (.ref 1), some (planD ax ns R), some (.int m), none, none, none, none, none] (s.vh t) = some (.nx [some (.ref 1), some (planD ax ns R), some (.int m), some (.lst []), some (strD' l), none, none, none], s1.vh t) := by
    simp only [VL.bind, VL.ret, VL.fail, denF, denA, den1, den2, denC, consA, nilA, var, kst, seqS, nopS, ifS, retS, asgS, nameG, subG, dropS, cmpT, valT, andB, orB, notB, toB, ifD, andD, orD, notD, methD, List.map_cons, List.map_nil, List.cons_append, List.nil_append, List.length_cons, List.length_nil, List.replicate, List.getElem?_cons_zero, List.getElem?_cons_succ, List.set_cons_zero, List.set_cons_succ, List.set_nil, List.getElem?_nil, Option.map_some, Option.map_none, Option.bind_some, Option.bind_none, if_true, if_false, Bool.false_eq_true, reduceIte, Nat.reduceAdd, Nat.reduceSub, Int.reduceAdd, Int.reduceNeg, gA, mkLst_nil, pl1, e1, mkTup2, ug]
  obtain ⟨ρ', vh', e, a, b, c, h', rs, s', rfl, rfl, hm, hl', hnm, ho⟩ := for_inv (g := nameG 5) (b := seqS gB1 gB2) (items := rangeL 0 m.toNat) (ρ := [some (.ref 1), some (planD ax ns R), some (.int m), some (.lst []), some (strD' l), none, none, none]) (vh := s1.vh t)
    (fun i ρ w => ∃ (a b c : Option D) (h : List Nat) (rs : List Row) (s' : SS), ρ = [some (.ref 1), some (planD ax ns R), some (.int m), some (.lst ((rs.map Row.nm).map strD')), some (strD' h), a, b, c] ∧ w = s'.vh t ∧ (∀ r ∈ rs, r ∈ R) ∧ rs.length ≤ i ∧ Nm h ∧ s'.Ok (k + 1 + i))
    ⟨none, none, none, l, [], s1, rfl, rfl, by simp, Nat.le_refl _, hn l hl, o1⟩ (fun i d ρ w hd ⟨a, b, c, h, rs, s2, e1, e2, hm, hl, hnm, ho⟩ => by
      subst e1 e2
      have hi : i < m.toNat := by
        have z := (List.getElem?_eq_some_iff.mp hd).1
        rw [range_len] at z
        exact z
      have f1 := gB1_ok (ax := ax) (ns := ns) hR g hnm (s2.vh t) (some (.ref 1)) (some (.int m)) (some (.lst ((rs.map Row.nm).map strD'))) (some d) b c
      have gf : ∀ r ∈ R.filter (fun r => decide (r.st = h)), RowNm r := fun r hr => g r (List.mem_filter.mp hr).1
      by_cases hne : R.filter (fun r => decide (r.st = h)) = []
      · have f2 : gB2 [some (.ref 1), some (planD ax ns R), some (.int m), some (.lst ((rs.map Row.nm).map strD')), some (strD' h), some d, some (.lst ((R.filter fun r => decide (r.st = h)).map Row.d)), c] (s2.vh t) = some (.nx [some (.ref 1), some (planD ax ns R), some (.int m), some (.lst ((rs.map Row.nm).map strD')), some (strD' h), some d, some (.lst ((R.filter fun r => decide (r.st = h)).map Row.d)), c], s2.vh t) := by
          have nr := ne_rows gf (s2.vh t)
          have dn : decide ((R.filter fun r => decide (r.st = h)) ≠ []) = false := by simp only [hne, ne_eq, not_true_eq_false, decide_false]
          rw [dn] at nr
          simp only [VL.bind, VL.ret, VL.fail, denF, denA, den1, den2, denC, consA, nilA, var, kst, seqS, nopS, ifS, retS, asgS, nameG, subG, dropS, cmpT, valT, andB, orB, notB, toB, ifD, andD, orD, notD, methD, List.map_cons, List.map_nil, List.cons_append, List.nil_append, List.length_cons, List.length_nil, List.replicate, List.getElem?_cons_zero, List.getElem?_cons_succ, List.set_cons_zero, List.set_cons_succ, List.set_nil, List.getElem?_nil, Option.map_some, Option.map_none, Option.bind_some, Option.bind_none, if_true, if_false, Bool.false_eq_true, reduceIte, Nat.reduceAdd, Nat.reduceSub, Int.reduceAdd, Int.reduceNeg, gB2, mkLst_nil, nr]
        exact ⟨_, _, _, rfl, (sq f1).trans f2, some d, _, c, h, rs, s2, rfl, rfl, hm, by omega, hnm, ho.mono (by omega)⟩
      · have fl : (R.filter fun r => decide (r.st = h)).length ≤ 1000 := Nat.le_trans (List.length_filter_le ..) hR
        obtain ⟨x, s3, e3, hx, o3⟩ := pick_lst (t := t) ho (by omega) (ds := (R.filter fun r : Row => decide (r.st = h)).map Row.d) (by rw [List.length_map]; exact List.length_pos_iff.mpr hne) (by rw [List.length_map]; omega)
        obtain ⟨r, hr, er⟩ := List.mem_map.mp hx
        subst er
        have hrR : r ∈ R := (List.mem_filter.mp hr).1
        have ad : ∀ w, addD (.lst ((rs.map Row.nm).map strD')) (.lst [strD' r.nm]) w = some (.lst (((rs ++ [r]).map Row.nm).map strD'), w) := fun w => by
          show (if ((rs.map Row.nm).map strD').length + [strD' r.nm].length ≤ line then some (D.lst (((rs.map Row.nm).map strD') ++ [strD' r.nm]), w) else none) = _
          rw [if_pos (by rw [List.length_map, List.length_map]; show _ + 1 ≤ 16777216; omega)]
          simp
        have f2 : gB2 [some (.ref 1), some (planD ax ns R), some (.int m), some (.lst ((rs.map Row.nm).map strD')), some (strD' h), some d, some (.lst ((R.filter fun r => decide (r.st = h)).map Row.d)), c] (s2.vh t) = some (.nx [some (.ref 1), some (planD ax ns R), some (.int m), some (.lst (((rs ++ [r]).map Row.nm).map strD')), some (strD' r.en), some d, some (.lst ((R.filter fun r => decide (r.st = h)).map Row.d)), some r.d], s3.vh t) := by
          have nr := ne_rows gf (s2.vh t)
          rw [decide_eq_true hne] at nr
          simp only [VL.bind, VL.ret, VL.fail, denF, denA, den1, den2, denC, consA, nilA, var, kst, seqS, nopS, ifS, retS, asgS, nameG, subG, dropS, cmpT, valT, andB, orB, notB, toB, ifD, andD, orD, notD, methD, List.map_cons, List.map_nil, List.cons_append, List.nil_append, List.length_cons, List.length_nil, List.replicate, List.getElem?_cons_zero, List.getElem?_cons_succ, List.set_cons_zero, List.set_cons_succ, List.set_nil, List.getElem?_nil, Option.map_some, Option.map_none, Option.bind_some, Option.bind_none, if_true, if_false, Bool.false_eq_true, reduceIte, Nat.reduceAdd, Nat.reduceSub, Int.reduceAdd, Int.reduceNeg, gB2, mkLst_nil, nr, e3, rw0, m1l, ad, rw2, mkTup2, ug]
        exact ⟨_, _, _, rfl, (sq f1).trans f2, some d, _, some r.d, r.en, rs ++ [r], s3, rfl, rfl, fun x hx => by
          rcases List.mem_append.mp hx with z | z
          · exact hm x z
          · rw [List.mem_singleton.mp z]; exact hrR, by rw [List.length_append]; simp; omega, (g r hrR).en, o3⟩)
  rw [range_len] at hl' ho
  refine ⟨rs, s', denF_rt ?_, hm, hl', ho.mono (by omega)⟩
  rw [g_gone]
  have eF : (forS (argI range1It (consA (var 2) nilA)) (nameG 5) (seqS gB1 gB2)) [some (.ref 1), some (planD ax ns R), some (.int m), some (.lst []), some (strD' l), none, none, none] (s1.vh t) = some (.nx [some (.ref 1), some (planD ax ns R), some (.int m), some (.lst ((rs.map Row.nm).map strD')), some (strD' h'), a, b, c], s'.vh t) := by
    have er : (argI range1It (consA (var 2) nilA)) [some (.ref 1), some (planD ax ns R), some (.int m), some (.lst []), some (strD' l), none, none, none] (s1.vh t) = some (rangeL 0 m.toNat, s1.vh t) := by
      simp only [VL.bind, VL.ret, VL.fail, denF, denA, den1, den2, denC, consA, nilA, var, kst, seqS, nopS, ifS, retS, asgS, nameG, subG, dropS, cmpT, valT, andB, orB, notB, toB, ifD, andD, orD, notD, methD, List.map_cons, List.map_nil, List.cons_append, List.nil_append, List.length_cons, List.length_nil, List.replicate, List.getElem?_cons_zero, List.getElem?_cons_succ, List.set_cons_zero, List.set_cons_succ, List.set_nil, List.getElem?_nil, Option.map_some, Option.map_none, Option.bind_some, Option.bind_none, if_true, if_false, Bool.false_eq_true, reduceIte, Nat.reduceAdd, Nat.reduceSub, Int.reduceAdd, Int.reduceNeg, argI, range_ok m0 (by omega : m < 1000000000)]
    unfold forS VL.bind
    rw [er]
    exact e
  refine (sq eA).trans ((sq eF).trans ?_)
  simp only [VL.bind, VL.ret, VL.fail, denF, denA, den1, den2, denC, consA, nilA, var, kst, seqS, nopS, ifS, retS, asgS, nameG, subG, dropS, cmpT, valT, andB, orB, notB, toB, ifD, andD, orD, notD, methD, List.map_cons, List.map_nil, List.cons_append, List.nil_append, List.length_cons, List.length_nil, List.replicate, List.getElem?_cons_zero, List.getElem?_cons_succ, List.set_cons_zero, List.set_cons_succ, List.set_nil, List.getElem?_nil, Option.map_some, Option.map_none, Option.bind_some, Option.bind_none, if_true, if_false, Bool.false_eq_true, reduceIte, Nat.reduceAdd, Nat.reduceSub, Int.reduceAdd, Int.reduceNeg]
end
end K04

namespace K04
open PySem VL L2
/-! ### is_way -/
theorem comp_of {α : Type} {g : Tg} {e : Rho → M D} {ρ : Rho} {vh : VH} {a b : α → D} : ∀ (xs : List α), (∀ x ∈ xs, ∃ ρ', g (a x) ρ vh = some (ρ', vh) ∧ e ρ' vh = some (b x, vh)) → compL g yesT e ρ (xs.map a) vh = some (xs.map b, vh)
  | [], _ => rfl
  | x :: xs, h => by
    obtain ⟨ρ', e1, e2⟩ := h x (List.mem_cons_self ..)
    have ih := comp_of (a := a) (b := b) xs fun y hy => h y (List.mem_cons_of_mem _ hy)
    have y1 : yesT ρ' vh = some (true, vh) := rfl
    rw [List.map_cons, List.map_cons]
    simp only [compL, VL.bind, e1, y1, if_true, e2, ih, VL.ret]
theorem val_row : ∀ {R : List Row} {r : Row}, (R.map Row.nm).Nodup → r ∈ R → valD (R.map fun r => ky r.nm) (R.map Row.d) (ky r.nm) = some r.d
  | [], _, _, h => by cases h
  | x :: R, r, nd, h => by
    rw [List.map_cons] at nd
    obtain ⟨n1, n2⟩ := List.nodup_cons.mp nd
    rw [List.map_cons, List.map_cons]
    unfold valD
    by_cases e : ky x.nm = ky r.nm
    · rw [if_pos e]
      rcases List.mem_cons.mp h with rfl | z
      · rfl
      · exact absurd (List.mem_map_of_mem (f := Row.nm) z) (by rw [← ky_inj e]; exact n1)
    · rw [if_neg e]
      rcases List.mem_cons.mp h with rfl | z
      · exact absurd rfl e
      · exact val_row n2 z
theorem cut1 {α : Type} (xs : List α) : cutL xs (some 1) none = xs.drop 1 := by
  unfold cutL HT.sIx
  cases xs with
  | nil => rfl
  | cons x xs => simp
theorem cut2 {α : Type} (xs : List α) : cutL xs none (some 1) = xs.take 1 := by
  unfold cutL HT.sIx
  cases xs with
  | nil => rfl
  | cons x xs => simp
section
variable {ax : Int} {ns : List (List Nat)} {R : List Row}
def netK : List Str := ["axes", "_rooms", "_ties", "_named"]
def netV (ax : Int) (ns : List (List Nat)) (R : List Row) : List D := [.int ax, .tup (ns.map strD'), .tup (R.map Row.d), .dct (R.map fun r => ky r.nm) (R.map Row.d)]
theorem net_obj (w : VH) : objV 0 w (netD ax ns R) = some (netK, netV ax ns R) := rfl
theorem lkA : lookupF netK (netV ax ns R) "axes" = some (.int ax) := by
  unfold netK netV lookupF
  rw [if_pos rfl]
theorem lkN : lookupF netK (netV ax ns R) "_named" = some (.dct (R.map fun r => ky r.nm) (R.map Row.d)) := by
  unfold netK netV lookupF
  rw [if_neg (by decide +kernel)]
  unfold lookupF
  rw [if_neg (by decide +kernel)]
  unfold lookupF
  rw [if_neg (by decide +kernel)]
  unfold lookupF
  rw [if_pos rfl]
theorem net_axes (w : VH) : fldD 0 "axes" (netD ax ns R) w = some (.int ax, w) := by
  unfold fldD
  simp only [net_obj, lkA, Option.map_some]
theorem net_named (w : VH) : fldD 0 "_named" (netD ax ns R) w = some (.dct (R.map fun r => ky r.nm) (R.map Row.d), w) := by
  unfold fldD
  simp only [net_obj, lkN, Option.map_some]
theorem net_tieN : lookupF netK (netV ax ns R) "tie" = none := by
  unfold netK netV lookupF
  rw [if_neg (by decide +kernel)]
  unfold lookupF
  rw [if_neg (by decide +kernel)]
  unfold lookupF
  rw [if_neg (by decide +kernel)]
  unfold lookupF
  rw [if_neg (by decide +kernel)]
  unfold lookupF
  rfl
theorem has_ok (nd : (R.map Row.nm).Nodup) {r : Row} (h : r ∈ R) (w : VH) : d_Net___contains__ [netD ax ns R, strD' r.nm] w = some (.bl true, w) := by
  have z := key_ok (l := r.nm) (tb := .dct (R.map fun r => ky r.nm) (R.map Row.d)) (vh := w) rfl rfl (fun z e => by cases e)
  have v : valD (R.map fun r => ky r.nm) (R.map Row.d) (.inr (SX.S r.nm)) = some r.d := val_row nd h
  rw [v] at z
  simp only [VL.bind, VL.ret, VL.fail, denF, denA, den1, den2, denC, consA, nilA, var, kst, seqS, nopS, ifS, retS, asgS, nameG, subG, dropS, cmpT, valT, andB, orB, notB, toB, ifD, andD, orD, notD, methD, List.map_cons, List.map_nil, List.cons_append, List.nil_append, List.length_cons, List.length_nil, List.replicate, List.getElem?_cons_zero, List.getElem?_cons_succ, List.set_cons_zero, List.set_cons_succ, List.set_nil, List.getElem?_nil, Option.map_some, Option.map_none, Option.bind_some, Option.bind_none, if_true, if_false, Bool.false_eq_true, reduceIte, Nat.reduceAdd, Nat.reduceSub, Int.reduceAdd, Int.reduceNeg, d_Net___contains__, g_Net___contains__, net_named, z]
  rfl
theorem get_ok (nd : (R.map Row.nm).Nodup) {r : Row} (h : r ∈ R) (w : VH) : d_Net_tie [netD ax ns R, strD' r.nm] w = some (r.d, w) := by
  have hn : chkO 0 (ownNinD d_Net___contains__) (strD' r.nm) (netD ax ns R) w = some (.bl false, w) := by
    have io : VL.isObj 0 w (netD ax ns R) = true := by unfold VL.isObj; rw [net_obj]; rfl
    have dn : denC 2 d_Net___contains__ [netD ax ns R, strD' r.nm] = d_Net___contains__ [netD ax ns R, strD' r.nm] := if_pos rfl
    unfold chkO ownNinD
    rw [if_pos io, dn]
    unfold VL.bind
    rw [has_ok nd h]
    rfl
  have gi : ixD (.dct (R.map fun r => ky r.nm) (R.map Row.d)) (strD' r.nm) w = some (r.d, w) := by
    have v : valD (R.map fun r => ky r.nm) (R.map Row.d) (ky r.nm) = some r.d := val_row nd h
    show (valD (R.map fun r => ky r.nm) (R.map Row.d) (ky r.nm)).map _ = _
    rw [v]
    rfl
  simp only [VL.bind, VL.ret, VL.fail, denF, denA, den1, den2, denC, consA, nilA, var, kst, seqS, nopS, ifS, retS, asgS, nameG, subG, dropS, cmpT, valT, andB, orB, notB, toB, ifD, andD, orD, notD, methD, List.map_cons, List.map_nil, List.cons_append, List.nil_append, List.length_cons, List.length_nil, List.replicate, List.getElem?_cons_zero, List.getElem?_cons_succ, List.set_cons_zero, List.set_cons_succ, List.set_nil, List.getElem?_nil, Option.map_some, Option.map_none, Option.bind_some, Option.bind_none, if_true, if_false, Bool.false_eq_true, reduceIte, Nat.reduceAdd, Nat.reduceSub, Int.reduceAdd, Int.reduceNeg, d_Net_tie, g_Net_tie, hn, net_named, gi]
def wayA (rs : List Row) : Bool := (rs.zip (rs.drop 1 ++ rs.take 1)).all fun p => decide (p.1.en = p.2.st)
def sumA (rs : List Row) (i : Nat) : Int := (rs.map fun r => r.step.getD i 0).sum
def wayS (n : Nat) (rs : List Row) : Bool := (List.range n).all fun i => decide (sumA rs i = 0)
def wayB (n : Nat) (rs : List Row) : Bool := !rs.isEmpty && wayA rs && wayS n rs
theorem sum_ints (xs : List Int) (w : VH) : sumD [.lst (xs.map D.int)] w = some (.int xs.sum, w) := by
  have e : ∀ xs : List Int, intsOf (xs.map D.int) = some xs := fun xs => by
    induction xs with
    | nil => rfl
    | cons b bs ih => rw [List.map_cons, intsOf, ih]; rfl
  unfold sumD pureD sumR
  simp only [lstV, Option.bind_some, e]
  rfl
/-- what a net needs to be asked -/
structure NetGood (ax : Int) (R : List Row) : Prop where
  nd : (R.map Row.nm).Nodup
  le : ∀ r ∈ R, ax = (r.step.length : Nat)
  nm : ∀ r ∈ R, RowNm r
  a1 : ax ≤ 4
/-- a way handed in: a list or a tuple of names -/
def seqD (b : Bool) (ds : List D) : D := if b then .tup ds else .lst ds
theorem seq_tn (b : Bool) (ds : List D) (w : VH) : ∃ a, tnD w (seqD b ds) = some a ∧ (isT a .lst || isT a .tup) = true := by
  cases b
  · exact ⟨.lst, rfl, rfl⟩
  · exact ⟨.tup, rfl, rfl⟩
theorem seq_len (b : Bool) (ds : List D) (w : VH) : lenD [seqD b ds] w = some (.int (ds.length : Nat), w) := by cases b <;> rfl
theorem seq_it (b : Bool) (ds : List D) (w : VH) : seqIt (seqD b ds) w = some (ds, w) := by cases b <;> rfl
theorem around_ok (G : NetGood ax R) (b : Bool) {rs : List Row} (hm : ∀ r ∈ rs, r ∈ R) (hl : rs.length ≤ 1000) (w : VH) :
    d_ties_around [netD ax ns R, seqD b ((rs.map Row.nm).map strD')] w = some (if (!rs.isEmpty && wayA rs) = true then .lst (rs.map Row.d) else .non, w) := by
  obtain ⟨ta, ht, hi⟩ := seq_tn b ((rs.map Row.nm).map strD') w
  have li := list_ok ht
  rw [hi] at li
  -- all names are there
  have z1 := comp_map (g := nameG 3) (e := den2 (chkO 0 (ownInD d_Net___contains__)) (var 3) (var 0)) (ρ := wipeR [some (netD ax ns R), some (seqD b ((rs.map Row.nm).map strD')), none, none, none, none] [3]) (vh := w) (f := fun _ => .bl true) ((rs.map Row.nm).map strD') (fun d hd => by
    rw [List.map_map] at hd
    obtain ⟨r, hr, rfl⟩ := List.mem_map.mp hd
    have io : VL.isObj 0 w (netD ax ns R) = true := by unfold VL.isObj; rw [net_obj]; rfl
    have dn : denC 2 d_Net___contains__ [netD ax ns R, strD' r.nm] = d_Net___contains__ [netD ax ns R, strD' r.nm] := if_pos rfl
    have c : chkO 0 (ownInD d_Net___contains__) (strD' r.nm) (netD ax ns R) w = some (.bl true, w) := by
      unfold chkO ownInD
      rw [if_pos io, dn]
      unfold VL.bind
      rw [has_ok G.nd (hm r hr)]
      rfl
    exact ⟨_, rfl, by simp only [VL.bind, VL.ret, VL.fail, denF, denA, den1, den2, denC, consA, nilA, var, kst, seqS, nopS, ifS, retS, asgS, nameG, subG, dropS, cmpT, valT, andB, orB, notB, toB, ifD, andD, orD, notD, methD, List.map_cons, List.map_nil, List.cons_append, List.nil_append, List.length_cons, List.length_nil, List.replicate, List.getElem?_cons_zero, List.getElem?_cons_succ, List.set_cons_zero, List.set_cons_succ, List.set_nil, List.getElem?_nil, Option.map_some, Option.map_none, Option.bind_some, Option.bind_none, if_true, if_false, Bool.false_eq_true, reduceIte, Nat.reduceAdd, Nat.reduceSub, Int.reduceAdd, Int.reduceNeg, wipeR, Function.comp_apply, c]⟩)
  have e1 := lc_eq (f := seqI (var 1)) (mk := still0) (vs := [3]) (ρ := [some (netD ax ns R), some (seqD b ((rs.map Row.nm).map strD')), none, none, none, none]) (vh := w) (by simp only [VL.bind, VL.ret, VL.fail, denF, denA, den1, den2, denC, consA, nilA, var, kst, seqS, nopS, ifS, retS, asgS, nameG, subG, dropS, cmpT, valT, andB, orB, notB, toB, ifD, andD, orD, notD, methD, List.map_cons, List.map_nil, List.cons_append, List.nil_append, List.length_cons, List.length_nil, List.replicate, List.getElem?_cons_zero, List.getElem?_cons_succ, List.set_cons_zero, List.set_cons_succ, List.set_nil, List.getElem?_nil, Option.map_some, Option.map_none, Option.bind_some, Option.bind_none, if_true, if_false, Bool.false_eq_true, reduceIte, Nat.reduceAdd, Nat.reduceSub, Int.reduceAdd, Int.reduceNeg, seqI, seq_it]) (by rw [List.length_map, List.length_map]; show _ < 16777216; omega) z1
  have al1 := any_bls_false (ds := ((rs.map Row.nm).map strD').map fun _ => D.bl true) w (by simp)
  by_cases h0 : rs = []
  · subst h0
    simp only [List.map_nil] at li
    have ln := seq_len b [] w
    have ei : eqD (.int (([] : List D).length : Nat)) (.int 0) w = some (.bl true, w) := rfl
    simp only [List.length_nil] at ei ln
    simp only [VL.bind, VL.ret, VL.fail, denF, denA, den1, den2, denC, consA, nilA, var, kst, seqS, nopS, ifS, retS, asgS, nameG, subG, dropS, cmpT, valT, andB, orB, notB, toB, ifD, andD, orD, notD, methD, List.map_cons, List.map_nil, List.cons_append, List.nil_append, List.length_cons, List.length_nil, List.replicate, List.getElem?_cons_zero, List.getElem?_cons_succ, List.set_cons_zero, List.set_cons_succ, List.set_nil, List.getElem?_nil, Option.map_some, Option.map_none, Option.bind_some, Option.bind_none, if_true, if_false, Bool.false_eq_true, reduceIte, Nat.reduceAdd, Nat.reduceSub, Int.reduceAdd, Int.reduceNeg, d_ties_around, g_ties_around, li, Bool.not_true, ln, ei, List.isEmpty_nil, Bool.not_true, Bool.false_and]
  · have hz : eqD (.int (((rs.map Row.nm).map strD').length : Nat)) (.int 0) w = some (.bl false, w) := by
      have z : ((((rs.map Row.nm).map strD').length : Int) == 0) = false := beq_eq_false_iff_ne.mpr (by
        rw [List.length_map, List.length_map]
        have := List.length_pos_iff.mpr h0
        omega)
      rw [eq_int, z]
    have dt : ∀ r ∈ rs, denC 2 d_Net_tie [netD ax ns R, strD' r.nm] w = some (r.d, w) := fun r hr => by
      have dn : denC 2 d_Net_tie [netD ax ns R, strD' r.nm] = d_Net_tie [netD ax ns R, strD' r.nm] := if_pos rfl
      rw [dn, get_ok G.nd (hm r hr)]
    have z2 := comp_of (g := nameG 3) (e := omethD 0 "tie" 2 d_Net_tie (var 0) (consA (var 3) nilA)) (ρ := wipeR [some (netD ax ns R), some (seqD b ((rs.map Row.nm).map strD')), none, none, none, none] [3]) (vh := w) (a := fun r : Row => strD' r.nm) (b := Row.d) rs (fun r hr => ⟨_, rfl, by
      have o := net_obj (ax := ax) (ns := ns) (R := R) w
      have d := dt r hr
      unfold omethD
      simp only [VL.bind, VL.ret, VL.fail, denF, denA, den1, den2, denC, consA, nilA, var, kst, seqS, nopS, ifS, retS, asgS, nameG, subG, dropS, cmpT, valT, andB, orB, notB, toB, ifD, andD, orD, notD, methD, List.map_cons, List.map_nil, List.cons_append, List.nil_append, List.length_cons, List.length_nil, List.replicate, List.getElem?_cons_zero, List.getElem?_cons_succ, List.set_cons_zero, List.set_cons_succ, List.set_nil, List.getElem?_nil, Option.map_some, Option.map_none, Option.bind_some, Option.bind_none, if_true, if_false, Bool.false_eq_true, reduceIte, Nat.reduceAdd, Nat.reduceSub, Int.reduceAdd, Int.reduceNeg, wipeR, o, net_tieN]
      exact d⟩)
    have em : rs.map (fun r : Row => strD' r.nm) = (rs.map Row.nm).map strD' := by rw [List.map_map]; rfl
    rw [em] at z2
    have e2 := lc_eq (f := seqI (var 1)) (mk := still0) (vs := [3]) (ρ := [some (netD ax ns R), some (seqD b ((rs.map Row.nm).map strD')), none, none, none, none]) (vh := w) (by simp only [VL.bind, VL.ret, VL.fail, denF, denA, den1, den2, denC, consA, nilA, var, kst, seqS, nopS, ifS, retS, asgS, nameG, subG, dropS, cmpT, valT, andB, orB, notB, toB, ifD, andD, orD, notD, methD, List.map_cons, List.map_nil, List.cons_append, List.nil_append, List.length_cons, List.length_nil, List.replicate, List.getElem?_cons_zero, List.getElem?_cons_succ, List.set_cons_zero, List.set_cons_succ, List.set_nil, List.getElem?_nil, Option.map_some, Option.map_none, Option.bind_some, Option.bind_none, if_true, if_false, Bool.false_eq_true, reduceIte, Nat.reduceAdd, Nat.reduceSub, Int.reduceAdd, Int.reduceNeg, seqI, seq_it]) (by rw [List.length_map, List.length_map]; show _ < 16777216; omega) z2
    have s1 : slD (.lst (rs.map Row.d)) (some 1) none w = some (.lst ((rs.drop 1).map Row.d), w) := by
      show some (D.lst (cutL (rs.map Row.d) (some 1) none), w) = _
      rw [cut1, List.map_drop]
    have s2 : slD (.lst (rs.map Row.d)) none (some 1) w = some (.lst ((rs.take 1).map Row.d), w) := by
      show some (D.lst (cutL (rs.map Row.d) none (some 1)), w) = _
      rw [cut2, List.map_take]
    have ad : addD (.lst ((rs.drop 1).map Row.d)) (.lst ((rs.take 1).map Row.d)) w = some (.lst ((rs.drop 1 ++ rs.take 1).map Row.d), w) := by
      show (if ((rs.drop 1).map Row.d).length + ((rs.take 1).map Row.d).length ≤ line then some (D.lst (((rs.drop 1).map Row.d) ++ ((rs.take 1).map Row.d)), w) else none) = _
      rw [if_pos (by simp only [List.length_map, List.length_drop, List.length_take]; show _ ≤ 16777216; omega), List.map_append]
    have zp : ∀ ys : List Row, zipMIt [.lst (rs.map Row.d), .lst (ys.map Row.d)] w = some ((rs.zip ys).map (fun p => D.tup [p.1.d, p.2.d]), w) := fun ys => by
      show some (pairL (rs.map Row.d) (ys.map Row.d), w) = _
      unfold pairL
      rw [List.zip_map, List.map_map]
      rfl
    have z3 := comp_of (g := unpG 2 (consG (nameG 4) (consG (nameG 5) nilG))) (e := den2 eqD (den2 ixD (var 4) (kst (.int 2))) (den2 ixD (var 5) (kst (.int 1)))) (ρ := wipeR [some (netD ax ns R), some (seqD b ((rs.map Row.nm).map strD')), some (.lst (rs.map Row.d)), none, none, none] [4, 5]) (vh := w)
      (a := fun p : Row × Row => D.tup [p.1.d, p.2.d]) (b := fun p => .bl (decide (p.1.en = p.2.st))) (rs.zip (rs.drop 1 ++ rs.take 1)) (fun p hp => by
        have h1 : p.1 ∈ rs := (List.of_mem_zip hp).1
        have h2 : p.2 ∈ rs := (List.mem_append.mp (List.of_mem_zip hp).2).elim List.mem_of_mem_drop List.mem_of_mem_take
        refine ⟨[some (netD ax ns R), some (seqD b ((rs.map Row.nm).map strD')), some (.lst (rs.map Row.d)), none, some p.1.d, some p.2.d], rfl, ?_⟩
        simp only [VL.bind, VL.ret, VL.fail, denF, denA, den1, den2, denC, consA, nilA, var, kst, seqS, nopS, ifS, retS, asgS, nameG, subG, dropS, cmpT, valT, andB, orB, notB, toB, ifD, andD, orD, notD, methD, List.map_cons, List.map_nil, List.cons_append, List.nil_append, List.length_cons, List.length_nil, List.replicate, List.getElem?_cons_zero, List.getElem?_cons_succ, List.set_cons_zero, List.set_cons_succ, List.set_nil, List.getElem?_nil, Option.map_some, Option.map_none, Option.bind_some, Option.bind_none, if_true, if_false, Bool.false_eq_true, reduceIte, Nat.reduceAdd, Nat.reduceSub, Int.reduceAdd, Int.reduceNeg, rw2, rw1, eq_str (G.nm _ (hm _ h1)).en (G.nm _ (hm _ h2)).st])
    have e3 := lc_eq (f := argI zipMIt (consA (var 2) (consA (den2 addD (sliceD (var 2) (optI (kst (.int 1))) noI) (sliceD (var 2) noI (optI (kst (.int 1))))) nilA))) (mk := still0) (vs := [4, 5]) (ρ := [some (netD ax ns R), some (seqD b ((rs.map Row.nm).map strD')), some (.lst (rs.map Row.d)), none, none, none]) (vh := w) (by
      simp only [VL.bind, VL.ret, VL.fail, denF, denA, den1, den2, denC, consA, nilA, var, kst, seqS, nopS, ifS, retS, asgS, nameG, subG, dropS, cmpT, valT, andB, orB, notB, toB, ifD, andD, orD, notD, methD, List.map_cons, List.map_nil, List.cons_append, List.nil_append, List.length_cons, List.length_nil, List.replicate, List.getElem?_cons_zero, List.getElem?_cons_succ, List.set_cons_zero, List.set_cons_succ, List.set_nil, List.getElem?_nil, Option.map_some, Option.map_none, Option.bind_some, Option.bind_none, if_true, if_false, Bool.false_eq_true, reduceIte, Nat.reduceAdd, Nat.reduceSub, Int.reduceAdd, Int.reduceNeg, argI, sliceD, optI, noI, s1, s2, ad, zp]) (by
        rw [List.length_map, List.length_zip]
        show min rs.length _ < 16777216
        omega) z3
    have al3 := all_bls ((rs.zip (rs.drop 1 ++ rs.take 1)).map fun p => decide (p.1.en = p.2.st)) w
    rw [List.map_map] at al3
    have e3b : ((rs.zip (rs.drop 1 ++ rs.take 1)).map fun p => decide (p.1.en = p.2.st)).all id = wayA rs := by
      rw [List.all_map]
      rfl
    rw [e3b] at al3
    have al3 : allD [.lst ((rs.zip (rs.drop 1 ++ rs.take 1)).map fun p => D.bl (decide (p.1.en = p.2.st)))] w = some (.bl (wayA rs), w) := al3
    have hb : (!rs.isEmpty && wayA rs) = wayA rs := by
      cases rs with
      | nil => exact absurd rfl h0
      | cons r rs => rfl
    rw [hb]
    cases hA : wayA rs with
    | false =>
      rw [hA] at al3
      simp only [VL.bind, VL.ret, VL.fail, denF, denA, den1, den2, denC, consA, nilA, var, kst, seqS, nopS, ifS, retS, asgS, nameG, subG, dropS, cmpT, valT, andB, orB, notB, toB, ifD, andD, orD, notD, methD, List.map_cons, List.map_nil, List.cons_append, List.nil_append, List.length_cons, List.length_nil, List.replicate, List.getElem?_cons_zero, List.getElem?_cons_succ, List.set_cons_zero, List.set_cons_succ, List.set_nil, List.getElem?_nil, Option.map_some, Option.map_none, Option.bind_some, Option.bind_none, if_true, if_false, Bool.false_eq_true, reduceIte, Nat.reduceAdd, Nat.reduceSub, Int.reduceAdd, Int.reduceNeg, d_ties_around, g_ties_around, li, Bool.not_true, seq_len, hz, e1, still0, al1, e2, e3, al3]
    | true =>
      rw [hA] at al3
      simp only [VL.bind, VL.ret, VL.fail, denF, denA, den1, den2, denC, consA, nilA, var, kst, seqS, nopS, ifS, retS, asgS, nameG, subG, dropS, cmpT, valT, andB, orB, notB, toB, ifD, andD, orD, notD, methD, List.map_cons, List.map_nil, List.cons_append, List.nil_append, List.length_cons, List.length_nil, List.replicate, List.getElem?_cons_zero, List.getElem?_cons_succ, List.set_cons_zero, List.set_cons_succ, List.set_nil, List.getElem?_nil, Option.map_some, Option.map_none, Option.bind_some, Option.bind_none, if_true, if_false, Bool.false_eq_true, reduceIte, Nat.reduceAdd, Nat.reduceSub, Int.reduceAdd, Int.reduceNeg, d_ties_around, g_ties_around, li, Bool.not_true, seq_len, hz, e1, still0, al1, e2, e3, al3]
theorem is_way_ok (G : NetGood ax R) (b : Bool) {rs : List Row} (hm : ∀ r ∈ rs, r ∈ R) (hl : rs.length ≤ 1000) (w : VH) :
    d_is_way [netD ax ns R, seqD b ((rs.map Row.nm).map strD')] w = some (.bl (wayB ax.toNat rs), w) := by
  have ta := around_ok (ns := ns) G b hm hl w
  have n1 : isNotD .non .non = VL.ret (.bl false) := rfl
  have n2 : ∀ xs : List D, isNotD (.lst xs) .non = VL.ret (.bl true) := fun _ => rfl
  have hw : wayB ax.toNat rs = ((!rs.isEmpty && wayA rs) && wayS ax.toNat rs) := by
    unfold wayB
    rfl
  rw [hw]
  cases hA : (!rs.isEmpty && wayA rs) with
  | false =>
    rw [hA] at ta
    simp only [Bool.false_eq_true, if_false] at ta
    simp only [VL.bind, VL.ret, VL.fail, denF, denA, den1, den2, denC, consA, nilA, var, kst, seqS, nopS, ifS, retS, asgS, nameG, subG, dropS, cmpT, valT, andB, orB, notB, toB, ifD, andD, orD, notD, methD, List.map_cons, List.map_nil, List.cons_append, List.nil_append, List.length_cons, List.length_nil, List.replicate, List.getElem?_cons_zero, List.getElem?_cons_succ, List.set_cons_zero, List.set_cons_succ, List.set_nil, List.getElem?_nil, Option.map_some, Option.map_none, Option.bind_some, Option.bind_none, if_true, if_false, Bool.false_eq_true, reduceIte, Nat.reduceAdd, Nat.reduceSub, Int.reduceAdd, Int.reduceNeg, d_is_way, g_is_way, ta, n1, Bool.false_and]
  | true =>
    rw [hA] at ta
    simp only [if_true] at ta
    have h0 : rs ≠ [] := fun e => by
      subst e
      cases hA
    have z5 := comp_of (g := nameG 3) (e := den2 eqD (denA sumD (consA (lcD (seqI (var 2)) (nameG 4) yesT (den2 ixD (den2 ixD (var 4) (kst (.int 3))) (var 3)) [4] still0) nilA)) (kst (.int 0))) (ρ := wipeR [some (netD ax ns R), some (seqD b ((rs.map Row.nm).map strD')), some (.lst (rs.map Row.d)), none, none] [3]) (vh := w)
      (a := fun i : Nat => D.int (0 + (i : Nat))) (b := fun i => .bl (decide (sumA rs i = 0))) (List.range ax.toNat) (fun i hi => by
        have hi : i < ax.toNat := List.mem_range.mp hi
        refine ⟨[some (netD ax ns R), some (seqD b ((rs.map Row.nm).map strD')), some (.lst (rs.map Row.d)), some (.int (0 + (i : Nat))), none], rfl, ?_⟩
        have z6 := comp_of (g := nameG 4) (e := den2 ixD (den2 ixD (var 4) (kst (.int 3))) (var 3)) (ρ := wipeR [some (netD ax ns R), some (seqD b ((rs.map Row.nm).map strD')), some (.lst (rs.map Row.d)), some (.int (0 + (i : Nat))), none] [4]) (vh := w) (a := Row.d) (b := fun r => .int (r.step.getD i 0)) rs (fun r hr => by
          have le := G.le r (hm r hr)
          have il : i < r.step.length := by omega
          have ix : ixD (.tup (r.step.map D.int)) (.int (0 + (i : Nat))) w = some (.int (r.step.getD i 0), w) := by
            have at' : atI (r.step.map D.int) (0 + (i : Int)) = some (.int (r.step.getD i 0)) := by
              unfold atI ixN
              rw [Int.zero_add, if_pos (by omega), if_pos (by rw [List.length_map]; omega)]
              simp [il]
            show (atI _ _).map _ = _
            rw [at']
            rfl
          exact ⟨_, rfl, by simp only [VL.bind, VL.ret, VL.fail, denF, denA, den1, den2, denC, consA, nilA, var, kst, seqS, nopS, ifS, retS, asgS, nameG, subG, dropS, cmpT, valT, andB, orB, notB, toB, ifD, andD, orD, notD, methD, List.map_cons, List.map_nil, List.cons_append, List.nil_append, List.length_cons, List.length_nil, List.replicate, List.getElem?_cons_zero, List.getElem?_cons_succ, List.set_cons_zero, List.set_cons_succ, List.set_nil, List.getElem?_nil, Option.map_some, Option.map_none, Option.bind_some, Option.bind_none, if_true, if_false, Bool.false_eq_true, reduceIte, Nat.reduceAdd, Nat.reduceSub, Int.reduceAdd, Int.reduceNeg, wipeR, rw3, ix]⟩)
        have e6 := lc_eq (f := seqI (var 2)) (mk := still0) (vs := [4]) (ρ := [some (netD ax ns R), some (seqD b ((rs.map Row.nm).map strD')), some (.lst (rs.map Row.d)), some (.int (0 + (i : Nat))), none]) (vh := w) rfl (by rw [List.length_map]; show _ < 16777216; omega) z6
        have sm := sum_ints (rs.map fun r => r.step.getD i 0) w
        rw [List.map_map] at sm
        have sm : sumD [.lst (rs.map fun r => D.int (r.step.getD i 0))] w = some (.int (sumA rs i), w) := sm
        have q : ((sumA rs i == 0) : Bool) = decide (sumA rs i = 0) := rfl
        simp only [VL.bind, VL.ret, VL.fail, denF, denA, den1, den2, denC, consA, nilA, var, kst, seqS, nopS, ifS, retS, asgS, nameG, subG, dropS, cmpT, valT, andB, orB, notB, toB, ifD, andD, orD, notD, methD, List.map_cons, List.map_nil, List.cons_append, List.nil_append, List.length_cons, List.length_nil, List.replicate, List.getElem?_cons_zero, List.getElem?_cons_succ, List.set_cons_zero, List.set_cons_succ, List.set_nil, List.getElem?_nil, Option.map_some, Option.map_none, Option.bind_some, Option.bind_none, if_true, if_false, Bool.false_eq_true, reduceIte, Nat.reduceAdd, Nat.reduceSub, Int.reduceAdd, Int.reduceNeg, e6, still0, sm, eq_int, q])
    have er : rangeL 0 ax.toNat = (List.range ax.toNat).map fun i : Nat => D.int (0 + (i : Nat)) := rfl
    have e5 := lc_eq (f := argI range1It (consA (den1 (fldD 0 "axes") (var 0)) nilA)) (mk := still0) (vs := [3]) (ρ := [some (netD ax ns R), some (seqD b ((rs.map Row.nm).map strD')), some (.lst (rs.map Row.d)), none, none]) (vh := w) (by
      have a0 : 0 ≤ ax := by
        cases rs with
        | nil => exact absurd rfl h0
        | cons r rs =>
          have := G.le r (hm r (List.mem_cons_self ..))
          omega
      have := G.a1
      rw [← er]
      simp only [VL.bind, VL.ret, VL.fail, denF, denA, den1, den2, denC, consA, nilA, var, kst, seqS, nopS, ifS, retS, asgS, nameG, subG, dropS, cmpT, valT, andB, orB, notB, toB, ifD, andD, orD, notD, methD, List.map_cons, List.map_nil, List.cons_append, List.nil_append, List.length_cons, List.length_nil, List.replicate, List.getElem?_cons_zero, List.getElem?_cons_succ, List.set_cons_zero, List.set_cons_succ, List.set_nil, List.getElem?_nil, Option.map_some, Option.map_none, Option.bind_some, Option.bind_none, if_true, if_false, Bool.false_eq_true, reduceIte, Nat.reduceAdd, Nat.reduceSub, Int.reduceAdd, Int.reduceNeg, argI, net_axes, range_ok a0 (by omega : ax < 1000000000)]) (by rw [List.length_map, List.length_range]; have := G.a1; show _ < 16777216; omega) z5
    have al5 := all_bls ((List.range ax.toNat).map fun i => decide (sumA rs i = 0)) w
    rw [List.map_map] at al5
    have e5b : ((List.range ax.toNat).map fun i => decide (sumA rs i = 0)).all id = wayS ax.toNat rs := by
      rw [List.all_map]
      rfl
    rw [e5b] at al5
    have al5 : allD [.lst ((List.range ax.toNat).map fun i => D.bl (decide (sumA rs i = 0)))] w = some (.bl (wayS ax.toNat rs), w) := al5
    simp only [VL.bind, VL.ret, VL.fail, denF, denA, den1, den2, denC, consA, nilA, var, kst, seqS, nopS, ifS, retS, asgS, nameG, subG, dropS, cmpT, valT, andB, orB, notB, toB, ifD, andD, orD, notD, methD, List.map_cons, List.map_nil, List.cons_append, List.nil_append, List.length_cons, List.length_nil, List.replicate, List.getElem?_cons_zero, List.getElem?_cons_succ, List.set_cons_zero, List.set_cons_succ, List.set_nil, List.getElem?_nil, Option.map_some, Option.map_none, Option.bind_some, Option.bind_none, if_true, if_false, Bool.false_eq_true, reduceIte, Nat.reduceAdd, Nat.reduceSub, Int.reduceAdd, Int.reduceNeg, d_is_way, g_is_way, ta, n2, e5, still0, al5, Bool.true_and]
end
end K04

namespace K04
open PySem VL L2
/-! ### the law's own is_way -/
def runE (h : List Nat) : List Row → Option (List Nat)
  | [] => some h
  | r :: rs => if r.st = h then runE r.en rs else none
theorem wayA_run : ∀ (rs : List Row) (r x : Row), (((r :: rs).zip (rs ++ [x])).all fun p => decide (p.1.en = p.2.st)) = decide (runE r.st (r :: rs) = some x.st)
  | [], r, x => by
    show (decide (r.en = x.st) && true) = decide ((if r.st = r.st then some r.en else none) = some x.st)
    rw [if_pos rfl, Bool.and_true]
    simp
  | r2 :: rs, r, x => by
    have ih := wayA_run rs r2 x
    rw [List.cons_append, List.zip_cons_cons, List.all_cons, ih]
    have a : runE r.st (r :: r2 :: rs) = if r2.st = r.en then runE r2.en rs else none := by
      show (if r.st = r.st then (if r2.st = r.en then runE r2.en rs else none) else none) = _
      rw [if_pos rfl]
    have b : runE r2.st (r2 :: rs) = runE r2.en rs := by
      show (if r2.st = r2.st then runE r2.en rs else none) = _
      rw [if_pos rfl]
    rw [a, b]
    by_cases h : r.en = r2.st
    · rw [if_pos h.symm, decide_eq_true h, Bool.true_and]
    · rw [if_neg (fun e => h e.symm), decide_eq_false h]
      simp
theorem wayA_eq (r : Row) (rs : List Row) : wayA (r :: rs) = decide (runE r.st (r :: rs) = some r.st) := wayA_run rs r r
def tots (a : List Int) : List Row → List Int
  | [] => a
  | r :: rs => tots (List.zipWith (· + ·) a r.step) rs
theorem tots_ok : ∀ (rs : List Row) (a : List Int) (n : Nat), a.length = n → (∀ r ∈ rs, r.step.length = n) → (tots a rs).length = n ∧ ∀ i, i < n → (tots a rs).getD i 0 = a.getD i 0 + sumA rs i
  | [], a, n, h, _ => ⟨h, fun i _ => by show a.getD i 0 = a.getD i 0 + 0; omega⟩
  | r :: rs, a, n, h, hr => by
    have hl : r.step.length = n := hr r (List.mem_cons_self ..)
    obtain ⟨l, e⟩ := tots_ok rs (List.zipWith (· + ·) a r.step) n (by rw [List.length_zipWith]; omega) fun x hx => hr x (List.mem_cons_of_mem _ hx)
    refine ⟨l, fun i hi => ?_⟩
    show (tots (List.zipWith (· + ·) a r.step) rs).getD i 0 = _
    rw [e i hi]
    have z : (List.zipWith (· + ·) a r.step).getD i 0 = a.getD i 0 + r.step.getD i 0 := by
      have i1 : i < a.length := by omega
      have i2 : i < r.step.length := by omega
      simp [List.getElem?_zipWith, i1, i2]
    rw [z]
    show _ = a.getD i 0 + (r.step.getD i 0 + sumA rs i)
    omega
theorem any_wayS {n : Nat} {rs : List Row} (hr : ∀ r ∈ rs, r.step.length = n) : (!(tots (List.replicate n 0) rs).any fun i => decide (i ≠ 0)) = wayS n rs := by
  obtain ⟨l, e⟩ := tots_ok rs (List.replicate n 0) n (by simp) hr
  have e : ∀ i, i < n → (tots (List.replicate n 0) rs).getD i 0 = sumA rs i := fun i hi => by
    rw [e i hi]
    simp [List.getD, hi]
  cases h : wayS n rs with
  | true =>
    have h := List.all_eq_true.mp h
    rw [Bool.not_eq_true', List.any_eq_false]
    intro x hx
    obtain ⟨i, hi⟩ := List.mem_iff_getElem?.mp hx
    have il := (List.getElem?_eq_some_iff.mp hi).1
    have := h i (List.mem_range.mpr (by omega))
    have s := e i (by omega)
    rw [List.getD_eq_getElem?_getD, hi] at s
    have := of_decide_eq_true this
    simp at s ⊢
    omega
  | false =>
    have h := List.all_eq_false.mp h
    obtain ⟨i, hi, hd⟩ := h
    have il := List.mem_range.mp hi
    have s := e i il
    have nz : sumA rs i ≠ 0 := of_decide_eq_false (by simpa using hd)
    have : ((tots (List.replicate n 0) rs).any fun i => decide (i ≠ 0)) = true := by
      rw [List.any_eq_true]
      refine ⟨(tots (List.replicate n 0) rs)[i]'(by omega), List.getElem_mem _, ?_⟩
      rw [List.getD_eq_getElem?_getD, List.getElem?_eq_getElem (by omega)] at s
      simp at s ⊢
      omega
    rw [this]
    rfl
theorem way_eq (n : Nat) {r : Row} {rs : List Row} (hr : ∀ x ∈ r :: rs, x.step.length = n) : wayB n (r :: rs) = (match runE r.st (r :: rs) with
    | some e => decide (e = r.st) && !((tots (List.replicate n 0) (r :: rs)).any fun i => decide (i ≠ 0))
    | none => false) := by
  have s := any_wayS hr
  unfold wayB
  rw [wayA_eq, ← s]
  cases h : runE r.st (r :: rs) with
  | none => rfl
  | some e => simp
end K04

namespace K04
open PySem VL L2
theorem putAll_nd : ∀ (ls : List Key) (ds : List D) (ks : List Key) (vs : List D), ls.length = ds.length → ls.Nodup → (∀ k ∈ ls, k ∉ ks) → putAll ks vs ls ds = (ks ++ ls, vs ++ ds)
  | [], [], ks, vs, _, _, _ => by simp [putAll]
  | [], _ :: _, _, _, h, _, _ => by cases h
  | _ :: _, [], _, _, h, _, _ => by cases h
  | l :: ls, d :: ds, ks, vs, h, nd, no => by
    obtain ⟨n1, n2⟩ := List.nodup_cons.mp nd
    obtain ⟨p1, p2⟩ := put_new (vs := vs) (d := d) (no l (List.mem_cons_self ..))
    show putAll (putKs ks l) (putVs ks vs l d) ls ds = _
    rw [p1, p2, putAll_nd ls ds (ks ++ [l]) (vs ++ [d]) (by simpa using h) n2 (fun k hk m => by
      rcases List.mem_append.mp m with m | m
      · exact no k (List.mem_cons_of_mem _ hk) m
      · rw [List.mem_singleton.mp m] at hk
        exact n1 hk)]
    simp
theorem pairs_map {α : Type} {kf : α → Key} {kd vf : α → D} (h : ∀ x, toKey (kd x) = some (kf x)) : ∀ xs : List α, pairsOf (xs.map fun x => D.tup [kd x, vf x]) = some (xs.map kf, xs.map vf)
  | [] => rfl
  | x :: xs => by
    rw [List.map_cons]
    unfold pairsOf
    rw [h x, pairs_map h xs]
    rfl
theorem dict_rows {R : List Row} (nd : (R.map Row.nm).Nodup) (w : VH) : dictD [.lst (R.map fun r => D.tup [strD' r.nm, r.d])] w = some (.dct (R.map fun r => ky r.nm) (R.map Row.d), w) := by
  have p := pairs_map (kf := fun r : Row => ky r.nm) (kd := fun r => strD' r.nm) (vf := Row.d) (fun _ => rfl) R
  have n : (R.map fun r => ky r.nm).Nodup := by
    have : (R.map fun r => ky r.nm) = (R.map Row.nm).map ky := by rw [List.map_map]; rfl
    rw [this]
    exact nd_map (fun a b h => ky_inj h) nd
  have q := putAll_nd (R.map fun r => ky r.nm) (R.map Row.d) [] [] (by simp) n (by simp)
  unfold dictD
  simp only [p, q]
  rfl
theorem trus_ints : ∀ xs : List Int, trus (xs.map D.int) = some (xs.map fun i => i != 0)
  | [] => rfl
  | x :: xs => by
    rw [List.map_cons]
    unfold trus
    rw [trus_ints xs]
    rfl
theorem any_ints (xs : List Int) (w : VH) : anyTD [.lst (xs.map D.int)] w = some (.bl (xs.any fun i => decide (i ≠ 0)), w) := by
  unfold anyTD pureD anyTR
  simp only [lstV, Option.bind_some, trus_ints]
  show some (D.bl ((xs.map fun i => i != 0).any id), w) = _
  rw [show ((xs.map fun i => i != 0).any id) = xs.any fun i => decide (i ≠ 0) from by
    rw [List.any_map]
    congr 1
    funext i
    by_cases h : i = 0
    · subst h; rfl
    · simp [h]]
theorem zip_add : ∀ a b : List Int, (a.zip b).map (fun p => D.int (p.1 + p.2)) = (List.zipWith (· + ·) a b).map D.int
  | [], _ => rfl
  | _ :: _, [] => rfl
  | x :: a, y :: b => by
    rw [List.zip_cons_cons, List.map_cons, zip_add a b]
    rfl
section
variable {ax : Int} {ns : List (List Nat)} {R : List Row}
def rowsD (R : List Row) : D := .dct (R.map fun r => ky r.nm) (R.map Row.d)
theorem row_at (nd : (R.map Row.nm).Nodup) {r : Row} (h : r ∈ R) (w : VH) : ixD (rowsD R) (strD' r.nm) w = some (r.d, w) := by
  have v : valD (R.map fun r => ky r.nm) (R.map Row.d) (ky r.nm) = some r.d := val_row nd h
  show (valD (R.map fun r => ky r.nm) (R.map Row.d) (ky r.nm)).map _ = _
  rw [v]
  rfl
def iB : Bk := seqS (ifS (cmpT neD (den2 ixD (den2 ixD (var 2) (var 5)) (kst (.int 1))) (var 3))
  (retS (kst (.bl false))) nopS)
  (seqS (asgS (den2 ixD (den2 ixD (var 2) (var 5)) (kst (.int 2))) (nameG 3))
  (asgS (lcD (argI zipMIt (consA (var 4) (consA (den2 ixD (den2 ixD (var 2) (var 5)) (kst (.int 3))) nilA))) (unpG 2 (consG (nameG 7) (consG (nameG 8) nilG))) yesT (den2 addD (var 7) (var 8)) [7, 8] still0) (nameG 4)))
theorem iB_loop (G : NetGood ax R) (w : VH) (x0 x1 : Option D) : ∀ (rs : List Row) (h : List Nat) (a : List Int) (x5 : Option D), (∀ r ∈ rs, r ∈ R) → Nm h → a.length ≤ 1000 →
    ∃ x5' h' a', forL (nameG 5) iB ((rs.map Row.nm).map strD') [x0, x1, some (rowsD R), some (strD' h), some (.lst (a.map D.int)), x5, none, none, none] w = (match runE h rs with
      | some e => some (.nx [x0, x1, some (rowsD R), some (strD' e), some (.lst ((tots a rs).map D.int)), x5', none, none, none], w)
      | none => some (.rt (.bl false), w)) ∧ h' = x5' ∧ a' = x5'
  | [], h, a, x5, _, _, _ => ⟨x5, x5, x5, rfl, rfl, rfl⟩
  | r :: rs, h, a, x5, hm, hh, ha => by
    have hr : r ∈ R := hm r (List.mem_cons_self ..)
    have nm := G.nm r hr
    have ne := ne_str nm.st hh w
    by_cases e : r.st = h
    · have zp : zipMIt [.lst (a.map D.int), .tup (r.step.map D.int)] w = some ((a.zip r.step).map (fun p => D.tup [.int p.1, .int p.2]), w) := by
        show some (pairL (a.map D.int) (r.step.map D.int), w) = _
        unfold pairL
        rw [List.zip_map, List.map_map]
        rfl
      have z := comp_of (g := unpG 2 (consG (nameG 7) (consG (nameG 8) nilG))) (e := den2 addD (var 7) (var 8)) (ρ := wipeR [x0, x1, some (rowsD R), some (strD' r.en), some (.lst (a.map D.int)), some (strD' r.nm), none, none, none] [7, 8]) (vh := w) (a := fun p : Int × Int => D.tup [.int p.1, .int p.2]) (b := fun p => .int (p.1 + p.2)) (a.zip r.step) (fun p hp =>
        ⟨[x0, x1, some (rowsD R), some (strD' r.en), some (.lst (a.map D.int)), some (strD' r.nm), none, some (.int p.1), some (.int p.2)], rfl, by simp only [VL.bind, VL.ret, VL.fail, denF, denA, den1, den2, denC, consA, nilA, var, kst, seqS, nopS, ifS, retS, asgS, nameG, subG, dropS, cmpT, valT, andB, orB, notB, toB, ifD, andD, orD, notD, methD, List.map_cons, List.map_nil, List.cons_append, List.nil_append, List.length_cons, List.length_nil, List.replicate, List.getElem?_cons_zero, List.getElem?_cons_succ, List.set_cons_zero, List.set_cons_succ, List.set_nil, List.getElem?_nil, Option.map_some, Option.map_none, Option.bind_some, Option.bind_none, if_true, if_false, Bool.false_eq_true, reduceIte, Nat.reduceAdd, Nat.reduceSub, Int.reduceAdd, Int.reduceNeg, add_int]⟩)
      have el := lc_eq (f := argI zipMIt (consA (var 4) (consA (den2 ixD (den2 ixD (var 2) (var 5)) (kst (.int 3))) nilA))) (mk := still0) (vs := [7, 8]) (ρ := [x0, x1, some (rowsD R), some (strD' r.en), some (.lst (a.map D.int)), some (strD' r.nm), none, none, none]) (vh := w) (by
        simp only [VL.bind, VL.ret, VL.fail, denF, denA, den1, den2, denC, consA, nilA, var, kst, seqS, nopS, ifS, retS, asgS, nameG, subG, dropS, cmpT, valT, andB, orB, notB, toB, ifD, andD, orD, notD, methD, List.map_cons, List.map_nil, List.cons_append, List.nil_append, List.length_cons, List.length_nil, List.replicate, List.getElem?_cons_zero, List.getElem?_cons_succ, List.set_cons_zero, List.set_cons_succ, List.set_nil, List.getElem?_nil, Option.map_some, Option.map_none, Option.bind_some, Option.bind_none, if_true, if_false, Bool.false_eq_true, reduceIte, Nat.reduceAdd, Nat.reduceSub, Int.reduceAdd, Int.reduceNeg, argI, row_at G.nd hr, rw3, zp]) (by
          rw [List.length_map, List.length_zip]
          show min a.length _ < 16777216
          omega) z
      rw [zip_add] at el
      have st : iB [x0, x1, some (rowsD R), some (strD' h), some (.lst (a.map D.int)), some (strD' r.nm), none, none, none] w = some (.nx [x0, x1, some (rowsD R), some (strD' r.en), some (.lst ((List.zipWith (· + ·) a r.step).map D.int)), some (strD' r.nm), none, none, none], w) := by
        rw [decide_eq_true e] at ne
        simp only [VL.bind, VL.ret, VL.fail, denF, denA, den1, den2, denC, consA, nilA, var, kst, seqS, nopS, ifS, retS, asgS, nameG, subG, dropS, cmpT, valT, andB, orB, notB, toB, ifD, andD, orD, notD, methD, List.map_cons, List.map_nil, List.cons_append, List.nil_append, List.length_cons, List.length_nil, List.replicate, List.getElem?_cons_zero, List.getElem?_cons_succ, List.set_cons_zero, List.set_cons_succ, List.set_nil, List.getElem?_nil, Option.map_some, Option.map_none, Option.bind_some, Option.bind_none, if_true, if_false, Bool.false_eq_true, reduceIte, Nat.reduceAdd, Nat.reduceSub, Int.reduceAdd, Int.reduceNeg, iB, row_at G.nd hr, rw1, ne, Bool.not_true, rw2, el, still0]
      obtain ⟨x5', h', a', ih, e1, e2⟩ := iB_loop G w x0 x1 rs r.en (List.zipWith (· + ·) a r.step) (some (strD' r.nm)) (fun x hx => hm x (List.mem_cons_of_mem _ hx)) nm.en (by rw [List.length_zipWith]; omega)
      refine ⟨x5', h', a', ?_, e1, e2⟩
      have ru : runE h (r :: rs) = runE r.en rs := by
        show (if r.st = h then runE r.en rs else none) = _
        rw [if_pos e]
      rw [ru, List.map_cons, List.map_cons]
      have g1 : nameG 5 (strD' r.nm) [x0, x1, some (rowsD R), some (strD' h), some (.lst (a.map D.int)), x5, none, none, none] w = some ([x0, x1, some (rowsD R), some (strD' h), some (.lst (a.map D.int)), some (strD' r.nm), none, none, none], w) := rfl
      simp only [forL, VL.bind, g1, st]
      exact ih
    · refine ⟨x5, x5, x5, ?_, rfl, rfl⟩
      have ru : runE h (r :: rs) = none := by
        show (if r.st = h then runE r.en rs else none) = _
        rw [if_neg e]
      have st : iB [x0, x1, some (rowsD R), some (strD' h), some (.lst (a.map D.int)), some (strD' r.nm), none, none, none] w = some (.rt (.bl false), w) := by
        rw [decide_eq_false e] at ne
        simp only [VL.bind, VL.ret, VL.fail, denF, denA, den1, den2, denC, consA, nilA, var, kst, seqS, nopS, ifS, retS, asgS, nameG, subG, dropS, cmpT, valT, andB, orB, notB, toB, ifD, andD, orD, notD, methD, List.map_cons, List.map_nil, List.cons_append, List.nil_append, List.length_cons, List.length_nil, List.replicate, List.getElem?_cons_zero, List.getElem?_cons_succ, List.set_cons_zero, List.set_cons_succ, List.set_nil, List.getElem?_nil, Option.map_some, Option.map_none, Option.bind_some, Option.bind_none, if_true, if_false, Bool.false_eq_true, reduceIte, Nat.reduceAdd, Nat.reduceSub, Int.reduceAdd, Int.reduceNeg, iB, row_at G.nd hr, rw1, ne, Bool.not_false]
      rw [ru, List.map_cons, List.map_cons]
      have g1 : nameG 5 (strD' r.nm) [x0, x1, some (rowsD R), some (strD' h), some (.lst (a.map D.int)), x5, none, none, none] w = some ([x0, x1, some (rowsD R), some (strD' h), some (.lst (a.map D.int)), some (strD' r.nm), none, none, none], w) := rfl
      simp only [forL, VL.bind, g1, st]
      rfl
end
end K04

namespace K04
open PySem VL L2
theorem rep_zero (n : Nat) : (List.replicate n [D.int 0]).flatten = (List.replicate n (0 : Int)).map D.int := by
  induction n with
  | zero => rfl
  | succ n ih => rw [List.replicate_succ, List.replicate_succ, List.flatten_cons, ih]; rfl
theorem sq_rt {g h : Bk} {ρ : Rho} {vh vh' : VH} {d : D} (e : g ρ vh = some (.rt d, vh')) : seqS g h ρ vh = some (.rt d, vh') := by
  unfold seqS VL.bind
  rw [e]
  rfl
section
variable {ax : Int} {ns : List (List Nat)} {R : List Row}
theorem law_way_ok (G : NetGood ax R) (hR : R.length ≤ 1000) {rs : List Row} (hm : ∀ r ∈ rs, r ∈ R) (hl : rs.length ≤ 1000) (w : VH) :
    d__law_is_way [planD ax ns R, .lst ((rs.map Row.nm).map strD')] w = some (.bl (wayB ax.toNat rs), w) := by
  have li : isiD [.lst ((rs.map Row.nm).map strD'), .tup [.ty "list", .ty "tuple"]] w = some (.bl true, w) := isi_two (a := .lst) rfl
  by_cases h0 : rs = []
  · subst h0
    have ei : eqD (.int (([] : List D).length : Nat)) (.int 0) w = some (.bl true, w) := rfl
    simp only [List.length_nil] at ei
    simp only [List.map_nil] at li
    have e : (wayB ax.toNat []) = false := rfl
    rw [e]
    simp only [VL.bind, VL.ret, VL.fail, denF, denA, den1, den2, denC, consA, nilA, var, kst, seqS, nopS, ifS, retS, asgS, nameG, subG, dropS, cmpT, valT, andB, orB, notB, toB, ifD, andD, orD, notD, methD, List.map_cons, List.map_nil, List.cons_append, List.nil_append, List.length_cons, List.length_nil, List.replicate, List.getElem?_cons_zero, List.getElem?_cons_succ, List.set_cons_zero, List.set_cons_succ, List.set_nil, List.getElem?_nil, Option.map_some, Option.map_none, Option.bind_some, Option.bind_none, if_true, if_false, Bool.false_eq_true, reduceIte, Nat.reduceAdd, Nat.reduceSub, Int.reduceAdd, Int.reduceNeg, d__law_is_way, g__law_is_way, mkTup2, li, Bool.not_true, len_lst, ei]
  · obtain ⟨r0, rest, rfl⟩ : ∃ r0 rest, rs = r0 :: rest := by
      cases rs with
      | nil => exact absurd rfl h0
      | cons r rs => exact ⟨r, rs, rfl⟩
    have r0m : r0 ∈ R := hm r0 (List.mem_cons_self ..)
    have a0 : 0 ≤ ax := by have := G.le r0 r0m; omega
    have a1 := G.a1
    have hz : eqD (.int ((((r0 :: rest).map Row.nm).map strD').length : Nat)) (.int 0) w = some (.bl false, w) := by
      have z : (((((r0 :: rest).map Row.nm).map strD').length : Int) == 0) = false := beq_eq_false_iff_ne.mpr (by
        rw [List.length_map, List.length_map, List.length_cons]
        omega)
      rw [eq_int, z]
    -- the rows by their names
    have z1 := comp_of (g := nameG 6) (e := denA mkTup (consA (den2 ixD (var 6) (kst (.int 0))) (consA (var 6) nilA))) (ρ := wipeR [some (planD ax ns R), some (.lst (((r0 :: rest).map Row.nm).map strD')), none, none, none, none, none, none, none] [6]) (vh := w) (a := Row.d) (b := fun r => D.tup [strD' r.nm, r.d]) R (fun r hr => ⟨_, rfl, by simp only [VL.bind, VL.ret, VL.fail, denF, denA, den1, den2, denC, consA, nilA, var, kst, seqS, nopS, ifS, retS, asgS, nameG, subG, dropS, cmpT, valT, andB, orB, notB, toB, ifD, andD, orD, notD, methD, List.map_cons, List.map_nil, List.cons_append, List.nil_append, List.length_cons, List.length_nil, List.replicate, List.getElem?_cons_zero, List.getElem?_cons_succ, List.set_cons_zero, List.set_cons_succ, List.set_nil, List.getElem?_nil, Option.map_some, Option.map_none, Option.bind_some, Option.bind_none, if_true, if_false, Bool.false_eq_true, reduceIte, Nat.reduceAdd, Nat.reduceSub, Int.reduceAdd, Int.reduceNeg, wipeR, rw0, mkTup2]⟩)
    have e1 := lc_eq (f := seqI (den2 ixD (var 0) (kst (.int 2)))) (mk := still0) (vs := [6]) (ρ := [some (planD ax ns R), some (.lst (((r0 :: rest).map Row.nm).map strD')), none, none, none, none, none, none, none]) (vh := w) (by simp only [VL.bind, VL.ret, VL.fail, denF, denA, den1, den2, denC, consA, nilA, var, kst, seqS, nopS, ifS, retS, asgS, nameG, subG, dropS, cmpT, valT, andB, orB, notB, toB, ifD, andD, orD, notD, methD, List.map_cons, List.map_nil, List.cons_append, List.nil_append, List.length_cons, List.length_nil, List.replicate, List.getElem?_cons_zero, List.getElem?_cons_succ, List.set_cons_zero, List.set_cons_succ, List.set_nil, List.getElem?_nil, Option.map_some, Option.map_none, Option.bind_some, Option.bind_none, if_true, if_false, Bool.false_eq_true, reduceIte, Nat.reduceAdd, Nat.reduceSub, Int.reduceAdd, Int.reduceNeg, seqI, pl2, seqIt]) (by rw [List.length_map]; show _ < 16777216; omega) z1
    have e1d := dict_rows G.nd w
    -- all are there
    have z2 := comp_of (g := nameG 5) (e := andD (denA isiD (consA (var 5) (consA (kst (.ty "str")) nilA))) (den2 inD (var 5) (var 2))) (ρ := wipeR [some (planD ax ns R), some (.lst (((r0 :: rest).map Row.nm).map strD')), some (rowsD R), none, none, none, none, none, none] [5]) (vh := w) (a := fun r : Row => strD' r.nm) (b := fun _ => .bl true) (r0 :: rest) (fun r hr => by
      have i : inD (strD' r.nm) (rowsD R) w = some (.bl true, w) := by
        have v : valD (R.map fun r => ky r.nm) (R.map Row.d) (ky r.nm) = some r.d := val_row G.nd (hm r hr)
        show (some (valD (R.map fun r => ky r.nm) (R.map Row.d) (ky r.nm)).isSome).map _ = _
        rw [v]
        rfl
      exact ⟨_, rfl, by simp only [VL.bind, VL.ret, VL.fail, denF, denA, den1, den2, denC, consA, nilA, var, kst, seqS, nopS, ifS, retS, asgS, nameG, subG, dropS, cmpT, valT, andB, orB, notB, toB, ifD, andD, orD, notD, methD, List.map_cons, List.map_nil, List.cons_append, List.nil_append, List.length_cons, List.length_nil, List.replicate, List.getElem?_cons_zero, List.getElem?_cons_succ, List.set_cons_zero, List.set_cons_succ, List.set_nil, List.getElem?_nil, Option.map_some, Option.map_none, Option.bind_some, Option.bind_none, if_true, if_false, Bool.false_eq_true, reduceIte, Nat.reduceAdd, Nat.reduceSub, Int.reduceAdd, Int.reduceNeg, wipeR, isi_ok (d := strD' r.nm) (vh := w) rfl tn_str, isT, i]⟩)
    have em : (r0 :: rest).map (fun r : Row => strD' r.nm) = ((r0 :: rest).map Row.nm).map strD' := by rw [List.map_map]; rfl
    rw [em] at z2
    have e2 := lc_eq (f := seqI (var 1)) (mk := still0) (vs := [5]) (ρ := [some (planD ax ns R), some (.lst (((r0 :: rest).map Row.nm).map strD')), some (rowsD R), none, none, none, none, none, none]) (vh := w) rfl (by rw [List.length_map, List.length_map]; show _ < 16777216; omega) z2
    have al := any_bls_false (ds := (r0 :: rest).map fun _ => D.bl true) w (by simp)
    have i0 : ixD (.lst (((r0 :: rest).map Row.nm).map strD')) (.int 0) w = some (strD' r0.nm, w) := by
      show (atI (strD' r0.nm :: ((rest.map Row.nm).map strD')) 0).map _ = _
      unfold atI ixN
      rw [if_pos (by decide), if_pos (by rw [List.length_cons]; omega)]
      rfl
    have mz : mulD (.lst [.int 0]) (.int ax) w = some (.lst ((List.replicate ax.toNat (0 : Int)).map D.int), w) := by
      have : mulD (.lst [.int 0]) (.int ax) = VL.ret (.lst (List.replicate ax.toNat [D.int 0]).flatten) := if_pos ⟨by omega, by omega, by show 1 * ax.toNat ≤ 16777216; omega⟩
      rw [this, rep_zero]
      rfl
    have m1l : mkLst [.int 0] = VL.ret (.lst [.int 0]) := rfl
    obtain ⟨x5, _, _, ef, _⟩ := iB_loop G w (some (planD ax ns R)) (some (.lst (((r0 :: rest).map Row.nm).map strD'))) (r0 :: rest) r0.st (List.replicate ax.toNat 0) none hm (G.nm r0 r0m).st (by rw [List.length_replicate]; omega)
    have gb : g__law_is_way = seqS (ifS (orB (notB (valT (denA isiD (consA (var 1) (consA (denA mkTup (consA (kst (.ty "list")) (consA (kst (.ty "tuple")) nilA))) nilA))))) (cmpT eqD (denA lenD (consA (var 1) nilA)) (kst (.int 0)))) (retS (kst (.bl false))) nopS)
      (seqS (asgS (denA dictD (consA (lcD (seqI (den2 ixD (var 0) (kst (.int 2)))) (nameG 6) yesT (denA mkTup (consA (den2 ixD (var 6) (kst (.int 0))) (consA (var 6) nilA))) [6] still0) nilA)) (nameG 2))
      (seqS (ifS (notB (valT (denA allD (consA (lcD (seqI (var 1)) (nameG 5) yesT (andD (denA isiD (consA (var 5) (consA (kst (.ty "str")) nilA))) (den2 inD (var 5) (var 2))) [5] still0) nilA)))) (retS (kst (.bl false))) nopS)
      (seqS (parS 3 4 (consA (den2 ixD (den2 ixD (var 2) (den2 ixD (var 1) (kst (.int 0)))) (kst (.int 1))) (consA (den2 mulD (denA mkLst (consA (kst (.int 0)) nilA)) (den2 ixD (var 0) (kst (.int 0)))) nilA)))
      (seqS (forS (seqI (var 1)) (nameG 5) iB)
      (retS (andD (den2 eqD (var 3) (den2 ixD (den2 ixD (var 2) (den2 ixD (var 1) (kst (.int 0)))) (kst (.int 1)))) (den1 notD (denA anyTD (consA (var 4) nilA))))))))) := rfl
    have s1 : (ifS (orB (notB (valT (denA isiD (consA (var 1) (consA (denA mkTup (consA (kst (.ty "list")) (consA (kst (.ty "tuple")) nilA))) nilA))))) (cmpT eqD (denA lenD (consA (var 1) nilA)) (kst (.int 0)))) (retS (kst (.bl false))) nopS) [some (planD ax ns R), some (.lst (((r0 :: rest).map Row.nm).map strD')), none, none, none, none, none, none, none] w = some (.nx [some (planD ax ns R), some (.lst (((r0 :: rest).map Row.nm).map strD')), none, none, none, none, none, none, none], w) := by
      have ll := len_lst (ds := ((r0 :: rest).map Row.nm).map strD') (vh := w)
      generalize ((r0 :: rest).map Row.nm).map strD' = T at ll hz li ⊢
      simp only [VL.bind, VL.ret, VL.fail, denF, denA, den1, den2, denC, consA, nilA, var, kst, seqS, nopS, ifS, retS, asgS, nameG, subG, dropS, cmpT, valT, andB, orB, notB, toB, ifD, andD, orD, notD, methD, List.map_cons, List.map_nil, List.cons_append, List.nil_append, List.length_cons, List.length_nil, List.replicate, List.getElem?_cons_zero, List.getElem?_cons_succ, List.set_cons_zero, List.set_cons_succ, List.set_nil, List.getElem?_nil, Option.map_some, Option.map_none, Option.bind_some, Option.bind_none, if_true, if_false, Bool.false_eq_true, reduceIte, Nat.reduceAdd, Nat.reduceSub, Int.reduceAdd, Int.reduceNeg, mkTup2, li, Bool.not_true, ll, hz]
    have s2 : (asgS (denA dictD (consA (lcD (seqI (den2 ixD (var 0) (kst (.int 2)))) (nameG 6) yesT (denA mkTup (consA (den2 ixD (var 6) (kst (.int 0))) (consA (var 6) nilA))) [6] still0) nilA)) (nameG 2)) [some (planD ax ns R), some (.lst (((r0 :: rest).map Row.nm).map strD')), none, none, none, none, none, none, none] w = some (.nx [some (planD ax ns R), some (.lst (((r0 :: rest).map Row.nm).map strD')), some (rowsD R), none, none, none, none, none, none], w) := by
      generalize ((r0 :: rest).map Row.nm).map strD' = T at e1 ⊢
      simp only [VL.bind, VL.ret, VL.fail, denF, denA, den1, den2, denC, consA, nilA, var, kst, seqS, nopS, ifS, retS, asgS, nameG, subG, dropS, cmpT, valT, andB, orB, notB, toB, ifD, andD, orD, notD, methD, List.map_cons, List.map_nil, List.cons_append, List.nil_append, List.length_cons, List.length_nil, List.replicate, List.getElem?_cons_zero, List.getElem?_cons_succ, List.set_cons_zero, List.set_cons_succ, List.set_nil, List.getElem?_nil, Option.map_some, Option.map_none, Option.bind_some, Option.bind_none, if_true, if_false, Bool.false_eq_true, reduceIte, Nat.reduceAdd, Nat.reduceSub, Int.reduceAdd, Int.reduceNeg, e1, still0, e1d]
      rfl
    have s3 : (ifS (notB (valT (denA allD (consA (lcD (seqI (var 1)) (nameG 5) yesT (andD (denA isiD (consA (var 5) (consA (kst (.ty "str")) nilA))) (den2 inD (var 5) (var 2))) [5] still0) nilA)))) (retS (kst (.bl false))) nopS) [some (planD ax ns R), some (.lst (((r0 :: rest).map Row.nm).map strD')), some (rowsD R), none, none, none, none, none, none] w = some (.nx [some (planD ax ns R), some (.lst (((r0 :: rest).map Row.nm).map strD')), some (rowsD R), none, none, none, none, none, none], w) := by
      generalize ((r0 :: rest).map Row.nm).map strD' = T at e2 ⊢
      generalize ((r0 :: rest).map fun _ => D.bl true) = U at e2 al
      simp only [VL.bind, VL.ret, VL.fail, denF, denA, den1, den2, denC, consA, nilA, var, kst, seqS, nopS, ifS, retS, asgS, nameG, subG, dropS, cmpT, valT, andB, orB, notB, toB, ifD, andD, orD, notD, methD, List.map_cons, List.map_nil, List.cons_append, List.nil_append, List.length_cons, List.length_nil, List.replicate, List.getElem?_cons_zero, List.getElem?_cons_succ, List.set_cons_zero, List.set_cons_succ, List.set_nil, List.getElem?_nil, Option.map_some, Option.map_none, Option.bind_some, Option.bind_none, if_true, if_false, Bool.false_eq_true, reduceIte, Nat.reduceAdd, Nat.reduceSub, Int.reduceAdd, Int.reduceNeg, e2, still0, al, Bool.not_true]
    have s4 : (parS 3 4 (consA (den2 ixD (den2 ixD (var 2) (den2 ixD (var 1) (kst (.int 0)))) (kst (.int 1))) (consA (den2 mulD (denA mkLst (consA (kst (.int 0)) nilA)) (den2 ixD (var 0) (kst (.int 0)))) nilA))) [some (planD ax ns R), some (.lst (((r0 :: rest).map Row.nm).map strD')), some (rowsD R), none, none, none, none, none, none] w = some (.nx [some (planD ax ns R), some (.lst (((r0 :: rest).map Row.nm).map strD')), some (rowsD R), some (strD' r0.st), some (.lst ((List.replicate ax.toNat (0 : Int)).map D.int)), none, none, none, none], w) := by
      generalize ((r0 :: rest).map Row.nm).map strD' = T at i0 ⊢
      generalize (List.replicate ax.toNat (0 : Int)).map D.int = Z at mz ⊢
      simp only [VL.bind, VL.ret, VL.fail, denF, denA, den1, den2, denC, consA, nilA, var, kst, seqS, nopS, ifS, retS, asgS, nameG, subG, dropS, cmpT, valT, andB, orB, notB, toB, ifD, andD, orD, notD, methD, List.map_cons, List.map_nil, List.cons_append, List.nil_append, List.length_cons, List.length_nil, List.replicate, List.getElem?_cons_zero, List.getElem?_cons_succ, List.set_cons_zero, List.set_cons_succ, List.set_nil, List.getElem?_nil, Option.map_some, Option.map_none, Option.bind_some, Option.bind_none, if_true, if_false, Bool.false_eq_true, reduceIte, Nat.reduceAdd, Nat.reduceSub, Int.reduceAdd, Int.reduceNeg, parS, i0, row_at G.nd r0m, rw1, m1l, pl0, mz]
    have s5 : (forS (seqI (var 1)) (nameG 5) iB) [some (planD ax ns R), some (.lst (((r0 :: rest).map Row.nm).map strD')), some (rowsD R), some (strD' r0.st), some (.lst ((List.replicate ax.toNat (0 : Int)).map D.int)), none, none, none, none] w = _ := ef
    refine (show _ from ?_ : denF 9 g__law_is_way [planD ax ns R, .lst (((r0 :: rest).map Row.nm).map strD')] w = _)
    refine denF_rt ?_
    rw [gb]
    refine (sq s1).trans ((sq s2).trans ((sq s3).trans ((sq s4).trans ?_)))
    rw [way_eq ax.toNat (fun x hx => by have := G.le x (hm x hx); omega)]
    cases hrun : runE r0.st (r0 :: rest) with
    | none =>
      rw [hrun] at s5
      exact sq_rt s5
    | some e =>
      rw [hrun] at s5
      have en : Nm e := by
        have : ∀ (rs : List Row) (h e : List Nat), (∀ r ∈ rs, r ∈ R) → Nm h → runE h rs = some e → Nm e := fun rs => by
          induction rs with
          | nil => intro h e _ hh he; cases he; exact hh
          | cons r rs ih =>
            intro h e hm' hh he
            have he : (if r.st = h then runE r.en rs else none) = some e := he
            by_cases q : r.st = h
            · rw [if_pos q] at he
              exact ih r.en e (fun x hx => hm' x (List.mem_cons_of_mem _ hx)) (G.nm r (hm' r (List.mem_cons_self ..))).en he
            · rw [if_neg q] at he
              cases he
        exact this (r0 :: rest) r0.st e hm (G.nm r0 r0m).st hrun
      refine (sq s5).trans ?_
      have eq := eq_str en (G.nm r0 r0m).st w
      have an := any_ints (tots (List.replicate ax.toNat 0) (r0 :: rest)) w
      generalize ((r0 :: rest).map Row.nm).map strD' = T at i0 ⊢
      generalize tots (List.replicate ax.toNat 0) (r0 :: rest) = Z at an ⊢
      dsimp only
      by_cases q : e = r0.st
      · rw [decide_eq_true q] at eq ⊢
        simp only [VL.bind, VL.ret, VL.fail, denF, denA, den1, den2, denC, consA, nilA, var, kst, seqS, nopS, ifS, retS, asgS, nameG, subG, dropS, cmpT, valT, andB, orB, notB, toB, ifD, andD, orD, notD, methD, List.map_cons, List.map_nil, List.cons_append, List.nil_append, List.length_cons, List.length_nil, List.replicate, List.getElem?_cons_zero, List.getElem?_cons_succ, List.set_cons_zero, List.set_cons_succ, List.set_nil, List.getElem?_nil, Option.map_some, Option.map_none, Option.bind_some, Option.bind_none, if_true, if_false, Bool.false_eq_true, reduceIte, Nat.reduceAdd, Nat.reduceSub, Int.reduceAdd, Int.reduceNeg, i0, row_at G.nd r0m, rw1, eq, an, Bool.true_and]
      · rw [decide_eq_false q] at eq ⊢
        simp only [VL.bind, VL.ret, VL.fail, denF, denA, den1, den2, denC, consA, nilA, var, kst, seqS, nopS, ifS, retS, asgS, nameG, subG, dropS, cmpT, valT, andB, orB, notB, toB, ifD, andD, orD, notD, methD, List.map_cons, List.map_nil, List.cons_append, List.nil_append, List.length_cons, List.length_nil, List.replicate, List.getElem?_cons_zero, List.getElem?_cons_succ, List.set_cons_zero, List.set_cons_succ, List.set_nil, List.getElem?_nil, Option.map_some, Option.map_none, Option.bind_some, Option.bind_none, if_true, if_false, Bool.false_eq_true, reduceIte, Nat.reduceAdd, Nat.reduceSub, Int.reduceAdd, Int.reduceNeg, i0, row_at G.nd r0m, rw1, eq, Bool.false_and]
theorem same_ok (a b : Bool) (w : VH) : d__law_same 1 [.bl a, .bl b] w = some (.bl (a == b), w) := by
  have i1 : isiD [.bl b, .tup [.ty "list", .ty "tuple"]] w = some (.bl false, w) := isi_two (a := .bl) rfl
  have i2 : isiD [.bl b, .ty "int"] w = some (.bl true, w) := isi_ok (a := .bl) rfl tn_int
  have i3 : isiD [.bl a, .ty "int"] w = some (.bl true, w) := isi_ok (a := .bl) rfl tn_int
  have i4 : isiD [.bl b, .ty "bool"] w = some (.bl true, w) := isi_ok (a := .bl) rfl tn_bool
  have i5 : isiD [.bl a, .ty "bool"] w = some (.bl true, w) := isi_ok (a := .bl) rfl tn_bool
  have e1 : eqD (.bl true) (.bl true) w = some (.bl true, w) := rfl
  have e2 : eqD (.bl a) (.bl b) w = some (.bl (a == b), w) := rfl
  simp only [VL.bind, VL.ret, VL.fail, denF, denA, den1, den2, denC, consA, nilA, var, kst, seqS, nopS, ifS, retS, asgS, nameG, subG, dropS, cmpT, valT, andB, orB, notB, toB, ifD, andD, orD, notD, methD, List.map_cons, List.map_nil, List.cons_append, List.nil_append, List.length_cons, List.length_nil, List.replicate, List.getElem?_cons_zero, List.getElem?_cons_succ, List.set_cons_zero, List.set_cons_succ, List.set_nil, List.getElem?_nil, Option.map_some, Option.map_none, Option.bind_some, Option.bind_none, if_true, if_false, Bool.false_eq_true, reduceIte, Nat.reduceAdd, Nat.reduceSub, Int.reduceAdd, Int.reduceNeg, d__law_same, g__law_same, mkTup2, i1, i2, i3, i4, i5, e1, e2]
end
end K04

namespace K04
open PySem VL L2
def rrow (r : Row) : Row := ⟨114 :: 46 :: r.nm, r.en, r.st, r.step.map fun x => 0 - x⟩
def full (rows : List Row) : List Row := rows ++ rows.map rrow
theorem r_dot : (D.str "r.") = strD' [114, 46] := by
  show D.str _ = D.str _
  congr 1
theorem add_r {l : List Nat} (h : l.length ≤ 1000) : addD (.str "r.") (strD' l) = VL.ret (strD' (114 :: 46 :: l)) := by
  rw [r_dot, add_str (by simp; omega)]
  rfl
def lR : Bk := asgS (den2 addD (var 5) (lcD (seqI (var 5)) (nameG 15) yesT (denA mkTup (consA (den2 addD (kst (.str "r.")) (den2 ixD (var 15) (kst (.int 0)))) (consA (den2 ixD (var 15) (kst (.int 2))) (consA (den2 ixD (var 15) (kst (.int 1))) (consA (denA tupleD (consA (lcD (seqI (den2 ixD (var 15) (kst (.int 3)))) (nameG 17) yesT (den2 subD (kst (.int 0)) (var 17)) [17] still0) nilA)) nilA))))) [15] still0)) (nameG 5)
theorem lR_ok {rows : List Row} (hr : rows.length ≤ 500) (hn : ∀ r ∈ rows, r.nm.length ≤ 1000 ∧ r.step.length ≤ 1000) (w : VH) (x0 x1 x2 x3 x4 x6 x7 x8 x9 x10 x11 x12 x13 x14 x15 x16 x17 : Option D) :
    lR [x0, x1, x2, x3, x4, some (.lst (rows.map Row.d)), x6, x7, x8, x9, x10, x11, x12, x13, x14, x15, x16, x17] w = some (.nx [x0, x1, x2, x3, x4, some (.lst ((full rows).map Row.d)), x6, x7, x8, x9, x10, x11, x12, x13, x14, x15, x16, x17], w) := by
  have z := comp_of (g := nameG 15) (e := denA mkTup (consA (den2 addD (kst (.str "r.")) (den2 ixD (var 15) (kst (.int 0)))) (consA (den2 ixD (var 15) (kst (.int 2))) (consA (den2 ixD (var 15) (kst (.int 1))) (consA (denA tupleD (consA (lcD (seqI (den2 ixD (var 15) (kst (.int 3)))) (nameG 17) yesT (den2 subD (kst (.int 0)) (var 17)) [17] still0) nilA)) nilA)))))
    (ρ := wipeR [x0, x1, x2, x3, x4, some (.lst (rows.map Row.d)), x6, x7, x8, x9, x10, x11, x12, x13, x14, x15, x16, x17] [15]) (vh := w) (a := Row.d) (b := fun r => (rrow r).d) rows (fun r hr' => by
      obtain ⟨l1, l2⟩ := hn r hr'
      refine ⟨[x0, x1, x2, x3, x4, some (.lst (rows.map Row.d)), x6, x7, x8, x9, x10, x11, x12, x13, x14, some r.d, x16, x17], rfl, ?_⟩
      have z2 := comp_of (g := nameG 17) (e := den2 subD (kst (.int 0)) (var 17)) (ρ := wipeR [x0, x1, x2, x3, x4, some (.lst (rows.map Row.d)), x6, x7, x8, x9, x10, x11, x12, x13, x14, some r.d, x16, x17] [17]) (vh := w) (a := D.int) (b := fun x => .int (0 - x)) r.step (fun x hx => by
        have sb : subD (.int 0) (.int x) = VL.ret (.int (0 - x)) := rfl
        exact ⟨_, rfl, by simp only [VL.bind, VL.ret, VL.fail, denF, denA, den1, den2, denC, consA, nilA, var, kst, seqS, nopS, ifS, retS, asgS, nameG, subG, dropS, cmpT, valT, andB, orB, notB, toB, ifD, andD, orD, notD, methD, List.map_cons, List.map_nil, List.cons_append, List.nil_append, List.length_cons, List.length_nil, List.replicate, List.getElem?_cons_zero, List.getElem?_cons_succ, List.set_cons_zero, List.set_cons_succ, List.set_nil, List.getElem?_nil, Option.map_some, Option.map_none, Option.bind_some, Option.bind_none, if_true, if_false, Bool.false_eq_true, reduceIte, Nat.reduceAdd, Nat.reduceSub, Int.reduceAdd, Int.reduceNeg, wipeR, sb]⟩)
      have e2 := lc_eq (f := seqI (den2 ixD (var 15) (kst (.int 3)))) (mk := still0) (vs := [17]) (ρ := [x0, x1, x2, x3, x4, some (.lst (rows.map Row.d)), x6, x7, x8, x9, x10, x11, x12, x13, x14, some r.d, x16, x17]) (vh := w) (by simp only [VL.bind, VL.ret, VL.fail, denF, denA, den1, den2, denC, consA, nilA, var, kst, seqS, nopS, ifS, retS, asgS, nameG, subG, dropS, cmpT, valT, andB, orB, notB, toB, ifD, andD, orD, notD, methD, List.map_cons, List.map_nil, List.cons_append, List.nil_append, List.length_cons, List.length_nil, List.replicate, List.getElem?_cons_zero, List.getElem?_cons_succ, List.set_cons_zero, List.set_cons_succ, List.set_nil, List.getElem?_nil, Option.map_some, Option.map_none, Option.bind_some, Option.bind_none, if_true, if_false, Bool.false_eq_true, reduceIte, Nat.reduceAdd, Nat.reduceSub, Int.reduceAdd, Int.reduceNeg, seqI, rw3, seqIt]) (by rw [List.length_map]; show _ < 16777216; omega) z2
      have ad := add_r l1
      simp only [VL.bind, VL.ret, VL.fail, denF, denA, den1, den2, denC, consA, nilA, var, kst, seqS, nopS, ifS, retS, asgS, nameG, subG, dropS, cmpT, valT, andB, orB, notB, toB, ifD, andD, orD, notD, methD, List.map_cons, List.map_nil, List.cons_append, List.nil_append, List.length_cons, List.length_nil, List.replicate, List.getElem?_cons_zero, List.getElem?_cons_succ, List.set_cons_zero, List.set_cons_succ, List.set_nil, List.getElem?_nil, Option.map_some, Option.map_none, Option.bind_some, Option.bind_none, if_true, if_false, Bool.false_eq_true, reduceIte, Nat.reduceAdd, Nat.reduceSub, Int.reduceAdd, Int.reduceNeg, rw0, ad, rw2, rw1, e2, still0, tup_lst, mkTup4]
      unfold rrow Row.d
      rw [List.map_map]
      rfl)
  have e := lc_eq (f := seqI (var 5)) (mk := still0) (vs := [15]) (ρ := [x0, x1, x2, x3, x4, some (.lst (rows.map Row.d)), x6, x7, x8, x9, x10, x11, x12, x13, x14, x15, x16, x17]) (vh := w) rfl (by rw [List.length_map]; show _ < 16777216; omega) z
  have ad : addD (.lst (rows.map Row.d)) (.lst (rows.map fun r => (rrow r).d)) w = some (.lst ((full rows).map Row.d), w) := by
    show (if (rows.map Row.d).length + (rows.map fun r => (rrow r).d).length ≤ line then some (D.lst ((rows.map Row.d) ++ (rows.map fun r => (rrow r).d)), w) else none) = _
    rw [if_pos (by rw [List.length_map, List.length_map]; show _ ≤ 16777216; omega)]
    unfold full
    rw [List.map_append, List.map_map]
    rfl
  simp only [VL.bind, VL.ret, VL.fail, denF, denA, den1, den2, denC, consA, nilA, var, kst, seqS, nopS, ifS, retS, asgS, nameG, subG, dropS, cmpT, valT, andB, orB, notB, toB, ifD, andD, orD, notD, methD, List.map_cons, List.map_nil, List.cons_append, List.nil_append, List.length_cons, List.length_nil, List.replicate, List.getElem?_cons_zero, List.getElem?_cons_succ, List.set_cons_zero, List.set_cons_succ, List.set_nil, List.getElem?_nil, Option.map_some, Option.map_none, Option.bind_some, Option.bind_none, if_true, if_false, Bool.false_eq_true, reduceIte, Nat.reduceAdd, Nat.reduceSub, Int.reduceAdd, Int.reduceNeg, lR, e, still0, ad]
/-- all that the law has made for one turn -/
structure Turn (ax : Int) (ns : List (List Nat)) (rows : List Row) : Prop where
  a0 : 0 ≤ ax
  a1 : ax ≤ 4
  n0 : 0 < ns.length
  n1 : ns.length ≤ 20
  nn : ns.Nodup
  nw : ∀ l ∈ ns, Wo l
  r0 : 0 < rows.length
  r1 : rows.length ≤ 20
  rn : (rows.map Row.nm).Nodup
  ro : ∀ r ∈ rows, RowOk ns ax r ∧ Wo r.nm ∧ NoR r.nm
section
variable {ax : Int} {ns : List (List Nat)} {rows : List Row}
theorem Turn.names (T : Turn ax ns rows) : ((full rows).map Row.nm).Nodup := by
  unfold full
  rw [List.map_append, List.map_map, List.nodup_append]
  refine ⟨T.rn, ?_, ?_⟩
  · have : rows.map (Row.nm ∘ rrow) = (rows.map Row.nm).map fun l => 114 :: 46 :: l := by rw [List.map_map]; rfl
    rw [this]
    exact nd_map (fun a b h => by injection h with _ h; injection h) T.rn
  · intro a ha b hb e
    obtain ⟨r, hr, rfl⟩ := List.mem_map.mp ha
    obtain ⟨r', hr', rfl⟩ := List.mem_map.mp hb
    exact (T.ro r hr).2.2 r'.nm e
theorem Turn.row (T : Turn ax ns rows) {r : Row} (h : r ∈ full rows) : RowGood ns ax r ∧ RowNm r := by
  have base : ∀ r ∈ rows, RowGood ns ax r ∧ RowNm r := fun r h => by
    obtain ⟨o, w, _⟩ := T.ro r h
    have := o.le
    have a0 := T.a0
    have a1 := T.a1
    exact ⟨⟨w.nm, o.st, o.en, by omega, by omega⟩, ⟨w.nm, (T.nw _ o.st).nm, (T.nw _ o.en).nm⟩⟩
  rcases List.mem_append.mp h with z | z
  · exact base r z
  · obtain ⟨q, hq, rfl⟩ := List.mem_map.mp z
    obtain ⟨g, m⟩ := base q hq
    have wq := (T.ro q hq).2.1
    have nm : Nm (rrow q).nm := ⟨by show 0 < (114 :: 46 :: q.nm).length; simp, by show (114 :: 46 :: q.nm).length ≤ 1000; have := wq.n1; simp; omega, fun c hc => by
      rcases List.mem_cons.mp hc with rfl | hc
      · decide +kernel
      rcases List.mem_cons.mp hc with rfl | hc
      · decide +kernel
      exact wq.ok c hc⟩
    exact ⟨⟨nm, g.en, g.st, by rw [g.le]; simp [rrow], by have := g.l1; simp [rrow]; exact this⟩, ⟨nm, m.en, m.st⟩⟩
theorem Turn.net (T : Turn ax ns rows) : NetGood ax (full rows) := ⟨T.names, fun r h => (T.row h).1.le, fun r h => (T.row h).2, T.a1⟩
theorem Turn.len (T : Turn ax ns rows) : (full rows).length ≤ 40 := by
  unfold full
  rw [List.length_append, List.length_map]
  have := T.r1
  omega
end
end K04

namespace K04
open PySem VL L2
/-! ### the partner of a tie, by its name -/
def pn (l : List Nat) : List Nat := match l with
  | 114 :: 46 :: w => w
  | l => 114 :: 46 :: l
theorem pn_no {l : List Nat} (h : NoR l) : pn l = 114 :: 46 :: l := by
  unfold pn
  split
  · exact absurd rfl (h _)
  · rfl
theorem val_map {f : Row → D} : ∀ {R : List Row} {r : Row}, (R.map Row.nm).Nodup → r ∈ R → valD (R.map fun r => ky r.nm) (R.map f) (ky r.nm) = some (f r)
  | [], _, _, h => by cases h
  | x :: R, r, nd, h => by
    rw [List.map_cons] at nd
    obtain ⟨n1, n2⟩ := List.nodup_cons.mp nd
    rw [List.map_cons, List.map_cons]
    unfold valD
    by_cases e : ky x.nm = ky r.nm
    · rw [if_pos e]
      rcases List.mem_cons.mp h with rfl | z
      · rfl
      · exact absurd (List.mem_map_of_mem (f := Row.nm) z) (by rw [← ky_inj e]; exact n1)
    · rw [if_neg e]
      rcases List.mem_cons.mp h with rfl | z
      · exact absurd rfl e
      · exact val_map n2 z
def parO (rows : List Row) : MO := .dct ((full rows).map fun r => ky r.nm) ((full rows).map fun r => strD' (pn r.nm))
section
variable {ax : Int} {ns : List (List Nat)} {rows : List Row}
theorem Turn.partner (T : Turn ax ns rows) : ∀ {rs : List Row}, (∀ r ∈ rs, r ∈ full rows) → ∃ rs' : List Row, (∀ r ∈ rs', r ∈ full rows) ∧ rs'.map Row.nm = rs.map (fun r => pn r.nm)
  | [], _ => ⟨[], by simp, rfl⟩
  | r :: rs, h => by
    obtain ⟨rs', h1, h2⟩ := Turn.partner T (rs := rs) fun x hx => h x (List.mem_cons_of_mem _ hx)
    have : ∃ r', r' ∈ full rows ∧ r'.nm = pn r.nm := by
      rcases List.mem_append.mp (h r (List.mem_cons_self ..)) with z | z
      · exact ⟨rrow r, List.mem_append_right _ (List.mem_map_of_mem z), (pn_no (T.ro r z).2.2).symm⟩
      · obtain ⟨q, hq, rfl⟩ := List.mem_map.mp z
        exact ⟨q, List.mem_append_left _ hq, rfl⟩
    obtain ⟨r', a, b⟩ := this
    exact ⟨r' :: rs', fun x hx => by
      rcases List.mem_cons.mp hx with rfl | hx
      · exact a
      · exact h1 x hx, by rw [List.map_cons, List.map_cons, b, h2]⟩
theorem Turn.par (T : Turn ax ns rows) : parO rows = MO.dct ((rows.map fun r : Row => ky r.nm) ++ rows.map fun r : Row => ky (rrow r).nm) ((rows.map fun r : Row => strD' (rrow r).nm) ++ rows.map fun r : Row => strD' r.nm) := by
  unfold parO full
  rw [List.map_append, List.map_append, List.map_map, List.map_map]
  congr 2
  exact List.map_congr_left fun r hr => by rw [pn_no (T.ro r hr).2.2]; rfl
def c2 : Bk := asgS (denA dictMD (consA (lcD (seqI (sliceD (var 5) noI (optI (den2 fdivD (denA lenD (consA (var 5) nilA)) (kst (.int 2)))))) (nameG 15) yesT (denA mkTup (consA (den2 ixD (var 15) (kst (.int 0))) (consA (den2 addD (kst (.str "r.")) (den2 ixD (var 15) (kst (.int 0)))) nilA))) [15] still0) nilA)) (nameG 11)
def c3 : Bk := dropS (methD isDct (var 11) (consA (denA dictD (consA (lockV 11 (lcD (keysIt 11) (nameG 16) yesT (denA mkTup (consA (den2 ixD (var 11) (var 16)) (consA (var 16) nilA))) [16] still0)) nilA)) nilA) updateD)
theorem cut_to {α : Type} (xs : List α) {j : Int} (h0 : 0 ≤ j) (h1 : j ≤ xs.length) : cutL xs none (some j) = xs.take j.toNat := by
  unfold cutL HT.sIx
  simp only [List.drop_zero, Nat.sub_zero]
  rw [if_neg (by omega), Nat.min_eq_left (by omega)]
theorem cut_from {α : Type} (xs : List α) {j : Int} (h0 : 0 ≤ j) (h1 : j ≤ xs.length) : cutL xs (some j) none = xs.drop j.toNat := by
  unfold cutL HT.sIx
  simp only
  rw [if_neg (by omega), Nat.min_eq_left (by omega)]
  exact List.take_of_length_le (by rw [List.length_drop]; exact Nat.le_refl _)
theorem half {rows : List Row} : ((full rows).length : Int).fdiv 2 = (rows.length : Int) := by
  unfold full
  rw [List.length_append, List.length_map, Int.fdiv_eq_ediv_of_nonneg _ (by decide)]
  omega
def d1O (rows : List Row) : MO := .dct (rows.map fun r => ky r.nm) (rows.map fun r => strD' (rrow r).nm)
theorem c2_ok (T : Turn ax ns rows) (s : SS) (t : VH) (x0 x1 x2 x3 x4 x6 x7 x8 x9 x10 x11 x12 x13 x14 x15 x16 x17 : Option D) :
    c2 [x0, x1, x2, x3, x4, some (.lst ((full rows).map Row.d)), x6, x7, x8, x9, x10, x11, x12, x13, x14, x15, x16, x17] (s.vh t) = some (.nx [x0, x1, x2, x3, x4, some (.lst ((full rows).map Row.d)), x6, x7, x8, x9, x10, some (.ref (t.length + 2)), x12, x13, x14, x15, x16, x17], s.vh (t ++ [some (d1O rows)])) := by
  have r1 := T.r1
  have sl : slD (.lst ((full rows).map Row.d)) none (some ((rows.length : Nat) : Int)) (s.vh t) = some (.lst (rows.map Row.d), s.vh t) := by
    show some (D.lst (cutL ((full rows).map Row.d) none (some (rows.length : Int))), s.vh t) = _
    rw [cut_to _ (by omega) (by rw [List.length_map]; unfold full; rw [List.length_append]; omega)]
    unfold full
    rw [List.map_append, Int.toNat_natCast, List.take_append_of_le_length (by rw [List.length_map]; omega), List.take_of_length_le (by rw [List.length_map]; omega)]
  have z := comp_of (g := nameG 15) (e := denA mkTup (consA (den2 ixD (var 15) (kst (.int 0))) (consA (den2 addD (kst (.str "r.")) (den2 ixD (var 15) (kst (.int 0)))) nilA))) (ρ := wipeR [x0, x1, x2, x3, x4, some (.lst ((full rows).map Row.d)), x6, x7, x8, x9, x10, x11, x12, x13, x14, x15, x16, x17] [15]) (vh := s.vh t) (a := Row.d) (b := fun r => D.tup [strD' r.nm, strD' (rrow r).nm]) rows (fun r hr => by
    have ad := add_r (l := r.nm) (by have := (T.ro r hr).2.1.n1; omega)
    have e : (rrow r).nm = 114 :: 46 :: r.nm := rfl
    exact ⟨_, rfl, by rw [e]; simp only [VL.bind, VL.ret, VL.fail, denF, denA, den1, den2, denC, consA, nilA, var, kst, seqS, nopS, ifS, retS, asgS, nameG, subG, dropS, cmpT, valT, andB, orB, notB, toB, ifD, andD, orD, notD, methD, List.map_cons, List.map_nil, List.cons_append, List.nil_append, List.length_cons, List.length_nil, List.replicate, List.getElem?_cons_zero, List.getElem?_cons_succ, List.set_cons_zero, List.set_cons_succ, List.set_nil, List.getElem?_nil, Option.map_some, Option.map_none, Option.bind_some, Option.bind_none, if_true, if_false, Bool.false_eq_true, reduceIte, Nat.reduceAdd, Nat.reduceSub, Int.reduceAdd, Int.reduceNeg, wipeR, rw0, ad, mkTup2]⟩)
  have fl : fdivD (.int ((full rows).length : Nat)) (.int 2) = VL.ret (.int ((rows.length : Nat) : Int)) := by
    rw [fdiv_int (by decide) (by decide), half]
  have ll := len_map (f := Row.d) (xs := full rows) (s.vh t)
  have e := lc_eq (f := seqI (sliceD (var 5) noI (optI (den2 fdivD (denA lenD (consA (var 5) nilA)) (kst (.int 2)))))) (mk := still0) (vs := [15]) (ρ := [x0, x1, x2, x3, x4, some (.lst ((full rows).map Row.d)), x6, x7, x8, x9, x10, x11, x12, x13, x14, x15, x16, x17]) (vh := s.vh t) (by
    simp only [VL.bind, VL.ret, VL.fail, denF, denA, den1, den2, denC, consA, nilA, var, kst, seqS, nopS, ifS, retS, asgS, nameG, subG, dropS, cmpT, valT, andB, orB, notB, toB, ifD, andD, orD, notD, methD, List.map_cons, List.map_nil, List.cons_append, List.nil_append, List.length_cons, List.length_nil, List.replicate, List.getElem?_cons_zero, List.getElem?_cons_succ, List.set_cons_zero, List.set_cons_succ, List.set_nil, List.getElem?_nil, Option.map_some, Option.map_none, Option.bind_some, Option.bind_none, if_true, if_false, Bool.false_eq_true, reduceIte, Nat.reduceAdd, Nat.reduceSub, Int.reduceAdd, Int.reduceNeg, seqI, sliceD, noI, optI, ll, fl, sl, seqIt]) (by rw [List.length_map]; show _ < 16777216; omega) z
  have dm : dictMD [.lst (rows.map fun r => D.tup [strD' r.nm, strD' (rrow r).nm])] (s.vh t) = some (.ref (t.length + 2), s.vh (t ++ [some (d1O rows)])) := by
    have p := pairs_map (kf := fun r : Row => ky r.nm) (kd := fun r => strD' r.nm) (vf := fun r => strD' (rrow r).nm) (fun _ => rfl) rows
    have n : (rows.map fun r => ky r.nm).Nodup := by
      have : (rows.map fun r => ky r.nm) = (rows.map Row.nm).map ky := by rw [List.map_map]; rfl
      rw [this]
      exact nd_map (fun a b h => ky_inj h) T.rn
    have q := putAll_nd (rows.map fun r => ky r.nm) (rows.map fun r => strD' (rrow r).nm) [] [] (by simp) n (by simp)
    unfold dictMD
    simp only [p, q]
    rfl
  simp only [VL.bind, VL.ret, VL.fail, denF, denA, den1, den2, denC, consA, nilA, var, kst, seqS, nopS, ifS, retS, asgS, nameG, subG, dropS, cmpT, valT, andB, orB, notB, toB, ifD, andD, orD, notD, methD, List.map_cons, List.map_nil, List.cons_append, List.nil_append, List.length_cons, List.length_nil, List.replicate, List.getElem?_cons_zero, List.getElem?_cons_succ, List.set_cons_zero, List.set_cons_succ, List.set_nil, List.getElem?_nil, Option.map_some, Option.map_none, Option.bind_some, Option.bind_none, if_true, if_false, Bool.false_eq_true, reduceIte, Nat.reduceAdd, Nat.reduceSub, Int.reduceAdd, Int.reduceNeg, c2, e, still0, dm]
theorem c3_ok (T : Turn ax ns rows) (s : SS) (t : VH) (x0 x1 x2 x3 x4 x5 x6 x7 x8 x9 x10 x12 x13 x14 x15 x16 x17 : Option D) :
    c3 [x0, x1, x2, x3, x4, x5, x6, x7, x8, x9, x10, some (.ref (t.length + 2)), x12, x13, x14, x15, x16, x17] (s.vh (t ++ [some (d1O rows)])) = some (.nx [x0, x1, x2, x3, x4, x5, x6, x7, x8, x9, x10, some (.ref (t.length + 2)), x12, x13, x14, x15, x16, x17], s.vh (t ++ [some (parO rows)])) := by
  have r1 := T.r1
  have c0 : isDct (s.vh (t ++ [some (d1O rows)])) (.ref (t.length + 2)) = true := by
    unfold isDct
    simp only [at_end]
    rfl
  have hd : dctV (s.vh (t ++ [some (.dctL (rows.map fun r => ky r.nm) (rows.map fun r => strD' (rrow r).nm))])) (.ref (t.length + 2)) = some (rows.map fun r => ky r.nm, rows.map fun r => strD' (rrow r).nm) := by
    show dctRd _ = _
    rw [at_end]
    rfl
  have hs : seqV (s.vh (t ++ [some (.dctL (rows.map fun r => ky r.nm) (rows.map fun r => strD' (rrow r).nm))])) (.ref (t.length + 2)) = none := by
    show lstAt _ = _
    rw [at_end]
    rfl
  have z := comp_of (g := nameG 16) (e := denA mkTup (consA (den2 ixD (var 11) (var 16)) (consA (var 16) nilA))) (ρ := wipeR [x0, x1, x2, x3, x4, x5, x6, x7, x8, x9, x10, some (.ref (t.length + 2)), x12, x13, x14, x15, x16, x17] [16]) (vh := s.vh (t ++ [some (.dctL (rows.map fun r => ky r.nm) (rows.map fun r => strD' (rrow r).nm))]))
    (a := fun r : Row => strD' r.nm) (b := fun r => D.tup [strD' (rrow r).nm, strD' r.nm]) rows (fun r hr => by
      have v : valD (rows.map fun r => ky r.nm) (rows.map fun r => strD' (rrow r).nm) (ky r.nm) = some (strD' (rrow r).nm) := val_map (f := fun r => strD' (rrow r).nm) T.rn hr
      have ix : ixD (.ref (t.length + 2)) (strD' r.nm) (s.vh (t ++ [some (.dctL (rows.map fun r => ky r.nm) (rows.map fun r => strD' (rrow r).nm))])) = some (strD' (rrow r).nm, s.vh (t ++ [some (.dctL (rows.map fun r => ky r.nm) (rows.map fun r => strD' (rrow r).nm))])) := by
        have i : ixRes (s.vh (t ++ [some (.dctL (rows.map fun r => ky r.nm) (rows.map fun r => strD' (rrow r).nm))])) (.ref (t.length + 2)) (strD' r.nm) = some (strD' (rrow r).nm) := by
          unfold ixRes
          simp only [hs, hd]
          exact v
        unfold ixD
        rw [i]
        rfl
      exact ⟨_, rfl, by simp only [VL.bind, VL.ret, VL.fail, denF, denA, den1, den2, denC, consA, nilA, var, kst, seqS, nopS, ifS, retS, asgS, nameG, subG, dropS, cmpT, valT, andB, orB, notB, toB, ifD, andD, orD, notD, methD, List.map_cons, List.map_nil, List.cons_append, List.nil_append, List.length_cons, List.length_nil, List.replicate, List.getElem?_cons_zero, List.getElem?_cons_succ, List.set_cons_zero, List.set_cons_succ, List.set_nil, List.getElem?_nil, Option.map_some, Option.map_none, Option.bind_some, Option.bind_none, if_true, if_false, Bool.false_eq_true, reduceIte, Nat.reduceAdd, Nat.reduceSub, Int.reduceAdd, Int.reduceNeg, wipeR, ix, mkTup2]⟩)
  have ke : (rows.map fun r => ky r.nm).map keyD = rows.map fun r : Row => strD' r.nm := by rw [List.map_map]; rfl
  have e := lc_eq (f := keysIt 11) (mk := still0) (vs := [16]) (ρ := [x0, x1, x2, x3, x4, x5, x6, x7, x8, x9, x10, some (.ref (t.length + 2)), x12, x13, x14, x15, x16, x17]) (vh := s.vh (t ++ [some (.dctL (rows.map fun r => ky r.nm) (rows.map fun r => strD' (rrow r).nm))])) (by
    unfold keysIt
    simp only [VL.bind, VL.ret, VL.fail, denF, denA, den1, den2, denC, consA, nilA, var, kst, seqS, nopS, ifS, retS, asgS, nameG, subG, dropS, cmpT, valT, andB, orB, notB, toB, ifD, andD, orD, notD, methD, List.map_cons, List.map_nil, List.cons_append, List.nil_append, List.length_cons, List.length_nil, List.replicate, List.getElem?_cons_zero, List.getElem?_cons_succ, List.set_cons_zero, List.set_cons_succ, List.set_nil, List.getElem?_nil, Option.map_some, Option.map_none, Option.bind_some, Option.bind_none, if_true, if_false, Bool.false_eq_true, reduceIte, Nat.reduceAdd, Nat.reduceSub, Int.reduceAdd, Int.reduceNeg, hd, ke]) (by rw [List.length_map]; show _ < 16777216; omega) z
  have lk : lockV 11 (lcD (keysIt 11) (nameG 16) yesT (denA mkTup (consA (den2 ixD (var 11) (var 16)) (consA (var 16) nilA))) [16] still0) [x0, x1, x2, x3, x4, x5, x6, x7, x8, x9, x10, some (.ref (t.length + 2)), x12, x13, x14, x15, x16, x17] (s.vh (t ++ [some (d1O rows)])) = some (.lst (rows.map fun r => D.tup [strD' (rrow r).nm, strD' r.nm]), s.vh (t ++ [some (d1O rows)])) := by
    have g : ([x0, x1, x2, x3, x4, x5, x6, x7, x8, x9, x10, some (.ref (t.length + 2)), x12, x13, x14, x15, x16, x17] : Rho)[11]? = some (some (.ref (t.length + 2))) := rfl
    have a1 := at_end (s := s) (t := t) (x := some (d1O rows))
    unfold d1O at a1 ⊢
    unfold lockV
    simp only [g, a1, set_end, e, still0, VL.ret, at_end]
  have dd : ∀ w, dictD [.lst (rows.map fun r => D.tup [strD' (rrow r).nm, strD' r.nm])] w = some (.dct (rows.map fun r => ky (rrow r).nm) (rows.map fun r => strD' r.nm), w) := fun w => by
    have p := pairs_map (kf := fun r : Row => ky (rrow r).nm) (kd := fun r => strD' (rrow r).nm) (vf := fun r => strD' r.nm) (fun _ => rfl) rows
    have n : (rows.map fun r => ky (rrow r).nm).Nodup := by
      have : (rows.map fun r => ky (rrow r).nm) = (rows.map Row.nm).map fun l => ky (114 :: 46 :: l) := by rw [List.map_map]; rfl
      rw [this]
      exact nd_map (fun a b h => by have := ky_inj h; injection this with _ q; injection q) T.rn
    have q := putAll_nd (rows.map fun r => ky (rrow r).nm) (rows.map fun r => strD' r.nm) [] [] (by simp) n (by simp)
    unfold dictD
    simp only [p, q]
    rfl
  have up : updateD (.ref (t.length + 2)) [.dct (rows.map fun r => ky (rrow r).nm) (rows.map fun r => strD' r.nm)] (s.vh (t ++ [some (d1O rows)])) = some (.non, s.vh (t ++ [some (parO rows)])) := by
    have nn : ((full rows).map fun r => ky r.nm).Nodup := by
      have : ((full rows).map fun r => ky r.nm) = ((full rows).map Row.nm).map ky := by rw [List.map_map]; rfl
      rw [this]
      exact nd_map (fun a b h => ky_inj h) T.names
    unfold full at nn
    rw [List.map_append, List.map_map] at nn
    have nn : ((rows.map fun r => ky r.nm) ++ rows.map fun r => ky (rrow r).nm).Nodup := nn
    obtain ⟨_, n2, n3⟩ := List.nodup_append.mp nn
    have q := putAll_nd (rows.map fun r => ky (rrow r).nm) (rows.map fun r => strD' r.nm) (rows.map fun r => ky r.nm) (rows.map fun r => strD' (rrow r).nm) (by simp) n2 (fun k hk m => n3 k m k hk rfl)
    have a1 := at_end (s := s) (t := t) (x := some (d1O rows))
    have dv : ∀ w, dctV w (.dct (rows.map fun r => ky (rrow r).nm) (rows.map fun r => strD' r.nm)) = some (rows.map fun r => ky (rrow r).nm, rows.map fun r => strD' r.nm) := fun _ => rfl
    have ll : (rows.map fun r => ky r.nm).length + (rows.map fun r => ky (rrow r).nm).length ≤ line := by
      rw [List.length_map, List.length_map]
      show _ ≤ 16777216
      omega
    rw [T.par]
    unfold d1O at a1 ⊢
    unfold updateD
    simp only [a1, dctAt, dv, isRefN, Bool.false_eq_true, if_false, if_pos ll, q, set_end]
  simp only [VL.bind, VL.ret, VL.fail, denF, denA, den1, den2, denC, consA, nilA, var, kst, seqS, nopS, ifS, retS, asgS, nameG, subG, dropS, cmpT, valT, andB, orB, notB, toB, ifD, andD, orD, notD, methD, List.map_cons, List.map_nil, List.cons_append, List.nil_append, List.length_cons, List.length_nil, List.replicate, List.getElem?_cons_zero, List.getElem?_cons_succ, List.set_cons_zero, List.set_cons_succ, List.set_nil, List.getElem?_nil, Option.map_some, Option.map_none, Option.bind_some, Option.bind_none, if_true, if_false, Bool.false_eq_true, reduceIte, Nat.reduceAdd, Nat.reduceSub, Int.reduceAdd, Int.reduceNeg, c3, c0, lk, dd, up]
end
end K04

namespace K04
open PySem VL L2
def W (rs : List Row) : D := .lst ((rs.map Row.nm).map strD')
def c4 : Bk := asgS (denA mkLstM (consA (var 10) (consA (den2 addD (var 10) (lcD (seqI (den1 revD (var 10))) (nameG 16) yesT (den2 ixD (var 11) (var 16)) [16] still0)) (consA (den2 mulD (var 10) (kst (.int 2))) (consA (den2 addD (sliceD (var 10) (optI (kst (.int 1))) noI) (sliceD (var 10) noI (optI (kst (.int 1))))) nilA))))) (nameG 12)
def c5 : Bk := asgS (denA (denC 2 d__law_draw) (consA (var 1) (consA (den2 addD (denA lenD (consA (var 10) nilA)) (kst (.int 1))) nilA))) (nameG 13)
def c6 : Bk := dropS (methD isLst (var 12) (consA (den2 addD (den2 addD (sliceD (var 10) noI (optI (var 13))) (denA mkLst (consA (den2 ixD (denA (denC 2 d__law_pick) (consA (var 1) (consA (var 5) nilA))) (kst (.int 0))) nilA))) (sliceD (var 10) (optI (var 13)) noI)) nilA) appendD)
def c7 : Bk := ifS (notB (valT (denA (denC 2 (d__law_same 1)) (consA (denA (denC 2 d_is_way) (consA (var 7) (consA (denA (denC 2 d__law_pick) (consA (var 1) (consA (denA mkLst (consA (var 14) (consA (denA tupleD (consA (var 14) nilA)) nilA))) nilA))) nilA))) (consA (denA (denC 2 d__law_is_way) (consA (var 6) (consA (var 14) nilA))) nilA)))))
  (retS (kst (.bl false))) nopS
theorem add_W {a b : List Row} (h : a.length + b.length ≤ 1000) (w : VH) : addD (W a) (W b) w = some (W (a ++ b), w) := by
  show (if ((a.map Row.nm).map strD').length + ((b.map Row.nm).map strD').length ≤ line then some (D.lst (((a.map Row.nm).map strD') ++ ((b.map Row.nm).map strD')), w) else none) = _
  rw [if_pos (by simp only [List.length_map]; show _ ≤ 16777216; omega)]
  unfold W
  rw [List.map_append, List.map_append]
theorem mul_W {a : List Row} (h : a.length ≤ 1000) (w : VH) : mulD (W a) (.int 2) w = some (W (a ++ a), w) := by
  have : mulD (W a) (.int 2) = VL.ret (.lst (List.replicate 2 ((a.map Row.nm).map strD')).flatten) := if_pos ⟨by decide, by decide, by simp only [List.length_map]; show a.length * 2 ≤ 16777216; omega⟩
  rw [this]
  unfold W
  rw [List.map_append, List.map_append]
  show some (D.lst _, w) = _
  congr 3
  show ((a.map Row.nm).map strD') ++ (((a.map Row.nm).map strD') ++ []) = _
  rw [List.append_nil]
theorem to_W (a : List Row) {j : Int} (h0 : 0 ≤ j) (h1 : j ≤ a.length) (w : VH) : slD (W a) none (some j) w = some (W (a.take j.toNat), w) := by
  show some (D.lst (cutL ((a.map Row.nm).map strD') none (some j)), w) = _
  rw [cut_to _ h0 (by simpa using h1)]
  unfold W
  rw [List.map_take, List.map_take]
theorem from_W (a : List Row) {j : Int} (h0 : 0 ≤ j) (h1 : j ≤ a.length) (w : VH) : slD (W a) (some j) none w = some (W (a.drop j.toNat), w) := by
  show some (D.lst (cutL ((a.map Row.nm).map strD') (some j) none), w) = _
  rw [cut_from _ h0 (by simpa using h1)]
  unfold W
  rw [List.map_drop, List.map_drop]
theorem one_W (a : List Row) (w : VH) : slD (W a) (some 1) none w = some (W (a.drop 1), w) := by
  show some (D.lst (cutL ((a.map Row.nm).map strD') (some 1) none), w) = _
  rw [cut1]
  unfold W
  rw [List.map_drop, List.map_drop]
theorem top_W (a : List Row) (w : VH) : slD (W a) none (some 1) w = some (W (a.take 1), w) := by
  show some (D.lst (cutL ((a.map Row.nm).map strD') none (some 1)), w) = _
  rw [cut2]
  unfold W
  rw [List.map_take, List.map_take]
section
variable {ax : Int} {ns : List (List Nat)} {rows : List Row}
/-- a way that the law hands in -/
def In (rows : List Row) (d : D) : Prop := ∃ rs : List Row, d = W rs ∧ (∀ r ∈ rs, r ∈ full rows) ∧ rs.length ≤ 100
theorem c4_ok (T : Turn ax ns rows) {rs : List Row} (hm : ∀ r ∈ rs, r ∈ full rows) (hl : rs.length ≤ 20) (s : SS) (t : VH) (x0 x1 x2 x3 x4 x5 x6 x7 x8 x9 x12 x13 x14 x15 x16 x17 : Option D) : ∃ ds : List D, (∀ d ∈ ds, In rows d) ∧ ds.length = 4 ∧
    c4 [x0, x1, x2, x3, x4, x5, x6, x7, x8, x9, some (W rs), some (.ref (t.length + 2)), x12, x13, x14, x15, x16, x17] (s.vh (t ++ [some (parO rows)])) = some (.nx [x0, x1, x2, x3, x4, x5, x6, x7, x8, x9, some (W rs), some (.ref (t.length + 2)), some (.ref ((t ++ [some (parO rows)]).length + 2)), x13, x14, x15, x16, x17], s.vh (t ++ [some (parO rows)] ++ [some (.lst ds)])) := by
  have hm' : ∀ r ∈ rs.reverse, r ∈ full rows := fun r hr => hm r (List.mem_reverse.mp hr)
  obtain ⟨rs', p1, p2⟩ := T.partner hm'
  have l' : rs'.length = rs.length := by
    have := congrArg List.length p2
    simpa using this
  have rv : revD (W rs) (s.vh (t ++ [some (parO rows)])) = some (.lst (rs.reverse.map fun r => strD' r.nm), s.vh (t ++ [some (parO rows)])) := by
    show some (D.lst ((rs.map Row.nm).map strD').reverse, _) = _
    rw [List.map_map, ← List.map_reverse]
    rfl
  have z := comp_of (g := nameG 16) (e := den2 ixD (var 11) (var 16)) (ρ := wipeR [x0, x1, x2, x3, x4, x5, x6, x7, x8, x9, some (W rs), some (.ref (t.length + 2)), x12, x13, x14, x15, x16, x17] [16]) (vh := s.vh (t ++ [some (parO rows)])) (a := fun r : Row => strD' r.nm) (b := fun r => strD' (pn r.nm)) rs.reverse (fun r hr => by
    have v : valD ((full rows).map fun r => ky r.nm) ((full rows).map fun r => strD' (pn r.nm)) (ky r.nm) = some (strD' (pn r.nm)) := val_map (f := fun r => strD' (pn r.nm)) T.names (hm' r hr)
    have ix : ixD (.ref (t.length + 2)) (strD' r.nm) (s.vh (t ++ [some (parO rows)])) = some (strD' (pn r.nm), s.vh (t ++ [some (parO rows)])) := by
      have hd : dctV (s.vh (t ++ [some (parO rows)])) (.ref (t.length + 2)) = some ((full rows).map fun r => ky r.nm, (full rows).map fun r => strD' (pn r.nm)) := by
        show dctRd _ = _
        rw [at_end]
        rfl
      have hs : seqV (s.vh (t ++ [some (parO rows)])) (.ref (t.length + 2)) = none := by
        show lstAt _ = _
        rw [at_end]
        rfl
      have i : ixRes (s.vh (t ++ [some (parO rows)])) (.ref (t.length + 2)) (strD' r.nm) = some (strD' (pn r.nm)) := by
        unfold ixRes
        simp only [hs, hd]
        exact v
      unfold ixD
      rw [i]
      rfl
    exact ⟨_, rfl, by simp only [VL.bind, VL.ret, VL.fail, denF, denA, den1, den2, denC, consA, nilA, var, kst, seqS, nopS, ifS, retS, asgS, nameG, subG, dropS, cmpT, valT, andB, orB, notB, toB, ifD, andD, orD, notD, methD, List.map_cons, List.map_nil, List.cons_append, List.nil_append, List.length_cons, List.length_nil, List.replicate, List.getElem?_cons_zero, List.getElem?_cons_succ, List.set_cons_zero, List.set_cons_succ, List.set_nil, List.getElem?_nil, Option.map_some, Option.map_none, Option.bind_some, Option.bind_none, if_true, if_false, Bool.false_eq_true, reduceIte, Nat.reduceAdd, Nat.reduceSub, Int.reduceAdd, Int.reduceNeg, wipeR, ix]⟩)
  have ew : (rs.reverse.map fun r => strD' (pn r.nm)) = (rs'.map Row.nm).map strD' := by
    rw [p2, List.map_map]
    rfl
  rw [ew] at z
  have e := lc_eq (f := seqI (den1 revD (var 10))) (mk := still0) (vs := [16]) (ρ := [x0, x1, x2, x3, x4, x5, x6, x7, x8, x9, some (W rs), some (.ref (t.length + 2)), x12, x13, x14, x15, x16, x17]) (vh := s.vh (t ++ [some (parO rows)])) (by simp only [VL.bind, VL.ret, VL.fail, denF, denA, den1, den2, denC, consA, nilA, var, kst, seqS, nopS, ifS, retS, asgS, nameG, subG, dropS, cmpT, valT, andB, orB, notB, toB, ifD, andD, orD, notD, methD, List.map_cons, List.map_nil, List.cons_append, List.nil_append, List.length_cons, List.length_nil, List.replicate, List.getElem?_cons_zero, List.getElem?_cons_succ, List.set_cons_zero, List.set_cons_succ, List.set_nil, List.getElem?_nil, Option.map_some, Option.map_none, Option.bind_some, Option.bind_none, if_true, if_false, Bool.false_eq_true, reduceIte, Nat.reduceAdd, Nat.reduceSub, Int.reduceAdd, Int.reduceNeg, seqI, rv, seqIt]) (by rw [List.length_map, List.length_reverse]; show _ < 16777216; omega) z
  have e : lcD (seqI (den1 revD (var 10))) (nameG 16) yesT (den2 ixD (var 11) (var 16)) [16] still0 [x0, x1, x2, x3, x4, x5, x6, x7, x8, x9, some (W rs), some (.ref (t.length + 2)), x12, x13, x14, x15, x16, x17] (s.vh (t ++ [some (parO rows)])) = some (W rs', s.vh (t ++ [some (parO rows)])) := e
  refine ⟨[W rs, W (rs ++ rs'), W (rs ++ rs), W (rs.drop 1 ++ rs.take 1)], ?_, rfl, ?_⟩
  · intro d hd
    simp only [List.mem_cons, List.not_mem_nil, or_false] at hd
    rcases hd with rfl | rfl | rfl | rfl
    · exact ⟨_, rfl, hm, by omega⟩
    · exact ⟨_, rfl, fun r hr => (List.mem_append.mp hr).elim (hm r) (p1 r), by simp; omega⟩
    · exact ⟨_, rfl, fun r hr => (List.mem_append.mp hr).elim (hm r) (hm r), by simp; omega⟩
    · exact ⟨_, rfl, fun r hr => (List.mem_append.mp hr).elim (fun h => hm r (List.mem_of_mem_drop h)) (fun h => hm r (List.mem_of_mem_take h)), by simp; omega⟩
  have a1 := add_W (a := rs) (b := rs') (by omega) (s.vh (t ++ [some (parO rows)]))
  have a2 := mul_W (a := rs) (by omega) (s.vh (t ++ [some (parO rows)]))
  have a3 := one_W rs (s.vh (t ++ [some (parO rows)]))
  have a4 := top_W rs (s.vh (t ++ [some (parO rows)]))
  have a5 := add_W (a := rs.drop 1) (b := rs.take 1) (by simp; omega) (s.vh (t ++ [some (parO rows)]))
  have nw : mkLstM [W rs, W (rs ++ rs'), W (rs ++ rs), W (rs.drop 1 ++ rs.take 1)] (s.vh (t ++ [some (parO rows)])) = some (.ref ((t ++ [some (parO rows)]).length + 2), s.vh (t ++ [some (parO rows)] ++ [some (.lst [W rs, W (rs ++ rs'), W (rs ++ rs), W (rs.drop 1 ++ rs.take 1)])])) := rfl
  simp only [VL.bind, VL.ret, VL.fail, denF, denA, den1, den2, denC, consA, nilA, var, kst, seqS, nopS, ifS, retS, asgS, nameG, subG, dropS, cmpT, valT, andB, orB, notB, toB, ifD, andD, orD, notD, methD, List.map_cons, List.map_nil, List.cons_append, List.nil_append, List.length_cons, List.length_nil, List.replicate, List.getElem?_cons_zero, List.getElem?_cons_succ, List.set_cons_zero, List.set_cons_succ, List.set_nil, List.getElem?_nil, Option.map_some, Option.map_none, Option.bind_some, Option.bind_none, if_true, if_false, Bool.false_eq_true, reduceIte, Nat.reduceAdd, Nat.reduceSub, Int.reduceAdd, Int.reduceNeg, c4, e, a1, a2, sliceD, optI, noI, a3, a4, a5, nw]
theorem c56_ok (T : Turn ax ns rows) {rs : List Row} (hm : ∀ r ∈ rs, r ∈ full rows) (hl : rs.length ≤ 20) {s : SS} {u : VH} {k : Nat} (h : s.Ok k) (hk : k < 100000000) {ds : List D} (hd : ds.length = 4) (hds : ∀ d ∈ ds, In rows d) (x0 x2 x3 x4 x6 x7 x8 x9 x11 x13 x14 x15 x16 x17 : Option D) : ∃ (ds' : List D) (s' : SS) (y13 : Option D), (∀ d ∈ ds', In rows d) ∧ ds'.length = 5 ∧ s'.Ok (k + 2) ∧
    seqS c5 (seqS c6 (stillS 12)) [x0, some (.ref 1), x2, x3, x4, some (.lst ((full rows).map Row.d)), x6, x7, x8, x9, some (W rs), x11, some (.ref (u.length + 2)), x13, x14, x15, x16, x17] (s.vh (u ++ [some (.lst ds)])) =
      some (.nx [x0, some (.ref 1), x2, x3, x4, some (.lst ((full rows).map Row.d)), x6, x7, x8, x9, some (W rs), x11, some (.lst ds'), y13, x14, x15, x16, x17], s'.vh (u ++ [none])) := by
  have lW : ∀ w, lenD [W rs] w = some (.int (rs.length : Nat), w) := fun w => by
    show some (D.int (((rs.map Row.nm).map strD').length : Nat), w) = _
    rw [List.length_map, List.length_map]
  obtain ⟨j, s1, e1, j0, j1, o1⟩ := draw_ok (t := u ++ [some (.lst ds)]) h (by omega) (n := (rs.length : Nat) + 1) (by omega) (by omega)
  have tl := T.len
  have tr := T.r0
  obtain ⟨d, s2, e2, hd2, o2⟩ := pick_lst (t := u ++ [some (.lst ds)]) o1 (by omega) (ds := (full rows).map Row.d) (by rw [List.length_map]; unfold full; rw [List.length_append]; omega) (by rw [List.length_map]; omega)
  obtain ⟨r, hr, er⟩ := List.mem_map.mp hd2
  subst er
  have f5 : c5 [x0, some (.ref 1), x2, x3, x4, some (.lst ((full rows).map Row.d)), x6, x7, x8, x9, some (W rs), x11, some (.ref (u.length + 2)), x13, x14, x15, x16, x17] (s.vh (u ++ [some (.lst ds)])) = some (.nx [x0, some (.ref 1), x2, x3, x4, some (.lst ((full rows).map Row.d)), x6, x7, x8, x9, some (W rs), x11, some (.ref (u.length + 2)), some (.int j), x14, x15, x16, x17], s1.vh (u ++ [some (.lst ds)])) := by
    simp only [VL.bind, VL.ret, VL.fail, denF, denA, den1, den2, denC, consA, nilA, var, kst, seqS, nopS, ifS, retS, asgS, nameG, subG, dropS, cmpT, valT, andB, orB, notB, toB, ifD, andD, orD, notD, methD, List.map_cons, List.map_nil, List.cons_append, List.nil_append, List.length_cons, List.length_nil, List.replicate, List.getElem?_cons_zero, List.getElem?_cons_succ, List.set_cons_zero, List.set_cons_succ, List.set_nil, List.getElem?_nil, Option.map_some, Option.map_none, Option.bind_some, Option.bind_none, if_true, if_false, Bool.false_eq_true, reduceIte, Nat.reduceAdd, Nat.reduceSub, Int.reduceAdd, Int.reduceNeg, c5, lW, add_int, e1]
  have m1 : mkLst [strD' r.nm] = VL.ret (W [r]) := rfl
  have a1 := fun w => to_W rs j0 (by omega : j ≤ rs.length) w
  have a2 := fun w => from_W rs j0 (by omega : j ≤ rs.length) w
  have a3 := fun w => add_W (a := rs.take j.toNat) (b := [r]) (by simp; omega) w
  have a4 := fun w => add_W (a := rs.take j.toNat ++ [r]) (b := rs.drop j.toNat) (by simp; omega) w
  have cl : ∀ s : SS, isLst (s.vh (u ++ [some (.lst ds)])) (.ref (u.length + 2)) = true := fun s => isl_mid (v := [])
  have ap := app_end (s := s2) (t := u) (xs := ds) (d := W (rs.take j.toNat ++ [r] ++ rs.drop j.toNat)) (by rw [hd]; decide)
  have f6 : c6 [x0, some (.ref 1), x2, x3, x4, some (.lst ((full rows).map Row.d)), x6, x7, x8, x9, some (W rs), x11, some (.ref (u.length + 2)), some (.int j), x14, x15, x16, x17] (s1.vh (u ++ [some (.lst ds)])) = some (.nx [x0, some (.ref 1), x2, x3, x4, some (.lst ((full rows).map Row.d)), x6, x7, x8, x9, some (W rs), x11, some (.ref (u.length + 2)), some (.int j), x14, x15, x16, x17], s2.vh (u ++ [some (.lst (ds ++ [W (rs.take j.toNat ++ [r] ++ rs.drop j.toNat)]))])) := by
    simp only [VL.bind, VL.ret, VL.fail, denF, denA, den1, den2, denC, consA, nilA, var, kst, seqS, nopS, ifS, retS, asgS, nameG, subG, dropS, cmpT, valT, andB, orB, notB, toB, ifD, andD, orD, notD, methD, List.map_cons, List.map_nil, List.cons_append, List.nil_append, List.length_cons, List.length_nil, List.replicate, List.getElem?_cons_zero, List.getElem?_cons_succ, List.set_cons_zero, List.set_cons_succ, List.set_nil, List.getElem?_nil, Option.map_some, Option.map_none, Option.bind_some, Option.bind_none, if_true, if_false, Bool.false_eq_true, reduceIte, Nat.reduceAdd, Nat.reduceSub, Int.reduceAdd, Int.reduceNeg, c6, cl, sliceD, noI, optI, a1, e2, rw0, m1, a3, a2, a4, ap]
  have st := still_mid (s := s2) (u := u) (v := []) (xs := ds ++ [W (rs.take j.toNat ++ [r] ++ rs.drop j.toNat)])
  have f7 : stillS 12 [x0, some (.ref 1), x2, x3, x4, some (.lst ((full rows).map Row.d)), x6, x7, x8, x9, some (W rs), x11, some (.ref (u.length + 2)), some (.int j), x14, x15, x16, x17] (s2.vh (u ++ [some (.lst (ds ++ [W (rs.take j.toNat ++ [r] ++ rs.drop j.toNat)]))])) = some (.nx [x0, some (.ref 1), x2, x3, x4, some (.lst ((full rows).map Row.d)), x6, x7, x8, x9, some (W rs), x11, some (.lst (ds ++ [W (rs.take j.toNat ++ [r] ++ rs.drop j.toNat)])), some (.int j), x14, x15, x16, x17], s2.vh (u ++ [none])) := by
    unfold stillS
    simp only [VL.bind, VL.ret, VL.fail, denF, denA, den1, den2, denC, consA, nilA, var, kst, seqS, nopS, ifS, retS, asgS, nameG, subG, dropS, cmpT, valT, andB, orB, notB, toB, ifD, andD, orD, notD, methD, List.map_cons, List.map_nil, List.cons_append, List.nil_append, List.length_cons, List.length_nil, List.replicate, List.getElem?_cons_zero, List.getElem?_cons_succ, List.set_cons_zero, List.set_cons_succ, List.set_nil, List.getElem?_nil, Option.map_some, Option.map_none, Option.bind_some, Option.bind_none, if_true, if_false, Bool.false_eq_true, reduceIte, Nat.reduceAdd, Nat.reduceSub, Int.reduceAdd, Int.reduceNeg, st]
  refine ⟨ds ++ [W (rs.take j.toNat ++ [r] ++ rs.drop j.toNat)], s2, some (.int j), fun d hd' => ?_, by simp [hd], o2, (sq f5).trans ((sq f6).trans f7)⟩
  rcases List.mem_append.mp hd' with z | z
  · exact hds d z
  · rw [List.mem_singleton.mp z]
    refine ⟨_, rfl, fun x hx => ?_, by simp; omega⟩
    rcases List.mem_append.mp hx with q | q
    · rcases List.mem_append.mp q with q | q
      · exact hm x (List.mem_of_mem_take q)
      · rw [List.mem_singleton.mp q]; exact hr
    · exact hm x (List.mem_of_mem_drop q)
theorem c7_ok (T : Turn ax ns rows) {s : SS} {u : VH} {k : Nat} (h : s.Ok k) (hk : k < 100000000) {d : D} (hd : In rows d) (x0 x2 x3 x4 x5 x8 x9 x10 x11 x12 x13 x15 x16 x17 : Option D) : ∃ s' : SS, s'.Ok (k + 1) ∧
    c7 [x0, some (.ref 1), x2, x3, x4, x5, some (planD ax ns (full rows)), some (netD ax ns (full rows)), x8, x9, x10, x11, x12, x13, some d, x15, x16, x17] (s.vh u) = some (.nx [x0, some (.ref 1), x2, x3, x4, x5, some (planD ax ns (full rows)), some (netD ax ns (full rows)), x8, x9, x10, x11, x12, x13, some d, x15, x16, x17], s'.vh u) := by
  obtain ⟨rs, rfl, hm, hl⟩ := hd
  obtain ⟨x, s1, e1, hx, o1⟩ := pick_lst (t := u) h (by omega) (ds := [seqD false ((rs.map Row.nm).map strD'), seqD true ((rs.map Row.nm).map strD')]) (by simp) (by simp)
  have tu : ∀ w, tupleD [W rs] w = some (seqD true ((rs.map Row.nm).map strD'), w) := fun _ => rfl
  have ml : ∀ a b : D, mkLst [a, b] = VL.ret (.lst [a, b]) := fun _ _ => rfl
  have tl := T.len
  have lw := law_way_ok (ns := ns) T.net (by omega) hm (by omega) (s1.vh u)
  have lw : d__law_is_way [planD ax ns (full rows), W rs] (s1.vh u) = some (.bl (wayB ax.toNat rs), s1.vh u) := lw
  obtain ⟨b, rfl⟩ : ∃ b, x = seqD b ((rs.map Row.nm).map strD') := by
    simp only [List.mem_cons, List.not_mem_nil, or_false] at hx
    rcases hx with rfl | rfl
    · exact ⟨false, rfl⟩
    · exact ⟨true, rfl⟩
  have iw := is_way_ok (ns := ns) T.net b hm (by omega) (s1.vh u)
  have e1 : d__law_pick [.ref 1, .lst [W rs, seqD true ((rs.map Row.nm).map strD')]] (s.vh u) = some (seqD b ((rs.map Row.nm).map strD'), s1.vh u) := e1
  have sm := same_ok (wayB ax.toNat rs) (wayB ax.toNat rs) (s1.vh u)
  rw [beq_self_eq_true] at sm
  exact ⟨s1, o1, by simp only [VL.bind, VL.ret, VL.fail, denF, denA, den1, den2, denC, consA, nilA, var, kst, seqS, nopS, ifS, retS, asgS, nameG, subG, dropS, cmpT, valT, andB, orB, notB, toB, ifD, andD, orD, notD, methD, List.map_cons, List.map_nil, List.cons_append, List.nil_append, List.length_cons, List.length_nil, List.replicate, List.getElem?_cons_zero, List.getElem?_cons_succ, List.set_cons_zero, List.set_cons_succ, List.set_nil, List.getElem?_nil, Option.map_some, Option.map_none, Option.bind_some, Option.bind_none, if_true, if_false, Bool.false_eq_true, reduceIte, Nat.reduceAdd, Nat.reduceSub, Int.reduceAdd, Int.reduceNeg, c7, tu, ml, e1, iw, lw, sm, Bool.not_true]⟩
end
end K04

namespace K04
open PySem VL L2
theorem seq_assoc (a b c : Bk) : seqS (seqS a b) c = seqS a (seqS b c) := by
  funext ρ
  unfold seqS
  rw [bind_assoc]
  congr 1
  funext o
  cases o <;> rfl
def c1 : Bk := asgS (denA (denC 3 d__law_gone) (consA (var 1) (consA (var 6) (consA (den2 addD (kst (.int 1)) (denA (denC 2 d__law_draw) (consA (var 1) (consA (kst (.int 6)) nilA)))) nilA)))) (nameG 10)
def cB : Bk := seqS c1 (seqS c2 (seqS c3 (seqS c4 (seqS c5 (seqS c6 (seqS (stillS 12) (forS (seqI (var 12)) (nameG 14) c7)))))))
section
variable {ax : Int} {ns : List (List Nat)} {rows : List Row}
theorem c7_loop (T : Turn ax ns rows) {s : SS} {u : VH} {k : Nat} (h : s.Ok k) (hk : k < 10000000) {ds : List D} (hl : ds.length = 5) (hds : ∀ d ∈ ds, In rows d) (x0 x2 x3 x4 x5 x8 x9 x10 x11 x13 x14 x15 x16 x17 : Option D) : ∃ (s' : SS) (y14 : Option D), s'.Ok (k + 5) ∧
    forS (seqI (var 12)) (nameG 14) c7 [x0, some (.ref 1), x2, x3, x4, x5, some (planD ax ns (full rows)), some (netD ax ns (full rows)), x8, x9, x10, x11, some (.lst ds), x13, x14, x15, x16, x17] (s.vh u) = some (.nx [x0, some (.ref 1), x2, x3, x4, x5, some (planD ax ns (full rows)), some (netD ax ns (full rows)), x8, x9, x10, x11, some (.lst ds), x13, y14, x15, x16, x17], s'.vh u) := by
  obtain ⟨ρ', vh', e, y14, s', rfl, rfl, ho⟩ := for_inv (g := nameG 14) (b := c7) (items := ds) (ρ := [x0, some (.ref 1), x2, x3, x4, x5, some (planD ax ns (full rows)), some (netD ax ns (full rows)), x8, x9, x10, x11, some (.lst ds), x13, x14, x15, x16, x17]) (vh := s.vh u)
    (fun i ρ w => ∃ (y14 : Option D) (s' : SS), ρ = [x0, some (.ref 1), x2, x3, x4, x5, some (planD ax ns (full rows)), some (netD ax ns (full rows)), x8, x9, x10, x11, some (.lst ds), x13, y14, x15, x16, x17] ∧ w = s'.vh u ∧ s'.Ok (k + i)) ⟨x14, s, rfl, rfl, h⟩ (fun i d ρ w hd ⟨y14, s1, e1, e2, ho⟩ => by
      subst e1 e2
      have hi := (List.getElem?_eq_some_iff.mp hd).1
      obtain ⟨s2, o2, f⟩ := c7_ok (ns := ns) T (u := u) ho (by omega) (hds d (List.mem_of_getElem? hd)) x0 x2 x3 x4 x5 x8 x9 x10 x11 (some (.lst ds)) x13 x15 x16 x17
      exact ⟨_, _, _, rfl, f, some d, s2, rfl, rfl, o2⟩)
  rw [hl] at ho
  refine ⟨s', y14, ho, ?_⟩
  have es : seqI (var 12) [x0, some (.ref 1), x2, x3, x4, x5, some (planD ax ns (full rows)), some (netD ax ns (full rows)), x8, x9, x10, x11, some (.lst ds), x13, x14, x15, x16, x17] (s.vh u) = some (ds, s.vh u) := rfl
  unfold forS VL.bind
  rw [es]
  exact e
theorem cB_ok (T : Turn ax ns rows) {s : SS} {t : VH} {k : Nat} (h : s.Ok k) (hk : k < 1000000) (x0 x2 x3 x4 x8 x9 x10 x11 x12 x13 x14 x15 x16 x17 : Option D) : ∃ (s' : SS) (t' : VH) (y10 y11 y12 y13 y14 : Option D), s'.Ok (k + 300) ∧
    cB [x0, some (.ref 1), x2, x3, x4, some (.lst ((full rows).map Row.d)), some (planD ax ns (full rows)), some (netD ax ns (full rows)), x8, x9, x10, x11, x12, x13, x14, x15, x16, x17] (s.vh t) =
      some (.nx [x0, some (.ref 1), x2, x3, x4, some (.lst ((full rows).map Row.d)), some (planD ax ns (full rows)), some (netD ax ns (full rows)), x8, x9, y10, y11, y12, y13, y14, x15, x16, x17], s'.vh t') := by
  obtain ⟨j, s1, e1, j0, j1, o1⟩ := draw_ok (t := t) h (by omega) (n := 6) (by decide) (by decide)
  have tl := T.len
  have tn := T.n1
  obtain ⟨rs, s2, e2, hm, hl, o2⟩ := gone_ok (t := t) (ax := ax) (ns := ns) (R := full rows) o1 (by omega) T.n0 (by omega) (by omega) (fun l hl => (T.nw l hl).nm) (fun r hr => (T.row hr).2) (m := 1 + j) (by omega) (by omega)
  have f1 : c1 [x0, some (.ref 1), x2, x3, x4, some (.lst ((full rows).map Row.d)), some (planD ax ns (full rows)), some (netD ax ns (full rows)), x8, x9, x10, x11, x12, x13, x14, x15, x16, x17] (s.vh t) = some (.nx [x0, some (.ref 1), x2, x3, x4, some (.lst ((full rows).map Row.d)), some (planD ax ns (full rows)), some (netD ax ns (full rows)), x8, x9, some (W rs), x11, x12, x13, x14, x15, x16, x17], s2.vh t) := by
    simp only [VL.bind, VL.ret, VL.fail, denF, denA, den1, den2, denC, consA, nilA, var, kst, seqS, nopS, ifS, retS, asgS, nameG, subG, dropS, cmpT, valT, andB, orB, notB, toB, ifD, andD, orD, notD, methD, List.map_cons, List.map_nil, List.cons_append, List.nil_append, List.length_cons, List.length_nil, List.replicate, List.getElem?_cons_zero, List.getElem?_cons_succ, List.set_cons_zero, List.set_cons_succ, List.set_nil, List.getElem?_nil, Option.map_some, Option.map_none, Option.bind_some, Option.bind_none, if_true, if_false, Bool.false_eq_true, reduceIte, Nat.reduceAdd, Nat.reduceSub, Int.reduceAdd, Int.reduceNeg, c1, e1, add_int, e2]
    rfl
  have f2 := c2_ok T s2 t x0 (some (.ref 1)) x2 x3 x4 (some (planD ax ns (full rows))) (some (netD ax ns (full rows))) x8 x9 (some (W rs)) x11 x12 x13 x14 x15 x16 x17
  have f3 := c3_ok T s2 t x0 (some (.ref 1)) x2 x3 x4 (some (.lst ((full rows).map Row.d))) (some (planD ax ns (full rows))) (some (netD ax ns (full rows))) x8 x9 (some (W rs)) x12 x13 x14 x15 x16 x17
  obtain ⟨ds, hds, dl, f4⟩ := c4_ok T hm (by omega) s2 t x0 (some (.ref 1)) x2 x3 x4 (some (.lst ((full rows).map Row.d))) (some (planD ax ns (full rows))) (some (netD ax ns (full rows))) x8 x9 x12 x13 x14 x15 x16 x17
  obtain ⟨ds', s3, y13, hds', dl', o3, f5⟩ := c56_ok T hm (by omega) (u := t ++ [some (parO rows)]) o2 (by omega) dl hds x0 x2 x3 x4 (some (planD ax ns (full rows))) (some (netD ax ns (full rows))) x8 x9 (some (.ref (t.length + 2))) x13 x14 x15 x16 x17
  obtain ⟨s4, y14, o4, f6⟩ := c7_loop (ns := ns) T (u := t ++ [some (parO rows)] ++ [none]) o3 (by omega) dl' hds' x0 x2 x3 x4 (some (.lst ((full rows).map Row.d))) x8 x9 (some (W rs)) (some (.ref (t.length + 2))) y13 x14 x15 x16 x17
  refine ⟨s4, t ++ [some (parO rows)] ++ [none], some (W rs), some (.ref (t.length + 2)), some (.lst ds'), y13, y14, o4.mono (by omega), ?_⟩
  unfold cB
  refine (sq f1).trans ((sq f2).trans ((sq f3).trans ((sq f4).trans ?_)))
  rw [← seq_assoc c6, ← seq_assoc c5]
  exact (sq f5).trans f6
/-! ### what is no way -/
theorem none_way {x d : D} {w : VH} (h : d_ties_around [x, d] w = some (.non, w)) : d_is_way [x, d] w = some (.bl false, w) := by
  have n1 : isNotD .non .non = VL.ret (.bl false) := rfl
  simp only [VL.bind, VL.ret, VL.fail, denF, denA, den1, den2, denC, consA, nilA, var, kst, seqS, nopS, ifS, retS, asgS, nameG, subG, dropS, cmpT, valT, andB, orB, notB, toB, ifD, andD, orD, notD, methD, List.map_cons, List.map_nil, List.cons_append, List.nil_append, List.length_cons, List.length_nil, List.replicate, List.getElem?_cons_zero, List.getElem?_cons_succ, List.set_cons_zero, List.set_cons_succ, List.set_nil, List.getElem?_nil, Option.map_some, Option.map_none, Option.bind_some, Option.bind_none, if_true, if_false, Bool.false_eq_true, reduceIte, Nat.reduceAdd, Nat.reduceSub, Int.reduceAdd, Int.reduceNeg, d_is_way, g_is_way, h, n1]
theorem odd_flat {R : List Row} {d : D} {w : VH} {a : Tn} (h : tnD w d = some a) (h2 : (isT a .lst || isT a .tup) = false) : d_is_way [netD ax ns R, d] w = some (.bl false, w) := by
  have li := list_ok h
  rw [h2] at li
  exact none_way (by simp only [VL.bind, VL.ret, VL.fail, denF, denA, den1, den2, denC, consA, nilA, var, kst, seqS, nopS, ifS, retS, asgS, nameG, subG, dropS, cmpT, valT, andB, orB, notB, toB, ifD, andD, orD, notD, methD, List.map_cons, List.map_nil, List.cons_append, List.nil_append, List.length_cons, List.length_nil, List.replicate, List.getElem?_cons_zero, List.getElem?_cons_succ, List.set_cons_zero, List.set_cons_succ, List.set_nil, List.getElem?_nil, Option.map_some, Option.map_none, Option.bind_some, Option.bind_none, if_true, if_false, Bool.false_eq_true, reduceIte, Nat.reduceAdd, Nat.reduceSub, Int.reduceAdd, Int.reduceNeg, d_ties_around, g_ties_around, li, Bool.not_false])
theorem odd_one {R : List Row} {x : D} {w : VH} (h : d_Net___contains__ [netD ax ns R, x] w = some (.bl false, w)) : d_is_way [netD ax ns R, .lst [x]] w = some (.bl false, w) := by
  have li : d_is_list [.lst [x]] w = some (.bl true, w) := list_ok (d := .lst [x]) (vh := w) (a := .lst) rfl
  have l1 : lenD [.lst [x]] w = some (.int 1, w) := rfl
  have e1 : eqD (.int 1) (.int 0) w = some (.bl false, w) := rfl
  have io : VL.isObj 0 w (netD ax ns R) = true := by unfold VL.isObj; rw [net_obj]; rfl
  have dn : denC 2 d_Net___contains__ [netD ax ns R, x] = d_Net___contains__ [netD ax ns R, x] := if_pos rfl
  have c : chkO 0 (ownInD d_Net___contains__) x (netD ax ns R) w = some (.bl false, w) := by
    unfold chkO ownInD
    rw [if_pos io, dn]
    unfold VL.bind
    rw [h]
    rfl
  have z := comp_map (g := nameG 3) (e := den2 (chkO 0 (ownInD d_Net___contains__)) (var 3) (var 0)) (ρ := wipeR [some (netD ax ns R), some (.lst [x]), none, none, none, none] [3]) (vh := w) (f := fun _ => .bl false) [x] (fun d hd => by
    rw [List.mem_singleton.mp hd]
    exact ⟨_, rfl, by simp only [VL.bind, VL.ret, VL.fail, denF, denA, den1, den2, denC, consA, nilA, var, kst, seqS, nopS, ifS, retS, asgS, nameG, subG, dropS, cmpT, valT, andB, orB, notB, toB, ifD, andD, orD, notD, methD, List.map_cons, List.map_nil, List.cons_append, List.nil_append, List.length_cons, List.length_nil, List.replicate, List.getElem?_cons_zero, List.getElem?_cons_succ, List.set_cons_zero, List.set_cons_succ, List.set_nil, List.getElem?_nil, Option.map_some, Option.map_none, Option.bind_some, Option.bind_none, if_true, if_false, Bool.false_eq_true, reduceIte, Nat.reduceAdd, Nat.reduceSub, Int.reduceAdd, Int.reduceNeg, wipeR, c]⟩)
  have e := lc_eq (f := seqI (var 1)) (mk := still0) (vs := [3]) (ρ := [some (netD ax ns R), some (.lst [x]), none, none, none, none]) (vh := w) rfl (by show 1 < 16777216; decide) z
  have al : allD [.lst [.bl false]] w = some (.bl false, w) := rfl
  exact none_way (by simp only [VL.bind, VL.ret, VL.fail, denF, denA, den1, den2, denC, consA, nilA, var, kst, seqS, nopS, ifS, retS, asgS, nameG, subG, dropS, cmpT, valT, andB, orB, notB, toB, ifD, andD, orD, notD, methD, List.map_cons, List.map_nil, List.cons_append, List.nil_append, List.length_cons, List.length_nil, List.replicate, List.getElem?_cons_zero, List.getElem?_cons_succ, List.set_cons_zero, List.set_cons_succ, List.set_nil, List.getElem?_nil, Option.map_some, Option.map_none, Option.bind_some, Option.bind_none, if_true, if_false, Bool.false_eq_true, reduceIte, Nat.reduceAdd, Nat.reduceSub, Int.reduceAdd, Int.reduceNeg, d_ties_around, g_ties_around, li, Bool.not_true, l1, e1, e, still0, al, Bool.not_false])
theorem no_flat {R : List Row} {x : D} {w : VH} {a : Tn} (h : tnD w x = some a) (h2 : isT a .str = false) : d_Net___contains__ [netD ax ns R, x] w = some (.bl false, w) := by
  have i := isi_ok (n := "str") h tn_str
  rw [h2] at i
  simp only [VL.bind, VL.ret, VL.fail, denF, denA, den1, den2, denC, consA, nilA, var, kst, seqS, nopS, ifS, retS, asgS, nameG, subG, dropS, cmpT, valT, andB, orB, notB, toB, ifD, andD, orD, notD, methD, List.map_cons, List.map_nil, List.cons_append, List.nil_append, List.length_cons, List.length_nil, List.replicate, List.getElem?_cons_zero, List.getElem?_cons_succ, List.set_cons_zero, List.set_cons_succ, List.set_nil, List.getElem?_nil, Option.map_some, Option.map_none, Option.bind_some, Option.bind_none, if_true, if_false, Bool.false_eq_true, reduceIte, Nat.reduceAdd, Nat.reduceSub, Int.reduceAdd, Int.reduceNeg, d_Net___contains__, g_Net___contains__, net_named, d_is_key, g_is_key, i]
theorem no_Q (T : Turn ax ns rows) (w : VH) : d_Net___contains__ [netD ax ns (full rows), .str "Q"] w = some (.bl false, w) := by
  have q : (D.str "Q") = strD' [81] := by
    show D.str _ = D.str _
    congr 1
  have z := key_ok (l := [81]) (tb := .dct ((full rows).map fun r => ky r.nm) ((full rows).map Row.d)) (vh := w) rfl rfl (fun z e => by cases e)
  have v : valD ((full rows).map fun r => ky r.nm) ((full rows).map Row.d) (.inr (SX.S [81])) = none := val_not fun m => by
    obtain ⟨r, hr, e⟩ := List.mem_map.mp m
    have e : r.nm = [81] := ky_inj (a := r.nm) (b := [81]) e
    have := (T.row hr).1.nm.ok 81 (by rw [e]; simp)
    exact absurd this (by decide +kernel)
  rw [v] at z
  rw [q]
  simp only [VL.bind, VL.ret, VL.fail, denF, denA, den1, den2, denC, consA, nilA, var, kst, seqS, nopS, ifS, retS, asgS, nameG, subG, dropS, cmpT, valT, andB, orB, notB, toB, ifD, andD, orD, notD, methD, List.map_cons, List.map_nil, List.cons_append, List.nil_append, List.length_cons, List.length_nil, List.replicate, List.getElem?_cons_zero, List.getElem?_cons_succ, List.set_cons_zero, List.set_cons_succ, List.set_nil, List.getElem?_nil, Option.map_some, Option.map_none, Option.bind_some, Option.bind_none, if_true, if_false, Bool.false_eq_true, reduceIte, Nat.reduceAdd, Nat.reduceSub, Int.reduceAdd, Int.reduceNeg, d_Net___contains__, g_Net___contains__, net_named, z]
  rfl
end
end K04

namespace K04
open PySem VL L2
def t1 : Bk := asgS (denA (denC 5 d__law_n_plan) (consA (var 1) (consA (denA (denC 2 d__law_draw) (consA (var 1) (consA (kst (.int 3)) nilA))) (consA (kst (.int 3)) (consA (kst (.int 4)) (consA (kst (.int 1)) nilA)))))) (unpG 3 (consG (nameG 3) (consG (nameG 4) (consG (nameG 5) nilG))))
def t3 : Bk := asgS (denA mkTup (consA (var 3) (consA (var 4) (consA (var 5) nilA)))) (nameG 6)
def t4 : Bk := asgS (denA (denC 1 d__law_n_made) (consA (var 6) nilA)) (nameG 7)
def t5 : Bk := forS (argI range1It (consA (kst (.int 12)) nilA)) (nameG 8) cB
def t9 : Bk := asgS (denA mkLst (consA (kst .non) (consA (kst (.int 5)) (consA (kst (.str "")) (consA (den2 ixD (den2 ixD (var 5) (kst (.int 0))) (kst (.int 0))) (consA (denA mkLst nilA) (consA (fun _ => stillD ([], [])) (consA (denA mkLst (consA (kst .non) nilA)) (consA (denA mkLst (consA (denA mkLst nilA) nilA)) (consA (denA mkLst (consA (kst (.str "Q")) nilA)) (consA (kst (.bl true)) (consA (denA mkLst (consA (den2 ixD (var 5) (kst (.int 0))) nilA)) (consA (denA mkLst (consA (kst (.int 5)) nilA)) nilA))))))))))))) (nameG 9)
def t10 : Bk := ifS (valT (denA anyTD (consA (lcD (seqI (var 9)) (nameG 14) yesT (den2 isNBlD (denA (denC 2 d_is_way) (consA (var 7) (consA (var 14) nilA))) (kst (.bl false))) [14] still0) nilA)))
  (retS (kst (.bl false))) nopS
def tB : Bk := seqS t1 (seqS lR (seqS t3 (seqS t4 (seqS t5 (seqS t9 t10)))))
theorem g_all (L : List D → M D) : g_law L = seqS (asgS (denA (denC 1 (d__law_start L)) (consA (var 0) nilA)) (nameG 1)) (seqS (forS (argI range1It (consA (kst (.int 5)) nilA)) (nameG 2) tB) (retS (kst (.bl true)))) := rfl
section
variable {ax : Int} {ns : List (List Nat)} {rows : List Row}
def oddL (r : Row) : List D := [.non, .int 5, .str "", strD' r.nm, .lst [], .dct [] [], .lst [.non], .lst [.lst []], .lst [.str "Q"], .bl true, .lst [r.d], .lst [.int 5]]
theorem odd_all (T : Turn ax ns rows) (r : Row) (w : VH) : ∀ d ∈ oddL r, d_is_way [netD ax ns (full rows), d] w = some (.bl false, w) := by
  intro d hd
  unfold oddL at hd
  simp only [List.mem_cons, List.not_mem_nil, or_false] at hd
  have tl := T.len
  rcases hd with rfl | rfl | rfl | rfl | rfl | rfl | rfl | rfl | rfl | rfl | rfl | rfl
  · exact odd_flat (a := .non) rfl rfl
  · exact odd_flat (a := .int) rfl rfl
  · exact odd_flat (a := .str) rfl rfl
  · exact odd_flat (a := .str) rfl rfl
  · exact is_way_ok T.net false (rs := []) (by simp) (by simp) w
  · exact odd_flat (a := .dct) rfl rfl
  · exact odd_one (no_flat (a := .non) rfl rfl)
  · exact odd_one (no_flat (a := .lst) rfl rfl)
  · exact odd_one (no_Q T w)
  · exact odd_flat (a := .bl) rfl rfl
  · exact odd_one (no_flat (a := .tup) rfl rfl)
  · exact odd_one (no_flat (a := .int) rfl rfl)
theorem t910_ok (T : Turn ax ns rows) (w : VH) (x0 x1 x2 x3 x4 x6 x8 x9 x10 x11 x12 x13 x14 x15 x16 x17 : Option D) : ∃ y9,
    seqS t9 t10 [x0, x1, x2, x3, x4, some (.lst ((full rows).map Row.d)), x6, some (netD ax ns (full rows)), x8, x9, x10, x11, x12, x13, x14, x15, x16, x17] w = some (.nx [x0, x1, x2, x3, x4, some (.lst ((full rows).map Row.d)), x6, some (netD ax ns (full rows)), x8, y9, x10, x11, x12, x13, x14, x15, x16, x17], w) := by
  obtain ⟨r, rest, hr⟩ : ∃ r rest, full rows = r :: rest := by
    have := T.r0
    unfold full
    cases rows with
    | nil => simp at this
    | cons r rs => exact ⟨r, _, rfl⟩
  have i0 : ixD (.lst ((full rows).map Row.d)) (.int 0) w = some (r.d, w) := by
    rw [hr]
    show (atI (r.d :: rest.map Row.d) 0).map _ = _
    unfold atI ixN
    rw [if_pos (by decide), if_pos (by rw [List.length_cons]; omega)]
    rfl
  have sd : stillD ([], []) = VL.ret (.dct [] []) := rfl
  have m1 : ∀ a : D, mkLst [a] = VL.ret (.lst [a]) := fun _ => rfl
  have mo : mkLst [.non, .int 5, .str "", strD' r.nm, .lst [], .dct [] [], .lst [.non], .lst [.lst []], .lst [.str "Q"], .bl true, .lst [r.d], .lst [.int 5]] = VL.ret (.lst (oddL r)) := rfl
  have f9 : t9 [x0, x1, x2, x3, x4, some (.lst ((full rows).map Row.d)), x6, some (netD ax ns (full rows)), x8, x9, x10, x11, x12, x13, x14, x15, x16, x17] w = some (.nx [x0, x1, x2, x3, x4, some (.lst ((full rows).map Row.d)), x6, some (netD ax ns (full rows)), x8, some (.lst (oddL r)), x10, x11, x12, x13, x14, x15, x16, x17], w) := by
    simp only [VL.bind, VL.ret, VL.fail, denF, denA, den1, den2, denC, consA, nilA, var, kst, seqS, nopS, ifS, retS, asgS, nameG, subG, dropS, cmpT, valT, andB, orB, notB, toB, ifD, andD, orD, notD, methD, List.map_cons, List.map_nil, List.cons_append, List.nil_append, List.length_cons, List.length_nil, List.replicate, List.getElem?_cons_zero, List.getElem?_cons_succ, List.set_cons_zero, List.set_cons_succ, List.set_nil, List.getElem?_nil, Option.map_some, Option.map_none, Option.bind_some, Option.bind_none, if_true, if_false, Bool.false_eq_true, reduceIte, Nat.reduceAdd, Nat.reduceSub, Int.reduceAdd, Int.reduceNeg, t9, i0, rw0, mkLst_nil, sd, m1, mo]
  have z := comp_map (g := nameG 14) (e := den2 isNBlD (denA (denC 2 d_is_way) (consA (var 7) (consA (var 14) nilA))) (kst (.bl false))) (ρ := wipeR [x0, x1, x2, x3, x4, some (.lst ((full rows).map Row.d)), x6, some (netD ax ns (full rows)), x8, some (.lst (oddL r)), x10, x11, x12, x13, x14, x15, x16, x17] [14]) (vh := w) (f := fun _ => .bl false) (oddL r) (fun d hd => by
    have o := odd_all T r w d hd
    have nb : isNBlD (.bl false) (.bl false) = VL.ret (.bl false) := rfl
    exact ⟨_, rfl, by simp only [VL.bind, VL.ret, VL.fail, denF, denA, den1, den2, denC, consA, nilA, var, kst, seqS, nopS, ifS, retS, asgS, nameG, subG, dropS, cmpT, valT, andB, orB, notB, toB, ifD, andD, orD, notD, methD, List.map_cons, List.map_nil, List.cons_append, List.nil_append, List.length_cons, List.length_nil, List.replicate, List.getElem?_cons_zero, List.getElem?_cons_succ, List.set_cons_zero, List.set_cons_succ, List.set_nil, List.getElem?_nil, Option.map_some, Option.map_none, Option.bind_some, Option.bind_none, if_true, if_false, Bool.false_eq_true, reduceIte, Nat.reduceAdd, Nat.reduceSub, Int.reduceAdd, Int.reduceNeg, wipeR, o, nb]⟩)
  have e := lc_eq (f := seqI (var 9)) (mk := still0) (vs := [14]) (ρ := [x0, x1, x2, x3, x4, some (.lst ((full rows).map Row.d)), x6, some (netD ax ns (full rows)), x8, some (.lst (oddL r)), x10, x11, x12, x13, x14, x15, x16, x17]) (vh := w) rfl (by show 12 < 16777216; decide) z
  have an : anyTD [.lst ((oddL r).map fun _ => D.bl false)] w = some (.bl false, w) := rfl
  generalize (oddL r).map (fun _ => D.bl false) = U at e an
  refine ⟨some (.lst (oddL r)), (sq f9).trans ?_⟩
  simp only [VL.bind, VL.ret, VL.fail, denF, denA, den1, den2, denC, consA, nilA, var, kst, seqS, nopS, ifS, retS, asgS, nameG, subG, dropS, cmpT, valT, andB, orB, notB, toB, ifD, andD, orD, notD, methD, List.map_cons, List.map_nil, List.cons_append, List.nil_append, List.length_cons, List.length_nil, List.replicate, List.getElem?_cons_zero, List.getElem?_cons_succ, List.set_cons_zero, List.set_cons_succ, List.set_nil, List.getElem?_nil, Option.map_some, Option.map_none, Option.bind_some, Option.bind_none, if_true, if_false, Bool.false_eq_true, reduceIte, Nat.reduceAdd, Nat.reduceSub, Int.reduceAdd, Int.reduceNeg, t10, e, still0, an]
theorem tB_ok {s : SS} {t : VH} {k : Nat} (h : s.Ok k) (hk : k < 100000) (x0 x2 x3 x4 x5 x6 x7 x8 x9 x10 x11 x12 x13 x14 : Option D) : ∃ (s' : SS) (t' : VH) (y2 y3 y4 y5 y6 y7 y8 y9 y10 y11 y12 y13 y14 : Option D), s'.Ok (k + 5000) ∧
    tB [x0, some (.ref 1), x2, x3, x4, x5, x6, x7, x8, x9, x10, x11, x12, x13, x14, none, none, none] (s.vh t) = some (.nx [x0, some (.ref 1), y2, y3, y4, y5, y6, y7, y8, y9, y10, y11, y12, y13, y14, none, none, none], s'.vh t') := by
  obtain ⟨ax, s1, e1, a0, a1, o1⟩ := draw_ok (t := t) h (by omega) (n := 3) (by decide) (by decide)
  obtain ⟨ns, rows, s2, t2, e2, n0, n1, nn, nw, r0, r1, rn, ro, o2⟩ := plan_ok (t := t) o1 (by omega) (ax := ax) (halls := 3) (many := 4) (w := 1) a0 (by omega) (by decide) (by decide) (by decide) (by decide) (by decide) (by decide)
  have T : Turn ax ns rows := ⟨a0, by omega, n0, n1, nn, nw, r0, r1, rn, ro⟩
  have tl := T.len
  have un : ∀ (a b c : D) (w : VH), unpG 3 (consG (nameG 3) (consG (nameG 4) (consG (nameG 5) nilG))) (.tup [a, b, c]) [x0, some (.ref 1), x2, x3, x4, x5, x6, x7, x8, x9, x10, x11, x12, x13, x14, none, none, none] w = some ([x0, some (.ref 1), x2, some a, some b, some c, x6, x7, x8, x9, x10, x11, x12, x13, x14, none, none, none], w) := fun _ _ _ _ => rfl
  have f1 : t1 [x0, some (.ref 1), x2, x3, x4, x5, x6, x7, x8, x9, x10, x11, x12, x13, x14, none, none, none] (s.vh t) = some (.nx [x0, some (.ref 1), x2, some (.int ax), some (.lst (ns.map strD')), some (.lst (rows.map Row.d)), x6, x7, x8, x9, x10, x11, x12, x13, x14, none, none, none], s2.vh t2) := by
    simp only [VL.bind, VL.ret, VL.fail, denF, denA, den1, den2, denC, consA, nilA, var, kst, seqS, nopS, ifS, retS, asgS, nameG, subG, dropS, cmpT, valT, andB, orB, notB, toB, ifD, andD, orD, notD, methD, List.map_cons, List.map_nil, List.cons_append, List.nil_append, List.length_cons, List.length_nil, List.replicate, List.getElem?_cons_zero, List.getElem?_cons_succ, List.set_cons_zero, List.set_cons_succ, List.set_nil, List.getElem?_nil, Option.map_some, Option.map_none, Option.bind_some, Option.bind_none, if_true, if_false, Bool.false_eq_true, reduceIte, Nat.reduceAdd, Nat.reduceSub, Int.reduceAdd, Int.reduceNeg, t1, e1, e2, un]
  have f2 := lR_ok (rows := rows) (by omega) (fun r hr => by
    have := (T.row (List.mem_append_left _ hr)).1
    exact ⟨this.nm.n1, this.l1⟩) (s2.vh t2) x0 (some (.ref 1)) x2 (some (.int ax)) (some (.lst (ns.map strD'))) x6 x7 x8 x9 x10 x11 x12 x13 x14 none none none
  have f3 : t3 [x0, some (.ref 1), x2, some (.int ax), some (.lst (ns.map strD')), some (.lst ((full rows).map Row.d)), x6, x7, x8, x9, x10, x11, x12, x13, x14, none, none, none] (s2.vh t2) = some (.nx [x0, some (.ref 1), x2, some (.int ax), some (.lst (ns.map strD')), some (.lst ((full rows).map Row.d)), some (planD ax ns (full rows)), x7, x8, x9, x10, x11, x12, x13, x14, none, none, none], s2.vh t2) := by
    simp only [VL.bind, VL.ret, VL.fail, denF, denA, den1, den2, denC, consA, nilA, var, kst, seqS, nopS, ifS, retS, asgS, nameG, subG, dropS, cmpT, valT, andB, orB, notB, toB, ifD, andD, orD, notD, methD, List.map_cons, List.map_nil, List.cons_append, List.nil_append, List.length_cons, List.length_nil, List.replicate, List.getElem?_cons_zero, List.getElem?_cons_succ, List.set_cons_zero, List.set_cons_succ, List.set_nil, List.getElem?_nil, Option.map_some, Option.map_none, Option.bind_some, Option.bind_none, if_true, if_false, Bool.false_eq_true, reduceIte, Nat.reduceAdd, Nat.reduceSub, Int.reduceAdd, Int.reduceNeg, t3, mkTup3]
    rfl
  obtain ⟨t4', e4⟩ := made_ok (ns := ns) (ax := ax) (R := full rows) a0 (by omega) n0 (by omega) nn (fun l hl => (nw l hl).nm) (by omega) T.names (fun r hr => (T.row hr).1) s2 t2
  have e4 : d__law_n_made [planD ax ns (full rows)] (s2.vh t2) = some (netD ax ns (full rows), s2.vh t4') := e4
  have f4 : t4 [x0, some (.ref 1), x2, some (.int ax), some (.lst (ns.map strD')), some (.lst ((full rows).map Row.d)), some (planD ax ns (full rows)), x7, x8, x9, x10, x11, x12, x13, x14, none, none, none] (s2.vh t2) = some (.nx [x0, some (.ref 1), x2, some (.int ax), some (.lst (ns.map strD')), some (.lst ((full rows).map Row.d)), some (planD ax ns (full rows)), some (netD ax ns (full rows)), x8, x9, x10, x11, x12, x13, x14, none, none, none], s2.vh t4') := by
    simp only [VL.bind, VL.ret, VL.fail, denF, denA, den1, den2, denC, consA, nilA, var, kst, seqS, nopS, ifS, retS, asgS, nameG, subG, dropS, cmpT, valT, andB, orB, notB, toB, ifD, andD, orD, notD, methD, List.map_cons, List.map_nil, List.cons_append, List.nil_append, List.length_cons, List.length_nil, List.replicate, List.getElem?_cons_zero, List.getElem?_cons_succ, List.set_cons_zero, List.set_cons_succ, List.set_nil, List.getElem?_nil, Option.map_some, Option.map_none, Option.bind_some, Option.bind_none, if_true, if_false, Bool.false_eq_true, reduceIte, Nat.reduceAdd, Nat.reduceSub, Int.reduceAdd, Int.reduceNeg, t4, e4]
  obtain ⟨ρ', vh', e5, y8, y10, y11, y12, y13, y14, s5, t5', rfl, rfl, o5⟩ := for_inv (g := nameG 8) (b := cB) (items := rangeL 0 12) (ρ := [x0, some (.ref 1), x2, some (.int ax), some (.lst (ns.map strD')), some (.lst ((full rows).map Row.d)), some (planD ax ns (full rows)), some (netD ax ns (full rows)), x8, x9, x10, x11, x12, x13, x14, none, none, none]) (vh := s2.vh t4')
    (fun i ρ w => ∃ (y8 y10 y11 y12 y13 y14 : Option D) (s' : SS) (t' : VH), ρ = [x0, some (.ref 1), x2, some (.int ax), some (.lst (ns.map strD')), some (.lst ((full rows).map Row.d)), some (planD ax ns (full rows)), some (netD ax ns (full rows)), y8, x9, y10, y11, y12, y13, y14, none, none, none] ∧ w = s'.vh t' ∧ s'.Ok (k + 401 + 300 * i))
    ⟨x8, x10, x11, x12, x13, x14, s2, t4', rfl, rfl, o2.mono (by omega)⟩ (fun i d ρ w hd ⟨y8, y10, y11, y12, y13, y14, s1, t1, e1, e2, ho⟩ => by
      subst e1 e2
      have hi : i < 12 := by
        have z := (List.getElem?_eq_some_iff.mp hd).1
        rw [range_len] at z
        exact z
      obtain ⟨s3, t3, z10, z11, z12, z13, z14, o3, f⟩ := cB_ok (ns := ns) T (t := t1) ho (by omega) x0 x2 (some (.int ax)) (some (.lst (ns.map strD'))) (some d) x9 y10 y11 y12 y13 y14 none none none
      exact ⟨_, _, _, rfl, f, some d, z10, z11, z12, z13, z14, s3, t3, rfl, rfl, o3.mono (by omega)⟩)
  rw [range_len] at o5
  have f5 : t5 [x0, some (.ref 1), x2, some (.int ax), some (.lst (ns.map strD')), some (.lst ((full rows).map Row.d)), some (planD ax ns (full rows)), some (netD ax ns (full rows)), x8, x9, x10, x11, x12, x13, x14, none, none, none] (s2.vh t4') = some (.nx [x0, some (.ref 1), x2, some (.int ax), some (.lst (ns.map strD')), some (.lst ((full rows).map Row.d)), some (planD ax ns (full rows)), some (netD ax ns (full rows)), y8, x9, y10, y11, y12, y13, y14, none, none, none], s5.vh t5') := by
    have er : (argI range1It (consA (kst (.int 12)) nilA)) [x0, some (.ref 1), x2, some (.int ax), some (.lst (ns.map strD')), some (.lst ((full rows).map Row.d)), some (planD ax ns (full rows)), some (netD ax ns (full rows)), x8, x9, x10, x11, x12, x13, x14, none, none, none] (s2.vh t4') = some (rangeL 0 12, s2.vh t4') := rfl
    unfold t5 forS VL.bind
    rw [er]
    exact e5
  obtain ⟨y9, f9⟩ := t910_ok (ns := ns) T (s5.vh t5') x0 (some (.ref 1)) x2 (some (.int ax)) (some (.lst (ns.map strD'))) (some (planD ax ns (full rows))) y8 x9 y10 y11 y12 y13 y14 none none none
  exact ⟨s5, t5', _, _, _, _, _, _, _, _, _, _, _, _, _, o5.mono (by omega), (sq f1).trans ((sq f2).trans ((sq f3).trans ((sq f4).trans ((sq f5).trans f9))))⟩
end
theorem math : ∀ (L : List D → M D) (s : D) (ns : List Int), ns.length ≤ 63 → (∀ vh, L [s] vh = new (.lst (ns.map D.int)) vh) → ∃ vh', d_law L [s] [] = some (.bl true, vh') := by
  intro L s ns hl hL
  have e0 : d__law_start L [s] [] = some (.ref 1, SS.vh ⟨ns, 0, 0, 11⟩ []) := by
    have l0 := hL []
    have nl : mkLstM [.ref 0, .int 0, .int 0, .int 11] [some (.lst (ns.map D.int))] = some (.ref 1, SS.vh ⟨ns, 0, 0, 11⟩ []) := rfl
    have n0 : new (.lst (ns.map D.int)) [] = some (.ref 0, [some (.lst (ns.map D.int))]) := rfl
    rw [n0] at l0
    simp only [VL.bind, VL.ret, VL.fail, denF, denA, den1, den2, denC, consA, nilA, var, kst, seqS, nopS, ifS, retS, asgS, nameG, subG, dropS, cmpT, valT, andB, orB, notB, toB, ifD, andD, orD, notD, methD, List.map_cons, List.map_nil, List.cons_append, List.nil_append, List.length_cons, List.length_nil, List.replicate, List.getElem?_cons_zero, List.getElem?_cons_succ, List.set_cons_zero, List.set_cons_succ, List.set_nil, List.getElem?_nil, Option.map_some, Option.map_none, Option.bind_some, Option.bind_none, if_true, if_false, Bool.false_eq_true, reduceIte, Nat.reduceAdd, Nat.reduceSub, Int.reduceAdd, Int.reduceNeg, d__law_start, g__law_start, l0, nl]
  have f0 : (asgS (denA (denC 1 (d__law_start L)) (consA (var 0) nilA)) (nameG 1)) [some s, none, none, none, none, none, none, none, none, none, none, none, none, none, none, none, none, none] [] = some (.nx [some s, some (.ref 1), none, none, none, none, none, none, none, none, none, none, none, none, none, none, none, none], SS.vh ⟨ns, 0, 0, 11⟩ []) := by
    simp only [VL.bind, VL.ret, VL.fail, denF, denA, den1, den2, denC, consA, nilA, var, kst, seqS, nopS, ifS, retS, asgS, nameG, subG, dropS, cmpT, valT, andB, orB, notB, toB, ifD, andD, orD, notD, methD, List.map_cons, List.map_nil, List.cons_append, List.nil_append, List.length_cons, List.length_nil, List.replicate, List.getElem?_cons_zero, List.getElem?_cons_succ, List.set_cons_zero, List.set_cons_succ, List.set_nil, List.getElem?_nil, Option.map_some, Option.map_none, Option.bind_some, Option.bind_none, if_true, if_false, Bool.false_eq_true, reduceIte, Nat.reduceAdd, Nat.reduceSub, Int.reduceAdd, Int.reduceNeg, e0]
  obtain ⟨ρ', vh', e5, y2, y3, y4, y5, y6, y7, y8, y9, y10, y11, y12, y13, y14, s5, t5', rfl, rfl, o5⟩ := for_inv (g := nameG 2) (b := tB) (items := rangeL 0 5) (ρ := [some s, some (.ref 1), none, none, none, none, none, none, none, none, none, none, none, none, none, none, none, none]) (vh := SS.vh ⟨ns, 0, 0, 11⟩ [])
    (fun i ρ w => ∃ (y2 y3 y4 y5 y6 y7 y8 y9 y10 y11 y12 y13 y14 : Option D) (s' : SS) (t' : VH), ρ = [some s, some (.ref 1), y2, y3, y4, y5, y6, y7, y8, y9, y10, y11, y12, y13, y14, none, none, none] ∧ w = s'.vh t' ∧ s'.Ok (5000 * i))
    ⟨none, none, none, none, none, none, none, none, none, none, none, none, none, ⟨ns, 0, 0, 11⟩, [], rfl, rfl, ⟨Int.le_refl _, Int.le_refl _, (show (0 : Int) ≤ 11 by decide), (show (11 : Int) < 2147483647 by decide), hl⟩⟩ (fun i d ρ w hd ⟨y2, y3, y4, y5, y6, y7, y8, y9, y10, y11, y12, y13, y14, s1, t1, e1, e2, ho⟩ => by
      subst e1 e2
      have hi : i < 5 := by
        have z := (List.getElem?_eq_some_iff.mp hd).1
        rw [range_len] at z
        exact z
      obtain ⟨s3, t3, z2, z3, z4, z5, z6, z7, z8, z9, z10, z11, z12, z13, z14, o3, f⟩ := tB_ok (t := t1) ho (by omega) (some s) (some d) y3 y4 y5 y6 y7 y8 y9 y10 y11 y12 y13 y14
      exact ⟨_, _, _, rfl, f, z2, z3, z4, z5, z6, z7, z8, z9, z10, z11, z12, z13, z14, s3, t3, rfl, rfl, o3.mono (by omega)⟩)
  refine ⟨s5.vh t5', denF_rt ?_⟩
  rw [g_all]
  refine (sq f0).trans ?_
  have f5 : (forS (argI range1It (consA (kst (.int 5)) nilA)) (nameG 2) tB) [some s, some (.ref 1), none, none, none, none, none, none, none, none, none, none, none, none, none, none, none, none] (SS.vh ⟨ns, 0, 0, 11⟩ []) = some (.nx [some s, some (.ref 1), y2, y3, y4, y5, y6, y7, y8, y9, y10, y11, y12, y13, y14, none, none, none], s5.vh t5') := by
    have er : (argI range1It (consA (kst (.int 5)) nilA)) [some s, some (.ref 1), none, none, none, none, none, none, none, none, none, none, none, none, none, none, none, none] (SS.vh ⟨ns, 0, 0, 11⟩ []) = some (rangeL 0 5, SS.vh ⟨ns, 0, 0, 11⟩ []) := rfl
    unfold forS VL.bind
    rw [er]
    exact e5
  exact (sq f5).trans rfl
end K04

open PySem PySem.W PyProof.Rows
set_option maxRecDepth 100000 in
set_option maxHeartbeats 0 in
theorem PySem.Challenge.cw_repeatnets_k04_closed_ways_looked_at_holds : PySem.Challenge.rw_repeatnets_k04_closed_ways_looked_at.Holds := by
  w_on; o_law; k_head; (case hw => w_witness2)
  k_fill
  refine VL.walkL (l := PySem.Challenge.rw_repeatnets_k04_closed_ways_looked_at) (x := "_law_script") (k := 8) rfl rfl ⟨rfl, by decide, by decide⟩ (fun w h Y => PySem.W.kIn_of Y) ?F
  case F =>
    intro w mg fa h KX G hmg
    refine' K04.all_mk KX G hmg ?a_Net ?a__law_start ?F__law_start ?a__law_draw ?F__law_draw ?a__law_pick ?F__law_pick ?a__law_n_words ?F__law_n_words ?a__law_n_plan ?F__law_n_plan ?a_is_whole ?F_is_whole ?a_is_between ?F_is_between ?a_is_list ?F_is_list ?a_is_name ?F_is_name ?a_are_rooms ?F_are_rooms ?a_is_key ?F_is_key ?a_are_whole ?F_are_whole ?a_is_tie ?F_is_tie ?a_first_no_tie ?F_first_no_tie ?a_Net___init__ ?i_Net___init__ ?F_Net___init__ ?a__law_n_made ?F__law_n_made ?a__law_gone ?F__law_gone ?a__law_same ?F__law_same ?a__law_is_way ?F__law_is_way ?a_Net___contains__ ?i_Net___contains__ ?F_Net___contains__ ?a_Net_tie ?i_Net_tie ?F_Net_tie ?a_ties_around ?F_ties_around ?a_is_way ?F_is_way ?a_law ?l_law ?c_law ?k_law ?pg_Net ?hd_Net ?po_Net ?sa_Net ?mk_Net ?kc_Net ?n_Net__named ?n_Net__rooms ?n_Net__ties ?n_Net_axes ?z_all ?z_any ?z_bool ?z_dict ?z_enumerate ?z_int ?z_isinstance ?z_len ?z_list ?z_range ?z_str ?z_sum ?z_tuple ?z_zip ?c_SIGNS ?e_SIGNS ?c_MOST_AXES K04.math
    (case a_Net => k_is)
    (case a__law_start => k_is)
    (case F__law_start => refine' ⟨_, L2.fun_mk ?l ?c ?k⟩; (case l => k_is); (case c => k_is); (case k => k_is))
    (case a__law_draw => k_is)
    (case F__law_draw => refine' ⟨_, L2.fun_mk ?l ?c ?k⟩; (case l => k_is); (case c => k_is); (case k => k_is))
    (case a__law_pick => k_is)
    (case F__law_pick => refine' ⟨_, L2.fun_mk ?l ?c ?k⟩; (case l => k_is); (case c => k_is); (case k => k_is))
    (case a__law_n_words => k_is)
    (case F__law_n_words => refine' ⟨_, L2.fun_mk ?l ?c ?k⟩; (case l => k_is); (case c => k_is); (case k => k_is))
    (case a__law_n_plan => k_is)
    (case F__law_n_plan => refine' ⟨_, L2.fun_mk ?l ?c ?k⟩; (case l => k_is); (case c => k_is); (case k => k_is))
    (case a_is_whole => k_is)
    (case F_is_whole => refine' ⟨_, L2.fun_mk ?l ?c ?k⟩; (case l => k_is); (case c => k_is); (case k => k_is))
    (case a_is_between => k_is)
    (case F_is_between => refine' ⟨_, L2.fun_mk ?l ?c ?k⟩; (case l => k_is); (case c => k_is); (case k => k_is))
    (case a_is_list => k_is)
    (case F_is_list => refine' ⟨_, L2.fun_mk ?l ?c ?k⟩; (case l => k_is); (case c => k_is); (case k => k_is))
    (case a_is_name => k_is)
    (case F_is_name => refine' ⟨_, L2.fun_mk ?l ?c ?k⟩; (case l => k_is); (case c => k_is); (case k => k_is))
    (case a_are_rooms => k_is)
    (case F_are_rooms => refine' ⟨_, L2.fun_mk ?l ?c ?k⟩; (case l => k_is); (case c => k_is); (case k => k_is))
    (case a_is_key => k_is)
    (case F_is_key => refine' ⟨_, L2.fun_mk ?l ?c ?k⟩; (case l => k_is); (case c => k_is); (case k => k_is))
    (case a_are_whole => k_is)
    (case F_are_whole => refine' ⟨_, L2.fun_mk ?l ?c ?k⟩; (case l => k_is); (case c => k_is); (case k => k_is))
    (case a_is_tie => k_is)
    (case F_is_tie => refine' ⟨_, L2.fun_mk ?l ?c ?k⟩; (case l => k_is); (case c => k_is); (case k => k_is))
    (case a_first_no_tie => k_is)
    (case F_first_no_tie => refine' ⟨_, L2.fun_mk ?l ?c ?k⟩; (case l => k_is); (case c => k_is); (case k => k_is))
    (case a_Net___init__ => k_is)
    (case i_Net___init__ => k_is)
    (case F_Net___init__ => refine' ⟨_, L2.fun_mk ?l ?c ?k⟩; (case l => k_is); (case c => k_is); (case k => k_is))
    (case a__law_n_made => k_is)
    (case F__law_n_made => refine' ⟨_, L2.fun_mk ?l ?c ?k⟩; (case l => k_is); (case c => k_is); (case k => k_is))
    (case a__law_gone => k_is)
    (case F__law_gone => refine' ⟨_, L2.fun_mk ?l ?c ?k⟩; (case l => k_is); (case c => k_is); (case k => k_is))
    (case a__law_same => k_is)
    (case F__law_same => refine' ⟨_, L2.fun_mk ?l ?c ?k⟩; (case l => k_is); (case c => k_is); (case k => k_is))
    (case a__law_is_way => k_is)
    (case F__law_is_way => refine' ⟨_, L2.fun_mk ?l ?c ?k⟩; (case l => k_is); (case c => k_is); (case k => k_is))
    (case a_Net___contains__ => k_is)
    (case i_Net___contains__ => k_is)
    (case F_Net___contains__ => refine' ⟨_, L2.fun_mk ?l ?c ?k⟩; (case l => k_is); (case c => k_is); (case k => k_is))
    (case a_Net_tie => k_is)
    (case i_Net_tie => k_is)
    (case F_Net_tie => refine' ⟨_, L2.fun_mk ?l ?c ?k⟩; (case l => k_is); (case c => k_is); (case k => k_is))
    (case a_ties_around => k_is)
    (case F_ties_around => refine' ⟨_, L2.fun_mk ?l ?c ?k⟩; (case l => k_is); (case c => k_is); (case k => k_is))
    (case a_is_way => k_is)
    (case F_is_way => refine' ⟨_, L2.fun_mk ?l ?c ?k⟩; (case l => k_is); (case c => k_is); (case k => k_is))
    (case a_law => k_is)
    (case l_law => k_is)
    (case c_law => k_is)
    (case k_law => k_is)
    (case pg_Net => k_is)
    (case hd_Net => k_is)
    (case po_Net => k_is)
    (case sa_Net => k_is)
    (case mk_Net => k_is)
    (case kc_Net => k_is)
    (case n_Net__named => k_is)
    (case n_Net__rooms => k_is)
    (case n_Net__ties => k_is)
    (case n_Net_axes => k_is)
    (case z_all => k_is)
    (case z_any => k_is)
    (case z_bool => k_is)
    (case z_dict => k_is)
    (case z_enumerate => k_is)
    (case z_int => k_is)
    (case z_isinstance => k_is)
    (case z_len => k_is)
    (case z_list => k_is)
    (case z_range => k_is)
    (case z_str => k_is)
    (case z_sum => k_is)
    (case z_tuple => k_is)
    (case z_zip => k_is)
    (case c_SIGNS => k_is)
    (case e_SIGNS => first | rfl | decide +kernel)
    (case c_MOST_AXES => k_is)
