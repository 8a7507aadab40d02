import PyProof.Rows.All
import Wide.All
import OpenK.AllK
import Wide.FinOn
import KE.KExcInit
import KE.KExcIs
import KE.KMulAny
import HandS.ForMost
import HandS.Exc
import HandS.ExcInit
import HandS.IsInst
import HandS.Defaults
import HandS.ExcIs
import HandS.TryMany
import HandS.WordsExc
import HandS.Sort
import KE.KEqSeq
import HandS.Walk
import PySem.Challenge.RW_countededges_k42_classes_of_errors
set_option Elab.async false
set_option linter.all false
set_option maxRecDepth 100000
set_option maxHeartbeats 4000000
/-! Own errors over Exception, through a base class of the program: made (also by a keyword), their field read, asked for by isinstance. -/
namespace EXC
open PySem PySem.W PySem.Calls PyProof.Rows
abbrev bmE : List Value := [.type "Exception", .type "BaseException", .type "object"]
section
open Builtin Builtin.ObjectAttr
variable {prog : Program} {w : World} {A : Around} {R : Result → Shared → Prop} {h0 : Heap} {gs : Array GenState} {dr : Drawn} {tn : Nat} {so : OsState}
/-- the first attribute of an error that has no dict yet -/
theorem put_first {K : Frag} {nm : Str} {tk : Tok} {y : Value} {x C : Addr} {fv : Array Value}
    (KX : K.In h0) (ox : h0.get? x = some { cls := .ref C, data := .fields fv }) (ov : excOver K C bmE = true) (od : hasDictIn K C = true) (no : findIn K (.ref C) nm = some none)
    (go : ∀ h1 t1 dx, (∀ b o, b ≠ x → h0.get? b = some o → h1.get? b = some o) → h0.objs.size ≤ dx → dx ≠ x → h1.get? x = some { cls := .ref C, dict := some dx, data := .fields fv } →
      h1.Ns1 dx (fun z => if z = nm then some y else none) → R (.ok (.ret .none)) ⟨h1, gs, dr, t1, so⟩) :
    codeAny (model prog w) A (.call (.builtin "object.__setattr__") ⟨[.ref x, .str nm tk, y], []⟩) R ⟨h0, gs, dr, tn, so⟩ := by
  refine osa_openX (od := none) (r := none) F.store_Exception KX ⟨ox, rfl, rfl, trivial⟩ ov (by unfold takerIn; rw [no]; rfl) fun b => ?_
  have xl : x ≠ h0.objs.size := Nat.ne_of_lt (Heap.lt_size ox)
  obtain ⟨cd, hc, hd⟩ := any_some od
  have lc : Looks (model prog w) h0 (classData C) cd := looks_clsIn KX hc
  obtain ⟨c1, c2, c3, c4, c5, c6, c7, c8, c9, c10, c11⟩ := cd
  dsimp only at hd
  subst hd
  show wpAny _ _ (storeInOwnDict (.ref x) (.ref C) (.str nm tk) nm y b) _ _ _
  unfold storeInOwnDict ownDictForStores
  repeat (first | with_reducible refine HandSPX.store_in_new ?_ ?_ | with_reducible refine wpAny_loadPart_at ox ?_ | with_reducible refine lc.at ?_ | wp_step)
  · exact ⟨_, #[], _, (Heap.get?_update_ne _ _ _ _ xl.symm).trans (Heap.get?_push_at rfl rfl), rfl, fun e he => absurd he (by simp), fun _ => rfl⟩
  · intro h1 t1 n1 s1
    have ox1 : (h0.push { cls := .type "dict", data := .dict #[] }).get? x = some { cls := .ref C, data := .fields fv } := Heap.get?_push_of_some _ ox
    refine go h1 t1 h0.objs.size (fun b o nb e => ?_) (Nat.le_refl _) xl.symm ?_ n1
    · exact (s1.2 b (Nat.ne_of_lt (Heap.lt_size e))).trans ((Heap.get?_update_ne _ _ _ _ nb).trans (Heap.get?_push_of_some _ e))
    · exact (s1.2 x xl).trans (Heap.get?_update_self _ ox1 rfl)
end

/-! ### the call of such a class, by values and keywords -/
section
variable {prog : Program} {w : World} {A : Around} {E : Value → Shared → Prop} {R : Result → Shared → Prop} {h0 : Heap} {gs : Array GenState} {dr : Drawn} {tn : Nat} {so : OsState}
variable {nm q : Str} {C N : Addr} {bs bm bmB : List Value} {hdct : Bool} {sn : List Str} {sub : List Value} {ab : Bool} {col : Option Bool} {dd : Option Addr} {k0 k1 k2 k3 k5 : Option Value} {B newId initId : String}
abbrev fresh (C t : Addr) : Obj := { cls := .ref C, data := .fields #[.ref t, .none, .none, .none, .bool false, .none] }
theorem new_kw (FB : ExcBaseFacts B newId initId bmB) (hT : ∀ X : String, bm.contains (.type X) = bmB.contains (.type X)) {us : List Value} {kw : List (Str × Value)}
    (oC : h0.get? C = some (excClassObj nm q C N bs bm hdct sn sub ab col dd k0 k1 k2 k3 k5 newId)) (lu : us.length ≤ sizeLine)
    (go : R (.ok (.ret (.ref (h0.objs.size + 1)))) ⟨(h0.push (kdv_tup us)).push (fresh C h0.objs.size), gs, dr, tn, so⟩) :
    codeAny (model prog w) A (.builtin newId ⟨.ref C :: us, kw⟩) R ⟨h0, gs, dr, tn, so⟩ := by
  have en := FB.ends
  have y1 : (Value.ref C :: bm).contains (.type B) = true := by rw [List.contains_cons, hT, FB.hasB, Bool.or_true]
  have y2 : (Value.ref C :: bm).contains (.type "AttributeError") = false := by rw [List.contains_cons, hT, FB.noAttr]; rfl
  have y3 : (Value.ref C :: bm).contains (.type "NameError") = false := by rw [List.contains_cons, hT, FB.noName]; rfl
  refine codeAny_builtinAt FB.entry ?_
  unfold Builtin.«BaseException.__new__»
  refine PySem.wpAt_bind ?_
  show PySem.wpAt _ _ _ (stack >>= _) _ _ _
  refine PySem.wpAt_bind (PySem.wpAt_stack fun p below => PySem.wpAt_of_wpAny ?_)
  wp_walk
  refine PySem.wpAt_of_wpAny ?_
  rw [FB.owner]
  repeat (first | with_reducible refine wpAny_madeHere_exc FB.canon oC ?_ | with_reducible refine wpAny_loadPart_at oC ?_ | (with_reducible refine wpAny_isSubtype_exc oC ?_; first | rw [y1] | rw [y2] | rw [y3]) | wp_step)
  show R _ _
  rw [Heap.size_push]
  exact go
theorem check_kw {M : Model} (FB : ExcBaseFacts B newId initId bmB) (hT : ∀ X : String, bm.contains (.type X) = bmB.contains (.type X)) {us : List Value} {kw : List (Str × Value)} {Q : Unit → Shared → Prop}
    (oC : h0.get? C = some (excClassObj nm q C N bs bm hdct sn sub ab col dd k0 k1 k2 k3 k5 newId)) (ca : Bind.checkArgs newId ⟨.any, B, B, .cls, [⟨"args", .varPos, false⟩, ⟨"kwargs", .varKw, false⟩]⟩ ⟨.ref C :: us, kw⟩ = pure ())
    (go : Q () ⟨h0, gs, dr, tn, so⟩) : wpAny M A (checkBuiltinCall newId ⟨.ref C :: us, kw⟩) Q E ⟨h0, gs, dr, tn, so⟩ := by
  have y1 : (Value.ref C :: bm).contains (.type B) = true := by rw [List.contains_cons, hT, FB.hasB, Bool.or_true]
  have ns := FB.noStar
  simp only [checkBuiltinCall, FB.newKind, FB.newSplit, FB.newRow]
  rw [ca]
  repeat (first | refine wpAny_loadPart_at oC ?_ | (refine wpAny_isSubtype_exc oC ?_; rw [y1]) | refine wpAny_staticBase_exc oC ?_ | refine wpAny_madeBy_exc oC ?_ | simp only [bne_self_eq_false, Bool.false_eq_true, if_false] | wp_step)
  exact go
theorem type_kw (FB : ExcBaseFacts B newId initId bmB) (hT : ∀ X : String, bm.contains (.type X) = bmB.contains (.type X)) {us : List Value} {kw : List (Str × Value)} {iv : Value} {Q : Fin → Shared → Prop}
    (oC : h0.get? C = some (excClassObj nm q C N bs bm hdct sn sub ab col dd k0 k1 k2 k3 k5 newId)) (ca : Bind.checkArgs newId ⟨.any, B, B, .cls, [⟨"args", .varPos, false⟩, ⟨"kwargs", .varKw, false⟩]⟩ ⟨.ref C :: us, kw⟩ = pure ())
    (fi : Looks (model prog w) h0 (typeLookup (.ref C) "__init__") (some iv)) (bi : ∀ self, Looks (model prog w) h0 (bindSpecial iv self) (iv, [self])) (lu : us.length ≤ sizeLine)
    (go : codeAny (model prog w) A (.call iv ⟨.ref (h0.objs.size + 1) :: us, kw⟩)
      (fun r s' => match r with | .ok (.ret v) => v = .none ∧ Q (.done (.ret (.ref (h0.objs.size + 1)))) s' | .ok _ => False | .error e => E e s')
      ⟨(h0.push (kdv_tup us)).push (fresh C h0.objs.size), gs, dr, tn, so⟩) :
    wpAny (model prog w) A (Builtin.«type.__call__» ⟨.ref C :: us, kw⟩) Q E ⟨h0, gs, dr, tn, so⟩ := by
  repeat (first | with_reducible refine wpAny_loadPart_at oC ?_ | with_reducible refine wpAny_madeBy_exc oC ?_ | wp_step)
  refine codeAny_call_builtin_code (Code.quiet_builtin _ FB.quiet) (check_kw FB hT oC ca ?_)
  refine new_kw FB hT oC lu ?_
  show wpAny _ _ _ _ _ _
  have kp : ∀ b o, h0.get? b = some o → ((h0.push (kdv_tup us)).push (fresh C h0.objs.size)).get? b = some o := fun b o e => Heap.get?_push_of_some _ (Heap.get?_push_of_some _ e)
  have oC1 := kp _ _ oC
  have oe : ((h0.push (kdv_tup us)).push (fresh C h0.objs.size)).get? (h0.objs.size + 1) = some (fresh C h0.objs.size) := by heap_get
  have yC : (Value.ref C :: bm).contains (.ref C) = true := by simp
  have fi1 := fi.keeps kp
  have bi1 := (bi (.ref (h0.objs.size + 1))).keeps kp
  unfold isInstance
  repeat (first | with_reducible refine wpAny_loadPart_at oe ?_ | (with_reducible refine wpAny_isSubtype_exc oC1 ?_; rw [yC]) | wp_step)
  show wpAny _ _ (typeLookup (.ref C) _) _ _ _
  refine fi1.at ?_
  refine wpAny_holding (wpAny_bind (bi1.at ?_))
  refine wpAny_bind (wpAny_call (codeAny_mono go fun r s' z => ?_))
  rcases r with e | (v | _ | _ | _) <;> first | exact z | exact z.elim | skip
  obtain ⟨rfl, z⟩ := z
  first
    | exact wpAny_pure (wpAny_pure z)
    | (wp_walk; exact z)
/-- C(a, .., k = v, ..): the error, new, then its own __init__ -/
theorem call_kw (FB : ExcBaseFacts B newId initId bmB) (hT : ∀ X : String, bm.contains (.type X) = bmB.contains (.type X)) {us : List Value} {kw : List (Str × Value)} {iv : Value}
    (oC : h0.get? C = some (excClassObj nm q C N bs bm hdct sn sub ab col dd k0 k1 k2 k3 k5 newId)) (ca : Bind.checkArgs newId ⟨.any, B, B, .cls, [⟨"args", .varPos, false⟩, ⟨"kwargs", .varKw, false⟩]⟩ ⟨.ref C :: us, kw⟩ = pure ())
    (fi : Looks (model prog w) h0 (typeLookup (.ref C) "__init__") (some iv)) (bi : ∀ self, Looks (model prog w) h0 (bindSpecial iv self) (iv, [self])) (lu : us.length ≤ sizeLine)
    (go : codeAny (model prog w) (A.under (.builtin "type.__call__" ⟨.ref C :: us, kw⟩)) (.call iv ⟨.ref (h0.objs.size + 1) :: us, kw⟩) (InitBack (h0.objs.size + 1) R)
      ⟨(h0.push (kdv_tup us)).push (fresh C h0.objs.size), gs, dr, tn, so⟩) :
    codeAny (model prog w) A (.call (.ref C) ⟨us, kw⟩) R ⟨h0, gs, dr, tn, so⟩ := by
  have f1 := tc_lookup
  have f2 := tc_bind (.ref C)
  have tT : (⟨h0, gs, dr, tn, so⟩ : Shared).TypeIs (.ref C) "type" := ⟨_, oC, rfl⟩
  have ty : Looks (model prog w) h0 (isInstance (.ref C) (.type "type")) true := by
    refine ((Looks.ld (part := none) oC).andThen .now).andThen ?_
    exact .of_pure tc_sub
  refine codeAny_of_tree ?_
  show wpAny _ _ (callAny (.ref C) _) _ _ _
  repeat (any_goals (first | assumption | with_reducible refine wpAny_loadPart_at oC ?_ | wp_step))
  refine ⟨rfl, ?_⟩
  refine codeAny_call_builtin_at (Code.quiet_builtin _ (by decide +kernel)) entry_typeCall (check_slot tc_kind tc_split ty (tc_args _ _ _) (type_kw FB hT oC ca fi bi lu ?_))
  refine codeAny_mono go fun r s' z => ?_
  rcases r with e | (v | _ | _ | _) <;> exact z
end
end EXC


set_option Elab.async false
set_option linter.all false
set_option maxRecDepth 100000
set_option maxHeartbeats 4000000
namespace EXC
open PySem PySem.W PySem.Calls PyProof.Rows
/-! ### def __init__(self, f): self.f = f -/
def iA (f : Str) (p1 p2 : Pos) : Arguments := { posonlyargs := [], args := [{ arg := "self", annotation := none, pos := p1 }, { arg := f, annotation := none, pos := p2 }], vararg := none, kwonlyargs := [], kw_defaults := [], kwarg := none, defaults := [] }
def iB (f : Str) (q1 q2 q3 q4 : Pos) : List Stmt := [.Assign [.Attribute (.Name "self" q1) f q2] (.Name f q3) q4]
def iS (f : Str) : Scope := { kind := .function, names := [(PySem.Str.ofString "self", .local), (f, .local)], isGenerator := false, isCoroutine := false, more := [] }
/-- what is asked of the field's name; each by rfl for a written one -/
structure Nm (f : Str) : Prop where
  b1 : ∀ (qual : Str) (p1 p2 q1 q2 q3 q4 : Pos) (kV doc pm : Value) (an : Option Addr) (cdv ct a b : Value), bindArgs (fnOf "__init__" qual (iA f p1 p2) (iB f q1 q2 q3 q4) (iS f) .none kV doc pm an cdv ct) ⟨[a, b], []⟩ = pure [(("self" : Str), a), (f, b)]
  b2 : ∀ (qual : Str) (p1 p2 q1 q2 q3 q4 : Pos) (kV doc pm : Value) (an : Option Addr) (cdv ct a b : Value), bindArgs (fnOf "__init__" qual (iA f p1 p2) (iB f q1 q2 q3 q4) (iS f) .none kV doc pm an cdv ct) ⟨[a], [(f, b)]⟩ = pure [(("self" : Str), a), (f, b)]
  hk : ∀ (a b : Value), (([(("self" : Str), a), (f, b)] : List (Str × Value)).all fun y => (iS f).names.lookup y.1 == some .local || (iS f).names.lookup y.1 == some .cell) = true
  k1 : ∀ (qual : Str) (L fi : Addr) (cdv : Value), (envOfC qual (iS f) L fi cdv).kindOf "self" = some .local
  k2 : ∀ (qual : Str) (L fi : Addr) (cdv : Value), (envOfC qual (iS f) L fi cdv).kindOf f = some .local
  m1 : ∀ (qual : Str) (L fi : Addr) (cdv a b : Value), bindL (envOfC qual (iS f) L fi cdv).kindOf [(("self" : Str), a), (f, b)] (fun _ => none) "self" = some a
  m2 : ∀ (qual : Str) (L fi : Addr) (cdv a b : Value), bindL (envOfC qual (iS f) L fi cdv).kindOf [(("self" : Str), a), (f, b)] (fun _ => none) f = some b
  db : (f == ("__debug__" : Str)) = false
  sw : ∀ (q1 q2 q3 : Pos) (ln : Nat) (env : Env), swapsWith (.Name f q3) (some (.Attribute (.Name "self" q1) f q2)) ln env = pure false
theorem nm_value : Nm "value" := ⟨fun _ _ _ _ _ _ _ _ _ _ _ _ _ _ _ => rfl, fun _ _ _ _ _ _ _ _ _ _ _ _ _ _ _ => rfl, fun _ _ => rfl, fun _ _ _ _ => rfl, fun _ _ _ _ => rfl, fun _ _ _ _ _ _ => rfl, fun _ _ _ _ _ _ => rfl, by decide, fun _ _ _ _ _ => rfl⟩
/-- what the written part says of the error class named n, at C, whose __init__ is st, at fI -/
structure ErrT (K : Frag) (mg : Str → Option Value) (n f : Str) (C fI : Addr) : Prop where
  gC : mg n = some (.ref C)
  ini : excInitIn K C bmE "Exception.__new__" = true
  ov : excOver K C bmE = true
  sa : findIn K (.ref C) "__setattr__" = some (some (.builtin "object.__setattr__"))
  ga : findIn K (.ref C) "__getattribute__" = some (some (.builtin "BaseException.__getattribute__"))
  gg : findIn K (.ref C) "__getattr__" = some none
  noN : findIn K (.ref C) f = some none
  iC : findIn K (.ref C) "__init__" = some (some (.ref fI))
  tI : typeIn K (.ref fI) = some (.type "function")
  kC : keepIn K (.ref C) = true
  exC : subIn K (.ref C) (.type "BaseException") = some true
  tyC : typeIn K (.ref C) = some (.type "type")
  hdC : hasDictIn K C = true
  nm : Nm f
  fn : ∃ (oc : Value) (od : Option Addr) (qual : Str) (p1 p2 q1 q2 q3 q4 : Pos) (kV doc pm : Value) (an : Option Addr) (cdv ct : Value) (osl : Array (Option Value)),
    K.lookup fI = some ⟨oc, od, .func (fnOf "__init__" qual (iA f p1 p2) (iB f q1 q2 q3 q4) (iS f) .none kV doc pm an cdv ct), osl⟩ ∧ codeIn K cdv qual = true
/-- a made error -/
structure Made (h h' : Heap) (e C d : Addr) (f : Str) (v : Value) : Prop where
  keep : ∀ b o, h.get? b = some o → h'.get? b = some o
  new : h.objs.size ≤ e
  obj : ∃ t, h'.get? e = some { cls := .ref C, dict := some d, data := .fields #[.ref t, .none, .none, .none, .bool false, .none] }
  dbig : h.objs.size ≤ d
  dne : d ≠ e
  ns : h'.Ns1 d (fun y => if y = f then some v else none)
theorem ca_e (C : Addr) (us : List Value) (kw : List (Str × Value)) : Bind.checkArgs "Exception.__new__" ⟨.any, "Exception", "Exception", .cls, [⟨"args", .varPos, false⟩, ⟨"kwargs", .varKw, false⟩]⟩ ⟨.ref C :: us, kw⟩ = pure () := by
  first | rfl | kernel_rfl
section
variable {prog : Program} {w : World} {A : Around} {E : Value → Shared → Prop} {R : Result → Shared → Prop} {s : Shared} {K : Frag} {mg : Str → Option Value} {n f : Str} {C fI : Addr}
theorem init_run (T : ErrT K mg n f C fI) {x t0 : Addr} {v : Value} {args : Args} (ha : args = ⟨[.ref x, v], []⟩ ∨ args = ⟨[.ref x], [(f, v)]⟩) (KX : K.In s.heap) (lim : s.heap.NoLimit) (hx : s.heap.get? x = some (fresh C t0)) (room : A.depth < recursionLimit)
    (go : ∀ h' tk dx, (∀ b o, b ≠ x → s.heap.get? b = some o → h'.get? b = some o) → s.heap.objs.size ≤ dx → dx ≠ x → h'.get? x = some { cls := .ref C, dict := some dx, data := .fields #[.ref t0, .none, .none, .none, .bool false, .none] } →
      h'.Ns1 dx (fun z => if z = f then some v else none) → R (.ok (.ret .none)) { s with heap := h', toks := tk }) :
    codeAny (model prog w) A (.call (.ref fI) args) R s := by
  obtain ⟨oc, od, qual, p1, p2, q1, q2, q3, q4, kV, doc, pm, an, cdv, ct, osl, ho, hcd⟩ := T.fn
  have nm := T.nm
  have hb : BindsTo s (fnOf "__init__" qual (iA f p1 p2) (iB f q1 q2 q3 q4) (iS f) .none kV doc pm an cdv ct) args [(("self" : Str), Value.ref x), (f, v)] := by
    rcases ha with rfl | rfl
    · exact BindsTo.of_eq (nm.b1 ..)
    · exact BindsTo.of_eq (nm.b2 ..)
  refine Att.call_fn (binds := [(("self" : Str), Value.ref x), (f, v)]) KX lim ho hcd room hb (nm.hk _ _) (fun s1 IC => ?_) rfl rfl rfl
  obtain ⟨h1, tk1, rfl⟩ := IC.toInCall.same
  have kp : ∀ b o, s.heap.get? b = some o → h1.get? b = some o := IC.toInCall.keep
  have hn := IC.toInCall.ns
  have KX1 : K.In h1 := KX.keeps kp
  have hx1 := kp _ _ hx
  show wpAny _ _ (execs _ _) _ _ _
  refine wpAny_execs_cons (plainObj_wpAny_Assign_Attribute ?_ (nm.sw ..))
  refine wpAny_Name (wpAny_loadName_local rfl (nm.k2 ..) hn (nm.m2 ..) ?_) nm.db
  refine wpAny_Name (wpAny_loadName_local rfl (nm.k1 ..) hn (nm.m1 ..) ?_) (by decide)
  refine set_plain KX1 (ox := fresh C t0) (od := none) ⟨hx1, rfl, rfl, trivial⟩ T.sa ?_
  refine put_first KX1 hx1 T.ov T.hdC T.noN (fun h3 tk3 dx k3 dn dne hx3 hn3 => ?_)
  show wpAny _ _ (execs _ _) _ _ _
  have z : s.heap.objs.size < h1.objs.size := hn.lt
  exact wpAny_execs_nil (go h3 tk3 dx (fun b o hb e => k3 b o hb (kp b o e)) (Nat.le_of_lt (Nat.lt_of_lt_of_le z dn)) dne hx3 hn3)
/-- C(v) and C(f = v) -/
theorem made (T : ErrT K mg n f C fI) {v : Value} {us : List Value} {kw : List (Str × Value)} (ha : (us = [v] ∧ kw = []) ∨ (us = [] ∧ kw = [(f, v)])) (KX : K.In s.heap) (lim : s.heap.NoLimit) (room : A.depth + 1 < recursionLimit)
    (go : ∀ h' tk e d, Made s.heap h' e C d f v → R (.ok (.ret (.ref e))) { s with heap := h', toks := tk }) :
    codeAny (model prog w) A (.call (.ref C) ⟨us, kw⟩) R s := by
  obtain ⟨nm, N, qn, bs, bm, hdct, sn, sub, ab, col, dd, k0, k1, k2, k3, k5, hC, hT⟩ := excInit_of KX T.ini
  obtain ⟨hp, g, dr, tk, os⟩ := s
  have k : ∀ b o, hp.get? b = some o → ((hp.push (kdv_tup us)).push (fresh C hp.objs.size)).get? b = some o := fun b o e => Heap.get?_push_of_some _ (Heap.get?_push_of_some _ e)
  have hget : ((hp.push (kdv_tup us)).push (fresh C hp.objs.size)).get? (hp.objs.size + 1) = some (fresh C hp.objs.size) := by heap_get
  have lu : us.length ≤ sizeLine := by
    rw [sizeLine_eq]
    rcases ha with ⟨rfl, _⟩ | ⟨rfl, _⟩
    · exact (by decide : 1 ≤ 16777216)
    · exact (by decide : 0 ≤ 16777216)
  refine call_kw F.excBase_Exception hT hC (ca_e C us kw) (looks_findIn KX T.iC) (fun self => bind_fn KX self T.tI) lu ?_
  have ha' : (⟨.ref (hp.objs.size + 1) :: us, kw⟩ : Args) = ⟨[.ref (hp.objs.size + 1), v], []⟩ ∨ (⟨.ref (hp.objs.size + 1) :: us, kw⟩ : Args) = ⟨[.ref (hp.objs.size + 1)], [(f, v)]⟩ := by
    rcases ha with ⟨rfl, rfl⟩ | ⟨rfl, rfl⟩
    · exact .inl rfl
    · exact .inr rfl
  refine init_run (s := ⟨(hp.push (kdv_tup us)).push (fresh C hp.objs.size), g, dr, tk, os⟩) T ha' (KX.keeps k) (lim.keeps k) hget ?_ fun h' tk' dx k' dn dne hx hns => ?_
  · show A.depth + 1 < recursionLimit
    exact room
  · have old : ∀ b o, hp.get? b = some o → h'.get? b = some o := fun b o e => k' b o (Nat.ne_of_lt (Nat.lt_succ_of_lt (Heap.lt_size e))) (k b o e)
    have z : hp.objs.size + 1 + 1 ≤ dx := by
      have y := dn
      rw [Heap.size_push, Heap.size_push] at y
      exact y
    exact ⟨rfl, go h' tk' (hp.objs.size + 1) dx ⟨old, Nat.le_succ _, ⟨_, hx⟩, Nat.le_trans (Nat.le_trans (Nat.le_succ _) (Nat.le_succ _)) z, dne, hns⟩⟩
end
end EXC
namespace L2
open PySem PySem.Spec PyProof.Rows EXC
theorem relO_one {v : V} {u : Value} (r : RelV v u) (f g : Str) : RelO (List.lookup g [(f, v)]) (if g = f then some u else none) := relO_put (fs := []) (mA := fun _ => none) r (fun _ => True.intro) g
section
variable {X : Cx} {n f : Str} {C fI : Addr} {e : Expr} {te : TE} {p pos pos2 kpos : Pos}
theorem made_at (T : ErrT X.K X.mg n f C fI) {k : Nat} (hr : Room k X.A) {pins : List (Addr × Obj)} {σ : St} {H : Hp} {s : Shared} (I : Inv X pins σ H s) {u : Value} {us : List Value} {kw : List (Str × Value)} (ha : (us = [u] ∧ kw = []) ∨ (us = [] ∧ kw = [(f, u)])) {Q : Value → Shared → Prop} {E : Value → Shared → Prop}
    (go : ∀ h' tk a d, Made s.heap h' a C d f u → Q (.ref a) { s with heap := h', toks := tk }) : wpAny (model X.prog X.w) X.A (call (.ref C) us kw) Q E s :=
  wpAny_call (made T ha I.kIn I.nolimit (by have := hr.dp; omega) fun h' tk a d M => go h' tk a d M)
/-- .f of a made error -/
theorem made_get (T : ErrT X.K X.mg n f C fI) {h0 : Heap} {s : Shared} {a d : Addr} {u : Value} {v : V} (M : Made h0 s.heap a C d f u) (ru : RelV v u) (KX : X.K.In s.heap) {Q : Value → Shared → Prop} {E : Value → Shared → Prop} {ex : Bool}
    (go : Q u { s with toks := s.toks + 1 }) : wpAny (model X.prog X.w) X.A (getAttr (.ref a) f ex) Q E s := by
  obtain ⟨t, ho⟩ := M.obj
  obtain ⟨od, hod, hl⟩ := lookIn_ns M.ns
  have J : PySem.W.InstAt s.heap a { cls := .ref C, dict := some d, data := .fields #[.ref t, .none, .none, .none, .bool false, .none] } C (some od) := ⟨ho, rfl, rfl, hod⟩
  exact HandSPX.exc_get KX J T.ga T.gg T.exC (PySem.W.findObj_own T.hdC T.noN rfl (by rw [hl, if_pos rfl])) (handed_of ru) go
abbrev only (Q : VK) : List V → Hp → Prop := fun vs H1 => match vs with | [v] => Q v H1 | _ => False
theorem only_inv {Q : VK} {vs : List V} {us : List Value} {H : Hp} (r : Vals vs us) (h : only Q vs H) : ∃ v u, vs = [v] ∧ us = [u] ∧ RelV v u ∧ Q v H := by
  match vs, us, r, h with
  | [v], [u], .cons a .nil, h => exact ⟨v, u, rfl, rfl, a, h⟩
/-- n(e).f : what e is -/
theorem pe_errF (T : ErrT X.K X.mg n f C fI) {k : Nat} (hr : Room k X.A) (he : PE X e te) (hg : Gl X n) (hdb : (n == ("__debug__" : Str)) = false := by decide)
    (hb : attributeBase (.Call (.Name n p) [e] [] pos) f X.env (eval (.Call (.Name n p) [e] [] pos) X.env) = eval (.Call (.Name n p) [e] [] pos) X.env := by rfl)
    (hs : starEach [e] X.env = (false, eval e X.env) :: starEach [] X.env := by rfl) (hpl : (backTo pos (starEach [] X.env)).any (·.1) = false := by rfl) :
    PE X (.Attribute (.Call (.Name n p) [e] [] pos) f pos2) te := by
  refine ⟨fun pins s σ H Q I h => attr_of hb ?_⟩
  refine wpAny_Call_Name_kw (ld_glob I hg T.gC ?_ hdb)
  refine PySem.W.callWith_K (h₀ := X.base) I.ok.mod.kin T.kC (thn ((pa_cons he pa_nil (hs := hs)).run pos pins s σ H (only Q) I h) fun us s1 ⟨vs, H1, I1, r1, q1⟩ => ⟨I1.kIn, ?_⟩) hs hpl
  obtain ⟨v, u, rfl, rfl, rv, q⟩ := only_inv r1 q1
  refine made_at T hr I1 (.inl ⟨rfl, rfl⟩) fun h' tk a d M => ?_
  exact made_get T (s := { s1 with heap := h', toks := tk }) M rv (I1.kIn.keeps M.keep) ⟨v, H1, I1.kept (t' := tk + 1) M.keep, rv, q⟩
/-- n(f = e).f : what e is -/
theorem pe_errK (T : ErrT X.K X.mg n f C fI) {k : Nat} (hr : Room k X.A) (he : PE X e te) (hg : Gl X n) (hdb : (n == ("__debug__" : Str)) = false := by decide)
    (hb : attributeBase (.Call (.Name n p) [] [⟨some f, e, kpos⟩] pos) f X.env (eval (.Call (.Name n p) [] [⟨some f, e, kpos⟩] pos) X.env) = eval (.Call (.Name n p) [] [⟨some f, e, kpos⟩] pos) X.env := by rfl) :
    PE X (.Attribute (.Call (.Name n p) [] [⟨some f, e, kpos⟩] pos) f pos2) te := by
  refine ⟨fun pins s σ H Q I h => attr_of hb ?_⟩
  refine wpAny_Call_Name_kw (ld_glob I hg T.gC ?_ hdb)
  refine PySem.W.callWith_KW0 (h₀ := X.base) I.ok.mod.kin T.kC (by rfl) (thn ((pk_cons he pk_nil).run pos pins s σ H (only Q) I h) fun us s1 ⟨vs, H1, I1, r1, q1⟩ => ⟨I1.kIn, ?_⟩) (by rfl)
  obtain ⟨v, u, rfl, rfl, rv, q⟩ := only_inv r1 q1
  show wpAny _ _ (call (.ref C) [] [(f, u)]) _ _ _
  refine made_at T hr I1 (.inr ⟨rfl, rfl⟩) fun h' tk a d M => ?_
  exact made_get T (s := { s1 with heap := h', toks := tk }) M rv (I1.kIn.keeps M.keep) ⟨v, H1, I1.kept (t' := tk + 1) M.keep, rv, q⟩
/-- n(e): an error, new, and its dict -/
theorem pe_err (T : ErrT X.K X.mg n f C fI) {k : Nat} (hr : Room k X.A) (he : PE X e te) (hg : Gl X n) (hdb : (n == ("__debug__" : Str)) = false := by decide)
    (hs : starEach [e] X.env = (false, eval e X.env) :: starEach [] X.env := by rfl) (hpl : (backTo pos (starEach [] X.env)).any (·.1) = false := by rfl) :
    PE X (.Call (.Name n p) [e] [] pos) (fun σ H Q => te σ H fun v H1 => ∀ a d, H1 a = none → H1 d = none → d ≠ a → Q (.ref a) (upd (upd H1 d (.xd [(f, v)])) a (exo a C (some d)))) := by
  refine ⟨fun pins s σ H Q I h => ?_⟩
  refine wpAny_Call_Name_kw (ld_glob I hg T.gC ?_ hdb)
  refine PySem.W.callWith_K (h₀ := X.base) I.ok.mod.kin T.kC (thn ((pa_cons he pa_nil (hs := hs)).run pos pins s σ H (only _) I h) fun us s1 ⟨vs, H1, I1, r1, q1⟩ => ⟨I1.kIn, ?_⟩) hs hpl
  obtain ⟨v, u, rfl, rfl, rv, q⟩ := only_inv r1 q1
  refine made_at T hr I1 (.inl ⟨rfl, rfl⟩) fun h' tk a d M => ?_
  obtain ⟨t, ho⟩ := M.obj
  have na : H1 a = none := I1.hok.fresh M.new
  have nd : H1 d = none := I1.hok.fresh M.dbig
  obtain ⟨hp, g, dr, t1, os⟩ := s1
  have U : Un X.fs [] H1 (upd (upd H1 d (.xd [(f, v)])) a (exo a C (some d))) hp h' := {
    keep := fun b o z n _ _ => M.keep b o z
    slot := fun b o z n _ _ => ⟨o.slots, M.keep b o z⟩
    free := fun b o z n _ => by rw [upd_ne (Nat.ne_of_lt (Nat.lt_of_lt_of_le (Heap.lt_size z) M.new)), upd_ne (Nat.ne_of_lt (Nat.lt_of_lt_of_le (Heap.lt_size z) M.dbig))]; exact n
    there := fun b o z _ => ⟨o, M.keep b o z⟩
    tups := fun b xs z => by rw [upd_ne (ne_of_none z na), upd_ne (ne_of_none z nd)]; exact z
    frzs := fun b o xs z => by rw [upd_ne (ne_of_none z na), upd_ne (ne_of_none z nd)]; exact z
    tbls := fun b ps z => ⟨#[], by rw [upd_ne (ne_of_none z na), upd_ne (ne_of_none z nd), z]; simp⟩ }
  refine ⟨.ref a, _, I1.un (t' := tk) U (fun b o z => ?_), rfl, q a d na nd M.dne⟩
  by_cases ea : b = a
  · subst ea
    rw [upd_same] at z
    cases z
    exact exo_ok ho
  · rw [upd_ne ea] at z
    by_cases ed : b = d
    · subst ed
      rw [upd_same] at z
      cases z
      exact ⟨_, M.ns, fun g => relO_one rv f g⟩
    · rw [upd_ne ed] at z
      exact (I1.hok b o z).stay (fun c v _ q => M.keep c v q) (fun c q => by rw [upd_ne (ne_of_none q na), upd_ne (ne_of_none q nd)]; exact q) fun c xs q => by rw [upd_ne (ne_of_none q na), upd_ne (ne_of_none q nd)]; exact q
/-- n(e), to be raised -/
theorem pmk_err (T : ErrT X.K X.mg n f C fI) {k : Nat} (hr : Room k X.A) (he : PE X e te) (hg : Gl X n) (hdb : (n == ("__debug__" : Str)) = false := by decide)
    (hs : starEach [e] X.env = (false, eval e X.env) :: starEach [] X.env := by rfl) (hpl : (backTo pos (starEach [] X.env)).any (·.1) = false := by rfl) :
    PMk X (.Call (.Name n p) [e] [] pos) (fun σ H Q => te σ H fun v H1 => ∀ d, H1 d = none → Q (.ref C) (some d) (upd H1 d (.xd [(f, v)]))) := by
  intro pins s σ H Q I h
  refine wpAny_Call_Name_kw (ld_glob I hg T.gC ?_ hdb)
  refine PySem.W.callWith_K (h₀ := X.base) I.ok.mod.kin T.kC (thn ((pa_cons he pa_nil (hs := hs)).run pos pins s σ H (only _) I h) fun us s1 ⟨vs, H1, I1, r1, q1⟩ => ⟨I1.kIn, ?_⟩) hs hpl
  obtain ⟨v, u, rfl, rfl, rv, q⟩ := only_inv r1 q1
  refine made_at T hr I1 (.inl ⟨rfl, rfl⟩) fun h' tk a d M => ?_
  obtain ⟨t, hoe⟩ := M.obj
  have hns := M.ns
  obtain ⟨hp, g, dr, t1, os⟩ := s1
  obtain ⟨G, g1, g2⟩ := restrict h' fun b => decide (b ≠ a)
  have gk : ∀ b, b ≠ a → G.get? b = h'.get? b := fun b hb => g1 b (decide_eq_true hb)
  have ge : G.get? a = none := g2 a (by simp)
  have old : ∀ b o, hp.get? b = some o → G.get? b = some o := fun b o q => (gk b (Nat.ne_of_lt (Nat.lt_of_lt_of_le (Heap.lt_size q) M.new))).trans (M.keep b o q)
  have ob : ObjOk X.prog X.w (upd H1 d (.xd [(f, v)])) G d (.xd [(f, v)]) := ⟨_, hns.at (fun o q => (gk d M.dne).trans q), fun z => relO_one rv f z⟩
  have J : Inv X pins σ (upd H1 d (.xd [(f, v)])) ⟨G, g, dr, tk, os⟩ := I1.laid (t' := tk) old M.dbig ob
  refine ⟨a, _, _, ⟨G, g, dr, tk, os⟩, _, .ref C, some d, rfl, J, fun b o q => ?_, ge, hoe, ⟨rfl, rfl⟩, rfl, rfl, ?_, rfl, I1.bare, raises_own T.exC T.tyC, q d (I1.hok.fresh M.dbig)⟩
  · by_cases hb : b = a
    · have q' : G.get? b = some o := q
      rw [hb, ge] at q'
      cases q'
    · exact (gk b hb).symm.trans q
  · rw [upd_ne (Ne.symm M.dne)]
    exact I1.hok.fresh M.new
end
end L2


set_option Elab.async false
set_option linter.all false
set_option maxRecDepth 100000
set_option maxHeartbeats 4000000
namespace L2
open PySem PySem.Spec PyProof.Rows EXC
/-! ### an error class without an __init__ of its own, called without arguments -/
structure Err0 (K : PySem.W.Frag) (mg : Str → Option Value) (n : Str) (C : Addr) : Prop where
  gC : mg n = some (.ref C)
  ini : PySem.W.excInitIn K C bmE "Exception.__new__" = true
  iC : PySem.W.findIn K (.ref C) "__init__" = some (some (.builtin "Exception.__init__"))
  kC : PySem.W.keepIn K (.ref C) = true
section
variable {X : Cx} {n : Str} {C : Addr} {p pos : Pos}
theorem pe_err0 (T : Err0 X.K X.mg n C) (hg : Gl X n) (hdb : (n == ("__debug__" : Str)) = false := by decide) :
    PE X (.Call (.Name n p) [] [] pos) (fun σ H Q => ∀ a, H a = none → Q (.ref a) (upd H a (exo a C none))) := by
  refine ⟨fun pins s σ H Q I h => ?_⟩
  refine wpAny_Call_Name_kw (ld_glob I hg T.gC ?_ hdb)
  refine PySem.W.callWith_KW0 (h₀ := X.base) (kws := []) I.ok.mod.kin T.kC (by rfl) (thn (pk_nil.run pos pins s σ H (fun vs H1 => vs = [] ∧ ∀ a, H1 a = none → Q (.ref a) (upd H1 a (exo a C none))) I ⟨rfl, h⟩) fun us s1 ⟨vs, H1, I1, r1, ev, q1⟩ => ⟨I1.kIn, ?_⟩) (by rfl)
  subst ev
  cases r1
  show wpAny _ _ (call (.ref C) [] []) _ _ _
  obtain ⟨nm, N, qn, bs, bm, hdct, sn, sub, ab, col, dd, k0, k1, k2, k3, k5, hC, hT⟩ := PySem.W.excInit_of I1.kIn T.ini
  obtain ⟨hp, g, dr, tk, os⟩ := s1
  have k : ∀ b o, hp.get? b = some o → ((hp.push (PySem.W.kdv_tup [])).push (fresh C hp.objs.size)).get? b = some o := fun b o e => Heap.get?_push_of_some _ (Heap.get?_push_of_some _ e)
  have hget : ((hp.push (PySem.W.kdv_tup [])).push (fresh C hp.objs.size)).get? (hp.objs.size + 1) = some (fresh C hp.objs.size) := by heap_get
  refine wpAny_call (call_kw (iv := .builtin "Exception.__init__") F.excBase_Exception hT hC (ca_e C [] []) (PySem.W.looks_findIn I1.kIn T.iC) (fun self => .of_pure (F.excBase_Exception.init.bind self)) (by rw [sizeLine_eq]; exact (by decide : 0 ≤ 16777216)) ?_)
  refine HandSPX.init_base F.excBase_Exception hT (k _ _ hC) hget (by rw [sizeLine_eq]; exact (by decide : 0 ≤ 16777216)) fun h' t1 k' hx => ?_
  have old : ∀ b o, hp.get? b = some o → h'.get? b = some o := fun b o e => k' b o (Nat.ne_of_lt (Nat.lt_succ_of_lt (Heap.lt_size e))) (k b o e)
  exact ⟨rfl, .ref (hp.objs.size + 1), _, I1.laid (t' := tk) (a := hp.objs.size + 1) (o := exo (hp.objs.size + 1) C none) old (Nat.le_succ _) (exo_ok hx), rfl, q1 _ (I1.hok.fresh (Nat.le_succ _))⟩
end
/-! ### isinstance -/
/-- an error of the class at D stands at a -/
def ErrAt (H : Hp) (a D : Addr) : Prop := H a = some (exo a D none) ∨ ∃ d fs, H a = some (exo a D (some d)) ∧ H d = some (.xd fs)
def rIsX (K : PySem.W.Frag) : List V → Hp → VK → Prop := fun xs H Q => ∃ (a D C : Addr) (b : Bool), xs = [.ref a, .ref C] ∧ ErrAt H a D ∧ ExcC K D ∧ PySem.W.kitOne K (.ref D) (.ref C) = some b ∧ Q (.bl b) H
theorem call_isX {X : Cx} : CallR X (.builtin "isinstance") (rIsX X.K) := by
  intro pins s σ H xs us Q I r h
  obtain ⟨a, D, C, b, rfl, hE, T, e, q⟩ := h
  obtain ⟨u1, u2, rfl, r1, r2⟩ := vals2 r
  cases (show u1 = Value.ref a from r1)
  cases (show u2 = Value.ref C from r2)
  have hcl : (PySem.W.clsIn X.K D).isSome = true := by
    obtain ⟨cd, hc, _⟩ := PySem.W.any_some T.hd
    rw [hc]
    rfl
  rcases hE with ha | ⟨d, fs, ha, hd⟩
  · obtain ⟨t, ho⟩ := exo_at I.hok ha
    exact PySem.W.kia_one (PySem.W.kitx_exc (od := none) hcl T.hg T.hk T.hs T.ha T.hn T.ht T.hm) I.kIn ⟨ho, rfl, rfl, trivial⟩ e (fun z => nomatch z) fun tk => ⟨.bl b, H, I.tok tk, rfl, q⟩
  · obtain ⟨t, ho⟩ := exo_at I.hok ha
    have hx : ObjOk X.prog X.w H s.heap d (.xd fs) := I.hok d _ hd
    obtain ⟨mA, ⟨od, es, ep, hod, _⟩, _⟩ := hx
    exact PySem.W.kia_one (PySem.W.kitx_exc (od := some od) hcl T.hg T.hk T.hs T.ha T.hn T.ht T.hm) I.kIn ⟨ho, rfl, rfl, hod⟩ e (fun z => nomatch z) fun tk => ⟨.bl b, H, I.tok tk, rfl, q⟩
/-! ### xs * k -/
theorem vals_rep {xs : List V} {us : List Value} (r : Vals xs us) : ∀ k : Nat, Vals (List.replicate k xs).flatten (List.replicate k us).flatten
  | 0 => .nil
  | k + 1 => by
    rw [List.replicate_succ, List.replicate_succ, List.flatten_cons, List.flatten_cons]
    exact r.append (vals_rep r k)
theorem op_mul_li {X : Cx} : OpR X (binaryOp .Mult) (fun x y H Q => ∃ a xs k, x = V.ref a ∧ y = V.int k ∧ SqL X.K H a xs ∧ 0 ≤ k ∧ xs.length * k.toNat ≤ 256 ∧ k ≤ 256 ∧ ∀ p, H p = none → Q (.ref p) (upd H p (.lst (List.replicate k.toNat xs).flatten))) := by
  intro pins s σ H x y v u Q I rx ry h
  obtain ⟨a, xs, k, rfl, rfl, hs, k0, kz, k2, q⟩ := h
  obtain rfl : v = Value.ref a := rx
  obtain ⟨tu, rfl⟩ : ∃ t, u = Value.int k t := ry
  obtain ⟨its, rv, ⟨⟨cls, dd, data, sl⟩, n, ho, hc, hdn, hd⟩, hlen⟩ := I.list hs
  have hc1 : cls = Value.type "list" := hc
  have hd1 : data = Data.seq its.toArray n := hd
  subst hc1 hd1
  have hm2 : its.length * k.toNat ≤ 256 := by
    rw [← rv.length]
    exact kz
  have hm : its.toArray.size * k.toNat ≤ 256 := by
    rw [List.size_toArray, ← rv.length]
    exact kz
  refine wpAny_binaryOp_repeat_ref (T := "list") (U := "int") (by decide) ⟨_, ho, rfl⟩ (fun s' => typeIs_int s' k tu) noFill_list_mul F.fills_int_mul F.slot_int_rmul repeat_list F.slot_int_index.lookup
    (call_meets F.slot_int_rmul (typeIs_int s k tu) F.entry_int_rmul (F.args_int_rmul_2 _ _) (lm_int_rmul_list_any k tu a its.toArray n dd sl)
      ⟨ho, rfl, ⟨_, ho, rfl⟩, call_meets F.slot_list_mul ⟨_, ho, rfl⟩ F.entry_list_mul (F.args_list_mul_2 _ _)
        (lm_list_mul_any a its.toArray n dd sl k tu (by simp [Builtin.List.listFitsIndex]; omega) (by omega) (by simp [Builtin.List.listTooLong, sizeLine]; omega)) ⟨ho, ?_⟩⟩)
  rw [listMul_foldl_if]
  have rr := vals_rep rv k.toNat
  have ll : (List.replicate k.toNat xs).flatten.length ≤ sizeLine := by
    rw [List.length_flatten, List.map_replicate, List.sum_replicate_nat, sizeLine_eq, Nat.mul_comm]
    omega
  exact ⟨.ref s.heap.objs.size, upd H s.heap.objs.size (.lst (List.replicate k.toNat xs).flatten), I.laid (t' := s.toks) (fun b o e => Heap.get?_push_of_some _ e) (Nat.le_refl _) ⟨ll, _, 0, rr, Heap.get?_push_size _ rfl⟩, rfl, q _ (I.hok.fresh (Nat.le_refl _))⟩
end L2


set_option Elab.async false
set_option linter.all false
set_option maxRecDepth 100000
set_option maxHeartbeats 4000000
namespace L2
open PySem PySem.Spec PyProof.Rows EXC
/-! ### several clauses «except x as n», n in slot i -/
abbrev Clause := Value × (Addr → Value → Option Addr → TS)
/-- the ends of a suite: n's slot is empty behind it -/
def clr (i : Nat) (D : Ends) : Ends := { nx := fun σ' H' => D.nx (σ'.set i none) H', rt := D.rt, bk := fun σ' H' => D.bk (σ'.set i none) H', ct := fun σ' H' => D.ct (σ'.set i none) H' }
def wManyA (K : PySem.W.Frag) (i : Nat) (Wout : WX) (D : Ends) : List Clause → WX
  | [] => Wout
  | (c, ts) :: r => fun cls d σ H => ∃ b, PySem.W.exmOne K cls c = some b ∧ (b = true → ∀ a, H a = none → ts a cls d (clr i D) (σ.set i (some (.ref a))) H) ∧ (b = false → wManyA K i Wout D r cls d σ H)
inductive HdsA (X : Cx) (n : Str) : List ExceptHandler → List Clause → Prop
  | nil : HdsA X n [] []
  | cons {x : Str} {c : Value} {ts : Addr → Value → Option Addr → TS} {b0 : Stmt} {suite : List Stmt} {np pos' : Pos} {hds : List ExceptHandler} {l : List Clause} (hc : Names X x c)
      (hsu : ∀ (a : Addr) (oe : Obj) (cls : Value) (d : Option Addr) (pn : List (Addr × Obj)), Zc cls d oe → (∃ vs, oe.data = .fields vs) → PSs (X.suite a ((a, oe) :: pn)) (b0 :: suite) (ts a cls d)) (r : HdsA X n hds l) :
      HdsA X n (.ExceptHandler (some (.Name x np)) (some n) (b0 :: suite) pos' :: hds) ((c, ts) :: l)
section
variable {X : Cx} {n : Str} {i : Nat} {body : List Stmt} {h0 : ExceptHandler} {hds : List ExceptHandler} {l : List Clause} {pos : Pos} {tb : WX → TS} {Wout : WX}
theorem ps_try_manyA (hs : X.stack = X.env :: X.outer) (hf : X.env.frame = some X.env.locals) (hN : X.N.Nodup) (hi : X.N[i]? = some n) (hln : X.env.kindOf n = some .local) (tk : Takes X Wout)
    (hb : ∀ (W : WX) (pn : List (Addr × Obj)) (xe : Value → Shared → Prop), Takes (X.tr pn xe) W → PassesOwn (model X.prog X.w) X.A X.env xe → PSs (X.tr pn xe) body (tb W))
    (hh : HdsA X n (h0 :: hds) l) : PS X (.Try body (h0 :: hds) [] [] pos) (fun D σ H => tb (wManyA X.K i Wout D l) D σ H) := by
  refine ⟨fun pins s σ H D I h => ?_⟩
  have ok := I.ok
  have loc : Loc X.env.scope n := .inl hln
  have frs0 : X.A.frames = some (X.env :: X.outer) := by rw [ok.frames, hs]
  refine wpAny_Try_except (wpAny_mono ((hb (wManyA X.K i Wout D l) (X.pn ++ pins) _ (fun u s' xx => ?_) PassesOwn.looking).run [] s σ H D (I.toTry _) h) (fun fl s1 q => ?_) (fun e s1 he => he))
  · obtain ⟨a, B, sI, pins', σ', H', cls, d, rfl, J', nb, up, sky, na, os, ag, wi⟩ := xx
    have J : Inv X pins σ' H' sI := J'.ofTry ok
    have sky1 : Sky B (X.env :: X.outer) a (Zc cls d) X.env.locals s'.heap := by
      rw [← hs]
      exact sky
    show wpAny (model X.prog X.w) X.A (noteFrame (.ref a) X.env) _ _ _
    refine Sky.land Zc.steady frs0 hf sky1 fun h3 fl3 up3 => ?_
    have J3 : Inv X pins σ' H' { s' with heap := h3 } := J.landed nb fl3.1 (up.trans up3) os ag
    obtain ⟨oe3, vs3, he3, hz3, hd3⟩ := fl3.there
    have nfr : a ∉ frs (X.env :: X.outer) := fun hm => by
      obtain ⟨_, o', e', hnf⟩ := fl3.2.2.1.mem hm
      rw [he3] at e'
      cases e'
      exact hnf _ hd3
    have nL : a ≠ X.env.locals := fun z => nfr (List.mem_filterMap.mpr ⟨X.env, List.mem_cons_self, by rw [hf, z]⟩)
    have nF : a ∉ X.fs := fun hm => by
      obtain ⟨e, he, q⟩ := List.mem_filterMap.mp hm
      exact nfr (List.mem_filterMap.mpr ⟨e, List.mem_cons_of_mem _ he, q⟩)
    have S3 := J3.suite he3 hd3 na nL nF
    have go : ∀ {hs2 : List ExceptHandler} {l2 : List Clause}, HdsA X n hs2 l2 → wManyA X.K i Wout D l2 cls d σ' H' → wpAny (model X.prog X.w) X.A (handleBy (.ref a) X.env hs2) (SP X pins D) X.xe { s' with heap := h3 } := by
      intro hs2 l2 hk
      induction hk with
      | nil =>
        intro wi
        refine wpAny_handleBy_nil ?_
        obtain ⟨_, _, _, oe, vs, T, oT, ts', he, hz, hd, h1, hr⟩ := id fl3
        unfold PySem.passOn
        refine wpAny_bind (wpAny_field he hd h1 ?_)
        rw [if_neg (show ¬ ((Value.ref T == Value.none) = true) from by simp)]
        have last : wpAny (model X.prog X.w) X.A (setFlight (.ref a) X.env.frame) (fun _ s4 => wpAny (model X.prog X.w) X.A (throw (.ref a) : Sem Flow) (SP X pins D) X.xe s4) X.xe { s' with heap := h3 } := by
          rw [hf]
          exact HandSPX.setFlight_upZ fl3 fun h4 hh4 up4 => wpAny_throw (tk _ _ ⟨a, B, sI, pins, σ', H', cls, d, rfl, J, nb, (up.trans up3).trans up4, .inr (.inr (by rw [hs]; exact hh4)), na, os, ag, wi⟩)
        first
          | exact wpAny_bind (wpAny_pure (wpAny_bind last))
          | exact wpAny_bind last
      | @cons x c ts b0 suite np pos' hds2 l2 hc hsu r ih =>
        intro wi
        obtain ⟨b, e1, yes, no⟩ := wi
        refine wpAny_handleBy_cons (codeAny_handlers_test ?_) (by intro q; cases q)
        have LT : PySem.W.Looks (model X.prog X.w) h3 (typeOf (.ref a)) cls := fun A Q E s k q => wpAny_typeOf_ref (k _ _ he3) (by rw [hz3.1]; exact q)
        have LM := PySem.W.exm_one (M := model X.prog X.w) (J3.kIn) LT e1
        have test : ∀ {Q : Value → Shared → Prop} {E : Value → Shared → Prop}, Q c { s' with heap := h3 } → wpAny (model X.prog X.w) (X.A.mark (some (.ref a))) (eval (.Name x np) X.env) Q E { s' with heap := h3 } := fun {Q E} q => by
          obtain ⟨hg, hdbg, hm | ⟨hm, hv, hnn⟩⟩ := hc
          · exact ld_glob (X := X.suite a ((a, oe3) :: (X.pn ++ pins))) S3 hg hm q hdbg
          · exact ld_blt (X := X.suite a ((a, oe3) :: (X.pn ++ pins))) S3 hg hm hv q hnn hdbg
        refine test (LM.here ?_)
        cases b with
        | false =>
          show wpAny _ X.A (handleBy (.ref a) X.env hds2) _ _ _
          exact ih (no rfl)
        | true =>
          refine codeAny_handlers_suite_as (HandSPX.lands_againZ fl3 fun h4 fl4 up4 => ?_)
          have J4 : Inv X pins σ' H' { s' with heap := h4 } := J.landed nb fl4.1 ((up.trans up3).trans up4) os ag
          obtain ⟨oe4, vs4, he4, hz4, hd4⟩ := fl4.there
          have S4 := J4.suite he4 hd4 na nL nF
          refine store_ok (X := X.suite a ((a, oe4) :: (X.pn ++ pins))) (v := .ref a) S4 hN hi loc rfl (fun s5 S5 => ?_) (.inr hln)
          refine wpAny_mono ((hsu a oe4 cls d (X.pn ++ pins) hz4 ⟨_, hd4⟩).run [] s5 _ H' _ S5 (yes rfl a na)) (fun fl s6 q => ?_) (fun _ _ z => False.elim z)
          have bye : ∀ {σ6 : St} {H6 : Hp} {Q : Shared → Prop}, Inv (X.suite a ((a, oe4) :: (X.pn ++ pins))) [] σ6 H6 s6 → (∀ s7, Inv X pins (σ6.set i none) H6 s7 → Q s7) →
              wpAny (model X.prog X.w) X.A (do bindName X.env n .none; unbindBehindTheSuite X.env n pos') (fun _ s7 => Q s7) X.xe s6 := fun {σ6 H6 Q} S6 hq => gone_ok (S6.unsuite ok) hN hi hln hq
          cases fl with
          | next => obtain ⟨σ6, H6, S6, q6⟩ := q; exact bye S6 fun s7 J7 => ⟨_, _, J7, q6⟩
          | brk => obtain ⟨σ6, H6, S6, q6⟩ := q; exact bye S6 fun s7 J7 => ⟨_, _, J7, q6⟩
          | cont => obtain ⟨σ6, H6, S6, q6⟩ := q; exact bye S6 fun s7 J7 => ⟨_, _, J7, q6⟩
          | ret u => obtain ⟨v6, σ6, H6, S6, r6, q6⟩ := q; exact bye S6 fun s7 J7 => ⟨_, _, _, J7, r6, q6⟩
    exact go hh wi
  · cases fl with
    | next => obtain ⟨σ', H', J', q'⟩ := q; exact wpAny_execs_nil ⟨σ', H', J'.ofTry ok, q'⟩
    | brk => obtain ⟨σ', H', J', q'⟩ := q; exact ⟨σ', H', J'.ofTry ok, q'⟩
    | cont => obtain ⟨σ', H', J', q'⟩ := q; exact ⟨σ', H', J'.ofTry ok, q'⟩
    | ret u => obtain ⟨v, σ', H', J', r, q'⟩ := q; exact ⟨v, σ', H', J'.ofTry ok, r, q'⟩
end
end L2


set_option Elab.async false
set_option linter.all false
set_option maxRecDepth 100000
set_option maxHeartbeats 4000000
namespace LH
open PySem L2
def top (i : Nat) : Stmt := PySem.Challenge.pw_countededges_k42_classes_of_errors.main.body.getD i (.Pass ⟨0, 0, 0, 0⟩)
abbrev sNum : Stmt := top 26
abbrev sPool : Stmt := top 27
abbrev sDraw : Stmt := top 28
abbrev sOpen : Stmt := top 29
/-- the module's and built-in names that these defs read -/
structure HT (mg : Str → Option Value) : Prop where
  max : mg "max" = none
  min : mg "min" = none
  int : mg "int" = none
  range : mg "range" = none
  len : mg "len" = none
theorem z420 : (0 : Int) < 420 := by decide
/-- a new object changes nothing that stood -/
theorem sm {H : Hp} {p : Addr} {o : HO} (np : H p = none) : Same H (upd H p o) := fun b u e => by
  rw [upd_ne (ne_of_none e np)]
  exact e
section
variable {P : Program} {w : World} {K : PySem.W.Frag} {mg : Str → Option Value} {base : Heap}
abbrev nsNum : List Str := ["cell", "salt", "sizes", "whole", "left", "result", "k", "one"]
theorem scNum : FnScope nsNum ["cell", "salt", "sizes"] (defScope sNum) := ⟨rfl, rfl, rfl, by decide +kernel, rfl, by decide +kernel, by decide +kernel⟩
def spNum (K : PySem.W.Frag) : Sp := fun vs H Q _ => ∃ (c salt : Int) (a : Addr) (n : Nat), vs = [.int c, .int salt, .ref a] ∧ 0 ≤ salt ∧ salt ≤ 63 ∧ SqL K H a (List.replicate n (V.int 420)) ∧ n ≤ 100 ∧
  ∀ (p : Addr) (rs : List Int) (H' : Hp), H p = none → Same H H' → H' p = some (.lst (rs.map V.int)) → rs.length = n → (∀ r ∈ rs, 0 ≤ r ∧ r < 420) → Q (.ref p) H'
theorem ok_num {f : Addr} {fd : FuncData} (F : Fun K "_law_numbers" "_law_numbers" sNum f fd) (T : HT mg) : FnOk P w K mg base CX0 1 f fd ["cell", "salt", "sizes"] (spNum K) := by
  refine F.ok scNum (fun vs H Q E h => ?_) (fun cdv A outer s H vs Q E hr h => ?_)
  · obtain ⟨c, salt, a, n, rfl, _⟩ := h
    rfl
  · obtain ⟨c, salt, a, n, rfl, s0, s1, hS, hn, k⟩ := h
    refine ⟨_, pss_cons (ps_set (i := 3) scNum.nd rfl (Or.inl rfl) (pe_callB (call_max2 rfl) (by rfl) T.max (by decide +kernel) (pa_cons (pe_callTy call_int1 (by rfl) T.int (by decide +kernel) (pa_cons (pv 0) pa_nil)) (pa_cons (pe_callTy call_int1 (by rfl) T.int (by decide +kernel) (pa_cons (pe_op op_sub (pe_un un_neg pe_int) (pv 0)) pa_nil)) pa_nil))))
      (pss_cons (ps_set (i := 4) scNum.nd rfl (Or.inl rfl) (pv 3))
      (pss_cons (ps_set (i := 5) scNum.nd rfl (Or.inl rfl) (pe_lst pa_nil))
      (pss_cons (ps_for PassesOwn.never rfl (pi_range1 rfl T.range (pa_cons (pe_callB call_len_seq (by rfl) T.len PySem.boot_len (pa_cons (pv 2) pa_nil)) pa_nil)) (pg_name (i := 6) scNum.nd rfl (Or.inl rfl))
        (pss_one (ps_if (pw_and (pt_cmpR op_ge (pv 3) (pe_op op_pow pe_int pe_int) (nomark _)) (pw_and1 (pt_cmpR op_gt (pv 4) pe_int (nomark _)))).pt
          (pss_cons (ps_expr (pe_bm PySem.F.plainAttrs_list PySem.F.slot_list_append PySem.F.type_list_append mt_append (pv 5) (pa_cons (pe_op op_mod (pe_callTy call_int1 (by rfl) T.int (by decide +kernel) (pa_cons (pv 4) pa_nil)) (pe_ix ix_list (pv 2) (pv 6) (fun _ _ => rfl))) pa_nil)))
            (pss_one (ps_set (i := 4) scNum.nd rfl (Or.inl rfl) (pe_op op_fdiv (pv 4) (pe_ix ix_list (pv 2) (pv 6) (fun _ _ => rfl))))))
          (pss_cons (ps_set (i := 7) scNum.nd rfl (Or.inl rfl) (pe_op op_pow (pe_op op_add (pe_op op_add (pe_op op_mod (pe_callTy call_int1 (by rfl) T.int (by decide +kernel) (pa_cons (pv 3) pa_nil)) pe_int) (pe_op op_mul pe_int (pv 1))) pe_int) pe_int))
          (pss_cons (ps_set (i := 7) scNum.nd rfl (Or.inl rfl) (pe_op op_mul (pe_op op_add (pe_op op_mod (pe_callTy call_int1 (by rfl) T.int (by decide +kernel) (pa_cons (pv 7) pa_nil)) pe_int) (pe_op op_mul pe_int (pe_op op_add (pv 6) pe_int))) (pe_op op_add (pv 6) pe_int)))
          (pss_cons (ps_set (i := 7) scNum.nd rfl (Or.inl rfl) (pe_op op_mod (pe_callTy call_int1 (by rfl) T.int (by decide +kernel) (pa_cons (pv 7) pa_nil)) pe_int))
          (pss_cons (ps_set (i := 7) scNum.nd rfl (Or.inl rfl) (pe_op op_mul (pe_op op_mod (pe_callTy call_int1 (by rfl) T.int (by decide +kernel) (pa_cons (pe_op op_pow (pv 7) pe_int) pa_nil)) pe_int) pe_int))
          (pss_cons (ps_set (i := 7) scNum.nd rfl (Or.inl rfl) (pe_op op_mod (pe_callTy call_int1 (by rfl) T.int (by decide +kernel) (pa_cons (pv 7) pa_nil)) pe_int))
          (pss_one (ps_expr (pe_bm PySem.F.plainAttrs_list PySem.F.slot_list_append PySem.F.type_list_append mt_append (pv 5) (pa_cons (pe_op op_mod (pe_callTy call_int1 (by rfl) T.int (by decide +kernel) (pa_cons (pe_op op_fdiv (pv 7) pe_int) pa_nil)) (pe_ix ix_list (pv 2) (pv 6) (fun _ _ => rfl))) pa_nil)))))))))
        )))
      (pss_one (ps_ret (pv 5)))))), ?_⟩
    -- whole = max(int(cell), int(-1 - cell)); left = whole; result = []
    refine ⟨_, rfl, .inl ⟨_, rfl, _, rfl, _, rfl, _, _, rfl, rfl, .inl ⟨_, rfl, _, _, rfl, ?_⟩⟩⟩
    generalize (if (-1 - c : Int) > c then -1 - c else c) = W
    refine ⟨_, rfl, (by show 0 ≤ sizeLine; exact Nat.zero_le _), fun p np => ?_⟩
    have hS' : ∀ l, SqL K (upd H p (.lst l)) a (List.replicate n (V.int 420)) := fun l => (sm np).seq hS
    have el : (((List.replicate n (V.int 420)).length : Nat) : Int).toNat = n := by rw [List.length_replicate]; rfl
    have lz : (((List.replicate n (V.int 420)).length : Nat) : Int) ≤ 100 := by rw [List.length_replicate]; omega
    refine ⟨_, rfl, a, _, rfl, .inl (hS' _), _, rfl, by omega, by omega, ?_⟩
    rw [el]
    refine for_range (lo := 0) (n := n) (fun i σ H' => ∃ (left : Int) (rs : List Int) (v6 v7 : Option V), σ = [some (.int c), some (.int salt), some (.ref a), some (.int W), some (.int left), some (.ref p), v6, v7] ∧
      H' = upd H p (.lst (rs.map V.int)) ∧ rs.length = i ∧ (∀ r ∈ rs, 0 ≤ r ∧ r < 420)) ⟨W, [], none, none, rfl, rfl, rfl, fun r h => nomatch h⟩ ?_ ?_
    · rintro i σ H' hi ⟨left, rs, v6, v7, rfl, rfl, hl, hb⟩
      have at420 : atI (List.replicate n (V.int 420)) ((0 : Int) + (i : Nat)) = some (V.int 420) := by
        rw [Int.zero_add]
        exact atI_nat (by rw [List.getElem?_replicate, if_pos hi])
      have next : ∀ (x left' : Int) (v7' : Option V), 0 ≤ x → x < 420 → ∃ (left : Int) (rs' : List Int) (v6 v7 : Option V), [some (V.int c), some (V.int salt), some (V.ref a), some (V.int W), some (V.int left'), some (V.ref p), some (V.int ((0 : Int) + (i : Nat))), v7'] = [some (V.int c), some (V.int salt), some (V.ref a), some (V.int W), some (V.int left), some (V.ref p), v6, v7] ∧
          upd (upd H p (.lst (rs.map V.int))) p (.lst (rs.map V.int ++ [V.int x])) = upd H p (.lst (rs'.map V.int)) ∧ rs'.length = i + 1 ∧ (∀ r ∈ rs', 0 ≤ r ∧ r < 420) := fun x left' v7' x0 x1 => by
        refine ⟨left', rs ++ [x], _, v7', rfl, ?_, by rw [List.length_append, hl]; rfl, fun r h => ?_⟩
        · rw [upd_upd, List.map_append]; rfl
        · rcases List.mem_append.mp h with h | h
          · exact hb r h
          · rw [List.mem_singleton.mp h]; exact ⟨x0, x1⟩
      have m0 : ∀ z : Int, 0 ≤ z % 420 ∧ z % 420 < 420 := fun z => ⟨Int.emod_nonneg _ (by decide), Int.emod_lt_of_pos _ (by decide)⟩
      have sz : (rs.map V.int).length < sizeLine := by rw [List.length_map, hl]; exact small1000 (by omega)
      refine ⟨_, rfl, _, _, rfl, rfl, ⟨by decide, by decide, by decide⟩, _, _, rfl, rfl, _, rfl, ?_⟩
      have nb : ∀ (z m : Int), 0 < m → m < 2 ^ 40 → (z % m).natAbs < 2 ^ 41 := fun z m h1 h2 => by
        have a1 := Int.emod_nonneg z (Int.ne_of_gt h1)
        have a2 := Int.emod_lt_of_pos z h1
        omega
      have ib : (0 : Int) + (i : Nat) = (i : Int) := Int.zero_add _
      refine ite2 (fun _ => ⟨_, rfl, _, _, rfl, rfl, _, rfl, ite2 (fun _ => ?_) (fun _ => ?_)⟩) (fun _ => iteF ?_)
      · -- result.append(int(left) % sizes[k]); left = left // sizes[k]
        refine ⟨_, rfl, .inl ⟨rfl, _, SqL.of upd_same⟩, _, rfl, .inl ⟨_, rfl, _, rfl, _, rfl, a, _, _, _, rfl, rfl, hS' _, at420, _, _, rfl, rfl, z420, p, _, _, rfl, rfl, upd_same, sz, ?_⟩⟩
        have hS2 : SqL K (upd (upd H p (.lst (rs.map V.int))) p (.lst (rs.map V.int ++ [V.int (left % 420)]))) a (List.replicate n (V.int 420)) := by rw [upd_upd]; exact hS' _
        exact ⟨_, rfl, _, rfl, _, rfl, a, _, _, _, rfl, rfl, hS2, at420, _, _, rfl, rfl, ⟨by decide, by decide⟩, next _ _ _ (m0 _).1 (m0 _).2⟩
      all_goals
        refine ⟨_, rfl, .inl ⟨_, rfl, _, _, rfl, rfl, (show (0 : Int) < _ by decide), _, rfl, _, _, rfl, rfl, .inl ⟨by decide, by decide⟩, _, _, rfl, rfl, _, _, rfl, rfl, _, _, rfl, rfl, ⟨by decide, by decide, ?_⟩, ?_⟩⟩
        · have z := nb W 2147483629 (by decide) (by decide)
          omega
        · generalize ((W % 2147483629 + 7919 * salt + 1) ^ (Int.toNat 3) : Int) = o1
          refine ⟨_, rfl, .inl ⟨_, rfl, _, _, rfl, rfl, (show (0 : Int) < _ by decide), _, rfl, _, _, rfl, rfl, _, _, rfl, rfl, .inl ⟨by decide, by decide⟩, _, _, rfl, rfl, _, rfl, _, _, rfl, rfl, _, _, rfl, rfl, .inr ⟨by rw [ib]; omega, by rw [ib]; omega⟩, ?_⟩⟩
          generalize ((o1 % 2147483647 + 104729 * ((0 : Int) + (i : Nat) + 1)) * ((0 : Int) + (i : Nat) + 3) : Int) = o2
          refine ⟨_, rfl, .inl ⟨_, rfl, _, _, rfl, rfl, (show (0 : Int) < _ by decide), ?_⟩⟩
          refine ⟨_, rfl, _, _, rfl, rfl, ⟨by decide, by decide, ?_⟩, .inl ⟨_, rfl, _, _, rfl, rfl, (show (0 : Int) < _ by decide), _, _, rfl, rfl, .inr ⟨by decide, by decide⟩, ?_⟩⟩
          · have z := nb o2 2147483629 (by decide) (by decide)
            omega
          · generalize ((o2 % 2147483629) ^ (Int.toNat 5) % 2147483647 * 48271 : Int) = o3
            refine ⟨_, rfl, .inl ⟨_, rfl, _, _, rfl, rfl, (show (0 : Int) < _ by decide), ?_⟩⟩
            exact ⟨_, rfl, .inl ⟨rfl, _, SqL.of upd_same⟩, _, rfl, _, _, rfl, rfl, ⟨by decide, by decide⟩, .inl ⟨_, rfl, _, rfl, _, rfl, a, _, _, _, rfl, rfl, hS' _, at420, _, _, rfl, rfl, z420, p, _, _, rfl, rfl, upd_same, sz, next _ _ _ (m0 _).1 (m0 _).2⟩⟩
    · rintro σ H' ⟨left, rs, v6, v7, rfl, rfl, hl, hb⟩
      exact ⟨_, rfl, k p rs _ np (sm np) upd_same hl hb⟩
end
end LH


set_option Elab.async false
set_option linter.all false
set_option maxRecDepth 100000
set_option maxHeartbeats 4000000
namespace LH
open PySem L2
section
variable {P : Program} {w : World} {K : PySem.W.Frag} {mg : Str → Option Value} {base : Heap}
/-- a pool: its list of drawn numbers at q, the place of the next one -/
structure PoolAt (H : Hp) (p q : Addr) (rs : List Int) (i : Int) : Prop where
  hp : H p = some (.lst [.ref q, .int i])
  hq : H q = some (.lst (rs.map V.int))
  i0 : 0 ≤ i
  len : rs.length ≤ 100
  bd : ∀ r ∈ rs, 0 ≤ r ∧ r < 420
theorem PoolAt.ne {H : Hp} {p q : Addr} {rs : List Int} {i : Int} (h : PoolAt H p q rs i) : p ≠ q := fun e => by
  have z := h.hp
  rw [e, h.hq] at z
  have z2 := Option.some.inj z
  cases rs with
  | nil => cases z2
  | cons r rs => cases z2
theorem PoolAt.same {H H' : Hp} {p q : Addr} {rs : List Int} {i : Int} (h : PoolAt H p q rs i) (s : Same H H') : PoolAt H' p q rs i := ⟨s _ _ h.hp, s _ _ h.hq, h.i0, h.len, h.bd⟩
theorem scPool : FnScope ["cell", "salt", "many"] ["cell", "salt", "many"] (defScope sPool) := ⟨rfl, rfl, rfl, by decide +kernel, rfl, by decide +kernel, by decide +kernel⟩
def spPool : Sp := fun vs H Q _ => ∃ (c salt : Int) (m : Nat), vs = [.int c, .int salt, .int m] ∧ 0 ≤ salt ∧ salt ≤ 63 ∧ m ≤ 100 ∧
  ∀ (p q : Addr) (rs : List Int) (H' : Hp), H p = none → H q = none → Same H H' → PoolAt H' p q rs 0 → rs.length = m → Q (.ref p) H'
theorem ok_pool {f fN : Addr} {fd fdN : FuncData} (F : Fun K "_law_pool" "_law_pool" sPool f fd) (T : HT mg) (FN : Fun K "_law_numbers" "_law_numbers" sNum fN fdN) (bN : Binds K fdN ["cell", "salt", "sizes"] []) (gN : mg "_law_numbers" = some (.ref fN)) :
    FnOk P w K mg base CX0 2 f fd ["cell", "salt", "many"] spPool := by
  have GN : FnOk P w K mg base CX0 1 fN fdN ["cell", "salt", "sizes"] (spNum K) := ok_num FN T
  refine F.ok scPool (fun vs H Q E h => ?_) (fun cdv A outer s H vs Q E hr h => ?_)
  · obtain ⟨c, salt, m, rfl, _⟩ := h
    rfl
  · obtain ⟨c, salt, m, rfl, s0, s1, hm, k⟩ := h
    refine ⟨_, pss_one (ps_ret (pe_lst (pa_cons (pe_call GN hr rfl gN FN.kp bN .nil pass0 (pa_cons (pv 0) (pa_cons (pv 1) (pa_cons (pe_op op_rep (pe_lst (pa_cons pe_int pa_nil)) (pv 2)) pa_nil)))) (pa_cons pe_int pa_nil)))), ?_⟩
    refine ⟨_, rfl, _, rfl, (by show 1 ≤ sizeLine; decide), fun l nl => ⟨_, rfl, l, _, _, rfl, rfl, upd_same, by omega, by omega, ?_, fun x nx => ?_⟩⟩
    · show 1 * _ ≤ sizeLine
      rw [sizeLine_eq, Int.toNat_natCast]
      omega
    · have e : (List.replicate (m : Int).toNat [V.int 420]).flatten = List.replicate m (V.int 420) := by
        rw [Int.toNat_natCast, List.flatten_replicate_singleton]
      rw [e]
      have sA : Same H (upd (upd H l (.lst [V.int 420])) x (.lst (List.replicate m (V.int 420)))) := (sm nl).trans (sm nx)
      refine ⟨c, salt, x, m, rfl, s0, s1, SqL.of upd_same, hm, fun q rs H1 nq s1' hq hl hb => ⟨(by show 2 ≤ sizeLine; decide), fun p np => ?_⟩⟩
      have sB : Same H1 (upd H1 p (.lst [V.ref q, V.int 0])) := sm np
      exact k p q rs _ (sA.free (s1'.free np)) (sA.free nq) ((sA.trans s1').trans sB) ⟨upd_same, sB _ _ hq, Int.le_refl 0, by omega, hb⟩ hl
abbrev nsDraw : List Str := ["pool", "many", "at"]
theorem scDraw : FnScope nsDraw ["pool", "many"] (defScope sDraw) := ⟨rfl, rfl, rfl, by decide +kernel, rfl, by decide +kernel, by decide +kernel⟩
/-- a draw below m: the pool's place moves on, nothing else changes -/
def spDraw : Sp := fun vs H Q _ => ∃ (p q : Addr) (rs : List Int) (i m : Int), vs = [.ref p, .int m] ∧ PoolAt H p q rs i ∧ 0 < m ∧
  ∀ (r : Int), 0 ≤ r → r < m → Q (.int r) (upd H p (.lst [.ref q, .int (i + 1)]))
theorem ok_draw {f : Addr} {fd : FuncData} (F : Fun K "_law_draw" "_law_draw" sDraw f fd) (T : HT mg) : FnOk P w K mg base CX0 1 f fd ["pool", "many"] spDraw := by
  refine F.ok scDraw (fun vs H Q E h => ?_) (fun cdv A outer s H vs Q E hr h => ?_)
  · obtain ⟨p, q, rs, i, m, rfl, _⟩ := h
    rfl
  · obtain ⟨p, q, rs, i, m, rfl, hP, m0, k⟩ := h
    have hne := hP.ne
    refine ⟨_, pss_cons (ps_set (i := 2) scDraw.nd rfl (Or.inl rfl) (pe_ix ix_list (pv 0) pe_int (fun _ _ => rfl)))
      (pss_cons (ps_asg (pe_op op_add (pv 2) pe_int) (pg_sub (pv 0) pe_int set_list))
      (pss_one (ps_ret (pe_ifExp (pt_cmpR op_lt (pv 2) (pe_callB call_len_seq (by rfl) T.len PySem.boot_len (pa_cons (pe_ix ix_list (pv 0) pe_int (fun _ _ => rfl)) pa_nil)) (nomark _))
        (pe_op op_mod (pe_callTy call_int1 (by rfl) T.int (by decide +kernel) (pa_cons (pe_ix ix_list (pe_ix ix_list (pv 0) pe_int (fun _ _ => rfl)) (pv 2) (fun _ _ => rfl)) pa_nil)) (pv 1)) pe_int)))), ?_⟩
    refine ⟨_, rfl, p, _, _, _, rfl, rfl, SqL.of hP.hp, atI_nat (j := 1) rfl, ?_⟩
    refine ⟨_, rfl, _, _, rfl, rfl, _, rfl, p, _, _, 1, rfl, rfl, hP.hp, rfl, ?_⟩
    have h1 : ∀ o, (upd H p o) q = some (.lst (rs.map V.int)) := fun o => by rw [upd_ne hne.symm]; exact hP.hq
    refine ⟨_, rfl, _, rfl, p, _, _, _, rfl, rfl, SqL.of upd_same, atI_nat (j := 0) rfl, q, _, rfl, .inl (SqL.of (h1 _)), _, _, rfl, rfl, _, rfl, ?_⟩
    refine ite2 (fun hlt => ?_) (fun _ => ?_)
    · have hlt' : i < ((rs.map V.int).length : Int) := of_decide_eq_true hlt
      rw [List.length_map] at hlt'
      obtain ⟨j, rfl⟩ : ∃ j : Nat, i = (j : Int) := ⟨i.toNat, (Int.toNat_of_nonneg hP.i0).symm⟩
      have hj : j < rs.length := by omega
      have hat : (rs.map V.int)[j]? = some (V.int rs[j]) := by rw [List.getElem?_map, List.getElem?_eq_getElem hj]; rfl
      refine ⟨_, rfl, p, _, _, _, rfl, rfl, SqL.of upd_same, atI_nat (j := 0) rfl, _, rfl, q, _, _, _, rfl, rfl, SqL.of (h1 _), atI_nat hat, .inl ⟨_, rfl, _, rfl, _, _, rfl, rfl, m0, ?_⟩⟩
      exact k _ (Int.emod_nonneg _ (Int.ne_of_gt m0)) (Int.emod_lt_of_pos _ m0)
    · exact k 0 (Int.le_refl 0) m0
abbrev nsOpen : List Str := ["script", "k", "many", "cell"]
theorem scOpen : FnScope nsOpen ["script", "k", "many"] (defScope sOpen) := ⟨rfl, rfl, rfl, by decide +kernel, rfl, by decide +kernel, by decide +kernel⟩
def spOpen (K : PySem.W.Frag) : Sp := fun vs H Q _ => ∃ (a : Addr) (ns : List Int) (j m : Nat), vs = [.ref a, .int j, .int m] ∧ SqL K H a (ns.map V.int) ∧ (ns = [] ∨ j < ns.length) ∧ j ≤ 63 ∧ m ≤ 100 ∧
  ∀ (p q : Addr) (rs : List Int) (H' : Hp), H p = none → H q = none → Same H H' → PoolAt H' p q rs 0 → rs.length = m → Q (.ref p) H'
theorem iteNS' {b : Bool} {A B : Prop} (h : b = false) (hb : B) : if b = true then A else B := by
  rw [h]
  exact iteF hb
theorem iteS' {b : Bool} {A B : Prop} (h : b = true) (ha : A) : if b = true then A else B := by
  rw [h]
  exact iteT ha
theorem dp_ints {H : Hp} : ∀ ns : List Int, DpAll K H (ns.map V.int) (ns.map PyData.int)
  | [] => .nil
  | n :: ns => .cons (.int n) (dp_ints ns)
theorem ok_open {f fP fN : Addr} {fd fdP fdN : FuncData} (F : Fun K "_law_opened" "_law_opened" sOpen f fd) (T : HT mg) (FP : Fun K "_law_pool" "_law_pool" sPool fP fdP) (bP : Binds K fdP ["cell", "salt", "many"] []) (gP : mg "_law_pool" = some (.ref fP))
    (FN : Fun K "_law_numbers" "_law_numbers" sNum fN fdN) (bN : Binds K fdN ["cell", "salt", "sizes"] []) (gN : mg "_law_numbers" = some (.ref fN)) :
    FnOk P w K mg base CX0 3 f fd ["script", "k", "many"] (spOpen K) := by
  have GP : FnOk P w K mg base CX0 2 fP fdP ["cell", "salt", "many"] spPool := ok_pool FP T FN bN gN
  refine F.ok scOpen (fun vs H Q E h => ?_) (fun cdv A outer s H vs Q E hr h => ?_)
  · obtain ⟨a, ns, j, m, rfl, _⟩ := h
    rfl
  · obtain ⟨a, ns, j, m, rfl, hS, hj, hj2, hm, k⟩ := h
    refine ⟨_, pss_cons (ps_set (i := 3) scOpen.nd rfl (Or.inl rfl) (pe_ifExp (pt_cmpR (op_neD hr.units) (pv 0) (pe_lst pa_nil) (nomark _)) (pe_ix ix_list (pv 0) (pv 1) (fun _ _ => rfl)) pe_int))
      (pss_one (ps_ret (pe_call GP hr rfl gP FP.kp bP .nil pass0 (pa_cons (pv 3) (pa_cons (pv 1) (pa_cons (pv 2) pa_nil)))))), ?_⟩
    refine ⟨_, rfl, (by show 0 ≤ sizeLine; exact Nat.zero_le _), fun l nl => ?_⟩
    have s1 : Same H (upd H l (.lst [])) := sm nl
    have hS1 := s1.seq hS
    have fin : ∀ c : Int, tRet (tCall spPool [] E0 (tCons (tVar 3) (tCons (tVar 1) (tCons (tVar 2) tNil)))) { nx := fun x H' => Q V.non H', rt := Q } [some (.ref a), some (.int j), some (.int m), some (.int c)] (upd H l (.lst [])) := fun c =>
      ⟨_, rfl, _, rfl, _, rfl, c, j, m, rfl, by omega, by omega, hm, fun p q rs H' np nq s2 hP hl => k p q rs H' (s1.free np) (s1.free nq) (s1.trans s2) hP hl⟩
    refine ⟨_, _, .lst hS1 (dp_ints ns), .lst (SqL.of upd_same) .nil, PySem.W.ke_shaped_ints ns, PySem.W.ke_shaped_ints [], _, rfl, ?_⟩
    cases ns with
    | nil =>
      refine iteNS' (by first | rfl | decide) ?_
      exact fin 7
    | cons n ns =>
      have hj' : j < (n :: ns).length := by
        rcases hj with e | e
        · cases e
        · exact e
      refine iteS' (by first | rfl | decide) ?_
      have hat : ((n :: ns).map V.int)[j]? = some (V.int ((n :: ns)[j])) := by rw [List.getElem?_map, List.getElem?_eq_getElem hj']; rfl
      exact ⟨_, rfl, _, rfl, a, _, _, _, rfl, rfl, hS1, atI_nat hat, fin _⟩
end
end LH


set_option Elab.async false
set_option linter.all false
set_option maxRecDepth 100000
set_option maxHeartbeats 4000000
namespace EXC
open PySem PySem.W PySem.Calls PyProof.Rows
theorem nm_at : Nm "at" := ⟨fun _ _ _ _ _ _ _ _ _ _ _ _ _ _ _ => rfl, fun _ _ _ _ _ _ _ _ _ _ _ _ _ _ _ => rfl, fun _ _ => rfl, fun _ _ _ _ => rfl, fun _ _ _ _ => rfl, fun _ _ _ _ _ _ => rfl, fun _ _ _ _ _ _ => rfl, by decide, fun _ _ _ _ _ => rfl⟩
theorem nm_counter : Nm "counter" := ⟨fun _ _ _ _ _ _ _ _ _ _ _ _ _ _ _ => rfl, fun _ _ _ _ _ _ _ _ _ _ _ _ _ _ _ => rfl, fun _ _ => rfl, fun _ _ _ _ => rfl, fun _ _ _ _ => rfl, fun _ _ _ _ _ _ => rfl, fun _ _ _ _ _ _ => rfl, by decide, fun _ _ _ _ _ => rfl⟩
theorem nm_line : Nm "line" := ⟨fun _ _ _ _ _ _ _ _ _ _ _ _ _ _ _ => rfl, fun _ _ _ _ _ _ _ _ _ _ _ _ _ _ _ => rfl, fun _ _ => rfl, fun _ _ _ _ => rfl, fun _ _ _ _ => rfl, fun _ _ _ _ _ _ => rfl, fun _ _ _ _ _ _ => rfl, by decide, fun _ _ _ _ _ => rfl⟩
theorem nm_name : Nm "name" := ⟨fun _ _ _ _ _ _ _ _ _ _ _ _ _ _ _ => rfl, fun _ _ _ _ _ _ _ _ _ _ _ _ _ _ _ => rfl, fun _ _ => rfl, fun _ _ _ _ => rfl, fun _ _ _ _ => rfl, fun _ _ _ _ _ _ => rfl, fun _ _ _ _ _ _ => rfl, by decide, fun _ _ _ _ _ => rfl⟩
theorem nm_number : Nm "number" := ⟨fun _ _ _ _ _ _ _ _ _ _ _ _ _ _ _ => rfl, fun _ _ _ _ _ _ _ _ _ _ _ _ _ _ _ => rfl, fun _ _ => rfl, fun _ _ _ _ => rfl, fun _ _ _ _ => rfl, fun _ _ _ _ _ _ => rfl, fun _ _ _ _ _ _ => rfl, by decide, fun _ _ _ _ _ => rfl⟩
theorem nm_part : Nm "part" := ⟨fun _ _ _ _ _ _ _ _ _ _ _ _ _ _ _ => rfl, fun _ _ _ _ _ _ _ _ _ _ _ _ _ _ _ => rfl, fun _ _ => rfl, fun _ _ _ _ => rfl, fun _ _ _ _ => rfl, fun _ _ _ _ _ _ => rfl, fun _ _ _ _ _ _ => rfl, by decide, fun _ _ _ _ _ => rfl⟩
theorem nm_reason : Nm "reason" := ⟨fun _ _ _ _ _ _ _ _ _ _ _ _ _ _ _ => rfl, fun _ _ _ _ _ _ _ _ _ _ _ _ _ _ _ => rfl, fun _ _ => rfl, fun _ _ _ _ => rfl, fun _ _ _ _ => rfl, fun _ _ _ _ _ _ => rfl, fun _ _ _ _ _ _ => rfl, by decide, fun _ _ _ _ _ => rfl⟩
theorem nm_ring : Nm "ring" := ⟨fun _ _ _ _ _ _ _ _ _ _ _ _ _ _ _ => rfl, fun _ _ _ _ _ _ _ _ _ _ _ _ _ _ _ => rfl, fun _ _ => rfl, fun _ _ _ _ => rfl, fun _ _ _ _ => rfl, fun _ _ _ _ _ _ => rfl, fun _ _ _ _ _ _ => rfl, by decide, fun _ _ _ _ _ => rfl⟩
end EXC
namespace L2
open PySem PySem.Spec PyProof.Rows EXC
theorem PA.imp {X : Cx} {es : List Expr} {t t' : TA} (h : PA X es t) (i : ∀ σ H Q, t' σ H Q → t σ H Q) : PA X es t' := ⟨fun pos pins s σ H Q I q => h.run pos pins s σ H Q I (i σ H Q q)⟩
theorem ErrAt.same {H H' : Hp} {a D : Addr} (h : ErrAt H a D) (s : Same H H') : ErrAt H' a D := by
  rcases h with h | ⟨d, fs, h1, h2⟩
  · exact .inl (s _ _ h)
  · exact .inr ⟨d, fs, s _ _ h1, s _ _ h2⟩
abbrev Errs (H : Hp) (as Cs : List Addr) : Prop := Paired (fun a C => ErrAt H a C) as Cs
theorem Errs.same {H H' : Hp} (s : Same H H') : ∀ {as Cs : List Addr}, Errs H as Cs → Errs H' as Cs
  | _, _, .nil => .nil
  | _, _, .cons h r => .cons (h.same s) (Errs.same s r)
theorem Errs.app {H : Hp} : ∀ {as Cs as' Cs' : List Addr}, Errs H as Cs → Errs H as' Cs' → Errs H (as ++ as') (Cs ++ Cs')
  | _, _, _, _, .nil, h => h
  | _, _, _, _, .cons a r, h => .cons a (Errs.app r h)
theorem Errs.len {H : Hp} : ∀ {as Cs : List Addr}, Errs H as Cs → as.length = Cs.length
  | _, _, .nil => rfl
  | _, _, .cons _ r => congrArg Nat.succ (Errs.len r)
/-- error calls of what stands in slot 0: new errors of these classes -/
def tErrs (Cs : List Addr) : TA := fun σ H Q => (∃ v, σ[0]? = some (some v)) ∧ ∀ as H', Same H H' → Errs H' as Cs → Q (as.map V.ref) H'
section
variable {X : Cx} {n f : Str} {C fI : Addr} {es : List Expr} {Cs : List Addr} {p pos : Pos} {x : Str}
theorem pa_errs_nil : PA X [] (tErrs []) := pa_nil.imp fun σ H Q h => h.2 [] H (fun _ _ z => z) .nil
theorem pa_errs (T : ErrT X.K X.mg n f C fI) {k : Nat} {q : Pos} (hr : Room k X.A) (he : PE X (.Name x q) (tVar 0)) (hg : Gl X n) (hdb : (n == ("__debug__" : Str)) = false) (hs : starEach [.Name x q] X.env = (false, eval (.Name x q) X.env) :: starEach [] X.env) (hs2 : starEach (.Call (.Name n p) [.Name x q] [] pos :: es) X.env = (false, eval (.Call (.Name n p) [.Name x q] [] pos) X.env) :: starEach es X.env)
    (hpl : (backTo pos (starEach [] X.env)).any (·.1) = false) (r : PA X es (tErrs Cs)) : PA X (.Call (.Name n p) [.Name x q] [] pos :: es) (tErrs (C :: Cs)) := by
  refine (pa_cons (pe_err T hr he hg hdb hs hpl) r (hs := hs2)).imp fun σ H Q h => ?_
  obtain ⟨⟨v, hv⟩, k⟩ := h
  refine ⟨v, hv, fun a d na nd ne => ⟨⟨v, hv⟩, fun as H' s h => ?_⟩⟩
  have s1 : Same H (upd (upd H d (.xd [(f, v)])) a (exo a C (some d))) := fun b o e => by
    rw [upd_ne (ne_of_none e na), upd_ne (ne_of_none e nd)]
    exact e
  refine k (a :: as) H' (s1.trans s) (.cons ((ErrAt.same (.inr ⟨d, [(f, v)], upd_same, ?_⟩)) s) h)
  rw [upd_ne ne, upd_same]
theorem pa_errs0 (T : Err0 X.K X.mg n C) (hg : Gl X n) (hdb : (n == ("__debug__" : Str)) = false) (hs2 : starEach (.Call (.Name n p) [] [] pos :: es) X.env = (false, eval (.Call (.Name n p) [] [] pos) X.env) :: starEach es X.env)
    (r : PA X es (tErrs Cs)) : PA X (.Call (.Name n p) [] [] pos :: es) (tErrs (C :: Cs)) := by
  refine (pa_cons (pe_err0 T hg hdb) r (hs := hs2)).imp fun σ H Q h => ?_
  obtain ⟨hv, k⟩ := h
  refine fun a na => ⟨hv, fun as H' s h => ?_⟩
  have s1 : Same H (upd H a (exo a C none)) := fun b o e => by
    rw [upd_ne (ne_of_none e na)]
    exact e
  exact k (a :: as) H' (s1.trans s) (.cons (ErrAt.same (.inl upd_same) s) h)
/-- isinstance of what stands in slot 0, an error of the class at D, and these classes -/
def tIsis (K : PySem.W.Frag) (Cs : List Addr) : TA := fun σ H Q => ∃ a D, σ[0]? = some (some (.ref a)) ∧ ErrAt H a D ∧ ExcC K D ∧ (∀ C ∈ Cs, PySem.W.kitOne K (.ref D) (.ref C) = some (decide (D = C))) ∧ Q (Cs.map fun C => V.bl (decide (D = C))) H
theorem pa_isis_nil : PA X [] (tIsis X.K []) := pa_nil.imp fun σ H Q ⟨a, D, h1, h2, h3, h4, h5⟩ => h5
theorem pa_isis {pi q pc : Pos} (gI : Gl X "isinstance") (mI : X.mg "isinstance" = none) (he : PE X (.Name x q) (tVar 0)) (gC : Gl X n) (mC : X.mg n = some (.ref C)) (hdb : (n == ("__debug__" : Str)) = false)
    (hs : starEach [.Name x q, .Name n pc] X.env = (false, eval (.Name x q) X.env) :: starEach [.Name n pc] X.env) (hs1 : starEach [.Name n pc] X.env = (false, eval (.Name n pc) X.env) :: starEach [] X.env) (hpl : (backTo pos (starEach [.Name n pc] X.env)).any (·.1) = false)
    (hs2 : starEach (.Call (.Name "isinstance" pi) [.Name x q, .Name n pc] [] pos :: es) X.env = (false, eval (.Call (.Name "isinstance" pi) [.Name x q, .Name n pc] [] pos) X.env) :: starEach es X.env)
    (r : PA X es (tIsis X.K Cs)) : PA X (.Call (.Name "isinstance" pi) [.Name x q, .Name n pc] [] pos :: es) (tIsis X.K (C :: Cs)) := by
  refine (pa_cons (pe_callB call_isX gI mI PyProof.Rows.boot_isinstance (pa_cons he (pa_cons (pe_glob (v := .ref C) gC mC rfl hdb) pa_nil (hs := hs1)) (hs := hs)) (he := hs) (hpl := hpl)) r (hs := hs2)).imp fun σ H Q h => ?_
  obtain ⟨a, D, hv, hE, hX, hk, q⟩ := h
  exact ⟨_, hv, a, D, C, _, rfl, hE, hX, hk C (List.mem_cons_self ..), a, D, hv, hE, hX, fun C' h => hk C' (List.mem_cons_of_mem _ h), q⟩
end
end L2


set_option Elab.async false
set_option linter.all false
set_option maxRecDepth 100000
set_option maxHeartbeats 4000000
namespace K42
open PySem L2 LH EXC
abbrev sObj : Stmt := top 30
abbrev sCls : Stmt := top 31
abbrev sFld : Stmt := top 32
abbrev sCau : Stmt := top 33
abbrev sLaw : Stmt := top 34
/-- the twenty-three classes, and CountError, as the top has made them -/
structure CT (K : PySem.W.Frag) (mg : Str → Option Value) (CC C0 C1 C2 C3 C4 C5 C6 C7 C8 C9 C10 C11 C12 C13 C14 C15 C16 C17 C18 C19 C20 C21 C22 f0 f1 f2 f3 f4 f5 f6 f7 f8 f9 f10 f11 f12 f13 f14 f15 f16 f17 f18 f19 f20 f22 : Addr) : Prop where
  gCC : mg "CountError" = some (.ref CC)
  t0 : ErrT K mg "BadArgument" "value" C0 f0
  t1 : ErrT K mg "BadProgram" "part" C1 f1
  t2 : ErrT K mg "BadPlace" "value" C2 f2
  t3 : ErrT K mg "BadWay" "value" C3 f3
  t4 : ErrT K mg "BadRun" "value" C4 f4
  t5 : ErrT K mg "BadCounter" "value" C5 f5
  t6 : ErrT K mg "BadLot" "value" C6 f6
  t7 : ErrT K mg "NoLot" "reason" C7 f7
  t8 : ErrT K mg "BadNumber" "value" C8 f8
  t9 : ErrT K mg "BadValues" "value" C9 f9
  t10 : ErrT K mg "NotTold" "counter" C10 f10
  t11 : ErrT K mg "Rings" "ring" C11 f11
  t12 : ErrT K mg "BadCosts" "value" C12 f12
  t13 : ErrT K mg "BadLevels" "value" C13 f13
  t14 : ErrT K mg "TooMany" "number" C14 f14
  t15 : ErrT K mg "BadChange" "value" C15 f15
  t16 : ErrT K mg "BadText" "at" C16 f16
  t17 : ErrT K mg "BadName" "value" C17 f17
  t18 : ErrT K mg "NameTaken" "name" C18 f18
  t19 : ErrT K mg "UnknownName" "name" C19 f19
  t20 : ErrT K mg "FailedDeed" "at" C20 f20
  t21 : Err0 K mg "NothingToUndo" C21
  t22 : ErrT K mg "BadCommand" "line" C22 f22
  isi : mg "isinstance" = none
section
variable {P : Program} {w : World} {K : PySem.W.Frag} {mg : Str → Option Value} {base : Heap} {CC C0 C1 C2 C3 C4 C5 C6 C7 C8 C9 C10 C11 C12 C13 C14 C15 C16 C17 C18 C19 C20 C21 C22 f0 f1 f2 f3 f4 f5 f6 f7 f8 f9 f10 f11 f12 f13 f14 f15 f16 f17 f18 f19 f20 f22 : Addr}
abbrev allC (C0 C1 C2 C3 C4 C5 C6 C7 C8 C9 C10 C11 C12 C13 C14 C15 C16 C17 C18 C19 C20 C21 C22 : Addr) : List Addr := [C0, C1, C2, C3, C4, C5, C6, C7, C8, C9, C10, C11, C12, C13, C14, C15, C16, C17, C18, C19, C20, C21, C22]
theorem scObj : FnScope ["thing", "found"] ["thing"] (defScope sObj) := ⟨rfl, rfl, rfl, by decide +kernel, rfl, by decide +kernel, by decide +kernel⟩
def spObj (Cs : List Addr) : Sp := fun vs H Q _ => ∃ v, vs = [v] ∧ ∀ (p : Addr) (as : List Addr) (H' : Hp), H p = none → Same H H' → H' p = some (.lst (as.map V.ref)) → Errs H' as Cs → Q (.ref p) H'
theorem ok_obj {f : Addr} {fd : FuncData} (F : Fun K "_law_objects" "_law_objects" sObj f fd) (T : CT K mg CC C0 C1 C2 C3 C4 C5 C6 C7 C8 C9 C10 C11 C12 C13 C14 C15 C16 C17 C18 C19 C20 C21 C22 f0 f1 f2 f3 f4 f5 f6 f7 f8 f9 f10 f11 f12 f13 f14 f15 f16 f17 f18 f19 f20 f22) : FnOk P w K mg base CX0 2 f fd ["thing"] (spObj (allC C0 C1 C2 C3 C4 C5 C6 C7 C8 C9 C10 C11 C12 C13 C14 C15 C16 C17 C18 C19 C20 C21 C22)) := by
  refine F.ok scObj (fun vs H Q E h => ?_) (fun cdv A outer s H vs Q E hr h => ?_)
  · obtain ⟨v, rfl, _⟩ := h
    rfl
  · obtain ⟨v, rfl, k⟩ := h
    refine ⟨_, pss_cons (ps_set (i := 1) scObj.nd rfl (Or.inl rfl) (pe_lst (pa_errs T.t0 hr (pv 0) rfl (by decide) rfl rfl rfl (pa_errs T.t1 hr (pv 0) rfl (by decide) rfl rfl rfl (pa_errs T.t2 hr (pv 0) rfl (by decide) rfl rfl rfl (pa_errs T.t3 hr (pv 0) rfl (by decide) rfl rfl rfl (pa_errs T.t4 hr (pv 0) rfl (by decide) rfl rfl rfl (pa_errs T.t5 hr (pv 0) rfl (by decide) rfl rfl rfl pa_errs_nil))))))))
      (pss_cons (ps_set (i := 1) scObj.nd rfl (Or.inl rfl) (pe_op op_cat (pv 1) (pe_lst (pa_errs T.t6 hr (pv 0) rfl (by decide) rfl rfl rfl (pa_errs T.t7 hr (pv 0) rfl (by decide) rfl rfl rfl (pa_errs T.t8 hr (pv 0) rfl (by decide) rfl rfl rfl (pa_errs T.t9 hr (pv 0) rfl (by decide) rfl rfl rfl (pa_errs T.t10 hr (pv 0) rfl (by decide) rfl rfl rfl (pa_errs T.t11 hr (pv 0) rfl (by decide) rfl rfl rfl pa_errs_nil)))))))))
      (pss_cons (ps_set (i := 1) scObj.nd rfl (Or.inl rfl) (pe_op op_cat (pv 1) (pe_lst (pa_errs T.t12 hr (pv 0) rfl (by decide) rfl rfl rfl (pa_errs T.t13 hr (pv 0) rfl (by decide) rfl rfl rfl (pa_errs T.t14 hr (pv 0) rfl (by decide) rfl rfl rfl (pa_errs T.t15 hr (pv 0) rfl (by decide) rfl rfl rfl (pa_errs T.t16 hr (pv 0) rfl (by decide) rfl rfl rfl (pa_errs T.t17 hr (pv 0) rfl (by decide) rfl rfl rfl pa_errs_nil)))))))))
      (pss_one (ps_ret (pe_op op_cat (pv 1) (pe_lst (pa_errs T.t18 hr (pv 0) rfl (by decide) rfl rfl rfl (pa_errs T.t19 hr (pv 0) rfl (by decide) rfl rfl rfl (pa_errs T.t20 hr (pv 0) rfl (by decide) rfl rfl rfl (pa_errs0 T.t21 rfl (by decide) rfl (pa_errs T.t22 hr (pv 0) rfl (by decide) rfl rfl rfl pa_errs_nil))))))))))), ?_⟩
    have sz : ∀ (as : List Addr) (n : Nat), as.length = n → n ≤ 100 → (as.map V.ref).length ≤ sizeLine := fun as n e h => by
      rw [List.length_map, e, sizeLine_eq]
      omega
    have sz2 : ∀ (as bs : List Addr) (n m : Nat), as.length = n → bs.length = m → n + m ≤ 100 → (as.map V.ref).length + (bs.map V.ref).length ≤ sizeLine := fun as bs n m e1 e2 h => by
      rw [List.length_map, List.length_map, e1, e2, sizeLine_eq]
      omega
    refine ⟨⟨v, rfl⟩, fun as1 H1 s1 e1 => ⟨sz _ 6 e1.len (by decide), fun p1 n1 => ?_⟩⟩
    refine ⟨_, rfl, ⟨v, rfl⟩, fun as2 H2 s2 e2 => ⟨sz _ 6 e2.len (by decide), fun p2 n2 => ?_⟩⟩
    have q1 : H2 p1 = some (.lst (as1.map V.ref)) := s2 _ _ upd_same
    refine ⟨p1, p2, _, _, rfl, rfl, (sm n2) _ _ q1, upd_same, sz2 _ _ 6 6 e1.len e2.len (by decide), fun p3 n3 => ?_⟩
    have e12 : Errs _ (as1 ++ as2) _ := (((e1.same (sm n1)).same s2).app e2).same ((sm (o := .lst (as2.map V.ref)) n2).trans (sm (o := .lst (as1.map V.ref ++ as2.map V.ref)) n3))
    rw [← List.map_append]
    rw [← List.map_append] at e12
    refine ⟨_, rfl, ⟨v, rfl⟩, fun as3 H3 s3 e3 => ⟨sz _ 6 e3.len (by decide), fun p4 n4 => ?_⟩⟩
    have q3 : H3 p3 = some (.lst ((as1 ++ as2).map V.ref)) := s3 _ _ upd_same
    have l12 : (as1 ++ as2).length = 12 := e12.len
    refine ⟨p3, p4, _, _, rfl, rfl, (sm n4) _ _ q3, upd_same, sz2 _ _ 12 6 l12 e3.len (by decide), fun p5 n5 => ?_⟩
    have e13 : Errs _ ((as1 ++ as2) ++ as3) _ := ((e12.same s3).app e3).same ((sm (o := .lst (as3.map V.ref)) n4).trans (sm (o := .lst ((as1 ++ as2).map V.ref ++ as3.map V.ref)) n5))
    rw [← List.map_append]
    rw [← List.map_append] at e13
    refine ⟨_, rfl, ⟨v, rfl⟩, fun as4 H4 s4 e4 => ⟨sz _ 5 e4.len (by decide), fun p6 n6 => ?_⟩⟩
    have q5 : H4 p5 = some (.lst (((as1 ++ as2) ++ as3).map V.ref)) := s4 _ _ upd_same
    have l13 : ((as1 ++ as2) ++ as3).length = 18 := e13.len
    refine ⟨p5, p6, _, _, rfl, rfl, (sm n6) _ _ q5, upd_same, sz2 _ _ 18 5 l13 e4.len (by decide), fun p7 n7 => ?_⟩
    have e14 : Errs _ (((as1 ++ as2) ++ as3) ++ as4) _ := ((e13.same s4).app e4).same ((sm (o := .lst (as4.map V.ref)) n6).trans (sm (o := .lst (((as1 ++ as2) ++ as3).map V.ref ++ as4.map V.ref)) n7))
    rw [← List.map_append]
    rw [← List.map_append] at e14
    have S1 := s1.trans ((sm (o := .lst (as1.map V.ref)) n1).trans (s2.trans (sm (o := .lst (as2.map V.ref)) n2)))
    have S2 := S1.trans ((sm (o := .lst ((as1 ++ as2).map V.ref)) n3).trans (s3.trans (sm (o := .lst (as3.map V.ref)) n4)))
    have S3 := S2.trans ((sm (o := .lst ((as1 ++ as2 ++ as3).map V.ref)) n5).trans (s4.trans (sm (o := .lst (as4.map V.ref)) n6)))
    exact k p7 _ _ (S3.free n7) (S3.trans (sm n7)) upd_same e14

abbrev bs (D : Addr) (l : List Addr) : List V := l.map fun C => V.bl (decide (D = C))
theorem scCls : FnScope ["one", "found"] ["one"] (defScope sCls) := ⟨rfl, rfl, rfl, by decide +kernel, rfl, by decide +kernel, by decide +kernel⟩
def spCls (K : PySem.W.Frag) (Cs : List Addr) : Sp := fun vs H Q _ => ∃ (a D : Addr), vs = [.ref a] ∧ ErrAt H a D ∧ D ∈ Cs ∧ ∀ (p : Addr) (H' : Hp), H p = none → Same H H' → H' p = some (.lst (Cs.map fun C => V.bl (decide (D = C)))) → Q (.ref p) H'
/-- what isinstance answers of these classes -/
structure Kit (K : PySem.W.Frag) (CC : Addr) (Cs : List Addr) : Prop where
  ex : ∀ D ∈ Cs, ExcC K D
  kt : ∀ D ∈ Cs, ∀ C ∈ Cs, PySem.W.kitOne K (.ref D) (.ref C) = some (decide (D = C))
  kc : ∀ D ∈ Cs, PySem.W.kitOne K (.ref D) (.ref CC) = some true
  nd : Cs.Nodup
theorem ok_cls {f : Addr} {fd : FuncData} (F : Fun K "_law_classes" "_law_classes" sCls f fd) (T : CT K mg CC C0 C1 C2 C3 C4 C5 C6 C7 C8 C9 C10 C11 C12 C13 C14 C15 C16 C17 C18 C19 C20 C21 C22 f0 f1 f2 f3 f4 f5 f6 f7 f8 f9 f10 f11 f12 f13 f14 f15 f16 f17 f18 f19 f20 f22) (KT : Kit K CC (allC C0 C1 C2 C3 C4 C5 C6 C7 C8 C9 C10 C11 C12 C13 C14 C15 C16 C17 C18 C19 C20 C21 C22)) : FnOk P w K mg base CX0 2 f fd ["one"] (spCls K (allC C0 C1 C2 C3 C4 C5 C6 C7 C8 C9 C10 C11 C12 C13 C14 C15 C16 C17 C18 C19 C20 C21 C22)) := by
  refine F.ok scCls (fun vs H Q E h => ?_) (fun cdv A outer s H vs Q E hr h => ?_)
  · obtain ⟨a, D, rfl, _⟩ := h
    rfl
  · obtain ⟨a, D, rfl, hE, hD, k⟩ := h
    have X0 := KT.ex D hD
    have kt : ∀ C ∈ (allC C0 C1 C2 C3 C4 C5 C6 C7 C8 C9 C10 C11 C12 C13 C14 C15 C16 C17 C18 C19 C20 C21 C22), PySem.W.kitOne K (.ref D) (.ref C) = some (decide (D = C)) := KT.kt D hD
    refine ⟨_, pss_cons (ps_set (i := 1) scCls.nd rfl (Or.inl rfl) (pe_lst (pa_isis rfl T.isi (pv 0) rfl T.t0.gC (by decide) rfl rfl rfl rfl (pa_isis rfl T.isi (pv 0) rfl T.t1.gC (by decide) rfl rfl rfl rfl (pa_isis rfl T.isi (pv 0) rfl T.t2.gC (by decide) rfl rfl rfl rfl pa_isis_nil)))))
      (pss_cons (ps_set (i := 1) scCls.nd rfl (Or.inl rfl) (pe_op op_cat (pv 1) (pe_lst (pa_isis rfl T.isi (pv 0) rfl T.t3.gC (by decide) rfl rfl rfl rfl (pa_isis rfl T.isi (pv 0) rfl T.t4.gC (by decide) rfl rfl rfl rfl (pa_isis rfl T.isi (pv 0) rfl T.t5.gC (by decide) rfl rfl rfl rfl pa_isis_nil))))))
      (pss_cons (ps_set (i := 1) scCls.nd rfl (Or.inl rfl) (pe_op op_cat (pv 1) (pe_lst (pa_isis rfl T.isi (pv 0) rfl T.t6.gC (by decide) rfl rfl rfl rfl (pa_isis rfl T.isi (pv 0) rfl T.t7.gC (by decide) rfl rfl rfl rfl (pa_isis rfl T.isi (pv 0) rfl T.t8.gC (by decide) rfl rfl rfl rfl pa_isis_nil))))))
      (pss_cons (ps_set (i := 1) scCls.nd rfl (Or.inl rfl) (pe_op op_cat (pv 1) (pe_lst (pa_isis rfl T.isi (pv 0) rfl T.t9.gC (by decide) rfl rfl rfl rfl (pa_isis rfl T.isi (pv 0) rfl T.t10.gC (by decide) rfl rfl rfl rfl (pa_isis rfl T.isi (pv 0) rfl T.t11.gC (by decide) rfl rfl rfl rfl pa_isis_nil))))))
      (pss_cons (ps_set (i := 1) scCls.nd rfl (Or.inl rfl) (pe_op op_cat (pv 1) (pe_lst (pa_isis rfl T.isi (pv 0) rfl T.t12.gC (by decide) rfl rfl rfl rfl (pa_isis rfl T.isi (pv 0) rfl T.t13.gC (by decide) rfl rfl rfl rfl (pa_isis rfl T.isi (pv 0) rfl T.t14.gC (by decide) rfl rfl rfl rfl pa_isis_nil))))))
      (pss_cons (ps_set (i := 1) scCls.nd rfl (Or.inl rfl) (pe_op op_cat (pv 1) (pe_lst (pa_isis rfl T.isi (pv 0) rfl T.t15.gC (by decide) rfl rfl rfl rfl (pa_isis rfl T.isi (pv 0) rfl T.t16.gC (by decide) rfl rfl rfl rfl (pa_isis rfl T.isi (pv 0) rfl T.t17.gC (by decide) rfl rfl rfl rfl pa_isis_nil))))))
      (pss_cons (ps_set (i := 1) scCls.nd rfl (Or.inl rfl) (pe_op op_cat (pv 1) (pe_lst (pa_isis rfl T.isi (pv 0) rfl T.t18.gC (by decide) rfl rfl rfl rfl (pa_isis rfl T.isi (pv 0) rfl T.t19.gC (by decide) rfl rfl rfl rfl (pa_isis rfl T.isi (pv 0) rfl T.t20.gC (by decide) rfl rfl rfl rfl pa_isis_nil))))))
      (pss_one (ps_ret (pe_op op_cat (pv 1) (pe_lst (pa_isis rfl T.isi (pv 0) rfl T.t21.gC (by decide) rfl rfl rfl rfl (pa_isis rfl T.isi (pv 0) rfl T.t22.gC (by decide) rfl rfl rfl rfl pa_isis_nil)))))))))))), ?_⟩
    have sub : ∀ (l : List Addr), (∀ C ∈ l, C ∈ (allC C0 C1 C2 C3 C4 C5 C6 C7 C8 C9 C10 C11 C12 C13 C14 C15 C16 C17 C18 C19 C20 C21 C22)) → ∀ C ∈ l, PySem.W.kitOne K (.ref D) (.ref C) = some (decide (D = C)) := fun l h C hC => kt C (h C hC)
    have m3 : ∀ {x y z : Addr}, x ∈ (allC C0 C1 C2 C3 C4 C5 C6 C7 C8 C9 C10 C11 C12 C13 C14 C15 C16 C17 C18 C19 C20 C21 C22) → y ∈ (allC C0 C1 C2 C3 C4 C5 C6 C7 C8 C9 C10 C11 C12 C13 C14 C15 C16 C17 C18 C19 C20 C21 C22) → z ∈ (allC C0 C1 C2 C3 C4 C5 C6 C7 C8 C9 C10 C11 C12 C13 C14 C15 C16 C17 C18 C19 C20 C21 C22) → ∀ C ∈ [x, y, z], C ∈ (allC C0 C1 C2 C3 C4 C5 C6 C7 C8 C9 C10 C11 C12 C13 C14 C15 C16 C17 C18 C19 C20 C21 C22) := fun {x y z} hx hy hz C hC => by
      rcases List.mem_cons.mp hC with e | hC
      · rw [e]; exact hx
      · rcases List.mem_cons.mp hC with e | hC
        · rw [e]; exact hy
        · rw [List.mem_singleton.mp hC]; exact hz
    refine ⟨a, D, rfl, hE, X0, sub _ (by simp), (by show 3 ≤ sizeLine; decide), fun p0 n0 => ?_⟩
    have S0 := sm (o := .lst (bs D [C0, C1, C2])) n0
    refine ⟨_, rfl, a, D, rfl, hE.same S0, X0, sub _ (by simp), (by show 3 ≤ sizeLine; decide), fun a0 na0 => ⟨p0, a0, _, _, rfl, rfl, (sm na0) _ _ upd_same, upd_same, (by show 6 ≤ sizeLine; decide), fun b0 nb0 => ?_⟩⟩
    have S1 := S0.trans ((sm (o := .lst (bs D [C3, C4, C5])) na0).trans (sm (o := .lst (bs D [C0, C1, C2] ++ bs D [C3, C4, C5])) nb0))
    refine ⟨_, rfl, a, D, rfl, hE.same S1, X0, sub _ (by simp), (by show 3 ≤ sizeLine; decide), fun a1 na1 => ⟨b0, a1, _, _, rfl, rfl, (sm na1) _ _ upd_same, upd_same, (by show 9 ≤ sizeLine; decide), fun b1 nb1 => ?_⟩⟩
    have S2 := S1.trans ((sm (o := .lst (bs D [C6, C7, C8])) na1).trans (sm (o := .lst (bs D [C0, C1, C2, C3, C4, C5] ++ bs D [C6, C7, C8])) nb1))
    refine ⟨_, rfl, a, D, rfl, hE.same S2, X0, sub _ (by simp), (by show 3 ≤ sizeLine; decide), fun a2 na2 => ⟨b1, a2, _, _, rfl, rfl, (sm na2) _ _ upd_same, upd_same, (by show 12 ≤ sizeLine; decide), fun b2 nb2 => ?_⟩⟩
    have S3 := S2.trans ((sm (o := .lst (bs D [C9, C10, C11])) na2).trans (sm (o := .lst (bs D [C0, C1, C2, C3, C4, C5, C6, C7, C8] ++ bs D [C9, C10, C11])) nb2))
    refine ⟨_, rfl, a, D, rfl, hE.same S3, X0, sub _ (by simp), (by show 3 ≤ sizeLine; decide), fun a3 na3 => ⟨b2, a3, _, _, rfl, rfl, (sm na3) _ _ upd_same, upd_same, (by show 15 ≤ sizeLine; decide), fun b3 nb3 => ?_⟩⟩
    have S4 := S3.trans ((sm (o := .lst (bs D [C12, C13, C14])) na3).trans (sm (o := .lst (bs D [C0, C1, C2, C3, C4, C5, C6, C7, C8, C9, C10, C11] ++ bs D [C12, C13, C14])) nb3))
    refine ⟨_, rfl, a, D, rfl, hE.same S4, X0, sub _ (by simp), (by show 3 ≤ sizeLine; decide), fun a4 na4 => ⟨b3, a4, _, _, rfl, rfl, (sm na4) _ _ upd_same, upd_same, (by show 18 ≤ sizeLine; decide), fun b4 nb4 => ?_⟩⟩
    have S5 := S4.trans ((sm (o := .lst (bs D [C15, C16, C17])) na4).trans (sm (o := .lst (bs D [C0, C1, C2, C3, C4, C5, C6, C7, C8, C9, C10, C11, C12, C13, C14] ++ bs D [C15, C16, C17])) nb4))
    refine ⟨_, rfl, a, D, rfl, hE.same S5, X0, sub _ (by simp), (by show 3 ≤ sizeLine; decide), fun a5 na5 => ⟨b4, a5, _, _, rfl, rfl, (sm na5) _ _ upd_same, upd_same, (by show 21 ≤ sizeLine; decide), fun b5 nb5 => ?_⟩⟩
    have S6 := S5.trans ((sm (o := .lst (bs D [C18, C19, C20])) na5).trans (sm (o := .lst (bs D [C0, C1, C2, C3, C4, C5, C6, C7, C8, C9, C10, C11, C12, C13, C14, C15, C16, C17] ++ bs D [C18, C19, C20])) nb5))
    refine ⟨_, rfl, a, D, rfl, hE.same S6, X0, sub _ (by simp), (by show 2 ≤ sizeLine; decide), fun a9 na9 => ⟨b5, a9, _, _, rfl, rfl, (sm na9) _ _ upd_same, upd_same, (by show 23 ≤ sizeLine; decide), fun b9 nb9 => ?_⟩⟩
    have Sa := S6.trans (sm (o := .lst (bs D [C21, C22])) na9)
    exact k b9 _ (Sa.free nb9) (Sa.trans (sm (o := .lst (bs D [C0, C1, C2, C3, C4, C5, C6, C7, C8, C9, C10, C11, C12, C13, C14, C15, C16, C17, C18, C19, C20] ++ bs D [C21, C22])) nb9)) upd_same
end
end K42


set_option Elab.async false
set_option linter.all false
set_option maxRecDepth 100000
set_option maxHeartbeats 4000000
namespace K42
open PySem L2 LH EXC
section
variable {P : Program} {w : World} {K : PySem.W.Frag} {mg : Str → Option Value} {base : Heap} {CC C0 C1 C2 C3 C4 C5 C6 C7 C8 C9 C10 C11 C12 C13 C14 C15 C16 C17 C18 C19 C20 C21 C22 f0 f1 f2 f3 f4 f5 f6 f7 f8 f9 f10 f11 f12 f13 f14 f15 f16 f17 f18 f19 f20 f22 : Addr}
theorem scFld : FnScope ["thing", "found"] ["thing"] (defScope sFld) := ⟨rfl, rfl, rfl, by decide +kernel, rfl, by decide +kernel, by decide +kernel⟩
def spFld : Sp := fun vs H Q _ => ∃ v, vs = [v] ∧ ∀ (p : Addr) (H' : Hp), H p = none → Same H H' → H' p = some (.lst (List.replicate 22 v)) → Q (.ref p) H'
theorem ok_fld {f : Addr} {fd : FuncData} (F : Fun K "_law_fields" "_law_fields" sFld f fd) (T : CT K mg CC C0 C1 C2 C3 C4 C5 C6 C7 C8 C9 C10 C11 C12 C13 C14 C15 C16 C17 C18 C19 C20 C21 C22 f0 f1 f2 f3 f4 f5 f6 f7 f8 f9 f10 f11 f12 f13 f14 f15 f16 f17 f18 f19 f20 f22) : FnOk P w K mg base CX0 2 f fd ["thing"] spFld := by
  refine F.ok scFld (fun vs H Q E h => ?_) (fun cdv A outer s H vs Q E hr h => ?_)
  · obtain ⟨v, rfl, _⟩ := h
    rfl
  · obtain ⟨v, rfl, k⟩ := h
    refine ⟨_, pss_cons (ps_set (i := 1) scFld.nd rfl (Or.inl rfl) (pe_lst (pa_cons (pe_errK T.t0 hr (pv 0) rfl) (pa_cons (pe_errK T.t1 hr (pv 0) rfl) (pa_cons (pe_errK T.t2 hr (pv 0) rfl) pa_nil)))))
      (pss_cons (ps_set (i := 1) scFld.nd rfl (Or.inl rfl) (pe_op op_cat (pv 1) (pe_lst (pa_cons (pe_errK T.t3 hr (pv 0) rfl) (pa_cons (pe_errK T.t4 hr (pv 0) rfl) (pa_cons (pe_errK T.t5 hr (pv 0) rfl) pa_nil))))))
      (pss_cons (ps_set (i := 1) scFld.nd rfl (Or.inl rfl) (pe_op op_cat (pv 1) (pe_lst (pa_cons (pe_errK T.t6 hr (pv 0) rfl) (pa_cons (pe_errK T.t7 hr (pv 0) rfl) (pa_cons (pe_errK T.t8 hr (pv 0) rfl) pa_nil))))))
      (pss_cons (ps_set (i := 1) scFld.nd rfl (Or.inl rfl) (pe_op op_cat (pv 1) (pe_lst (pa_cons (pe_errK T.t9 hr (pv 0) rfl) (pa_cons (pe_errK T.t10 hr (pv 0) rfl) (pa_cons (pe_errK T.t11 hr (pv 0) rfl) pa_nil))))))
      (pss_cons (ps_set (i := 1) scFld.nd rfl (Or.inl rfl) (pe_op op_cat (pv 1) (pe_lst (pa_cons (pe_errK T.t12 hr (pv 0) rfl) (pa_cons (pe_errK T.t13 hr (pv 0) rfl) (pa_cons (pe_errK T.t14 hr (pv 0) rfl) pa_nil))))))
      (pss_cons (ps_set (i := 1) scFld.nd rfl (Or.inl rfl) (pe_op op_cat (pv 1) (pe_lst (pa_cons (pe_errK T.t15 hr (pv 0) rfl) (pa_cons (pe_errF T.t16 hr (pv 0) rfl) (pa_cons (pe_errK T.t17 hr (pv 0) rfl) pa_nil))))))
      (pss_cons (ps_set (i := 1) scFld.nd rfl (Or.inl rfl) (pe_op op_cat (pv 1) (pe_lst (pa_cons (pe_errK T.t18 hr (pv 0) rfl) (pa_cons (pe_errK T.t19 hr (pv 0) rfl) (pa_cons (pe_errF T.t20 hr (pv 0) rfl) pa_nil))))))
      (pss_one (ps_ret (pe_op op_cat (pv 1) (pe_lst (pa_cons (pe_errK T.t22 hr (pv 0) rfl) pa_nil))))))))))), ?_⟩
    refine ⟨_, rfl, _, rfl, _, rfl, (by show 3 ≤ sizeLine; decide), fun p0 n0 => ?_⟩
    have S0 := sm (o := .lst [v, v, v]) n0
    refine ⟨_, rfl, _, rfl, _, rfl, _, rfl, (by show 3 ≤ sizeLine; decide), fun a1 na1 => ⟨p0, a1, _, _, rfl, rfl, (sm na1) _ _ upd_same, upd_same, (by show 6 ≤ sizeLine; decide), fun b1 nb1 => ?_⟩⟩
    have S1 := S0.trans ((sm (o := .lst [v, v, v]) na1).trans (sm (o := .lst (List.replicate 6 v)) nb1))
    refine ⟨_, rfl, _, rfl, _, rfl, _, rfl, (by show 3 ≤ sizeLine; decide), fun a2 na2 => ⟨b1, a2, _, _, rfl, rfl, (sm na2) _ _ upd_same, upd_same, (by show 9 ≤ sizeLine; decide), fun b2 nb2 => ?_⟩⟩
    have S2 := S1.trans ((sm (o := .lst [v, v, v]) na2).trans (sm (o := .lst (List.replicate 9 v)) nb2))
    refine ⟨_, rfl, _, rfl, _, rfl, _, rfl, (by show 3 ≤ sizeLine; decide), fun a3 na3 => ⟨b2, a3, _, _, rfl, rfl, (sm na3) _ _ upd_same, upd_same, (by show 12 ≤ sizeLine; decide), fun b3 nb3 => ?_⟩⟩
    have S3 := S2.trans ((sm (o := .lst [v, v, v]) na3).trans (sm (o := .lst (List.replicate 12 v)) nb3))
    refine ⟨_, rfl, _, rfl, _, rfl, _, rfl, (by show 3 ≤ sizeLine; decide), fun a4 na4 => ⟨b3, a4, _, _, rfl, rfl, (sm na4) _ _ upd_same, upd_same, (by show 15 ≤ sizeLine; decide), fun b4 nb4 => ?_⟩⟩
    have S4 := S3.trans ((sm (o := .lst [v, v, v]) na4).trans (sm (o := .lst (List.replicate 15 v)) nb4))
    refine ⟨_, rfl, _, rfl, _, rfl, _, rfl, (by show 3 ≤ sizeLine; decide), fun a5 na5 => ⟨b4, a5, _, _, rfl, rfl, (sm na5) _ _ upd_same, upd_same, (by show 18 ≤ sizeLine; decide), fun b5 nb5 => ?_⟩⟩
    have S5 := S4.trans ((sm (o := .lst [v, v, v]) na5).trans (sm (o := .lst (List.replicate 18 v)) nb5))
    refine ⟨_, rfl, _, rfl, _, rfl, _, rfl, (by show 3 ≤ sizeLine; decide), fun a6 na6 => ⟨b5, a6, _, _, rfl, rfl, (sm na6) _ _ upd_same, upd_same, (by show 21 ≤ sizeLine; decide), fun b6 nb6 => ?_⟩⟩
    have S6 := S5.trans ((sm (o := .lst [v, v, v]) na6).trans (sm (o := .lst (List.replicate 21 v)) nb6))
    refine ⟨_, rfl, _, rfl, (by show 1 ≤ sizeLine; decide), fun a9 na9 => ⟨b6, a9, _, _, rfl, rfl, (sm na9) _ _ upd_same, upd_same, (by show 22 ≤ sizeLine; decide), fun b9 nb9 => ?_⟩⟩
    have Sa := S6.trans (sm (o := .lst [v]) na9)
    exact k b9 _ (Sa.free nb9) (Sa.trans (sm (o := .lst (List.replicate 22 v)) nb9)) upd_same
theorem scCau : FnScope ["thing", "e"] ["thing"] (defScope sCau) := ⟨rfl, rfl, rfl, by decide +kernel, rfl, by decide +kernel, by decide +kernel⟩
def spCau : Sp := fun vs H Q _ => ∃ v, vs = [v] ∧ ∀ (H' : Hp), Same H H' → Q (.str "count") H'
theorem ok_cau {f : Addr} {fd : FuncData} (F : Fun K "_law_caught" "_law_caught" sCau f fd) (T : CT K mg CC C0 C1 C2 C3 C4 C5 C6 C7 C8 C9 C10 C11 C12 C13 C14 C15 C16 C17 C18 C19 C20 C21 C22 f0 f1 f2 f3 f4 f5 f6 f7 f8 f9 f10 f11 f12 f13 f14 f15 f16 f17 f18 f19 f20 f22) (x1 : PySem.W.exmOne K (.ref C4) (.ref C3) = some false) (x2 : PySem.W.exmOne K (.ref C4) (.ref CC) = some true) : FnOk P w K mg base CX0 2 f fd ["thing"] spCau := by
  refine F.ok scCau (fun vs H Q E h => ?_) (fun cdv A outer s H vs Q E hr h => ?_)
  · obtain ⟨v, rfl, _⟩ := h
    rfl
  · obtain ⟨v, rfl, k⟩ := h
    refine ⟨_, pss_one (ps_try_manyA (i := 1) rfl rfl scCau.nd rfl rfl takes0 (fun W pn xe tk _ => pss_one (ps_raise rfl tk (pmk_err T.t4 hr (pv 0) rfl)))
      (.cons ⟨rfl, by decide, .inl T.t3.gC⟩ (fun a oe cls d pn hz hf => pss_one (ps_ret pe_str)) (.cons ⟨rfl, by decide, .inl T.gCC⟩ (fun a oe cls d pn hz hf => pss_one (ps_ret pe_str)) .nil))), ?_⟩
    refine ⟨_, rfl, fun d nd => ⟨false, x1, fun z => Bool.noConfusion z, fun _ => ⟨true, x2, fun _ a na => ?_, fun z => Bool.noConfusion z⟩⟩⟩
    exact k _ (sm nd)
end
end K42



set_option Elab.async false
set_option linter.all false
set_option maxRecDepth 100000
set_option maxHeartbeats 4000000
namespace K42
open PySem L2 LH EXC
/-! ### data -/
theorem strOk400 : ∀ n : Fin 400, PyData.strOk ((toString ((n : Nat) : Int) : String) : Str) = true := by decide +kernel
theorem lay_rep (d : PyData) (h : d.canLay0 = true) : ∀ n, PyData.canLayAll0 (List.replicate n d) = true
  | 0 => rfl
  | n + 1 => by
    rw [List.replicate_succ]
    unfold PyData.canLayAll0
    rw [h, lay_rep d h n]
    rfl
theorem depth_rep (d : PyData) : ∀ n, PyData.depthAll (List.replicate n d) ≤ d.depth
  | 0 => Nat.zero_le _
  | n + 1 => by
    rw [List.replicate_succ]
    unfold PyData.depthAll
    have := depth_rep d n
    omega
theorem shaped_rep {d : PyData} (h : d.canLay0 = true) (hd : d.depth ≤ 2) (n : Nat) : SeqAt.shaped (.list (List.replicate n d)) = true := by
  unfold SeqAt.shaped
  have h1 : PyData.canLay0 (.list (List.replicate n d)) = true := by
    unfold PyData.canLay0
    exact lay_rep d h n
  have h2 : PyData.depth (.list (List.replicate n d)) ≤ 64 := by
    unfold PyData.depth
    have := depth_rep d n
    omega
  rw [h1, decide_eq_true h2]
  rfl
theorem dp_rep {K : PySem.W.Frag} {H : Hp} {v : V} {d : PyData} (h : Dp K H v d) : ∀ n, DpAll K H (List.replicate n v) (List.replicate n d)
  | 0 => .nil
  | n + 1 => .cons h (dp_rep h n)
theorem dp_bls {K : PySem.W.Frag} {H : Hp} : ∀ bs : List Bool, DpAll K H (bs.map V.bl) (bs.map PyData.bool)
  | [] => .nil
  | b :: bs => .cons (.bl b) (dp_bls bs)
theorem lay_bls : ∀ bs : List Bool, PyData.canLayAll0 (bs.map PyData.bool) = true
  | [] => rfl
  | b :: bs => by
    show PyData.canLayAll0 (PyData.bool b :: bs.map PyData.bool) = true
    unfold PyData.canLayAll0
    rw [lay_bls bs]
    rfl
theorem depth_bls : ∀ bs : List Bool, PyData.depthAll (bs.map PyData.bool) = 0
  | [] => rfl
  | b :: bs => by
    show PyData.depthAll (PyData.bool b :: bs.map PyData.bool) = 0
    unfold PyData.depthAll
    rw [depth_bls bs]
    rfl
theorem shaped_bls (bs : List Bool) : SeqAt.shaped (.list (bs.map PyData.bool)) = true := by
  unfold SeqAt.shaped
  have h1 : PyData.canLay0 (.list (bs.map PyData.bool)) = true := by
    unfold PyData.canLay0
    exact lay_bls bs
  have h2 : PyData.depth (.list (bs.map PyData.bool)) ≤ 64 := by
    unfold PyData.depth
    rw [depth_bls]
    decide
  rw [h1, decide_eq_true h2]
  rfl
/-- what a thing is, as data -/
structure Thing (K : PySem.W.Frag) (H : Hp) (v : V) : Prop where
  ex : ∃ d, Dp K H v d ∧ d.canLay0 = true ∧ d.depth ≤ 2
theorem nodup_get {α : Type} : ∀ {l : List α} {i j : Nat} {x : α}, l.Nodup → l[i]? = some x → l[j]? = some x → i = j
  | [], i, _, _, _, h, _ => by simp at h
  | a :: l, 0, 0, _, _, _, _ => rfl
  | a :: l, 0, j + 1, x, n, h1, h2 => by
    have e : a = x := Option.some.inj h1
    have m : x ∈ l := List.mem_of_getElem? (by simpa using h2)
    rw [← e] at m
    exact absurd m (List.nodup_cons.mp n).1
  | a :: l, i + 1, 0, x, n, h1, h2 => by
    have e : a = x := Option.some.inj h2
    have m : x ∈ l := List.mem_of_getElem? (by simpa using h1)
    rw [← e] at m
    exact absurd m (List.nodup_cons.mp n).1
  | a :: l, i + 1, j + 1, x, n, h1, h2 => congrArg Nat.succ (nodup_get (List.nodup_cons.mp n).2 (by simpa using h1) (by simpa using h2))
theorem errs_get {H : Hp} : ∀ {as Cs : List Addr} {i : Nat} {a : Addr}, Errs H as Cs → as[i]? = some a → ∃ D, Cs[i]? = some D ∧ ErrAt H a D
  | _, _, i, _, .nil, h => by simp at h
  | _, _, 0, _, .cons (b := D) e r, h => by
    have z := Option.some.inj h
    exact ⟨D, rfl, z ▸ e⟩
  | _, _, i + 1, _, .cons e r, h => errs_get (i := i) r (by simpa using h)
theorem bools_eq {Cs : List Addr} {i : Nat} {D : Addr} (nd : Cs.Nodup) (h : Cs[i]? = some D) : (Cs.map fun C => decide (D = C)) = (List.range Cs.length).map fun e => decide (i = e) := by
  refine List.ext_getElem? fun j => ?_
  rw [List.getElem?_map, List.getElem?_map]
  by_cases hj : j < Cs.length
  · rw [List.getElem?_eq_getElem hj, List.getElem?_range hj]
    show some (decide (D = Cs[j])) = some (decide (i = j))
    by_cases e : i = j
    · subst e
      have z : Cs[i] = D := Option.some.inj ((List.getElem?_eq_getElem hj).symm.trans h)
      rw [z, decide_eq_true rfl, decide_eq_true rfl]
    · rw [decide_eq_false e, decide_eq_false fun z => e (nodup_get nd h (by rw [List.getElem?_eq_getElem hj, ← z]))]
  · rw [List.getElem?_eq_none (by omega), List.getElem?_eq_none (by simpa using Nat.le_of_not_lt hj)]
    rfl
section
variable {P : Program} {w : World} {K : PySem.W.Frag} {mg : Str → Option Value} {base : Heap} {CC C0 C1 C2 C3 C4 C5 C6 C7 C8 C9 C10 C11 C12 C13 C14 C15 C16 C17 C18 C19 C20 C21 C22 f0 f1 f2 f3 f4 f5 f6 f7 f8 f9 f10 f11 f12 f13 f14 f15 f16 f17 f18 f19 f20 f22 : Addr}
abbrev nsLaw : List Str := ["script", "k", "pool", "amount", "thing", "place", "one", "j"]
theorem scLaw : FnScope nsLaw ["script"] (defScope sLaw) := ⟨rfl, rfl, rfl, by decide +kernel, rfl, by decide +kernel, by decide +kernel⟩
def spLaw (K : PySem.W.Frag) : Sp := fun vs H Q _ => ∃ (a : Addr) (ns : List Int), vs = [.ref a] ∧ SqL K H a (ns.map V.int) ∧ ns.length ≤ 63 ∧ ∀ H', Q (.bl true) H'
structure LT (mg : Str → Option Value) : Prop extends HT mg where
  str : mg "str" = none
  enum : mg "enumerate" = none
theorem ok_law {f fO fD fF fC fB fL : Addr} {fd fdO fdD fdF fdC fdB fdL : FuncData} (F : Fun K "law" "law" sLaw f fd) (L : LT mg) (T : CT K mg CC C0 C1 C2 C3 C4 C5 C6 C7 C8 C9 C10 C11 C12 C13 C14 C15 C16 C17 C18 C19 C20 C21 C22 f0 f1 f2 f3 f4 f5 f6 f7 f8 f9 f10 f11 f12 f13 f14 f15 f16 f17 f18 f19 f20 f22) (KT : Kit K CC (allC C0 C1 C2 C3 C4 C5 C6 C7 C8 C9 C10 C11 C12 C13 C14 C15 C16 C17 C18 C19 C20 C21 C22))
    (gO : mg "_law_opened" = some (.ref fO)) (kO : PySem.W.keepIn K (.ref fO) = true) (bO : Binds K fdO ["script", "k", "many"] []) (GO : FnOk P w K mg base CX0 3 fO fdO ["script", "k", "many"] (spOpen K))
    (gD : mg "_law_draw" = some (.ref fD)) (kD : PySem.W.keepIn K (.ref fD) = true) (bD : Binds K fdD ["pool", "many"] []) (GD : FnOk P w K mg base CX0 1 fD fdD ["pool", "many"] spDraw)
    (gF : mg "_law_fields" = some (.ref fF)) (kF : PySem.W.keepIn K (.ref fF) = true) (bF : Binds K fdF ["thing"] []) (GF : FnOk P w K mg base CX0 2 fF fdF ["thing"] spFld)
    (gC : mg "_law_caught" = some (.ref fC)) (kC : PySem.W.keepIn K (.ref fC) = true) (bC : Binds K fdC ["thing"] []) (GC : FnOk P w K mg base CX0 2 fC fdC ["thing"] spCau)
    (gB : mg "_law_objects" = some (.ref fB)) (kB : PySem.W.keepIn K (.ref fB) = true) (bB : Binds K fdB ["thing"] []) (GB : FnOk P w K mg base CX0 2 fB fdB ["thing"] (spObj (allC C0 C1 C2 C3 C4 C5 C6 C7 C8 C9 C10 C11 C12 C13 C14 C15 C16 C17 C18 C19 C20 C21 C22)))
    (gL : mg "_law_classes" = some (.ref fL)) (kL : PySem.W.keepIn K (.ref fL) = true) (bL : Binds K fdL ["one"] []) (GL : FnOk P w K mg base CX0 2 fL fdL ["one"] (spCls K (allC C0 C1 C2 C3 C4 C5 C6 C7 C8 C9 C10 C11 C12 C13 C14 C15 C16 C17 C18 C19 C20 C21 C22))) :
    FnOk P w K mg base CX0 4 f fd ["script"] (spLaw K) := by
  refine F.ok scLaw (fun vs H Q E h => ?_) (fun cdv A outer s H vs Q E hr h => ?_)
  · obtain ⟨a, ns, rfl, _⟩ := h
    rfl
  · obtain ⟨a, ns, rfl, hS, hlen, k⟩ := h
    have hr2 : Room 2 _ := hr.mono (by decide)
    have hr1 : Room 1 _ := hr.mono (by decide)
    refine ⟨_, pss_cons (ps_for PassesOwn.never rfl (pi_range1 rfl L.range (pa_cons (pe_callB (call_max2 rfl) (by rfl) L.max PyProof.Rows.boot_max (pa_cons pe_int (pa_cons (pe_callB (call_min2 rfl) (by rfl) L.min PyProof.Rows.boot_min (pa_cons (pe_callB call_len_seq (by rfl) L.len PySem.boot_len (pa_cons (pv 0) pa_nil)) (pa_cons pe_int pa_nil))) pa_nil))) pa_nil)) (pg_name (i := 1) scLaw.nd rfl (Or.inl rfl))
        (pss_cons (ps_set (i := 2) scLaw.nd rfl (Or.inl rfl) (pe_call GO hr rfl gO kO bO .nil pass0 (pa_cons (pv 0) (pa_cons (pv 1) (pa_cons pe_int pa_nil)))))
        (pss_cons (ps_set (i := 3) scLaw.nd rfl (Or.inl rfl) (pe_call GD hr1 rfl gD kD bD .nil pass0 (pa_cons (pv 2) (pa_cons pe_int pa_nil))))
        (pss_one (ps_for PassesOwn.never rfl (pi_list (pe_lst (pa_cons (pv 3) (pa_cons (pe_callTy call_str_int (by rfl) L.str (by decide +kernel) (pa_cons (pv 3) pa_nil)) (pa_cons (pe_lst (pa_cons (pv 3) pa_nil)) (pa_cons pe_non pa_nil)))))) (pg_name (i := 4) scLaw.nd rfl (Or.inl rfl))
          (pss_cons (ps_if (PW.pt (pw_or (pt_cmpR (op_neD hr.units) (pe_call GF hr2 rfl gF kF bF .nil pass0 (pa_cons (pv 4) pa_nil)) (pe_op op_rep (pe_lst (pa_cons (pv 4) pa_nil)) pe_int) (nomark _)) (pw_or1 (pt_cmpR op_ne (pe_call GC hr2 rfl gC kC bC .nil pass0 (pa_cons (pv 4) pa_nil)) pe_str (nomark _))))) (pss_one (ps_ret pe_bl)) pss_nil)
          (pss_one (ps_for PassesOwn.never rfl (pi_enum rfl L.enum (pa_cons (pe_call GB hr2 rfl gB kB bB .nil pass0 (pa_cons (pv 4) pa_nil)) pa_nil)) (pg_tup rfl (pgs_cons (pg_name (i := 5) scLaw.nd rfl (Or.inr rfl)) (pgs_cons (pg_name (i := 6) scLaw.nd rfl (Or.inl rfl)) pgs_nil)))
            (pss_cons (ps_if (pt_cmpR (op_neD hr.units) (pe_call GL hr2 rfl gL kL bL .nil pass0 (pa_cons (pv 6) pa_nil))
                (pe_lc (own := [("j", 7)]) (g := gName 7) (tt := tYes) rfl scLaw.nd (pi_range1 rfl L.range (pa_cons pe_int pa_nil)) (blkOk_by (own := [("j", 7)]) (N := nsLaw) (sc := defScope sLaw) (by decide +kernel)) (fun _ _ _ _ _ => pg_name (i := 7) scLaw.nd rfl (Or.inl rfl)) (fun _ _ _ _ _ => pts_nil) (fun _ _ _ _ _ => pe_cmpR op_eq (pv 5) (pv 7) (nomark _))) (nomark _))
                (pss_one (ps_ret pe_bl)) pss_nil)
            (pss_one (ps_if (pt_not (pt_val (pe_callB call_isX (by rfl) T.isi PyProof.Rows.boot_isinstance (pa_cons (pv 6) (pa_cons (pe_glob (v := .ref CC) rfl T.gCC rfl) pa_nil))))) (pss_one (ps_ret pe_bl)) pss_nil)))))))))))
      (pss_one (ps_ret pe_bl)), ?_⟩
    -- for k in range(max(1, min(len(script), 6)))
    refine ⟨_, rfl, a, _, rfl, .inl hS, _, _, rfl, _, _, rfl, ?_⟩
    rw [List.length_map]
    obtain ⟨M, eM, hM6, hMn⟩ : ∃ M : Nat, (if (if (6 : Int) < ((ns.length : Nat) : Int) then (6 : Int) else ((ns.length : Nat) : Int)) > 1 then (if (6 : Int) < ((ns.length : Nat) : Int) then (6 : Int) else ((ns.length : Nat) : Int)) else 1) = (M : Int) ∧ M ≤ 6 ∧ (ns = [] ∨ M ≤ ns.length) := by
      cases ns with
      | nil => exact ⟨1, by simp, by decide, .inl rfl⟩
      | cons n ns =>
        by_cases h6 : (6 : Int) < (((n :: ns).length : Nat) : Int)
        · exact ⟨6, by rw [if_pos h6]; decide, Nat.le_refl _, .inr (by omega)⟩
        · by_cases h1 : (((n :: ns).length : Nat) : Int) > 1
          · exact ⟨(n :: ns).length, by rw [if_neg h6, if_pos h1], by omega, .inr (Nat.le_refl _)⟩
          · exact ⟨1, by rw [if_neg h6, if_neg h1]; rfl, by decide, .inr (by simp)⟩
    rw [eM]
    refine ⟨_, rfl, by omega, by omega, ?_⟩
    rw [Int.toNat_natCast]
    refine for_range (lo := 0) (n := M) (fun i σ H' => ∃ (v1 v2 v3 v4 v5 v6 v7 : Option V), σ = [some (.ref a), v1, v2, v3, v4, v5, v6, v7] ∧ Same H H') ⟨_, _, _, _, _, _, _, rfl, Same.refl H⟩ ?_ (fun σ H' _ => k H')
    rintro i σ H0 hi ⟨v1, v2, v3, v4, v5, v6, v7, rfl, s0⟩
    -- pool = _law_opened(script, k, 4); amount = _law_draw(pool, 400)
    refine ⟨_, rfl, _, rfl, a, ns, i, 4, by rw [Int.zero_add]; rfl, s0.seq hS, ?_, by omega, by decide, fun p q rs H1 np nq s1 hP hl => ?_⟩
    · rcases hMn with e | e
      · exact .inl e
      · exact .inr (by omega)
    refine ⟨_, rfl, p, q, rs, 0, 400, rfl, hP, by decide, fun r r0 r1 => ?_⟩
    have s2 : Same H (upd H1 p (.lst [.ref q, .int (0 + 1)])) := fun b o e => by
      have e1 := s0 b o e
      rw [upd_ne (ne_of_none e1 np)]
      exact s1 b o e1
    generalize upd H1 p (.lst [V.ref q, V.int (0 + 1)]) = H2 at s2 ⊢
    -- for thing in [amount, str(amount), [amount], None]
    have hlog : r.natAbs.log2 < 1920 := by
      have : r.natAbs.log2 ≤ r.natAbs := Nat.log2_le_self _
      omega
    refine ⟨_, rfl, _, rfl, r, rfl, hlog, _, rfl, (by show 1 ≤ sizeLine; decide), fun l nl => ⟨(by show 4 ≤ sizeLine; decide), fun m nm => ?_⟩⟩
    have s3 := s2.trans ((sm (o := .lst [V.int r]) nl).trans (sm (o := .lst [V.int r, V.str (toString r), V.ref l, V.non]) nm))
    have hm : upd (upd H2 l (.lst [V.int r])) m (.lst [V.int r, V.str (toString r), V.ref l, V.non]) m = some (.lst [V.int r, V.str (toString r), V.ref l, V.non]) := upd_same
    have hl2 : upd (upd H2 l (.lst [V.int r])) m (.lst [V.int r, V.str (toString r), V.ref l, V.non]) l = some (.lst [V.int r]) := (sm nm) _ _ upd_same
    show ∃ a, _
    generalize upd (upd H2 l (.lst [V.int r])) m (.lst [V.int r, V.str (toString r), V.ref l, V.non]) = H3 at s3 hm hl2 ⊢
    refine ⟨m, rfl, ⟨_, SqL.of hm⟩, for_list (K := K) (a := m) (xs := [V.int r, V.str (toString r), V.ref l, V.non]) (fun j σ H' => ∃ (v4 v5 v6 v7 : Option V), σ = [some (.ref a), some (.int (0 + (i : Nat))), some (.ref p), some (.int r), v4, v5, v6, v7] ∧ Same H3 H')
      ⟨_, _, _, _, rfl, Same.refl H3⟩ (fun j σ H' _ ⟨_, _, _, _, _, s⟩ => s.seq (SqL.of hm)) ?_ (fun σ H' ⟨u4, u5, u6, u7, e, s⟩ => ⟨_, _, _, _, _, _, _, e, s3.trans s⟩)⟩
    rintro j x σ H4 hj ⟨u4, u5, u6, u7, rfl, s4⟩
    have hT : ∃ d, (∀ H', Same H3 H' → Dp K H' x d) ∧ d.canLay0 = true ∧ d.depth ≤ 2 := by
      have hx : x ∈ [V.int r, V.str (toString r), V.ref l, V.non] := List.mem_of_getElem? hj
      rcases List.mem_cons.mp hx with e | hx
      · rw [e]; exact ⟨_, fun _ _ => .int r, rfl, Nat.zero_le 2⟩
      · rcases List.mem_cons.mp hx with e | hx
        · rw [e]
          obtain ⟨n, rfl⟩ : ∃ n : Nat, r = (n : Int) := ⟨r.toNat, (Int.toNat_of_nonneg r0).symm⟩
          exact ⟨_, fun _ _ => .str _, strOk400 ⟨n, by omega⟩, Nat.zero_le 2⟩
        · rcases List.mem_cons.mp hx with e | hx
          · rw [e]; exact ⟨_, fun _ s => .lst (SqL.of (s _ _ hl2)) (.cons (.int r) .nil), rfl, by show 0 + 1 ≤ 2; decide⟩
          · rw [List.mem_singleton.mp hx]; exact ⟨_, fun _ _ => .non, rfl, Nat.zero_le 2⟩
    obtain ⟨d, hd, hlay, hdep⟩ := hT
    -- if _law_fields(thing) != [thing] * 22 or ..
    refine ⟨_, rfl, x, rfl, fun pf H5 npf s5 hf => ⟨_, rfl, (by show 1 ≤ sizeLine; decide), fun u nu => ⟨u, _, _, rfl, rfl, upd_same, by decide, by decide, (by show 22 ≤ sizeLine; decide), fun z nz => ?_⟩⟩⟩
    have s6 : Same H5 (upd (upd H5 u (.lst [x])) z (.lst (List.replicate 22 x))) := (sm nu).trans (sm nz)
    have s36 := s4.trans (s5.trans s6)
    refine ⟨_, _, .lst (SqL.of (s6 _ _ hf)) (dp_rep (hd _ s36) 22), .lst (SqL.of upd_same) (dp_rep (hd _ s36) 22), shaped_rep hlay hdep 22, shaped_rep hlay hdep 22, _, rfl, ?_⟩
    have er : PyData.eqv (.list (List.replicate 22 d)) (.list (List.replicate 22 d)) = true := SeqAt.eqv_refl _ (SeqAt.canLay_of_shaped (shaped_rep hlay hdep 22))
    refine iteNS' (by rw [er]; rfl) ?_
    refine ⟨_, rfl, x, rfl, fun H7 s7 => ⟨rfl, _, rfl, iteNS rfl ?_⟩⟩
    have s37 := s36.trans s7
    -- for place, one in enumerate(_law_objects(thing))
    refine ⟨_, rfl, x, rfl, fun po as H8 npo s8 ho eo => ⟨po, _, rfl, SqL.of ho, for_it walk_enum (fun t σ H' => ∃ (v5 v6 v7 : Option V), σ = [some (.ref a), some (.int (0 + (i : Nat))), some (.ref p), some (.int r), some x, v5, v6, v7] ∧ Same H8 H')
      ⟨_, _, _, rfl, Same.refl H8⟩ (fun t σ H' _ ⟨_, _, _, _, s⟩ => s.seq (SqL.of ho)) ?_ (fun σ H' ⟨u5, u6, u7, e, s⟩ => ⟨_, _, _, _, e, (s37.trans s8).trans s⟩)⟩⟩
    rintro t y σ H9 H10 ht ⟨u5, u6, u7, rfl, s9⟩ ⟨Tp, x0, y0, rfl, nT, rfl, ex0, ey0⟩
    cases ex0
    have s10 := s9.trans (sm (o := .tup [V.int (t : Nat), y0]) nT)
    obtain ⟨ai, hai, rfl⟩ : ∃ ai, as[t]? = some ai ∧ y0 = V.ref ai := by
      replace ey0 : (as.map V.ref)[t]? = some y0 := ey0
      rw [List.getElem?_map] at ey0
      cases e : as[t]? with
      | none => rw [e] at ey0; cases ey0
      | some ai => rw [e] at ey0; exact ⟨ai, rfl, (Option.some.inj ey0).symm⟩
    obtain ⟨Di, hDi, hEi⟩ := errs_get eo hai
    have hDm : Di ∈ (allC C0 C1 C2 C3 C4 C5 C6 C7 C8 C9 C10 C11 C12 C13 C14 C15 C16 C17 C18 C19 C20 C21 C22) := List.mem_of_getElem? hDi
    refine ⟨Tp, _, rfl, SqT.of upd_same, rfl, _, _, rfl, _, _, rfl, rfl, ?_⟩
    refine ⟨_, rfl, ai, Di, rfl, hEi.same s10, hDm, fun pc H11 npc s11 hc => ?_⟩
    -- [place == j for j in range(23)]
    refine ⟨23, rfl, by decide, by decide, fun D nD => lc_range (lo := 0) (n := 23) (fun c H' => H' = upd H11 D (.lst (((List.range c).map fun e => decide (t = e)).map V.bl))) rfl ?_ ?_⟩
    · rintro c H' hc23 rfl
      refine ⟨rfl, ?_⟩
      unfold tYes
      dsimp only
      rw [if_pos rfl]
      refine ⟨_, rfl, _, rfl, rfl, _, upd_same, ?_, ?_⟩
      · rw [List.length_map, List.length_map, List.length_range]
        exact small1000 (by omega)
      · rw [upd_upd, List.range_succ, List.map_append, List.map_append, Int.zero_add]
        have e1 : decide (V.int ((t : Nat) : Int) = V.int ((c : Nat) : Int)) = decide (t = c) := by
          by_cases h : t = c
          · rw [h, decide_eq_true rfl, decide_eq_true rfl]
          · rw [decide_eq_false h, decide_eq_false (fun z => h (by injection z with z; omega))]
        rw [e1]
        rfl
    · rintro H' rfl
      have sD := sm (o := .lst (((List.range 23).map fun e => decide (t = e)).map V.bl)) nD
      have hb : ((allC C0 C1 C2 C3 C4 C5 C6 C7 C8 C9 C10 C11 C12 C13 C14 C15 C16 C17 C18 C19 C20 C21 C22).map fun C => decide (Di = C)) = (List.range 23).map fun e => decide (t = e) := bools_eq KT.nd hDi
      have hc' : H11 pc = some (.lst (((List.range 23).map fun e => decide (t = e)).map V.bl)) := by
        rw [← hb, List.map_map]
        exact hc
      refine ⟨_, _, .lst (SqL.of (sD _ _ hc')) (dp_bls _), .lst (SqL.of upd_same) (dp_bls _), shaped_bls _, shaped_bls _, _, rfl, ?_⟩
      have er2 : PyData.eqv (.list (((List.range 23).map fun e => decide (t = e)).map PyData.bool)) (.list (((List.range 23).map fun e => decide (t = e)).map PyData.bool)) = true := SeqAt.eqv_refl _ (SeqAt.canLay_of_shaped (shaped_bls _))
      refine iteNS' (by rw [er2]; rfl) ?_
      refine ⟨_, rfl, ai, Di, CC, true, rfl, ((hEi.same s10).same s11).same sD, KT.ex Di hDm, KT.kc Di hDm, true, rfl, iteF ?_⟩
      exact ⟨_, _, _, rfl, s10.trans (s11.trans sD)⟩
end
end K42


set_option Elab.async false
set_option linter.all false
set_option maxRecDepth 100000
set_option maxHeartbeats 4000000
namespace K42
open PySem L2 LH EXC
/-! ### what the top has written, in few looks -/
def errB (K : PySem.W.Frag) (C fI : Addr) (f : Str) : Bool :=
  PySem.W.excInitIn K C bmE "Exception.__new__" && (PySem.W.excOver K C bmE && (decide (PySem.W.findIn K (.ref C) "__setattr__" = some (some (.builtin "object.__setattr__"))) && (decide (PySem.W.findIn K (.ref C) "__getattribute__" = some (some (.builtin "BaseException.__getattribute__"))) &&
  (decide (PySem.W.findIn K (.ref C) "__getattr__" = some none) && (decide (PySem.W.findIn K (.ref C) f = some none) && (decide (PySem.W.typeIn K (.ref fI) = some (.type "function")) && (PySem.W.keepIn K (.ref C) &&
  (decide (PySem.W.subIn K (.ref C) (.type "BaseException") = some true) && (decide (PySem.W.typeIn K (.ref C) = some (.type "type")) && PySem.W.hasDictIn K C)))))))))
theorem err_mk {K : PySem.W.Frag} {mg : Str → Option Value} {n f : Str} {C fI : Addr} {st : Stmt} {qual : Str} {p1 p2 q1 q2 q3 q4 : Pos} {oc kV dc pm cd ct : Value} {od an : Option Addr} {sl : Array (Option Value)} (gC : mg n = some (.ref C)) (iC : PySem.W.findIn K (.ref C) "__init__" = some (some (.ref fI))) (nm : Nm f)
    (l : K.lookup fI = some ⟨oc, od, .func (PySem.W.fnOf "__init__" qual (defArgs st) (defBody st) (defScope st) .none kV dc pm an cd ct), sl⟩) (c : PySem.W.codeIn K cd qual = true)
    (e1 : defArgs st = iA f p1 p2) (e2 : defBody st = iB f q1 q2 q3 q4) (e3 : defScope st = iS f) (b : errB K C fI f = true) : ErrT K mg n f C fI := by
  unfold errB at b
  simp only [Bool.and_eq_true, decide_eq_true_eq] at b
  obtain ⟨h1, h2, h3, h4, h5, h6, h7, h8, h9, h10, h11⟩ := b
  rw [e1, e2, e3] at l
  exact ⟨gC, h1, h2, h3, h4, h5, h6, iC, h7, h8, h9, h10, h11, nm, ⟨_, _, _, _, _, _, _, _, _, _, _, _, _, _, _, _, l, c⟩⟩
def exB (K : PySem.W.Frag) (D : Addr) : Bool :=
  decide (PySem.W.findIn K (.ref D) "__getattribute__" = some (some (.builtin "BaseException.__getattribute__"))) && (decide (PySem.W.findIn K (.ref D) "__getattr__" = some none) && (decide (PySem.W.subIn K (.ref D) (.type "BaseException") = some true) && (PySem.W.hasDictIn K D &&
  (decide (PySem.W.findIn K (.ref D) "__class__" = some (some (.builtin "object.__class__"))) && (decide (PySem.W.specialIn K (.builtin "object.__class__") "__get__" = some (some (.builtin "getset_descriptor.__get__"))) && (decide (PySem.W.takesIn K (.builtin "object.__class__") = some true) && decide (PySem.W.mroIn K D (.type "object") = some true)))))))
theorem ex_mk {K : PySem.W.Frag} {D : Addr} (b : exB K D = true) : ExcC K D := by
  unfold exB at b
  simp only [Bool.and_eq_true, decide_eq_true_eq] at b
  obtain ⟨h1, h2, h3, h4, h5, h6, h7, h8⟩ := b
  exact ⟨h1, h2, h3, h4, h5, h6, h7, h8⟩
def kitB2 (K : PySem.W.Frag) (CC : Addr) (Cs : List Addr) : Bool := Cs.all fun D => exB K D && (decide (PySem.W.kitOne K (.ref D) (.ref CC) = some true) && Cs.all fun C => decide (PySem.W.kitOne K (.ref D) (.ref C) = some (decide (D = C))))
theorem kit_mk {K : PySem.W.Frag} {CC : Addr} {Cs : List Addr} (b : kitB2 K CC Cs = true) (n : Cs.Nodup) : Kit K CC Cs := by
  unfold kitB2 at b
  rw [List.all_eq_true] at b
  have g : ∀ D ∈ Cs, exB K D = true ∧ PySem.W.kitOne K (.ref D) (.ref CC) = some true ∧ ∀ C ∈ Cs, PySem.W.kitOne K (.ref D) (.ref C) = some (decide (D = C)) := fun D hD => by
    have z := b D hD
    rw [Bool.and_eq_true, Bool.and_eq_true, List.all_eq_true] at z
    exact ⟨z.1, of_decide_eq_true z.2.1, fun C hC => of_decide_eq_true (z.2.2 C hC)⟩
  exact ⟨fun D hD => ex_mk (g D hD).1, fun D hD => (g D hD).2.2, fun D hD => (g D hD).2.1, n⟩
abbrev sI0 : Stmt := inClass (top 2) 0
abbrev sI1 : Stmt := inClass (top 3) 0
abbrev sI2 : Stmt := inClass (top 4) 0
abbrev sI3 : Stmt := inClass (top 5) 0
abbrev sI4 : Stmt := inClass (top 6) 0
abbrev sI5 : Stmt := inClass (top 7) 0
abbrev sI6 : Stmt := inClass (top 8) 0
abbrev sI7 : Stmt := inClass (top 9) 0
abbrev sI8 : Stmt := inClass (top 10) 0
abbrev sI9 : Stmt := inClass (top 11) 0
abbrev sI10 : Stmt := inClass (top 12) 0
abbrev sI11 : Stmt := inClass (top 13) 0
abbrev sI12 : Stmt := inClass (top 14) 0
abbrev sI13 : Stmt := inClass (top 15) 0
abbrev sI14 : Stmt := inClass (top 16) 0
abbrev sI15 : Stmt := inClass (top 17) 0
abbrev sI16 : Stmt := inClass (top 18) 0
abbrev sI17 : Stmt := inClass (top 19) 0
abbrev sI18 : Stmt := inClass (top 20) 0
abbrev sI19 : Stmt := inClass (top 21) 0
abbrev sI20 : Stmt := inClass (top 22) 0
abbrev sI22 : Stmt := inClass (top 24) 0
theorem all_mk {l : PySem.W.OpenLaw} {w : World} {K : PySem.W.Frag} {h : Heap} {mg : Str → Option Value} {fa CC C0 C1 C2 C3 C4 C5 C6 C7 C8 C9 C10 C11 C12 C13 C14 C15 C16 C17 C18 C19 C20 C21 C22 f0 f1 f2 f3 f4 f5 f6 f7 f8 f9 f10 f11 f12 f13 f14 f15 f16 f17 f18 f19 f20 f22 : Addr} {gN gP gD gO gB gL gF gC gA : Addr} (X : K.In h) (G : h.Ns mainGlobals mg) (hfa : mg "law" = some (.ref fa))
    {od0 an0 od1 an1 od2 an2 od3 an3 od4 an4 od5 an5 od6 an6 od7 an7 od8 an8 od9 an9 od10 an10 od11 an11 od12 an12 od13 an13 od14 an14 od15 an15 od16 an16 od17 an17 od18 an18 od19 an19 od20 an20 od22 an22 odN anN odP anP odD anD odO anO odB anB odL anL odF anF odC anC odA anA : Option Addr} {sl0 sl1 sl2 sl3 sl4 sl5 sl6 sl7 sl8 sl9 sl10 sl11 sl12 sl13 sl14 sl15 sl16 sl17 sl18 sl19 sl20 sl22 slN slP slD slO slB slL slF slC slA : Array (Option Value)} {oc0 kV0 dc0 pm0 cd0 ct0 oc1 kV1 dc1 pm1 cd1 ct1 oc2 kV2 dc2 pm2 cd2 ct2 oc3 kV3 dc3 pm3 cd3 ct3 oc4 kV4 dc4 pm4 cd4 ct4 oc5 kV5 dc5 pm5 cd5 ct5 oc6 kV6 dc6 pm6 cd6 ct6 oc7 kV7 dc7 pm7 cd7 ct7 oc8 kV8 dc8 pm8 cd8 ct8 oc9 kV9 dc9 pm9 cd9 ct9 oc10 kV10 dc10 pm10 cd10 ct10 oc11 kV11 dc11 pm11 cd11 ct11 oc12 kV12 dc12 pm12 cd12 ct12 oc13 kV13 dc13 pm13 cd13 ct13 oc14 kV14 dc14 pm14 cd14 ct14 oc15 kV15 dc15 pm15 cd15 ct15 oc16 kV16 dc16 pm16 cd16 ct16 oc17 kV17 dc17 pm17 cd17 ct17 oc18 kV18 dc18 pm18 cd18 ct18 oc19 kV19 dc19 pm19 cd19 ct19 oc20 kV20 dc20 pm20 cd20 ct20 oc22 kV22 dc22 pm22 cd22 ct22 ocN kVN dcN pmN cdN ctN ocP kVP dcP pmP cdP ctP ocD kVD dcD pmD cdD ctD ocO kVO dcO pmO cdO ctO ocB kVB dcB pmB cdB ctB ocL kVL dcL pmL cdL ctL ocF kVF dcF pmF cdF ctF ocC kVC dcC pmC cdC ctC ocA kVA dcA pmA cdA ctA : Value}
    (aCC : PySem.W.nsIn K mainGlobals "CountError" = some (some (.ref CC)))
    (a0 : PySem.W.nsIn K mainGlobals "BadArgument" = some (some (.ref C0)))
    (i0 : PySem.W.findIn K (.ref C0) "__init__" = some (some (.ref f0)))
    (l0 : K.lookup f0 = some ⟨oc0, od0, .func (PySem.W.fnOf "__init__" "BadArgument.__init__" (defArgs sI0) (defBody sI0) (defScope sI0) .none kV0 dc0 pm0 an0 cd0 ct0), sl0⟩)
    (c0 : PySem.W.codeIn K cd0 "BadArgument.__init__" = true)
    (b0 : errB K C0 f0 "value" = true)
    (a1 : PySem.W.nsIn K mainGlobals "BadProgram" = some (some (.ref C1)))
    (i1 : PySem.W.findIn K (.ref C1) "__init__" = some (some (.ref f1)))
    (l1 : K.lookup f1 = some ⟨oc1, od1, .func (PySem.W.fnOf "__init__" "BadProgram.__init__" (defArgs sI1) (defBody sI1) (defScope sI1) .none kV1 dc1 pm1 an1 cd1 ct1), sl1⟩)
    (c1 : PySem.W.codeIn K cd1 "BadProgram.__init__" = true)
    (b1 : errB K C1 f1 "part" = true)
    (a2 : PySem.W.nsIn K mainGlobals "BadPlace" = some (some (.ref C2)))
    (i2 : PySem.W.findIn K (.ref C2) "__init__" = some (some (.ref f2)))
    (l2 : K.lookup f2 = some ⟨oc2, od2, .func (PySem.W.fnOf "__init__" "BadPlace.__init__" (defArgs sI2) (defBody sI2) (defScope sI2) .none kV2 dc2 pm2 an2 cd2 ct2), sl2⟩)
    (c2 : PySem.W.codeIn K cd2 "BadPlace.__init__" = true)
    (b2 : errB K C2 f2 "value" = true)
    (a3 : PySem.W.nsIn K mainGlobals "BadWay" = some (some (.ref C3)))
    (i3 : PySem.W.findIn K (.ref C3) "__init__" = some (some (.ref f3)))
    (l3 : K.lookup f3 = some ⟨oc3, od3, .func (PySem.W.fnOf "__init__" "BadWay.__init__" (defArgs sI3) (defBody sI3) (defScope sI3) .none kV3 dc3 pm3 an3 cd3 ct3), sl3⟩)
    (c3 : PySem.W.codeIn K cd3 "BadWay.__init__" = true)
    (b3 : errB K C3 f3 "value" = true)
    (a4 : PySem.W.nsIn K mainGlobals "BadRun" = some (some (.ref C4)))
    (i4 : PySem.W.findIn K (.ref C4) "__init__" = some (some (.ref f4)))
    (l4 : K.lookup f4 = some ⟨oc4, od4, .func (PySem.W.fnOf "__init__" "BadRun.__init__" (defArgs sI4) (defBody sI4) (defScope sI4) .none kV4 dc4 pm4 an4 cd4 ct4), sl4⟩)
    (c4 : PySem.W.codeIn K cd4 "BadRun.__init__" = true)
    (b4 : errB K C4 f4 "value" = true)
    (a5 : PySem.W.nsIn K mainGlobals "BadCounter" = some (some (.ref C5)))
    (i5 : PySem.W.findIn K (.ref C5) "__init__" = some (some (.ref f5)))
    (l5 : K.lookup f5 = some ⟨oc5, od5, .func (PySem.W.fnOf "__init__" "BadCounter.__init__" (defArgs sI5) (defBody sI5) (defScope sI5) .none kV5 dc5 pm5 an5 cd5 ct5), sl5⟩)
    (c5 : PySem.W.codeIn K cd5 "BadCounter.__init__" = true)
    (b5 : errB K C5 f5 "value" = true)
    (a6 : PySem.W.nsIn K mainGlobals "BadLot" = some (some (.ref C6)))
    (i6 : PySem.W.findIn K (.ref C6) "__init__" = some (some (.ref f6)))
    (l6 : K.lookup f6 = some ⟨oc6, od6, .func (PySem.W.fnOf "__init__" "BadLot.__init__" (defArgs sI6) (defBody sI6) (defScope sI6) .none kV6 dc6 pm6 an6 cd6 ct6), sl6⟩)
    (c6 : PySem.W.codeIn K cd6 "BadLot.__init__" = true)
    (b6 : errB K C6 f6 "value" = true)
    (a7 : PySem.W.nsIn K mainGlobals "NoLot" = some (some (.ref C7)))
    (i7 : PySem.W.findIn K (.ref C7) "__init__" = some (some (.ref f7)))
    (l7 : K.lookup f7 = some ⟨oc7, od7, .func (PySem.W.fnOf "__init__" "NoLot.__init__" (defArgs sI7) (defBody sI7) (defScope sI7) .none kV7 dc7 pm7 an7 cd7 ct7), sl7⟩)
    (c7 : PySem.W.codeIn K cd7 "NoLot.__init__" = true)
    (b7 : errB K C7 f7 "reason" = true)
    (a8 : PySem.W.nsIn K mainGlobals "BadNumber" = some (some (.ref C8)))
    (i8 : PySem.W.findIn K (.ref C8) "__init__" = some (some (.ref f8)))
    (l8 : K.lookup f8 = some ⟨oc8, od8, .func (PySem.W.fnOf "__init__" "BadNumber.__init__" (defArgs sI8) (defBody sI8) (defScope sI8) .none kV8 dc8 pm8 an8 cd8 ct8), sl8⟩)
    (c8 : PySem.W.codeIn K cd8 "BadNumber.__init__" = true)
    (b8 : errB K C8 f8 "value" = true)
    (a9 : PySem.W.nsIn K mainGlobals "BadValues" = some (some (.ref C9)))
    (i9 : PySem.W.findIn K (.ref C9) "__init__" = some (some (.ref f9)))
    (l9 : K.lookup f9 = some ⟨oc9, od9, .func (PySem.W.fnOf "__init__" "BadValues.__init__" (defArgs sI9) (defBody sI9) (defScope sI9) .none kV9 dc9 pm9 an9 cd9 ct9), sl9⟩)
    (c9 : PySem.W.codeIn K cd9 "BadValues.__init__" = true)
    (b9 : errB K C9 f9 "value" = true)
    (a10 : PySem.W.nsIn K mainGlobals "NotTold" = some (some (.ref C10)))
    (i10 : PySem.W.findIn K (.ref C10) "__init__" = some (some (.ref f10)))
    (l10 : K.lookup f10 = some ⟨oc10, od10, .func (PySem.W.fnOf "__init__" "NotTold.__init__" (defArgs sI10) (defBody sI10) (defScope sI10) .none kV10 dc10 pm10 an10 cd10 ct10), sl10⟩)
    (c10 : PySem.W.codeIn K cd10 "NotTold.__init__" = true)
    (b10 : errB K C10 f10 "counter" = true)
    (a11 : PySem.W.nsIn K mainGlobals "Rings" = some (some (.ref C11)))
    (i11 : PySem.W.findIn K (.ref C11) "__init__" = some (some (.ref f11)))
    (l11 : K.lookup f11 = some ⟨oc11, od11, .func (PySem.W.fnOf "__init__" "Rings.__init__" (defArgs sI11) (defBody sI11) (defScope sI11) .none kV11 dc11 pm11 an11 cd11 ct11), sl11⟩)
    (c11 : PySem.W.codeIn K cd11 "Rings.__init__" = true)
    (b11 : errB K C11 f11 "ring" = true)
    (a12 : PySem.W.nsIn K mainGlobals "BadCosts" = some (some (.ref C12)))
    (i12 : PySem.W.findIn K (.ref C12) "__init__" = some (some (.ref f12)))
    (l12 : K.lookup f12 = some ⟨oc12, od12, .func (PySem.W.fnOf "__init__" "BadCosts.__init__" (defArgs sI12) (defBody sI12) (defScope sI12) .none kV12 dc12 pm12 an12 cd12 ct12), sl12⟩)
    (c12 : PySem.W.codeIn K cd12 "BadCosts.__init__" = true)
    (b12 : errB K C12 f12 "value" = true)
    (a13 : PySem.W.nsIn K mainGlobals "BadLevels" = some (some (.ref C13)))
    (i13 : PySem.W.findIn K (.ref C13) "__init__" = some (some (.ref f13)))
    (l13 : K.lookup f13 = some ⟨oc13, od13, .func (PySem.W.fnOf "__init__" "BadLevels.__init__" (defArgs sI13) (defBody sI13) (defScope sI13) .none kV13 dc13 pm13 an13 cd13 ct13), sl13⟩)
    (c13 : PySem.W.codeIn K cd13 "BadLevels.__init__" = true)
    (b13 : errB K C13 f13 "value" = true)
    (a14 : PySem.W.nsIn K mainGlobals "TooMany" = some (some (.ref C14)))
    (i14 : PySem.W.findIn K (.ref C14) "__init__" = some (some (.ref f14)))
    (l14 : K.lookup f14 = some ⟨oc14, od14, .func (PySem.W.fnOf "__init__" "TooMany.__init__" (defArgs sI14) (defBody sI14) (defScope sI14) .none kV14 dc14 pm14 an14 cd14 ct14), sl14⟩)
    (c14 : PySem.W.codeIn K cd14 "TooMany.__init__" = true)
    (b14 : errB K C14 f14 "number" = true)
    (a15 : PySem.W.nsIn K mainGlobals "BadChange" = some (some (.ref C15)))
    (i15 : PySem.W.findIn K (.ref C15) "__init__" = some (some (.ref f15)))
    (l15 : K.lookup f15 = some ⟨oc15, od15, .func (PySem.W.fnOf "__init__" "BadChange.__init__" (defArgs sI15) (defBody sI15) (defScope sI15) .none kV15 dc15 pm15 an15 cd15 ct15), sl15⟩)
    (c15 : PySem.W.codeIn K cd15 "BadChange.__init__" = true)
    (b15 : errB K C15 f15 "value" = true)
    (a16 : PySem.W.nsIn K mainGlobals "BadText" = some (some (.ref C16)))
    (i16 : PySem.W.findIn K (.ref C16) "__init__" = some (some (.ref f16)))
    (l16 : K.lookup f16 = some ⟨oc16, od16, .func (PySem.W.fnOf "__init__" "BadText.__init__" (defArgs sI16) (defBody sI16) (defScope sI16) .none kV16 dc16 pm16 an16 cd16 ct16), sl16⟩)
    (c16 : PySem.W.codeIn K cd16 "BadText.__init__" = true)
    (b16 : errB K C16 f16 "at" = true)
    (a17 : PySem.W.nsIn K mainGlobals "BadName" = some (some (.ref C17)))
    (i17 : PySem.W.findIn K (.ref C17) "__init__" = some (some (.ref f17)))
    (l17 : K.lookup f17 = some ⟨oc17, od17, .func (PySem.W.fnOf "__init__" "BadName.__init__" (defArgs sI17) (defBody sI17) (defScope sI17) .none kV17 dc17 pm17 an17 cd17 ct17), sl17⟩)
    (c17 : PySem.W.codeIn K cd17 "BadName.__init__" = true)
    (b17 : errB K C17 f17 "value" = true)
    (a18 : PySem.W.nsIn K mainGlobals "NameTaken" = some (some (.ref C18)))
    (i18 : PySem.W.findIn K (.ref C18) "__init__" = some (some (.ref f18)))
    (l18 : K.lookup f18 = some ⟨oc18, od18, .func (PySem.W.fnOf "__init__" "NameTaken.__init__" (defArgs sI18) (defBody sI18) (defScope sI18) .none kV18 dc18 pm18 an18 cd18 ct18), sl18⟩)
    (c18 : PySem.W.codeIn K cd18 "NameTaken.__init__" = true)
    (b18 : errB K C18 f18 "name" = true)
    (a19 : PySem.W.nsIn K mainGlobals "UnknownName" = some (some (.ref C19)))
    (i19 : PySem.W.findIn K (.ref C19) "__init__" = some (some (.ref f19)))
    (l19 : K.lookup f19 = some ⟨oc19, od19, .func (PySem.W.fnOf "__init__" "UnknownName.__init__" (defArgs sI19) (defBody sI19) (defScope sI19) .none kV19 dc19 pm19 an19 cd19 ct19), sl19⟩)
    (c19 : PySem.W.codeIn K cd19 "UnknownName.__init__" = true)
    (b19 : errB K C19 f19 "name" = true)
    (a20 : PySem.W.nsIn K mainGlobals "FailedDeed" = some (some (.ref C20)))
    (i20 : PySem.W.findIn K (.ref C20) "__init__" = some (some (.ref f20)))
    (l20 : K.lookup f20 = some ⟨oc20, od20, .func (PySem.W.fnOf "__init__" "FailedDeed.__init__" (defArgs sI20) (defBody sI20) (defScope sI20) .none kV20 dc20 pm20 an20 cd20 ct20), sl20⟩)
    (c20 : PySem.W.codeIn K cd20 "FailedDeed.__init__" = true)
    (b20 : errB K C20 f20 "at" = true)
    (a21 : PySem.W.nsIn K mainGlobals "NothingToUndo" = some (some (.ref C21)))
    (j21 : PySem.W.excInitIn K C21 bmE "Exception.__new__" = true)
    (i21 : PySem.W.findIn K (.ref C21) "__init__" = some (some (.builtin "Exception.__init__")))
    (k21 : PySem.W.keepIn K (.ref C21) = true)
    (a22 : PySem.W.nsIn K mainGlobals "BadCommand" = some (some (.ref C22)))
    (i22 : PySem.W.findIn K (.ref C22) "__init__" = some (some (.ref f22)))
    (l22 : K.lookup f22 = some ⟨oc22, od22, .func (PySem.W.fnOf "__init__" "BadCommand.__init__" (defArgs sI22) (defBody sI22) (defScope sI22) .none kV22 dc22 pm22 an22 cd22 ct22), sl22⟩)
    (c22 : PySem.W.codeIn K cd22 "BadCommand.__init__" = true)
    (b22 : errB K C22 f22 "line" = true)
    (kit : kitB2 K CC (allC C0 C1 C2 C3 C4 C5 C6 C7 C8 C9 C10 C11 C12 C13 C14 C15 C16 C17 C18 C19 C20 C21 C22) = true)
    (knd : (allC C0 C1 C2 C3 C4 C5 C6 C7 C8 C9 C10 C11 C12 C13 C14 C15 C16 C17 C18 C19 C20 C21 C22).Nodup)
    (x1 : PySem.W.exmOne K (.ref C4) (.ref C3) = some false)
    (x2 : PySem.W.exmOne K (.ref C4) (.ref CC) = some true)
    (aN : PySem.W.nsIn K mainGlobals "_law_numbers" = some (some (.ref gN)))
    (lN : K.lookup gN = some ⟨ocN, odN, .func (PySem.W.fnOf "_law_numbers" "_law_numbers" (defArgs sNum) (defBody sNum) (defScope sNum) .none kVN dcN pmN anN cdN ctN), slN⟩)
    (cN : PySem.W.codeIn K cdN "_law_numbers" = true)
    (kN : PySem.W.keepIn K (.ref gN) = true)
    (aP : PySem.W.nsIn K mainGlobals "_law_pool" = some (some (.ref gP)))
    (lP : K.lookup gP = some ⟨ocP, odP, .func (PySem.W.fnOf "_law_pool" "_law_pool" (defArgs sPool) (defBody sPool) (defScope sPool) .none kVP dcP pmP anP cdP ctP), slP⟩)
    (cP : PySem.W.codeIn K cdP "_law_pool" = true)
    (kP : PySem.W.keepIn K (.ref gP) = true)
    (aD : PySem.W.nsIn K mainGlobals "_law_draw" = some (some (.ref gD)))
    (lD : K.lookup gD = some ⟨ocD, odD, .func (PySem.W.fnOf "_law_draw" "_law_draw" (defArgs sDraw) (defBody sDraw) (defScope sDraw) .none kVD dcD pmD anD cdD ctD), slD⟩)
    (cD : PySem.W.codeIn K cdD "_law_draw" = true)
    (kD : PySem.W.keepIn K (.ref gD) = true)
    (aO : PySem.W.nsIn K mainGlobals "_law_opened" = some (some (.ref gO)))
    (lO : K.lookup gO = some ⟨ocO, odO, .func (PySem.W.fnOf "_law_opened" "_law_opened" (defArgs sOpen) (defBody sOpen) (defScope sOpen) .none kVO dcO pmO anO cdO ctO), slO⟩)
    (cO : PySem.W.codeIn K cdO "_law_opened" = true)
    (kO : PySem.W.keepIn K (.ref gO) = true)
    (aB : PySem.W.nsIn K mainGlobals "_law_objects" = some (some (.ref gB)))
    (lB : K.lookup gB = some ⟨ocB, odB, .func (PySem.W.fnOf "_law_objects" "_law_objects" (defArgs sObj) (defBody sObj) (defScope sObj) .none kVB dcB pmB anB cdB ctB), slB⟩)
    (cB : PySem.W.codeIn K cdB "_law_objects" = true)
    (kB : PySem.W.keepIn K (.ref gB) = true)
    (aL : PySem.W.nsIn K mainGlobals "_law_classes" = some (some (.ref gL)))
    (lL : K.lookup gL = some ⟨ocL, odL, .func (PySem.W.fnOf "_law_classes" "_law_classes" (defArgs sCls) (defBody sCls) (defScope sCls) .none kVL dcL pmL anL cdL ctL), slL⟩)
    (cL : PySem.W.codeIn K cdL "_law_classes" = true)
    (kL : PySem.W.keepIn K (.ref gL) = true)
    (aF : PySem.W.nsIn K mainGlobals "_law_fields" = some (some (.ref gF)))
    (lF : K.lookup gF = some ⟨ocF, odF, .func (PySem.W.fnOf "_law_fields" "_law_fields" (defArgs sFld) (defBody sFld) (defScope sFld) .none kVF dcF pmF anF cdF ctF), slF⟩)
    (cF : PySem.W.codeIn K cdF "_law_fields" = true)
    (kF : PySem.W.keepIn K (.ref gF) = true)
    (aC : PySem.W.nsIn K mainGlobals "_law_caught" = some (some (.ref gC)))
    (lC : K.lookup gC = some ⟨ocC, odC, .func (PySem.W.fnOf "_law_caught" "_law_caught" (defArgs sCau) (defBody sCau) (defScope sCau) .none kVC dcC pmC anC cdC ctC), slC⟩)
    (cC : PySem.W.codeIn K cdC "_law_caught" = true)
    (kC : PySem.W.keepIn K (.ref gC) = true)
    (aA : PySem.W.nsIn K mainGlobals "law" = some (some (.ref gA)))
    (lA : K.lookup gA = some ⟨ocA, odA, .func (PySem.W.fnOf "law" "law" (defArgs sLaw) (defBody sLaw) (defScope sLaw) .none kVA dcA pmA anA cdA ctA), slA⟩)
    (cA : PySem.W.codeIn K cdA "law" = true)
    (kA : PySem.W.keepIn K (.ref gA) = true)
    (z_isinstance : PySem.W.nsIn K mainGlobals "isinstance" = some none)
    (z_max : PySem.W.nsIn K mainGlobals "max" = some none)
    (z_min : PySem.W.nsIn K mainGlobals "min" = some none)
    (z_int : PySem.W.nsIn K mainGlobals "int" = some none)
    (z_range : PySem.W.nsIn K mainGlobals "range" = some none)
    (z_len : PySem.W.nsIn K mainGlobals "len" = some none)
    (z_str : PySem.W.nsIn K mainGlobals "str" = some none)
    (z_enumerate : PySem.W.nsIn K mainGlobals "enumerate" = some none)
    : ∃ fd : FuncData, (∀ (s : Shared) (v : Value), BindsTo s fd ⟨[v], []⟩ [("script", v)]) ∧ ∀ base : Heap, K.In base → base.Ns mainGlobals mg → FnOk l.prog w K mg base CX0 4 fa fd ["script"] (spLaw K) := by
  have e := hfa.symm.trans (PySem.W.mg_of X G aA)
  cases e
  have T : CT K mg CC C0 C1 C2 C3 C4 C5 C6 C7 C8 C9 C10 C11 C12 C13 C14 C15 C16 C17 C18 C19 C20 C21 C22 f0 f1 f2 f3 f4 f5 f6 f7 f8 f9 f10 f11 f12 f13 f14 f15 f16 f17 f18 f19 f20 f22 := ⟨PySem.W.mg_of X G aCC, err_mk (st := sI0) (PySem.W.mg_of X G a0) i0 nm_value l0 c0 rfl rfl rfl b0, err_mk (st := sI1) (PySem.W.mg_of X G a1) i1 nm_part l1 c1 rfl rfl rfl b1, err_mk (st := sI2) (PySem.W.mg_of X G a2) i2 nm_value l2 c2 rfl rfl rfl b2, err_mk (st := sI3) (PySem.W.mg_of X G a3) i3 nm_value l3 c3 rfl rfl rfl b3, err_mk (st := sI4) (PySem.W.mg_of X G a4) i4 nm_value l4 c4 rfl rfl rfl b4, err_mk (st := sI5) (PySem.W.mg_of X G a5) i5 nm_value l5 c5 rfl rfl rfl b5, err_mk (st := sI6) (PySem.W.mg_of X G a6) i6 nm_value l6 c6 rfl rfl rfl b6, err_mk (st := sI7) (PySem.W.mg_of X G a7) i7 nm_reason l7 c7 rfl rfl rfl b7, err_mk (st := sI8) (PySem.W.mg_of X G a8) i8 nm_value l8 c8 rfl rfl rfl b8, err_mk (st := sI9) (PySem.W.mg_of X G a9) i9 nm_value l9 c9 rfl rfl rfl b9, err_mk (st := sI10) (PySem.W.mg_of X G a10) i10 nm_counter l10 c10 rfl rfl rfl b10, err_mk (st := sI11) (PySem.W.mg_of X G a11) i11 nm_ring l11 c11 rfl rfl rfl b11, err_mk (st := sI12) (PySem.W.mg_of X G a12) i12 nm_value l12 c12 rfl rfl rfl b12, err_mk (st := sI13) (PySem.W.mg_of X G a13) i13 nm_value l13 c13 rfl rfl rfl b13, err_mk (st := sI14) (PySem.W.mg_of X G a14) i14 nm_number l14 c14 rfl rfl rfl b14, err_mk (st := sI15) (PySem.W.mg_of X G a15) i15 nm_value l15 c15 rfl rfl rfl b15, err_mk (st := sI16) (PySem.W.mg_of X G a16) i16 nm_at l16 c16 rfl rfl rfl b16, err_mk (st := sI17) (PySem.W.mg_of X G a17) i17 nm_value l17 c17 rfl rfl rfl b17, err_mk (st := sI18) (PySem.W.mg_of X G a18) i18 nm_name l18 c18 rfl rfl rfl b18, err_mk (st := sI19) (PySem.W.mg_of X G a19) i19 nm_name l19 c19 rfl rfl rfl b19, err_mk (st := sI20) (PySem.W.mg_of X G a20) i20 nm_at l20 c20 rfl rfl rfl b20, ⟨PySem.W.mg_of X G a21, j21, i21, k21⟩, err_mk (st := sI22) (PySem.W.mg_of X G a22) i22 nm_line l22 c22 rfl rfl rfl b22, PySem.W.mg_none_of X G z_isinstance⟩
  have H0 : HT mg := ⟨PySem.W.mg_none_of X G z_max, PySem.W.mg_none_of X G z_min, PySem.W.mg_none_of X G z_int, PySem.W.mg_none_of X G z_range, PySem.W.mg_none_of X G z_len⟩
  have L0 : LT mg := { toHT := H0, str := PySem.W.mg_none_of X G z_str, enum := PySem.W.mg_none_of X G z_enumerate }
  have KT : Kit K CC (allC C0 C1 C2 C3 C4 C5 C6 C7 C8 C9 C10 C11 C12 C13 C14 C15 C16 C17 C18 C19 C20 C21 C22) := kit_mk kit knd
  have FN := fun_mk (st := sNum) lN cN kN
  have bN := FN.binds (ps := ["cell", "salt", "sizes"]) fun _ _ _ _ _ _ us hl => match us, hl with | [_, _, _], _ => rfl
  have FP := fun_mk (st := sPool) lP cP kP
  have bP := FP.binds (ps := ["cell", "salt", "many"]) fun _ _ _ _ _ _ us hl => match us, hl with | [_, _, _], _ => rfl
  have FD := fun_mk (st := sDraw) lD cD kD
  have bD := FD.binds (ps := ["pool", "many"]) fun _ _ _ _ _ _ us hl => match us, hl with | [_, _], _ => rfl
  have FO := fun_mk (st := sOpen) lO cO kO
  have bO := FO.binds (ps := ["script", "k", "many"]) fun _ _ _ _ _ _ us hl => match us, hl with | [_, _, _], _ => rfl
  have FB := fun_mk (st := sObj) lB cB kB
  have bB := FB.binds (ps := ["thing"]) fun _ _ _ _ _ _ us hl => match us, hl with | [_], _ => rfl
  have FL := fun_mk (st := sCls) lL cL kL
  have bL := FL.binds (ps := ["one"]) fun _ _ _ _ _ _ us hl => match us, hl with | [_], _ => rfl
  have FF := fun_mk (st := sFld) lF cF kF
  have bF := FF.binds (ps := ["thing"]) fun _ _ _ _ _ _ us hl => match us, hl with | [_], _ => rfl
  have FC := fun_mk (st := sCau) lC cC kC
  have bC := FC.binds (ps := ["thing"]) fun _ _ _ _ _ _ us hl => match us, hl with | [_], _ => rfl
  have FA := fun_mk (st := sLaw) lA cA kA
  refine ⟨PySem.W.fnOf "law" "law" (defArgs sLaw) (defBody sLaw) (defScope sLaw) .none kVA dcA pmA anA cdA ctA, fun s v => .of_eq rfl, fun base _ _ => ?_⟩
  exact ok_law FA L0 T KT (PySem.W.mg_of X G aO) kO bO (ok_open FO H0 FP bP (PySem.W.mg_of X G aP) FN bN (PySem.W.mg_of X G aN)) (PySem.W.mg_of X G aD) kD bD (ok_draw FD H0) (PySem.W.mg_of X G aF) kF bF (ok_fld FF T) (PySem.W.mg_of X G aC) kC bC (ok_cau FC T x1 x2)
    (PySem.W.mg_of X G aB) kB bB (ok_obj FB T) (PySem.W.mg_of X G aL) kL bL (ok_cls FL T KT)
theorem walk {l : PySem.W.OpenLaw} {q : Program} {loose : List Str} {XP : (Str → Option Value) → Heap → Prop} {YP : World → Heap → Prop} {d : DefRec} {K : Params → PySem.W.Frag} (hn : l.most = some 63) (hdf : d.params.defaults = [])
    (hY : ∀ (w : World) (h : Heap), YP w h → (K w.params).In h)
    (F : ∀ (w : World) (mg : Str → Option Value) (fa : Addr) (h : Heap), (K w.params).In h → h.Ns mainGlobals mg → mg d.name = some (.ref fa) →
      ∃ fd : FuncData, (∀ (s : Shared) (u : Value), BindsTo s fd ⟨[u], []⟩ [("script", u)]) ∧ ∀ base : Heap, (K w.params).In base → base.Ns mainGlobals mg → FnOk l.prog w (K w.params) mg base CX0 4 fa fd ["script"] (spLaw (K w.params))) :
    PySem.W.WalkO q loose XP YP l.row.toRowW d [] (fun f vs => PySem.call f vs) :=
  L2.walk_of (n := 63) (k := 4) (x := "script") (CX := fun _ => CX0) (sp := fun w => spLaw (K w.params)) hn (by decide) hdf ⟨rfl, by decide, by decide⟩ hY F (fun _ _ a ns hl _ hS => ⟨a, ns, rfl, hS, hl, fun _ => rfl⟩) fun _ _ _ _ _ z => z
end K42
open PySem PySem.W PyProof.Rows
set_option maxRecDepth 100000 in
set_option maxHeartbeats 0 in
theorem PySem.Challenge.cw_countededges_k42_classes_of_errors_holds : PySem.Challenge.rw_countededges_k42_classes_of_errors.Holds := by
  w_on; o_law; k_head; (case hw => w_witness2)
  k_fill
  refine K42.walk (l := PySem.Challenge.rw_countededges_k42_classes_of_errors) rfl rfl (fun w h Y => PySem.W.kIn_of Y) ?F
  case F =>
    intro w mg fa h KX G hmg
    refine' K42.all_mk KX G hmg ?aCC ?a0 ?i0 ?l0 ?c0 ?b0 ?a1 ?i1 ?l1 ?c1 ?b1 ?a2 ?i2 ?l2 ?c2 ?b2 ?a3 ?i3 ?l3 ?c3 ?b3 ?a4 ?i4 ?l4 ?c4 ?b4 ?a5 ?i5 ?l5 ?c5 ?b5 ?a6 ?i6 ?l6 ?c6 ?b6 ?a7 ?i7 ?l7 ?c7 ?b7 ?a8 ?i8 ?l8 ?c8 ?b8 ?a9 ?i9 ?l9 ?c9 ?b9 ?a10 ?i10 ?l10 ?c10 ?b10 ?a11 ?i11 ?l11 ?c11 ?b11 ?a12 ?i12 ?l12 ?c12 ?b12 ?a13 ?i13 ?l13 ?c13 ?b13 ?a14 ?i14 ?l14 ?c14 ?b14 ?a15 ?i15 ?l15 ?c15 ?b15 ?a16 ?i16 ?l16 ?c16 ?b16 ?a17 ?i17 ?l17 ?c17 ?b17 ?a18 ?i18 ?l18 ?c18 ?b18 ?a19 ?i19 ?l19 ?c19 ?b19 ?a20 ?i20 ?l20 ?c20 ?b20 ?a21 ?j21 ?i21 ?k21 ?a22 ?i22 ?l22 ?c22 ?b22 ?kit ?knd ?x1 ?x2 ?aN ?lN ?cN ?kN ?aP ?lP ?cP ?kP ?aD ?lD ?cD ?kD ?aO ?lO ?cO ?kO ?aB ?lB ?cB ?kB ?aL ?lL ?cL ?kL ?aF ?lF ?cF ?kF ?aC ?lC ?cC ?kC ?aA ?lA ?cA ?kA ?z_isinstance ?z_max ?z_min ?z_int ?z_range ?z_len ?z_str ?z_enumerate
    (case aCC => k_is); (case a0 => k_is); (case i0 => k_is); (case l0 => k_is); (case c0 => k_is); (case b0 => kernel_rfl); (case a1 => k_is); (case i1 => k_is); (case l1 => k_is)
    (case c1 => k_is); (case b1 => kernel_rfl); (case a2 => k_is); (case i2 => k_is); (case l2 => k_is); (case c2 => k_is); (case b2 => kernel_rfl); (case a3 => k_is); (case i3 => k_is)
    (case l3 => k_is); (case c3 => k_is); (case b3 => kernel_rfl); (case a4 => k_is); (case i4 => k_is); (case l4 => k_is); (case c4 => k_is); (case b4 => kernel_rfl); (case a5 => k_is)
    (case i5 => k_is); (case l5 => k_is); (case c5 => k_is); (case b5 => kernel_rfl); (case a6 => k_is); (case i6 => k_is); (case l6 => k_is); (case c6 => k_is); (case b6 => kernel_rfl)
    (case a7 => k_is); (case i7 => k_is); (case l7 => k_is); (case c7 => k_is); (case b7 => kernel_rfl); (case a8 => k_is); (case i8 => k_is); (case l8 => k_is); (case c8 => k_is)
    (case b8 => kernel_rfl); (case a9 => k_is); (case i9 => k_is); (case l9 => k_is); (case c9 => k_is); (case b9 => kernel_rfl); (case a10 => k_is); (case i10 => k_is); (case l10 => k_is)
    (case c10 => k_is); (case b10 => kernel_rfl); (case a11 => k_is); (case i11 => k_is); (case l11 => k_is); (case c11 => k_is); (case b11 => kernel_rfl); (case a12 => k_is); (case i12 => k_is)
    (case l12 => k_is); (case c12 => k_is); (case b12 => kernel_rfl); (case a13 => k_is); (case i13 => k_is); (case l13 => k_is); (case c13 => k_is); (case b13 => kernel_rfl); (case a14 => k_is)
    (case i14 => k_is); (case l14 => k_is); (case c14 => k_is); (case b14 => kernel_rfl); (case a15 => k_is); (case i15 => k_is); (case l15 => k_is); (case c15 => k_is); (case b15 => kernel_rfl)
    (case a16 => k_is); (case i16 => k_is); (case l16 => k_is); (case c16 => k_is); (case b16 => kernel_rfl); (case a17 => k_is); (case i17 => k_is); (case l17 => k_is); (case c17 => k_is)
    (case b17 => kernel_rfl); (case a18 => k_is); (case i18 => k_is); (case l18 => k_is); (case c18 => k_is); (case b18 => kernel_rfl); (case a19 => k_is); (case i19 => k_is); (case l19 => k_is)
    (case c19 => k_is); (case b19 => kernel_rfl); (case a20 => k_is); (case i20 => k_is); (case l20 => k_is); (case c20 => k_is); (case b20 => kernel_rfl); (case a21 => k_is); (case j21 => kernel_rfl)
    (case i21 => k_is); (case k21 => k_is); (case a22 => k_is); (case i22 => k_is); (case l22 => k_is); (case c22 => k_is); (case b22 => kernel_rfl); (case kit => kernel_rfl); (case knd => decide)
    (case x1 => first | k_is | kernel_rfl); (case x2 => first | k_is | kernel_rfl); (case aN => k_is); (case lN => k_is); (case cN => k_is); (case kN => k_is); (case aP => k_is); (case lP => k_is)
    (case cP => k_is); (case kP => k_is); (case aD => k_is); (case lD => k_is); (case cD => k_is); (case kD => k_is); (case aO => k_is); (case lO => k_is); (case cO => k_is); (case kO => k_is)
    (case aB => k_is); (case lB => k_is); (case cB => k_is); (case kB => k_is); (case aL => k_is); (case lL => k_is); (case cL => k_is); (case kL => k_is); (case aF => k_is); (case lF => k_is)
    (case cF => k_is); (case kF => k_is); (case aC => k_is); (case lC => k_is); (case cC => k_is); (case kC => k_is); (case aA => k_is); (case lA => k_is); (case cA => k_is); (case kA => k_is)
    (case z_isinstance => k_is); (case z_max => k_is); (case z_min => k_is); (case z_int => k_is); (case z_range => k_is); (case z_len => k_is); (case z_str => k_is); (case z_enumerate => k_is)

