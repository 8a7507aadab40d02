import PyProof.Rows.All
import Wide.All
import OpenK.AllK
import Wide.FinOn
import KE.KExcInit
import KE.KExcIs
import KE.KMulAny
import HandS.ForMost
import HandS.Exc
import HandS.ExcInit
import HandS.IsInst
import HandS.Defaults
import HandS.ExcIs
import HandS.TryMany
import HandS.WordsExc
import HandS.Sort
import HandS.Set
import HandS.SetTxt0
import HandS.SetBool
import HandS.Walk
import HandS.More
import HandS.DictComp
import HandS.Strs
import HandS.Style
import HandS.SetFor
import HandS.OwnEq
import HandS.DeepEq
import HandS.Property
import HandS.Deep
import HandS.Star
import HandS.ClsMeth
import KE.KOpsOwn
import HandS.Iter
import KE.GoesMore
import KE.KRevSl
import HandS.TupAny
import PyProof.InstNe
import HandS.Ends
import HandS.ForExc
import PyProof.ReprRoads
import PyProof.CallFns
import HandS.GenList
import KE.KEqSeq
import HandS.Small
import KE.KEqDict
import KE.KDictWalk
import KE.KDictCopyH
import HandS.TupLen
import PyProof.EqAt
import KE.KDictKeyed
import KE.KeyNested
import PyProof.DictMoreH
import PyProof.DictTable
import HandS.Head0
import HandS.Head1
import HandS.Head2
import HandS.HeadEnd
import HandS.HeadHook1
import HandS.HeadHook2
import PySem.Challenge.RW_countededges_k47_whole_ways_doubled_and
set_option Elab.async false
set_option linter.all false
set_option maxRecDepth 100000
set_option maxHeartbeats 4000000
/-! Own errors over Exception, through a base class of the program: made (also by a keyword), their field read, asked for by isinstance. -/
namespace EXC
open PySem PySem.W PySem.Calls PyProof.Rows
abbrev bmE : List Value := [.type "Exception", .type "BaseException", .type "object"]
section
open Builtin Builtin.ObjectAttr
variable {prog : Program} {w : World} {A : Around} {R : Result → Shared → Prop} {h0 : Heap} {gs : Array GenState} {dr : Drawn} {tn : Nat} {so : OsState}
/-- the first attribute of an error that has no dict yet -/
theorem put_first {K : Frag} {nm : Str} {tk : Tok} {y : Value} {x C : Addr} {fv : Array Value}
    (KX : K.In h0) (ox : h0.get? x = some { cls := .ref C, data := .fields fv }) (ov : excOver K C bmE = true) (od : hasDictIn K C = true) (no : findIn K (.ref C) nm = some none)
    (go : ∀ h1 t1 dx, (∀ b o, b ≠ x → h0.get? b = some o → h1.get? b = some o) → h0.objs.size ≤ dx → dx ≠ x → h1.get? x = some { cls := .ref C, dict := some dx, data := .fields fv } →
      h1.Ns1 dx (fun z => if z = nm then some y else none) → R (.ok (.ret .none)) ⟨h1, gs, dr, t1, so⟩) :
    codeAny (model prog w) A (.call (.builtin "object.__setattr__") ⟨[.ref x, .str nm tk, y], []⟩) R ⟨h0, gs, dr, tn, so⟩ := by
  refine osa_openX (od := none) (r := none) F.store_Exception KX ⟨ox, rfl, rfl, trivial⟩ ov (by unfold takerIn; rw [no]; rfl) fun b => ?_
  have xl : x ≠ h0.objs.size := Nat.ne_of_lt (Heap.lt_size ox)
  obtain ⟨cd, hc, hd⟩ := any_some od
  have lc : Looks (model prog w) h0 (classData C) cd := looks_clsIn KX hc
  obtain ⟨c1, c2, c3, c4, c5, c6, c7, c8, c9, c10, c11⟩ := cd
  dsimp only at hd
  subst hd
  show wpAny _ _ (storeInOwnDict (.ref x) (.ref C) (.str nm tk) nm y b) _ _ _
  unfold storeInOwnDict ownDictForStores
  repeat (first | with_reducible refine HandSPX.store_in_new ?_ ?_ | with_reducible refine wpAny_loadPart_at ox ?_ | with_reducible refine lc.at ?_ | wp_step)
  · exact ⟨_, #[], _, (Heap.get?_update_ne _ _ _ _ xl.symm).trans (Heap.get?_push_at rfl rfl), rfl, fun e he => absurd he (by simp), fun _ => rfl⟩
  · intro h1 t1 n1 s1
    have ox1 : (h0.push { cls := .type "dict", data := .dict #[] }).get? x = some { cls := .ref C, data := .fields fv } := Heap.get?_push_of_some _ ox
    refine go h1 t1 h0.objs.size (fun b o nb e => ?_) (Nat.le_refl _) xl.symm ?_ n1
    · exact (s1.2 b (Nat.ne_of_lt (Heap.lt_size e))).trans ((Heap.get?_update_ne _ _ _ _ nb).trans (Heap.get?_push_of_some _ e))
    · exact (s1.2 x xl).trans (Heap.get?_update_self _ ox1 rfl)
end

/-! ### the call of such a class, by values and keywords -/
section
variable {prog : Program} {w : World} {A : Around} {E : Value → Shared → Prop} {R : Result → Shared → Prop} {h0 : Heap} {gs : Array GenState} {dr : Drawn} {tn : Nat} {so : OsState}
variable {nm q : Str} {C N : Addr} {bs bm bmB : List Value} {hdct : Bool} {sn : List Str} {sub : List Value} {ab : Bool} {col : Option Bool} {dd : Option Addr} {k0 k1 k2 k3 k5 : Option Value} {B newId initId : String}
abbrev fresh (C t : Addr) : Obj := { cls := .ref C, data := .fields #[.ref t, .none, .none, .none, .bool false, .none] }
theorem new_kw (FB : ExcBaseFacts B newId initId bmB) (hT : ∀ X : String, bm.contains (.type X) = bmB.contains (.type X)) {us : List Value} {kw : List (Str × Value)}
    (oC : h0.get? C = some (excClassObj nm q C N bs bm hdct sn sub ab col dd k0 k1 k2 k3 k5 newId)) (lu : us.length ≤ sizeLine)
    (go : R (.ok (.ret (.ref (h0.objs.size + 1)))) ⟨(h0.push (kdv_tup us)).push (fresh C h0.objs.size), gs, dr, tn, so⟩) :
    codeAny (model prog w) A (.builtin newId ⟨.ref C :: us, kw⟩) R ⟨h0, gs, dr, tn, so⟩ := by
  have en := FB.ends
  have y1 : (Value.ref C :: bm).contains (.type B) = true := by rw [List.contains_cons, hT, FB.hasB, Bool.or_true]
  have y2 : (Value.ref C :: bm).contains (.type "AttributeError") = false := by rw [List.contains_cons, hT, FB.noAttr]; rfl
  have y3 : (Value.ref C :: bm).contains (.type "NameError") = false := by rw [List.contains_cons, hT, FB.noName]; rfl
  refine codeAny_builtinAt FB.entry ?_
  unfold Builtin.«BaseException.__new__»
  refine PySem.wpAt_bind ?_
  show PySem.wpAt _ _ _ (stack >>= _) _ _ _
  refine PySem.wpAt_bind (PySem.wpAt_stack fun p below => PySem.wpAt_of_wpAny ?_)
  wp_walk
  refine PySem.wpAt_of_wpAny ?_
  rw [FB.owner]
  repeat (first | with_reducible refine wpAny_madeHere_exc FB.canon oC ?_ | with_reducible refine wpAny_loadPart_at oC ?_ | (with_reducible refine wpAny_isSubtype_exc oC ?_; first | rw [y1] | rw [y2] | rw [y3]) | wp_step)
  show R _ _
  rw [Heap.size_push]
  exact go
theorem check_kw {M : Model} (FB : ExcBaseFacts B newId initId bmB) (hT : ∀ X : String, bm.contains (.type X) = bmB.contains (.type X)) {us : List Value} {kw : List (Str × Value)} {Q : Unit → Shared → Prop}
    (oC : h0.get? C = some (excClassObj nm q C N bs bm hdct sn sub ab col dd k0 k1 k2 k3 k5 newId)) (ca : Bind.checkArgs newId ⟨.any, B, B, .cls, [⟨"args", .varPos, false⟩, ⟨"kwargs", .varKw, false⟩]⟩ ⟨.ref C :: us, kw⟩ = pure ())
    (go : Q () ⟨h0, gs, dr, tn, so⟩) : wpAny M A (checkBuiltinCall newId ⟨.ref C :: us, kw⟩) Q E ⟨h0, gs, dr, tn, so⟩ := by
  have y1 : (Value.ref C :: bm).contains (.type B) = true := by rw [List.contains_cons, hT, FB.hasB, Bool.or_true]
  have ns := FB.noStar
  simp only [checkBuiltinCall, FB.newKind, FB.newSplit, FB.newRow]
  rw [ca]
  repeat (first | refine wpAny_loadPart_at oC ?_ | (refine wpAny_isSubtype_exc oC ?_; rw [y1]) | refine wpAny_staticBase_exc oC ?_ | refine wpAny_madeBy_exc oC ?_ | simp only [bne_self_eq_false, Bool.false_eq_true, if_false] | wp_step)
  exact go
theorem type_kw (FB : ExcBaseFacts B newId initId bmB) (hT : ∀ X : String, bm.contains (.type X) = bmB.contains (.type X)) {us : List Value} {kw : List (Str × Value)} {iv : Value} {Q : Fin → Shared → Prop}
    (oC : h0.get? C = some (excClassObj nm q C N bs bm hdct sn sub ab col dd k0 k1 k2 k3 k5 newId)) (ca : Bind.checkArgs newId ⟨.any, B, B, .cls, [⟨"args", .varPos, false⟩, ⟨"kwargs", .varKw, false⟩]⟩ ⟨.ref C :: us, kw⟩ = pure ())
    (fi : Looks (model prog w) h0 (typeLookup (.ref C) "__init__") (some iv)) (bi : ∀ self, Looks (model prog w) h0 (bindSpecial iv self) (iv, [self])) (lu : us.length ≤ sizeLine)
    (go : codeAny (model prog w) A (.call iv ⟨.ref (h0.objs.size + 1) :: us, kw⟩)
      (fun r s' => match r with | .ok (.ret v) => v = .none ∧ Q (.done (.ret (.ref (h0.objs.size + 1)))) s' | .ok _ => False | .error e => E e s')
      ⟨(h0.push (kdv_tup us)).push (fresh C h0.objs.size), gs, dr, tn, so⟩) :
    wpAny (model prog w) A (Builtin.«type.__call__» ⟨.ref C :: us, kw⟩) Q E ⟨h0, gs, dr, tn, so⟩ := by
  repeat (first | with_reducible refine wpAny_loadPart_at oC ?_ | with_reducible refine wpAny_madeBy_exc oC ?_ | wp_step)
  refine codeAny_call_builtin_code (Code.quiet_builtin _ FB.quiet) (check_kw FB hT oC ca ?_)
  refine new_kw FB hT oC lu ?_
  show wpAny _ _ _ _ _ _
  have kp : ∀ b o, h0.get? b = some o → ((h0.push (kdv_tup us)).push (fresh C h0.objs.size)).get? b = some o := fun b o e => Heap.get?_push_of_some _ (Heap.get?_push_of_some _ e)
  have oC1 := kp _ _ oC
  have oe : ((h0.push (kdv_tup us)).push (fresh C h0.objs.size)).get? (h0.objs.size + 1) = some (fresh C h0.objs.size) := by heap_get
  have yC : (Value.ref C :: bm).contains (.ref C) = true := by simp
  have fi1 := fi.keeps kp
  have bi1 := (bi (.ref (h0.objs.size + 1))).keeps kp
  unfold isInstance
  repeat (first | with_reducible refine wpAny_loadPart_at oe ?_ | (with_reducible refine wpAny_isSubtype_exc oC1 ?_; rw [yC]) | wp_step)
  show wpAny _ _ (typeLookup (.ref C) _) _ _ _
  refine fi1.at ?_
  refine wpAny_holding (wpAny_bind (bi1.at ?_))
  refine wpAny_bind (wpAny_call (codeAny_mono go fun r s' z => ?_))
  rcases r with e | (v | _ | _ | _) <;> first | exact z | exact z.elim | skip
  obtain ⟨rfl, z⟩ := z
  first
    | exact wpAny_pure (wpAny_pure z)
    | (wp_walk; exact z)
/-- C(a, .., k = v, ..): the error, new, then its own __init__ -/
theorem call_kw (FB : ExcBaseFacts B newId initId bmB) (hT : ∀ X : String, bm.contains (.type X) = bmB.contains (.type X)) {us : List Value} {kw : List (Str × Value)} {iv : Value}
    (oC : h0.get? C = some (excClassObj nm q C N bs bm hdct sn sub ab col dd k0 k1 k2 k3 k5 newId)) (ca : Bind.checkArgs newId ⟨.any, B, B, .cls, [⟨"args", .varPos, false⟩, ⟨"kwargs", .varKw, false⟩]⟩ ⟨.ref C :: us, kw⟩ = pure ())
    (fi : Looks (model prog w) h0 (typeLookup (.ref C) "__init__") (some iv)) (bi : ∀ self, Looks (model prog w) h0 (bindSpecial iv self) (iv, [self])) (lu : us.length ≤ sizeLine)
    (go : codeAny (model prog w) (A.under (.builtin "type.__call__" ⟨.ref C :: us, kw⟩)) (.call iv ⟨.ref (h0.objs.size + 1) :: us, kw⟩) (InitBack (h0.objs.size + 1) R)
      ⟨(h0.push (kdv_tup us)).push (fresh C h0.objs.size), gs, dr, tn, so⟩) :
    codeAny (model prog w) A (.call (.ref C) ⟨us, kw⟩) R ⟨h0, gs, dr, tn, so⟩ := by
  have f1 := tc_lookup
  have f2 := tc_bind (.ref C)
  have tT : (⟨h0, gs, dr, tn, so⟩ : Shared).TypeIs (.ref C) "type" := ⟨_, oC, rfl⟩
  have ty : Looks (model prog w) h0 (isInstance (.ref C) (.type "type")) true := by
    refine ((Looks.ld (part := none) oC).andThen .now).andThen ?_
    exact .of_pure tc_sub
  refine codeAny_of_tree ?_
  show wpAny _ _ (callAny (.ref C) _) _ _ _
  repeat (any_goals (first | assumption | with_reducible refine wpAny_loadPart_at oC ?_ | wp_step))
  refine ⟨rfl, ?_⟩
  refine codeAny_call_builtin_at (Code.quiet_builtin _ (by decide +kernel)) entry_typeCall (check_slot tc_kind tc_split ty (tc_args _ _ _) (type_kw FB hT oC ca fi bi lu ?_))
  refine codeAny_mono go fun r s' z => ?_
  rcases r with e | (v | _ | _ | _) <;> exact z
end
end EXC


set_option Elab.async false
set_option linter.all false
set_option maxRecDepth 100000
set_option maxHeartbeats 4000000
namespace EXC
open PySem PySem.W PySem.Calls PyProof.Rows
/-! ### def __init__(self, f): self.f = f -/
def iA (f : Str) (p1 p2 : Pos) : Arguments := { posonlyargs := [], args := [{ arg := "self", annotation := none, pos := p1 }, { arg := f, annotation := none, pos := p2 }], vararg := none, kwonlyargs := [], kw_defaults := [], kwarg := none, defaults := [] }
def iB (f : Str) (q1 q2 q3 q4 : Pos) : List Stmt := [.Assign [.Attribute (.Name "self" q1) f q2] (.Name f q3) q4]
def iS (f : Str) : Scope := { kind := .function, names := [(PySem.Str.ofString "self", .local), (f, .local)], isGenerator := false, isCoroutine := false, more := [] }
/-- what is asked of the field's name; each by rfl for a written one -/
structure Nm (f : Str) : Prop where
  b1 : ∀ (qual : Str) (p1 p2 q1 q2 q3 q4 : Pos) (kV doc pm : Value) (an : Option Addr) (cdv ct a b : Value), bindArgs (fnOf "__init__" qual (iA f p1 p2) (iB f q1 q2 q3 q4) (iS f) .none kV doc pm an cdv ct) ⟨[a, b], []⟩ = pure [(("self" : Str), a), (f, b)]
  b2 : ∀ (qual : Str) (p1 p2 q1 q2 q3 q4 : Pos) (kV doc pm : Value) (an : Option Addr) (cdv ct a b : Value), bindArgs (fnOf "__init__" qual (iA f p1 p2) (iB f q1 q2 q3 q4) (iS f) .none kV doc pm an cdv ct) ⟨[a], [(f, b)]⟩ = pure [(("self" : Str), a), (f, b)]
  hk : ∀ (a b : Value), (([(("self" : Str), a), (f, b)] : List (Str × Value)).all fun y => (iS f).names.lookup y.1 == some .local || (iS f).names.lookup y.1 == some .cell) = true
  k1 : ∀ (qual : Str) (L fi : Addr) (cdv : Value), (envOfC qual (iS f) L fi cdv).kindOf "self" = some .local
  k2 : ∀ (qual : Str) (L fi : Addr) (cdv : Value), (envOfC qual (iS f) L fi cdv).kindOf f = some .local
  m1 : ∀ (qual : Str) (L fi : Addr) (cdv a b : Value), bindL (envOfC qual (iS f) L fi cdv).kindOf [(("self" : Str), a), (f, b)] (fun _ => none) "self" = some a
  m2 : ∀ (qual : Str) (L fi : Addr) (cdv a b : Value), bindL (envOfC qual (iS f) L fi cdv).kindOf [(("self" : Str), a), (f, b)] (fun _ => none) f = some b
  db : (f == ("__debug__" : Str)) = false
  sw : ∀ (q1 q2 q3 : Pos) (ln : Nat) (env : Env), swapsWith (.Name f q3) (some (.Attribute (.Name "self" q1) f q2)) ln env = pure false
theorem nm_value : Nm "value" := ⟨fun _ _ _ _ _ _ _ _ _ _ _ _ _ _ _ => rfl, fun _ _ _ _ _ _ _ _ _ _ _ _ _ _ _ => rfl, fun _ _ => rfl, fun _ _ _ _ => rfl, fun _ _ _ _ => rfl, fun _ _ _ _ _ _ => rfl, fun _ _ _ _ _ _ => rfl, by decide, fun _ _ _ _ _ => rfl⟩
/-- what the written part says of the error class named n, at C, whose __init__ is st, at fI -/
structure ErrT (K : Frag) (mg : Str → Option Value) (n f : Str) (C fI : Addr) : Prop where
  gC : mg n = some (.ref C)
  ini : excInitIn K C bmE "Exception.__new__" = true
  ov : excOver K C bmE = true
  sa : findIn K (.ref C) "__setattr__" = some (some (.builtin "object.__setattr__"))
  ga : findIn K (.ref C) "__getattribute__" = some (some (.builtin "BaseException.__getattribute__"))
  gg : findIn K (.ref C) "__getattr__" = some none
  noN : findIn K (.ref C) f = some none
  iC : findIn K (.ref C) "__init__" = some (some (.ref fI))
  tI : typeIn K (.ref fI) = some (.type "function")
  kC : keepIn K (.ref C) = true
  exC : subIn K (.ref C) (.type "BaseException") = some true
  tyC : typeIn K (.ref C) = some (.type "type")
  hdC : hasDictIn K C = true
  nm : Nm f
  fn : ∃ (oc : Value) (od : Option Addr) (qual : Str) (p1 p2 q1 q2 q3 q4 : Pos) (kV doc pm : Value) (an : Option Addr) (cdv ct : Value) (osl : Array (Option Value)),
    K.lookup fI = some ⟨oc, od, .func (fnOf "__init__" qual (iA f p1 p2) (iB f q1 q2 q3 q4) (iS f) .none kV doc pm an cdv ct), osl⟩ ∧ codeIn K cdv qual = true
/-- a made error -/
structure Made (h h' : Heap) (e C d : Addr) (f : Str) (v : Value) : Prop where
  keep : ∀ b o, h.get? b = some o → h'.get? b = some o
  new : h.objs.size ≤ e
  obj : ∃ t, h'.get? e = some { cls := .ref C, dict := some d, data := .fields #[.ref t, .none, .none, .none, .bool false, .none] }
  dbig : h.objs.size ≤ d
  dne : d ≠ e
  ns : h'.Ns1 d (fun y => if y = f then some v else none)
theorem ca_e (C : Addr) (us : List Value) (kw : List (Str × Value)) : Bind.checkArgs "Exception.__new__" ⟨.any, "Exception", "Exception", .cls, [⟨"args", .varPos, false⟩, ⟨"kwargs", .varKw, false⟩]⟩ ⟨.ref C :: us, kw⟩ = pure () := by
  first | rfl | kernel_rfl
section
variable {prog : Program} {w : World} {A : Around} {E : Value → Shared → Prop} {R : Result → Shared → Prop} {s : Shared} {K : Frag} {mg : Str → Option Value} {n f : Str} {C fI : Addr}
theorem init_run (T : ErrT K mg n f C fI) {x t0 : Addr} {v : Value} {args : Args} (ha : args = ⟨[.ref x, v], []⟩ ∨ args = ⟨[.ref x], [(f, v)]⟩) (KX : K.In s.heap) (lim : s.heap.NoLimit) (hx : s.heap.get? x = some (fresh C t0)) (room : A.depth < recursionLimit)
    (go : ∀ h' tk dx, (∀ b o, b ≠ x → s.heap.get? b = some o → h'.get? b = some o) → s.heap.objs.size ≤ dx → dx ≠ x → h'.get? x = some { cls := .ref C, dict := some dx, data := .fields #[.ref t0, .none, .none, .none, .bool false, .none] } →
      h'.Ns1 dx (fun z => if z = f then some v else none) → R (.ok (.ret .none)) { s with heap := h', toks := tk }) :
    codeAny (model prog w) A (.call (.ref fI) args) R s := by
  obtain ⟨oc, od, qual, p1, p2, q1, q2, q3, q4, kV, doc, pm, an, cdv, ct, osl, ho, hcd⟩ := T.fn
  have nm := T.nm
  have hb : BindsTo s (fnOf "__init__" qual (iA f p1 p2) (iB f q1 q2 q3 q4) (iS f) .none kV doc pm an cdv ct) args [(("self" : Str), Value.ref x), (f, v)] := by
    rcases ha with rfl | rfl
    · exact BindsTo.of_eq (nm.b1 ..)
    · exact BindsTo.of_eq (nm.b2 ..)
  refine Att.call_fn (binds := [(("self" : Str), Value.ref x), (f, v)]) KX lim ho hcd room hb (nm.hk _ _) (fun s1 IC => ?_) rfl rfl rfl
  obtain ⟨h1, tk1, rfl⟩ := IC.toInCall.same
  have kp : ∀ b o, s.heap.get? b = some o → h1.get? b = some o := IC.toInCall.keep
  have hn := IC.toInCall.ns
  have KX1 : K.In h1 := KX.keeps kp
  have hx1 := kp _ _ hx
  show wpAny _ _ (execs _ _) _ _ _
  refine wpAny_execs_cons (plainObj_wpAny_Assign_Attribute ?_ (nm.sw ..))
  refine wpAny_Name (wpAny_loadName_local rfl (nm.k2 ..) hn (nm.m2 ..) ?_) nm.db
  refine wpAny_Name (wpAny_loadName_local rfl (nm.k1 ..) hn (nm.m1 ..) ?_) (by decide)
  refine set_plain KX1 (ox := fresh C t0) (od := none) ⟨hx1, rfl, rfl, trivial⟩ T.sa ?_
  refine put_first KX1 hx1 T.ov T.hdC T.noN (fun h3 tk3 dx k3 dn dne hx3 hn3 => ?_)
  show wpAny _ _ (execs _ _) _ _ _
  have z : s.heap.objs.size < h1.objs.size := hn.lt
  exact wpAny_execs_nil (go h3 tk3 dx (fun b o hb e => k3 b o hb (kp b o e)) (Nat.le_of_lt (Nat.lt_of_lt_of_le z dn)) dne hx3 hn3)
/-- C(v) and C(f = v) -/
theorem made (T : ErrT K mg n f C fI) {v : Value} {us : List Value} {kw : List (Str × Value)} (ha : (us = [v] ∧ kw = []) ∨ (us = [] ∧ kw = [(f, v)])) (KX : K.In s.heap) (lim : s.heap.NoLimit) (room : A.depth + 1 < recursionLimit)
    (go : ∀ h' tk e d, Made s.heap h' e C d f v → R (.ok (.ret (.ref e))) { s with heap := h', toks := tk }) :
    codeAny (model prog w) A (.call (.ref C) ⟨us, kw⟩) R s := by
  obtain ⟨nm, N, qn, bs, bm, hdct, sn, sub, ab, col, dd, k0, k1, k2, k3, k5, hC, hT⟩ := excInit_of KX T.ini
  obtain ⟨hp, g, dr, tk, os⟩ := s
  have k : ∀ b o, hp.get? b = some o → ((hp.push (kdv_tup us)).push (fresh C hp.objs.size)).get? b = some o := fun b o e => Heap.get?_push_of_some _ (Heap.get?_push_of_some _ e)
  have hget : ((hp.push (kdv_tup us)).push (fresh C hp.objs.size)).get? (hp.objs.size + 1) = some (fresh C hp.objs.size) := by heap_get
  have lu : us.length ≤ sizeLine := by
    rw [sizeLine_eq]
    rcases ha with ⟨rfl, _⟩ | ⟨rfl, _⟩
    · exact (by decide : 1 ≤ 16777216)
    · exact (by decide : 0 ≤ 16777216)
  refine call_kw F.excBase_Exception hT hC (ca_e C us kw) (looks_findIn KX T.iC) (fun self => bind_fn KX self T.tI) lu ?_
  have ha' : (⟨.ref (hp.objs.size + 1) :: us, kw⟩ : Args) = ⟨[.ref (hp.objs.size + 1), v], []⟩ ∨ (⟨.ref (hp.objs.size + 1) :: us, kw⟩ : Args) = ⟨[.ref (hp.objs.size + 1)], [(f, v)]⟩ := by
    rcases ha with ⟨rfl, rfl⟩ | ⟨rfl, rfl⟩
    · exact .inl rfl
    · exact .inr rfl
  refine init_run (s := ⟨(hp.push (kdv_tup us)).push (fresh C hp.objs.size), g, dr, tk, os⟩) T ha' (KX.keeps k) (lim.keeps k) hget ?_ fun h' tk' dx k' dn dne hx hns => ?_
  · show A.depth + 1 < recursionLimit
    exact room
  · have old : ∀ b o, hp.get? b = some o → h'.get? b = some o := fun b o e => k' b o (Nat.ne_of_lt (Nat.lt_succ_of_lt (Heap.lt_size e))) (k b o e)
    have z : hp.objs.size + 1 + 1 ≤ dx := by
      have y := dn
      rw [Heap.size_push, Heap.size_push] at y
      exact y
    exact ⟨rfl, go h' tk' (hp.objs.size + 1) dx ⟨old, Nat.le_succ _, ⟨_, hx⟩, Nat.le_trans (Nat.le_trans (Nat.le_succ _) (Nat.le_succ _)) z, dne, hns⟩⟩
end
end EXC
namespace L2
open PySem PySem.Spec PyProof.Rows EXC
theorem relO_one {v : V} {u : Value} (r : RelV v u) (f g : Str) : RelO (List.lookup g [(f, v)]) (if g = f then some u else none) := relO_put (fs := []) (mA := fun _ => none) r (fun _ => True.intro) g
section
variable {X : Cx} {n f : Str} {C fI : Addr} {e : Expr} {te : TE} {p pos pos2 kpos : Pos}
theorem made_at (T : ErrT X.K X.mg n f C fI) {k : Nat} (hr : Room k X.A) {pins : List (Addr × Obj)} {σ : St} {H : Hp} {s : Shared} (I : Inv X pins σ H s) {u : Value} {us : List Value} {kw : List (Str × Value)} (ha : (us = [u] ∧ kw = []) ∨ (us = [] ∧ kw = [(f, u)])) {Q : Value → Shared → Prop} {E : Value → Shared → Prop}
    (go : ∀ h' tk a d, Made s.heap h' a C d f u → Q (.ref a) { s with heap := h', toks := tk }) : wpAny (model X.prog X.w) X.A (call (.ref C) us kw) Q E s :=
  wpAny_call (made T ha I.kIn I.nolimit (by have := hr.dp; omega) fun h' tk a d M => go h' tk a d M)
/-- .f of a made error -/
theorem made_get (T : ErrT X.K X.mg n f C fI) {h0 : Heap} {s : Shared} {a d : Addr} {u : Value} {v : V} (M : Made h0 s.heap a C d f u) (ru : RelV v u) (KX : X.K.In s.heap) {Q : Value → Shared → Prop} {E : Value → Shared → Prop} {ex : Bool}
    (go : Q u { s with toks := s.toks + 1 }) : wpAny (model X.prog X.w) X.A (getAttr (.ref a) f ex) Q E s := by
  obtain ⟨t, ho⟩ := M.obj
  obtain ⟨od, hod, hl⟩ := lookIn_ns M.ns
  have J : PySem.W.InstAt s.heap a { cls := .ref C, dict := some d, data := .fields #[.ref t, .none, .none, .none, .bool false, .none] } C (some od) := ⟨ho, rfl, rfl, hod⟩
  exact HandSPX.exc_get KX J T.ga T.gg T.exC (PySem.W.findObj_own T.hdC T.noN rfl (by rw [hl, if_pos rfl])) (handed_of ru) go
abbrev only (Q : VK) : List V → Hp → Prop := fun vs H1 => match vs with | [v] => Q v H1 | _ => False
theorem only_inv {Q : VK} {vs : List V} {us : List Value} {H : Hp} (r : Vals vs us) (h : only Q vs H) : ∃ v u, vs = [v] ∧ us = [u] ∧ RelV v u ∧ Q v H := by
  match vs, us, r, h with
  | [v], [u], .cons a .nil, h => exact ⟨v, u, rfl, rfl, a, h⟩
/-- n(e).f : what e is -/
theorem pe_errF (T : ErrT X.K X.mg n f C fI) {k : Nat} (hr : Room k X.A) (he : PE X e te) (hg : Gl X n) (hdb : (n == ("__debug__" : Str)) = false := by decide)
    (hb : attributeBase (.Call (.Name n p) [e] [] pos) f X.env (eval (.Call (.Name n p) [e] [] pos) X.env) = eval (.Call (.Name n p) [e] [] pos) X.env := by rfl)
    (hs : starEach [e] X.env = (false, eval e X.env) :: starEach [] X.env := by rfl) (hpl : (backTo pos (starEach [] X.env)).any (·.1) = false := by rfl) :
    PE X (.Attribute (.Call (.Name n p) [e] [] pos) f pos2) te := by
  refine ⟨fun pins s σ H Q I h => attr_of hb ?_⟩
  refine wpAny_Call_Name_kw (ld_glob I hg T.gC ?_ hdb)
  refine PySem.W.callWith_K (h₀ := X.base) I.ok.mod.kin T.kC (thn ((pa_cons he pa_nil (hs := hs)).run pos pins s σ H (only Q) I h) fun us s1 ⟨vs, H1, I1, r1, q1⟩ => ⟨I1.kIn, ?_⟩) hs hpl
  obtain ⟨v, u, rfl, rfl, rv, q⟩ := only_inv r1 q1
  refine made_at T hr I1 (.inl ⟨rfl, rfl⟩) fun h' tk a d M => ?_
  exact made_get T (s := { s1 with heap := h', toks := tk }) M rv (I1.kIn.keeps M.keep) ⟨v, H1, I1.kept (t' := tk + 1) M.keep, rv, q⟩
/-- n(f = e).f : what e is -/
theorem pe_errK (T : ErrT X.K X.mg n f C fI) {k : Nat} (hr : Room k X.A) (he : PE X e te) (hg : Gl X n) (hdb : (n == ("__debug__" : Str)) = false := by decide)
    (hb : attributeBase (.Call (.Name n p) [] [⟨some f, e, kpos⟩] pos) f X.env (eval (.Call (.Name n p) [] [⟨some f, e, kpos⟩] pos) X.env) = eval (.Call (.Name n p) [] [⟨some f, e, kpos⟩] pos) X.env := by rfl) :
    PE X (.Attribute (.Call (.Name n p) [] [⟨some f, e, kpos⟩] pos) f pos2) te := by
  refine ⟨fun pins s σ H Q I h => attr_of hb ?_⟩
  refine wpAny_Call_Name_kw (ld_glob I hg T.gC ?_ hdb)
  refine PySem.W.callWith_KW0 (h₀ := X.base) I.ok.mod.kin T.kC (by rfl) (thn ((pk_cons he pk_nil).run pos pins s σ H (only Q) I h) fun us s1 ⟨vs, H1, I1, r1, q1⟩ => ⟨I1.kIn, ?_⟩) (by rfl)
  obtain ⟨v, u, rfl, rfl, rv, q⟩ := only_inv r1 q1
  show wpAny _ _ (call (.ref C) [] [(f, u)]) _ _ _
  refine made_at T hr I1 (.inr ⟨rfl, rfl⟩) fun h' tk a d M => ?_
  exact made_get T (s := { s1 with heap := h', toks := tk }) M rv (I1.kIn.keeps M.keep) ⟨v, H1, I1.kept (t' := tk + 1) M.keep, rv, q⟩
/-- n(e): an error, new, and its dict -/
theorem pe_err (T : ErrT X.K X.mg n f C fI) {k : Nat} (hr : Room k X.A) (he : PE X e te) (hg : Gl X n) (hdb : (n == ("__debug__" : Str)) = false := by decide)
    (hs : starEach [e] X.env = (false, eval e X.env) :: starEach [] X.env := by rfl) (hpl : (backTo pos (starEach [] X.env)).any (·.1) = false := by rfl) :
    PE X (.Call (.Name n p) [e] [] pos) (fun σ H Q => te σ H fun v H1 => ∀ a d, H1 a = none → H1 d = none → d ≠ a → Q (.ref a) (upd (upd H1 d (.xd [(f, v)])) a (exo a C (some d)))) := by
  refine ⟨fun pins s σ H Q I h => ?_⟩
  refine wpAny_Call_Name_kw (ld_glob I hg T.gC ?_ hdb)
  refine PySem.W.callWith_K (h₀ := X.base) I.ok.mod.kin T.kC (thn ((pa_cons he pa_nil (hs := hs)).run pos pins s σ H (only _) I h) fun us s1 ⟨vs, H1, I1, r1, q1⟩ => ⟨I1.kIn, ?_⟩) hs hpl
  obtain ⟨v, u, rfl, rfl, rv, q⟩ := only_inv r1 q1
  refine made_at T hr I1 (.inl ⟨rfl, rfl⟩) fun h' tk a d M => ?_
  obtain ⟨t, ho⟩ := M.obj
  have na : H1 a = none := I1.hok.fresh M.new
  have nd : H1 d = none := I1.hok.fresh M.dbig
  obtain ⟨hp, g, dr, t1, os⟩ := s1
  have U : Un X.fs [] H1 (upd (upd H1 d (.xd [(f, v)])) a (exo a C (some d))) hp h' := {
    keep := fun b o z n _ _ => M.keep b o z
    slot := fun b o z n _ _ => ⟨o.slots, M.keep b o z⟩
    free := fun b o z n _ => by rw [upd_ne (Nat.ne_of_lt (Nat.lt_of_lt_of_le (Heap.lt_size z) M.new)), upd_ne (Nat.ne_of_lt (Nat.lt_of_lt_of_le (Heap.lt_size z) M.dbig))]; exact n
    there := fun b o z _ => ⟨o, M.keep b o z⟩
    tups := fun b xs z => by rw [upd_ne (ne_of_none z na), upd_ne (ne_of_none z nd)]; exact z
    frzs := fun b o xs z => by rw [upd_ne (ne_of_none z na), upd_ne (ne_of_none z nd)]; exact z
    tbls := fun b ps z => ⟨#[], by rw [upd_ne (ne_of_none z na), upd_ne (ne_of_none z nd), z]; simp⟩ }
  refine ⟨.ref a, _, I1.un (t' := tk) U (fun b o z => ?_), rfl, q a d na nd M.dne⟩
  by_cases ea : b = a
  · subst ea
    rw [upd_same] at z
    cases z
    exact exo_ok ho
  · rw [upd_ne ea] at z
    by_cases ed : b = d
    · subst ed
      rw [upd_same] at z
      cases z
      exact ⟨_, M.ns, fun g => relO_one rv f g⟩
    · rw [upd_ne ed] at z
      exact (I1.hok b o z).stay (fun c v _ q => M.keep c v q) (fun c q => by rw [upd_ne (ne_of_none q na), upd_ne (ne_of_none q nd)]; exact q) fun c xs q => by rw [upd_ne (ne_of_none q na), upd_ne (ne_of_none q nd)]; exact q
/-- n(e), to be raised -/
theorem pmk_err (T : ErrT X.K X.mg n f C fI) {k : Nat} (hr : Room k X.A) (he : PE X e te) (hg : Gl X n) (hdb : (n == ("__debug__" : Str)) = false := by decide)
    (hs : starEach [e] X.env = (false, eval e X.env) :: starEach [] X.env := by rfl) (hpl : (backTo pos (starEach [] X.env)).any (·.1) = false := by rfl) :
    PMk X (.Call (.Name n p) [e] [] pos) (fun σ H Q => te σ H fun v H1 => ∀ d, H1 d = none → Q (.ref C) (some d) (upd H1 d (.xd [(f, v)]))) := by
  intro pins s σ H Q I h
  refine wpAny_Call_Name_kw (ld_glob I hg T.gC ?_ hdb)
  refine PySem.W.callWith_K (h₀ := X.base) I.ok.mod.kin T.kC (thn ((pa_cons he pa_nil (hs := hs)).run pos pins s σ H (only _) I h) fun us s1 ⟨vs, H1, I1, r1, q1⟩ => ⟨I1.kIn, ?_⟩) hs hpl
  obtain ⟨v, u, rfl, rfl, rv, q⟩ := only_inv r1 q1
  refine made_at T hr I1 (.inl ⟨rfl, rfl⟩) fun h' tk a d M => ?_
  obtain ⟨t, hoe⟩ := M.obj
  have hns := M.ns
  obtain ⟨hp, g, dr, t1, os⟩ := s1
  obtain ⟨G, g1, g2⟩ := restrict h' fun b => decide (b ≠ a)
  have gk : ∀ b, b ≠ a → G.get? b = h'.get? b := fun b hb => g1 b (decide_eq_true hb)
  have ge : G.get? a = none := g2 a (by simp)
  have old : ∀ b o, hp.get? b = some o → G.get? b = some o := fun b o q => (gk b (Nat.ne_of_lt (Nat.lt_of_lt_of_le (Heap.lt_size q) M.new))).trans (M.keep b o q)
  have ob : ObjOk X.prog X.w (upd H1 d (.xd [(f, v)])) G d (.xd [(f, v)]) := ⟨_, hns.at (fun o q => (gk d M.dne).trans q), fun z => relO_one rv f z⟩
  have J : Inv X pins σ (upd H1 d (.xd [(f, v)])) ⟨G, g, dr, tk, os⟩ := I1.laid (t' := tk) old M.dbig ob
  refine ⟨a, _, _, ⟨G, g, dr, tk, os⟩, _, .ref C, some d, rfl, J, fun b o q => ?_, ge, hoe, ⟨rfl, rfl⟩, rfl, rfl, ?_, rfl, I1.bare, raises_own T.exC T.tyC, q d (I1.hok.fresh M.dbig)⟩
  · by_cases hb : b = a
    · have q' : G.get? b = some o := q
      rw [hb, ge] at q'
      cases q'
    · exact (gk b hb).symm.trans q
  · rw [upd_ne (Ne.symm M.dne)]
    exact I1.hok.fresh M.new
end
end L2


set_option Elab.async false
set_option linter.all false
set_option maxRecDepth 100000
set_option maxHeartbeats 4000000
namespace L2
open PySem PySem.Spec PyProof.Rows EXC
/-! ### an error class without an __init__ of its own, called without arguments -/
structure Err0 (K : PySem.W.Frag) (mg : Str → Option Value) (n : Str) (C : Addr) : Prop where
  gC : mg n = some (.ref C)
  ini : PySem.W.excInitIn K C bmE "Exception.__new__" = true
  iC : PySem.W.findIn K (.ref C) "__init__" = some (some (.builtin "Exception.__init__"))
  kC : PySem.W.keepIn K (.ref C) = true
section
variable {X : Cx} {n : Str} {C : Addr} {p pos : Pos}
theorem pe_err0 (T : Err0 X.K X.mg n C) (hg : Gl X n) (hdb : (n == ("__debug__" : Str)) = false := by decide) :
    PE X (.Call (.Name n p) [] [] pos) (fun σ H Q => ∀ a, H a = none → Q (.ref a) (upd H a (exo a C none))) := by
  refine ⟨fun pins s σ H Q I h => ?_⟩
  refine wpAny_Call_Name_kw (ld_glob I hg T.gC ?_ hdb)
  refine PySem.W.callWith_KW0 (h₀ := X.base) (kws := []) I.ok.mod.kin T.kC (by rfl) (thn (pk_nil.run pos pins s σ H (fun vs H1 => vs = [] ∧ ∀ a, H1 a = none → Q (.ref a) (upd H1 a (exo a C none))) I ⟨rfl, h⟩) fun us s1 ⟨vs, H1, I1, r1, ev, q1⟩ => ⟨I1.kIn, ?_⟩) (by rfl)
  subst ev
  cases r1
  show wpAny _ _ (call (.ref C) [] []) _ _ _
  obtain ⟨nm, N, qn, bs, bm, hdct, sn, sub, ab, col, dd, k0, k1, k2, k3, k5, hC, hT⟩ := PySem.W.excInit_of I1.kIn T.ini
  obtain ⟨hp, g, dr, tk, os⟩ := s1
  have k : ∀ b o, hp.get? b = some o → ((hp.push (PySem.W.kdv_tup [])).push (fresh C hp.objs.size)).get? b = some o := fun b o e => Heap.get?_push_of_some _ (Heap.get?_push_of_some _ e)
  have hget : ((hp.push (PySem.W.kdv_tup [])).push (fresh C hp.objs.size)).get? (hp.objs.size + 1) = some (fresh C hp.objs.size) := by heap_get
  refine wpAny_call (call_kw (iv := .builtin "Exception.__init__") F.excBase_Exception hT hC (ca_e C [] []) (PySem.W.looks_findIn I1.kIn T.iC) (fun self => .of_pure (F.excBase_Exception.init.bind self)) (by rw [sizeLine_eq]; exact (by decide : 0 ≤ 16777216)) ?_)
  refine HandSPX.init_base F.excBase_Exception hT (k _ _ hC) hget (by rw [sizeLine_eq]; exact (by decide : 0 ≤ 16777216)) fun h' t1 k' hx => ?_
  have old : ∀ b o, hp.get? b = some o → h'.get? b = some o := fun b o e => k' b o (Nat.ne_of_lt (Nat.lt_succ_of_lt (Heap.lt_size e))) (k b o e)
  exact ⟨rfl, .ref (hp.objs.size + 1), _, I1.laid (t' := tk) (a := hp.objs.size + 1) (o := exo (hp.objs.size + 1) C none) old (Nat.le_succ _) (exo_ok hx), rfl, q1 _ (I1.hok.fresh (Nat.le_succ _))⟩
end
/-! ### isinstance -/
/-- an error of the class at D stands at a -/
def ErrAt (H : Hp) (a D : Addr) : Prop := H a = some (exo a D none) ∨ ∃ d fs, H a = some (exo a D (some d)) ∧ H d = some (.xd fs)
def rIsX (K : PySem.W.Frag) : List V → Hp → VK → Prop := fun xs H Q => ∃ (a D C : Addr) (b : Bool), xs = [.ref a, .ref C] ∧ ErrAt H a D ∧ ExcC K D ∧ PySem.W.kitOne K (.ref D) (.ref C) = some b ∧ Q (.bl b) H
theorem call_isX {X : Cx} : CallR X (.builtin "isinstance") (rIsX X.K) := by
  intro pins s σ H xs us Q I r h
  obtain ⟨a, D, C, b, rfl, hE, T, e, q⟩ := h
  obtain ⟨u1, u2, rfl, r1, r2⟩ := vals2 r
  cases (show u1 = Value.ref a from r1)
  cases (show u2 = Value.ref C from r2)
  have hcl : (PySem.W.clsIn X.K D).isSome = true := by
    obtain ⟨cd, hc, _⟩ := PySem.W.any_some T.hd
    rw [hc]
    rfl
  rcases hE with ha | ⟨d, fs, ha, hd⟩
  · obtain ⟨t, ho⟩ := exo_at I.hok ha
    exact PySem.W.kia_one (PySem.W.kitx_exc (od := none) hcl T.hg T.hk T.hs T.ha T.hn T.ht T.hm) I.kIn ⟨ho, rfl, rfl, trivial⟩ e (fun z => nomatch z) fun tk => ⟨.bl b, H, I.tok tk, rfl, q⟩
  · obtain ⟨t, ho⟩ := exo_at I.hok ha
    have hx : ObjOk X.prog X.w H s.heap d (.xd fs) := I.hok d _ hd
    obtain ⟨mA, ⟨od, es, ep, hod, _⟩, _⟩ := hx
    exact PySem.W.kia_one (PySem.W.kitx_exc (od := some od) hcl T.hg T.hk T.hs T.ha T.hn T.ht T.hm) I.kIn ⟨ho, rfl, rfl, hod⟩ e (fun z => nomatch z) fun tk => ⟨.bl b, H, I.tok tk, rfl, q⟩
/-! ### xs * k -/
theorem vals_rep {xs : List V} {us : List Value} (r : Vals xs us) : ∀ k : Nat, Vals (List.replicate k xs).flatten (List.replicate k us).flatten
  | 0 => .nil
  | k + 1 => by
    rw [List.replicate_succ, List.replicate_succ, List.flatten_cons, List.flatten_cons]
    exact r.append (vals_rep r k)
theorem op_mul_li {X : Cx} : OpR X (binaryOp .Mult) (fun x y H Q => ∃ a xs k, x = V.ref a ∧ y = V.int k ∧ SqL X.K H a xs ∧ 0 ≤ k ∧ xs.length * k.toNat ≤ 256 ∧ k ≤ 256 ∧ ∀ p, H p = none → Q (.ref p) (upd H p (.lst (List.replicate k.toNat xs).flatten))) := by
  intro pins s σ H x y v u Q I rx ry h
  obtain ⟨a, xs, k, rfl, rfl, hs, k0, kz, k2, q⟩ := h
  obtain rfl : v = Value.ref a := rx
  obtain ⟨tu, rfl⟩ : ∃ t, u = Value.int k t := ry
  obtain ⟨its, rv, ⟨⟨cls, dd, data, sl⟩, n, ho, hc, hdn, hd⟩, hlen⟩ := I.list hs
  have hc1 : cls = Value.type "list" := hc
  have hd1 : data = Data.seq its.toArray n := hd
  subst hc1 hd1
  have hm2 : its.length * k.toNat ≤ 256 := by
    rw [← rv.length]
    exact kz
  have hm : its.toArray.size * k.toNat ≤ 256 := by
    rw [List.size_toArray, ← rv.length]
    exact kz
  refine wpAny_binaryOp_repeat_ref (T := "list") (U := "int") (by decide) ⟨_, ho, rfl⟩ (fun s' => typeIs_int s' k tu) noFill_list_mul F.fills_int_mul F.slot_int_rmul repeat_list F.slot_int_index.lookup
    (call_meets F.slot_int_rmul (typeIs_int s k tu) F.entry_int_rmul (F.args_int_rmul_2 _ _) (lm_int_rmul_list_any k tu a its.toArray n dd sl)
      ⟨ho, rfl, ⟨_, ho, rfl⟩, call_meets F.slot_list_mul ⟨_, ho, rfl⟩ F.entry_list_mul (F.args_list_mul_2 _ _)
        (lm_list_mul_any a its.toArray n dd sl k tu (by simp [Builtin.List.listFitsIndex]; omega) (by omega) (by simp [Builtin.List.listTooLong, sizeLine]; omega)) ⟨ho, ?_⟩⟩)
  rw [listMul_foldl_if]
  have rr := vals_rep rv k.toNat
  have ll : (List.replicate k.toNat xs).flatten.length ≤ sizeLine := by
    rw [List.length_flatten, List.map_replicate, List.sum_replicate_nat, sizeLine_eq, Nat.mul_comm]
    omega
  exact ⟨.ref s.heap.objs.size, upd H s.heap.objs.size (.lst (List.replicate k.toNat xs).flatten), I.laid (t' := s.toks) (fun b o e => Heap.get?_push_of_some _ e) (Nat.le_refl _) ⟨ll, _, 0, rr, Heap.get?_push_size _ rfl⟩, rfl, q _ (I.hok.fresh (Nat.le_refl _))⟩
end L2


set_option Elab.async false
set_option linter.all false
set_option maxRecDepth 100000
set_option maxHeartbeats 4000000
namespace L2
open PySem PySem.Spec PyProof.Rows EXC
/-! ### several clauses «except x as n», n in slot i -/
abbrev Clause := Value × (Addr → Value → Option Addr → TS)
/-- the ends of a suite: n's slot is empty behind it -/
def clr (i : Nat) (D : Ends) : Ends := { nx := fun σ' H' => D.nx (σ'.set i none) H', rt := D.rt, bk := fun σ' H' => D.bk (σ'.set i none) H', ct := fun σ' H' => D.ct (σ'.set i none) H' }
def wManyA (K : PySem.W.Frag) (i : Nat) (Wout : WX) (D : Ends) : List Clause → WX
  | [] => Wout
  | (c, ts) :: r => fun cls d σ H => ∃ b, PySem.W.exmOne K cls c = some b ∧ (b = true → ∀ a, H a = none → ts a cls d (clr i D) (σ.set i (some (.ref a))) H) ∧ (b = false → wManyA K i Wout D r cls d σ H)
inductive HdsA (X : Cx) (n : Str) : List ExceptHandler → List Clause → Prop
  | nil : HdsA X n [] []
  | cons {x : Str} {c : Value} {ts : Addr → Value → Option Addr → TS} {b0 : Stmt} {suite : List Stmt} {np pos' : Pos} {hds : List ExceptHandler} {l : List Clause} (hc : Names X x c)
      (hsu : ∀ (a : Addr) (oe : Obj) (cls : Value) (d : Option Addr) (pn : List (Addr × Obj)), Zc cls d oe → (∃ vs, oe.data = .fields vs) → PSs (X.suite a ((a, oe) :: pn)) (b0 :: suite) (ts a cls d)) (r : HdsA X n hds l) :
      HdsA X n (.ExceptHandler (some (.Name x np)) (some n) (b0 :: suite) pos' :: hds) ((c, ts) :: l)
section
variable {X : Cx} {n : Str} {i : Nat} {body : List Stmt} {h0 : ExceptHandler} {hds : List ExceptHandler} {l : List Clause} {pos : Pos} {tb : WX → TS} {Wout : WX}
theorem ps_try_manyA (hs : X.stack = X.env :: X.outer) (hf : X.env.frame = some X.env.locals) (hN : X.N.Nodup) (hi : X.N[i]? = some n) (hln : X.env.kindOf n = some .local) (tk : Takes X Wout)
    (hb : ∀ (W : WX) (pn : List (Addr × Obj)) (xe : Value → Shared → Prop), Takes (X.tr pn xe) W → PassesOwn (model X.prog X.w) X.A X.env xe → PSs (X.tr pn xe) body (tb W))
    (hh : HdsA X n (h0 :: hds) l) : PS X (.Try body (h0 :: hds) [] [] pos) (fun D σ H => tb (wManyA X.K i Wout D l) D σ H) := by
  refine ⟨fun pins s σ H D I h => ?_⟩
  have ok := I.ok
  have loc : Loc X.env.scope n := .inl hln
  have frs0 : X.A.frames = some (X.env :: X.outer) := by rw [ok.frames, hs]
  refine wpAny_Try_except (wpAny_mono ((hb (wManyA X.K i Wout D l) (X.pn ++ pins) _ (fun u s' xx => ?_) PassesOwn.looking).run [] s σ H D (I.toTry _) h) (fun fl s1 q => ?_) (fun e s1 he => he))
  · obtain ⟨a, B, sI, pins', σ', H', cls, d, rfl, J', nb, up, sky, na, os, ag, wi⟩ := xx
    have J : Inv X pins σ' H' sI := J'.ofTry ok
    have sky1 : Sky B (X.env :: X.outer) a (Zc cls d) X.env.locals s'.heap := by
      rw [← hs]
      exact sky
    show wpAny (model X.prog X.w) X.A (noteFrame (.ref a) X.env) _ _ _
    refine Sky.land Zc.steady frs0 hf sky1 fun h3 fl3 up3 => ?_
    have J3 : Inv X pins σ' H' { s' with heap := h3 } := J.landed nb fl3.1 (up.trans up3) os ag
    obtain ⟨oe3, vs3, he3, hz3, hd3⟩ := fl3.there
    have nfr : a ∉ frs (X.env :: X.outer) := fun hm => by
      obtain ⟨_, o', e', hnf⟩ := fl3.2.2.1.mem hm
      rw [he3] at e'
      cases e'
      exact hnf _ hd3
    have nL : a ≠ X.env.locals := fun z => nfr (List.mem_filterMap.mpr ⟨X.env, List.mem_cons_self, by rw [hf, z]⟩)
    have nF : a ∉ X.fs := fun hm => by
      obtain ⟨e, he, q⟩ := List.mem_filterMap.mp hm
      exact nfr (List.mem_filterMap.mpr ⟨e, List.mem_cons_of_mem _ he, q⟩)
    have S3 := J3.suite he3 hd3 na nL nF
    have go : ∀ {hs2 : List ExceptHandler} {l2 : List Clause}, HdsA X n hs2 l2 → wManyA X.K i Wout D l2 cls d σ' H' → wpAny (model X.prog X.w) X.A (handleBy (.ref a) X.env hs2) (SP X pins D) X.xe { s' with heap := h3 } := by
      intro hs2 l2 hk
      induction hk with
      | nil =>
        intro wi
        refine wpAny_handleBy_nil ?_
        obtain ⟨_, _, _, oe, vs, T, oT, ts', he, hz, hd, h1, hr⟩ := id fl3
        unfold PySem.passOn
        refine wpAny_bind (wpAny_field he hd h1 ?_)
        rw [if_neg (show ¬ ((Value.ref T == Value.none) = true) from by simp)]
        have last : wpAny (model X.prog X.w) X.A (setFlight (.ref a) X.env.frame) (fun _ s4 => wpAny (model X.prog X.w) X.A (throw (.ref a) : Sem Flow) (SP X pins D) X.xe s4) X.xe { s' with heap := h3 } := by
          rw [hf]
          exact HandSPX.setFlight_upZ fl3 fun h4 hh4 up4 => wpAny_throw (tk _ _ ⟨a, B, sI, pins, σ', H', cls, d, rfl, J, nb, (up.trans up3).trans up4, .inr (.inr (by rw [hs]; exact hh4)), na, os, ag, wi⟩)
        first
          | exact wpAny_bind (wpAny_pure (wpAny_bind last))
          | exact wpAny_bind last
      | @cons x c ts b0 suite np pos' hds2 l2 hc hsu r ih =>
        intro wi
        obtain ⟨b, e1, yes, no⟩ := wi
        refine wpAny_handleBy_cons (codeAny_handlers_test ?_) (by intro q; cases q)
        have LT : PySem.W.Looks (model X.prog X.w) h3 (typeOf (.ref a)) cls := fun A Q E s k q => wpAny_typeOf_ref (k _ _ he3) (by rw [hz3.1]; exact q)
        have LM := PySem.W.exm_one (M := model X.prog X.w) (J3.kIn) LT e1
        have test : ∀ {Q : Value → Shared → Prop} {E : Value → Shared → Prop}, Q c { s' with heap := h3 } → wpAny (model X.prog X.w) (X.A.mark (some (.ref a))) (eval (.Name x np) X.env) Q E { s' with heap := h3 } := fun {Q E} q => by
          obtain ⟨hg, hdbg, hm | ⟨hm, hv, hnn⟩⟩ := hc
          · exact ld_glob (X := X.suite a ((a, oe3) :: (X.pn ++ pins))) S3 hg hm q hdbg
          · exact ld_blt (X := X.suite a ((a, oe3) :: (X.pn ++ pins))) S3 hg hm hv q hnn hdbg
        refine test (LM.here ?_)
        cases b with
        | false =>
          show wpAny _ X.A (handleBy (.ref a) X.env hds2) _ _ _
          exact ih (no rfl)
        | true =>
          refine codeAny_handlers_suite_as (HandSPX.lands_againZ fl3 fun h4 fl4 up4 => ?_)
          have J4 : Inv X pins σ' H' { s' with heap := h4 } := J.landed nb fl4.1 ((up.trans up3).trans up4) os ag
          obtain ⟨oe4, vs4, he4, hz4, hd4⟩ := fl4.there
          have S4 := J4.suite he4 hd4 na nL nF
          refine store_ok (X := X.suite a ((a, oe4) :: (X.pn ++ pins))) (v := .ref a) S4 hN hi loc rfl (fun s5 S5 => ?_) (.inr hln)
          refine wpAny_mono ((hsu a oe4 cls d (X.pn ++ pins) hz4 ⟨_, hd4⟩).run [] s5 _ H' _ S5 (yes rfl a na)) (fun fl s6 q => ?_) (fun _ _ z => False.elim z)
          have bye : ∀ {σ6 : St} {H6 : Hp} {Q : Shared → Prop}, Inv (X.suite a ((a, oe4) :: (X.pn ++ pins))) [] σ6 H6 s6 → (∀ s7, Inv X pins (σ6.set i none) H6 s7 → Q s7) →
              wpAny (model X.prog X.w) X.A (do bindName X.env n .none; unbindBehindTheSuite X.env n pos') (fun _ s7 => Q s7) X.xe s6 := fun {σ6 H6 Q} S6 hq => gone_ok (S6.unsuite ok) hN hi hln hq
          cases fl with
          | next => obtain ⟨σ6, H6, S6, q6⟩ := q; exact bye S6 fun s7 J7 => ⟨_, _, J7, q6⟩
          | brk => obtain ⟨σ6, H6, S6, q6⟩ := q; exact bye S6 fun s7 J7 => ⟨_, _, J7, q6⟩
          | cont => obtain ⟨σ6, H6, S6, q6⟩ := q; exact bye S6 fun s7 J7 => ⟨_, _, J7, q6⟩
          | ret u => obtain ⟨v6, σ6, H6, S6, r6, q6⟩ := q; exact bye S6 fun s7 J7 => ⟨_, _, _, J7, r6, q6⟩
    exact go hh wi
  · cases fl with
    | next => obtain ⟨σ', H', J', q'⟩ := q; exact wpAny_execs_nil ⟨σ', H', J'.ofTry ok, q'⟩
    | brk => obtain ⟨σ', H', J', q'⟩ := q; exact ⟨σ', H', J'.ofTry ok, q'⟩
    | cont => obtain ⟨σ', H', J', q'⟩ := q; exact ⟨σ', H', J'.ofTry ok, q'⟩
    | ret u => obtain ⟨v, σ', H', J', r, q'⟩ := q; exact ⟨v, σ', H', J'.ofTry ok, r, q'⟩
end
end L2


set_option Elab.async false
set_option linter.all false
set_option maxRecDepth 100000
set_option maxHeartbeats 4000000
/-! Sets of texts, with what a walk over them needs: add, sorted. -/
namespace STX
open PySem PySem.Spec PyProof.Rows L2 PySem.Froz
/-- the set at a holds just the texts l, each once; its table can be walked -/
def TxSet (P : Program) (w : World) (h : Heap) (a : Addr) (l : List Str) : Prop :=
  ∃ D : SD, h.get? a = some (sObj "set" D) ∧ TxOk P w D l ∧ l.Nodup ∧ Ris D.2.2.place.toList ∧ (w.params.followText "set-order" = true ∨ D.2.2.led = true)
def ins (k : Str) (l : List Str) : List Str := if k ∈ l then l else k :: l
section
variable {P : Program} {w : World} {A : Around} {E : Value → Shared → Prop} {s : Shared}
theorem tail_walk {ep : Nat} {es : Array (Int × Value)} {t : SetTable} {b : Bool} (r : Ris t.place.toList) (l : w.params.followText "set-order" = true ∨ t.led = true) :
    Ris (tailTx ep es t b).2.2.place.toList ∧ (w.params.followText "set-order" = true ∨ (tailTx ep es t b).2.2.led = true) := by
  unfold tailTx
  split
  · refine ⟨relayAll_ris t es _, l.imp id fun z => ?_⟩
    show (relayAll t es _).2.1.led = true
    rw [relayAll_led]
    exact z
  · exact ⟨r, l⟩
theorem add_walk {h : Int} {v : Value} {D : SD} (r : Ris D.2.2.place.toList) (l : w.params.followText "set-order" = true ∨ D.2.2.led = true) :
    Ris (addTx h v D).2.2.place.toList ∧ (w.params.followText "set-order" = true ∨ (addTx h v D).2.2.led = true) := by
  have r1 := layNew_ris D.2.2 D.1 h v r
  have l1 := layNew_led D.2.2 D.1 h v
  unfold addTx
  refine tail_walk ?_ ?_
  · split
    · exact r1
    · exact r1
  · refine l.imp id fun z => ?_
    split
    · show (layNew D.2.2 D.1 h v).2.1.led = true
      rw [l1]
      exact z
    · rw [l1]
      exact z
/-- a text that is there already -/
theorem add_there {a : Addr} {T : String} {D : SD} {l : List Str} {k : Str} {u : Tok} {Q : Bool → Shared → Prop} (ho : s.heap.get? a = some (sObj T D)) (F : TxOk P w D l) (hk : k ∈ l) (hb : l.length < scanBound)
    (go : Q false s) : wpAny (model P w) A (setAddHashed a (.str k u) (hashStr w k)) Q E s := by
  obtain ⟨es, ep, t⟩ := D
  have fit : t.fits es.size = true := F.fit
  have el : ElemsOf (strKind P w) es.toList := F.el
  have sz : es.size = l.length := F.sz
  obtain ⟨e0, m0, i0⟩ := (F.mem k).mp hk
  unfold setAddHashed setAddHashedIn
  refine wpAny_holding (wpAny_bind (wpAny_setState_of ho (show (sObj T (es, ep, t)).data = .set es ep t from rfl) fit ?_))
  dsimp only
  rw [byScan_of rfl (by omega) el]
  simp only [↓reduceIte]
  unfold setAddByScan
  refine wpAny_bind (wpAny_bind (wpAny_rule (wpAny_bind (wpAny_setScan_of (knd := strKind P w) (k := k) (is_str k u) ho rfl fit el ?_))))
  cases fi : List.findIdx? (fun e => (strKind P w).is k e.2) es.toList with
  | none =>
    have z := List.findIdx?_eq_none_iff.mp fi e0 m0
    rw [i0] at z
    cases z
  | some j =>
    dsimp only
    exact wpAny_pure (wpAny_pure go)
theorem TxSet.setOf {a : Addr} {l : List Str} {h : Heap} (R : TxSet P w h a l) (hb : l.length < scanBound) : h.SetOf (strKind P w) a (fun k => decide (k ∈ l)) l.length := by
  obtain ⟨⟨es, ep, t⟩, ho, F, _⟩ := R
  refine ⟨_, es, ep, t, ho, ⟨rfl, rfl, rfl⟩, rfl, F.el, fun k => ?_, ?_, F.fit, F.sz⟩
  · rw [decide_eq_true_eq]
    exact F.mem k
  · have z : es.size = l.length := F.sz
    omega
/-- found.add(k) -/
theorem tx_add {a : Addr} {l : List Str} {k : Str} {u : Tok} {Q : Value → Shared → Prop} (R : TxSet P w s.heap a l) (room : l.length + 1 < scanBound)
    (go : ∀ h', Heap.SameBut a s.heap h' → TxSet P w h' a (ins k l) → Q .none { s with heap := h', toks := s.toks + 1 }) : wpAny (model P w) A (call (.builtin "set.add") [.ref a, .str k u]) Q E s := by
  have so := R.setOf (by omega)
  obtain ⟨D, ho, F, nd, ri, le⟩ := id R
  refine wpAny_call_entry PySem.F.slot_set_add so.typeIs PySem.F.entry_set_add ?_ (PySem.F.args_set_add_2 (.ref a) (.str k u))
  unfold Builtin.«set.add» Builtin.Frozenset.oneOther
  simp only [List.isEmpty_nil, bind_assoc]
  unfold Builtin.Frozenset.addrOf setAdd
  refine wpAny_bind (wpAny_pure ?_)
  try dsimp only
  refine wpAny_bind (wpAny_pure ?_)
  try dsimp only
  refine wpAny_bind (wpAny_holding (wpAny_bind ((strKind P w).pyHash (is_str k u) ?_)))
  by_cases hk : k ∈ l
  · refine add_there (s := { s with toks := s.toks + 1 }) ho F hk (by omega) ?_
    show wpAny _ _ (ret Value.none) _ _ _
    refine wpAny_pure ⟨_, rfl, go s.heap (Heap.SameBut.refl a s.heap) ?_⟩
    unfold ins
    rw [if_pos hk]
    exact R
  · refine add_x (s := { s with toks := s.toks + 1 }) ho F hk room ?_
    show wpAny _ _ (ret Value.none) _ _ _
    obtain ⟨r2, l2⟩ := add_walk (w := w) (h := hashStr w k) (v := .str k u) ri le
    refine wpAny_pure ⟨_, rfl, go _ (Heap.SameBut.update s.heap a _) ?_⟩
    unfold ins
    rw [if_neg hk]
    exact ⟨_, Froz.get_upd _ ho rfl, add_ok u F, List.nodup_cons.mpr ⟨hk, nd⟩, r2, l2⟩
theorem tx_fresh {h : Heap} : TxSet P w (h.push { cls := .type "set", dict := none, data := .set #[] 0 (.fresh 0 0 (!w.params.followText "set-order")) }) h.objs.size [] := by
  refine ⟨(#[], 0, .fresh 0 0 (!w.params.followText "set-order")), Heap.get?_push_size _ rfl, TxOk.nil rfl, List.nodup_nil, List.Pairwise.nil, ?_⟩
  show _ ∨ (!w.params.followText "set-order") = true
  cases w.params.followText "set-order"
  · exact .inr rfl
  · exact .inl rfl
theorem strs_vals {es : List (Int × Value)} (el : ElemsOf (strKind P w) es) : ∀ {vs : List Value}, (∀ v ∈ vs, ∃ e ∈ es, v = e.2) → ∃ ks : List Str, StrsAre vs ks
  | [], _ => ⟨[], .nil⟩
  | v :: vs, h => by
    obtain ⟨e, he, rfl⟩ := h v List.mem_cons_self
    obtain ⟨⟨k, hk, _⟩, _⟩ := el e he
    obtain ⟨t, ht⟩ := Value.isStrOf_shape (show Value.isStrOf k e.2 = true from hk)
    obtain ⟨ks, hks⟩ := strs_vals el (vs := vs) fun u hu => h u (List.mem_cons_of_mem _ hu)
    rw [ht]
    exact ⟨k :: ks, .cons k t hks⟩
theorem perm_of_nodup : ∀ {l K : List Str}, l.Nodup → (∀ x ∈ l, x ∈ K) → K.length = l.length → K.Perm l
  | [], K, _, _, h => by
    have e : K = [] := List.length_eq_zero_iff.mp h
    rw [e]
  | a :: l, K, n, m, h => by
    obtain ⟨n1, n2⟩ := List.nodup_cons.mp n
    have ha : a ∈ K := m a List.mem_cons_self
    have pe := List.perm_cons_erase ha
    refine pe.trans (List.Perm.cons a (perm_of_nodup n2 (fun x hx => ?_) ?_))
    · have hne : x ≠ a := fun z => n1 (z ▸ hx)
      exact (List.mem_erase_of_ne hne).mpr (m x (List.mem_cons_of_mem _ hx))
    · have z := List.length_erase_of_mem ha
      rw [List.length_cons] at h
      omega
theorem strs_mem {x : Str} {t : Tok} : ∀ {vs : List Value} {ks : List Str}, StrsAre vs ks → Value.str x t ∈ vs → x ∈ ks
  | _, _, .nil, h => nomatch h
  | _, _, .cons k u r, h => by
    rcases List.mem_cons.mp h with e | h
    · injection e with e1 _
      rw [e1]
      exact List.mem_cons_self
    · exact List.mem_cons_of_mem _ (strs_mem r h)
theorem strs_len : ∀ {vs : List Value} {ks : List Str}, StrsAre vs ks → ks.length = vs.length
  | _, _, .nil => rfl
  | _, _, .cons _ _ r => congrArg Nat.succ (strs_len r)
/-- sorted(the set) -/
theorem tx_sorted {a : Addr} {l : List Str} {Q : Value → Shared → Prop} (R : TxSet P w s.heap a l) (hh : A.handled = none) (hb : l.length < 64)
    (go : ∀ s' p (out : Array Value) (c : Nat) (ks : List Str), (∀ b o, s.heap.get? b = some o → s'.heap.get? b = some o) → s'.gens = s.gens → s'.os = s.os → s.heap.objs.size ≤ p →
      s'.heap.get? p = some (seqObj "list" out c) → StrsAre out.toList ks → sortedS ks = true → ks.Perm l → Q (.ref p) s') : wpAny (model P w) A (call (.builtin "sorted") [.ref a]) Q E s := by
  obtain ⟨⟨es, ep, t⟩, ho, F, nd, ri, le⟩ := R
  have sz : es.size = l.length := F.sz
  refine Calls.call_function_entry kind_sorted plain_sorted entry_sorted (args_sorted1 _) ?_
  unfold Builtin.«sorted»
  refine wpAny_bind (m := checkCount "sorted" 1 1 _) (wpAny_pure ?_)
  refine wpAny_bind (collect_set (A := A.in1) hh ⟨_, ho, rfl, rfl⟩ F.fit (by rw [sz]; exact Nat.lt_trans hb (by decide)) ri le fun s1 vs k1 hz g1 o1 pm => ?_)
  obtain ⟨ks0, hks⟩ := strs_vals F.el (vs := vs) fun v hv => by
    obtain ⟨e, he, q⟩ := List.mem_map.mp (pm.mem_iff.mp hv)
    exact ⟨e, he, q.symm⟩
  have vl : vs.length = l.length := by rw [pm.length_eq, List.length_map, Array.length_toList, sz]
  have pk : ks0.Perm l := by
    refine perm_of_nodup nd (fun x hx => ?_) ((strs_len hks).trans vl)
    obtain ⟨e, he, q⟩ := (F.mem x).mp hx
    obtain ⟨u, hu⟩ := Value.isStrOf_shape (show Value.isStrOf x e.2 = true from q)
    exact strs_mem (t := u) hks (pm.mem_iff.mpr (List.mem_map.mpr ⟨e, he, hu⟩))
  refine wpAny_bind (wpAny_newList ?_ (by rw [vl, sizeLine_eq]; omega))
  have hoL : (s1.heap.push (seqObj "list" vs.toArray 0)).get? s1.heap.objs.size = some (seqObj "list" vs.toArray 0) := Heap.get?_push_size _ rfl
  refine wpAny_bind (wpAny_holding (wpAny_call_entry slot_list_sort ⟨_, hoL, rfl⟩ entry_list_sort (list_sort_treeK strKind_oneLt hoL hks.keysOf (fun v1 v2 rest e => keyKind_strs (by rw [← e]; exact hks)) (by rw [vl]; exact hb) fun st' a1 a2 => ⟨_, rfl, ?_⟩) (args_list_sort _)))
  obtain ⟨ss, h1, h2, h3⟩ := sorted_out_str hks a1 a2
  obtain ⟨c, hc⟩ := sortedHeap_at (vs := vs) (out := (arrOf st').map (·.2)) hoL
  refine wpAny_pure ⟨_, rfl, go _ s1.heap.objs.size _ c ss (fun b u e => ?_) g1 o1 hz hc h1 h3 (h2.trans pk)⟩
  have q := k1 b u e
  have hlt := Heap.lt_size q
  rw [sortedHeap_old (Nat.ne_of_lt hlt) (by rw [size_push']; exact Nat.lt_succ_of_lt hlt)]
  exact Heap.get?_push_of_some _ q
end
end STX


set_option Elab.async false
set_option linter.all false
set_option maxRecDepth 100000
set_option maxHeartbeats 4000000
namespace STX
open PySem PySem.Spec PyProof.Rows L2
/-! ### as tracked things -/
def TxO (P : Program) (w : World) (a : Addr) (l : List Str) : HO := .ext fun h => TxSet P w h a l
theorem TxSet.at {P : Program} {w : World} {h h' : Heap} {a : Addr} {l : List Str} (R : TxSet P w h a l) (k : ∀ o, h.get? a = some o → h'.get? a = some o) : TxSet P w h' a l := by
  obtain ⟨D, ho, r⟩ := R
  exact ⟨D, k _ ho, r⟩
theorem txo_new {P : Program} {w : World} {H : Hp} {h : Heap} {a : Addr} {l : List Str} (R : TxSet P w h a l) : ObjOk P w H h a (TxO P w a l) := by
  have ⟨D, ho, _⟩ := R
  exact ⟨R, ⟨_, ho⟩, fun h1 h2 p k => TxSet.at p k⟩
section
variable {X : Cx}
theorem txo_get {pins : List (Addr × Obj)} {σ : L2.St} {H : Hp} {s : Shared} {a : Addr} {l : List Str} (I : Inv X pins σ H s) (ha : H a = some (TxO X.prog X.w a l)) : TxSet X.prog X.w s.heap a l := (I.hok a _ ha).1
theorem txo_add {pins : List (Addr × Obj)} {σ : L2.St} {H : Hp} {s : Shared} {E : Value → Shared → Prop} {D : Addr} {l : List Str} {k : Str} {u : Value} {Q : Value → Shared → Prop} (I : Inv X pins σ H s) (hD : H D = some (TxO X.prog X.w D l)) (room : l.length + 1 < scanBound) (ru : RelV (.str k) u)
    (go : ∀ s', Inv X pins σ (upd H D (TxO X.prog X.w D (ins k l))) s' → Q .none s') : wpAny (model X.prog X.w) X.A (call (.builtin "set.add") [.ref D, u]) Q E s := by
  obtain ⟨t, rfl⟩ : ∃ t, u = Value.str k t := ru
  refine tx_add (txo_get I hD) room fun h' sb new => go _ ?_
  have he : ∃ u, h'.get? D = some u := by
    have ⟨_, ho, _⟩ := new
    exact ⟨_, ho⟩
  exact I.write (e := D) (t' := s.toks + 1) (by rw [hD]; trivial) (.inl rfl) (fun b u hb hu => (sb.2 b hb).trans hu) he (txo_new new)
/-- sorted(a set of texts) -/
def rSortedTx (P : Program) (w : World) : List V → Hp → VK → Prop := fun vs H Q => ∃ (a : Addr) (l : List Str), vs = [V.ref a] ∧ H a = some (TxO P w a l) ∧ l.length < 64 ∧
  ∀ (ys : List Str) (p : Addr), ys.Perm l → sortedS ys = true → H p = none → Q (.ref p) (upd H p (.lst (ys.map V.str)))
theorem cr_sortedTx (hc : X.calm = true) : CallR X (.builtin "sorted") (rSortedTx X.prog X.w) := by
  intro pins s σ H vs us Q I r h
  obtain ⟨a, l, rfl, ha, h64, q⟩ := h
  rw [Vals.ref1 r]
  refine tx_sorted (txo_get I ha) (I.ok.hd hc) h64 fun s' p out c ks k g o hp hg hi hs hm => ?_
  have hlen : (ks.map V.str).length ≤ sizeLine := by
    rw [List.length_map, hm.length_eq]
    exact small64 h64
  have hn : H p = none := I.hok.fresh hp
  exact ⟨.ref p, upd H p (.lst (ks.map V.str)), I.call' (ch := []) o (Un.laid k hp hn) (I.hok.laid k hp ⟨hlen, out.toList, c, vals_of_strs hi, hg⟩) (by rw [g]; exact I.bare) (fun _ z => nomatch z), rfl, q ks p hm hs hn⟩
end
/-! ### {elt for t0 in i0 for t1 in i1} -/
section
variable {prog : Program} {w : World} {A : Around} {R : Result → Shared → Prop} {s : Shared} {elt t0 i0 t1 i1 : Expr} {ifs0 ifs1 : List Expr} {scope : Scope} {pos : Pos} {it acc : Value} {env : Env}
abbrev sc2 (elt t0 i0 : Expr) (ifs0 : List Expr) (t1 i1 : Expr) (ifs1 : List Expr) (scope : Scope) (pos : Pos) : Expr := .SetComp elt [⟨t0, i0, ifs0, 0⟩, ⟨t1, i1, ifs1, 0⟩] scope pos
theorem turn_out : compTurn (sc2 elt t0 i0 ifs0 t1 i1 ifs1 scope pos) 0 it acc env = (do
      standAt i0.pos
      match ← pyNext it with
      | none => pure (.done .next)
      | some v =>
        letOwnedTupleGo t0 it v
        assign t0 env v
        let mut ok := true
        for c in ifs0 do
          if ok then ok ← isTrue c env (eval c env)
        if ok then
          let x ← eval i1 env
          standAt i1.pos
          let x ← foldedSetIterable i1 env x
          let _ ← runOwn (.compStart (sc2 elt t0 i0 ifs0 t1 i1 ifs1 scope pos) 1 (← holding [x] (pyIter x)) acc env) env
        again (.compLoop (sc2 elt t0 i0 ifs0 t1 i1 ifs1 scope pos) 0 it acc env)) := by rfl
theorem turn_in : compTurn (sc2 elt t0 i0 ifs0 t1 i1 ifs1 scope pos) 1 it acc env = (do
      standAt i1.pos
      match ← pyNext it with
      | none => pure (.done .next)
      | some v =>
        letOwnedTupleGo t1 it v
        assign t1 env v
        let mut ok := true
        for c in ifs1 do
          if ok then ok ← isTrue c env (eval c env)
        if ok then
          (do let v ← eval elt env; standAt elt.pos; let _ ← call (.builtin "set.add") [acc, v])
        again (.compLoop (sc2 elt t0 i0 ifs0 t1 i1 ifs1 scope pos) 1 it acc env)) := by rfl
abbrev tests (ifs : List Expr) (env : Env) : Sem Bool := forIn ifs true fun c r => if r = true then do let ok ← isTrue c env (eval c env); pure (ForInStep.yield ok) else pure (ForInStep.yield r)
abbrev nb (prog : Program) (w : World) (A : Around) (env : Env) (R : Result → Shared → Prop) : Value → Shared → Prop := notedBy (model prog w) A env fun e s' => R (.error e) s'
theorem loop_out (hs : ∀ x, foldedSetIterable i1 env x = pure x) (G : Nat → Shared → Prop)
    (turn : ∀ n s, G n s → wpAny (model prog w) A (pyNext it) (fun r s1 => match r with
      | none => R (.ok .next) s1
      | some v => wpAny (model prog w) A (letOwnedTupleGo t0 it v) (fun _ s2 => wpAny (model prog w) A (assign t0 env v) (fun _ s3 =>
          wpAny (model prog w) A (tests ifs0 env) (fun ok s4 =>
            if ok = true then wpAny (model prog w) A (eval i1 env) (fun x s5 => wpAny (model prog w) A (pyIter x) (fun it1 s6 =>
              codeAny (model prog w) A (.compStart (sc2 elt t0 i0 ifs0 t1 i1 ifs1 scope pos) 1 it1 acc env) (fun r s' => match r with
                | .ok _ => ∃ m, m < n ∧ G m s'
                | .error _ => False) s6) (nb prog w A env R) s5) (nb prog w A env R) s4
            else ∃ m, m < n ∧ G m s4) (nb prog w A env R) s3) (nb prog w A env R) s2) (nb prog w A env R) s1) (nb prog w A env R) s)
    (n : Nat) (h : G n s) : codeAny (model prog w) A (.compLoop (sc2 elt t0 i0 ifs0 t1 i1 ifs1 scope pos) 0 it acc env) R s := by
  refine codeAny_loop rfl G (fun n s hG => ?_) n h
  show wpAny _ A ((compTurn (sc2 elt t0 i0 ifs0 t1 i1 ifs1 scope pos) 0 it acc env).onRaise (fun x => do noteFrame x env; theTreesLotGoes x)) _ _ s
  refine wpAny_noted ?_
  rw [turn_out]
  refine wpAny_bind (wpAny_standAt (wpAny_bind (wpAny_mono (turn n s hG) (fun r s1 h1 => ?_) fun _ _ z => z)))
  cases r with
  | none => exact wpAny_pure h1
  | some v =>
    refine wpAny_bind (wpAny_mono h1 (fun _ s2 h2 => wpAny_bind (wpAny_mono h2 (fun _ s3 h3 => wpAny_bind (wpAny_mono h3 (fun ok s4 h4 => ?_) fun _ _ z => z)) fun _ _ z => z)) fun _ _ z => z)
    cases ok with
    | false => exact wpAny_pure ⟨rfl, h4⟩
    | true =>
      refine wpAny_bind (wpAny_mono h4 (fun x s5 h5 => ?_) fun _ _ z => z)
      refine wpAny_bind (wpAny_standAt (wpAny_bind (wpAny_of_eq (hs x) (wpAny_bind (wpAny_holding (wpAny_mono h5 (fun it1 s6 h6 => ?_) fun _ _ z => z))))))
      refine wpAny_bind (wpAny_runOwn ?_)
      rw [Around.mark_none]
      refine codeAny_mono h6 fun r s' hr => ?_
      cases r with
      | ok f =>
        first
          | exact wpAny_pure ⟨rfl, hr⟩
          | exact wpAny_bind (wpAny_pure (wpAny_pure ⟨rfl, hr⟩))
      | error e => exact hr.elim
theorem loop_in (G : Nat → Shared → Prop)
    (turn : ∀ n s, G n s → wpAny (model prog w) A (pyNext it) (fun r s1 => match r with
      | none => R (.ok .next) s1
      | some v => wpAny (model prog w) A (letOwnedTupleGo t1 it v) (fun _ s2 => wpAny (model prog w) A (assign t1 env v) (fun _ s3 =>
          wpAny (model prog w) A (tests ifs1 env) (fun ok s4 =>
            if ok = true then wpAny (model prog w) A (eval elt env) (fun x s5 => wpAny (model prog w) A (call (.builtin "set.add") [acc, x]) (fun _ s6 => ∃ m, m < n ∧ G m s6) (nb prog w A env R) s5) (nb prog w A env R) s4
            else ∃ m, m < n ∧ G m s4) (nb prog w A env R) s3) (nb prog w A env R) s2) (nb prog w A env R) s1) (nb prog w A env R) s)
    (n : Nat) (h : G n s) : codeAny (model prog w) A (.compLoop (sc2 elt t0 i0 ifs0 t1 i1 ifs1 scope pos) 1 it acc env) R s := by
  refine codeAny_loop rfl G (fun n s hG => ?_) n h
  show wpAny _ A ((compTurn (sc2 elt t0 i0 ifs0 t1 i1 ifs1 scope pos) 1 it acc env).onRaise (fun x => do noteFrame x env; theTreesLotGoes x)) _ _ s
  refine wpAny_noted ?_
  rw [turn_in]
  refine wpAny_bind (wpAny_standAt (wpAny_bind (wpAny_mono (turn n s hG) (fun r s1 h1 => ?_) fun _ _ z => z)))
  cases r with
  | none => exact wpAny_pure h1
  | some v =>
    refine wpAny_bind (wpAny_mono h1 (fun _ s2 h2 => wpAny_bind (wpAny_mono h2 (fun _ s3 h3 => wpAny_bind (wpAny_mono h3 (fun ok s4 h4 => ?_) fun _ _ z => z)) fun _ _ z => z)) fun _ _ z => z)
    cases ok with
    | false => exact wpAny_pure ⟨rfl, h4⟩
    | true => exact wpAny_bind (wpAny_bind (wpAny_mono h4 (fun x s5 h5 => wpAny_bind (wpAny_standAt (wpAny_bind (wpAny_mono h5 (fun _ s6 h6 => wpAny_pure (wpAny_pure ⟨rfl, h6⟩)) fun _ _ z => z)))) fun _ _ z => z))
theorem start_in (h0 : codeAny (model prog w) A (.compLoop (sc2 elt t0 i0 ifs0 t1 i1 ifs1 scope pos) 1 it acc env) R s)
    (h : wpAny (model prog w) A (pyIter it) (fun it' s' => codeAny (model prog w) A (.compLoop (sc2 elt t0 i0 ifs0 t1 i1 ifs1 scope pos) 1 it' acc env) R s') (nb prog w A env R) s) :
    codeAny (model prog w) A (.compStart (sc2 elt t0 i0 ifs0 t1 i1 ifs1 scope pos) 1 it acc env) R s := by
  refine codeAny_of_tree ?_
  show wpAny _ _ ((compStart (sc2 elt t0 i0 ifs0 t1 i1 ifs1 scope pos) 1 it acc env).onRaise (fun x => do noteFrame x env; standAt theWindowsPlace)) _ _ s
  refine wpAny_notedAt ?_
  unfold compStart
  show wpAny _ _ (ask >>= _) _ _ s
  refine wpAny_bind (wpAny_askSetting (wpAny_ite ?_))
  split
  · first
      | exact wpAny_bind (wpAny_pure (wpAny_pure (And.intro rfl h0)))
      | exact wpAny_pure (And.intro rfl h0)
  · first
      | exact wpAny_bind (wpAny_rule (wpAny_bind (wpAny_standAt (wpAny_bind (wpAny_mono h (fun it' s' z => wpAny_pure (And.intro rfl z)) fun _ _ x => x)))))
      | (refine wpAny_bind (wpAny_rule ?_); show wpAny _ _ (standAt i1.pos >>= _) _ _ s; exact wpAny_bind (wpAny_standAt (wpAny_bind (wpAny_mono h (fun it' s' z => wpAny_pure (And.intro rfl z)) fun _ _ x => x))))
end
section
variable {X : Cx}
/-- its reading: D the new set; behind the first clause's store the second source's own loop, from which Nx is reached -/
def tSc2 (P : Program) (w : World) (wi : TI) (g : TG) (tt : TT) (wi1 : TI) (g1 : TG) (tt1 : TT) (te : TE) (vs vs1 : List Nat) : TE := fun σ H Q => wi σ H fun J H1 => ∀ D, H1 D = none → ∃ W : Nat → Nat → Hp → Prop, (∃ m, W 0 m (upd H1 D (TxO P w D []))) ∧ ∀ i m H, W i m H →
  (J.stop i H ∧ Q (.ref D) H) ∨ (J.go i H ∧ ∃ Nx : Hp → Prop, (∀ H', Nx H' → ∃ m', m' < m ∧ W (i + 1) m' H') ∧ ∀ x H', J.yld i H x H' → g x (wipe σ vs) H' fun σ2 H2 => wipe σ2 vs = wipe σ vs ∧ tt σ2 H2 fun b H3 =>
    if b = true then wi1 σ2 H3 fun J1 H4 => ∃ W1 : Nat → Nat → Hp → Prop, (∃ m, W1 0 m H4) ∧ ∀ j k H, W1 j k H →
      (J1.stop j H ∧ Nx H) ∨ (J1.go j H ∧ ∃ Nx1 : Hp → Prop, (∀ H', Nx1 H' → ∃ k', k' < k ∧ W1 (j + 1) k' H') ∧ ∀ x H', J1.yld j H x H' → g1 x (wipe σ2 vs1) H' fun σ3 H5 => wipe σ3 vs1 = wipe σ2 vs1 ∧ tt1 σ3 H5 fun b H6 =>
        if b = true then te σ3 H6 fun y H7 => ∃ (k : Str) (l : List Str), y = .str k ∧ H7 D = some (TxO P w D l) ∧ l.length + 1 < scanBound ∧ Nx1 (upd H7 D (TxO P w D (ins k l))) else Nx1 H6)
    else Nx H3)
abbrev AllB (X : Cx) (scope : Scope) (F : Cx → Prop) : Prop := ∀ (s : Shared) (H : Hp) (C : Addr) (cl : List (Str × Addr)) (fp : List Addr), F (X.blk s H scope (compEnvC scope cl C X.env) fp)
theorem pe_sc2 {elt tg iter tg1 iter1 : Expr} {ifs ifs1 : List Expr} {scope : Scope} {own : List (Str × Nat)} {vs1 : List Nat} {pos : Pos} {wi wi1 : TI} {g g1 : TG} {tt tt1 : TT} {te : TE}
    (hc : X.calm = true) (hN : X.N.Nodup) (hi : PI X tg iter wi) (ok : BlkOk X.N X.env.scope scope own) (hv : ∀ i ∈ vs1, i ∈ own.map (·.2))
    (hg : AllB X scope fun Y => PG Y tg g) (ht : AllB X scope fun Y => PTs Y ifs tt) (hi1 : AllB X scope fun Y => PI Y tg1 iter1 wi1) (hg1 : AllB X scope fun Y => PG Y tg1 g1) (ht1 : AllB X scope fun Y => PTs Y ifs1 tt1) (he : AllB X scope fun Y => PE Y elt te)
    (hs : ∀ x, foldedSetIterable iter X.env x = pure x := by intro _; rfl) (hs1 : ∀ env x, foldedSetIterable iter1 env x = pure x := by intro _ _; rfl) :
    PE X (sc2 elt tg iter ifs tg1 iter1 ifs1 scope pos) (tSc2 X.prog X.w wi g tt wi1 g1 tt1 te (own.map (·.2)) vs1) := by
  refine ⟨fun pins s σ H Q I h => ?_⟩
  rw [PpSet.eval_SetComp]
  have cells : ∀ y ∈ scope.names, y.2 = .free → ∃ c, X.env.cells.lookup y.1 = some c := fun y hy e => (ok.free y hy e).elim (fun k => I.ok.has _ (.inl k)) fun k => I.ok.has _ (.inr k)
  refine wpAny_comprehension_free (use := none) rfl hs (closure_ok cells) ok.kind (fun y hy e => by rw [ok.uniq y hy, e]) (thn (hi.run pins s σ H _ I h) fun xv s1 hx => thn hx fun itv s2 z2 => ?_)
  obtain ⟨it, fp, tn, J, H2, e, I2, T, st2, f2, q⟩ := z2
  subst e
  refine PpSet.newSet_ok (newEnv_comp ?_)
  generalize eD : s2.heap.objs.size = D
  have nD : H2 D = none := I2.hok.fresh (Nat.le_of_eq eD)
  obtain ⟨W, ⟨m0, w0⟩, turn⟩ := q D nD
  generalize e3 : ({ s2 with heap := s2.heap.push { cls := .type "set", dict := none, data := .set #[] 0 (.fresh 0 0 (!X.w.params.followText "set-order")) } } : Shared) = s3
  have p3 : s3.heap = s2.heap.push { cls := .type "set", dict := none, data := .set #[] 0 (.fresh 0 0 (!X.w.params.followText "set-order")) } := by rw [← e3]
  have I3 : Inv X pins σ (upd H2 D (TxO X.prog X.w D [])) s3 := by
    rw [← e3]
    refine I2.laid (t' := s2.toks) (fun b o z => Heap.get?_push_of_some _ z) (Nat.le_of_eq eD) ?_
    rw [← eD]
    exact txo_new tx_fresh
  have f3 : ∀ b ∈ fp, FpOk X pins (upd H2 D (TxO X.prog X.w D [])) b ∧ b < s3.heap.objs.size := fun b hb => by
    obtain ⟨o, ho, _⟩ := T.obj _ _ st2 b hb
    have lt := Heap.lt_size ho
    refine ⟨⟨?_, (f2 b hb).2⟩, by rw [p3, Heap.size_push]; exact Nat.lt_succ_of_lt lt⟩
    rw [upd_ne (by rw [← eD]; exact Nat.ne_of_lt lt)]
    exact (f2 b hb).1
  have st3 : tn 0 s3.heap := T.keep _ _ _ st2 fun b _ o z => by rw [p3]; exact Heap.get?_push_of_some _ z
  have I4 := block_start I3 ok hN f3
  have a1 := hg s3 (upd H2 D (TxO X.prog X.w D [])) s3.heap.objs.size (cellsFrom (s3.heap.objs.size + 1) scope.names (cloFrom X.env.cells scope.names [])) fp
  have a2 := ht s3 (upd H2 D (TxO X.prog X.w D [])) s3.heap.objs.size (cellsFrom (s3.heap.objs.size + 1) scope.names (cloFrom X.env.cells scope.names [])) fp
  have a3 := he s3 (upd H2 D (TxO X.prog X.w D [])) s3.heap.objs.size (cellsFrom (s3.heap.objs.size + 1) scope.names (cloFrom X.env.cells scope.names [])) fp
  have a4 := hi1 s3 (upd H2 D (TxO X.prog X.w D [])) s3.heap.objs.size (cellsFrom (s3.heap.objs.size + 1) scope.names (cloFrom X.env.cells scope.names [])) fp
  have a5 := hg1 s3 (upd H2 D (TxO X.prog X.w D [])) s3.heap.objs.size (cellsFrom (s3.heap.objs.size + 1) scope.names (cloFrom X.env.cells scope.names [])) fp
  have a6 := ht1 s3 (upd H2 D (TxO X.prog X.w D [])) s3.heap.objs.size (cellsFrom (s3.heap.objs.size + 1) scope.names (cloFrom X.env.cells scope.names [])) fp
  have nfp : ∀ b ∈ fp, (upd H2 D (TxO X.prog X.w D [])) b = none := fun b hb => (f3 b hb).1.1
  show codeAny _ _ (.compStart (sc2 elt tg iter ifs tg1 iter1 ifs1 scope pos) 0 (.ref it) (.ref D) (compEnvC scope (cellsFrom (s3.heap.objs.size + 1) scope.names (cloFrom X.env.cells scope.names [])) s3.heap.objs.size X.env)) (compPost (model X.prog X.w) X.A X.xe none (EP X pins σ Q) (.ref D) s3.heap.objs.size) { s3 with heap := pushCells (s3.heap.push { cls := .type "dict", data := .dict #[] }) scope.names }
  generalize ece : compEnvC scope (cellsFrom (s3.heap.objs.size + 1) scope.names (cloFrom X.env.cells scope.names [])) s3.heap.objs.size X.env = ce at I4 a1 a2 a3 a4 a5 a6 ⊢
  have cL : ce.locals = s3.heap.objs.size := by
    subst ece
    rfl
  generalize upd H2 D (TxO X.prog X.w D []) = H3 at I3 I4 a1 a2 a3 a4 a5 a6 w0 nfp f3
  generalize e4 : ({ s3 with heap := pushCells (s3.heap.push { cls := .type "dict", data := .dict #[] }) scope.names } : Shared) = s4 at I4 ⊢
  have st4 : tn 0 s4.heap := T.keep _ _ _ st3 fun b _ o z => by rw [← e4]; exact pushCells_keeps _ _ _ _ (Heap.get?_push_of_some _ z)
  have hold : ∀ {σ' : L2.St} {H' : Hp} {s' : Shared}, Inv (X.blk s3 H3 scope ce fp) [] σ' H' s' → (∀ b ∈ fp, H' b = none) → ∀ b ∈ fp, FpOk (X.blk s3 H3 scope ce fp) [] H' b := fun {σ' H' s'} I' hn b hb =>
    ⟨hn b hb, (I'.ok.exf b hb).1, I'.ok.exfs b hb, .inl hb, fun x c z => (I'.ok.exf b hb).2 x c z, fun p hp => absurd (show p ∈ ([] : List (Addr × Obj)) ++ [] from hp) (by simp)⟩
  have main : codeAny (model X.prog X.w) X.A (.compLoop (sc2 elt tg iter ifs tg1 iter1 ifs1 scope pos) 0 (.ref it) (.ref D) ce) (compPost (model X.prog X.w) X.A X.xe none (EP X pins σ Q) (.ref D) s3.heap.objs.size) s4 := by
    refine loop_out (hs1 ce) (fun n s' => ∃ i H', Inv (X.blk s3 H3 scope ce fp) [] (wipe σ (own.map (·.2))) H' s' ∧ tn i s'.heap ∧ (∀ b ∈ fp, H' b = none) ∧ W i n H') ?_ m0 ⟨0, H3, I4, st4, nfp, w0⟩
    rintro n s5 ⟨i, H5, I5, st5, n5, w5⟩
    rcases turn i n H5 w5 with ⟨stop, qq⟩ | ⟨go, Nx, hNx, step⟩
    · refine thnF (T.done (X.blk s3 H3 scope ce fp) rfl rfl rfl hc i [] s5 _ H5 (fun _ _ => False) I5 (hold I5 n5) st5 stop) fun r s6 ⟨hr, I6⟩ => ?_
      subst hr
      have I7 : Inv X pins σ H5 s6 := I3.call' (ch := fp) I6.os I6.base I6.hok I6.bare fun b hb => ⟨(f3 b hb).1.2.2.2.1, (f3 b hb).1.2.1, (f3 b hb).1.2.2.2.2.1, (f3 b hb).1.2.2.2.2.2⟩
      have nC : H5 s3.heap.objs.size = none := by
        have z : H5 ce.locals = none := I6.free
        rw [cL] at z
        exact z
      obtain ⟨m, hn, _⟩ := I6.loc
      have hn : s6.heap.Ns ce.locals m := hn
      rw [cL] at hn
      obtain ⟨g0, g1', g2, g3, g4, g5⟩ := I3.fpOk (Nat.le_refl _) nC
      exact ⟨m, hn, fun h'' sb => ⟨.ref D, H5, I7.turned (t' := s6.toks) (fun b o hb z => (sb.2 b hb).trans z) g0 g1' g3 g4 g5, rfl, qq⟩⟩
    · refine thnF (T.item (X.blk s3 H3 scope ce fp) rfl rfl rfl hc i [] s5 _ H5 (fun _ _ => False) I5 (hold I5 n5) st5 go) fun r s6 ⟨u, hr, h6⟩ => ?_
      subst hr
      refine thnF h6 fun _ s7 ⟨x, H7, I7, r7, y7, st7, n7⟩ => ?_
      refine thnF (a1.run _ s7 _ H7 x u _ (I7.pinned (hold I7 n7) (T.obj _ _ st7)) r7 (step x H7 y7)) fun _ s8 ⟨σ8, H8, I8, hw8, q8⟩ => ?_
      refine thnF (a2.run _ s8 σ8 H8 _ I8 q8) fun b s9 ⟨H9, I9, q9⟩ => ?_
      have back : ∀ {σ9 : L2.St} {s' : Shared} {H' : Hp}, Inv (X.blk s3 H3 scope ce fp) ([] ++ pinsAt fp s7.heap) σ9 H' s' → (wipe σ (own.map (·.2))).length = σ9.length → (∀ (j : Nat) v, (wipe σ (own.map (·.2)))[j]? = some (some v) → σ9[j]? = some (some v)) → Nx H' →
          ∃ m, m < n ∧ ∃ i H', Inv (X.blk s3 H3 scope ce fp) [] (wipe σ (own.map (·.2))) H' s' ∧ tn i s'.heap ∧ (∀ b ∈ fp, H' b = none) ∧ W i m H' := fun {σ9 s' H'} I' hl hk nx => by
        obtain ⟨m', hm, w'⟩ := hNx H' nx
        have pin' : ∀ b ∈ fp, ∀ o, s7.heap.get? b = some o → s'.heap.get? b = some o ∧ H' b = none := fun b hb o z =>
          ⟨(I'.pin (b, o) (List.mem_append_right _ (List.mem_append_right _ (mem_pinsAt hb z)))).1, (I'.pin (b, o) (List.mem_append_right _ (List.mem_append_right _ (mem_pinsAt hb z)))).2.1⟩
        refine ⟨m', hm, i + 1, H', (I'.unpinned (pins := [])).weak hl hk, T.keep _ _ _ st7 fun b hb o z => (pin' b hb o z).1, fun b hb => ?_, w'⟩
        obtain ⟨o, z, _⟩ := T.obj _ _ st7 b hb
        exact (pin' b hb o z).2
      have l8 : (wipe σ (own.map (·.2))).length = σ8.length := by rw [← hw8, wipe_length]
      have k8 : ∀ (j : Nat) v, (wipe σ (own.map (·.2)))[j]? = some (some v) → σ8[j]? = some (some v) ∧ j ∉ own.map (·.2) := fun j v z => by
        rw [← hw8] at z
        exact wipe_some z
      cases b with
      | false =>
        simp only [Bool.false_eq_true, if_false] at q9 ⊢
        exact back I9 l8 (fun j v z => (k8 j v z).1) q9
      | true =>
        simp only [if_true] at q9 ⊢
        refine thnF (a4.run _ s9 σ8 H9 _ I9 q9) fun xv s10 hx => thnF hx fun itv s11 z11 => ?_
        obtain ⟨it1, fp1, tn1, J1, H11, e11, I11, T1, st11, f11, W1, ⟨m1, w1⟩, turn1⟩ := z11
        subst e11
        have hold1 : ∀ {H' : Hp}, (∀ b ∈ fp1, H' b = none) → ∀ b ∈ fp1, FpOk (X.blk s3 H3 scope ce fp) ([] ++ pinsAt fp s7.heap) H' b := fun hn b hb => ⟨hn b hb, (f11 b hb).2⟩
        have inner : codeAny (model X.prog X.w) X.A (.compLoop (sc2 elt tg iter ifs tg1 iter1 ifs1 scope pos) 1 (.ref it1) (.ref D) ce)
            (fun r s' => match r with
              | .ok _ => ∃ m, m < n ∧ ∃ i H', Inv (X.blk s3 H3 scope ce fp) [] (wipe σ (own.map (·.2))) H' s' ∧ tn i s'.heap ∧ (∀ b ∈ fp, H' b = none) ∧ W i m H'
              | .error _ => False) s11 := by
          refine loop_in (fun k s' => ∃ j H', Inv (X.blk s3 H3 scope ce fp) ([] ++ pinsAt fp s7.heap) (wipe σ8 vs1) H' s' ∧ tn1 j s'.heap ∧ (∀ b ∈ fp1, H' b = none) ∧ W1 j k H') ?_ m1 ⟨0, H11, I11.weak (wipe_length _ _) (fun j v z => (wipe_some z).1), st11, fun b hb => (f11 b hb).1, w1⟩
          rintro k s12 ⟨j, H12, I12, st12, n12, w12⟩
          rcases turn1 j k H12 w12 with ⟨stop1, nx1⟩ | ⟨go1, Nx1, hNx1, step1⟩
          · refine thnF (T1.done (X.blk s3 H3 scope ce fp) rfl rfl rfl hc j _ s12 (wipe σ8 vs1) H12 (fun _ _ => False) I12 (hold1 n12) st12 stop1) fun r s13 ⟨hr, I13⟩ => ?_
            subst hr
            refine back I13 (l8.trans (wipe_length σ8 vs1).symm) (fun j v z => ?_) nx1
            rw [wipe_out fun y => (k8 j v z).2 (hv j y)]
            exact (k8 j v z).1
          · refine thnF (T1.item (X.blk s3 H3 scope ce fp) rfl rfl rfl hc j _ s12 (wipe σ8 vs1) H12 (fun _ _ => False) I12 (hold1 n12) st12 go1) fun r s13 ⟨u1, hr, h13⟩ => ?_
            subst hr
            refine thnF h13 fun _ s14 ⟨x1, H14, I14, r14, y14, st14, n14⟩ => ?_
            refine thnF (a5.run _ s14 (wipe σ8 vs1) H14 x1 u1 _ (I14.pinned (hold1 n14) (T1.obj _ _ st14)) r14 (step1 x1 H14 y14)) fun _ s15 ⟨σ15, H15, I15, hw15, q15⟩ => ?_
            refine thnF (a6.run _ s15 σ15 H15 _ I15 q15) fun b1 s16 ⟨H16, I16, q16⟩ => ?_
            have back1 : ∀ {s' : Shared} {H' : Hp}, Inv (X.blk s3 H3 scope ce fp) (([] ++ pinsAt fp s7.heap) ++ pinsAt fp1 s14.heap) σ15 H' s' → Nx1 H' → ∃ m, m < k ∧ ∃ j H', Inv (X.blk s3 H3 scope ce fp) ([] ++ pinsAt fp s7.heap) (wipe σ8 vs1) H' s' ∧ tn1 j s'.heap ∧ (∀ b ∈ fp1, H' b = none) ∧ W1 j m H' := fun {s' H'} I' nx => by
              obtain ⟨m', hm, w'⟩ := hNx1 H' nx
              have pin' : ∀ b ∈ fp1, ∀ o, s14.heap.get? b = some o → s'.heap.get? b = some o ∧ H' b = none := fun b hb o z =>
                ⟨(I'.pin (b, o) (List.mem_append_right _ (List.mem_append_right _ (mem_pinsAt hb z)))).1, (I'.pin (b, o) (List.mem_append_right _ (List.mem_append_right _ (mem_pinsAt hb z)))).2.1⟩
              refine ⟨m', hm, j + 1, H', I'.unpinned.weak (by rw [← hw15, wipe_length]) (fun j v z => by rw [← hw15] at z; exact (wipe_some z).1), T1.keep _ _ _ st14 fun b hb o z => (pin' b hb o z).1, fun b hb => ?_, w'⟩
              obtain ⟨o, z, _⟩ := T1.obj _ _ st14 b hb
              exact (pin' b hb o z).2
            cases b1 with
            | false =>
              simp only [Bool.false_eq_true, if_false] at q16 ⊢
              exact back1 I16 q16
            | true =>
              simp only [if_true] at q16 ⊢
              refine thnF (a3.run _ s16 σ15 H16 _ I16 q16) fun z s17 ⟨yv, H17, I17, r17, kk, ll, ey, hD17, hz17, nx⟩ => ?_
              subst ey
              exact txo_add (X := X.blk s3 H3 scope ce fp) I17 hD17 hz17 r17 fun s18 I18 => back1 I18 nx
        exact start_in inner (T1.self X.A 0 _ _ _ st11 inner)
  exact PpSet.codeAny_compStart_set main (T.self X.A 0 _ _ _ st4 main)
end
end STX


set_option Elab.async false
set_option linter.all false
set_option maxRecDepth 100000
set_option maxHeartbeats 4000000
namespace PG
open PySem L2
def top (i : Nat) : Stmt := PySem.Challenge.pw_countededges_k47_whole_ways_doubled_and.main.body.getD i (.Pass ⟨0, 0, 0, 0⟩)
abbrev sWord : Stmt := top 11
abbrev sAmong : Stmt := top 12
abbrev sLink : Stmt := top 13
abbrev sWays : Stmt := top 14
abbrev sExits : Stmt := top 15
abbrev sReach : Stmt := top 16
/-- the module's and built-in names that these defs read -/
structure PT0 (mg : Str → Option Value) : Prop where
  isi : mg "isinstance" = none
  str : mg "str" = none
  len : mg "len" = none
  all : mg "all" = none
  tuple : mg "tuple" = none
  dict : mg "dict" = none
  list : mg "list" = none
  set : mg "set" = none
  sorted : mg "sorted" = none
  letters : ∃ t, mg "LETTERS" = some (.str "abcdefghijklmnopqrstuvwxyz" t)
  mostL : ∃ t, mg "MOST_LETTERS" = some (.int 8 t)
  mostW : ∃ t, mg "MOST_WAYS" = some (.int 40 t)
theorem PE.or {X : Cx} {e : Expr} {t1 t2 : TE} (h1 : PE X e t1) (h2 : PE X e t2) : PE X e (fun σ H Q => t1 σ H Q ∨ t2 σ H Q) := ⟨fun pins s σ H Q I h => h.elim (h1.run pins s σ H Q I) (h2.run pins s σ H Q I)⟩
theorem sm {H : Hp} {p : Addr} {o : HO} (np : H p = none) : Same H (upd H p o) := fun b u e => by
  rw [upd_ne (ne_of_none e np)]
  exact e
theorem iteB {b : Bool} {A B : Prop} (h1 : b = true → A) (h2 : b = false → B) : if b = true then A else B := by
  cases b with
  | true => rw [if_pos rfl]; exact h1 rfl
  | false => rw [if_neg Bool.false_ne_true]; exact h2 rfl
/-! ### words -/
def alpha : Str := "abcdefghijklmnopqrstuvwxyz"
def isWord (x : Str) : Bool := decide (1 ≤ x.length) && (decide (x.length ≤ 8) && x.cps.toList.all fun c => decide (c ∈ alpha.cps.toList))
def wordV : V → Bool
  | .str x => isWord x
  | _ => false
/-- a text of a known size, or what is no text -/
inductive TxtOr (K : PySem.W.Frag) (H : Hp) : V → Prop where
  | str {x : Str} (h : x.length ≤ 1000) : TxtOr K H (.str x)
  | no {v : V} {t : Value} (h : TyX K H v t) (k : PySem.W.kitOne K t (.type "str") = some false) (n : ∀ x, v ≠ .str x) : TxtOr K H v
section
variable {P : Program} {w : World} {K : PySem.W.Frag} {mg : Str → Option Value} {base : Heap}
theorem scWord : FnScope ["value", "letter"] ["value"] (defScope sWord) := ⟨rfl, rfl, rfl, by decide +kernel, rfl, by decide +kernel, by decide +kernel⟩
def spWord (K : PySem.W.Frag) : Sp := fun vs H Q _ => ∃ v, vs = [v] ∧ TxtOr K H v ∧ ∀ H', Same H H' → Q (.bl (wordV v)) H'
theorem ok_word {f : Addr} {fd : FuncData} (F : Fun K "is_word" "is_word" sWord f fd) (T : PT0 mg) : FnOk P w K mg base CX0 1 f fd ["value"] (spWord K) := by
  refine F.ok scWord (fun vs H Q E h => ?_) (fun cdv A outer s H vs Q E hr h => ?_)
  · obtain ⟨v, rfl, _⟩ := h
    rfl
  · obtain ⟨v, rfl, hT, k⟩ := h
    obtain ⟨tl, gl⟩ := T.letters
    obtain ⟨tm, gm⟩ := T.mostL
    refine ⟨_, pss_cons (ps_if (PW.pt (pw_or (pt_not (pt_val (pe_callB call_isi (by rfl) T.isi PyProof.Rows.boot_isinstance (pa_cons (pv 0) (pa_cons (pe_bltn (v := .ty "str") rfl T.str (by decide +kernel) rfl) pa_nil)))))
        (pw_or1 (pt_not (pt_chain op_le op_le pe_int (pe_callB call_len_str (by rfl) T.len PySem.boot_len (pa_cons (pv 0) pa_nil)) (pe_glob (v := .int 8) rfl gm ⟨_, rfl⟩)))))) (pss_one (ps_ret pe_bl)) pss_nil)
      (pss_one (ps_ret (pe_callB (cr_all rfl) (by rfl) T.all PyProof.Rows.boot_all (pa_cons (pe_lc (own := [("letter", 1)]) (g := gName 1) (tt := tYes) rfl scWord.nd (pi_str (pv 0)) (blkOk_by (own := [("letter", 1)]) (N := ["value", "letter"]) (sc := defScope sWord) (by decide +kernel)) (fun _ _ _ _ _ => pg_name (i := 1) scWord.nd rfl (Or.inl rfl)) (fun _ _ _ _ _ => pts_nil)
        (fun _ _ _ _ _ => pe_cmpR op_in_sign (pv 1) (pe_glob (v := .str "abcdefghijklmnopqrstuvwxyz") rfl gl ⟨_, rfl⟩) rfl)) pa_nil)))), ?_⟩
    cases hT with
    | no ht hk hn =>
      refine ⟨_, rfl, v, .ty "str", _, _, false, rfl, .ty "str", ht, hk, _, rfl, iteT (iteT ?_)⟩
      have e : wordV v = false := by
        cases v with
        | str x => exact absurd rfl (hn x)
        | _ => rfl
      rw [← e]
      exact k H (Same.refl H)
    | @str x hx =>
      refine ⟨_, rfl, .str x, .ty "str", _, _, true, rfl, .ty "str", .base (.str x), kit_ty (by decide +kernel), _, rfl, iteF ?_⟩
      have sz : x.length ≤ sizeLine := Nat.le_trans hx (by decide)
      refine ⟨_, rfl, x, rfl, sz, _, _, rfl, rfl, _, rfl, ?_⟩
      have ew : wordV (.str x) = isWord x := rfl
      rw [ew] at k
      refine ite2 (fun h1 => ?_) (fun h1 => ?_)
      · have h1' : 1 ≤ x.length := by have := of_decide_eq_true h1; omega
        refine ⟨_, _, rfl, rfl, _, rfl, iteB (fun h8 => ?_) (fun h8 => ?_)⟩
        · have h8' : ¬ x.length ≤ 8 := by
            have z : (!decide ((x.length : Int) ≤ 8)) = true := h8
            simp only [Bool.not_eq_true', decide_eq_false_iff_not] at z
            omega
          have e : isWord x = false := by unfold isWord; rw [decide_eq_false h8', Bool.false_and, Bool.and_false]
          rw [← e]
          exact k H (Same.refl H)
        · have h8' : x.length ≤ 8 := by
            have z : (!decide ((x.length : Int) ≤ 8)) = false := h8
            simp only [Bool.not_eq_false', decide_eq_true_eq] at z
            omega
          refine ⟨_, rfl, x, rfl, fun D nD => lc_it walk_str (fun i H' => H' = upd H D (.lst (((x.cps.toList.take i).map fun c => decide (c ∈ alpha.cps.toList)).map V.bl))) rfl (fun _ _ _ _ => trivial) ?_ ?_⟩
          · rintro i y H1 H2 hi rfl ⟨rfl, c, hc, rfl⟩
            refine ⟨rfl, ?_⟩
            unfold tYes
            dsimp only
            rw [if_pos rfl]
            refine ⟨_, rfl, c, _, rfl, rfl, _, upd_same, ?_, ?_⟩
            · rw [List.length_map, List.length_map]
              refine small1000 (Nat.le_trans (List.length_take_le _ _) ?_)
              have : i < x.length := hi
              omega
            · rw [upd_upd]
              have ec : x.cps.toList[i]? = some c := by rw [Array.getElem?_toList]; exact hc
              rw [List.take_add_one, ec, List.map_append, List.map_append]
              rfl
          · rintro H1 rfl
            have et : x.cps.toList.take x.cps.size = x.cps.toList := by rw [← Array.length_toList, List.take_length]
            rw [et]
            refine ⟨D, _, rfl, SqL.of upd_same, ?_⟩
            have e : isWord x = ((x.cps.toList.map fun c => decide (c ∈ alpha.cps.toList)).all id) := by
              unfold isWord
              rw [decide_eq_true h1', decide_eq_true h8', List.all_map]
              rfl
            rw [← e]
            exact k _ (sm nD)
      · have h1' : ¬ 1 ≤ x.length := fun z => h1 (decide_eq_true (by omega))
        have e : isWord x = false := by unfold isWord; rw [decide_eq_false h1', Bool.false_and]
        refine ⟨_, rfl, iteT ?_⟩
        rw [← e]
        exact k H (Same.refl H)
end
end PG


set_option Elab.async false
set_option linter.all false
set_option maxRecDepth 100000
set_option maxHeartbeats 4000000
namespace PG
open PySem L2
theorem TyX.same {K : PySem.W.Frag} {H H' : Hp} {v : V} {t : Value} (h : TyX K H v t) (s : Same H H') : TyX K H' v t := by
  cases h with
  | base b =>
    refine .base ?_
    cases b with
    | non => exact .non
    | bl x => exact .bl x
    | int i => exact .int i
    | str x => exact .str x
    | flt x => exact .flt x
    | lst e => exact .lst (s _ _ e)
    | frz e => exact .frz (s _ _ e)
    | tup e => exact .tup (s _ _ e)
    | dK e => exact .dK (s _ _ e)
    | dT e => exact .dT (s _ _ e)
    | ins e a b c d f => exact .ins (s _ _ e) a b c d f
  | byt b => exact .byt b
  | set e => exact .set (s _ _ e)
  | kList e c => exact .kList e c
  | kTuple e c => exact .kTuple e c
  | kDict e c => exact .kDict e c
  | fTuple e => exact .fTuple (s _ _ e)
  | fDict e => exact .fDict (s _ _ e)
theorem TxtOr.same {K : PySem.W.Frag} {H H' : Hp} {v : V} (h : TxtOr K H v) (s : Same H H') : TxtOr K H' v := by
  cases h with
  | str h => exact .str h
  | no h k n => exact .no (TyX.same h s) k n
theorem sqT_same {K : PySem.W.Frag} {H H' : Hp} {a : Addr} {xs : List V} (h : SqT K H a xs) (s : Same H H') : SqT K H' a xs := by
  rcases h with (h | ⟨o, h⟩) | h
  · exact .inl (.inl (s _ _ h))
  · exact .inl (.inr ⟨o, s _ _ h⟩)
  · exact .inr h
theorem inV_strs (x : Str) : ∀ ws : List Str, inV (.str x) (ws.map V.str) = decide (x ∈ ws)
  | [] => rfl
  | y :: ws => by
    show (eqV (.str y) (.str x) || inV (.str x) (ws.map V.str)) = _
    rw [inV_strs x ws]
    show (y == x || _) = _
    by_cases h : x = y
    · subst h
      rw [beq_self_eq_true, Bool.true_or, decide_eq_true List.mem_cons_self]
    · have h2 : (y == x) = false := beq_eq_false_iff_ne.mpr fun z => h z.symm
      rw [h2, Bool.false_or]
      by_cases hm : x ∈ ws
      · rw [decide_eq_true hm, decide_eq_true (List.mem_cons_of_mem _ hm)]
      · rw [decide_eq_false hm, decide_eq_false fun z => (List.mem_cons.mp z).elim h hm]
theorem flat_strs : ∀ ws : List Str, (ws.map V.str).all flatV = true
  | [] => rfl
  | _ :: ws => flat_strs ws
section
variable {P : Program} {w : World} {K : PySem.W.Frag} {mg : Str → Option Value} {base : Heap}
theorem scAmong : FnScope ["value", "words"] ["value", "words"] (defScope sAmong) := ⟨rfl, rfl, rfl, by decide +kernel, rfl, by decide +kernel, by decide +kernel⟩
/-- is_among: of a list of texts, of a dict, or of what is no text -/
def spAmong (K : PySem.W.Frag) : Sp := fun vs H Q _ => ∃ (v : V) (a : Addr), vs = [v, .ref a] ∧
  ((∃ (x : Str) (ws : List Str), v = .str x ∧ SqL K H a (ws.map V.str) ∧ Q (.bl (decide (x ∈ ws))) H) ∨
   (∃ (x : Str) (kvs : List (Key × V)), v = .str x ∧ Rd H a (.dK kvs) ∧ Q (.bl (valV kvs (Sum.inr x : Key)).isSome) H) ∨
   (∃ t, TyX K H v t ∧ PySem.W.kitOne K t (.type "str") = some false ∧ Q (.bl false) H))
theorem ok_among {f : Addr} {fd : FuncData} (F : Fun K "is_among" "is_among" sAmong f fd) (T : PT0 mg) : FnOk P w K mg base CX0 1 f fd ["value", "words"] (spAmong K) := by
  refine F.ok scAmong (fun vs H Q E h => ?_) (fun cdv A outer s H vs Q E hr h => ?_)
  · obtain ⟨v, a, rfl, _⟩ := h
    rfl
  · obtain ⟨v, a, rfl, h⟩ := h
    refine ⟨_, pss_one (ps_ret (pe_and (pe_callB call_isi (by rfl) T.isi PyProof.Rows.boot_isinstance (pa_cons (pv 0) (pa_cons (pe_bltn (v := .ty "str") rfl T.str (by decide +kernel) rfl) pa_nil)))
      (pe_one (PE.or (pe_cmpR op_in_seq (pv 0) (pv 1) rfl) (pe_cmp (pc_din (hu_of hr) (pv 0) (pv 1)) rfl))))), ?_⟩
    rcases h with ⟨x, ws, rfl, hS, q⟩ | ⟨x, kvs, rfl, hd, q⟩ | ⟨t, ht, hk, q⟩
    · refine ⟨_, rfl, .str x, .ty "str", _, _, true, rfl, .ty "str", .base (.str x), kit_ty (by decide +kernel), true, rfl, iteT (.inl ⟨_, rfl, _, rfl, a, _, rfl, .inl hS, rfl, flat_strs ws, ?_⟩)⟩
      rw [inV_strs]
      exact q
    · refine ⟨_, rfl, .str x, .ty "str", _, _, true, rfl, .ty "str", .base (.str x), kit_ty (by decide +kernel), true, rfl, iteT (.inr ⟨_, rfl, _, rfl, a, _, rfl, .inl ⟨kvs, Sum.inr x, hd, rfl, rfl⟩, q⟩)⟩
    · exact ⟨_, rfl, v, .ty "str", _, _, false, rfl, .ty "str", ht, hk, false, rfl, iteF q⟩
/-! ### links -/
/-- what is_link says of a value -/
inductive LinkIs (K : PySem.W.Frag) (H : Hp) : V → Bool → Prop where
  | two {t : Addr} {y z : V} (h : SqT K H t [y, z]) (hy : TxtOr K H y) (hz : TxtOr K H z) : LinkIs K H (.ref t) (wordV y && wordV z)
  | size {t : Addr} {xs : List V} (h : SqT K H t xs) (n : xs.length ≠ 2) : LinkIs K H (.ref t) false
  | no {v : V} {t : Value} (h : TyX K H v t) (k : PySem.W.kitOne K t (.type "tuple") = some false) : LinkIs K H v false
theorem LinkIs.same {K : PySem.W.Frag} {H H' : Hp} {v : V} {b : Bool} (h : LinkIs K H v b) (s : Same H H') : LinkIs K H' v b := by
  cases h with
  | two h hy hz => exact .two (sqT_same h s) (hy.same s) (hz.same s)
  | size h n => exact .size (sqT_same h s) n
  | no h k => exact .no (TyX.same h s) k
theorem tyx_tup {H : Hp} {t : Addr} {xs : List V} (h : SqT K H t xs) : TyX K H (.ref t) (.type "tuple") := by
  rcases h with (h | ⟨o, h⟩) | ⟨o, its, n, e, c, _⟩
  · exact .base (.tup h)
  · exact .fTuple h
  · exact .kTuple e c
theorem scLink : FnScope ["value"] ["value"] (defScope sLink) := ⟨rfl, rfl, rfl, by decide +kernel, rfl, by decide +kernel, by decide +kernel⟩
def spLink (K : PySem.W.Frag) : Sp := fun vs H Q _ => ∃ v b, vs = [v] ∧ LinkIs K H v b ∧ ∀ H', Same H H' → Q (.bl b) H'
theorem ok_link {f fW : Addr} {fd fdW : FuncData} (F : Fun K "is_link" "is_link" sLink f fd) (T : PT0 mg) (FW : Fun K "is_word" "is_word" sWord fW fdW) (bW : Binds K fdW ["value"] []) (gW : mg "is_word" = some (.ref fW)) : FnOk P w K mg base CX0 2 f fd ["value"] (spLink K) := by
  have GW : FnOk P w K mg base CX0 1 fW fdW ["value"] (spWord K) := ok_word FW T
  refine F.ok scLink (fun vs H Q E h => ?_) (fun cdv A outer s H vs Q E hr h => ?_)
  · obtain ⟨v, b, rfl, _⟩ := h
    rfl
  · obtain ⟨v, b, rfl, hL, k⟩ := h
    refine ⟨_, pss_one (ps_ret (pe_and (pe_callB call_isi (by rfl) T.isi PyProof.Rows.boot_isinstance (pa_cons (pv 0) (pa_cons (pe_bltn (v := .ty "tuple") rfl T.tuple (by decide +kernel) rfl) pa_nil)))
      (pe_and (pe_cmpR op_eq (pe_callB call_len_seq (by rfl) T.len PySem.boot_len (pa_cons (pv 0) pa_nil)) pe_int (nomark _))
      (pe_and (pe_call GW hr (by rfl) gW FW.kp bW .nil pass0 (pa_cons (pe_ix ix_tup (pv 0) pe_int (fun _ _ => rfl)) pa_nil))
      (pe_one (pe_call GW hr (by rfl) gW FW.kp bW .nil pass0 (pa_cons (pe_ix ix_tup (pv 0) pe_int (fun _ _ => rfl)) pa_nil))))))), ?_⟩
    cases hL with
    | no ht hk => exact ⟨_, rfl, v, .ty "tuple", _, _, false, rfl, .ty "tuple", ht, hk, false, rfl, iteF (k H (Same.refl H))⟩
    | @size t xs h n =>
      refine ⟨_, rfl, .ref t, .ty "tuple", _, _, true, rfl, .ty "tuple", tyx_tup h, kit_ty (by decide +kernel), true, rfl, iteT ⟨_, rfl, t, _, rfl, .inr h, rfl, _, rfl, iteB (fun z => ?_) (fun _ => k H (Same.refl H))⟩⟩
      have z2 := of_decide_eq_true z
      injection z2 with z3
      exact absurd (by omega) n
    | @two t y z h hy hz =>
      refine ⟨_, rfl, .ref t, .ty "tuple", _, _, true, rfl, .ty "tuple", tyx_tup h, kit_ty (by decide +kernel), true, rfl, iteT ⟨_, rfl, t, _, rfl, .inr h, rfl, true, rfl, iteT ?_⟩⟩
      refine ⟨_, rfl, t, _, _, _, rfl, rfl, h, atI_nat (j := 0) rfl, y, rfl, hy, fun H1 s1 => ⟨_, rfl, iteB (fun w1 => ?_) (fun w1 => ?_)⟩⟩
      · refine ⟨_, rfl, t, _, _, _, rfl, rfl, sqT_same h s1, atI_nat (j := 1) rfl, z, rfl, hz.same s1, fun H2 s2 => ?_⟩
        have q := k H2 (s1.trans s2)
        rw [w1, Bool.true_and] at q
        exact q
      · have q := k H1 s1
        rw [w1, Bool.false_and] at q
        exact q
end
end PG


set_option Elab.async false
set_option linter.all false
set_option maxRecDepth 100000
set_option maxHeartbeats 4000000
namespace PG
open PySem L2
/-! ### a dict that is walked is locked -/
section
variable {K : PySem.W.Frag} {H : Hp} {a : Addr} {kvs : List (Key × V)} {od : Obj}
theorem lk_ne {b : Addr} {o : HO} (ha : H a = some (.dK kvs)) (hb : H b = some o) (d : ∀ l, o ≠ .dK l) : upd H a (.frz od (.dK kvs)) b = some o := by
  rw [upd_ne (fun z => d kvs (by rw [z, ha] at hb; exact (Option.some.inj hb).symm))]
  exact hb
theorem TyX.lock {v : V} {t : Value} (h : TyX K H v t) (ha : H a = some (.dK kvs)) : TyX K (upd H a (.frz od (.dK kvs))) v t := by
  cases h with
  | base b =>
    cases b with
    | non => exact .base .non
    | bl x => exact .base (.bl x)
    | int i => exact .base (.int i)
    | str x => exact .base (.str x)
    | flt x => exact .base (.flt x)
    | lst e => exact .base (.lst (lk_ne ha e (by intro l z; cases z)))
    | frz e => exact .base (.frz (lk_ne ha e (by intro l z; cases z)))
    | tup e => exact .base (.tup (lk_ne ha e (by intro l z; cases z)))
    | @dK c l e =>
      by_cases z : c = a
      · subst z
        rw [ha] at e
        cases e
        exact .fDict upd_same
      · exact .base (.dK (by rw [upd_ne z]; exact e))
    | dT e => exact .base (.dT (lk_ne ha e (by intro l z; cases z)))
    | ins e a b c d f => exact .base (.ins (lk_ne ha e (by intro l z; cases z)) a b c d f)
  | byt b => exact .byt b
  | set e => exact .set (lk_ne ha e (by intro l z; cases z))
  | kList e c => exact .kList e c
  | kTuple e c => exact .kTuple e c
  | kDict e c => exact .kDict e c
  | fTuple e => exact .fTuple (lk_ne ha e (by intro l z; cases z))
  | fDict e => exact .fDict (lk_ne ha e (by intro l z; cases z))
theorem TxtOr.lock {v : V} (h : TxtOr K H v) (ha : H a = some (.dK kvs)) : TxtOr K (upd H a (.frz od (.dK kvs))) v := by
  cases h with
  | str h => exact .str h
  | no h k n => exact .no (TyX.lock h ha) k n
theorem sqT_lock {t : Addr} {xs : List V} (h : SqT K H t xs) (ha : H a = some (.dK kvs)) : SqT K (upd H a (.frz od (.dK kvs))) t xs := by
  rcases h with (h | ⟨o, h⟩) | h
  · exact .inl (.inl (lk_ne ha h (by intro l z; cases z)))
  · exact .inl (.inr ⟨o, lk_ne ha h (by intro l z; cases z)⟩)
  · exact .inr h
theorem LinkIs.lock {v : V} {b : Bool} (h : LinkIs K H v b) (ha : H a = some (.dK kvs)) : LinkIs K (upd H a (.frz od (.dK kvs))) v b := by
  cases h with
  | two h hy hz => exact .two (sqT_lock h ha) (hy.lock ha) (hz.lock ha)
  | size h n => exact .size (sqT_lock h ha) n
  | no h k => exact .no (TyX.lock h ha) k
/-- behind a walk: the lock is gone, all else as it was -/
theorem unlock {H' : Hp} (ha : H a = some (.dK kvs)) (s : Same (upd H a (.frz od (.dK kvs))) H') : Same H (upd H' a (.dK kvs)) := fun b o e => by
  by_cases z : b = a
  · subst z
    rw [ha] at e
    cases e
    exact upd_same
  · rw [upd_ne z]
    exact s b o (by rw [upd_ne z]; exact e)
end
/-- what are_ways says of an item -/
def ItemIs (K : PySem.W.Frag) (H : Hp) (kv : Key × V) (b : Bool) : Prop := ∃ c, TxtOr K H (kV kv.1) ∧ LinkIs K H kv.2 c ∧ b = (wordV (kV kv.1) && c)
theorem paired_at {α β : Type} {R : α → β → Prop} : ∀ {xs : List α} {ys : List β} {i : Nat} {x : α}, Paired R xs ys → xs[i]? = some x → ∃ y, ys[i]? = some y ∧ R x y
  | _, _, i, _, .nil, h => by simp at h
  | _, _, 0, _, .cons (b := y) r _, h => ⟨y, rfl, (Option.some.inj h) ▸ r⟩
  | _, _, i + 1, _, .cons _ r, h => paired_at (i := i) r (by simpa using h)
section
variable {P : Program} {w : World} {K : PySem.W.Frag} {mg : Str → Option Value} {base : Heap}
abbrev nsWays : List Str := ["value", "way", "link"]
theorem scWays : FnScope nsWays ["value"] (defScope sWays) := ⟨rfl, rfl, rfl, by decide +kernel, rfl, by decide +kernel, by decide +kernel⟩
def spWays (K : PySem.W.Frag) : Sp := fun vs H Q _ => ∃ v, vs = [v] ∧
  ((∃ (a : Addr) (kvs : List (Key × V)) (bs : List Bool), v = .ref a ∧ H a = some (.dK kvs) ∧ kvs.length ≤ 1000 ∧ Paired (ItemIs K H) kvs bs ∧ ∀ H', Same H H' → Q (.bl (decide (1 ≤ kvs.length) && (decide (kvs.length ≤ 40) && bs.all id))) H') ∨
   (∃ t, TyX K H v t ∧ PySem.W.kitOne K t (.type "dict") = some false ∧ Q (.bl false) H))
theorem ok_ways {f fW fL : Addr} {fd fdW fdL : FuncData} (F : Fun K "are_ways" "are_ways" sWays f fd) (T : PT0 mg) (FW : Fun K "is_word" "is_word" sWord fW fdW) (bW : Binds K fdW ["value"] []) (gW : mg "is_word" = some (.ref fW))
    (FL : Fun K "is_link" "is_link" sLink fL fdL) (bL : Binds K fdL ["value"] []) (gL : mg "is_link" = some (.ref fL)) : FnOk P w K mg base CX0 3 f fd ["value"] (spWays K) := by
  have GW : FnOk P w K mg base CX0 1 fW fdW ["value"] (spWord K) := ok_word FW T
  have GL : FnOk P w K mg base CX0 2 fL fdL ["value"] (spLink K) := ok_link FL T FW bW gW
  refine F.ok scWays (fun vs H Q E h => ?_) (fun cdv A outer s H vs Q E hr h => ?_)
  · obtain ⟨v, rfl, _⟩ := h
    rfl
  · obtain ⟨v, rfl, h⟩ := h
    have hr1 : Room 1 _ := hr.mono (by decide)
    obtain ⟨tm, gm⟩ := T.mostW
    refine ⟨_, pss_cons (ps_if (PW.pt (pw_or (pt_not (pt_val (pe_callB call_isi (by rfl) T.isi PyProof.Rows.boot_isinstance (pa_cons (pv 0) (pa_cons (pe_bltn (v := .ty "dict") rfl T.dict (by decide +kernel) rfl) pa_nil)))))
        (pw_or1 (pt_not (pt_chain op_le op_le pe_int (pe_callB call_lenD (by rfl) T.len PySem.boot_len (pa_cons (pv 0) pa_nil)) (pe_glob (v := .int 40) rfl gm ⟨_, rfl⟩)))))) (pss_one (ps_ret pe_bl)) pss_nil)
      (pss_one (ps_ret (pe_callB (cr_all rfl) (by rfl) T.all PyProof.Rows.boot_all (pa_cons (pe_lock (pe_lc (own := [("way", 1), ("link", 2)]) (g := gTup K 2 (gCons (gName 1) (gCons (gName 2) gNil))) (tt := tYes) rfl scWays.nd (pi_items (pv 0)) (blkOk_by (own := [("way", 1), ("link", 2)]) (N := nsWays) (sc := defScope sWays) (by decide +kernel))
        (fun _ _ _ _ _ => pg_tup rfl (pgs_cons (pg_name (i := 1) scWays.nd rfl (Or.inl rfl)) (pgs_cons (pg_name (i := 2) scWays.nd rfl (Or.inl rfl)) pgs_nil))) (fun _ _ _ _ _ => pts_nil)
        (fun _ _ _ _ _ => pe_and (pe_call GW hr1 (by rfl) gW FW.kp bW .nil pass0 (pa_cons (pv 1) pa_nil)) (pe_one (pe_call GL hr (by rfl) gL FL.kp bL .nil pass0 (pa_cons (pv 2) pa_nil)))))) pa_nil)))), ?_⟩
    rcases h with ⟨a, kvs, bs, rfl, ha, hz, hI, k⟩ | ⟨t, ht, hk, q⟩
    · refine ⟨_, rfl, .ref a, .ty "dict", _, _, true, rfl, .ty "dict", .base (.dK ha), kit_ty (by decide +kernel), _, rfl, iteF ?_⟩
      refine ⟨_, rfl, a, kvs, rfl, ha, _, _, rfl, rfl, _, rfl, ?_⟩
      have lb : bs.length = kvs.length := (Paired.length hI).symm
      refine ite2 (fun h1 => ?_) (fun h1 => ?_)
      · have h1' : 1 ≤ kvs.length := by have := of_decide_eq_true h1; omega
        refine ⟨_, _, rfl, rfl, _, rfl, iteB (fun h8 => ?_) (fun h8 => ?_)⟩
        · have h8' : ¬ kvs.length ≤ 40 := by
            have z : (!decide ((kvs.length : Int) ≤ 40)) = true := h8
            simp only [Bool.not_eq_true', decide_eq_false_iff_not] at z
            omega
          have q := k H (Same.refl H)
          rw [decide_eq_false h8', Bool.false_and, Bool.and_false] at q
          exact q
        · have h8' : kvs.length ≤ 40 := by
            have z : (!decide ((kvs.length : Int) ≤ 40)) = false := h8
            simp only [Bool.not_eq_false', decide_eq_true_eq] at z
            omega
          refine ⟨a, .dK kvs, ha, trivial, fun od => ⟨_, rfl, a, od, kvs, rfl, upd_same, fun D nD => ?_⟩⟩
          refine lc_it walk_items (fun i H' => Same (upd H a (.frz od (.dK kvs))) H' ∧ H' D = some (.lst ((bs.take i).map V.bl))) ⟨sm nD, upd_same⟩ (fun i H' _ p => p.1 _ _ upd_same) ?_ ?_
          · rintro i y H1 H2 hi ⟨s1, hD1⟩ ⟨Tp, x0, y0, rfl, nT, rfl, ex0, ey0⟩
            obtain ⟨kv, hkv⟩ : ∃ kv, kvs[i]? = some kv := ⟨kvs[i], List.getElem?_eq_getElem hi⟩
            replace ex0 : (kvs[i]?.map fun kv => kV kv.1) = some x0 := ex0
            replace ey0 : (kvs[i]?.map Prod.snd) = some y0 := ey0
            rw [hkv] at ex0 ey0
            cases ex0
            cases ey0
            obtain ⟨b, hb, c, i1, i2, rfl⟩ := paired_at hI hkv
            have s2 := s1.trans (sm (o := .tup [kV kv.1, kv.2]) nT)
            have hD2 : (upd H1 Tp (.tup [kV kv.1, kv.2])) D = some (.lst ((bs.take i).map V.bl)) := (sm nT) _ _ hD1
            have step : ∀ H4, Same (upd H1 Tp (.tup [kV kv.1, kv.2])) H4 → ∃ acc, H4 D = some (.lst acc) ∧ acc.length < sizeLine ∧ (Same (upd H a (.frz od (.dK kvs))) (upd H4 D (.lst (acc ++ [V.bl (wordV (kV kv.1) && c)]))) ∧ (upd H4 D (.lst (acc ++ [V.bl (wordV (kV kv.1) && c)]))) D = some (.lst ((bs.take (i + 1)).map V.bl))) := fun H4 s4 => by
              refine ⟨_, s4 _ _ hD2, ?_, fun b o e => ?_, ?_⟩
              · rw [List.length_map]
                refine small1000 (Nat.le_trans (List.length_take_le _ _) (by omega))
              · have e2 := (s2.trans s4) b o e
                rw [upd_ne (ne_of_none e nD)]
                exact e2
              · rw [upd_same, List.take_add_one, hb, List.map_append]
                rfl
            refine ⟨Tp, _, rfl, SqT.of upd_same, rfl, _, _, rfl, _, _, rfl, rfl, rfl, ?_⟩
            unfold tYes
            dsimp only
            rw [if_pos rfl]
            refine ⟨_, rfl, kV kv.1, rfl, (i1.lock ha).same s2, fun H3 s3 => ⟨_, rfl, iteB (fun w1 => ?_) (fun w1 => ?_)⟩⟩
            · refine ⟨_, rfl, kv.2, c, rfl, (i2.lock ha).same (s2.trans s3), fun H4 s4 => ?_⟩
              have q := step H4 (s3.trans s4)
              rw [w1, Bool.true_and] at q
              exact q
            · have q := step H3 s3
              rw [w1, Bool.false_and] at q
              exact q
          · rintro H1 ⟨s1, hD1⟩
            have nDa : D ≠ a := fun z => by
              rw [z, upd_same] at nD
              cases nD
            refine ⟨s1 _ _ upd_same, D, _, rfl, SqL.of (xs := bs.map V.bl) ?_, ?_⟩
            · rw [upd_ne nDa, hD1, ← lb, List.take_length]
            · have q := k _ (unlock ha s1)
              rw [decide_eq_true h1', decide_eq_true h8', Bool.true_and, Bool.true_and] at q
              exact q
      · have h1' : ¬ 1 ≤ kvs.length := fun z => h1 (decide_eq_true (by omega))
        refine ⟨_, rfl, iteT ?_⟩
        have q := k H (Same.refl H)
        rw [decide_eq_false h1', Bool.false_and] at q
        exact q
    · exact ⟨_, rfl, v, .ty "dict", _, _, false, rfl, .ty "dict", ht, hk, _, rfl, iteT (iteT q)⟩
end
end PG


set_option Elab.async false
set_option linter.all false
set_option maxRecDepth 100000
set_option maxHeartbeats 4000000
/-! set(a list of texts), and its len. -/
namespace STX
open PySem PySem.Spec PyProof.Rows L2 PySem.Froz
def insAll : List Str → List Str → List Str
  | [], l => l
  | k :: ws, l => insAll ws (ins k l)
theorem insAll_snoc : ∀ (ws : List Str) (k : Str) (l : List Str), insAll (ws ++ [k]) l = ins k (insAll ws l)
  | [], _, _ => rfl
  | _ :: ws, k, l => insAll_snoc ws k _
theorem ins_len (k : Str) (l : List Str) : (ins k l).length ≤ l.length + 1 := by
  unfold ins
  split
  · omega
  · exact Nat.le_refl _
theorem insAll_len : ∀ (ws l : List Str), (insAll ws l).length ≤ l.length + ws.length
  | [], l => Nat.le_refl _
  | k :: ws, l => by
    have z := insAll_len ws (ins k l)
    have y := ins_len k l
    show (insAll ws (ins k l)).length ≤ l.length + (ws.length + 1)
    omega
theorem ins_mem {k x : Str} {l : List Str} : x ∈ ins k l ↔ x = k ∨ x ∈ l := by
  unfold ins
  split
  · rename_i h
    exact ⟨.inr, fun z => z.elim (fun e => e ▸ h) id⟩
  · exact List.mem_cons
theorem insAll_mem : ∀ {ws l : List Str} {x : Str}, x ∈ insAll ws l ↔ x ∈ ws ∨ x ∈ l
  | [], l, x => ⟨.inr, fun z => z.elim (fun e => nomatch e) id⟩
  | k :: ws, l, x => by
    show x ∈ insAll ws (ins k l) ↔ _
    rw [insAll_mem, ins_mem, List.mem_cons]
    constructor
    · rintro (h | h | h)
      · exact .inl (.inr h)
      · exact .inl (.inl h)
      · exact .inr h
    · rintro ((h | h) | h)
      · exact .inr (.inl h)
      · exact .inl h
      · exact .inr (.inr h)
theorem insAll_full : ∀ {ws l : List Str}, (insAll ws l).length = l.length + ws.length → ws.Nodup ∧ ∀ x ∈ ws, x ∉ l
  | [], l, _ => ⟨List.nodup_nil, fun x z => nomatch z⟩
  | k :: ws, l, h => by
    have h2 : (insAll ws (ins k l)).length = l.length + (ws.length + 1) := h
    have z := insAll_len ws (ins k l)
    have y := ins_len k l
    have e : (ins k l).length = l.length + 1 := by omega
    have nk : k ∉ l := fun m => by
      unfold ins at e
      rw [if_pos m] at e
      omega
    obtain ⟨a, b⟩ := insAll_full (ws := ws) (l := ins k l) (by omega)
    refine ⟨List.nodup_cons.mpr ⟨fun m => b k m (ins_mem.mpr (.inl rfl)), a⟩, fun x hx => ?_⟩
    rcases List.mem_cons.mp hx with e | hx
    · rw [e]; exact nk
    · exact fun m => b x hx (ins_mem.mpr (.inr m))
theorem insAll_nodup : ∀ {ws l : List Str}, ws.Nodup → (∀ x ∈ ws, x ∉ l) → (insAll ws l).length = l.length + ws.length
  | [], l, _, _ => rfl
  | k :: ws, l, n, d => by
    obtain ⟨n1, n2⟩ := List.nodup_cons.mp n
    have e : ins k l = k :: l := by unfold ins; rw [if_neg (d k List.mem_cons_self)]
    have z := insAll_nodup (ws := ws) (l := k :: l) n2 fun x hx m => by
      rcases List.mem_cons.mp m with e | m
      · exact n1 (e ▸ hx)
      · exact d x (List.mem_cons_of_mem _ hx) m
    show (insAll ws (ins k l)).length = l.length + (ws.length + 1)
    rw [e, z, List.length_cons]
    omega
theorem insAll_eq (ws : List Str) : decide (((insAll ws []).length : Int) = (ws.length : Int)) = decide ws.Nodup := by
  by_cases h : ws.Nodup
  · have z := insAll_nodup (l := []) h (fun _ _ m => nomatch m)
    rw [List.length_nil, Nat.zero_add] at z
    rw [decide_eq_true h, z, decide_eq_true rfl]
  · rw [decide_eq_false h, decide_eq_false fun z => h (insAll_full (l := []) (by rw [List.length_nil, Nat.zero_add]; omega)).1]
section
variable {P : Program} {w : World} {A : Around} {E : Value → Shared → Prop} {s : Shared}
theorem tx_hashed {a : Addr} {l : List Str} {k : Str} {u : Tok} {Q : Bool → Shared → Prop} (R : TxSet P w s.heap a l) (room : l.length + 1 < scanBound)
    (go : ∀ b h', Heap.SameBut a s.heap h' → TxSet P w h' a (ins k l) → Q b { s with heap := h' }) : wpAny (model P w) A (setAddHashed a (.str k u) (hashStr w k)) Q E s := by
  obtain ⟨D, ho, F, nd, ri, le⟩ := id R
  by_cases hk : k ∈ l
  · refine add_there ho F hk (by omega) (go _ s.heap (Heap.SameBut.refl a s.heap) ?_)
    unfold ins
    rw [if_pos hk]
    exact R
  · obtain ⟨r2, l2⟩ := add_walk (w := w) (h := hashStr w k) (v := .str k u) ri le
    refine add_x ho F hk room (go _ _ (Heap.SameBut.update s.heap a _) ?_)
    unfold ins
    rw [if_neg hk]
    exact ⟨_, Froz.get_upd _ ho rfl, add_ok u F, List.nodup_cons.mpr ⟨hk, nd⟩, r2, l2⟩
theorem tx_loop {J : Addr} {fp wr : List Addr} {G : Array GenState → Array GenState → Prop} {n : Nat} {Pv : Nat → Value → Prop} {St : Nat → Shared → Prop} {R : Result → Shared → Prop} (W : WalksS P w A.in1 J fp wr G n Pv St) (T : Addr) (hT : T ∉ fp) (ws : List Str)
    (hn : n = ws.length) (hb : ws.length + 1 < scanBound) (hv : ∀ i v, Pv i v → ∃ k t, ws[i]? = some k ∧ v = .str k t) : ∀ (m i : Nat) (s : Shared), n - i = m → i ≤ n → St i s → TxSet P w s.heap T (insAll (ws.take i) []) →
      (∀ s', Moved (T :: wr) G s s' → TxSet P w s'.heap T (insAll ws []) → R (.ok (.ret .none)) s') → codeAny (model P w) A (.builtin "set.update.loop" ⟨[.ref T, .ref J], []⟩) R s := by
  have out : T ∉ wr := fun z => hT (W.sub _ z)
  have more : ∀ b ∈ wr, b ∈ T :: wr := fun b z => List.mem_cons_of_mem _ z
  intro m
  induction m with
  | zero =>
    intro i s hm hi st hS go
    have e : i = n := by omega
    subst e
    refine codeAny_builtin F.entry_set_update_loop ?_
    rw [Around.under_plainId F.plain_set_update_loop _]
    show wpAny _ A.in1 (pyNext (.ref J) >>= _) _ _ s
    refine wpAny_bind (W.done s _ _ st fun s' mv => ?_)
    show wpAny _ A.in1 (ret Value.none) _ _ s'
    rw [List.take_of_length_le (by omega)] at hS
    exact wpAny_pure (go s' (mv.mono more) (hS.at fun o e => mv.heap T o out e))
  | succ m ih =>
    intro i s hm hi st hS go
    have lt : i < n := by omega
    refine codeAny_builtin F.entry_set_update_loop ?_
    rw [Around.under_plainId F.plain_set_update_loop _]
    show wpAny _ A.in1 (pyNext (.ref J) >>= _) _ _ s
    refine wpAny_bind (W.item i s _ _ lt st fun v s' hP st' mv => ?_)
    obtain ⟨z, t, hz, rfl⟩ := hv i v hP
    have hS' : TxSet P w s'.heap T (insAll (ws.take i) []) := hS.at fun o e => mv.heap T o out e
    show wpAny _ A.in1 (holding [Value.str z t] (setAdd T (.str z t)) >>= _) _ _ s'
    refine wpAny_bind (wpAny_holding ?_)
    unfold setAdd
    refine wpAny_holding (wpAny_bind ((strKind P w).pyHash (k := z) (is_str z t) ?_))
    have lz : (insAll (ws.take i) []).length ≤ ws.length := by
      have z1 := insAll_len (ws.take i) []
      have z2 := List.length_take_le i ws
      have z3 : (ws.take i).length ≤ ws.length := List.length_take_le' i ws
      rw [List.length_nil] at z1
      omega
    refine tx_hashed (s := { s' with toks := s'.toks + 1 }) hS' (by omega) fun b h' sb hS2 => ?_
    have e3 : ins z (insAll (ws.take i) []) = insAll (ws.take (i + 1)) [] := by rw [List.take_add_one, hz]; exact (insAll_snoc _ _ _).symm
    rw [e3] at hS2
    refine wpAny_pure ⟨plainId_quiet F.plain_set_update_loop _, ih (i + 1) _ (by omega) lt (W.frame _ s' _ _ st' (Nat.le_succ _) fun b hb o e => ?_) hS2 fun s'' mv2 hS3 => ?_⟩
    · rw [sb.2 b (fun z : b = T => hT (by rw [← z]; exact hb))]; exact e
    · refine go s'' (Moved.trans W.gtrans ((mv.mono more).then_heap (Nat.le_succ _) fun b o nb e => ?_) mv2) hS3
      rw [sb.2 b (fun z : b = T => nb (by rw [z]; exact List.mem_cons_self))]; exact e
abbrev eSet (w : World) : Obj := { cls := .type "set", dict := none, data := .set #[] 0 (.fresh 0 0 (!w.params.followText "set-order")) }
theorem tx_new_at {h : Heap} {a : Addr} (ho : h.get? a = some (eSet w)) : TxSet P w h a [] := by
  refine ⟨(#[], 0, .fresh 0 0 (!w.params.followText "set-order")), ho, TxOk.nil rfl, List.nodup_nil, List.Pairwise.nil, ?_⟩
  show _ ∨ (!w.params.followText "set-order") = true
  cases w.params.followText "set-order"
  · exact .inr rfl
  · exact .inl rfl
theorem strs_get {vs : List Value} {ws : List Str} (h : StrsAre vs ws) : ∀ {i : Nat} {v : Value}, vs[i]? = some v → ∃ k t, ws[i]? = some k ∧ v = .str k t := by
  induction h with
  | nil => intro i v e; simp at e
  | cons k t r ih =>
    intro i v e
    cases i with
    | zero => exact ⟨k, t, rfl, (Option.some.inj e).symm⟩
    | succ i => exact ih (i := i) (v := v) (by simpa using e)
theorem tx_of_list {l : Addr} {its : Array Value} (ws : List Str) {Q : Value → Shared → Prop} (hh : A.handled = none) (hl : s.heap.IsList l its) (hi : StrsAre its.toList ws) (hb : ws.length + 1 < scanBound)
    (go : ∀ (h' : Heap) (tk : Nat), TxSet P w h' s.heap.objs.size (insAll ws []) → (∀ b o, s.heap.get? b = some o → h'.get? b = some o) → Q (.ref s.heap.objs.size) { s with heap := h', toks := tk }) : wpAny (model P w) A (call (.type "set") [.ref l]) Q E s := by
  have sz : its.size = ws.length := by rw [← Array.length_toList, strs_len hi]
  obtain ⟨c, tl, k1⟩ := F.called_set.mro
  have k2 := F.called_set.made
  have k3 := F.called_set.sub
  refine wpAny_call (codeAny_of_tree ?_)
  show wpAny _ _ (callAny (.type "set") _) _ _ _
  refine wpAny_pure ⟨Code.quiet_builtin _ (by decide +kernel), codeAny_builtin F.entry_type_call ?_⟩
  rw [Around.under_plain (weight_type_call_type "set" [.ref l] []) rfl]
  have k4 := F.called_set.notType
  have k5 := F.called_set.canCreate
  have k6 := F.typeCall_set_1 (.ref l)
  repeat (any_goals (first | assumption | wp_step))
  refine codeAny_mono (code_set_led1 (.ref l) (E := E) (Q₁ := fun x s₁ => x = .ref s.heap.objs.size ∧ s₁ = { s with heap := s.heap.push (eSet w) }) ⟨rfl, rfl⟩) fun r s₁ hr => ?_
  cases r with
  | error e => exact hr
  | ok fl =>
    cases fl with
    | ret obj =>
      obtain ⟨rfl, rfl⟩ := hr
      have at0 : (s.heap.push (eSet w)).get? s.heap.objs.size = some (eSet w) := Heap.get?_push_size _ rfl
      have ty0 : Shared.TypeIs { s with heap := s.heap.push (eSet w) } (.ref s.heap.objs.size) "set" := ⟨_, at0, rfl⟩
      have k7 := F.called_set.init.lookup
      have k8 := F.called_set.init.bind (.ref s.heap.objs.size)
      repeat (any_goals (first | assumption | wp_step))
      refine codeAny_mono (codeAny_call_builtin (R := wants (fun r s₂ => r = .none ∧ ∃ h' tk, s₂ = { s with heap := h', toks := tk } ∧ TxSet P w h' s.heap.objs.size (insAll ws []) ∧ (∀ b o, s.heap.get? b = some o → h'.get? b = some o)) E) F.called_set.init.plain F.entry_set_init (check_set_init_1 ty0 ?_)) fun r₂ s₂ hr₂ => ?_
      · obtain ⟨ol, hol, hcl, nl, hdl⟩ := hl
        obtain ⟨c0, d0, x0, sl0⟩ := ol
        simp only at hcl hdl
        subst hcl
        subst hdl
        have at1 : (s.heap.push (eSet w)).get? l = some { cls := .type "list", dict := d0, data := .seq its nl, slots := sl0 } := Heap.get?_push_of_some _ hol
        have k9 := PySem.F.sub_list_set
        have k10 := PySem.F.sub_list_frozenset
        have k11 : (Value.type "list" == Value.type "dict") = false := by decide
        have hl1 : (s.heap.push (eSet w)).IsList l its := ⟨_, at1, rfl, nl, rfl⟩
        unfold Builtin.«set.__init__» noKeywords Builtin.Frozenset.updateFrom
        generalize gen : pyIter = PI
        wp_walk
        subst gen
        refine wpAny_pyIter_list hl1 (wpAny_bind (wpAny_runValue ?_))
        have ll : l < s.heap.objs.size := Heap.lt_size hol
        have h3 : A.in1.in1.in1.handled = none := by simp [hh]
        have nz : l ≠ (s.heap.push (eSet w)).objs.size := by rw [Heap.size_push]; exact Nat.ne_of_lt (Nat.lt_succ_of_lt ll)
        have nS : s.heap.objs.size ∉ [(s.heap.push (eSet w)).objs.size, l] := by
          rw [Heap.size_push]
          simp only [List.mem_cons, List.mem_singleton, List.not_mem_nil, or_false, not_or]
          exact ⟨Nat.ne_of_lt (Nat.lt_succ_self _), Nat.ne_of_gt ll⟩
        refine tx_loop ((Walks.list h3 _ l nz its).toS) s.heap.objs.size nS ws sz hb (fun i v hv => strs_get hi (by rw [Array.getElem?_toList]; exact hv)) (its.size - 0) 0 _ (by omega) (Nat.zero_le _) ⟨⟨_, Heap.get?_push_size _ rfl, rfl, rfl⟩, (hl1.push _)⟩ ?_ ?_
        · exact tx_new_at (Heap.get?_push_of_some _ at0)
        · intro s' mv hS'
          obtain ⟨h', g2, d', tk', os'⟩ := s'
          have eg : g2 = s.gens := mv.gens
          have ed : d' = s.drawn := mv.drawn
          have eo : os' = s.os := mv.os
          subst eg; subst ed; subst eo
          show wpAny _ _ _ _ _ _
          refine wpAny_pure ?_
          show wpAny _ _ (ret Value.none) _ _ _
          refine wpAny_pure ⟨rfl, h', tk', rfl, hS', fun b o e => ?_⟩
          have b0 : b < s.heap.objs.size := Heap.lt_size e
          refine mv.heap b o ?_ (Heap.get?_push_of_some _ (Heap.get?_push_of_some _ e))
          rw [Heap.size_push]
          simp only [List.mem_cons, List.mem_singleton, List.not_mem_nil, or_false, not_or]
          exact ⟨Nat.ne_of_lt b0, Nat.ne_of_lt (Nat.lt_succ_of_lt b0)⟩
      · cases r₂ with
        | error e => exact hr₂
        | ok fl₂ =>
          cases fl₂ with
          | ret r =>
            obtain ⟨rfl, h', tk, rfl, hS', hk'⟩ := hr₂
            repeat (any_goals (first | assumption | wp_step))
            exact go _ _ hS' hk'
          | _ => exact hr₂.elim
    | _ => exact hr.elim
end
section
variable {X : Cx}
/-- len(set(e)), e a list of texts -/
def tLenTx (K : PySem.W.Frag) (ta : TE) : TE := fun σ H Q => ta σ H fun x H1 => ∃ (l : Addr) (xs : List Str), x = .ref l ∧ SqL K H1 l (xs.map V.str) ∧ xs.length < 1000 ∧ Q (.int (insAll xs []).length) H1
theorem pe_lenTx {a : Expr} {ta : TE} {p p2 q pos : Pos} (hc : X.calm = true) (hg : Gl X "len") (hm : X.mg "len" = none) (hg2 : Gl X "set") (hm2 : X.mg "set" = none) (ha : PE X a ta)
    (na : starEach [a] X.env = (false, eval a X.env) :: starEach [] X.env := by rfl) : PE X (.Call (.Name "len" p) [.Call (.Name "set" p2) [a] [] q] [] pos) (tLenTx X.K ta) := by
  refine ⟨fun pins s σ H Q I h => Call_ (ld_blt I hg hm boot_len (PyProof.Rows.callWith_builtin1 (PyProof.Rows.args_cons ?_ rfl) rfl rfl))⟩
  refine Call_ (ld_blt I hg2 hm2 boot_set (PyProof.Rows.callWith_type1 (PyProof.Rows.args_cons (thn (ha.run pins s σ H _ I h) fun v s1 ⟨x, H1, I1, r1, q1⟩ => PyProof.Rows.args_nil ?_) na) na rfl))
  obtain ⟨l, xs, rfl, hq, h1, q1⟩ := q1
  cases r1
  obtain ⟨its, r, pl, hz⟩ := I1.list hq
  refine tx_of_list xs (I1.ok.hd hc) pl.isList (by simpa using strsAre_of r) (by unfold scanBound; omega) fun h' tk hS hk => PyProof.Rows.args_nil ?_
  obtain ⟨⟨es, ep, t⟩, ho, F, _⟩ := hS
  have I2 : Inv X pins σ H1 { s1 with heap := h', toks := tk } := I1.kept hk
  have sz : es.size = (insAll xs []).length := F.sz
  have le := insAll_len xs []
  rw [List.length_nil] at le
  have sz2 : ((es, ep, t).1.size : Int) < 2 ^ 63 := by show (es.size : Int) < 2 ^ 63; omega
  exact call_len_set ho ⟨rfl, rfl, rfl⟩ rfl F.fit sz2 ⟨.int (insAll xs []).length, H1, I2.tok _, ⟨_, by rw [sz]⟩, q1⟩
end
end STX


set_option Elab.async false
set_option linter.all false
set_option maxRecDepth 100000
set_option maxHeartbeats 4000000
namespace PG
open PySem L2
def txs : List V → List Str
  | .str x :: r => x :: txs r
  | _ :: r => txs r
  | [] => []
theorem txs_map : ∀ ws : List Str, txs (ws.map V.str) = ws
  | [] => rfl
  | w :: ws => congrArg (w :: ·) (txs_map ws)
/-- what is_among says of an item -/
def AmIs (K : PySem.W.Frag) (H : Hp) (ws : List Str) (v : V) (b : Bool) : Prop :=
  (∃ x, v = .str x ∧ b = decide (x ∈ ws)) ∨ (∃ t, TyX K H v t ∧ PySem.W.kitOne K t (.type "str") = some false ∧ b = false)
theorem AmIs.same {K : PySem.W.Frag} {H H' : Hp} {ws : List Str} {v : V} {b : Bool} (h : AmIs K H ws v b) (s : Same H H') : AmIs K H' ws v b := by
  rcases h with h | ⟨t, h, k, e⟩
  · exact .inl h
  · exact .inr ⟨t, TyX.same h s, k, e⟩
theorem sqL_same {K : PySem.W.Frag} {H H' : Hp} {a : Addr} {xs : List V} (h : SqL K H a xs) (s : Same H H') : SqL K H' a xs := by
  rcases h with (h | ⟨o, h⟩) | h
  · exact .inl (.inl (s _ _ h))
  · exact .inl (.inr ⟨o, s _ _ h⟩)
  · exact .inr h
theorem am_texts {K : PySem.W.Frag} {H : Hp} {ws : List Str} : ∀ {xs : List V} {bs : List Bool}, Paired (AmIs K H ws) xs bs → bs.all id = true → xs = (txs xs).map V.str
  | _, _, .nil, _ => rfl
  | _, _, .cons (a := v) (b := b) r rs, h => by
    rw [List.all_cons, Bool.and_eq_true] at h
    rcases r with ⟨x, rfl, e⟩ | ⟨t, _, _, e⟩
    · show V.str x :: _ = V.str x :: _
      exact congrArg _ (am_texts rs h.2)
    · rw [e] at h
      exact absurd h.1 (by decide)
section
variable {P : Program} {w : World} {K : PySem.W.Frag} {mg : Str → Option Value} {base : Heap}
abbrev nsExits : List Str := ["value", "places", "place"]
theorem scExits : FnScope nsExits ["value", "places"] (defScope sExits) := ⟨rfl, rfl, rfl, by decide +kernel, rfl, by decide +kernel, by decide +kernel⟩
def spExits (K : PySem.W.Frag) : Sp := fun vs H Q _ => ∃ (v : V) (a : Addr) (ws : List Str), vs = [v, .ref a] ∧ SqL K H a (ws.map V.str) ∧
  ((∃ (l : Addr) (xs : List V) (bs : List Bool), v = .ref l ∧ H l = some (.lst xs) ∧ xs.length < 1000 ∧ Paired (AmIs K H ws) xs bs ∧ ∀ H', Same H H' → Q (.bl (!xs.isEmpty && (bs.all id && decide (txs xs).Nodup))) H') ∨
   (∃ t, TyX K H v t ∧ PySem.W.kitOne K t (.type "list") = some false ∧ Q (.bl false) H))
theorem ok_exits {f fA : Addr} {fd fdA : FuncData} (F : Fun K "are_exits" "are_exits" sExits f fd) (T : PT0 mg) (FA : Fun K "is_among" "is_among" sAmong fA fdA) (bA : Binds K fdA ["value", "words"] []) (gA : mg "is_among" = some (.ref fA)) : FnOk P w K mg base CX0 2 f fd ["value", "places"] (spExits K) := by
  have GA : FnOk P w K mg base CX0 1 fA fdA ["value", "words"] (spAmong K) := ok_among FA T
  refine F.ok scExits (fun vs H Q E h => ?_) (fun cdv A outer s H vs Q E hr h => ?_)
  · obtain ⟨v, a, ws, rfl, _⟩ := h
    rfl
  · obtain ⟨v, a, ws, rfl, hS, h⟩ := h
    refine ⟨_, pss_cons (ps_if (PW.pt (pw_or (pt_not (pt_val (pe_callB call_isi (by rfl) T.isi PyProof.Rows.boot_isinstance (pa_cons (pv 0) (pa_cons (pe_bltn (v := .ty "list") rfl T.list (by decide +kernel) rfl) pa_nil)))))
        (pw_or1 (pt_not (pt_truth (pv 0) (fun _ => rfl)))))) (pss_one (ps_ret pe_bl)) pss_nil)
      (pss_one (ps_ret (pe_and (pe_callB (cr_all rfl) (by rfl) T.all PyProof.Rows.boot_all (pa_cons (pe_lc (own := [("place", 2)]) (g := gName 2) (tt := tYes) rfl scExits.nd (pi_list (pv 0)) (blkOk_by (own := [("place", 2)]) (N := nsExits) (sc := defScope sExits) (by decide +kernel)) (fun _ _ _ _ _ => pg_name (i := 2) scExits.nd rfl (Or.inl rfl)) (fun _ _ _ _ _ => pts_nil)
        (fun _ _ _ _ _ => pe_call GA hr (by rfl) gA FA.kp bA .nil pass0 (pa_cons (pv 2) (pa_cons (pv 1) pa_nil)))) pa_nil))
        (pe_one (pe_cmpR op_eq (STX.pe_lenTx rfl (by rfl) T.len (by rfl) T.set (pv 0)) (pe_callB call_len_seq (by rfl) T.len PySem.boot_len (pa_cons (pv 0) pa_nil)) (nomark _)))))), ?_⟩
    rcases h with ⟨l, xs, bs, rfl, hl, hz, hI, k⟩ | ⟨t, ht, hk, q⟩
    · refine ⟨_, rfl, .ref l, .ty "list", _, _, true, rfl, .ty "list", .base (.lst hl), kit_ty (by decide +kernel), _, rfl, iteF ?_⟩
      have lb : bs.length = xs.length := (Paired.length hI).symm
      refine ⟨_, rfl, !xs.isEmpty, .inl ⟨xs, SqL.of hl, rfl⟩, iteB (fun h0 => ?_) (fun h0 => ?_)⟩
      · have e0 : xs.isEmpty = true := by simpa using h0
        have q := k H (Same.refl H)
        rw [e0] at q
        exact q
      · have e0 : xs.isEmpty = false := by simpa using h0
        refine ⟨_, rfl, l, rfl, ⟨xs, SqL.of hl⟩, fun D nD => lc_it walk_list (fun i H' => Same H H' ∧ H' D = some (.lst ((bs.take i).map V.bl))) ⟨sm nD, upd_same⟩ (fun i H' _ p => SqL.of (p.1 _ _ hl)) ?_ ?_⟩
        · rintro i y H1 H2 hi ⟨s1, hD1⟩ ⟨rfl, hy⟩
          obtain ⟨b, hb, hA⟩ := paired_at hI hy
          refine ⟨rfl, ?_⟩
          unfold tYes
          dsimp only
          rw [if_pos rfl]
          refine ⟨_, rfl, _, rfl, y, a, rfl, ?_⟩
          have fin : ∃ acc, H2 D = some (.lst acc) ∧ acc.length < sizeLine ∧ Same H (upd H2 D (.lst (acc ++ [V.bl b]))) ∧ (upd H2 D (.lst (acc ++ [V.bl b]))) D = some (.lst ((bs.take (i + 1)).map V.bl)) := by
            refine ⟨_, hD1, ?_, fun c o e => ?_, ?_⟩
            · rw [List.length_map]
              have := List.length_take_le i bs
              refine small1000 (Nat.le_trans (List.length_take_le' i bs) (by omega))
            · rw [upd_ne (ne_of_none e nD)]
              exact s1 c o e
            · rw [upd_same, List.take_add_one, hb, List.map_append]
              rfl
          rcases hA with ⟨x, rfl, eb⟩ | ⟨t, ht, hk, eb⟩
          · refine .inl ⟨x, ws, rfl, sqL_same hS s1, ?_⟩
            rw [eb] at fin
            exact fin
          · refine .inr (.inr ⟨t, TyX.same ht s1, hk, ?_⟩)
            rw [eb] at fin
            exact fin
        · rintro H1 ⟨s1, hD1⟩
          refine ⟨D, _, rfl, SqL.of (xs := bs.map V.bl) (by rw [hD1, ← lb, List.take_length]), _, rfl, ?_⟩
          have q := k H1 s1
          rw [e0] at q
          refine iteB (fun hb => ?_) (fun hb => ?_)
          · rw [hb] at q
            have ex := am_texts hI hb
            have hl1 : SqL K H1 l ((txs xs).map V.str) := by rw [← ex]; exact SqL.of (s1 _ _ hl)
            have lx : (txs xs).length = xs.length := by have z := congrArg List.length ex; rw [List.length_map] at z; exact z.symm
            refine ⟨_, rfl, l, txs xs, rfl, hl1, by omega, _, rfl, l, _, rfl, .inl hl1, ?_⟩
            have e1 := STX.insAll_eq (txs xs)
            rw [← e1] at q
            have q2 : Q (.bl (decide (((STX.insAll (txs xs) []).length : Int) = ((txs xs).length : Int)))) H1 := q
            refine ⟨rfl, ?_⟩
            rw [List.length_map]
            have e3 : decide (V.int ((STX.insAll (txs xs) []).length : Int) = V.int ((txs xs).length : Int)) = decide (((STX.insAll (txs xs) []).length : Int) = ((txs xs).length : Int)) := by
              rw [decide_eq_decide]
              exact ⟨fun z => by injection z, fun z => by rw [z]⟩
            rw [e3]
            exact q2
          · rw [hb] at q
            exact q
    · exact ⟨_, rfl, v, .ty "list", _, _, false, rfl, .ty "list", ht, hk, _, rfl, iteT (iteT q)⟩
end
end PG


set_option Elab.async false
set_option linter.all false
set_option maxRecDepth 100000
set_option maxHeartbeats 4000000
/-! Sorted texts, links, places: plain mathematics. -/
namespace PG
open PySem PySem.Spec PyProof.Rows
theorem lt_irr : ∀ a : List Nat, ltCps a a = false
  | [] => rfl
  | a :: r => by
    show (decide (a < a) || (a == a && ltCps r r)) = false
    rw [lt_irr r, Bool.and_false, Bool.or_false]
    exact decide_eq_false (Nat.lt_irrefl a)
theorem lt_cons {a b : Nat} {r t : List Nat} : ltCps (a :: r) (b :: t) = true ↔ a < b ∨ (a = b ∧ ltCps r t = true) := by
  show (decide (a < b) || (a == b && ltCps r t)) = true ↔ _
  rw [Bool.or_eq_true, Bool.and_eq_true, decide_eq_true_eq, beq_iff_eq]
theorem lt_trans : ∀ {a b c : List Nat}, ltCps a b = true → ltCps b c = true → ltCps a c = true
  | [], [], _, h, _ => nomatch h
  | [], _ :: _, [], _, h => nomatch h
  | [], _ :: _, _ :: _, _, _ => rfl
  | _ :: _, [], _, h, _ => nomatch h
  | _ :: _, _ :: _, [], _, h => nomatch h
  | x :: a, y :: b, z :: c, h1, h2 => by
    rw [lt_cons] at h1 h2 ⊢
    rcases h1 with h1 | ⟨rfl, h1⟩
    · rcases h2 with h2 | ⟨rfl, h2⟩
      · exact .inl (Nat.lt_trans h1 h2)
      · exact .inl h1
    · rcases h2 with h2 | ⟨rfl, h2⟩
      · exact .inl h2
      · exact .inr ⟨rfl, lt_trans h1 h2⟩
theorem lt_tri : ∀ {a b : List Nat}, ltCps a b = false → ltCps b a = false → a = b
  | [], [], _, _ => rfl
  | [], _ :: _, h, _ => nomatch h
  | _ :: _, [], _, h => nomatch h
  | x :: a, y :: b, h1, h2 => by
    have n1 : ¬ (x < y ∨ (x = y ∧ ltCps a b = true)) := fun z => by rw [lt_cons.mpr z] at h1; cases h1
    have n2 : ¬ (y < x ∨ (y = x ∧ ltCps b a = true)) := fun z => by rw [lt_cons.mpr z] at h2; cases h2
    have e : x = y := by
      rcases Nat.lt_trichotomy x y with z | z | z
      · exact absurd (.inl z) n1
      · exact z
      · exact absurd (.inl z) n2
    subst e
    have q1 : ltCps a b = false := by
      cases z : ltCps a b with
      | false => rfl
      | true => exact absurd (.inr ⟨rfl, z⟩) n1
    have q2 : ltCps b a = false := by
      cases z : ltCps b a with
      | false => rfl
      | true => exact absurd (.inr ⟨rfl, z⟩) n2
    rw [lt_tri q1 q2]
/-- not behind -/
def leS (a b : Str) : Prop := ltCps b.cps.toList a.cps.toList = false
instance (a b : Str) : Decidable (leS a b) := inferInstanceAs (Decidable (_ = _))
theorem str_ext {a b : Str} (h : a.cps.toList = b.cps.toList) : a = b := by
  obtain ⟨⟨a⟩⟩ := a
  obtain ⟨⟨b⟩⟩ := b
  cases h
  rfl
theorem leS_refl (a : Str) : leS a a := lt_irr _
theorem leS_anti {a b : Str} (h1 : leS a b) (h2 : leS b a) : a = b := str_ext (lt_tri h2 h1)
theorem leS_trans {a b c : Str} (h1 : leS a b) (h2 : leS b c) : leS a c := by
  unfold leS at *
  cases h : ltCps c.cps.toList a.cps.toList with
  | false => rfl
  | true =>
    cases h3 : ltCps a.cps.toList b.cps.toList with
    | true =>
      rw [lt_trans h h3] at h2
      cases h2
    | false =>
      have e := lt_tri h3 h1
      rw [← e, h] at h2
      cases h2
theorem leS_total {a b : Str} (h : ¬ leS a b) : leS b a := by
  unfold leS at *
  cases h3 : ltCps a.cps.toList b.cps.toList with
  | false => rfl
  | true =>
    cases h4 : ltCps b.cps.toList a.cps.toList with
    | false => exact absurd h4 h
    | true =>
      have z := lt_trans h3 h4
      rw [lt_irr] at z
      cases z
theorem rising_pw : ∀ {l : List Str} {p : Str}, risingS p l = true → (p :: l).Pairwise leS
  | [], p, _ => List.Pairwise.cons (fun _ z => nomatch z) .nil
  | x :: r, p, h => by
    have h' : (!ltCps x.cps.toList p.cps.toList && risingS x r) = true := h
    rw [Bool.and_eq_true] at h'
    have ih := rising_pw h'.2
    have px : leS p x := by
      unfold leS
      have z := h'.1
      cases e : ltCps x.cps.toList p.cps.toList with
      | false => rfl
      | true => rw [e] at z; cases z
    refine List.Pairwise.cons (fun y hy => ?_) ih
    rcases List.mem_cons.mp hy with e | hy
    · rw [e]; exact px
    · exact leS_trans px ((List.pairwise_cons.mp ih).1 y hy)
theorem sorted_pw : ∀ {l : List Str}, sortedS l = true → l.Pairwise leS
  | [], _ => .nil
  | _ :: _, h => rising_pw h
theorem pw_unique : ∀ {xs ys : List Str}, xs.Pairwise leS → ys.Pairwise leS → xs.Perm ys → xs = ys
  | [], ys, _, _, p => (List.Perm.eq_nil p.symm).symm
  | x :: xs, [], _, _, p => absurd (List.Perm.eq_nil p) (by simp)
  | x :: xs, y :: ys, hx, hy, p => by
    have e : x = y := by
      obtain ⟨h1, _⟩ := List.pairwise_cons.mp hx
      obtain ⟨h2, _⟩ := List.pairwise_cons.mp hy
      rcases List.mem_cons.mp (p.mem_iff.mp List.mem_cons_self) with z | z
      · exact z
      · rcases List.mem_cons.mp (p.mem_iff.mpr (List.mem_cons_self (a := y) (l := ys))) with z2 | z2
        · exact z2.symm
        · exact leS_anti (h1 y z2) (h2 x z)
    subst e
    rw [pw_unique (List.pairwise_cons.mp hx).2 (List.pairwise_cons.mp hy).2 ((List.perm_cons x).mp p)]
def put1 (x : Str) : List Str → List Str
  | [] => [x]
  | y :: r => if leS x y then x :: y :: r else y :: put1 x r
def srt : List Str → List Str
  | [] => []
  | x :: r => put1 x (srt r)
theorem put1_perm (x : Str) : ∀ l : List Str, (put1 x l).Perm (x :: l)
  | [] => .refl _
  | y :: r => by
    unfold put1
    split
    · exact .refl _
    · exact ((put1_perm x r).cons y).trans (.swap x y r)
theorem srt_perm : ∀ l : List Str, (srt l).Perm l
  | [] => .nil
  | x :: r => (put1_perm x (srt r)).trans ((srt_perm r).cons x)
theorem put1_pw {x : Str} : ∀ {l : List Str}, l.Pairwise leS → (put1 x l).Pairwise leS
  | [], _ => List.Pairwise.cons (fun _ z => nomatch z) .nil
  | y :: r, h => by
    unfold put1
    obtain ⟨h1, h2⟩ := List.pairwise_cons.mp h
    split
    · rename_i hxy
      refine List.Pairwise.cons (fun z hz => ?_) h
      rcases List.mem_cons.mp hz with e | hz
      · rw [e]; exact hxy
      · exact leS_trans hxy (h1 z hz)
    · rename_i hxy
      refine List.Pairwise.cons (fun z hz => ?_) (put1_pw h2)
      rcases List.mem_cons.mp ((put1_perm x r).mem_iff.mp hz) with e | hz
      · rw [e]; exact leS_total hxy
      · exact h1 z hz
theorem srt_pw : ∀ l : List Str, (srt l).Pairwise leS
  | [] => .nil
  | _ :: r => put1_pw (srt_pw r)
theorem srt_of {ys xs : List Str} (p : ys.Perm xs) (s : sortedS ys = true) : ys = srt xs := pw_unique (sorted_pw s) (srt_pw xs) (p.trans (srt_perm xs).symm)
theorem srt_congr {xs ys : List Str} (p : xs.Perm ys) : srt xs = srt ys := pw_unique (srt_pw xs) (srt_pw ys) ((srt_perm xs).trans (p.trans (srt_perm ys).symm))
theorem srt_mem {x : Str} {l : List Str} : x ∈ srt l ↔ x ∈ l := (srt_perm l).mem_iff
theorem srt_len (l : List Str) : (srt l).length = l.length := (srt_perm l).length_eq
theorem srt_nodup {l : List Str} (h : l.Nodup) : (srt l).Nodup := (srt_perm l).nodup_iff.mpr h
theorem nodup_le : ∀ {xs ys : List Str}, xs.Nodup → (∀ x ∈ xs, x ∈ ys) → xs.length ≤ ys.length
  | [], _, _, _ => Nat.zero_le _
  | a :: xs, ys, n, m => by
    obtain ⟨n1, n2⟩ := List.nodup_cons.mp n
    have ha : a ∈ ys := m a List.mem_cons_self
    have z := nodup_le (xs := xs) (ys := ys.erase a) n2 fun x hx => (List.mem_erase_of_ne (fun e : x = a => n1 (e ▸ hx))).mpr (m x (List.mem_cons_of_mem _ hx))
    rw [List.length_erase_of_mem ha] at z
    have p : 0 < ys.length := List.length_pos_of_mem ha
    rw [List.length_cons]
    omega
theorem srt_same {xs ys : List Str} (h1 : xs.Nodup) (h2 : ys.Nodup) (h : ∀ x, x ∈ xs ↔ x ∈ ys) : srt xs = srt ys := by
  refine srt_congr (STX.perm_of_nodup h2 (fun x hx => (h x).mpr hx) ?_)
  refine Nat.le_antisymm ?_ ?_
  · exact nodup_le h1 fun x hx => (h x).mp hx
  · exact nodup_le h2 fun x hx => (h x).mpr hx
end PG


set_option Elab.async false
set_option linter.all false
set_option maxRecDepth 100000
set_option maxHeartbeats 4000000
namespace PG
open PySem L2
/-! ### what can be come to -/
inductive Rch (ps : List Str) (prs : List (Str × Str)) : Str → Prop where
  | base {x : Str} (h : x ∈ ps) : Rch ps prs x
  | step {x y : Str} (h : Rch ps prs x) (m : (x, y) ∈ prs) : Rch ps prs y
structure RI (ps : List Str) (prs : List (Str × Str)) (fs : List Str) (i : Nat) : Prop where
  nd : fs.Nodup
  sub : ∀ x ∈ ps, x ∈ fs
  rch : ∀ x ∈ fs, Rch ps prs x
  done : ∀ j, j < i → ∀ x, fs[j]? = some x → ∀ y, (x, y) ∈ prs → y ∈ fs
theorem Rch.mem {ps : List Str} {prs : List (Str × Str)} {x : Str} (h : Rch ps prs x) : x ∈ ps ++ prs.map Prod.snd := by
  cases h with
  | base h => exact List.mem_append_left _ h
  | step _ m => exact List.mem_append_right _ (List.mem_map.mpr ⟨_, m, rfl⟩)
theorem RI.len {ps : List Str} {prs : List (Str × Str)} {fs : List Str} {i : Nat} (h : RI ps prs fs i) : fs.length ≤ ps.length + prs.length := by
  have z := nodup_le h.nd fun x hx => (h.rch x hx).mem
  rwa [List.length_append, List.length_map] at z
theorem RI.add {ps : List Str} {prs : List (Str × Str)} {fs : List Str} {i : Nat} {y : Str} (h : RI ps prs fs i) (hi : i ≤ fs.length) (n : y ∉ fs) (r : Rch ps prs y) : RI ps prs (fs ++ [y]) i where
  nd := List.nodup_append.mpr ⟨h.nd, List.nodup_cons.mpr ⟨List.not_mem_nil, List.nodup_nil⟩, fun a ha b hb e => by rw [List.mem_singleton.mp hb] at e; exact n (e ▸ ha)⟩
  sub := fun x hx => List.mem_append_left _ (h.sub x hx)
  rch := fun x hx => by
    rcases List.mem_append.mp hx with z | z
    · exact h.rch x z
    · rw [List.mem_singleton.mp z]; exact r
  done := fun j hj x hx z hz => by
    rw [List.getElem?_append_left (by omega)] at hx
    exact List.mem_append_left _ (h.done j hj x hx z hz)
theorem RI.start {ps : List Str} {prs : List (Str × Str)} (h : ps.Nodup) : RI ps prs ps 0 := ⟨h, fun _ z => z, fun _ z => .base z, fun j z => absurd z (Nat.not_lt_zero j)⟩
/-- the end: all that can be come to, each once -/
theorem RI.fin {ps : List Str} {prs : List (Str × Str)} {fs : List Str} {i : Nat} (h : RI ps prs fs i) (hi : fs.length ≤ i) (x : Str) : x ∈ fs ↔ Rch ps prs x := by
  refine ⟨h.rch x, fun r => ?_⟩
  induction r with
  | base m => exact h.sub _ m
  | @step a b _ m ih =>
    obtain ⟨j, hj, e⟩ := List.getElem_of_mem ih
    exact h.done j (by omega) a (by rw [List.getElem?_eq_getElem hj, e]) b m
section
variable {P : Program} {w : World} {K : PySem.W.Frag} {mg : Str → Option Value} {base : Heap}
abbrev nsReach : List Str := ["places", "pairs", "found", "looked_at", "source", "goal"]
theorem scReach : FnScope nsReach ["places", "pairs"] (defScope sReach) := ⟨rfl, rfl, rfl, by decide +kernel, rfl, by decide +kernel, by decide +kernel⟩
def TwoAt (K : PySem.W.Frag) (H : Hp) (v : V) (pr : Str × Str) : Prop := ∃ t, v = .ref t ∧ SqT K H t [.str pr.1, .str pr.2]
def spReach (K : PySem.W.Frag) : Sp := fun vs H Q _ => ∃ (a b : Addr) (ps : List Str) (ts : List V) (prs : List (Str × Str)), vs = [.ref a, .ref b] ∧ SqL K H a (ps.map V.str) ∧ SqL K H b ts ∧ Paired (TwoAt K H) ts prs ∧ ps.Nodup ∧ ps.length + prs.length ≤ 500 ∧
  ∀ (p : Addr) (fs : List Str) (H' : Hp), H p = none → fs.Nodup → (∀ x, x ∈ fs ↔ Rch ps prs x) → Same H H' → H' p = some (.lst (fs.map V.str)) → Q (.ref p) H'
def looked (σ : L2.St) : Nat := match σ[3]? with
  | some (some (V.int i)) => i.toNat
  | _ => 0
def ReW (H : Hp) (a b p : Addr) (ps : List Str) (prs : List (Str × Str)) (σ : L2.St) (H' : Hp) (i : Nat) (fs : List Str) : Prop :=
  (∃ s4 s5, σ = [some (.ref a), some (.ref b), some (.ref p), some (.int (i : Nat)), s4, s5]) ∧ Same H H' ∧ H' p = some (.lst (fs.map V.str)) ∧ RI ps prs fs i ∧ i ≤ fs.length
theorem ok_reach {f : Addr} {fd : FuncData} (F : Fun K "reached_from" "reached_from" sReach f fd) (T : PT0 mg) : FnOk P w K mg base CX0 1 f fd ["places", "pairs"] (spReach K) := by
  refine F.ok scReach (fun vs H Q E h => ?_) (fun cdv A outer s H vs Q E hr h => ?_)
  · obtain ⟨a, b, ps, ts, prs, rfl, _⟩ := h
    rfl
  · obtain ⟨a, b, ps, ts, prs, rfl, hA, hB, hP, hN, hz, k⟩ := h
    have nd := scReach.nd
    refine ⟨_, pss_cons (ps_set (i := 2) nd rfl (Or.inl rfl) (pe_callTy call_list_of (by rfl) T.list PyProof.Rows.boot_list (pa_cons (pv 0) pa_nil)))
      (pss_cons (ps_set (i := 3) nd rfl (Or.inl rfl) pe_int)
      (pss_cons (ps_while PassesOwn.never (pt_cmpR op_lt (pv 3) (pe_callB call_len_seq (by rfl) T.len PySem.boot_len (pa_cons (pv 2) pa_nil)) (nomark _))
        (pss_cons (ps_for PassesOwn.never rfl (pi_list (pv 1)) (pg_tup rfl (pgs_cons (pg_name (i := 4) nd rfl (Or.inl rfl)) (pgs_cons (pg_name (i := 5) nd rfl (Or.inl rfl)) pgs_nil)))
          (pss_one (ps_if (PW.pt (pw_and (pt_cmpR op_eq (pv 4) (pe_ix ix_list (pv 2) (pv 3) (fun _ _ => rfl)) (nomark _)) (pw_and1 (pt_cmpR op_notIn_seq (pv 5) (pv 2) rfl))))
            (pss_one (ps_expr (pe_bm PySem.F.plainAttrs_list PySem.F.slot_list_append PySem.F.type_list_append mt_append (pv 2) (pa_cons (pv 5) pa_nil)))) pss_nil)))
        (pss_one (ps_aug (i := 3) nd rfl (Or.inl rfl) pe_int ip_add))))
      (pss_one (ps_ret (pv 2))))), ?_⟩
    refine ⟨_, rfl, a, _, rfl, .inl hA, fun p np => ?_⟩
    refine while_by (fun σ H' => ∃ i fs, ReW H a b p ps prs σ H' i fs) (fun σ H' => 600 - looked σ) ?_ ?_ ?_
    · exact ⟨0, ps, ⟨none, none, rfl⟩, sm np, upd_same, RI.start hN, Nat.zero_le _⟩
    · rintro σ H1 ⟨i, fs, ⟨s4, s5, rfl⟩, s1, h1, R, hi⟩
      have lf := R.len
      refine ⟨_, rfl, _, rfl, p, _, rfl, .inl (SqL.of h1), _, _, rfl, rfl, _, rfl, ite2 (fun hlt => ?_) (fun hlt => ?_)⟩
      · have lt : i < fs.length := by
          have z := of_decide_eq_true hlt
          rw [List.length_map] at z
          omega
        obtain ⟨c, hc⟩ : ∃ c, fs[i]? = some c := ⟨_, List.getElem?_eq_getElem lt⟩
        refine ⟨_, rfl, b, rfl, ⟨ts, sqL_same hB s1⟩, for_it walk_list (fun j σ' H' => ∃ fs', ReW H a b p ps prs σ' H' i fs' ∧ i < fs'.length ∧ fs'[i]? = some c ∧ ∀ x y, (x, y) ∈ prs.take j → x = c → y ∈ fs') ⟨fs, ⟨⟨s4, s5, rfl⟩, s1, h1, R, hi⟩, lt, hc, fun x y z => by simp at z⟩ (fun j σ' H' _ ⟨fs', q, _⟩ => sqL_same hB q.2.1) ?_ ?_⟩
        · rintro j v σ2 H2 H3 hj ⟨fs2, ⟨⟨t4, t5, rfl⟩, s2, h2, R2, hi2⟩, lt2, hc2, hd2⟩ ⟨rfl, hv⟩
          obtain ⟨⟨x, y⟩, hxy, t, rfl, ht⟩ := paired_at hP hv
          have l2 := R2.len
          have mx : (x, y) ∈ prs := List.mem_of_getElem? hxy
          have tk : ∀ {fs3 : List Str}, (∀ x y, (x, y) ∈ prs.take j → x = c → y ∈ fs3) → (x = c → y ∈ fs3) → ∀ x y, (x, y) ∈ prs.take (j + 1) → x = c → y ∈ fs3 := fun g1 g2 u v m e => by
            rw [List.take_add_one, hxy] at m
            rcases List.mem_append.mp m with m | m
            · exact g1 u v m e
            · obtain ⟨rfl, rfl⟩ := Prod.mk.inj (List.mem_singleton.mp m)
              exact g2 e
          refine ⟨t, _, rfl, sqT_same ht s2, rfl, _, _, rfl, _, _, rfl, rfl, ?_⟩
          refine ⟨_, rfl, _, rfl, _, rfl, p, _, _, _, rfl, rfl, SqL.of h2, atI_nat (j := i) (by rw [List.getElem?_map, hc2]; rfl), rfl, _, rfl, ?_⟩
          refine ite2 (fun he => ?_) (fun he => ?_)
          · have exc : x = c := by
              have z := of_decide_eq_true he
              injection z
            refine ⟨_, rfl, _, rfl, p, _, rfl, .inl (SqL.of h2), rfl, flat_strs _, _, rfl, ?_⟩
            rw [if_pos rfl, inV_strs]
            refine iteB (fun hn => ?_) (fun hn => ?_)
            · have ny : y ∉ fs2 := by simpa using hn
              refine ⟨_, rfl, .inl ⟨rfl, _, SqL.of h2⟩, _, rfl, p, _, _, rfl, rfl, h2, ?_, ?_⟩
              · rw [List.length_map]; exact small1000 (by omega)
              · refine ⟨fs2 ++ [y], ⟨⟨_, _, rfl⟩, ?_, ?_, R2.add hi2 ny (.step (R2.rch c (List.mem_of_getElem? hc2)) (exc ▸ mx)), by rw [List.length_append]; omega⟩, by rw [List.length_append]; omega, by rw [List.getElem?_append_left lt2]; exact hc2, ?_⟩
                · intro q o e
                  rw [upd_ne (ne_of_none e np)]
                  exact s2 q o e
                · rw [upd_same, List.map_append]
                  rfl
                · exact tk (fun u v m e => List.mem_append_left _ (hd2 u v m e)) (fun _ => List.mem_append_right _ List.mem_cons_self)
            · have yy : y ∈ fs2 := by simpa using hn
              exact ⟨fs2, ⟨⟨_, _, rfl⟩, s2, h2, R2, hi2⟩, lt2, hc2, tk hd2 (fun _ => yy)⟩
          · have nxc : x ≠ c := fun z => he (decide_eq_true (by rw [z]))
            exact ⟨fs2, ⟨⟨_, _, rfl⟩, s2, h2, R2, hi2⟩, lt2, hc2, tk hd2 (fun z => absurd z nxc)⟩
        · rintro σ2 H2 ⟨fs2, ⟨⟨t4, t5, rfl⟩, s2, h2, R2, hi2⟩, lt2, hc2, hd2⟩
          have e : prs.take ts.length = prs := by rw [Paired.length hP, List.take_length]
          rw [e] at hd2
          refine ⟨_, rfl, _, _, rfl, rfl, ⟨i + 1, fs2, ⟨⟨_, _, rfl⟩, s2, h2, ⟨R2.nd, R2.sub, R2.rch, fun j hj x hx y m => ?_⟩, lt2⟩⟩, ?_⟩
          · by_cases z : j < i
            · exact R2.done j z x hx y m
            · have ej : j = i := by omega
              subst ej
              rw [hc2] at hx
              exact hd2 x y m (Option.some.inj hx).symm
          · have l2 := R2.len
            show 600 - ((i : Int) + 1).toNat < 600 - (i : Int).toNat
            omega
      · refine ⟨_, rfl, ?_⟩
        have ge : fs.length ≤ i := by
          have z : ¬ ((i : Int) < ((fs.map V.str).length : Int)) := fun z => hlt (decide_eq_true z)
          rw [List.length_map] at z
          omega
        exact k p fs H1 np R.nd (R.fin ge) s1 h1
    · intro σ H1 Q1 Q2 hq h
      obtain ⟨v, e, v2, e2, p2, xs, e3, hp, i, j, ei, ej, b, eb, h⟩ := h
      exact ⟨v, e, v2, e2, p2, xs, e3, hp, i, j, ei, ej, b, eb, hq _ _ h⟩
end
end PG


set_option Elab.async false
set_option linter.all false
set_option maxRecDepth 100000
set_option maxHeartbeats 4000000
namespace PG
open PySem L2
/-! ### links -/
abbrev Lk := Str × Str × Str
def ends (ls : List Lk) : List Str := ls.flatMap fun l => [l.2.1, l.2.2]
def keysL (ls : List Lk) : List Str := ls.map (·.1)
def plc (ls : List Lk) : List Str := srt (STX.insAll (ends ls) [])
def lkp : List Lk → Str → Str × Str
  | [], _ => (Str.empty, Str.empty)
  | l :: r, w => if l.1 = w then l.2 else lkp r w
def srtL (ls : List Lk) : List Lk := (srt (keysL ls)).map fun w => (w, lkp ls w)
theorem lkp_mem : ∀ {ls : List Lk} {w : Str}, w ∈ keysL ls → (w, lkp ls w) ∈ ls
  | [], _, h => nomatch h
  | l :: r, w, h => by
    unfold lkp
    by_cases e : l.1 = w
    · rw [if_pos e, ← e]
      exact List.mem_cons_self
    · rw [if_neg e]
      rcases List.mem_cons.mp h with z | z
      · exact absurd z.symm e
      · exact List.mem_cons_of_mem _ (lkp_mem z)
theorem key_mem {ls : List Lk} {l : Lk} (h : l ∈ ls) : l.1 ∈ keysL ls := List.mem_map.mpr ⟨l, h, rfl⟩
theorem lkp_of : ∀ {ls : List Lk} {l : Lk}, (keysL ls).Nodup → l ∈ ls → lkp ls l.1 = l.2
  | [], _, _, h => nomatch h
  | a :: r, l, n, h => by
    obtain ⟨n1, n2⟩ := List.nodup_cons.mp n
    unfold lkp
    rcases List.mem_cons.mp h with z | z
    · rw [z, if_pos rfl]
    · rw [if_neg fun e => n1 (by show a.1 ∈ keysL r; rw [e]; exact key_mem z), lkp_of n2 z]
theorem srtL_keys (ls : List Lk) : keysL (srtL ls) = srt (keysL ls) := by
  unfold srtL
  show List.map _ (List.map _ _) = _
  rw [List.map_map]
  exact List.map_id' _
theorem srtL_mem {ls : List Lk} (n : (keysL ls).Nodup) {l : Lk} : l ∈ srtL ls ↔ l ∈ ls := by
  unfold srtL
  rw [List.mem_map]
  constructor
  · rintro ⟨w, hw, rfl⟩
    exact lkp_mem (srt_mem.mp hw)
  · intro h
    exact ⟨l.1, srt_mem.mpr (key_mem h), by rw [lkp_of n h]⟩
theorem srtL_len (ls : List Lk) : (srtL ls).length = ls.length := by
  unfold srtL
  rw [List.length_map, srt_len]
  exact List.length_map _
theorem srtL_nodup {ls : List Lk} (n : (keysL ls).Nodup) : (keysL (srtL ls)).Nodup := by
  rw [srtL_keys]
  exact srt_nodup n
theorem srtL_lkp {ls : List Lk} (n : (keysL ls).Nodup) {w : Str} (h : w ∈ keysL ls) : lkp (srtL ls) w = lkp ls w :=
  lkp_of (srtL_nodup n) ((srtL_mem n).mpr (lkp_mem h))
theorem ends_mem {ls : List Lk} {x : Str} : x ∈ ends ls ↔ ∃ l ∈ ls, x = l.2.1 ∨ x = l.2.2 := by
  unfold ends
  rw [List.mem_flatMap]
  constructor
  · rintro ⟨l, hl, h⟩
    refine ⟨l, hl, ?_⟩
    rcases List.mem_cons.mp h with z | z
    · exact .inl z
    · exact .inr (List.mem_singleton.mp z)
  · rintro ⟨l, hl, h | h⟩
    · exact ⟨l, hl, by rw [h]; exact List.mem_cons_self⟩
    · exact ⟨l, hl, by rw [h]; exact List.mem_cons_of_mem _ List.mem_cons_self⟩
theorem insAll_nd : ∀ {ws l : List Str}, l.Nodup → (STX.insAll ws l).Nodup
  | [], _, h => h
  | k :: ws, l, h => by
    refine insAll_nd (ws := ws) ?_
    unfold STX.ins
    split
    · exact h
    · rename_i z
      exact List.nodup_cons.mpr ⟨z, h⟩
theorem plc_mem {ls : List Lk} {x : Str} : x ∈ plc ls ↔ x ∈ ends ls := by
  unfold plc
  rw [srt_mem, STX.insAll_mem]
  exact ⟨fun h => h.elim id fun z => (nomatch z), .inl⟩
theorem plc_nodup (ls : List Lk) : (plc ls).Nodup := srt_nodup (insAll_nd List.nodup_nil)
theorem plc_congr {ls ls' : List Lk} (h : ∀ l, l ∈ ls ↔ l ∈ ls') : plc ls = plc ls' := by
  refine srt_same (insAll_nd List.nodup_nil) (insAll_nd List.nodup_nil) fun x => ?_
  rw [STX.insAll_mem, STX.insAll_mem, ends_mem, ends_mem]
  constructor
  · rintro (⟨l, hl, z⟩ | z)
    · exact .inl ⟨l, (h l).mp hl, z⟩
    · exact nomatch z
  · rintro (⟨l, hl, z⟩ | z)
    · exact .inl ⟨l, (h l).mpr hl, z⟩
    · exact nomatch z
theorem plc_srtL {ls : List Lk} (n : (keysL ls).Nodup) : plc (srtL ls) = plc ls := plc_congr fun _ => srtL_mem n
/-! ### links in the heap -/
def LkAt (K : PySem.W.Frag) (H : Hp) (kv : Key × V) (l : Lk) : Prop := kv.1 = Sum.inr l.1 ∧ TwoAt K H kv.2 l.2
abbrev Lks (K : PySem.W.Frag) (H : Hp) (kvs : List (Key × V)) (ls : List Lk) : Prop := Paired (LkAt K H) kvs ls
theorem Paired.imp {α β : Type} {R S : α → β → Prop} (h : ∀ a b, R a b → S a b) : ∀ {xs : List α} {ys : List β}, Paired R xs ys → Paired S xs ys
  | _, _, .nil => .nil
  | _, _, .cons r rs => .cons (h _ _ r) (Paired.imp h rs)
theorem paired_snoc {α β : Type} {R : α → β → Prop} {a : α} {b : β} : ∀ {xs : List α} {ys : List β}, Paired R xs ys → R a b → Paired R (xs ++ [a]) (ys ++ [b])
  | _, _, .nil, h => .cons h .nil
  | _, _, .cons r rs, h => .cons r (paired_snoc rs h)
theorem TwoAt.same {K : PySem.W.Frag} {H H' : Hp} {v : V} {p : Str × Str} (h : TwoAt K H v p) (s : Same H H') : TwoAt K H' v p := by
  obtain ⟨t, e, h⟩ := h
  exact ⟨t, e, sqT_same h s⟩
theorem Lks.same {K : PySem.W.Frag} {H H' : Hp} {kvs : List (Key × V)} {ls : List Lk} (h : Lks K H kvs ls) (s : Same H H') : Lks K H' kvs ls := Paired.imp (fun _ _ q => ⟨q.1, q.2.same s⟩) h
theorem Lks.lock {K : PySem.W.Frag} {H : Hp} {a : Addr} {od : Obj} {k2 kvs : List (Key × V)} {ls : List Lk} (h : Lks K H kvs ls) (ha : H a = some (.dK k2)) : Lks K (upd H a (.frz od (.dK k2))) kvs ls :=
  Paired.imp (fun _ _ q => by
    obtain ⟨e, t, e2, z⟩ := q
    exact ⟨e, t, e2, sqT_lock z ha⟩) h
theorem lks_val {K : PySem.W.Frag} {H : Hp} {w : Str} : ∀ {kvs : List (Key × V)} {ls : List Lk}, Lks K H kvs ls → w ∈ keysL ls → ∃ t, valV kvs (Sum.inr w : Key) = some (.ref t) ∧ SqT K H t [.str (lkp ls w).1, .str (lkp ls w).2]
  | _, _, .nil, h => nomatch h
  | _, _, .cons (a := kv) (b := l) ⟨e, t, e2, z⟩ rs, h => by
    unfold lkp
    by_cases c : l.1 = w
    · refine ⟨t, by rw [valV_pos (by rw [e, c]), e2], ?_⟩
      rw [if_pos c]
      exact z
    · rcases List.mem_cons.mp h with y | y
      · exact absurd y.symm c
      · obtain ⟨t', h1, h2⟩ := lks_val rs y
        refine ⟨t', by rw [valV_neg (by rw [e]; exact fun q => c (Sum.inr.inj q)), h1], ?_⟩
        rw [if_neg c]
        exact h2
theorem lks_keys {K : PySem.W.Frag} {H : Hp} : ∀ {kvs : List (Key × V)} {ls : List Lk}, Lks K H kvs ls → kvs.map (·.1) = (keysL ls).map Sum.inr
  | _, _, .nil => rfl
  | _, _, .cons ⟨e, _⟩ rs => by
    rw [List.map_cons, e, lks_keys rs]
    rfl
theorem lks_none {K : PySem.W.Frag} {H : Hp} {w : Str} : ∀ {kvs : List (Key × V)} {ls : List Lk}, Lks K H kvs ls → w ∉ keysL ls → valV kvs (Sum.inr w : Key) = none
  | _, _, .nil, _ => rfl
  | _, _, .cons (a := kv) (b := l) ⟨e, _⟩ rs, h => by
    rw [valV_neg (by rw [e]; exact fun q => h (List.mem_cons.mpr (.inl (Sum.inr.inj q).symm)))]
    exact lks_none rs fun z => h (List.mem_cons_of_mem _ z)
/-! ### programs in the heap -/
structure PD where
  ls : List Lk
  ps : List Str
  b : Str
  fs : List Str
def pdOf (ls : List Lk) (b : Str) (es : List Str) : PD := ⟨srtL ls, plc ls, b, srt es⟩
structure ProgAt (K : PySem.W.Frag) (C : Addr) (H : Hp) (x dx L S F : Addr) (d : PD) : Prop where
  ins : H x = some (.ins C dx [("links", .ref L), ("spots", .ref S), ("origin", .str d.b), ("finals", .ref F)])
  lk : ∃ kvs, H L = some (.dK kvs) ∧ Lks K H kvs d.ls
  sp : H S = some (.lst (d.ps.map V.str))
  fi : H F = some (.lst (d.fs.map V.str))
theorem ProgAt.same {K : PySem.W.Frag} {C : Addr} {H H' : Hp} {x dx L S F : Addr} {d : PD} (h : ProgAt K C H x dx L S F d) (s : Same H H') : ProgAt K C H' x dx L S F d := by
  obtain ⟨i, ⟨kvs, l, lk⟩, p, f⟩ := h
  exact ⟨s _ _ i, ⟨kvs, s _ _ l, lk.same s⟩, s _ _ p, s _ _ f⟩
structure GoodP (ls : List Lk) (b : Str) (es : List Str) : Prop where
  n1 : 1 ≤ ls.length
  n2 : ls.length ≤ 40
  sm : (plc ls).length < 64
  nd : (keysL ls).Nodup
  wd : ∀ l ∈ ls, isWord l.1 = true ∧ isWord l.2.1 = true ∧ isWord l.2.2 = true
  hb : b ∈ ends ls
  he : es ≠ []
  hs : ∀ e ∈ es, e ∈ ends ls
  hn : es.Nodup
  reach : ∀ x ∈ ends ls, Rch [b] (ls.map (·.2)) x
  leave : ∀ x ∈ ends ls, Rch es (ls.map fun l => (l.2.2, l.2.1)) x
theorem Rch.mono {ps ps' : List Str} {prs prs' : List (Str × Str)} (h1 : ∀ x ∈ ps, x ∈ ps') (h2 : ∀ p ∈ prs, p ∈ prs') {x : Str} (h : Rch ps prs x) : Rch ps' prs' x := by
  induction h with
  | base h => exact .base (h1 _ h)
  | step _ m ih => exact .step ih (h2 _ m)
theorem ps_dead {X : Cx} {st : Stmt} : PS X st (fun _ _ _ => False) := ⟨fun _ _ _ _ _ _ h => h.elim⟩
theorem pss_dead {X : Cx} {sts : List Stmt} : PSs X sts (fun _ _ _ => False) := ⟨fun _ _ _ _ _ _ h => h.elim⟩
theorem iteNF {A B : Prop} (h : B) : if (!true) = true then A else B := h
/-! ### comprehensions whose turns keep the heap -/
theorem lc_keep {J : It} {n : Nat} {G : Hp → Prop} {Y : Nat → Hp → V → Hp → Prop} (w : Walk J n G Y) {g : TG} {tt : TT} {te : TE} {vs : List Nat} {σ : L2.St} {H1 : Hp} {D : Addr} {Qd : Hp → Prop} (nD : H1 D = none) (out : Nat → List V) (o0 : out 0 = []) (ol : ∀ i, i ≤ n → (out i).length ≤ 1000) (hG : ∀ H, Same H1 H → G H)
    (hs : ∀ i x H H' (Pn : Hp → Prop), i < n → Same H1 H → Y i H x H' → (∀ H4 y, Same H H4 → out (i + 1) = out i ++ [y] → ∃ acc, H4 D = some (.lst acc) ∧ acc.length < sizeLine ∧ Pn (upd H4 D (.lst (acc ++ [y])))) → (∀ H3, Same H H3 → out (i + 1) = out i → Pn H3) →
      g x (wipe σ vs) H' fun σ2 H2 => wipe σ2 vs = wipe σ vs ∧ tt σ2 H2 fun b H3 => if b = true then te σ2 H3 fun y H4 => ∃ acc, H4 D = some (.lst acc) ∧ acc.length < sizeLine ∧ Pn (upd H4 D (.lst (acc ++ [y]))) else Pn H3)
    (hd : ∀ H, Same H1 H → H D = some (.lst (out n)) → Qd H) :
    ∃ W : Nat → Nat → Hp → Prop, (∃ m, W 0 m (upd H1 D (.lst []))) ∧ ∀ i m H, W i m H →
      (J.stop i H ∧ Qd H) ∨ (J.go i H ∧ ∃ Nx : Hp → Prop, (∀ H', Nx H' → ∃ m', m' < m ∧ W (i + 1) m' H') ∧ ∀ x H', J.yld i H x H' → g x (wipe σ vs) H' fun σ2 H2 => wipe σ2 vs = wipe σ vs ∧ tt σ2 H2 fun b H3 =>
        if b = true then te σ2 H3 fun y H4 => ∃ acc, H4 D = some (.lst acc) ∧ acc.length < sizeLine ∧ Nx (upd H4 D (.lst (acc ++ [y]))) else Nx H3) := by
  refine lc_it w (fun i H' => Same H1 H' ∧ H' D = some (.lst (out i))) ⟨sm nD, by rw [upd_same, o0]⟩ (fun i H _ p => hG H p.1) ?_ (fun H p => hd H p.1 p.2)
  rintro i x H H' hi ⟨s1, hD⟩ y
  refine hs i x H H' _ hi s1 y (fun H4 z s4 e => ?_) (fun H3 s3 e => ?_)
  · refine ⟨_, s4 _ _ hD, small1000 (ol i (Nat.le_of_lt hi)), fun b o q => ?_, by rw [upd_same, e]⟩
    rw [upd_ne (ne_of_none q nD)]
    exact s4 _ _ (s1 b o q)
  · exact ⟨s1.trans s3, by rw [e]; exact s3 _ _ hD⟩
theorem dc_it {J : It} {n : Nat} {G : Hp → Prop} {Y : Nat → Hp → V → Hp → Prop} (w : Walk J n G Y) {g : TG} {tt : TT} {tk tv : TE} {vs : List Nat} {σ : L2.St} {H1 : Hp} {D : Addr} {Qd : Hp → Prop} (Pv : Nat → Hp → Prop) (h0 : Pv 0 (upd H1 D (.dK []))) (hG : ∀ i H, i ≤ n → Pv i H → G H)
    (hs : ∀ i x H H', i < n → Pv i H → Y i H x H' → g x (wipe σ vs) H' fun σ2 H2 => wipe σ2 vs = wipe σ vs ∧ tt σ2 H2 fun b H3 => if b = true then tk σ2 H3 fun y H4 => tv σ2 H4 fun z H5 => ∃ kvs k, y = kV k ∧ H5 D = some (.dK kvs) ∧ kvs.length < sizeLine ∧ Pv (i + 1) (upd H5 D (.dK (putK kvs k z))) else Pv (i + 1) H3)
    (hd : ∀ H, Pv n H → Qd H) :
    ∃ W : Nat → Nat → Hp → Prop, (∃ m, W 0 m (upd H1 D (.dK []))) ∧ ∀ i m H, W i m H →
      (J.stop i H ∧ Qd H) ∨ (J.go i H ∧ ∃ Nx : Hp → Prop, (∀ H', Nx H' → ∃ m', m' < m ∧ W (i + 1) m' H') ∧ ∀ x H', J.yld i H x H' → g x (wipe σ vs) H' fun σ2 H2 => wipe σ2 vs = wipe σ vs ∧ tt σ2 H2 fun b H3 =>
        if b = true then tk σ2 H3 fun y H4 => tv σ2 H4 fun z H5 => ∃ kvs k, y = kV k ∧ H5 D = some (.dK kvs) ∧ kvs.length < sizeLine ∧ Nx (upd H5 D (.dK (putK kvs k z))) else Nx H3) := by
  refine ⟨fun i m H => m = n - i ∧ i ≤ n ∧ Pv i H, ⟨n, (Nat.sub_zero n).symm, Nat.zero_le _, h0⟩, ?_⟩
  rintro i m H ⟨rfl, hi, p⟩
  by_cases lt : i < n
  · exact .inr ⟨w.goes i H lt (hG i H hi p), Pv (i + 1), fun H' p' => ⟨n - (i + 1), by omega, rfl, lt, p'⟩, fun x H' y => hs i x H H' lt p (w.yields i H x H' lt (hG i H hi p) y)⟩
  · have e : i = n := by omega
    subst e
    exact .inl ⟨w.stops H (hG i H hi p), hd H p⟩
end PG


set_option Elab.async false
set_option linter.all false
set_option maxRecDepth 100000
set_option maxHeartbeats 4000000
namespace PG
open PySem L2
theorem word_len {x : Str} (h : isWord x = true) : x.length ≤ 8 := by
  unfold isWord at h
  rw [Bool.and_eq_true, Bool.and_eq_true] at h
  exact of_decide_eq_true h.2.1
theorem two_is {K : PySem.W.Frag} {H : Hp} {v : V} {p : Str × Str} (h : TwoAt K H v p) (w1 : isWord p.1 = true) (w2 : isWord p.2 = true) : LinkIs K H v true := by
  obtain ⟨t, rfl, h⟩ := h
  have z := LinkIs.two (K := K) (H := H) h (.str (Nat.le_trans (word_len w1) (by decide))) (.str (Nat.le_trans (word_len w2) (by decide)))
  have e1 : wordV (.str p.1) = true := w1
  have e2 : wordV (.str p.2) = true := w2
  rw [e1, e2] at z
  exact z
theorem lks_items {K : PySem.W.Frag} {H : Hp} : ∀ {kvs : List (Key × V)} {ls : List Lk}, Lks K H kvs ls → (∀ l ∈ ls, isWord l.1 = true ∧ isWord l.2.1 = true ∧ isWord l.2.2 = true) → Paired (ItemIs K H) kvs (ls.map fun _ => true)
  | _, _, .nil, _ => .nil
  | _, _, .cons (a := kv) (b := l) ⟨e, h⟩ rs, wd => by
    obtain ⟨w1, w2, w3⟩ := wd l List.mem_cons_self
    refine .cons ⟨true, ?_, two_is h w2 w3, ?_⟩ (lks_items rs fun l hl => wd l (List.mem_cons_of_mem _ hl))
    · rw [e]
      exact .str (Nat.le_trans (word_len w1) (by decide))
    · rw [e]
      show true = (isWord l.1 && true)
      rw [w1]
      rfl
theorem all_true {α : Type} : ∀ ls : List α, (ls.map fun _ => true).all id = true
  | [] => rfl
  | _ :: r => all_true r
theorem lks_at {K : PySem.W.Frag} {H : Hp} {kvs : List (Key × V)} {ls : List Lk} {i : Nat} {kv : Key × V} (h : Lks K H kvs ls) (e : kvs[i]? = some kv) : ∃ l, ls[i]? = some l ∧ kv.1 = Sum.inr l.1 ∧ TwoAt K H kv.2 l.2 := by
  obtain ⟨l, h1, h2⟩ := paired_at h e
  exact ⟨l, h1, h2⟩
theorem ends_snoc (ls : List Lk) (l : Lk) : ends (ls ++ [l]) = ends ls ++ [l.2.1, l.2.2] := by
  unfold ends
  rw [List.flatMap_append]
  simp
theorem insAll_app : ∀ (a b l : List Str), STX.insAll (a ++ b) l = STX.insAll b (STX.insAll a l)
  | [], _, _ => rfl
  | _ :: a, b, _ => insAll_app a b _
theorem ends_len : ∀ ls : List Lk, (ends ls).length = 2 * ls.length
  | [] => rfl
  | l :: r => by
    have z := ends_len r
    show (_ ++ ends r).length = _
    rw [List.length_append, z, List.length_cons]
    show 2 + 2 * r.length = 2 * (r.length + 1)
    omega
theorem pair_uniq {K : PySem.W.Frag} {H : Hp} {kvs : List (Key × V)} {ls : List Lk} {i : Nat} {l : Lk} (h : Lks K H kvs ls) (n : (keysL ls).Nodup) (e : ls[i]? = some l) : ∃ t, valV kvs (Sum.inr l.1 : Key) = some (.ref t) ∧ SqT K H t [.str l.2.1, .str l.2.2] := by
  have m := List.mem_of_getElem? e
  obtain ⟨t, h1, h2⟩ := lks_val h (key_mem m)
  rw [lkp_of n m] at h2
  exact ⟨t, h1, h2⟩
/-- d[k] of links, also while they are walked -/
theorem lk_get {K : PySem.W.Frag} {H : Hp} {a : Addr} {kvs : List (Key × V)} {ls : List Lk} {l : Lk} (r : Rd H a (.dK kvs)) (h : Lks K H kvs ls) (n : (keysL ls).Nodup) (m : l ∈ ls) : ∃ t, DGet H a (.str l.1) (some (.ref t)) ∧ SqT K H t [.str l.2.1, .str l.2.2] := by
  obtain ⟨t, h1, h2⟩ := lks_val h (key_mem m)
  rw [lkp_of n m] at h2
  refine ⟨t, ?_, h2⟩
  rw [← h1]
  exact .inl ⟨kvs, Sum.inr l.1, r, rfl, rfl⟩
section
variable {P : Program} {w : World} {K : PySem.W.Frag}
/-- {place for way in links for place in links[way]} -/
theorem rd_ends {H : Hp} {L D : Addr} {od : Obj} {kvs : List (Key × V)} {ls : List Lk} {s0 s1 s2 s3 : Option V} {Q : Hp → Prop} (hL : H L = some (.frz od (.dK kvs))) (hK : Lks K H kvs ls) (hn : (keysL ls).Nodup) (hz : ls.length ≤ 40) (nD : H D = none)
    (k : ∀ H', Same H H' → H' D = some (STX.TxO P w D (STX.insAll (ends ls) [])) → Q H') :
    ∃ W : Nat → Nat → Hp → Prop, (∃ m, W 0 m (upd H D (STX.TxO P w D []))) ∧ ∀ i m H, W i m H →
  ((Itk L od kvs).stop i H ∧ Q H) ∨ ((Itk L od kvs).go i H ∧ ∃ Nx : Hp → Prop, (∀ H', Nx H' → ∃ m', m' < m ∧ W (i + 1) m' H') ∧ ∀ x H', (Itk L od kvs).yld i H x H' → gName 6 x (wipe [s0, s1, s2, s3, some (V.ref L), none, none, none] [6, 7]) H' fun σ2 H2 => wipe σ2 [6, 7] = wipe [s0, s1, s2, s3, some (V.ref L), none, none, none] [6, 7] ∧ tYes σ2 H2 fun b H3 =>
    if b = true then iTup K (tDGet (tVar 4) (tVar 6)) σ2 H3 fun J1 H4 => ∃ W1 : Nat → Nat → Hp → Prop, (∃ m, W1 0 m H4) ∧ ∀ j k H, W1 j k H →
      (J1.stop j H ∧ Nx H) ∨ (J1.go j H ∧ ∃ Nx1 : Hp → Prop, (∀ H', Nx1 H' → ∃ k', k' < k ∧ W1 (j + 1) k' H') ∧ ∀ x H', J1.yld j H x H' → gName 7 x (wipe σ2 [7]) H' fun σ3 H5 => wipe σ3 [7] = wipe σ2 [7] ∧ tYes σ3 H5 fun b H6 =>
        if b = true then tVar 7 σ3 H6 fun y H7 => ∃ (k : Str) (l : List Str), y = .str k ∧ H7 D = some (STX.TxO P w D l) ∧ l.length + 1 < scanBound ∧ Nx1 (upd H7 D (STX.TxO P w D (STX.ins k l))) else Nx1 H6)
    else Nx H3) := by
  have lk : kvs.length = ls.length := Paired.length hK
  refine ⟨fun i m H' => m = ls.length - i ∧ i ≤ ls.length ∧ Same H H' ∧ H' D = some (STX.TxO P w D (STX.insAll (ends (ls.take i)) [])), ⟨_, rfl, Nat.zero_le _, sm nD, upd_same⟩, ?_⟩
  rintro i m H1 ⟨rfl, hi, s1, hD⟩
  by_cases lt : i < ls.length
  · refine .inr ⟨⟨s1 _ _ hL, by omega⟩, fun H' => Same H H' ∧ H' D = some (STX.TxO P w D (STX.insAll (ends (ls.take (i + 1))) [])), fun H' p' => ⟨_, by omega, rfl, lt, p'.1, p'.2⟩, ?_⟩
    rintro v H2 ⟨rfl, kk, vv, ekv, rfl⟩
    obtain ⟨l, hl, e1, _⟩ := lks_at hK ekv
    have e1' : kk = Sum.inr l.1 := e1
    subst e1'
    obtain ⟨t, hv, h2⟩ := pair_uniq hK hn hl
    have h1 : DGet H2 L (.str l.1) (some (.ref t)) := by
      rw [← hv]
      exact .inl ⟨kvs, Sum.inr l.1, .inr ⟨od, s1 _ _ hL⟩, rfl, rfl⟩
    refine ⟨rfl, ?_⟩
    unfold tYes
    dsimp only
    rw [if_pos rfl]
    have et : ls.take (i + 1) = ls.take i ++ [l] := by rw [List.take_add_one, hl]; rfl
    have base1 : (STX.insAll (ends (ls.take i)) []).length ≤ 80 := by
      have z := STX.insAll_len (ends (ls.take i)) []
      have z3 : (ls.take i).length ≤ ls.length := List.length_take_le' i ls
      rw [ends_len, List.length_nil] at z
      omega
    refine ⟨_, rfl, _, rfl, L, .ref t, rfl, h1, t, rfl, ⟨_, sqT_same h2 s1⟩, fun j k' H' => k' = 2 - j ∧ j ≤ 2 ∧ Same H H' ∧ H' D = some (STX.TxO P w D (STX.insAll ([l.2.1, l.2.2].take j) (STX.insAll (ends (ls.take i)) []))), ⟨_, rfl, by decide, s1, hD⟩, ?_⟩
    rintro j k' H4 ⟨rfl, hj, s4, hD4⟩
    have ht4 : SqT K H4 t [.str l.2.1, .str l.2.2] := sqT_same h2 s4
    by_cases lj : j < 2
    · obtain ⟨z, hz1, hz2⟩ : ∃ z : Str, [V.str l.2.1, V.str l.2.2][j]? = some (.str z) ∧ [l.2.1, l.2.2].take (j + 1) = [l.2.1, l.2.2].take j ++ [z] := by
        have : j = 0 ∨ j = 1 := by omega
        rcases this with rfl | rfl
        · exact ⟨_, rfl, rfl⟩
        · exact ⟨_, rfl, rfl⟩
      refine .inr ⟨⟨_, _, ht4, hz1⟩, fun H' => Same H H' ∧ H' D = some (STX.TxO P w D (STX.insAll ([l.2.1, l.2.2].take (j + 1)) (STX.insAll (ends (ls.take i)) []))), fun H' p' => ⟨_, by omega, rfl, lj, p'.1, p'.2⟩, ?_⟩
      rintro v H5 ⟨rfl, hv5⟩
      have ev := hv5 _ ht4
      rw [hz1] at ev
      cases ev
      refine ⟨rfl, ?_⟩
      rw [if_pos rfl]
      refine ⟨_, rfl, z, _, rfl, hD4, ?_, fun b o e => ?_, ?_⟩
      · have q := STX.insAll_len ([l.2.1, l.2.2].take j) (STX.insAll (ends (ls.take i)) [])
        have q2 : ([l.2.1, l.2.2].take j).length ≤ 2 := List.length_take_le' j _
        unfold scanBound
        omega
      · rw [upd_ne (ne_of_none e nD)]
        exact s4 b o e
      · rw [upd_same, hz2, STX.insAll_snoc]
    · have ej : j = 2 := by omega
      subst ej
      refine .inl ⟨⟨_, ht4, Nat.le_refl 2⟩, s4, ?_⟩
      rw [et, ends_snoc, insAll_app]
      exact hD4
  · have e : i = ls.length := by omega
    subst e
    rw [List.take_length] at hD
    exact .inl ⟨⟨s1 _ _ hL, by omega⟩, k H1 s1 hD⟩
end
end PG


set_option Elab.async false
set_option linter.all false
set_option maxRecDepth 100000
set_option maxHeartbeats 4000000
namespace PG
open PySem L2
theorem lc_rel {β : Type} {J : It} {n : Nat} {G : Hp → Prop} {Y : Nat → Hp → V → Hp → Prop} (w : Walk J n G Y) {g : TG} {tt : TT} {te : TE} {vs : List Nat} {σ : L2.St} {H1 : Hp} {D : Addr} {Qd : Hp → Prop} (nD : H1 D = none) (R : Hp → V → β → Prop) (mono : ∀ {H H' v b}, Same H H' → R H v b → R H' v b) (st : ∀ {H xs ys v b}, H D = some (.lst xs) → R H v b → R (upd H D (.lst ys)) v b)
    (out : Nat → List β) (o0 : out 0 = []) (ol : ∀ i, i ≤ n → (out i).length ≤ 1000) (hG : ∀ H, Same H1 H → G H)
    (hs : ∀ i x H H' (Pn : Hp → Prop), i < n → Same H1 H → Y i H x H' → (∀ H4 y b, Same H H4 → R H4 y b → out (i + 1) = out i ++ [b] → ∃ acc, H4 D = some (.lst acc) ∧ acc.length < sizeLine ∧ Pn (upd H4 D (.lst (acc ++ [y])))) → (∀ H3, Same H H3 → out (i + 1) = out i → Pn H3) →
      g x (wipe σ vs) H' fun σ2 H2 => wipe σ2 vs = wipe σ vs ∧ tt σ2 H2 fun b H3 => if b = true then te σ2 H3 fun y H4 => ∃ acc, H4 D = some (.lst acc) ∧ acc.length < sizeLine ∧ Pn (upd H4 D (.lst (acc ++ [y]))) else Pn H3)
    (hd : ∀ H ts, Same H1 H → H D = some (.lst ts) → Paired (R H) ts (out n) → Qd H) :
    ∃ W : Nat → Nat → Hp → Prop, (∃ m, W 0 m (upd H1 D (.lst []))) ∧ ∀ i m H, W i m H →
      (J.stop i H ∧ Qd H) ∨ (J.go i H ∧ ∃ Nx : Hp → Prop, (∀ H', Nx H' → ∃ m', m' < m ∧ W (i + 1) m' H') ∧ ∀ x H', J.yld i H x H' → g x (wipe σ vs) H' fun σ2 H2 => wipe σ2 vs = wipe σ vs ∧ tt σ2 H2 fun b H3 =>
        if b = true then te σ2 H3 fun y H4 => ∃ acc, H4 D = some (.lst acc) ∧ acc.length < sizeLine ∧ Nx (upd H4 D (.lst (acc ++ [y]))) else Nx H3) := by
  refine lc_it w (fun i H' => Same H1 H' ∧ ∃ ts, H' D = some (.lst ts) ∧ Paired (R H') ts (out i)) ⟨sm nD, [], upd_same, by rw [o0]; exact .nil⟩ (fun i H _ p => hG H p.1) ?_ (fun H ⟨p, ts, q, r⟩ => hd H ts p q r)
  rintro i x H H' hi ⟨s1, ts, hD, hR⟩ y
  refine hs i x H H' _ hi s1 y (fun H4 z b s4 r e => ?_) (fun H3 s3 e => ?_)
  · have lt : ts.length = (out i).length := Paired.length hR
    refine ⟨_, s4 _ _ hD, small1000 (by rw [lt]; exact ol i (Nat.le_of_lt hi)), fun c o q => ?_, _, upd_same, ?_⟩
    · rw [upd_ne (ne_of_none q nD)]
      exact s4 _ _ (s1 c o q)
    · rw [e]
      exact paired_snoc (Paired.imp (fun _ _ q => st (s4 _ _ hD) (mono s4 q)) hR) (st (s4 _ _ hD) r)
  · exact ⟨s1.trans s3, ts, s3 _ _ hD, by rw [e]; exact Paired.imp (fun _ _ q => mono s3 q) hR⟩
theorem sqT_at {K : PySem.W.Frag} {H : Hp} {p t : Addr} {o : HO} {xs : List V} (h : SqT K H t xs) (n : p ≠ t ∨ (∃ u, H p = some u ∧ (∀ l, u ≠ .tup l) ∧ ∀ od l, u ≠ .frz od (.tup l))) : SqT K (upd H p o) t xs := by
  have d : ∀ u, H t = some u → ((∃ l, u = .tup l) ∨ ∃ od l, u = .frz od (.tup l)) → t ≠ p := fun u hu hk z => by
    rcases n with n | ⟨v, hv, n1, n2⟩
    · exact n z.symm
    · rw [z, hv] at hu
      cases hu
      rcases hk with ⟨l, e⟩ | ⟨od, l, e⟩
      · exact n1 l e
      · exact n2 od l e
  rcases h with (h | ⟨od, h⟩) | h
  · exact .inl (.inl (by rw [upd_ne (d _ h (.inl ⟨_, rfl⟩))]; exact h))
  · exact .inl (.inr ⟨od, by rw [upd_ne (d _ h (.inr ⟨_, _, rfl⟩))]; exact h⟩)
  · exact .inr h
theorem two_lst {K : PySem.W.Frag} {H : Hp} {D : Addr} {xs : List V} {o : HO} {v : V} {b : Str × Str} (hD : H D = some (.lst xs)) (h : TwoAt K H v b) : TwoAt K (upd H D o) v b := by
  obtain ⟨t, e, h⟩ := h
  exact ⟨t, e, sqT_at h (.inr ⟨_, hD, (by intro l z; cases z), by intro od l z; cases z⟩)⟩
theorem two_dk {K : PySem.W.Frag} {H : Hp} {D : Addr} {kvs : List (Key × V)} {o : HO} {v : V} {b : Str × Str} (hD : H D = some (.dK kvs)) (h : TwoAt K H v b) : TwoAt K (upd H D o) v b := by
  obtain ⟨t, e, h⟩ := h
  exact ⟨t, e, sqT_at h (.inr ⟨_, hD, (by intro l z; cases z), by intro od l z; cases z⟩)⟩
section
variable {K : PySem.W.Frag}
theorem take_map_snoc {α β : Type} {xs : List α} {i : Nat} {x : α} (f : α → β) (h : xs[i]? = some x) : (xs.take (i + 1)).map f = (xs.take i).map f ++ [f x] := by
  rw [List.take_add_one, h, List.map_append]
  rfl
/-- [links[way] for way in links] -/
theorem rd_pairs {H : Hp} {L D : Addr} {od : Obj} {kvs : List (Key × V)} {ls : List Lk} {s0 s1 s2 s3 s5 : Option V} {Q : Hp → Prop} (hL : H L = some (.frz od (.dK kvs))) (hK : Lks K H kvs ls) (hn : (keysL ls).Nodup) (hz : ls.length ≤ 40) (nD : H D = none)
    (k : ∀ H' ts, Same H H' → H' D = some (.lst ts) → Paired (TwoAt K H') ts (ls.map (·.2)) → Q H') :
    ∃ W : Nat → Nat → Hp → Prop, (∃ m, W 0 m (upd H D (.lst []))) ∧ ∀ i m H, W i m H →
      ((Itk L od kvs).stop i H ∧ Q H) ∨ ((Itk L od kvs).go i H ∧ ∃ Nx : Hp → Prop, (∀ H', Nx H' → ∃ m', m' < m ∧ W (i + 1) m' H') ∧ ∀ x H', (Itk L od kvs).yld i H x H' → gName 6 x (wipe [s0, s1, s2, s3, some (V.ref L), s5, none, none] [6]) H' fun σ2 H2 => wipe σ2 [6] = wipe [s0, s1, s2, s3, some (V.ref L), s5, none, none] [6] ∧ tYes σ2 H2 fun b H3 =>
        if b = true then tDGet (tVar 4) (tVar 6) σ2 H3 fun y H4 => ∃ acc, H4 D = some (.lst acc) ∧ acc.length < sizeLine ∧ Nx (upd H4 D (.lst (acc ++ [y]))) else Nx H3) := by
  have lk : kvs.length = ls.length := Paired.length hK
  refine lc_rel walk_keys nD (TwoAt K) (fun s h => h.same s) (fun hD h => two_lst hD h) (fun i => (ls.take i).map (·.2)) rfl (fun i _ => by rw [List.length_map]; exact Nat.le_trans (List.length_take_le' i ls) (by omega)) (fun H' s => s _ _ hL) ?_ (fun H' ts s h r => k H' ts s h (by rw [lk, List.take_length] at r; exact r))
  rintro i x H1 H2 Pn hi s1 ⟨rfl, kk, vv, ekv, rfl⟩ fin skip
  obtain ⟨l, hl, e1, _⟩ := lks_at hK ekv
  have e1' : kk = Sum.inr l.1 := e1
  subst e1'
  obtain ⟨t, hv, h2⟩ := pair_uniq hK hn hl
  refine ⟨rfl, ?_⟩
  unfold tYes
  dsimp only
  rw [if_pos rfl]
  refine ⟨_, rfl, _, rfl, L, .ref t, rfl, ?_, fin H2 _ l.2 (Same.refl _) ⟨t, rfl, sqT_same h2 s1⟩ (take_map_snoc _ hl)⟩
  rw [← hv]
  exact .inl ⟨kvs, Sum.inr l.1, .inr ⟨od, s1 _ _ hL⟩, rfl, rfl⟩
/-- [(links[way][1], links[way][0]) for way in links] -/
theorem rd_backs {H : Hp} {L D : Addr} {od : Obj} {kvs : List (Key × V)} {ls : List Lk} {s0 s1 s2 s3 s5 : Option V} {Q : Hp → Prop} (hL : H L = some (.frz od (.dK kvs))) (hK : Lks K H kvs ls) (hn : (keysL ls).Nodup) (hz : ls.length ≤ 40) (nD : H D = none)
    (k : ∀ H' ts, Same H H' → H' D = some (.lst ts) → Paired (TwoAt K H') ts (ls.map fun l => (l.2.2, l.2.1)) → Q H') :
    ∃ W : Nat → Nat → Hp → Prop, (∃ m, W 0 m (upd H D (.lst []))) ∧ ∀ i m H, W i m H →
      ((Itk L od kvs).stop i H ∧ Q H) ∨ ((Itk L od kvs).go i H ∧ ∃ Nx : Hp → Prop, (∀ H', Nx H' → ∃ m', m' < m ∧ W (i + 1) m' H') ∧ ∀ x H', (Itk L od kvs).yld i H x H' → gName 6 x (wipe [s0, s1, s2, s3, some (V.ref L), s5, none, none] [6]) H' fun σ2 H2 => wipe σ2 [6] = wipe [s0, s1, s2, s3, some (V.ref L), s5, none, none] [6] ∧ tYes σ2 H2 fun b H3 =>
        if b = true then tTup (tCons (tOp (rIxT K) (tDGet (tVar 4) (tVar 6)) (tC (V.int 1))) (tCons (tOp (rIxT K) (tDGet (tVar 4) (tVar 6)) (tC (V.int 0))) tNil)) σ2 H3 fun y H4 => ∃ acc, H4 D = some (.lst acc) ∧ acc.length < sizeLine ∧ Nx (upd H4 D (.lst (acc ++ [y]))) else Nx H3) := by
  have lk : kvs.length = ls.length := Paired.length hK
  refine lc_rel walk_keys nD (TwoAt K) (fun s h => h.same s) (fun hD h => two_lst hD h) (fun i => (ls.take i).map fun l => (l.2.2, l.2.1)) rfl (fun i _ => by rw [List.length_map]; exact Nat.le_trans (List.length_take_le' i ls) (by omega)) (fun H' s => s _ _ hL) ?_ (fun H' ts s h r => k H' ts s h (by rw [lk, List.take_length] at r; exact r))
  rintro i x H1 H2 Pn hi s1 ⟨rfl, kk, vv, ekv, rfl⟩ fin skip
  obtain ⟨l, hl, e1, _⟩ := lks_at hK ekv
  have e1' : kk = Sum.inr l.1 := e1
  subst e1'
  obtain ⟨t, hv, h2⟩ := pair_uniq hK hn hl
  have hg : DGet H2 L (.str l.1) (some (.ref t)) := by
    rw [← hv]
    exact .inl ⟨kvs, Sum.inr l.1, .inr ⟨od, s1 _ _ hL⟩, rfl, rfl⟩
  refine ⟨rfl, ?_⟩
  unfold tYes
  dsimp only
  rw [if_pos rfl]
  refine ⟨_, rfl, _, rfl, L, .ref t, rfl, hg, t, _, _, _, rfl, rfl, sqT_same h2 s1, atI_nat (j := 1) rfl, _, rfl, _, rfl, L, .ref t, rfl, hg, t, _, _, _, rfl, rfl, sqT_same h2 s1, atI_nat (j := 0) rfl, by show 2 ≤ sizeLine; decide, fun p np => ?_⟩
  exact fin _ _ (l.2.2, l.2.1) (sm np) ⟨p, rfl, SqT.of upd_same⟩ (take_map_snoc _ hl)
end
end PG


set_option Elab.async false
set_option linter.all false
set_option maxRecDepth 100000
set_option maxHeartbeats 4000000
namespace PG
open PySem L2
abbrev sProg : Stmt := top 19
abbrev sInit : Stmt := inClass sProg 0
structure PTc (K : PySem.W.Frag) (mg : Str → Option Value) (C : Addr) : Prop where
  cl : Cls K C
  n1 : NoAttr K C "links"
  n2 : NoAttr K C "spots"
  n3 : NoAttr K C "origin"
  n4 : NoAttr K C "finals"
  gC : mg "Program" = some (.ref C)
/-- the defs of the module that __init__ calls -/
structure PTd (K : PySem.W.Frag) (mg : Str → Option Value) (fA fW fE fR : Addr) (fdA fdW fdE fdR : FuncData) : Prop where
  gA : mg "is_among" = some (.ref fA)
  bA : Binds K fdA ["value", "words"] []
  gW : mg "are_ways" = some (.ref fW)
  bW : Binds K fdW ["value"] []
  gE : mg "are_exits" = some (.ref fE)
  bE : Binds K fdE ["value", "places"] []
  gR : mg "reached_from" = some (.ref fR)
  bR : Binds K fdR ["places", "pairs"] []
theorem two_frz {K : PySem.W.Frag} {H : Hp} {D : Addr} {od : Obj} {kvs : List (Key × V)} {o : HO} {v : V} {b : Str × Str} (hD : H D = some (.frz od (.dK kvs))) (h : TwoAt K H v b) : TwoAt K (upd H D o) v b := by
  obtain ⟨t, e, h⟩ := h
  exact ⟨t, e, sqT_at h (.inr ⟨_, hD, (by intro l z; cases z), by intro od l z; cases z⟩)⟩
theorem am_all {K : PySem.W.Frag} {H : Hp} {ws : List Str} : ∀ {es : List Str}, (∀ e ∈ es, e ∈ ws) → Paired (AmIs K H ws) (es.map V.str) (es.map fun _ => true)
  | [], _ => .nil
  | e :: r, h => .cons (.inl ⟨e, rfl, (decide_eq_true (h e List.mem_cons_self)).symm⟩) (am_all fun x hx => h x (List.mem_cons_of_mem _ hx))
theorem rch_len {ps : List Str} {prs : List (Str × Str)} {fs qs : List Str} (n : qs.Nodup) (h : ∀ x, x ∈ fs ↔ Rch ps prs x) (r : ∀ x ∈ qs, Rch ps prs x) : ¬ ((fs.length : Int) < (qs.length : Int)) := by
  have z := nodup_le n fun x hx => (h x).mpr (r x hx)
  omega
section
variable {P : Program} {w : World} {K : PySem.W.Frag} {mg : Str → Option Value} {base : Heap}
abbrev nsInit : List Str := ["self", "ways", "begin", "exits", "links", "places", "way", "place"]
theorem scInit : FnScope nsInit ["self", "ways", "begin", "exits"] (defScope sInit) := ⟨rfl, rfl, rfl, by decide +kernel, rfl, by decide +kernel, by decide +kernel⟩
def spInit (K : PySem.W.Frag) (C : Addr) : Sp := fun vs H Q _ => ∃ (x dx a e : Addr) (b : Str) (kvs : List (Key × V)) (ls : List Lk) (es : List Str), vs = [.ref x, .ref a, .str b, .ref e] ∧ H x = some (.ins C dx []) ∧ H a = some (.dK kvs) ∧ Lks K H kvs ls ∧ H e = some (.lst (es.map V.str)) ∧ GoodP ls b es ∧
  ∀ (H' : Hp) (L S F : Addr), (∀ q o, q ≠ x → H q = some o → H' q = some o) → H L = none → H S = none → H F = none → ProgAt K C H' x dx L S F (pdOf ls b es) → Q .non H'
theorem ok_init {f C fA fW fE fR : Addr} {fd fdA fdW fdE fdR : FuncData} (Fi : Fun K "__init__" "Program.__init__" sInit f fd) (T : PT0 mg) (Tc : PTc K mg C) (Td : PTd K mg fA fW fE fR fdA fdW fdE fdR)
    (FA : Fun K "is_among" "is_among" sAmong fA fdA) (FW : Fun K "are_ways" "are_ways" sWays fW fdW) (FE : Fun K "are_exits" "are_exits" sExits fE fdE) (FR : Fun K "reached_from" "reached_from" sReach fR fdR)
    (GA : FnOk P w K mg base CX0 1 fA fdA ["value", "words"] (spAmong K)) (GW : FnOk P w K mg base CX0 3 fW fdW ["value"] (spWays K)) (GE : FnOk P w K mg base CX0 2 fE fdE ["value", "places"] (spExits K)) (GR : FnOk P w K mg base CX0 1 fR fdR ["places", "pairs"] (spReach K)) :
    FnOk P w K mg base CX0 4 f fd ["self", "ways", "begin", "exits"] (spInit K C) := by
  refine Fi.ok scInit (fun vs H Q E h => ?_) (fun cdv A outer s H vs Q E hr h => ?_)
  · obtain ⟨x, dx, a, e, b, kvs, ls, es, rfl, _⟩ := h
    rfl
  · obtain ⟨x, dx, a, e, b, kvs, ls, es, rfl, hx, ha, hL, he, Gd, k⟩ := h
    have nd := scInit.nd
    have hr1 : Room 1 _ := hr.mono (by decide)
    have hr2 : Room 2 _ := hr.mono (by decide)
    have hu := hu_of hr
    refine ⟨_, pss_cons (ps_if (pt_not (pt_val (pe_call GW hr (by rfl) Td.gW FW.kp Td.bW .nil pass0 (pa_cons (pv 1) pa_nil)))) pss_dead pss_nil)
      (pss_cons (ps_set (i := 4) nd rfl (Or.inr rfl) (pe_dc (own := [("way", 6)]) (g := gName 6) (tt := tYes) rfl nd (pi_list (pe_callB (call_sortedD rfl) (by rfl) T.sorted PyProof.Rows.boot_sorted (pa_cons (pv 1) pa_nil))) (blkOk_by (own := [("way", 6)]) (N := nsInit) (sc := defScope sInit) (by decide +kernel))
        (fun _ _ _ _ _ => pg_name (i := 6) nd rfl (Or.inl rfl)) (fun _ _ _ _ _ => pts_nil) (fun _ _ _ _ _ => pv 6)
        (fun _ _ _ _ _ => pe_tup (pa_cons (pe_ix (show IxR _ (rIxT K) from ix_tup) (pe_dget hu (pv 1) (pv 6) (fun _ _ => rfl)) pe_int (fun _ _ => rfl)) (pa_cons (pe_ix (show IxR _ (rIxT K) from ix_tup) (pe_dget hu (pv 1) (pv 6) (fun _ _ => rfl)) pe_int (fun _ _ => rfl)) pa_nil)))))
      (pss_cons (ps_set (i := 5) nd rfl (Or.inl rfl) (pe_callB (STX.cr_sortedTx rfl) (by rfl) T.sorted PyProof.Rows.boot_sorted (pa_cons (pe_lock (STX.pe_sc2 (own := [("way", 6), ("place", 7)]) (vs1 := [7]) (wi1 := iTup K _) (g := gName 6) (tt := tYes) (g1 := gName 7) (tt1 := tYes) rfl nd (pi_keys (pv 4)) (blkOk_by (own := [("way", 6), ("place", 7)]) (N := nsInit) (sc := defScope sInit) (by decide +kernel)) (by decide)
        (fun _ _ _ _ _ => pg_name (i := 6) nd rfl (Or.inl rfl)) (fun _ _ _ _ _ => pts_nil) (fun _ _ _ _ _ => pi_tup (pe_dget hu (pv 4) (pv 6) (fun _ _ => rfl))) (fun _ _ _ _ _ => pg_name (i := 7) nd rfl (Or.inl rfl)) (fun _ _ _ _ _ => pts_nil) (fun _ _ _ _ _ => pv 7))) pa_nil)))
      (pss_cons (ps_if (pt_not (pt_val (pe_call GA hr1 (by rfl) Td.gA FA.kp Td.bA .nil pass0 (pa_cons (pv 2) (pa_cons (pv 5) pa_nil))))) pss_dead pss_nil)
      (pss_cons (ps_if (pt_not (pt_val (pe_call GE hr2 (by rfl) Td.gE FE.kp Td.bE .nil pass0 (pa_cons (pv 3) (pa_cons (pv 5) pa_nil))))) pss_dead pss_nil)
      (pss_cons (ps_if (pt_cmpR op_lt (pe_callB call_len_seq (by rfl) T.len PySem.boot_len (pa_cons (pe_call GR hr1 (by rfl) Td.gR FR.kp Td.bR .nil pass0 (pa_cons (pe_lst (pa_cons (pv 2) pa_nil)) (pa_cons (pe_lock (pe_lc (own := [("way", 6)]) (g := gName 6) (tt := tYes) rfl nd (pi_keys (pv 4)) (blkOk_by (own := [("way", 6)]) (N := nsInit) (sc := defScope sInit) (by decide +kernel))
          (fun _ _ _ _ _ => pg_name (i := 6) nd rfl (Or.inl rfl)) (fun _ _ _ _ _ => pts_nil) (fun _ _ _ _ _ => pe_dget hu (pv 4) (pv 6) (fun _ _ => rfl)))) pa_nil))) pa_nil)) (pe_callB call_len_seq (by rfl) T.len PySem.boot_len (pa_cons (pv 5) pa_nil)) (nomark _)) pss_dead pss_nil)
      (pss_cons (ps_if (pt_cmpR op_lt (pe_callB call_len_seq (by rfl) T.len PySem.boot_len (pa_cons (pe_call GR hr1 (by rfl) Td.gR FR.kp Td.bR .nil pass0 (pa_cons (pv 3) (pa_cons (pe_lock (pe_lc (own := [("way", 6)]) (g := gName 6) (tt := tYes) rfl nd (pi_keys (pv 4)) (blkOk_by (own := [("way", 6)]) (N := nsInit) (sc := defScope sInit) (by decide +kernel))
          (fun _ _ _ _ _ => pg_name (i := 6) nd rfl (Or.inl rfl)) (fun _ _ _ _ _ => pts_nil) (fun _ _ _ _ _ => pe_tup (pa_cons (pe_ix (show IxR _ (rIxT K) from ix_tup) (pe_dget hu (pv 4) (pv 6) (fun _ _ => rfl)) pe_int (fun _ _ => rfl)) (pa_cons (pe_ix (show IxR _ (rIxT K) from ix_tup) (pe_dget hu (pv 4) (pv 6) (fun _ _ => rfl)) pe_int (fun _ _ => rfl)) pa_nil))))) pa_nil))) pa_nil)) (pe_callB call_len_seq (by rfl) T.len PySem.boot_len (pa_cons (pv 5) pa_nil)) (nomark _)) pss_dead pss_nil)
      (pss_cons (ps_fld (pv 0) (pv 4) rfl) (pss_cons (ps_fld (pv 0) (pv 5) rfl) (pss_cons (ps_fld (pv 0) (pv 2) rfl)
      (pss_one (ps_fld (pv 0) (pe_callB cr_sortedS (by rfl) T.sorted PyProof.Rows.boot_sorted (pa_cons (pv 3) pa_nil)) rfl))))))))))), ?_⟩
    have lkv : kvs.length = ls.length := Paired.length hL
    refine ⟨_, rfl, .ref a, rfl, .inl ⟨a, kvs, _, rfl, ha, by have := Gd.n2; omega, lks_items hL Gd.wd, fun H1 s1 => ⟨_, rfl, ?_⟩⟩⟩
    rw [all_true, lkv, decide_eq_true Gd.n1, decide_eq_true Gd.n2]
    refine iteNF ?_
    refine ⟨_, rfl, a, kvs, keysL ls, rfl, .inl (s1 _ _ ha), lks_keys hL, by have z : (keysL ls).length = ls.length := List.length_map _; have := Gd.n2; omega, fun ys p0 perm sr np0 => ?_⟩
    obtain rfl := srt_of perm sr
    refine ⟨p0, rfl, ⟨_, SqL.of upd_same⟩, fun L nL => dc_it walk_list (fun i H' => Same (upd H1 p0 (.lst ((srt (keysL ls)).map V.str))) H' ∧ ∃ kv2, H' L = some (.dK kv2) ∧ Lks K H' kv2 ((srtL ls).take i)) ⟨sm nL, [], upd_same, .nil⟩ (fun i H' _ p => SqL.of (p.1 _ _ upd_same)) ?_ ?_⟩
    · rintro i v H2 H3 hi ⟨s2, kv2, h2, l2⟩ ⟨rfl, hv⟩
      rw [List.getElem?_map] at hv
      obtain ⟨wy, hw, rfl⟩ : ∃ wy, (srt (keysL ls))[i]? = some wy ∧ v = .str wy := by
        cases e : (srt (keysL ls))[i]? with
        | none => rw [e] at hv; cases hv
        | some wy => rw [e] at hv; exact ⟨wy, rfl, (Option.some.inj hv).symm⟩
      have mw : wy ∈ keysL ls := srt_mem.mp (List.mem_of_getElem? hw)
      obtain ⟨t, hvl, ht⟩ := lks_val hL mw
      have s13 : Same H H3 := fun b o e => s2 _ _ (sm np0 _ _ (s1 b o e))
      have hg : DGet H3 a (.str wy) (some (.ref t)) := by
        rw [← hvl]
        exact .inl ⟨kvs, Sum.inr wy, .inl (s13 _ _ ha), rfl, rfl⟩
      have hl3 : (srtL ls)[i]? = some (wy, lkp ls wy) := by
        unfold srtL
        rw [List.getElem?_map, hw]
        rfl
      refine ⟨rfl, ?_⟩
      unfold tYes
      dsimp only
      rw [if_pos rfl]
      refine ⟨_, rfl, _, rfl, _, rfl, a, .ref t, rfl, hg, t, _, _, _, rfl, rfl, sqT_same ht s13, atI_nat (j := 0) rfl, _, rfl, _, rfl, a, .ref t, rfl, hg, t, _, _, _, rfl, rfl, sqT_same ht s13, atI_nat (j := 1) rfl, by show 2 ≤ sizeLine; decide, fun q nq => ?_⟩
      have nLq : L ≠ q := ne_of_none h2 nq
      have lkv2 : kv2.length = ((srtL ls).take i).length := Paired.length l2
      have fresh : valV kv2 (Sum.inr wy : Key) = none := by
        refine lks_none l2 fun m => ?_
        have nd2 := srtL_nodup Gd.nd
        obtain ⟨l0, hl0, e0⟩ := List.mem_map.mp m
        obtain ⟨j, hj, ej⟩ := List.getElem_of_mem hl0
        rw [List.length_take] at hj
        have hi2 : i < (srtL ls).length := (List.getElem?_eq_some_iff.mp hl3).1
        have q1 : (keysL (srtL ls))[j]? = some wy := by
          unfold keysL
          rw [List.getElem?_map, List.getElem?_eq_getElem (by omega)]
          rw [List.getElem_take] at ej
          rw [ej]
          exact congrArg some e0
        have q2 : (keysL (srtL ls))[i]? = some wy := by
          unfold keysL
          rw [List.getElem?_map, hl3]
          rfl
        have q3 := (List.getElem?_inj (by have := (List.getElem?_eq_some_iff.mp q1).1; exact this) nd2).mp (q1.trans q2.symm)
        omega
      refine ⟨kv2, Sum.inr wy, rfl, by rw [upd_ne nLq]; exact h2, ?_, ?_⟩
      · rw [lkv2]
        refine small1000 (Nat.le_trans (List.length_take_le' i _) ?_)
        rw [srtL_len]
        have := Gd.n2
        omega
      · refine ⟨fun b o eb => ?_, _, upd_same, ?_⟩
        · rw [upd_ne (ne_of_none eb nL), upd_ne (ne_of_none (s2 _ _ eb) nq)]
          exact s2 _ _ eb
        · rw [putK_new _ fresh, List.take_add_one, hl3]
          have hd3 : (upd H3 q (.tup [.str (lkp ls wy).1, .str (lkp ls wy).2])) L = some (.dK kv2) := by rw [upd_ne nLq]; exact h2
          refine paired_snoc (Paired.imp (fun _ _ z => ⟨z.1, two_dk hd3 (z.2.same (sm nq))⟩) l2) ⟨rfl, two_dk hd3 ⟨q, rfl, SqT.of upd_same⟩⟩
    · rintro H2 ⟨s2, kvL, hL2, lL⟩
      have nd2 := srtL_nodup Gd.nd
      have n40 : (srtL ls).length ≤ 40 := by rw [srtL_len]; exact Gd.n2
      rw [show ((srt (keysL ls)).map V.str).length = (srtL ls).length by rw [List.length_map, srtL_len, srt_len]; exact List.length_map _, List.take_length] at lL
      have s02 : Same H H2 := fun b o e => s2 _ _ (sm np0 _ _ (s1 b o e))
      have nLH : H L = none := by
        cases z : H L with
        | none => rfl
        | some o => rw [sm np0 _ _ (s1 _ _ z)] at nL; cases nL
      refine ⟨L, .dK kvL, hL2, trivial, fun od => ⟨_, rfl, L, od, rfl, .inl ⟨kvL, upd_same, fun D nD => rd_ends (P := P) (w := w) upd_same (Lks.lock lL hL2) nd2 n40 nD fun H3 s3 hD3 => ⟨s3 _ _ upd_same, D, STX.insAll (ends (srtL ls)) [], rfl, ?_, ?_, fun ys S perm2 sr2 nS => ?_⟩⟩⟩⟩
      · have nDL : D ≠ L := fun z => by rw [z, upd_same] at nD; cases nD
        rw [upd_ne nDL]
        exact hD3
      · have z := Gd.sm
        rw [← plc_srtL Gd.nd] at z
        unfold plc at z
        rw [srt_len] at z
        exact z
      · have ey : ys = plc ls := by
          rw [← plc_srtL Gd.nd]
          exact srt_of perm2 sr2
        subst ey
        have s24 : Same H2 (upd H3 L (.dK kvL)) := unlock hL2 s3
        generalize upd H3 L (.dK kvL) = H4 at nS s24
        have s45 : Same H4 (upd H4 S (.lst ((plc ls).map V.str))) := sm nS
        have hS5 : (upd H4 S (.lst ((plc ls).map V.str))) S = some (.lst ((plc ls).map V.str)) := upd_same
        generalize upd H4 S (.lst ((plc ls).map V.str)) = H5 at s45 hS5
        have s05 : Same H H5 := fun b o e => s45 _ _ (s24 _ _ (s02 _ _ e))
        have hL5 : H5 L = some (.dK kvL) := s45 _ _ (s24 _ _ hL2)
        have lL5 : Lks K H5 kvL (srtL ls) := (lL.same s24).same s45
        have nSH : H S = none := by
          cases z : H S with
          | none => rfl
          | some o => rw [s24 _ _ (s02 _ _ z)] at nS; cases nS
        refine ⟨_, rfl, _, rfl, .str b, S, rfl, .inl ⟨b, plc ls, rfl, SqL.of hS5, _, rfl, ?_⟩⟩
        rw [decide_eq_true (plc_mem.mpr Gd.hb)]
        refine iteNF ?_
        have lE : es.length < 1000 := by
          have z := nodup_le Gd.hn fun x hx => plc_mem.mpr (Gd.hs x hx)
          have := Gd.sm
          omega
        refine ⟨_, rfl, _, rfl, .ref e, S, plc ls, rfl, SqL.of hS5, .inl ⟨e, _, _, rfl, s05 _ _ he, by rw [List.length_map]; exact lE, am_all fun x hx => plc_mem.mpr (Gd.hs x hx), fun H6 s6 => ⟨_, rfl, ?_⟩⟩⟩
        have e0 : (es.map V.str).isEmpty = false := by
          cases q : es with
          | nil => exact absurd q Gd.he
          | cons _ _ => rfl
        rw [e0, all_true, txs_map, decide_eq_true Gd.hn]
        refine iteNF ?_
        have hL6 := s6 _ _ hL5
        have lL6 := lL5.same s6
        have hS6 := s6 _ _ hS5
        have s06 : Same H H6 := s05.trans s6
        refine ⟨_, rfl, by show 1 ≤ sizeLine; decide, fun l0 nl0 => ⟨L, .dK kvL, sm nl0 _ _ hL6, trivial, fun od => ⟨_, rfl, L, od, rfl, .inl ⟨kvL, upd_same, fun D nD => rd_pairs upd_same (Lks.lock (lL6.same (sm nl0)) (sm nl0 _ _ hL6)) nd2 n40 nD fun H7 ts s7 hD7 r7 => ⟨s7 _ _ upd_same, l0, D, [b], ts, _, rfl, ?_, ?_, Paired.imp (fun _ _ z => two_frz (s7 _ _ upd_same) z) r7, List.nodup_cons.mpr ⟨List.not_mem_nil, List.nodup_nil⟩, ?_, fun p fs H8 np nf mf s8 h8 => ?_⟩⟩⟩⟩⟩
        · exact SqL.of (unlock (sm nl0 _ _ hL6) s7 _ _ upd_same)
        · have nDL : D ≠ L := fun z => by rw [z, upd_same] at nD; cases nD
          exact SqL.of (by rw [upd_ne nDL]; exact hD7)
        · rw [List.length_map]
          show 1 + _ ≤ 500
          omega
        · have s68 : Same H6 H8 := fun q o z => s8 _ _ (unlock (sm nl0 _ _ hL6) s7 _ _ (sm nl0 _ _ z))
          have hL8 := s68 _ _ hL6
          have lL8 := lL6.same s68
          have hS8 := s68 _ _ hS6
          have s08 : Same H H8 := s06.trans s68
          refine ⟨p, _, rfl, .inl (SqL.of h8), _, rfl, S, _, rfl, .inl (SqL.of hS8), _, _, rfl, rfl, _, rfl, ?_⟩
          rw [List.length_map, List.length_map]
          have c1 : decide ((fs.length : Int) < ((plc ls).length : Int)) = false := decide_eq_false (rch_len (plc_nodup ls) mf fun x hx => (Gd.reach x (plc_mem.mp hx)).mono (fun _ z => z) fun pr hp => by
            obtain ⟨l, hl, rfl⟩ := List.mem_map.mp hp
            exact List.mem_map.mpr ⟨l, (srtL_mem Gd.nd).mpr hl, rfl⟩)
          rw [c1]
          refine iteF ?_
          refine ⟨_, rfl, L, .dK kvL, hL8, trivial, fun od => ⟨_, rfl, L, od, rfl, .inl ⟨kvL, upd_same, fun D2 nD2 => rd_backs upd_same (Lks.lock lL8 hL8) nd2 n40 nD2 fun H9 ts s9 hD9 r9 => ⟨s9 _ _ upd_same, e, D2, es, ts, _, rfl, ?_, ?_, Paired.imp (fun _ _ z => two_frz (s9 _ _ upd_same) z) r9, Gd.hn, ?_, fun p2 fs2 H10 np2 nf2 mf2 s10 h10 => ?_⟩⟩⟩⟩
          · exact SqL.of (unlock hL8 s9 _ _ (s08 _ _ he))
          · have nDL : D2 ≠ L := fun z => by rw [z, upd_same] at nD2; cases nD2
            exact SqL.of (by rw [upd_ne nDL]; exact hD9)
          · rw [List.length_map]
            have z := nodup_le Gd.hn fun x hx => plc_mem.mpr (Gd.hs x hx)
            have := Gd.sm
            omega
          · have s8' : Same H8 H10 := fun q o z => s10 _ _ (unlock hL8 s9 _ _ z)
            have hLa := s8' _ _ hL8
            have lLa := lL8.same s8'
            have hSa := s8' _ _ hS8
            have s0a : Same H H10 := s08.trans s8'
            refine ⟨p2, _, rfl, .inl (SqL.of h10), _, rfl, S, _, rfl, .inl (SqL.of hSa), _, _, rfl, rfl, _, rfl, ?_⟩
            rw [List.length_map, List.length_map]
            have c2 : decide ((fs2.length : Int) < ((plc ls).length : Int)) = false := decide_eq_false (rch_len (plc_nodup ls) mf2 fun x hx => (Gd.leave x (plc_mem.mp hx)).mono (fun _ z => z) fun pr hp => by
              obtain ⟨l, hl, rfl⟩ := List.mem_map.mp hp
              exact List.mem_map.mpr ⟨l, (srtL_mem Gd.nd).mpr hl, rfl⟩)
            rw [c2]
            refine iteF ?_
            have hxa : H10 x = some (.ins C dx []) := s0a _ _ hx
            refine ⟨_, rfl, _, rfl, x, C, dx, _, rfl, hxa, Tc.cl, Tc.n1, (by show 0 < 1000; decide), ?_⟩
            refine ⟨_, rfl, _, rfl, x, C, dx, _, rfl, upd_same, Tc.cl, Tc.n2, (by show 1 < 1000; decide), ?_⟩
            refine ⟨_, rfl, _, rfl, x, C, dx, _, rfl, upd_same, Tc.cl, Tc.n3, (by show 2 < 1000; decide), ?_⟩
            rw [upd_upd, upd_upd]
            have nex : e ≠ x := ne_of he hx (by intro z; cases z)
            have he3 : (upd H10 x (.ins C dx (putF "origin" (.str b) (putF "spots" (.ref S) (putF "links" (.ref L) []))))) e = some (.lst (es.map V.str)) := by rw [upd_ne nex]; exact s0a _ _ he
            have e64 : es.length < 64 := by
              have z := nodup_le Gd.hn fun x hx => plc_mem.mpr (Gd.hs x hx)
              have := Gd.sm
              omega
            refine ⟨_, rfl, e, es, rfl, SqL.of he3, e64, fun ys Fn perm3 sr3 nF => ?_⟩
            obtain rfl := srt_of perm3 sr3
            have nFx : Fn ≠ x := fun z => by rw [z, upd_same] at nF; cases nF
            have nFa : H10 Fn = none := by rw [upd_ne nFx] at nF; exact nF
            refine ⟨_, rfl, x, C, dx, _, rfl, (by rw [upd_ne nFx.symm]; exact upd_same), Tc.cl, Tc.n4, (by show 3 < 1000; decide), ?_⟩
            have nLx : L ≠ x := ne_of hLa hxa (by intro z; cases z)
            have nSx : S ≠ x := ne_of hSa hxa (by intro z; cases z)
            have nLF : L ≠ Fn := ne_of_none hLa nFa
            have nSF : S ≠ Fn := ne_of_none hSa nFa
            have nFH : H Fn = none := by
              cases z : H Fn with
              | none => rfl
              | some o => rw [s0a _ _ z] at nFa; cases nFa
            refine k _ L S Fn (fun q o nq eq => ?_) nLH nSH nFH ⟨?_, ⟨kvL, ?_, ?_⟩, ?_, ?_⟩
            · rw [upd_ne nq, upd_ne (ne_of_none (s0a _ _ eq) nFa), upd_ne nq]
              exact s0a _ _ eq
            · rw [upd_same]
              rfl
            · rw [upd_ne nLx, upd_ne nLF, upd_ne nLx]
              exact hLa
            · refine Paired.imp (fun kv l z => ⟨z.1, ?_⟩) lLa
              obtain ⟨t, e1, z2⟩ := z.2
              refine ⟨t, e1, sqT_at (sqT_same (sqT_at z2 (.inr ⟨_, hxa, (by intro l z; cases z), by intro od l z; cases z⟩)) (sm nF)) (.inr ⟨.ins C dx _, by rw [upd_ne nFx.symm]; exact upd_same, (by intro l z; cases z), by intro od l z; cases z⟩)⟩
            · rw [upd_ne nSx, upd_ne nSF, upd_ne nSx]
              exact hSa
            · rw [upd_ne nFx]
              exact upd_same
end
end PG


set_option Elab.async false
set_option linter.all false
set_option maxRecDepth 100000
set_option maxHeartbeats 4000000
/-! Own item reading, in, len, == of an own class, by the promise of the def. -/
namespace OW
open PySem PySem.Spec PyProof.Rows L2
section
variable {X : Cx} {CX : CXT} {k : Nat} {f C : Addr} {fd : FuncData} {ps : List Str} {sp : Sp} {E : XK} {pins : List (Addr × Obj)} {σ : L2.St} {H : Hp} {s : Shared}
/-- the def is called somewhere below the running body -/
theorem own_call {A : Around} {Q : VK} {vs : List V} {us : List Value} (F : FnOk X.prog X.w X.K X.mg X.base CX k f fd ps sp) (hb : Binds X.K fd ps []) (hx : Passes CX X E) (room : Room k A) (fr : A.frames = X.A.frames) (I : Inv X pins σ H s) (r : Vals vs us) (h : sp vs H Q E) :
    wpAny (model X.prog X.w) A (call (.ref f) us) (EP X pins σ Q) X.xe s := by
  have e0 : Env0 X.prog X.w X.K X.mg X.base A X.stack s H := by
    have e := I.env0
    exact ⟨by rw [fr]; exact e.frames, e.mod, e.bs, e.bsz, e.funs, e.frf, e.hok, e.bare⟩
  have hl := F.len _ _ _ _ h
  refine wpAny_call (codeAny_mono (F.run A X.stack s H ⟨us, []⟩ us vs Q E room e0 ?_ r h) fun x s' hq => ?_)
  · have z := hb s us I.kIn (by rw [List.append_nil, ← r.length]; exact hl)
    rw [List.append_nil] at z
    exact z
  · cases x with
    | error e => exact hx pins σ H s e s' I hq
    | ok fl =>
      cases fl with
      | ret y =>
        obtain ⟨z, H', I', rz, q⟩ := I.after hq
        exact ⟨z, H', I', rz, q⟩
      | next => exact False.elim hq
      | brk => exact False.elim hq
      | cont => exact False.elim hq
theorem own_at {a dx : Addr} {fs : List (Str × V)} (I : Inv X pins σ H s) (ha : H a = some (.ins C dx fs)) : ∃ ox od, PySem.W.InstAt s.heap a ox C od := by
  obtain ⟨m, J, _⟩ := ins_get I.hok ha
  obtain ⟨od, J, _⟩ := J.look
  exact ⟨_, _, J⟩
/-- len(x) -/
def rOwnLen (C : Addr) (sp : Sp) (E : XK) : List V → Hp → VK → Prop := fun xs H Q => ∃ (a dx : Addr) (fs : List (Str × V)), xs = [.ref a] ∧ H a = some (.ins C dx fs) ∧ sp [.ref a] H (fun v H' => ∃ n : Nat, v = .int n ∧ n < 2 ^ 62 ∧ Q (.int n) H') E
theorem cr_ownLen (F : FnOk X.prog X.w X.K X.mg X.base CX k f fd ps sp) (hb : Binds X.K fd ps []) (hx : Passes CX X E) (hr : Room (k + 1) X.A) (hs : PySem.W.findIn X.K (.ref C) "__len__" = some (some (.ref f))) (hf : PySem.W.isFn X.K (.ref f) = true) : CallR X (.builtin "len") (rOwnLen C sp E) := by
  intro pins s σ H vs us Q I r h
  obtain ⟨a, dx, fs, rfl, ha, h⟩ := h
  rw [Vals.ref1 r]
  obtain ⟨ox, od, J⟩ := own_at I ha
  obtain ⟨m, hF⟩ := I.fr
  refine PySem.W.len_K hF I.ok.mod.kin J hs hf ?_
  refine wpAny_mono (own_call (vs := [.ref a]) F hb hx hr.in1 rfl I (.cons rfl .nil) h) (fun v s' z => ?_) fun _ _ z => z
  obtain ⟨y, H', I', ry, n, rfl, hn, q⟩ := z
  obtain ⟨t, rfl⟩ := ry
  exact ⟨⟨by omega, by omega⟩, .int n, H', I'.tok _, ⟨_, rfl⟩, q⟩
/-- x in o, x not in o -/
def rOwnIn (C : Addr) (sp : Sp) (E : XK) (neg : Bool) : R2 := fun x y H Q => ∃ (a dx : Addr) (fs : List (Str × V)), y = .ref a ∧ H a = some (.ins C dx fs) ∧ sp [.ref a, x] H (fun v H' => ∃ b : Bool, v = .bl b ∧ Q (.bl (if neg then !b else b)) H') E
theorem op_ownIn (F : FnOk X.prog X.w X.K X.mg X.base CX k f fd ps sp) (hb : Binds X.K fd ps []) (hx : Passes CX X E) (hr : Room k X.A) (hs : PySem.W.findIn X.K (.ref C) "__contains__" = some (some (.ref f))) (hf : PySem.W.isFn X.K (.ref f) = true) : OpR X (compareOp .In) (rOwnIn C sp E false) := by
  intro pins s σ H x y v u Q I rx ry h
  obtain ⟨a, dx, fs, rfl, ha, h⟩ := h
  obtain rfl : u = Value.ref a := ry
  obtain ⟨ox, od, J⟩ := own_at I ha
  obtain ⟨m, hF⟩ := I.fr
  refine PySem.W.in_K hF I.ok.mod.kin J hs hf ?_
  refine wpAny_mono (own_call (vs := [.ref a, x]) F hb hx hr rfl I (.cons rfl (.cons rx .nil)) h) (fun v s' z => ?_) fun _ _ z => z
  obtain ⟨w, H', I', rw', b, rfl, q⟩ := z
  obtain rfl : v = Value.bool b := rw'
  exact wpAny_truthy_bool ⟨.bl b, H', I', rfl, q⟩
theorem op_ownNotIn (F : FnOk X.prog X.w X.K X.mg X.base CX k f fd ps sp) (hb : Binds X.K fd ps []) (hx : Passes CX X E) (hr : Room k X.A) (hs : PySem.W.findIn X.K (.ref C) "__contains__" = some (some (.ref f))) (hf : PySem.W.isFn X.K (.ref f) = true) : OpR X (compareOp .NotIn) (rOwnIn C sp E true) := by
  intro pins s σ H x y v u Q I rx ry h
  obtain ⟨a, dx, fs, rfl, ha, h⟩ := h
  obtain rfl : u = Value.ref a := ry
  obtain ⟨ox, od, J⟩ := own_at I ha
  obtain ⟨m, hF⟩ := I.fr
  refine PySem.W.notIn_K hF I.ok.mod.kin J hs hf ?_
  refine wpAny_mono (own_call (vs := [.ref a, x]) F hb hx hr rfl I (.cons rfl (.cons rx .nil)) h) (fun v s' z => ?_) fun _ _ z => z
  obtain ⟨w, H', I', rw', b, rfl, q⟩ := z
  obtain rfl : v = Value.bool b := rw'
  exact wpAny_truthy_bool ⟨.bl (!b), H', I', rfl, q⟩
/-- o[i] -/
def PlainIxP (b : Expr) : Prop := ∀ o i, subscripted b true o i = runValue (.builtin "lifetime.subscript" ⟨[o, i], []⟩)
def rOwnIx (C : Addr) (sp : Sp) (E : XK) : R2 := fun x y H Q => ∃ (a dx : Addr) (fs : List (Str × V)), x = .ref a ∧ H a = some (.ins C dx fs) ∧ sp [.ref a, y] H Q E
theorem pe_ownIx {a b : Expr} {ta tb : TE} {pos : Pos} (F : FnOk X.prog X.w X.K X.mg X.base CX k f fd ps sp) (hb : Binds X.K fd ps []) (hx : Passes CX X E) (hr : Room (k + 1) X.A) (hs : PySem.W.findIn X.K (.ref C) "__getitem__" = some (some (.ref f))) (hf : PySem.W.isFn X.K (.ref f) = true) (hfn : PySem.W.fnIn X.K f = true)
    (ha : PE X a ta) (hb' : PE X b tb) (hp : PlainIxP b := by intro _ _; rfl) : PE X (.Subscript a b pos) (tOp (rOwnIx C sp E) ta tb) := by
  refine ⟨fun pins s σ H Q I h => Subscript_ (binT ha hb' I h fun v u s2 x y H2 I2 rx ry q => ?_)⟩
  obtain ⟨o, dx, fs, rfl, ho, q⟩ := q
  obtain rfl : v = Value.ref o := rx
  obtain ⟨ox, od, J⟩ := own_at I2 ho
  obtain ⟨m, hF⟩ := I2.fr
  exact PySem.W.sub_K hF I2.ok.mod.kin J hs hfn hf (own_call (vs := [.ref o, y]) F hb hx hr.in1 rfl I2 (.cons rfl (.cons ry .nil)) q) (hp _ _)
/-- x == y by x's own == -/
def rOwnEq (K : PySem.W.Frag) (C : Addr) (sp : Sp) (E : XK) : R2 := fun x y H Q => ∃ (a dx : Addr) (fs : List (Str × V)) (t : Value), x = .ref a ∧ H a = some (.ins C dx fs) ∧ TyX K H y t ∧ PySem.W.notFirst K C t = true ∧ sp [.ref a, y] H (fun v H' => ∃ b : Bool, v = .bl b ∧ Q (.bl b) H') E
theorem op_ownEq (F : FnOk X.prog X.w X.K X.mg X.base CX k f fd ps sp) (hb : Binds X.K fd ps []) (hx : Passes CX X E) (hr : Room k X.A) (hs : PySem.W.findIn X.K (.ref C) "__eq__" = some (some (.ref f))) (hf : PySem.W.isFn X.K (.ref f) = true) : OpR X (compareOp .Eq) (rOwnEq X.K C sp E) := by
  intro pins s σ H x y v u Q I rx ry h
  obtain ⟨a, dx, fs, t, rfl, ha, ty, nf, h⟩ := h
  obtain rfl : v = Value.ref a := rx
  obtain ⟨ox, od, J⟩ := own_at I ha
  obtain ⟨m, hF⟩ := I.fr
  show wpAny (model X.prog X.w) X.A (richCompare .Eq (.ref a) u) (EP X pins σ Q) X.xe s
  refine PySem.W.cmp_K (op := .Eq) (tb := t) hr.units0 hF I.ok.mod.kin J ?_ nf hs hf ?_
  · obtain ⟨P, Z, p, _⟩ := kit_of I ry ty
    exact Z.ty _ _ I.kIn p
  · refine wpAny_mono (own_call (vs := [.ref a, y]) F hb hx hr rfl I (.cons rfl (.cons ry .nil)) h) (fun v s' z => ?_) fun _ _ z => z
    obtain ⟨w, H', I', rw', b, rfl, q⟩ := z
    obtain rfl : v = Value.bool b := rw'
    exact ⟨.bl b, H', I', rfl, q⟩
end
end OW


set_option Elab.async false
set_option linter.all false
set_option maxRecDepth 100000
set_option maxHeartbeats 4000000
/-! == of lists of texts, of two-text tuples, of dicts of links. -/
namespace OW
open PySem PySem.Spec PyProof.Rows L2
theorem eqvAll_strs : ∀ xs ys : List Str, PyData.eqvAll (xs.map .str) (ys.map .str) = decide (xs = ys)
  | [], [] => rfl
  | [], _ :: _ => rfl
  | _ :: _, [] => rfl
  | x :: xs, y :: ys => by
    show (PyData.eqv (.str x) (.str y) && PyData.eqvAll (xs.map .str) (ys.map .str)) = _
    rw [eqvAll_strs xs ys]
    have e : PyData.eqv (.str x) (.str y) = decide (x = y) := by
      show (x == y) = _
      by_cases h : x = y
      · subst h; rw [decide_eq_true rfl]; exact beq_self_eq_true x
      · rw [decide_eq_false h]; exact beq_eq_false_iff_ne.mpr h
    rw [e]
    by_cases h1 : x = y
    · by_cases h2 : xs = ys
      · subst h1; subst h2; rw [decide_eq_true rfl, decide_eq_true rfl, decide_eq_true rfl]; rfl
      · rw [decide_eq_false h2, Bool.and_false, decide_eq_false (fun z => h2 (List.cons.inj z).2)]
    · rw [decide_eq_false h1, Bool.false_and, decide_eq_false (fun z => h1 (List.cons.inj z).1)]
/-- texts whose signs are all signs -/
def TxOkk (xs : List Str) : Prop := ∀ x ∈ xs, PyData.canLay0 (.str x) = true
theorem lay_strs : ∀ {xs : List Str}, TxOkk xs → PyData.canLayAll0 (xs.map PyData.str) = true
  | [], _ => rfl
  | x :: xs, h => by
    show (PyData.canLay0 (.str x) && PyData.canLayAll0 (xs.map PyData.str)) = true
    rw [h x List.mem_cons_self, lay_strs fun y hy => h y (List.mem_cons_of_mem _ hy)]
    rfl
theorem depth_strs : ∀ xs : List Str, PyData.depthAll (xs.map PyData.str) = 0
  | [] => rfl
  | _ :: xs => by
    show max 0 (PyData.depthAll (xs.map PyData.str)) = 0
    rw [depth_strs xs]
    rfl
theorem shaped_lst {xs : List Str} (h : TxOkk xs) : SeqAt.shaped (.list (xs.map PyData.str)) = true := by
  show (PyData.canLayAll0 (xs.map PyData.str) && decide (PyData.depthAll (xs.map PyData.str) + 1 ≤ 64)) = true
  rw [lay_strs h, depth_strs]
  rfl
theorem shaped_tup {xs : List Str} (h : TxOkk xs) : SeqAt.shaped (.tuple (xs.map PyData.str)) = true := by
  show (PyData.canLayAll0 (xs.map PyData.str) && decide (PyData.depthAll (xs.map PyData.str) + 1 ≤ 64)) = true
  rw [lay_strs h, depth_strs]
  rfl
theorem dpAll_strs {K : PySem.W.Frag} {H : Hp} : ∀ xs : List Str, DpAll K H (xs.map V.str) (xs.map PyData.str)
  | [] => .nil
  | x :: xs => .cons (.str x) (dpAll_strs xs)
section
variable {X : Cx}
/-- lists of texts compared -/
def rEqTx (K : PySem.W.Frag) (neg : Bool) : R2 := fun x y H Q => ∃ (a b : Addr) (xs ys : List Str), x = .ref a ∧ y = .ref b ∧ SqL K H a (xs.map V.str) ∧ SqL K H b (ys.map V.str) ∧ TxOkk xs ∧ TxOkk ys ∧ Q (.bl (if neg then !decide (xs = ys) else decide (xs = ys))) H
theorem op_eqTx (hu : X.A.units + 64 < cLine) : OpR X (compareOp .Eq) (rEqTx X.K false) := by
  intro pins s σ H x y v u Q I rx ry h
  obtain ⟨a, b, xs, ys, rfl, rfl, ha, hb, o1, o2, q⟩ := h
  refine op_eqD hu pins s σ H _ _ v u Q I rx ry ⟨.list (xs.map .str), .list (ys.map .str), .lst ha (dpAll_strs xs), .lst hb (dpAll_strs ys), shaped_lst o1, shaped_lst o2, ?_⟩
  have e : PyData.eqv (.list (xs.map .str)) (.list (ys.map .str)) = decide (xs = ys) := eqvAll_strs xs ys
  rw [e]
  exact q
theorem op_neTx (hu : X.A.units + 64 < cLine) : OpR X (compareOp .NotEq) (rEqTx X.K true) := by
  intro pins s σ H x y v u Q I rx ry h
  obtain ⟨a, b, xs, ys, rfl, rfl, ha, hb, o1, o2, q⟩ := h
  refine op_neD hu pins s σ H _ _ v u Q I rx ry ⟨.list (xs.map .str), .list (ys.map .str), .lst ha (dpAll_strs xs), .lst hb (dpAll_strs ys), shaped_lst o1, shaped_lst o2, ?_⟩
  have e : PyData.eqv (.list (xs.map .str)) (.list (ys.map .str)) = decide (xs = ys) := eqvAll_strs xs ys
  rw [e]
  exact q
/-- tuples of texts compared -/
def rEqTt (K : PySem.W.Frag) (neg : Bool) : R2 := fun x y H Q => ∃ (a b : Addr) (xs ys : List Str), x = .ref a ∧ y = .ref b ∧ SqT K H a (xs.map V.str) ∧ SqT K H b (ys.map V.str) ∧ TxOkk xs ∧ TxOkk ys ∧ Q (.bl (if neg then !decide (xs = ys) else decide (xs = ys))) H
theorem op_eqTt (hu : X.A.units + 64 < cLine) : OpR X (compareOp .Eq) (rEqTt X.K false) := by
  intro pins s σ H x y v u Q I rx ry h
  obtain ⟨a, b, xs, ys, rfl, rfl, ha, hb, o1, o2, q⟩ := h
  refine op_eqD hu pins s σ H _ _ v u Q I rx ry ⟨.tuple (xs.map .str), .tuple (ys.map .str), .tup ha (dpAll_strs xs), .tup hb (dpAll_strs ys), shaped_tup o1, shaped_tup o2, ?_⟩
  have e : PyData.eqv (.tuple (xs.map .str)) (.tuple (ys.map .str)) = decide (xs = ys) := eqvAll_strs xs ys
  rw [e]
  exact q
theorem op_neTt (hu : X.A.units + 64 < cLine) : OpR X (compareOp .NotEq) (rEqTt X.K true) := by
  intro pins s σ H x y v u Q I rx ry h
  obtain ⟨a, b, xs, ys, rfl, rfl, ha, hb, o1, o2, q⟩ := h
  refine op_neD hu pins s σ H _ _ v u Q I rx ry ⟨.tuple (xs.map .str), .tuple (ys.map .str), .tup ha (dpAll_strs xs), .tup hb (dpAll_strs ys), shaped_tup o1, shaped_tup o2, ?_⟩
  have e : PyData.eqv (.tuple (xs.map .str)) (.tuple (ys.map .str)) = decide (xs = ys) := eqvAll_strs xs ys
  rw [e]
  exact q
open PG in
/-- what the walk over the keys answers -/
def hitsL (lb : List Lk) : List Lk → Bool
  | [] => true
  | l :: r => if l.1 ∈ keysL lb then decide (l.2 = lkp lb l.1) && hitsL lb r else false
open PG in
theorem hits_links {pins : List (Addr × Obj)} {σ : L2.St} {H : Hp} {s : Shared} (I : Inv X pins σ H s) (hu : X.A.in1.units + 64 < cLine) {kb : List (Key × V)} {lb : List Lk} (hB : Lks X.K H kb lb) (okB : TxOkk (ends lb)) {vb : List (Key × Value)} (rb : KV kb vb) :
    ∀ {ka : List (Key × V)} {la : List Lk} {va : List (Key × Value)}, Lks X.K H ka la → TxOkk (ends la) → KV ka va → PySem.W.KeqHitsP X.prog X.w X.A.in1 s vb va (hitsL lb la)
  | _, _, _, .nil, _, .nil => .nil
  | _, _, _, .cons (a := p) (b := l) ⟨e, t, e2, z⟩ rs, okA, .cons (b := q) ⟨h1, h2⟩ ra => by
    obtain ⟨key, v⟩ := q
    have ek : key = Sum.inr l.1 := by rw [← e]; exact h1.symm
    subst ek
    unfold hitsL
    by_cases m : l.1 ∈ keysL lb
    · rw [if_pos m]
      obtain ⟨t', hv, z'⟩ := lks_val hB m
      have rr : RelO (some (.ref t')) (valueAt vb (Sum.inr l.1 : Key)) := by rw [← hv]; exact rb.val _
      obtain ⟨y, hy, ry⟩ := rr.some_of
      refine .hit hy ?_ (hits_links I hu hB okB rb rs (fun y hy => okA y (List.mem_append_right [l.2.1, l.2.2] hy)) ra)
      have e2' : RelV (.ref t) v := by rw [← e2]; exact h2
      have d1 : Dp X.K H (.ref t) (.tuple ([l.2.1, l.2.2].map PyData.str)) := .tup z (dpAll_strs [l.2.1, l.2.2])
      have d2 : Dp X.K H (.ref t') (.tuple ([(lkp lb l.1).1, (lkp lb l.1).2].map PyData.str)) := .tup z' (dpAll_strs [(lkp lb l.1).1, (lkp lb l.1).2])
      obtain ⟨as, r1⟩ := Dp.reads I _ _ _ d1 e2'
      obtain ⟨bs, r2⟩ := Dp.reads I _ _ _ d2 ry
      have o1 : TxOkk [l.2.1, l.2.2] := fun y hy => okA y (List.mem_append_left _ hy)
      have o2 : TxOkk [(lkp lb l.1).1, (lkp lb l.1).2] := fun y hy => by
        refine okB y (ends_mem.mpr ⟨_, lkp_mem m, ?_⟩)
        rcases List.mem_cons.mp hy with z | z
        · exact .inl z
        · exact .inr (List.mem_singleton.mp z)
      have k := (PySem.W.keq_at (A := X.A) r1 r2 (shaped_tup o1) (shaped_tup o2) hu).eqP (prog := X.prog) (w := X.w)
      have ee : PyData.eqv (.tuple ([l.2.1, l.2.2].map PyData.str)) (.tuple ([(lkp lb l.1).1, (lkp lb l.1).2].map PyData.str)) = decide (l.2 = lkp lb l.1) := by
        have w1 : PyData.eqv (.tuple ([l.2.1, l.2.2].map PyData.str)) (.tuple ([(lkp lb l.1).1, (lkp lb l.1).2].map PyData.str)) = decide ([l.2.1, l.2.2] = [(lkp lb l.1).1, (lkp lb l.1).2]) := eqvAll_strs _ _
        rw [w1, decide_eq_decide]
        constructor
        · intro z
          obtain ⟨z1, z2⟩ := List.cons.inj z
          exact Prod.ext z1 (List.cons.inj z2).1
        · intro z
          rw [z]
      rw [ee] at k
      exact k
    · rw [if_neg m]
      have rr : RelO none (valueAt vb (Sum.inr l.1 : Key)) := by rw [← lks_none hB m]; exact rb.val _
      refine .miss ?_
      cases q : valueAt vb (Sum.inr l.1 : Key) with
      | none => rfl
      | some y => rw [q] at rr; exact rr.elim
open PG in
def rEqLk (K : PySem.W.Frag) : R2 := fun x y H Q => ∃ (a b : Addr) (ka kb : List (Key × V)) (la lb : List Lk), x = .ref a ∧ y = .ref b ∧ H a = some (.dK ka) ∧ H b = some (.dK kb) ∧ Lks K H ka la ∧ Lks K H kb lb ∧ TxOkk (ends la) ∧ TxOkk (ends lb) ∧ Q (.bl (decide (la.length = lb.length) && hitsL lb la)) H
theorem op_eqLk (hu : X.A.units + 66 < cLine) : OpR X (compareOp .Eq) (rEqLk X.K) := by
  intro pins s σ H x y v u Q I rx ry h
  obtain ⟨a, b, ka, kb, la, lb, rfl, rfl, ha, hb, lA, lB, oA, oB, q⟩ := h
  obtain rfl : v = Value.ref a := rx
  obtain rfl : u = Value.ref b := ry
  obtain ⟨_, ya, va, ra, da⟩ := (show ObjOk X.prog X.w H s.heap a (.dK ka) from I.hok a _ ha)
  obtain ⟨_, yb, vb, rb, db⟩ := (show ObjOk X.prog X.w H s.heap b (.dK kb) from I.hok b _ hb)
  refine PySem.W.rcP_dicts (knd := mixKind X.prog X.w) (r := hitsL lb la) ya yb da db (by omega) (fun _ => hits_links I (by show X.A.units + 1 + 64 < cLine; omega) lB oB rb lA oA ra) _ _ ⟨.bl _, H, I, rfl, ?_⟩
  have e1 : va.length = la.length := by rw [← ra.length]; exact Paired.length lA
  have e2 : vb.length = lb.length := by rw [← rb.length]; exact Paired.length lB
  rw [e1, e2]
  exact q
end
end OW


set_option Elab.async false
set_option linter.all false
set_option maxRecDepth 100000
set_option maxHeartbeats 4000000
namespace PG
open PySem L2
theorem room66 {k : Nat} {A : Around} (r : Room k A) : A.units + 66 < cLine := by have := r.un; omega
abbrev sBegin : Stmt := inClass sProg 1
abbrev sMWays : Stmt := inClass sProg 2
abbrev sMPlaces : Stmt := inClass sProg 3
abbrev sMExits : Stmt := inClass sProg 4
abbrev sGet : Stmt := inClass sProg 5
abbrev sHas : Stmt := inClass sProg 7
abbrev sMLen : Stmt := inClass sProg 8
abbrev sEq : Stmt := inClass sProg 9
/-- the class among the types -/
structure PTt (K : PySem.W.Frag) (C : Addr) : Prop where
  ha : PySem.W.findIn K (.ref C) "__class__" = some (some (.builtin "object.__class__"))
  hn : PySem.W.specialIn K (.builtin "object.__class__") "__get__" = some (some (.builtin "getset_descriptor.__get__"))
  htk : PySem.W.takesIn K (.builtin "object.__class__") = some true
  hm : PySem.W.mroIn K C (.type "object") = some true
section
variable {P : Program} {w : World} {K : PySem.W.Frag} {mg : Str → Option Value} {base : Heap}
theorem f_links {L S F : Addr} {b : Str} : ([("links", .ref L), ("spots", .ref S), ("origin", .str b), ("finals", .ref F)] : List (Str × V)).lookup ("links" : Str) = some (.ref L) := rfl
theorem scBegin : FnScope ["self"] ["self"] (defScope sBegin) := ⟨rfl, rfl, rfl, by decide +kernel, rfl, by decide +kernel, by decide +kernel⟩
def spBegin (K : PySem.W.Frag) (C : Addr) : Sp := fun vs H Q _ => ∃ (x dx L S F : Addr) (d : PD), vs = [.ref x] ∧ ProgAt K C H x dx L S F d ∧ Q (.str d.b) H
theorem ok_begin {f C : Addr} {fd : FuncData} (Fn : Fun K "begin" "Program.begin" sBegin f fd) (Tc : PTc K mg C) : FnOk P w K mg base CX0 1 f fd ["self"] (spBegin K C) := by
  refine Fn.ok scBegin (fun vs H Q E h => ?_) (fun cdv A outer s H vs Q E hr h => ?_)
  · obtain ⟨x, dx, L, S, F, d, rfl, _⟩ := h
    rfl
  · obtain ⟨x, dx, L, S, F, d, rfl, h, k⟩ := h
    exact ⟨_, pss_one (ps_ret (pe_fld (pv 0) rfl)), _, rfl, x, C, dx, _, _, rfl, h.ins, Tc.cl, Tc.n3, rfl, k⟩
theorem scMWays : FnScope ["self"] ["self"] (defScope sMWays) := ⟨rfl, rfl, rfl, by decide +kernel, rfl, by decide +kernel, by decide +kernel⟩
/-- a new list -/
def spList (K : PySem.W.Frag) (C : Addr) (g : PD → List Str) : Sp := fun vs H Q _ => ∃ (x dx L S F : Addr) (d : PD), vs = [.ref x] ∧ ProgAt K C H x dx L S F d ∧ ∀ p, H p = none → Q (.ref p) (upd H p (.lst ((g d).map V.str)))
theorem keys_strs {H : Hp} {kvs : List (Key × V)} {ls : List Lk} (h : Lks K H kvs ls) : (kvs.map fun kv => kV kv.1) = (keysL ls).map V.str := by
  have z := lks_keys h
  have e : (kvs.map fun kv => kV kv.1) = (kvs.map (·.1)).map kV := by rw [List.map_map]; rfl
  rw [e, z, List.map_map]
  rfl
theorem ok_mways {f C : Addr} {fd : FuncData} (Fn : Fun K "ways" "Program.ways" sMWays f fd) (T : PT0 mg) (Tc : PTc K mg C) : FnOk P w K mg base CX0 1 f fd ["self"] (spList K C fun d => keysL d.ls) := by
  refine Fn.ok scMWays (fun vs H Q E h => ?_) (fun cdv A outer s H vs Q E hr h => ?_)
  · obtain ⟨x, dx, L, S, F, d, rfl, _⟩ := h
    rfl
  · obtain ⟨x, dx, L, S, F, d, rfl, h, k⟩ := h
    obtain ⟨kvs, hL, lk⟩ := h.lk
    refine ⟨_, pss_one (ps_ret (pe_callTy (call_listD rfl) (by rfl) T.list PyProof.Rows.boot_list (pa_cons (pe_fld (pv 0) rfl) pa_nil))), _, rfl, x, C, dx, _, _, rfl, h.ins, Tc.cl, Tc.n1, rfl, L, kvs, rfl, .inl hL, fun p np => ?_⟩
    rw [keys_strs lk]
    exact k p np
theorem scMPlaces : FnScope ["self"] ["self"] (defScope sMPlaces) := ⟨rfl, rfl, rfl, by decide +kernel, rfl, by decide +kernel, by decide +kernel⟩
theorem ok_mplaces {f C : Addr} {fd : FuncData} (Fn : Fun K "places" "Program.places" sMPlaces f fd) (T : PT0 mg) (Tc : PTc K mg C) : FnOk P w K mg base CX0 1 f fd ["self"] (spList K C fun d => d.ps) := by
  refine Fn.ok scMPlaces (fun vs H Q E h => ?_) (fun cdv A outer s H vs Q E hr h => ?_)
  · obtain ⟨x, dx, L, S, F, d, rfl, _⟩ := h
    rfl
  · obtain ⟨x, dx, L, S, F, d, rfl, h, k⟩ := h
    exact ⟨_, pss_one (ps_ret (pe_callTy call_list_of (by rfl) T.list PyProof.Rows.boot_list (pa_cons (pe_fld (pv 0) rfl) pa_nil))), _, rfl, x, C, dx, _, _, rfl, h.ins, Tc.cl, Tc.n2, rfl, S, _, rfl, .inl (SqL.of h.sp), k⟩
theorem scMExits : FnScope ["self"] ["self"] (defScope sMExits) := ⟨rfl, rfl, rfl, by decide +kernel, rfl, by decide +kernel, by decide +kernel⟩
theorem ok_mexits {f C : Addr} {fd : FuncData} (Fn : Fun K "exits" "Program.exits" sMExits f fd) (T : PT0 mg) (Tc : PTc K mg C) : FnOk P w K mg base CX0 1 f fd ["self"] (spList K C fun d => d.fs) := by
  refine Fn.ok scMExits (fun vs H Q E h => ?_) (fun cdv A outer s H vs Q E hr h => ?_)
  · obtain ⟨x, dx, L, S, F, d, rfl, _⟩ := h
    rfl
  · obtain ⟨x, dx, L, S, F, d, rfl, h, k⟩ := h
    exact ⟨_, pss_one (ps_ret (pe_callTy call_list_of (by rfl) T.list PyProof.Rows.boot_list (pa_cons (pe_fld (pv 0) rfl) pa_nil))), _, rfl, x, C, dx, _, _, rfl, h.ins, Tc.cl, Tc.n4, rfl, F, _, rfl, .inl (SqL.of h.fi), k⟩
/-! ### item reading, in, len -/
theorem isSome_val {H : Hp} {kvs : List (Key × V)} {ls : List Lk} {x : Str} (h : Lks K H kvs ls) : (valV kvs (Sum.inr x : Key)).isSome = decide (x ∈ keysL ls) := by
  by_cases m : x ∈ keysL ls
  · obtain ⟨t, e, _⟩ := lks_val h m
    rw [e, decide_eq_true m]
    rfl
  · rw [lks_none h m, decide_eq_false m]
    rfl
theorem scGet : FnScope ["self", "at"] ["self", "at"] (defScope sGet) := ⟨rfl, rfl, rfl, by decide +kernel, rfl, by decide +kernel, by decide +kernel⟩
def spGet (K : PySem.W.Frag) (C : Addr) : Sp := fun vs H Q _ => ∃ (x dx L S F : Addr) (d : PD) (wy : Str), vs = [.ref x, .str wy] ∧ ProgAt K C H x dx L S F d ∧ wy ∈ keysL d.ls ∧ ∀ t, SqT K H t [.str (lkp d.ls wy).1, .str (lkp d.ls wy).2] → Q (.ref t) H
theorem ok_get {f C fA : Addr} {fd fdA : FuncData} (Fn : Fun K "__getitem__" "Program.__getitem__" sGet f fd) (Tc : PTc K mg C) (FA : Fun K "is_among" "is_among" sAmong fA fdA) (bA : Binds K fdA ["value", "words"] []) (gA : mg "is_among" = some (.ref fA)) (GA : FnOk P w K mg base CX0 1 fA fdA ["value", "words"] (spAmong K)) : FnOk P w K mg base CX0 2 f fd ["self", "at"] (spGet K C) := by
  refine Fn.ok scGet (fun vs H Q E h => ?_) (fun cdv A outer s H vs Q E hr h => ?_)
  · obtain ⟨x, dx, L, S, F, d, wy, rfl, _⟩ := h
    rfl
  · obtain ⟨x, dx, L, S, F, d, wy, rfl, h, m, k⟩ := h
    obtain ⟨kvs, hL, lk⟩ := h.lk
    obtain ⟨t, e, ht⟩ := lks_val lk m
    refine ⟨_, pss_cons (ps_if (pt_not (pt_val (pe_call GA hr (by rfl) gA FA.kp bA .nil pass0 (pa_cons (pv 1) (pa_cons (pe_fld (pv 0) rfl) pa_nil))))) pss_dead pss_nil) (pss_one (ps_ret (pe_dget (hu_of hr) (pe_fld (pv 0) rfl) (pv 1) (fun _ _ => rfl)))), ?_⟩
    refine ⟨_, rfl, _, rfl, x, C, dx, _, _, rfl, h.ins, Tc.cl, Tc.n1, rfl, .str wy, L, rfl, .inr (.inl ⟨wy, kvs, rfl, .inl hL, _, rfl, ?_⟩)⟩
    rw [isSome_val lk, decide_eq_true m]
    refine iteNF ⟨_, rfl, x, C, dx, _, _, rfl, h.ins, Tc.cl, Tc.n1, rfl, _, rfl, L, .ref t, rfl, ?_, k t ht⟩
    rw [← e]
    exact .inl ⟨kvs, Sum.inr wy, .inl hL, rfl, rfl⟩
theorem scHas : FnScope ["self", "x"] ["self", "x"] (defScope sHas) := ⟨rfl, rfl, rfl, by decide +kernel, rfl, by decide +kernel, by decide +kernel⟩
def spHas (K : PySem.W.Frag) (C : Addr) : Sp := fun vs H Q _ => ∃ (x dx L S F : Addr) (d : PD) (v : V), vs = [.ref x, v] ∧ ProgAt K C H x dx L S F d ∧ ((∃ wy, v = .str wy ∧ Q (.bl (decide (wy ∈ keysL d.ls))) H) ∨ (∃ t, TyX K H v t ∧ PySem.W.kitOne K t (.type "str") = some false ∧ Q (.bl false) H))
theorem ok_has {f C fA : Addr} {fd fdA : FuncData} (Fn : Fun K "__contains__" "Program.__contains__" sHas f fd) (Tc : PTc K mg C) (FA : Fun K "is_among" "is_among" sAmong fA fdA) (bA : Binds K fdA ["value", "words"] []) (gA : mg "is_among" = some (.ref fA)) (GA : FnOk P w K mg base CX0 1 fA fdA ["value", "words"] (spAmong K)) : FnOk P w K mg base CX0 2 f fd ["self", "x"] (spHas K C) := by
  refine Fn.ok scHas (fun vs H Q E h => ?_) (fun cdv A outer s H vs Q E hr h => ?_)
  · obtain ⟨x, dx, L, S, F, d, v, rfl, _⟩ := h
    rfl
  · obtain ⟨x, dx, L, S, F, d, v, rfl, h, k⟩ := h
    obtain ⟨kvs, hL, lk⟩ := h.lk
    refine ⟨_, pss_one (ps_ret (pe_call GA hr (by rfl) gA FA.kp bA .nil pass0 (pa_cons (pv 1) (pa_cons (pe_fld (pv 0) rfl) pa_nil)))), _, rfl, _, rfl, x, C, dx, _, _, rfl, h.ins, Tc.cl, Tc.n1, rfl, v, L, rfl, ?_⟩
    rcases k with ⟨wy, rfl, q⟩ | ⟨t, ht, hk, q⟩
    · refine .inr (.inl ⟨wy, kvs, rfl, .inl hL, ?_⟩)
      rw [isSome_val lk]
      exact q
    · exact .inr (.inr ⟨t, ht, hk, q⟩)
theorem scMLen : FnScope ["self"] ["self"] (defScope sMLen) := ⟨rfl, rfl, rfl, by decide +kernel, rfl, by decide +kernel, by decide +kernel⟩
def spMLen (K : PySem.W.Frag) (C : Addr) : Sp := fun vs H Q _ => ∃ (x dx L S F : Addr) (d : PD), vs = [.ref x] ∧ ProgAt K C H x dx L S F d ∧ Q (.int (d.ls.length : Nat)) H
theorem ok_mlen {f C : Addr} {fd : FuncData} (Fn : Fun K "__len__" "Program.__len__" sMLen f fd) (T : PT0 mg) (Tc : PTc K mg C) : FnOk P w K mg base CX0 1 f fd ["self"] (spMLen K C) := by
  refine Fn.ok scMLen (fun vs H Q E h => ?_) (fun cdv A outer s H vs Q E hr h => ?_)
  · obtain ⟨x, dx, L, S, F, d, rfl, _⟩ := h
    rfl
  · obtain ⟨x, dx, L, S, F, d, rfl, h, k⟩ := h
    obtain ⟨kvs, hL, lk⟩ := h.lk
    refine ⟨_, pss_one (ps_ret (pe_callB call_lenD (by rfl) T.len PySem.boot_len (pa_cons (pe_fld (pv 0) rfl) pa_nil))), _, rfl, x, C, dx, _, _, rfl, h.ins, Tc.cl, Tc.n1, rfl, L, kvs, rfl, hL, ?_⟩
    rw [Paired.length lk]
    exact k
/-! ### == -/
theorem scEq : FnScope ["self", "other"] ["self", "other"] (defScope sEq) := ⟨rfl, rfl, rfl, by decide +kernel, rfl, by decide +kernel, by decide +kernel⟩
def eqPD (d e : PD) : Bool := (decide (d.ls.length = e.ls.length) && OW.hitsL e.ls d.ls) && (decide (d.b = e.b) && decide (d.fs = e.fs))
structure PDok (d : PD) : Prop where
  l : OW.TxOkk (ends d.ls)
  f : OW.TxOkk d.fs
def spEqP (K : PySem.W.Frag) (C : Addr) : Sp := fun vs H Q _ => ∃ (x dx L S F : Addr) (d : PD) (v : V), vs = [.ref x, v] ∧ ProgAt K C H x dx L S F d ∧
  ((∃ (y dy L2 S2 F2 : Addr) (e : PD), v = .ref y ∧ ProgAt K C H y dy L2 S2 F2 e ∧ PDok d ∧ PDok e ∧ Q (.bl (eqPD d e)) H) ∨ (∃ t, TyX K H v t ∧ PySem.W.kitOne K t (.ref C) = some false ∧ Q (.bl false) H))
theorem ok_eqP {f C : Addr} {fd : FuncData} (Fn : Fun K "__eq__" "Program.__eq__" sEq f fd) (T : PT0 mg) (Tc : PTc K mg C) (Tt : PTt K C) : FnOk P w K mg base CX0 1 f fd ["self", "other"] (spEqP K C) := by
  refine Fn.ok scEq (fun vs H Q E h => ?_) (fun cdv A outer s H vs Q E hr h => ?_)
  · obtain ⟨x, dx, L, S, F, d, v, rfl, _⟩ := h
    rfl
  · obtain ⟨x, dx, L, S, F, d, v, rfl, h, k⟩ := h
    obtain ⟨kvs, hL, lk⟩ := h.lk
    refine ⟨_, pss_one (ps_ret (pe_and (pe_callB call_isi (by rfl) T.isi PyProof.Rows.boot_isinstance (pa_cons (pv 1) (pa_cons (pe_glob (v := .ref C) (by rfl) Tc.gC rfl) pa_nil)))
      (pe_and (pe_cmpR (OW.op_eqLk (room66 hr)) (pe_fld (pv 0) rfl) (pe_fld (pv 1) rfl) (nomark _))
      (pe_and (pe_cmpR op_eq (pe_fld (pv 0) rfl) (pe_fld (pv 1) rfl) (nomark _))
      (pe_one (pe_cmpR (OW.op_eqTx hr.units) (pe_fld (pv 0) rfl) (pe_fld (pv 1) rfl) (nomark _))))))), ?_⟩
    rcases k with ⟨y, dy, L2, S2, F2, e, rfl, h2, ok1, ok2, q⟩ | ⟨t, ht, hk, q⟩
    · obtain ⟨kvs2, hL2, lk2⟩ := h2.lk
      refine ⟨_, rfl, .ref y, .ref C, _, _, true, rfl, .own C, .base (.ins h2.ins Tc.cl Tt.ha Tt.hn Tt.htk Tt.hm), ?_, _, rfl, iteT ?_⟩
      · unfold PySem.W.kitOne
        rw [if_pos (beq_self_eq_true _)]
      refine ⟨_, rfl, x, C, dx, _, _, rfl, h.ins, Tc.cl, Tc.n1, rfl, _, rfl, y, C, dy, _, _, rfl, h2.ins, Tc.cl, Tc.n1, rfl, L, L2, kvs, kvs2, _, _, rfl, rfl, hL, hL2, lk, lk2, ok1.l, ok2.l, _, rfl, iteB (fun c1 => ?_) (fun c1 => ?_)⟩
      · refine ⟨_, rfl, x, C, dx, _, _, rfl, h.ins, Tc.cl, Tc.n3, rfl, _, rfl, y, C, dy, _, _, rfl, h2.ins, Tc.cl, Tc.n3, rfl, rfl, _, rfl, iteB (fun c2 => ?_) (fun c2 => ?_)⟩
        · refine ⟨_, rfl, x, C, dx, _, _, rfl, h.ins, Tc.cl, Tc.n4, rfl, _, rfl, y, C, dy, _, _, rfl, h2.ins, Tc.cl, Tc.n4, rfl, F, F2, _, _, rfl, rfl, SqL.of h.fi, SqL.of h2.fi, ok1.f, ok2.f, ?_⟩
          have e2 : d.b = e.b := by have z := of_decide_eq_true c2; injection z
          unfold eqPD at q
          rw [c1, decide_eq_true e2, Bool.true_and, Bool.true_and] at q
          exact q
        · have e2 : d.b ≠ e.b := fun z => by
            rw [z, decide_eq_true rfl] at c2
            cases c2
          unfold eqPD at q
          rw [decide_eq_false e2, Bool.false_and, Bool.and_false] at q
          exact q
      · unfold eqPD at q
        rw [c1, Bool.false_and] at q
        exact q
    · exact ⟨_, rfl, v, .ref C, _, _, false, rfl, .own C, ht, hk, _, rfl, iteF q⟩
end
end PG


set_option Elab.async false
set_option linter.all false
set_option maxRecDepth 100000
set_option maxHeartbeats 4000000
/-! Own + and +=, static methods, classes made with stars. -/
namespace OW
open PySem PySem.Spec PyProof.Rows L2
section
variable {X : Cx} {CX : CXT} {k : Nat} {f C : Addr} {fd : FuncData} {ps : List Str} {sp : Sp} {E : XK}
/-- x op y, both of the class at C, by its own def -/
def rOwnBin (K : PySem.W.Frag) (C : Addr) (sp : Sp) (E : XK) : R2 := fun x y H Q => ∃ (a dx : Addr) (fs : List (Str × V)), x = .ref a ∧ H a = some (.ins C dx fs) ∧ TyX K H y (.ref C) ∧ sp [.ref a, y] H (fun v H' => (∃ r, v = .ref r) ∧ Q v H') E
theorem op_ownBin {op : Operator} (F : FnOk X.prog X.w X.K X.mg X.base CX k f fd ps sp) (hb : Binds X.K fd ps []) (hx : Passes CX X E) (hr : Room k X.A) (hc : PySem.W.selfFirst X.K C = true) (hs : PySem.W.findIn X.K (.ref C) (PySem.dunder op.info.2) = some (some (.ref f))) (hf : PySem.W.isFn X.K (.ref f) = true) : OpR X (binaryOp op) (rOwnBin X.K C sp E) := by
  intro pins s σ H x y v u Q I rx ry h
  obtain ⟨a, dx, fs, rfl, ha, ty, h⟩ := h
  obtain rfl : v = Value.ref a := rx
  obtain ⟨ox, od, J⟩ := own_at I ha
  obtain ⟨m, hF⟩ := I.fr
  obtain ⟨P, Z, p, _⟩ := kit_of I ry ty
  refine PySem.W.binop_K hF I.ok.mod.kin J (Z.ty _ _ I.kIn p) hc hs hf ?_
  refine wpAny_mono (own_call (vs := [.ref a, y]) F hb hx hr rfl I (.cons rfl (.cons ry .nil)) h) (fun v s' z => ?_) fun _ _ z => z
  obtain ⟨w, H', I', rw', ⟨r, rfl⟩, q⟩ := z
  obtain rfl : v = Value.ref r := rw'
  exact ⟨.ref r, H', I', rfl, q⟩
theorem ip_own {op : Operator} (F : FnOk X.prog X.w X.K X.mg X.base CX k f fd ps sp) (hb : Binds X.K fd ps []) (hx : Passes CX X E) (hr : Room k X.A) (hc : PySem.W.selfFirst X.K C = true) (hs : PySem.W.findIn X.K (.ref C) (PySem.dunderI op.info.2) = some (some (.ref f))) (hf : PySem.W.isFn X.K (.ref f) = true) : PIp X op (rOwnBin X.K C sp E) := by
  intro pins s σ H x y v u Q I rx ry h
  obtain ⟨a, dx, fs, rfl, ha, ty, h⟩ := h
  obtain rfl : v = Value.ref a := rx
  obtain ⟨ox, od, J⟩ := own_at I ha
  obtain ⟨m, hF⟩ := I.fr
  refine PySem.W.ksp_inplace hF I.ok.mod.kin J hc hs hf ?_
  refine wpAny_mono (own_call (vs := [.ref a, y]) F hb hx hr rfl I (.cons rfl (.cons ry .nil)) h) (fun v s' z => ?_) fun _ _ z => z
  obtain ⟨w, H', I', rw', ⟨r, rfl⟩, q⟩ := z
  obtain rfl : v = Value.ref r := rw'
  exact ⟨.ref r, H', I', rfl, q⟩
end
/-- C.m is a staticmethod: its record at p, its def at g -/
structure SMet (K : PySem.W.Frag) (C : Addr) (mc : Value) (m : Str) (p g : Addr) : Prop where
  at_ : PySem.W.findCls K (.ref C) mc m = some (.get (.builtin "staticmethod.__get__") (.ref p) .none (.ref C))
  rc : ∃ rest, PySem.W.recIn K p "staticmethod" = some (.ref g :: rest)
  kp : PySem.W.keepIn K (.ref g) = true
/-- C.m(..) -/
def tSMeth (C : Addr) (sp : Sp) (E : XK) (ta : TE) (t : TA) : TE := fun σ H Q => ta σ H fun x H1 => x = .ref C ∧ t σ H1 fun vs H2 => sp vs H2 Q E
section
variable {X : Cx} {CX : CXT} {k : Nat} {C p g f : Addr} {mc : Value} {sp : Sp} {E : XK} {o e : Expr} {es : List Expr} {x m : Str} {pos apos pp : Pos} {ta : TE} {t : TA} {pl : Sem Bool}
theorem pe_smeth (he : PE X o ta) (r : ClX.CRead X.K C mc) (c : SMet X.K C mc m p g) (F : FnR X.prog X.w X.K X.mg X.base CX k g sp) (hr : Room k X.A) (hx : Passes CX X E) (ha : PA X (e :: es) t)
    (hst : starEach (e :: es) X.env = (false, eval e X.env) :: starEach es X.env := by rfl) (hpl : (backTo pos (starEach es X.env)).any (·.1) = false := by rfl)
    (ht : eval (.Call (.Attribute o m apos) (e :: es) [] pos) X.env = (do let ov ← eval o X.env; standAt apos.atName; let (f, first) ← holding [ov] (getMethod ov m pl); callWith pos f first (backTo pos (starEach (e :: es) X.env)) (backToKw pos (keywordEach [] X.env))) := by rfl) :
    PE X (.Call (.Attribute o m apos) (e :: es) [] pos) (tSMeth C sp E ta t) := by
  refine ⟨fun pins s σ H Q I h => PySem.W.methodCall_KW (pl := pl) (thn (he.run pins s σ H _ I h) fun u s1 ⟨x, H1, I1, rx, ex, q⟩ => ?_) ht⟩
  subst ex
  obtain rfl : u = Value.ref C := rx
  obtain ⟨rest, hp⟩ := c.rc
  refine PySem.W.method_cls I1.kIn r.ga (PySem.W.cls_bind I1.kIn r.rd c.at_ (wpAny_call (PySem.W.sm_get (s := { s1 with toks := s1.toks + 1 }) I1.kIn hp (PySem.W.handed_on rfl ?_))))
  have I2 := I1.tok (s1.toks + 1)
  refine PySem.W.callWith_K (h₀ := X.base) I2.ok.mod.kin c.kp (thn (ha.run pos pins _ σ H1 _ I2 q) fun us s3 ⟨vs, H2, I3, rv, q2⟩ => ⟨I3.kIn, ?_⟩) hst hpl
  exact wpAny_call (run_fnR F hr hx I3 rv q2)
/-- C(e, .., *y) -/
theorem pe_makeS (M : Mk X.K C f) (F : FnR X.prog X.w X.K X.mg X.base CX k f sp) (hr : Room (k + 1) X.A) (hg : Gl X x) (hm : X.mg x = some (.ref C)) (hx : Passes CX X E) (ha : PA X (e :: es) t) (hdb : (x == ("__debug__" : Str)) = false := by decide)
    (he : starEach (e :: es) X.env = (false, eval e X.env) :: starEach es X.env := by rfl) (hst : (backTo pos (starEach es X.env)).any (·.1) = true := by rfl) : PE X (.Call (.Name x pp) (e :: es) [] pos) (StX.tMakeR C sp E t) := by
  refine ⟨fun pins s σ H Q I h => wpAny_Call_Name_kw (ld_glob I hg hm ?_ hdb)⟩
  refine PySem.W.callWith_S2 (h₀ := X.base) I.ok.mod.kin M.kp (thn (ha.run pos pins s σ H _ I h) fun us s1 ⟨vs, H1, I1, r, q⟩ => ⟨I1.kIn, ?_⟩) he hst
  exact StX.run_makeR M F hr hx I1 r q
end
end OW


set_option Elab.async false
set_option linter.all false
set_option maxRecDepth 100000
set_option maxHeartbeats 4000000
/-! Tuples of texts, in lists and tuples; lists of them compared. -/
namespace OW
open PySem PySem.Spec PyProof.Rows L2
def TupT (K : PySem.W.Frag) (H : Hp) (v : V) (c : List Str) : Prop := ∃ t, v = .ref t ∧ SqT K H t (c.map V.str)
abbrev TupLs (K : PySem.W.Frag) (H : Hp) (vs : List V) (cs : List (List Str)) : Prop := Paired (TupT K H) vs cs
def dOf (c : List Str) : PyData := .tuple (c.map PyData.str)
def CsOk (cs : List (List Str)) : Prop := ∀ c ∈ cs, TxOkk c
theorem TupT.same {K : PySem.W.Frag} {H H' : Hp} {v : V} {c : List Str} (h : TupT K H v c) (s : Same H H') : TupT K H' v c := by
  obtain ⟨t, e, h⟩ := h
  exact ⟨t, e, PG.sqT_same h s⟩
theorem TupLs.same {K : PySem.W.Frag} {H H' : Hp} {vs : List V} {cs : List (List Str)} (h : TupLs K H vs cs) (s : Same H H') : TupLs K H' vs cs := PG.Paired.imp (fun _ _ q => q.same s) h
theorem TupT.dp {K : PySem.W.Frag} {H : Hp} {v : V} {c : List Str} (h : TupT K H v c) : Dp K H v (dOf c) := by
  obtain ⟨t, rfl, h⟩ := h
  exact .tup h (dpAll_strs c)
theorem TupLs.dp {K : PySem.W.Frag} {H : Hp} : ∀ {vs : List V} {cs : List (List Str)}, TupLs K H vs cs → DpAll K H vs (cs.map dOf)
  | _, _, .nil => .nil
  | _, _, .cons h r => .cons h.dp (TupLs.dp r)
theorem eqv_dOf (c d : List Str) : PyData.eqv (dOf c) (dOf d) = decide (c = d) := eqvAll_strs c d
theorem any_dOf (c : List Str) : ∀ cs : List (List Str), ((cs.map dOf).any fun z => PyData.eqv z (dOf c)) = decide (c ∈ cs)
  | [] => rfl
  | d :: cs => by
    rw [List.map_cons, List.any_cons, any_dOf c cs, eqv_dOf]
    by_cases e : d = c
    · rw [decide_eq_true e, Bool.true_or, decide_eq_true (by rw [e]; exact List.mem_cons_self)]
    · rw [decide_eq_false e, Bool.false_or, decide_eq_decide]
      exact ⟨fun h => List.mem_cons_of_mem _ h, fun h => (List.mem_cons.mp h).elim (fun q => absurd q.symm e) id⟩
theorem eqvAll_dOf : ∀ cs ds : List (List Str), PyData.eqvAll (cs.map dOf) (ds.map dOf) = decide (cs = ds)
  | [], [] => rfl
  | [], _ :: _ => rfl
  | _ :: _, [] => rfl
  | c :: cs, d :: ds => by
    show (PyData.eqv (dOf c) (dOf d) && PyData.eqvAll (cs.map dOf) (ds.map dOf)) = _
    rw [eqvAll_dOf cs ds, eqv_dOf]
    by_cases h1 : c = d
    · by_cases h2 : cs = ds
      · subst h1; subst h2; rw [decide_eq_true rfl, decide_eq_true rfl, decide_eq_true rfl]; rfl
      · rw [decide_eq_false h2, Bool.and_false, decide_eq_false (fun z => h2 (List.cons.inj z).2)]
    · rw [decide_eq_false h1, Bool.false_and, decide_eq_false (fun z => h1 (List.cons.inj z).1)]
theorem lay_cs : ∀ {cs : List (List Str)}, CsOk cs → PyData.canLayAll0 (cs.map dOf) = true
  | [], _ => rfl
  | c :: cs, h => by
    show (PyData.canLayAll0 (c.map PyData.str) && PyData.canLayAll0 (cs.map dOf)) = true
    rw [lay_strs (h c List.mem_cons_self), lay_cs fun d hd => h d (List.mem_cons_of_mem _ hd)]
    rfl
theorem depth_cs : ∀ cs : List (List Str), PyData.depthAll (cs.map dOf) ≤ 1
  | [] => Nat.zero_le _
  | c :: cs => by
    show max (PyData.depthAll (c.map PyData.str) + 1) (PyData.depthAll (cs.map dOf)) ≤ 1
    rw [depth_strs]
    have := depth_cs cs
    omega
theorem shaped_cs {cs : List (List Str)} (h : CsOk cs) : SeqAt.shaped (.list (cs.map dOf)) = true := by
  show (PyData.canLayAll0 (cs.map dOf) && decide (PyData.depthAll (cs.map dOf) + 1 ≤ 64)) = true
  rw [lay_cs h, decide_eq_true (by have := depth_cs cs; omega)]
  rfl
theorem shaped_ct {cs : List (List Str)} (h : CsOk cs) : SeqAt.shaped (.tuple (cs.map dOf)) = true := by
  show (PyData.canLayAll0 (cs.map dOf) && decide (PyData.depthAll (cs.map dOf) + 1 ≤ 64)) = true
  rw [lay_cs h, decide_eq_true (by have := depth_cs cs; omega)]
  rfl
section
variable {X : Cx}
/-- a tuple of texts in a list of such -/
def rInC (K : PySem.W.Frag) (neg : Bool) : R2 := fun x y H Q => ∃ (c : List Str) (a : Addr) (vs : List V) (cs : List (List Str)), TupT K H x c ∧ y = .ref a ∧ SqL K H a vs ∧ TupLs K H vs cs ∧ TxOkk c ∧ CsOk cs ∧ Q (.bl (if neg then !decide (c ∈ cs) else decide (c ∈ cs))) H
theorem op_inC (hu : X.A.units + 65 < cLine) : OpR X (compareOp .In) (rInC X.K false) := by
  intro pins s σ H x y v u Q I rx ry h
  obtain ⟨c, a, vs, cs, hx, rfl, ha, hv, o1, o2, q⟩ := h
  refine op_inD hu pins s σ H _ _ v u Q I rx ry ⟨dOf c, cs.map dOf, hx.dp, .lst ha hv.dp, shaped_tup o1, shaped_cs o2, ?_⟩
  rw [any_dOf]
  exact q
theorem op_notInC (hu : X.A.units + 65 < cLine) : OpR X (compareOp .NotIn) (rInC X.K true) := by
  intro pins s σ H x y v u Q I rx ry h
  obtain ⟨c, a, vs, cs, hx, rfl, ha, hv, o1, o2, q⟩ := h
  refine op_notInD hu pins s σ H _ _ v u Q I rx ry ⟨dOf c, cs.map dOf, hx.dp, .lst ha hv.dp, shaped_tup o1, shaped_cs o2, ?_⟩
  rw [any_dOf]
  exact q
/-- .. in a tuple of such -/
def rInCT (K : PySem.W.Frag) (neg : Bool) : R2 := fun x y H Q => ∃ (c : List Str) (a : Addr) (vs : List V) (cs : List (List Str)), TupT K H x c ∧ y = .ref a ∧ SqT K H a vs ∧ TupLs K H vs cs ∧ TxOkk c ∧ CsOk cs ∧ Q (.bl (if neg then !decide (c ∈ cs) else decide (c ∈ cs))) H
theorem op_inCT (hu : X.A.units + 65 < cLine) : OpR X (compareOp .In) (rInCT X.K false) := by
  intro pins s σ H x y v u Q I rx ry h
  obtain ⟨c, a, vs, cs, hx, rfl, ha, hv, o1, o2, q⟩ := h
  obtain ⟨as, r1⟩ := Dp.reads I (dOf c) x v hx.dp rx
  obtain ⟨bs, r2⟩ := Dp.reads I (.tuple (cs.map dOf)) _ u (.tup ha hv.dp) ry
  refine SeqAt.in_tuple_reads r2 r1 (SeqAt.canLay_of_shaped (shaped_ct o2)) (SeqAt.canLay_of_shaped (shaped_tup o1)) (room_in_shaped (shaped_tup o1) hu) ⟨.bl _, H, I, rfl, ?_⟩
  rw [any_dOf]
  exact q
theorem op_notInCT (hu : X.A.units + 65 < cLine) : OpR X (compareOp .NotIn) (rInCT X.K true) := by
  intro pins s σ H x y v u Q I rx ry h
  obtain ⟨c, a, vs, cs, hx, rfl, ha, hv, o1, o2, q⟩ := h
  obtain ⟨as, r1⟩ := Dp.reads I (dOf c) x v hx.dp rx
  obtain ⟨bs, r2⟩ := Dp.reads I (.tuple (cs.map dOf)) _ u (.tup ha hv.dp) ry
  refine SeqAt.notIn_tuple_reads r2 r1 (SeqAt.canLay_of_shaped (shaped_ct o2)) (SeqAt.canLay_of_shaped (shaped_tup o1)) (room_in_shaped (shaped_tup o1) hu) ⟨.bl _, H, I, rfl, ?_⟩
  rw [any_dOf]
  exact q
/-- lists of such compared -/
def rEqC (K : PySem.W.Frag) (neg : Bool) : R2 := fun x y H Q => ∃ (a b : Addr) (vs us : List V) (cs ds : List (List Str)), x = .ref a ∧ y = .ref b ∧ SqL K H a vs ∧ SqL K H b us ∧ TupLs K H vs cs ∧ TupLs K H us ds ∧ CsOk cs ∧ CsOk ds ∧ Q (.bl (if neg then !decide (cs = ds) else decide (cs = ds))) H
theorem op_eqC (hu : X.A.units + 64 < cLine) : OpR X (compareOp .Eq) (rEqC X.K false) := by
  intro pins s σ H x y v u Q I rx ry h
  obtain ⟨a, b, vs, us, cs, ds, rfl, rfl, ha, hb, h1, h2, o1, o2, q⟩ := h
  refine op_eqD hu pins s σ H _ _ v u Q I rx ry ⟨.list (cs.map dOf), .list (ds.map dOf), .lst ha h1.dp, .lst hb h2.dp, shaped_cs o1, shaped_cs o2, ?_⟩
  have e : PyData.eqv (.list (cs.map dOf)) (.list (ds.map dOf)) = decide (cs = ds) := eqvAll_dOf cs ds
  rw [e]
  exact q
theorem op_neC (hu : X.A.units + 64 < cLine) : OpR X (compareOp .NotEq) (rEqC X.K true) := by
  intro pins s σ H x y v u Q I rx ry h
  obtain ⟨a, b, vs, us, cs, ds, rfl, rfl, ha, hb, h1, h2, o1, o2, q⟩ := h
  refine op_neD hu pins s σ H _ _ v u Q I rx ry ⟨.list (cs.map dOf), .list (ds.map dOf), .lst ha h1.dp, .lst hb h2.dp, shaped_cs o1, shaped_cs o2, ?_⟩
  have e : PyData.eqv (.list (cs.map dOf)) (.list (ds.map dOf)) = decide (cs = ds) := eqvAll_dOf cs ds
  rw [e]
  exact q
end
end OW


set_option Elab.async false
set_option linter.all false
set_option maxRecDepth 100000
set_option maxHeartbeats 4000000
namespace CT
open PySem L2 PG OW
abbrev sReq : Stmt := PG.top 20
abbrev sAll : Stmt := PG.top 23
abbrev sTot : Stmt := PG.top 24
abbrev sKnown : Stmt := PG.top 25
abbrev sCnt : Stmt := PG.top 26
abbrev sPart : Stmt := PG.top 27
def tag (t : Str) (ws : List Str) : List (List Str) := ws.map fun x => [t, x]
def allC (d : PD) : List (List Str) := tag "way" (keysL d.ls) ++ (tag "place" d.ps ++ (tag "stop" d.fs ++ [[("runs" : Str)]]))
structure PDsz (d : PD) : Prop where
  l : d.ls.length ≤ 40
  p : d.ps.length ≤ 64
  f : d.fs.length ≤ 64
theorem tag_snoc {t : Str} {ws : List Str} {i : Nat} {x : Str} (h : ws[i]? = some x) : tag t (ws.take (i + 1)) = tag t (ws.take i) ++ [[t, x]] := by
  unfold tag
  rw [List.take_add_one, h, List.map_append]
  rfl
theorem tag_len (t : Str) (ws : List Str) : (tag t ws).length = ws.length := List.length_map _
theorem tup_lst {K : PySem.W.Frag} {H : Hp} {D : Addr} {xs : List V} {o : HO} {v : V} {b : List Str} (hD : H D = some (.lst xs)) (h : TupT K H v b) : TupT K (upd H D o) v b := by
  obtain ⟨t, e, h⟩ := h
  exact ⟨t, e, sqT_at h (.inr ⟨_, hD, (by intro l z; cases z), by intro od l z; cases z⟩)⟩
theorem paired_app {α β : Type} {R : α → β → Prop} : ∀ {xs us : List α} {ys vs : List β}, Paired R xs ys → Paired R us vs → Paired R (xs ++ us) (ys ++ vs)
  | _, _, _, _, .nil, h => h
  | _, _, _, _, .cons r rs, h => .cons r (paired_app rs h)
/-- the module's RUNS -/
def RA (K : PySem.W.Frag) (aR : Addr) (H : Hp) : Prop := SqT K H aR [.str "runs"]
theorem RA.same {K : PySem.W.Frag} {aR : Addr} {H H' : Hp} (h : RA K aR H) (s : Same H H') : RA K aR H' := PG.sqT_same h s
section
variable {P : Program} {w : World} {K : PySem.W.Frag} {mg : Str → Option Value} {base : Heap}
theorem scReq : FnScope ["program"] ["program"] (defScope sReq) := ⟨rfl, rfl, rfl, by decide +kernel, rfl, by decide +kernel, by decide +kernel⟩
def spReq (K : PySem.W.Frag) (C : Addr) : Sp := fun vs H Q _ => ∃ (x dx L S F : Addr) (d : PD), vs = [.ref x] ∧ ProgAt K C H x dx L S F d ∧ Q .non H
theorem ok_req {f C : Addr} {fd : FuncData} (Fn : Fun K "require_program" "require_program" sReq f fd) (T : PT0 mg) (Tc : PTc K mg C) (Tt : PTt K C) : FnOk P w K mg base CX0 1 f fd ["program"] (spReq K C) := by
  refine Fn.ok scReq (fun vs H Q E h => ?_) (fun cdv A outer s H vs Q E hr h => ?_)
  · obtain ⟨x, dx, L, S, F, d, rfl, _⟩ := h
    rfl
  · obtain ⟨x, dx, L, S, F, d, rfl, h, k⟩ := h
    refine ⟨_, pss_one (ps_if (pt_not (pt_val (pe_callB call_isi (by rfl) T.isi PyProof.Rows.boot_isinstance (pa_cons (pv 0) (pa_cons (pe_glob (v := .ref C) (by rfl) Tc.gC rfl) pa_nil))))) pss_dead pss_nil), ?_⟩
    refine ⟨_, rfl, .ref x, .ref C, _, _, true, rfl, .own C, .base (.ins h.ins Tc.cl Tt.ha Tt.hn Tt.htk Tt.hm), ?_, _, rfl, iteNF k⟩
    unfold PySem.W.kitOne
    rw [if_pos (beq_self_eq_true _)]
/-! ### all_counters -/
abbrev nsAll : List Str := ["program", "ways", "places", "stops", "way", "place"]
theorem scAll : FnScope nsAll ["program"] (defScope sAll) := ⟨rfl, rfl, rfl, by decide +kernel, rfl, by decide +kernel, by decide +kernel⟩
def spAllC (aR : Addr) (K : PySem.W.Frag) (C : Addr) : Sp := fun vs H Q _ => ∃ (x dx L S F : Addr) (d : PD), vs = [.ref x] ∧ RA K aR H ∧ ProgAt K C H x dx L S F d ∧ PDsz d ∧ ∀ (p : Addr) (H' : Hp) (us : List V), H p = none → Same H H' → H' p = some (.lst us) → TupLs K H' us (allC d) → Q (.ref p) H'
/-- [("tag", x) for x in words] -/
theorem rd_tag {H : Hp} {a D : Addr} {ws : List Str} {tg : Str} {i : Nat} {σ : L2.St} {Qd : Hp → Prop} (ha : H a = some (.lst (ws.map V.str))) (hz : ws.length ≤ 64) (nD : H D = none) (hi : ∀ v, ((wipe σ [i]).set i (some v))[i]? = some (some v)) (hw : ∀ v, wipe ((wipe σ [i]).set i (some v)) [i] = wipe σ [i])
    (k : ∀ H' us, Same H H' → H' D = some (.lst us) → TupLs K H' us (tag tg ws) → Qd H') :
    ∃ W : Nat → Nat → Hp → Prop, (∃ m, W 0 m (upd H D (.lst []))) ∧ ∀ j m H, W j m H →
      ((Itl K a).stop j H ∧ Qd H) ∨ ((Itl K a).go j H ∧ ∃ Nx : Hp → Prop, (∀ H', Nx H' → ∃ m', m' < m ∧ W (j + 1) m' H') ∧ ∀ x H', (Itl K a).yld j H x H' → gName i x (wipe σ [i]) H' fun σ2 H2 => wipe σ2 [i] = wipe σ [i] ∧ tYes σ2 H2 fun b H3 =>
        if b = true then tTup (tCons (tC (V.str tg)) (tCons (tVar i) tNil)) σ2 H3 fun y H4 => ∃ acc, H4 D = some (.lst acc) ∧ acc.length < sizeLine ∧ Nx (upd H4 D (.lst (acc ++ [y]))) else Nx H3) := by
  refine lc_rel walk_list nD (TupT K) (fun s h => h.same s) (fun hD h => tup_lst hD h) (fun j => tag tg (ws.take j)) rfl (fun j _ => by rw [tag_len]; exact Nat.le_trans (List.length_take_le' j ws) (by omega)) (fun H' s => SqL.of (s _ _ ha)) ?_ (fun H' ts s h r => k H' ts s h (by rw [List.length_map, List.take_length] at r; exact r))
  rintro j v H1 H2 Pn hj s1 ⟨rfl, ev⟩ fin skip
  obtain ⟨x, hx, rfl⟩ : ∃ x, ws[j]? = some x ∧ v = .str x := by
    rw [List.getElem?_map] at ev
    cases e : ws[j]? with
    | none => rw [e] at ev; cases ev
    | some x => rw [e] at ev; exact ⟨x, rfl, (Option.some.inj ev).symm⟩
  refine ⟨hw _, ?_⟩
  unfold tYes
  dsimp only
  rw [if_pos rfl]
  refine ⟨_, hi _, by show 2 ≤ sizeLine; decide, fun q nq => ?_⟩
  exact fin _ _ [tg, x] (sm nq) ⟨q, rfl, SqT.of upd_same⟩ (tag_snoc hx)
theorem ok_all {aR f C fR gW gP gE : Addr} {fd fdR fdW fdP fdE : FuncData} (Fn : Fun K "all_counters" "all_counters" sAll f fd) (gT : mg "RUNS" = some (.ref aR)) (T : PT0 mg) (Tc : PTc K mg C) (FR : Fun K "require_program" "require_program" sReq fR fdR) (bR : Binds K fdR ["program"] []) (gR : mg "require_program" = some (.ref fR)) (GR : FnOk P w K mg base CX0 1 fR fdR ["program"] (spReq K C))
    (mW : Meth K C "ways" gW) (bW : Binds K fdW ["self"] []) (GW : FnOk P w K mg base CX0 1 gW fdW ["self"] (spList K C fun d => keysL d.ls)) (mP : Meth K C "places" gP) (bP : Binds K fdP ["self"] []) (GP : FnOk P w K mg base CX0 1 gP fdP ["self"] (spList K C fun d => d.ps)) (mE : Meth K C "exits" gE) (bE : Binds K fdE ["self"] []) (GE : FnOk P w K mg base CX0 1 gE fdE ["self"] (spList K C fun d => d.fs)) : FnOk P w K mg base CX0 2 f fd ["program"] (spAllC aR K C) := by
  refine Fn.ok scAll (fun vs H Q E h => ?_) (fun cdv A outer s H vs Q E hr h => ?_)
  · obtain ⟨x, dx, L, S, F, d, rfl, _⟩ := h
    rfl
  · obtain ⟨x, dx, L, S, F, d, rfl, ra, h, z, k⟩ := h
    have nd := scAll.nd
    refine ⟨_, pss_cons (ps_expr (pe_call GR hr (by rfl) gR FR.kp bR .nil pass0 (pa_cons (pv 0) pa_nil)))
      (pss_cons (ps_setLc (i := 1) (own := [("way", 4)]) (g := gName 4) (tt := tYes) rfl nd rfl rfl (sw_true rfl rfl rfl (by decide +kernel)) (pi_list (pe_meth0 (pv 0) Tc.cl mW GW hr bW .nil pass0)) (blkOk_by (own := [("way", 4)]) (N := nsAll) (sc := defScope sAll) (by decide +kernel)) (fun _ _ _ _ _ => pg_name (i := 4) nd rfl (Or.inl rfl)) (fun _ _ _ _ _ => pts_nil) (fun _ _ _ _ _ => pe_tup (pa_cons pe_str (pa_cons (pv 4) pa_nil))))
      (pss_cons (ps_setLc (i := 2) (own := [("place", 5)]) (g := gName 5) (tt := tYes) rfl nd rfl rfl (sw_true rfl rfl rfl (by decide +kernel)) (pi_list (pe_meth0 (pv 0) Tc.cl mP GP hr bP .nil pass0)) (blkOk_by (own := [("place", 5)]) (N := nsAll) (sc := defScope sAll) (by decide +kernel)) (fun _ _ _ _ _ => pg_name (i := 5) nd rfl (Or.inl rfl)) (fun _ _ _ _ _ => pts_nil) (fun _ _ _ _ _ => pe_tup (pa_cons pe_str (pa_cons (pv 5) pa_nil))))
      (pss_cons (ps_setLc (i := 3) (own := [("place", 5)]) (g := gName 5) (tt := tYes) rfl nd rfl rfl (sw_true rfl rfl rfl (by decide +kernel)) (pi_list (pe_meth0 (pv 0) Tc.cl mE GE hr bE .nil pass0)) (blkOk_by (own := [("place", 5)]) (N := nsAll) (sc := defScope sAll) (by decide +kernel)) (fun _ _ _ _ _ => pg_name (i := 5) nd rfl (Or.inl rfl)) (fun _ _ _ _ _ => pts_nil) (fun _ _ _ _ _ => pe_tup (pa_cons pe_str (pa_cons (pv 5) pa_nil))))
      (pss_one (ps_ret (pe_lst (StX.pa_star (pv 1) (StX.pa_star (pv 2) (StX.pa_star (pv 3) (pa_cons (pe_glob (v := .ref aR) (by rfl) gT rfl) pa_nil)))))))))), ?_⟩
    refine ⟨_, rfl, x, dx, L, S, F, d, rfl, h, ?_⟩
    refine ⟨_, rfl, x, dx, _, rfl, h.ins, rfl, x, dx, L, S, F, d, rfl, h, fun p1 np1 => ?_⟩
    have kz : (keysL d.ls).length ≤ 64 := by
      have e : (keysL d.ls).length = d.ls.length := List.length_map _
      have := z.l
      omega
    have s1 : Same H (upd H p1 (.lst ((keysL d.ls).map V.str))) := sm np1
    refine ⟨p1, rfl, ⟨_, SqL.of (xs := (keysL d.ls).map V.str) upd_same⟩, fun D1 nD1 => rd_tag (ws := keysL d.ls) upd_same kz nD1 (fun v => rfl) (fun v => rfl) fun H2 u1 s2 hD1 r1 => ?_⟩
    have s02 := s1.trans s2
    have h2 := h.same s02
    refine ⟨_, rfl, x, dx, _, rfl, h2.ins, rfl, x, dx, L, S, F, d, rfl, h2, fun p2 np2 => ?_⟩
    refine ⟨p2, rfl, ⟨_, SqL.of (xs := d.ps.map V.str) upd_same⟩, fun D2 nD2 => rd_tag (ws := d.ps) upd_same z.p nD2 (fun v => rfl) (fun v => rfl) fun H3 u2 s3 hD2 r2 => ?_⟩
    have s23 : Same H2 H3 := (sm np2).trans s3
    have h3 := h2.same s23
    refine ⟨_, rfl, x, dx, _, rfl, h3.ins, rfl, x, dx, L, S, F, d, rfl, h3, fun p3 np3 => ?_⟩
    refine ⟨p3, rfl, ⟨_, SqL.of (xs := d.fs.map V.str) upd_same⟩, fun D3 nD3 => rd_tag (ws := d.fs) upd_same z.f nD3 (fun v => rfl) (fun v => rfl) fun H4 u3 s4 hD3 r3 => ?_⟩
    have s34 : Same H3 H4 := (sm np3).trans s4
    have l1 : u1.length ≤ 64 := by rw [Paired.length r1, tag_len]; exact kz
    have l2 : u2.length ≤ 64 := by rw [Paired.length r2, tag_len]; exact z.p
    have l3 : u3.length ≤ 64 := by rw [Paired.length r3, tag_len]; exact z.f
    refine ⟨_, rfl, D1, u1, rfl, .inr (SqL.of (s34 _ _ (s23 _ _ hD1))), _, rfl, D2, u2, rfl, .inr (SqL.of (s34 _ _ hD2)), _, rfl, D3, u3, rfl, .inr (SqL.of hD3), ⟨?_, fun p np => ?_⟩⟩
    · rw [List.length_append, List.length_append, List.length_append, sizeLine_eq]
      show u1.length + (u2.length + (u3.length + 1)) ≤ _
      omega
    · have s6 := sm (o := .lst (u1 ++ (u2 ++ (u3 ++ [V.ref aR])))) np
      have sA := s34.trans s6
      refine k p _ _ ?_ (s02.trans (s23.trans sA)) upd_same ?_
      · cases q : H p with
        | none => rfl
        | some o => rw [s34 _ _ (s23 _ _ (s02 _ _ q))] at np; cases np
      · refine paired_app (TupLs.same r1 (s23.trans sA)) (paired_app (TupLs.same r2 sA) (paired_app (TupLs.same r3 s6) (.cons (b := [("runs" : Str)]) ⟨aR, rfl, ra.same (s02.trans (s23.trans sA))⟩ .nil)))
end
end CT


set_option Elab.async false
set_option linter.all false
set_option maxRecDepth 100000
set_option maxHeartbeats 4000000
/-! enumerate of a tuple; a pair turned round. -/
namespace EN
open PySem PySem.Spec PyProof.Rows L2
/-- the tuple at a, each item in a new pair with its number -/
def Itn (K : PySem.W.Frag) (a : Addr) : It :=
  ⟨fun i H => ∃ (xs : List V) (x : V), SqT K H a xs ∧ xs[i]? = some x, fun i H v H' => ∃ T x, v = .ref T ∧ H T = none ∧ H' = upd H T (.tup [.int (i : Nat), x]) ∧ ∀ xs, SqT K H a xs → xs[i]? = some x, fun i H => ∃ xs : List V, SqT K H a xs ∧ xs.length ≤ i⟩
theorem tup_apart {h : Heap} {a it : Addr} {i : Nat} {ts : Array Value} (p : IsTup h a ts) (q : h.IsTupleIter it a i) : a ≠ it := fun z => by
  subst z
  obtain ⟨o, ho, hc, _⟩ := p
  obtain ⟨o2, ho2, hc2, _⟩ := q
  rw [ho] at ho2
  cases ho2
  rw [hc] at hc2
  exact absurd hc2 (by decide)
theorem turn_enumT {P : Program} {w : World} {K : PySem.W.Frag} {elts : List Expr} {kk : Nat} {tpos : Pos} (a e it : Addr) : Turn P w K (.Tuple elts kk tpos) (Itn K a) [e, it] e (fun i h => (∃ old, IsEnum h e it ((i : Nat) : Int) old) ∧ h.IsTupleIter it a i ∧ e ≠ it ∧ e ≠ a) where
  mem := List.mem_cons_self
  obj := fun i h st b hb => by
    obtain ⟨⟨old, he⟩, ⟨o, ho, hc, hd⟩, _⟩ := st
    rcases List.mem_cons.mp hb with z | z
    · exact ⟨_, by rw [z]; exact he, fun v q => by cases q⟩
    · exact ⟨o, by rw [List.mem_singleton.mp z]; exact ho, fun v q => by rw [hd] at q; cases q⟩
  keep := fun i h h' st k => by
    obtain ⟨⟨old, he⟩, hi, hne⟩ := st
    exact ⟨⟨old, k e (by simp) _ he⟩, hi.at fun o q => k it (by simp) o q, hne⟩
  item := by
    intro X hP hw hK hc i pins s σ H E I hf st hg
    subst hP hw hK
    obtain ⟨⟨old, he⟩, hit, hne, hnea⟩ := st
    obtain ⟨xs, x, hq, hx⟩ := hg
    obtain ⟨its, rv, p, hz⟩ := I.tuple hq
    have hil : it < s.heap.objs.size := by obtain ⟨_, q, _⟩ := hit; exact Heap.lt_size q
    have hel : e < s.heap.objs.size := Heap.lt_size he
    have hlt : i < its.toArray.size := by
      have := rv.length
      have := (List.getElem?_eq_some_iff.mp hx).1
      rw [List.size_toArray]; omega
    have D := Draws.tuple (prog := X.prog) (w := X.w) (A := X.A.in1) (I.ok.hd hc) it a (tup_apart p hit) its.toArray
    refine wpAny_pyNext_enum_itemD D he ⟨hit, p⟩ hlt hne (by simp [hne, hnea]) fun y h' tk hy ho st' hT hsz hk => ?_
    obtain ⟨u, hu, ru⟩ := rv.get hx
    have ey : y = u := by
      have q : its[i]? = some y := by simpa using hy
      rw [hu] at q
      exact (Option.some.inj q).symm
    subst ey
    refine ⟨_, rfl, wpAny_letOwnedTupleGo_enum (s := { s with heap := h', toks := tk + 1 }) ho fun h'' he' sb => ?_⟩
    have hT2 : h''.get? s.heap.objs.size = some { cls := .type "tuple", data := .seq #[.int i tk, y] } := (sb.2 _ (Nat.ne_of_gt hel)).trans hT
    have new : ObjOk X.prog X.w (upd H s.heap.objs.size (.tup [.int (i : Nat), x])) h'' s.heap.objs.size (.tup [.int (i : Nat), x]) := ⟨by show 2 ≤ sizeLine; decide, [.int i tk, y], .cons ⟨_, rfl⟩ (.cons ru .nil), ⟨_, hT2, rfl, _, rfl⟩⟩
    have I1 : Inv X pins σ (upd H s.heap.objs.size (.tup [.int (i : Nat), x])) { s with heap := h'', toks := tk + 1 } := I.turnedNew (ch := [e, it]) (fun b ob hb q => (sb.2 b (fun z => hb (by simp [z]))).trans (hk b ob (fun z => hb (by simp [z])) (fun z => hb (by simp [z])) q)) hf (Nat.le_refl _) new
    refine ⟨.ref s.heap.objs.size, _, I1, rfl, ⟨_, x, rfl, I.hok.fresh (Nat.le_refl _), rfl, fun ys hy => by rw [I.tuple_inj hy hq]; exact hx⟩, ⟨⟨y, ?_⟩, st'.1.at fun o q => (sb.2 it (Ne.symm hne)).trans q, hne, hnea⟩, fun b hb => ?_⟩
    · rw [show ((i + 1 : Nat) : Int) = (i : Int) + 1 by omega]; exact he'
    · have hb' : b < s.heap.objs.size := by
        rcases List.mem_cons.mp hb with z | z
        · rw [z]; exact hel
        · rw [List.mem_singleton.mp z]; exact hil
      rw [upd_ne (Nat.ne_of_lt hb')]; exact (hf b hb).1
  done := by
    intro X hP hw hK hc i pins s σ H E I hf st hg
    subst hP hw hK
    obtain ⟨⟨old, he⟩, hit, hne, hnea⟩ := st
    obtain ⟨xs, hq, hx⟩ := hg
    obtain ⟨its, rv, p, hz⟩ := I.tuple hq
    obtain ⟨f0, f1, f2, f3, f4, f5⟩ := hf it (by simp)
    have hl := rv.length
    have hT : s.TypeIs (.ref e) "enumerate" := ⟨_, he, rfl⟩
    unfold pyNext
    refine wpAny_bind (wpAny_attempt (wpAny_callSpecial?_slot (name := Str.ofString "__next__") hT F.slot_enumerate_next (wpAny_call_entry F.slot_enumerate_next hT F.entry_enumerate_next ?_ (F.args_enumerate_next_1 _))))
    show wpAny _ _ (field (.ref e) 2 >>= _) _ _ _
    refine wpAny_bind (wpAny_field he rfl (x := .ref it) rfl (wpAny_bind (wpAny_nextOf_tuple_end (I.ok.hd hc) hit p (by simp; omega) fun h' x he' ⟨o, ho, hco⟩ => ?_)))
    exact wpAny_bind (wpAny_isInstance (T := "StopIteration") (b := true) ⟨o, ho, hco⟩ isSubtype_stop (wpAny_pure ⟨rfl, I.turned (t' := s.toks) (fun b o hb q => he' b o hb q) f0 f1 f3 f4 f5⟩))
  self := fun A i s Q E st h => by
    obtain ⟨⟨_, he⟩, _⟩ := st
    exact wpAny_pyIter_enum he h
open AutoSeq1 (wpAny_loadPart') in
theorem meets_enumT (l : Addr) (items : Array Value) (n : Nat) (dct : Option Addr) (sl : Array (Option Value)) :
    Meets (Builtin.«enumerate.__new__» ⟨[.type "enumerate", .ref l], []⟩) (fun _ R s => s.heap.get? l = some { cls := .type "tuple", dict := dct, data := .seq items n, slots := sl } ∧
      R (.ok (.ret (.ref (s.heap.push { cls := .type "tuple_iterator", data := .fields #[.ref l, .int 0 0] }).objs.size)))
        { s with heap := (s.heap.push { cls := .type "tuple_iterator", data := .fields #[.ref l, .int 0 0] }).push { cls := .type "enumerate", data := .fields #[.none, .bool false, .ref s.heap.objs.size, rawInt 0, .none, .none] } }) :=
  .of_wp fun prog w A R s h => by
    obtain ⟨hp, g, d, tk, os⟩ := s; obtain ⟨hl, h⟩ := h; have hsub := sub_enumerate
    have hL : Heap.IsTuple (Shared.heap ⟨hp, g, d, tk, os⟩) l items := ⟨_, hl, rfl, n, rfl⟩
    wp_walk using wpAny_loadPart' hl
    refine wpAny_stack_any fun st => wpAny_pure ?_
    split
    · rename_i c _ _ _ _ _
      cases (c == Value.type "enumerate")
      · wp_walk using wpAny_loadPart' hl, wpAny_pyIter_tuple hL
        exact ⟨_, rfl, h⟩
      · wp_walk using wpAny_loadPart' hl, wpAny_pyIter_tuple hL
        exact ⟨_, rfl, h⟩
    · wp_walk using wpAny_loadPart' hl, wpAny_pyIter_tuple hL
      exact ⟨_, rfl, h⟩
theorem call_enumT {prog : Program} {w : World} {A : Around} {E : Value → Shared → Prop} {s : Shared} {l : Addr} {items : Array Value} {Q : Value → Shared → Prop} (hL : IsTup s.heap l items)
    (h : ∀ h', IsEnum h' (s.heap.objs.size + 1) s.heap.objs.size 0 .none → h'.IsTupleIter s.heap.objs.size l 0 → h'.objs.size = s.heap.objs.size + 2 → (∀ b o, s.heap.get? b = some o → h'.get? b = some o) → Q (.ref (s.heap.objs.size + 1)) { s with heap := h' }) : wpAny (model prog w) A (call (.type "enumerate") [.ref l]) Q E s := by
  obtain ⟨⟨c, dct, dt, sl⟩, hl, hc, n, hd⟩ := hL
  replace hc : c = .type "tuple" := hc
  replace hd : dt = .seq items n := hd
  subst hc hd
  refine callType_new F.called_enumerate (by decide) (F.typeCall_enumerate_1 _) (F.newCall_enumerate_1 _) (fun obj => F.args_object_init_2 obj _) F.entry_enumerate_new (meets_enumT l items n dct sl) ⟨hl, ?_⟩
  have hz : (s.heap.push { cls := .type "tuple_iterator", data := .fields #[.ref l, .int 0 0] }).objs.size = s.heap.objs.size + 1 := Heap.size_push ..
  show _ ∧ _
  rw [hz]
  have he : IsEnum ((s.heap.push { cls := .type "tuple_iterator", data := .fields #[.ref l, .int 0 0] }).push { cls := .type "enumerate", data := .fields #[.none, .bool false, .ref s.heap.objs.size, rawInt 0, .none, .none] }) (s.heap.objs.size + 1) s.heap.objs.size 0 .none := by
    have q := Heap.get?_push_size (s.heap.push { cls := .type "tuple_iterator", data := .fields #[.ref l, .int 0 0] }) (o := { cls := .type "enumerate", data := .fields #[.none, .bool false, .ref s.heap.objs.size, rawInt 0, .none, .none] }) rfl
    rw [hz] at q; exact q
  exact ⟨⟨_, he, rfl⟩, h _ he ⟨_, Heap.get?_push_of_some _ (Heap.get?_push_size _ rfl), rfl, rfl⟩ (by rw [Heap.size_push, hz]) fun b o x => Heap.get?_push_of_some _ (Heap.get?_push_of_some _ x)⟩
def iEnT (K : PySem.W.Frag) (ta : TA) : TI := fun σ H R => ta σ H fun vs H1 => ∃ a xs, vs = [.ref a] ∧ SqT K H1 a xs ∧ R (Itn K a) H1
theorem pi_enumT {X : Cx} {e : Expr} {ta : TA} {p pos tpos : Pos} {elts : List Expr} {kk : Nat} (hg : Gl X "enumerate") (hm : X.mg "enumerate" = none) (ha : PA X [e] ta) (hs : starEach [e] X.env = [(false, eval e X.env)] := by rfl) : PI X (.Tuple elts kk tpos) (.Call (.Name "enumerate" p) [e] [] pos) (iEnT X.K ta) := by
  refine ⟨fun pins s σ H R I h => Call_ (ld_blt I hg hm boot_enumerate (PyProof.Rows.callWith_type1 (thn (ha.run pos pins s σ H _ I h) fun us s1 ⟨vs, H1, I1, r1, q1⟩ => ?_) hs rfl))⟩
  obtain ⟨a, xs, ex, hq, q⟩ := q1
  subst ex
  cases r1 with
  | cons r rr =>
    cases rr
    cases r
    obtain ⟨its, rv, p', hz⟩ := I1.tuple hq
    have hal : a < s1.heap.objs.size := by obtain ⟨_, q, _⟩ := p'; exact Heap.lt_size q
    refine call_enumT p' fun h' he hit hsz hk => wpAny_pyIter_enum he ?_
    refine ⟨s1.heap.objs.size + 1, [s1.heap.objs.size + 1, s1.heap.objs.size], _, _, H1, rfl, I1.kept (t' := s1.toks) hk, turn_enumT a (s1.heap.objs.size + 1) s1.heap.objs.size, ⟨⟨.none, he⟩, hit, Nat.succ_ne_self _, Nat.ne_of_gt (Nat.lt_succ_of_lt hal)⟩, fun b hb => ?_, q⟩
    have hle : s1.heap.objs.size ≤ b := by
      rcases List.mem_cons.mp hb with z | z
      · rw [z]; exact Nat.le_add_right _ _
      · rw [List.mem_singleton.mp z]; exact Nat.le_refl _
    exact I1.fpOk hle (I1.hok.fresh hle)
theorem walk_enumT {K : PySem.W.Frag} {a : Addr} {xs : List V} : Walk (Itn K a) xs.length (fun H => SqT K H a xs) (YPair (fun i => some (.int (i : Nat))) (fun i => xs[i]?)) := by
  refine ⟨fun i _ hi q => ⟨xs, xs[i], q, by simp [hi]⟩, fun _ q => ⟨xs, q, Nat.le_refl _⟩, fun i H v H' _ q ⟨T, x, h1, h2, h3, h4⟩ => ⟨T, .int (i : Nat), x, h1, h2, h3, rfl, h4 xs q⟩⟩
end EN


set_option Elab.async false
set_option linter.all false
set_option maxRecDepth 100000
set_option maxHeartbeats 4000000
namespace EN
open PySem PySem.Spec PyProof.Rows L2
theorem applied_rev2 {prog : Program} {w : World} {A : Around} {E : Value → Shared → Prop} {s : Shared} {sl : Addr} {vl vu vs : Value} {Q : Int × Int × Nat → Shared → Prop} (hs : s.heap.IsSliceOf sl vl vu vs) (pl : IsPart vl none) (pu : IsPart vu none) (ps : IsPart vs (some (-1)))
    (h : Q (1, -1, 2) s) : wpAny (model prog w) A (Builtin.Slice.sliceApplied (.ref sl) (pure ((2 : Nat) : Int))) Q E s := by
  obtain ⟨os, hos, hcs, hds⟩ := id hs
  unfold Builtin.Slice.sliceApplied Builtin.Slice.sliceFields
  refine wpAny_bind (wpAny_bind (wpAny_field hos hds (x := vl) rfl (wpAny_bind (wpAny_field hos hds (x := vu) rfl (wpAny_bind (wpAny_field hos hds (x := vs) rfl (wpAny_pure ?_)))))))
  refine wpAny_bind (HT.slicePart_ ps ?_)
  show wpAny _ _ (if ((-1 : Int) == 0) = true then _ else _) _ _ s
  rw [if_neg (by decide)]
  refine wpAny_bind (HT.slicePart_ pl (wpAny_bind (HT.slicePart_ pu (wpAny_bind (wpAny_pure ?_)))))
  exact wpAny_pure h
theorem getItem_rev2 {prog : Program} {w : World} {A : Around} {E : Value → Shared → Prop} {s : Shared} {t sl : Addr} {x y vl vu vs : Value} {Q : Value → Shared → Prop} (ht : IsTup s.heap t #[x, y]) (hs : s.heap.IsSliceOf sl vl vu vs) (pl : IsPart vl none) (pu : IsPart vu none) (ps : IsPart vs (some (-1)))
    (h : Q (.ref s.heap.objs.size) { s with heap := s.heap.push { cls := .type "tuple", data := .seq #[y, x] } }) : wpAny (model prog w) A (getItem (.ref t) (.ref sl)) Q E s := by
  obtain ⟨os, hos, hcs, hds⟩ := id hs
  have hTs : s.TypeIs (.ref sl) "slice" := ⟨os, hos, hcs⟩
  have htake : sizeOk (.seq #[y, x]) := by show 2 ≤ sizeLine; decide
  unfold getItem
  try with_reducible refine wpAny_holding ?_
  first | refine wpAny_bind (wpAny_pure ?_) | skip
  refine wpAny_bind (wpAny_sequenceKey ht.typeIs (by decide) (wpAny_bind (wpAny_callSpecial?_slot (name := Str.ofString "__getitem__") ht.typeIs PyProof.Rows.slot_tuple_getitem (wpAny_call_entry PyProof.Rows.slot_tuple_getitem ht.typeIs entry_tuple_getitem ?_ (args_tuple_getitem _ _)))))
  show wpAny _ _ (Builtin.Tuple.tupleItemsOf (.ref t) >>= _) _ _ s
  refine wpAny_bind (tupleItemsOf_ ht (wpAny_bind (wpAny_typeOf hTs ?_)))
  rw [if_pos (by decide)]
  refine wpAny_bind (applied_rev2 hs pl pu ps ?_)
  show wpAny _ _ (if ((1 : Int) == 0 && (-1 : Int) == 1 && (2 : Nat) == 2) = true then _ else _) _ _ s
  rw [if_neg (by decide)]
  first
    | exact wpAny_bind (m := Builtin.Tuple.tupleExact _) (wpAny_newObj_type (wpAny_pure ⟨_, rfl, wpAny_pure h⟩) htake)
    | exact wpAny_bind (m := Builtin.Tuple.tupleExact _) (wpAny_newObj_type (wpAny_bind (wpAny_pure (wpAny_pure ⟨_, rfl, wpAny_pure h⟩))) htake)
    | exact wpAny_bind (wpAny_bind (m := Builtin.Tuple.tupleExact _) (wpAny_newObj_type (wpAny_pure (wpAny_pure ⟨_, rfl, wpAny_pure h⟩)) htake))
    | exact wpAny_bind (wpAny_bind (m := Builtin.Tuple.tupleExact _) (wpAny_newObj_type (wpAny_pure ⟨_, rfl, wpAny_pure h⟩) htake))
section
variable {X : Cx}
/-- a pair's [::-1] -/
def tRevP (K : PySem.W.Frag) (te : TE) : TE := fun σ H Q => te σ H fun x H1 => ∃ a u v, x = .ref a ∧ SqT K H1 a [u, v] ∧ ∀ p, H1 p = none → Q (.ref p) (upd H1 p (.tup [v, u]))
theorem pe_revP {e : Expr} {te : TE} {k : Nat} {p1 p2 p3 pos : Pos} (he : PE X e te) : PE X (.Subscript e (.Slice none none (some (.UnaryOp .USub (.Constant (.int 1) k p1) p2)) p3) pos) (tRevP X.K te) := by
  refine ⟨fun pins s σ H Q I h => Subscript_ (thn (he.run pins s σ H _ I h) fun v s1 ⟨x, H1, I1, r1, q1⟩ => ?_)⟩
  obtain ⟨a, u1, u2, ex, hx, q⟩ := q1
  subst ex
  cases r1
  have hst : PO X (some (.UnaryOp .USub (.Constant (.int 1) k p1) p2)) (tPart (tUn (rU fun i => .int (-i)) (tC (.int 1)))) := po_some (pe_un un_neg pe_int)
  refine wpAny_Slice (thn (po_none.run pins s1 σ H1 (fun o H2 => o = none ∧ H2 = H1) I1 ⟨rfl, rfl⟩) fun vl s2 ⟨l, H2, I2, pl, el, e2⟩ => ?_)
  subst el e2
  refine thn (po_none.run pins s2 σ H2 (fun o H3 => o = none ∧ H3 = H2) I2 ⟨rfl, rfl⟩) fun vu s3 ⟨u, H3, I3, pu, eu, e3⟩ => ?_
  subst eu e3
  refine thn (hst.run pins s3 σ H3 (fun o H4 => o = some (-1) ∧ H4 = H3) I3 ⟨1, rfl, -1, rfl, rfl, rfl⟩) fun vs s4 ⟨o, H4, I4, ps, eo, e4⟩ => ?_
  subst eo e4
  have I5 : Inv X pins σ H4 { s4 with heap := s4.heap.push { cls := .type "slice", data := .fields #[vl, vu, vs] } } := I4.kept (t' := s4.toks) fun b ob q => Heap.get?_push_of_some _ q
  obtain ⟨its, r, ht, hz⟩ := I5.tuple hx
  obtain ⟨w1, w2, rfl, r1', r2'⟩ : ∃ w1 w2, its = [w1, w2] ∧ RelV u1 w1 ∧ RelV u2 w2 := by
    cases r with
    | cons a1 b1 =>
      cases b1 with
      | cons a2 b2 =>
        cases b2
        exact ⟨_, _, rfl, a1, a2⟩
  show wpAny (model X.prog X.w) X.A (subscriptTail e (.Slice none none (some (.UnaryOp .USub (.Constant (.int 1) k p1) p2)) p3) (.ref a) (.ref s4.heap.objs.size)) (EP X pins σ Q) X.xe { s4 with heap := s4.heap.push { cls := .type "slice", data := .fields #[vl, vu, vs] } }
  refine tail_any (ops := [.ref a, .ref s4.heap.objs.size]) ht.typeIs (PyProof.Rows.slot_tuple_getitem.lookup) ?_ (by with_unfolding_all rfl)
  refine getItem_rev2 ht (Heap.IsSliceOf.new _ vl vu vs) pl pu ps ?_
  refine ⟨.ref _, _, I5.laid (t' := s4.toks) (o := .tup [u2, u1]) (fun b ob q => Heap.get?_push_of_some _ q) (Nat.le_refl _) ?_, rfl, q _ (I5.hok.fresh (Nat.le_refl _))⟩
  exact ⟨by show 2 ≤ sizeLine; decide, [w2, w1], .cons r2' (.cons r1' .nil), IsTup.new _ _⟩
end
end EN


set_option Elab.async false
set_option linter.all false
set_option maxRecDepth 100000
set_option maxHeartbeats 4000000
namespace CT
open PySem L2 PG OW
section
variable {P : Program} {w : World} {K : PySem.W.Frag} {mg : Str → Option Value} {base : Heap}
/-- isinstance(v, str) -/
def ItS (K : PySem.W.Frag) (H : Hp) (v : V) (b : Bool) : Prop := (∃ x, v = .str x ∧ b = true) ∨ (∃ t, TyX K H v t ∧ PySem.W.kitOne K t (.type "str") = some false ∧ b = false)
theorem ItS.same {H H' : Hp} {v : V} {b : Bool} (h : ItS K H v b) (s : Same H H') : ItS K H' v b := by
  rcases h with h | ⟨t, ht, q⟩
  · exact .inl h
  · exact .inr ⟨t, TyX.same ht s, q⟩
theorem its_strs {H : Hp} : ∀ c : List Str, Paired (ItS K H) (c.map V.str) (c.map fun _ => true)
  | [] => .nil
  | x :: c => .cons (.inl ⟨x, rfl, rfl⟩) (its_strs c)
/-- what is_known is asked of -/
inductive KnV (K : PySem.W.Frag) (H : Hp) : V → Option (List Str) → Prop where
  | txt {v : V} {c : List Str} (h : TupT K H v c) (ok : TxOkk c) (l : c.length ≤ 1000) : KnV K H v (some c)
  | no {v : V} {t : Value} (h : TyX K H v t) (k : PySem.W.kitOne K t (.type "tuple") = some false) : KnV K H v none
  | odd {t : Addr} {xs : List V} {bs : List Bool} (h : SqT K H t xs) (l : xs.length ≤ 1000) (p : Paired (ItS K H) xs bs) (a : bs.all id = false) : KnV K H (.ref t) none
theorem KnV.same {H H' : Hp} {v : V} {o : Option (List Str)} (h : KnV K H v o) (s : Same H H') : KnV K H' v o := by
  cases h with
  | txt h ok l => exact .txt (h.same s) ok l
  | no h k => exact .no (TyX.same h s) k
  | odd h l p a => exact .odd (sqT_same h s) l (Paired.imp (fun _ _ q => q.same s) p) a
def knB (cs : List (List Str)) : Option (List Str) → Bool
  | some c => decide (c ∈ cs)
  | none => false
abbrev nsTot : List Str := ["value", "part"]
theorem scTot : FnScope nsTot ["value"] (defScope sTot) := ⟨rfl, rfl, rfl, by decide +kernel, rfl, by decide +kernel, by decide +kernel⟩
def spTot (K : PySem.W.Frag) : Sp := fun vs H Q _ => ∃ (v : V) (o : Option (List Str)), vs = [v] ∧ KnV K H v o ∧ ∀ H', Same H H' → Q (.bl o.isSome) H'
abbrev nsKnown : List Str := ["value", "known"]
theorem scKnown : FnScope nsKnown ["value", "known"] (defScope sKnown) := ⟨rfl, rfl, rfl, by decide +kernel, rfl, by decide +kernel, by decide +kernel⟩
def spKnown (K : PySem.W.Frag) : Sp := fun vs H Q _ => ∃ (v : V) (a : Addr) (us : List V) (cs : List (List Str)) (o : Option (List Str)), vs = [v, .ref a] ∧ SqL K H a us ∧ TupLs K H us cs ∧ CsOk cs ∧ KnV K H v o ∧ ∀ H', Same H H' → Q (.bl (knB cs o)) H'
/-- the walk over the parts -/
theorem rd_parts {H : Hp} {t D : Addr} {xs : List V} {bs : List Bool} {σ : L2.St} {i : Nat} {Qd : Hp → Prop} {te : TE} (h : SqT K H t xs) (l : xs.length ≤ 1000) (p : Paired (ItS K H) xs bs) (nD : H D = none) (hw : ∀ v, wipe ((wipe σ [i]).set i (some v)) [i] = wipe σ [i])
    (he : ∀ (v : V) (b : Bool) (H2 : Hp) (Q : VK), ItS K H2 v b → Q (.bl b) H2 → te ((wipe σ [i]).set i (some v)) H2 Q)
    (k : ∀ H', Same H H' → H' D = some (.lst (bs.map V.bl)) → Qd H') :
    ∃ W : Nat → Nat → Hp → Prop, (∃ m, W 0 m (upd H D (.lst []))) ∧ ∀ j m H, W j m H →
      ((Itt K t).stop j H ∧ Qd H) ∨ ((Itt K t).go j H ∧ ∃ Nx : Hp → Prop, (∀ H', Nx H' → ∃ m', m' < m ∧ W (j + 1) m' H') ∧ ∀ x H', (Itt K t).yld j H x H' → gName i x (wipe σ [i]) H' fun σ2 H2 => wipe σ2 [i] = wipe σ [i] ∧ tYes σ2 H2 fun b H3 =>
        if b = true then te σ2 H3 fun y H4 => ∃ acc, H4 D = some (.lst acc) ∧ acc.length < sizeLine ∧ Nx (upd H4 D (.lst (acc ++ [y]))) else Nx H3) := by
  have lb : xs.length = bs.length := Paired.length p
  refine lc_keep (walk_tup (xs := xs)) nD (fun j => (bs.take j).map V.bl) rfl (fun j _ => by rw [List.length_map]; exact Nat.le_trans (List.length_take_le' j bs) (by omega)) (fun H' s => sqT_same h s) ?_ (fun H' s hD => k H' s (by rw [lb, List.take_length] at hD; exact hD))
  rintro j v H1 H2 Pn hj s1 ⟨rfl, ev⟩ fin skip
  obtain ⟨b, hb, q⟩ := paired_at p ev
  refine ⟨hw _, ?_⟩
  unfold tYes
  dsimp only
  rw [if_pos rfl]
  refine he v b H2 _ (q.same s1) (fin H2 _ (Same.refl _) ?_)
  rw [List.take_add_one, hb, List.map_append]
  rfl
theorem ok_tot {f : Addr} {fd : FuncData} (Fn : Fun K "is_tuple_of_texts" "is_tuple_of_texts" sTot f fd) (T : PT0 mg) : FnOk P w K mg base CX0 1 f fd ["value"] (spTot K) := by
  refine Fn.ok scTot (fun vs H Q E h => ?_) (fun cdv A outer s H vs Q E hr h => ?_)
  · obtain ⟨v, o, rfl, _⟩ := h
    rfl
  · obtain ⟨v, o, rfl, hv, k⟩ := h
    have nd := scTot.nd
    refine ⟨_, pss_one (ps_ret (pe_and (pe_callB call_isi (by rfl) T.isi PyProof.Rows.boot_isinstance (pa_cons (pv 0) (pa_cons (pe_bltn (v := .ty "tuple") rfl T.tuple (by decide +kernel) rfl) pa_nil)))
        (pe_one (pe_callB (cr_all rfl) (by rfl) T.all PyProof.Rows.boot_all (pa_cons (pe_lc (own := [("part", 1)]) (g := gName 1) (tt := tYes) rfl nd (pi_tup (pv 0)) (blkOk_by (own := [("part", 1)]) (N := nsTot) (sc := defScope sTot) (by decide +kernel)) (fun _ _ _ _ _ => pg_name (i := 1) nd rfl (Or.inl rfl)) (fun _ _ _ _ _ => pts_nil)
          (fun _ _ _ _ _ => pe_callB (show CallR _ _ (rIsi K) from call_isi) (by rfl) T.isi PyProof.Rows.boot_isinstance (pa_cons (pv 1) (pa_cons (pe_bltn (v := .ty "str") (by rfl) T.str (by decide +kernel) rfl) pa_nil)))) pa_nil))))), ?_⟩
    have ge : ∀ (v0 : V) (bb : Bool) (H2 : Hp) (Q2 : VK), ItS K H2 v0 bb → Q2 (.bl bb) H2 → ∃ x c t u b, [v0, V.ty "str"] = [x, c] ∧ ClsV c u ∧ TyX K H2 x t ∧ PySem.W.kitOne K t u = some b ∧ Q2 (.bl b) H2 := fun v0 bb H2 Q2 i q => by
      rcases i with ⟨x, rfl, rfl⟩ | ⟨t, ht, hk, rfl⟩
      · exact ⟨_, _, _, _, true, rfl, .ty "str", .base (.str x), kit_ty (by decide +kernel), q⟩
      · exact ⟨_, _, _, _, false, rfl, .ty "str", ht, hk, q⟩
    cases hv with
    | no ht hk => exact ⟨_, rfl, v, .ty "tuple", _, _, false, rfl, .ty "tuple", ht, hk, _, rfl, iteF (k H (Same.refl H))⟩
    | @odd t xs bs ht l p al =>
      refine ⟨_, rfl, .ref t, .ty "tuple", _, _, true, rfl, .ty "tuple", tyx_tup ht, kit_ty (by decide +kernel), _, rfl, iteT ?_⟩
      refine ⟨_, rfl, t, rfl, ⟨_, ht⟩, fun D nD => rd_parts ht l p nD (fun v => rfl) (fun v0 bb H2 Q2 i q => ?_) fun H' s' hD => ⟨D, bs, rfl, SqL.of hD, ?_⟩⟩
      · exact ⟨_, rfl, ge v0 bb H2 Q2 i q⟩
      · rw [al]
        exact k H' s'
    | @txt _ c h ok l =>
      obtain ⟨t, rfl, ht⟩ := h
      refine ⟨_, rfl, .ref t, .ty "tuple", _, _, true, rfl, .ty "tuple", tyx_tup ht, kit_ty (by decide +kernel), _, rfl, iteT ?_⟩
      refine ⟨_, rfl, t, rfl, ⟨_, ht⟩, fun D nD => rd_parts ht (by rw [List.length_map]; exact l) (its_strs c) nD (fun v => rfl) (fun v0 bb H2 Q2 i q => ?_) fun H' s' hD => ⟨D, _, rfl, SqL.of hD, ?_⟩⟩
      · exact ⟨_, rfl, ge v0 bb H2 Q2 i q⟩
      · have al : (c.map fun _ => true).all id = true := by rw [List.all_map]; exact List.all_eq_true.mpr fun _ _ => rfl
        rw [al]
        exact k H' s'
theorem ok_known {f fT : Addr} {fd fdT : FuncData} (Fn : Fun K "is_known" "is_known" sKnown f fd) (kT : PySem.W.keepIn K (.ref fT) = true) (bT : Binds K fdT ["value"] []) (gT : mg "is_tuple_of_texts" = some (.ref fT)) (GT : FnOk P w K mg base CX0 1 fT fdT ["value"] (spTot K)) : FnOk P w K mg base CX0 2 f fd ["value", "known"] (spKnown K) := by
  refine Fn.ok scKnown (fun vs H Q E h => ?_) (fun cdv A outer s H vs Q E hr h => ?_)
  · obtain ⟨v, a, us, cs, o, rfl, _⟩ := h
    rfl
  · obtain ⟨v, a, us, cs, o, rfl, ha, hu, oc, hv, k⟩ := h
    have hun := room66 hr
    refine ⟨_, pss_one (ps_ret (pe_and (pe_call GT hr (by rfl) gT kT bT .nil pass0 (pa_cons (pv 0) pa_nil)) (pe_one (pe_cmpR (op_inC (Nat.lt_of_succ_lt hun)) (pv 0) (pv 1) rfl)))), ?_⟩
    refine ⟨_, rfl, v, o, rfl, hv, fun H1 s1 => ⟨_, rfl, ?_⟩⟩
    cases hv with
    | no ht hk => exact iteF (k H1 s1)
    | odd ht l p al => exact iteF (k H1 s1)
    | @txt _ c h ok l => exact iteT ⟨_, rfl, _, rfl, c, a, us, cs, h.same s1, rfl, s1.seq ha, TupLs.same hu s1, ok, oc, k H1 s1⟩
end
end CT


set_option Elab.async false
set_option linter.all false
set_option maxRecDepth 100000
set_option maxHeartbeats 4000000
namespace CT
open PySem L2 PG OW
structure PDg (d : PD) : Prop where
  ok : PDok d
  sz : PDsz d
  cok : CsOk (allC d)
  nd : (allC d).Nodup
  sm : ∀ c ∈ allC d, c.length ≤ 1000
  few : (allC d).length ≤ 200
  eqr : eqPD d d = true
/-- the def's last parameter gathers what is left -/
def spStar (n : Nat) (sp : Sp) : Sp := fun vs H Q E => ∃ ws rest, vs = ws ++ rest ∧ ws.length = n ∧ rest.length ≤ sizeLine ∧ ∀ p, H p = none → sp (ws ++ [V.ref p]) (upd H p (.tup rest)) Q E
section
variable {P : Program} {w : World} {K : PySem.W.Frag} {mg : Str → Option Value} {base : Heap}
theorem starOk {x qual : Str} {st : Stmt} {f : Addr} {fd : FuncData} {N ps : List Str} {pv : Str} {k : Nat} {sp : Sp} (F : Fun K x qual st f fd) (S : FnScope N (ps ++ [pv]) (defScope st))
    (hb : ∀ (kV doc pm : Value) (an : Option Addr) (cdv ct : Value) (us rest : List Value), us.length = ps.length → bindArgs (PySem.W.fnOf x qual (defArgs st) (defBody st) (defScope st) .none kV doc pm an cdv ct) ⟨us ++ rest, []⟩ = (newTuple rest >>= fun t => pure (ps.zip us ++ [(pv, t)])))
    (hbody : ∀ (cdv : Value) (A : Around) (outer : List Env) (s : Shared) (H : Hp) (vs : List V) (Q : VK) (E : XK), Room k (A.deeper (PyProof.Rows.envOfC qual (defScope st) s.heap.objs.size f cdv)) → sp vs H Q E →
      ∃ t, PSs (cxOf CX0 P w K mg base N qual (defScope st) f cdv A outer s H E).nox (defBody st) t ∧ t { nx := fun _ H' => Q .non H', rt := Q } (start N vs) H) : FnR P w K mg base CX0 (k + 1) f (spStar ps.length sp) := by
  obtain ⟨oc, od, kV, doc, pm, an, cdv, ct, osl, rfl, lk, hcd⟩ := F.ex
  refine StX.fn_star lk hcd S StX.cxUp_none (hb kV doc pm an cdv ct) fun A outer s H vs Q E hr hsp => ?_
  obtain ⟨t, h, q⟩ := hbody cdv A outer s H vs Q E hr hsp
  exact ⟨t, h.nox, q⟩
/-! ### is_counter -/
def spIsC (aR : Addr) (K : PySem.W.Frag) (C : Addr) : Sp := fun vs H Q _ => ∃ (x dx L S F : Addr) (d : PD) (v : V) (o : Option (List Str)), vs = [.ref x, v] ∧ RA K aR H ∧ ProgAt K C H x dx L S F d ∧ PDg d ∧ KnV K H v o ∧ ∀ H', Same H H' → Q (.bl (knB (allC d) o)) H'
/-! ### Counters -/
/-- [c for c in .. if p c] -/
theorem rd_sel {H : Hp} {a D : Addr} {us : List V} {cs : List (List Str)} {i : Nat} {σ : L2.St} {tt : TT} {Qd : Hp → Prop} (p : List Str → Bool) (ha : SqL K H a us) (hu : TupLs K H us cs) (hz : cs.length ≤ 1000) (nD : H D = none) (hi : ∀ v, ((wipe σ [i]).set i (some v))[i]? = some (some v)) (hw : ∀ v, wipe ((wipe σ [i]).set i (some v)) [i] = wipe σ [i])
    (ht : ∀ (j : Nat) (c : List Str) (v : V) (H2 : Hp) (Q : Bool → Hp → Prop), Same H H2 → cs[j]? = some c → TupT K H2 v c → (∀ H3, Same H2 H3 → Q (p c) H3) → tt ((wipe σ [i]).set i (some v)) H2 Q)
    (k : ∀ H' ts, Same H H' → H' D = some (.lst ts) → TupLs K H' ts (cs.filter p) → Qd H') :
    ∃ W : Nat → Nat → Hp → Prop, (∃ m, W 0 m (upd H D (.lst []))) ∧ ∀ j m H, W j m H →
      ((Itl K a).stop j H ∧ Qd H) ∨ ((Itl K a).go j H ∧ ∃ Nx : Hp → Prop, (∀ H', Nx H' → ∃ m', m' < m ∧ W (j + 1) m' H') ∧ ∀ x H', (Itl K a).yld j H x H' → gName i x (wipe σ [i]) H' fun σ2 H2 => wipe σ2 [i] = wipe σ [i] ∧ tt σ2 H2 fun b H3 =>
        if b = true then tVar i σ2 H3 fun y H4 => ∃ acc, H4 D = some (.lst acc) ∧ acc.length < sizeLine ∧ Nx (upd H4 D (.lst (acc ++ [y]))) else Nx H3) := by
  have lk : us.length = cs.length := Paired.length hu
  refine lc_rel (walk_list (xs := us)) nD (TupT K) (fun s h => h.same s) (fun hD h => tup_lst hD h) (fun j => (cs.take j).filter p) rfl (fun j _ => Nat.le_trans (List.length_filter_le _ _) (Nat.le_trans (List.length_take_le' j cs) hz)) (fun H' s => s.seq ha) ?_ (fun H' ts s h r => k H' ts s h (by rw [lk, List.take_length] at r; exact r))
  rintro j v H1 H2 Pn hj s1 ⟨rfl, ev⟩ fin skip
  obtain ⟨c, hc, tc⟩ := paired_at hu ev
  have tc2 := tc.same s1
  refine ⟨hw _, ht j c v H2 _ s1 hc tc2 fun H3 s3 => iteB (fun e => ?_) (fun e => ?_)⟩
  · refine ⟨v, hi v, fin H3 v c s3 (tc2.same s3) ?_⟩
    rw [List.take_add_one, hc, List.filter_append]
    show _ ++ List.filter p [c] = _
    rw [List.filter_cons_of_pos e]
    rfl
  · refine skip H3 s3 ?_
    rw [List.take_add_one, hc, List.filter_append]
    show _ ++ List.filter p [c] = _
    rw [List.filter_cons_of_neg (by rw [e]; exact Bool.false_ne_true)]
    exact List.append_nil _
theorem cutV_to (xs : List V) (k : Nat) : cutV xs none (some (k : Int)) = xs.take k := by
  unfold cutV
  rw [_root_.HT.sIx_nat, _root_.HT.sIx_none, List.drop_zero, Nat.sub_zero]
  by_cases h : k ≤ xs.length
  · rw [Nat.min_eq_left h]
  · rw [Nat.min_eq_right (by omega), List.take_of_length_le (Nat.le_refl _), List.take_of_length_le (by omega)]
theorem paired_take {α β : Type} {R : α → β → Prop} : ∀ {xs : List α} {ys : List β} (n : Nat), Paired R xs ys → Paired R (xs.take n) (ys.take n)
  | _, _, 0, _ => .nil
  | _, _, n + 1, .nil => .nil
  | _, _, n + 1, .cons r rs => .cons r (paired_take n rs)
theorem nodup_atC {α : Type} {pls : List α} (n : pls.Nodup) {i : Nat} {x : α} (h : pls[i]? = some x) : x ∉ pls.take i := fun m => by
  obtain ⟨j, hj, e⟩ := List.getElem_of_mem m
  rw [List.length_take] at hj
  rw [List.getElem_take] at e
  have q1 : pls[j]? = some x := by rw [List.getElem?_eq_getElem (by omega), e]
  have z := (List.getElem?_inj (by omega) n).mp (q1.trans h.symm)
  omega
theorem tup_off {H : Hp} {x : Addr} {o u : HO} {v : V} {b : List Str} (hx : H x = some u) (n1 : ∀ l, u ≠ .tup l) (n2 : ∀ od l, u ≠ .frz od (.tup l)) (h : TupT K H v b) : TupT K (upd H x o) v b := by
  obtain ⟨t, e, h⟩ := h
  exact ⟨t, e, sqT_at h (.inr ⟨_, hx, n1, n2⟩)⟩
theorem tups_off {H : Hp} {x : Addr} {o u : HO} {vs : List V} {bs : List (List Str)} (hx : H x = some u) (n1 : ∀ l, u ≠ .tup l) (n2 : ∀ od l, u ≠ .frz od (.tup l)) (h : TupLs K H vs bs) : TupLs K (upd H x o) vs bs := Paired.imp (fun _ _ q => tup_off hx n1 n2 q) h
theorem prog_off {CP C' : Addr} {H : Hp} {x dx' y dy L S F : Addr} {o : HO} {fs : List (Str × V)} {d : PD} (hx : H x = some (.ins C' dx' fs)) (ny : y ≠ x) (h : ProgAt K CP H y dy L S F d) : ProgAt K CP (upd H x o) y dy L S F d := by
  obtain ⟨i, ⟨k2, l, lk⟩, p, f⟩ := h
  refine ⟨by rw [upd_ne ny]; exact i, ⟨k2, ?_, Paired.imp (fun _ _ q => ?_) lk⟩, ?_, ?_⟩
  · rw [upd_ne (ne_of l hx (by intro z; cases z))]; exact l
  · obtain ⟨e1, t, e2, z⟩ := q
    exact ⟨e1, t, e2, sqT_at z (.inr ⟨_, hx, (by intro l z; cases z), by intro od l z; cases z⟩)⟩
  · rw [upd_ne (ne_of p hx (by intro z; cases z))]; exact p
  · rw [upd_ne (ne_of f hx (by intro z; cases z))]; exact f
structure CtrAt (K : PySem.W.Frag) (CP CC : Addr) (H : Hp) (x dx y B : Addr) (d : PD) (cs : List (List Str)) : Prop where
  ins : H x = some (.ins CC dx [("base", .ref y), ("chosen", .ref B)])
  pr : ∃ dy L S F, ProgAt K CP H y dy L S F d
  ch : ∃ us, H B = some (.lst us) ∧ TupLs K H us cs
theorem CtrAt.same {CP CC : Addr} {H H' : Hp} {x dx y B : Addr} {d : PD} {cs : List (List Str)} (h : CtrAt K CP CC H x dx y B d cs) (s : Same H H') : CtrAt K CP CC H' x dx y B d cs := by
  obtain ⟨i, ⟨dy, L, S, F, p⟩, ⟨us, b, t⟩⟩ := h
  exact ⟨s _ _ i, ⟨dy, L, S, F, p.same s⟩, ⟨us, s _ _ b, TupLs.same t s⟩⟩
structure CTc (K : PySem.W.Frag) (mg : Str → Option Value) (C : Addr) : Prop where
  cl : Cls K C
  n1 : NoAttr K C "base"
  n2 : NoAttr K C "chosen"
  gC : mg "Counters" = some (.ref C)
abbrev sInitC : Stmt := inClass sCnt 0
abbrev nsIC : List Str := ["self", "program", "counters", "known", "at", "counter"]
theorem scIC : FnScope nsIC (([("self" : Str), "program"] : List Str) ++ [("counters" : Str)]) (defScope sInitC) := ⟨rfl, rfl, rfl, by decide +kernel, rfl, by decide +kernel, by decide +kernel⟩
def selC (d : PD) (as : List (List Str)) : List (List Str) := (allC d).filter fun c => decide (c ∈ as)
def spInitC (aR : Addr) (K : PySem.W.Frag) (CP CC : Addr) : Sp := fun vs H Q _ => ∃ (x dx y dy L S F : Addr) (d : PD) (t : Addr) (us : List V) (as : List (List Str)), vs = [.ref x, .ref y, .ref t] ∧ RA K aR H ∧ H x = some (.ins CC dx []) ∧ ProgAt K CP H y dy L S F d ∧ PDg d ∧ SqT K H t us ∧ TupLs K H us as ∧ as.Nodup ∧ (∀ c ∈ as, c ∈ allC d) ∧
  ∀ (H' : Hp) (B : Addr), (∀ q o, q ≠ x → H q = some o → H' q = some o) → H B = none → CtrAt K CP CC H' x dx y B d (selC d as) → Q .non H'
theorem ok_initC {aR f CP CC fK fA : Addr} {fd fdK fdA : FuncData} (Fn : Fun K "__init__" "Counters.__init__" sInitC f fd) (Tc : CTc K mg CC) (mE : mg "enumerate" = none) (FK : Fun K "is_known" "is_known" sKnown fK fdK) (bK : Binds K fdK ["value", "known"] []) (gK : mg "is_known" = some (.ref fK)) (GK : FnOk P w K mg base CX0 2 fK fdK ["value", "known"] (spKnown K))
    (FA : Fun K "all_counters" "all_counters" sAll fA fdA) (bA : Binds K fdA ["program"] []) (gA : mg "all_counters" = some (.ref fA)) (GA : FnOk P w K mg base CX0 2 fA fdA ["program"] (spAllC aR K CP)) : FnR P w K mg base CX0 3 f (spStar 2 (spInitC aR K CP CC)) := by
  refine starOk (ps := ["self", "program"]) Fn scIC (fun kV doc pm an cdv ct => StX.bind_star2 (B := fun us => bindArgs _ ⟨us, []⟩) (fun _ _ => rfl) (fun _ _ _ _ => rfl)) (fun cdv A outer s H vs Q E hr h => ?_)
  obtain ⟨x, dx, y, dy, L, S, F, d, t, us, as, rfl, ra, hx, pr, g, ht, hus, nda, sub, k⟩ := h
  have nd := scIC.nd
  have hr1 : Room 1 _ := hr.mono (by decide)
  have hun := room66 hr
  refine ⟨_, pss_cons (ps_set (i := 3) nd rfl (Or.inl rfl) (pe_call GA hr (by rfl) gA FA.kp bA .nil pass0 (pa_cons (pv 1) pa_nil)))
    (pss_cons (ps_for PassesOwn.never rfl (EN.pi_enumT (by rfl) mE (pa_cons (pv 2) pa_nil)) (pg_tup rfl (pgs_cons (pg_name (i := 4) nd rfl (Or.inl rfl)) (pgs_cons (pg_name (i := 5) nd rfl (Or.inl rfl)) pgs_nil)))
      (pss_one (ps_if (PW.pt (pw_or (pt_not (pt_val (pe_call GK hr (by rfl) gK FK.kp bK .nil pass0 (pa_cons (pv 5) (pa_cons (pv 3) pa_nil))))) (pw_or1 (pt_cmpR (op_inCT (Nat.lt_of_succ_lt hun)) (pv 5) (pe_slice sl_tupA (pv 2) po_none (po_some (pv 4))) rfl)))) pss_dead pss_nil)))
    (pss_cons (ps_fld (pv 0) (pv 1) rfl)
    (pss_one (ps_fld (pv 0) (pe_lc (own := [("counter", 5)]) (g := gName 5) (tt := tTest (tOp (rInCT K false) (tVar 5) (tVar 2))) rfl nd (pi_list (pv 3)) (blkOk_by (own := [("counter", 5)]) (N := nsIC) (sc := defScope sInitC) (by decide +kernel)) (fun _ _ _ _ _ => pg_name (i := 5) nd rfl (Or.inl rfl)) (fun _ _ _ _ _ => pts_one (pt_cmpR (op_inCT (Nat.lt_of_succ_lt hun)) (pv 5) (pv 2) rfl)) (fun _ _ _ _ _ => pv 5)) rfl)))), ?_⟩
  refine ⟨_, rfl, y, dy, L, S, F, d, rfl, ra, pr, g.sz, fun p H1 ks np s1 hp hks => ?_⟩
  refine ⟨_, rfl, t, us, rfl, sqT_same ht s1, for_it EN.walk_enumT (fun i σ H' => ∃ (v4 v5 : Option V), σ = [some (.ref x), some (.ref y), some (.ref t), some (.ref p), v4, v5] ∧ Same H1 H') ⟨_, _, rfl, Same.refl _⟩ (fun i σ H' _ ⟨_, _, _, z⟩ => sqT_same (sqT_same ht s1) z) ?_ ?_⟩
  · rintro i v σ H2 H3 hi ⟨v4, v5, rfl, s2⟩ ⟨T, x0, y0, rfl, nT, rfl, ex0, ey0⟩
    cases ex0
    obtain ⟨c, hc, tc⟩ := paired_at hus ey0
    have s23 : Same H2 (upd H2 T (.tup [.int (i : Nat), y0])) := sm nT
    have hT : (upd H2 T (.tup [.int (i : Nat), y0])) T = some (.tup [.int (i : Nat), y0]) := upd_same
    generalize upd H2 T (.tup [.int (i : Nat), y0]) = H3 at s23 hT
    refine ⟨T, _, rfl, SqT.of hT, rfl, _, _, rfl, _, _, rfl, rfl, ?_⟩
    have mc : c ∈ allC d := sub c (List.mem_of_getElem? hc)
    have okc : TxOkk c := g.cok c mc
    have s13 := s2.trans s23
    have tc3 := tc.same (s1.trans s13)
    refine ⟨_, rfl, _, rfl, y0, p, ks, allC d, some c, rfl, SqL.of (s13 _ _ hp), TupLs.same hks s13, g.cok, .txt tc3 okc (g.sm c mc), fun H4 s4 => ?_⟩
    rw [show knB (allC d) (some c) = true from decide_eq_true mc]
    refine ⟨_, rfl, iteNF ?_⟩
    have tc4 := tc3.same s4
    have s14 := s13.trans s4
    have ht4 : SqT K H4 t us := sqT_same (sqT_same ht s1) s14
    refine ⟨_, rfl, _, rfl, _, rfl, i, rfl, t, us, rfl, ht4, fun z => ?_, fun z q nq => ?_⟩
    · rw [_root_.HT.sIx_nat] at z
      omega
    · rw [cutV_to]
      have s45 : Same H4 (upd H4 q (.tup (us.take i))) := sm nq
      refine ⟨c, q, us.take i, as.take i, tc4.same s45, rfl, SqT.of upd_same, paired_take i (TupLs.same hus (s1.trans (s14.trans s45))), okc, fun a ha => g.cok a (sub a (List.mem_of_mem_take ha)), _, rfl, ?_⟩
      rw [if_neg Bool.false_ne_true, decide_eq_false (nodup_atC nda hc)]
      exact iteF ⟨_, _, rfl, s14.trans s45⟩
  · rintro σ H2 ⟨v4, v5, rfl, s2⟩
    have s02 := s1.trans s2
    have hx2 := s02 _ _ hx
    have ny : y ≠ x := fun z => by
      have e := pr.ins
      rw [z, hx] at e
      cases e
    refine ⟨_, rfl, _, rfl, x, CC, dx, [], rfl, hx2, Tc.cl, Tc.n1, by decide, ?_⟩
    rw [show putF ("base" : Str) (V.ref y) [] = [(("base" : Str), V.ref y)] from rfl]
    have hx3 : (upd H2 x (.ins CC dx [("base", .ref y)])) x = some (.ins CC dx [("base", .ref y)]) := upd_same
    have hp3 : (upd H2 x (.ins CC dx [("base", .ref y)])) p = some (.lst ks) := by
      rw [upd_ne (ne_of (s2 _ _ hp) hx2 (by intro z; cases z))]
      exact s2 _ _ hp
    have hks3 : TupLs K (upd H2 x (.ins CC dx [("base", .ref y)])) ks (allC d) := tups_off hx2 (by intro l z; cases z) (by intro od l z; cases z) (TupLs.same hks s2)
    have hus3 : TupLs K (upd H2 x (.ins CC dx [("base", .ref y)])) us as := tups_off hx2 (by intro l z; cases z) (by intro od l z; cases z) (TupLs.same hus s02)
    have ht3 : SqT K (upd H2 x (.ins CC dx [("base", .ref y)])) t us := sqT_at (sqT_same ht s02) (.inr ⟨_, hx2, (by intro l z; cases z), by intro od l z; cases z⟩)
    have pr3 : ProgAt K CP (upd H2 x (.ins CC dx [("base", .ref y)])) y dy L S F d := prog_off hx2 ny (pr.same s02)
    have keep3 : ∀ q o, q ≠ x → H q = some o → (upd H2 x (.ins CC dx [("base", .ref y)])) q = some o := fun q o n e => by
      rw [upd_ne n]
      exact s02 _ _ e
    generalize upd H2 x (.ins CC dx [("base", .ref y)]) = H3 at hx3 hp3 hks3 hus3 ht3 pr3 keep3
    refine ⟨_, rfl, p, rfl, ⟨_, SqL.of hp3⟩, fun D nD => rd_sel (fun c => decide (c ∈ as)) (SqL.of hp3) hks3 (by have := g.few; omega) nD (fun v => rfl) (fun v => rfl) (fun j c v H4 Q4 s4 hc tc q => ?_) fun H4 ts s4 hD hts => ?_⟩
    · have mc : c ∈ allC d := List.mem_of_getElem? hc
      exact ⟨_, rfl, _, rfl, c, t, us, as, tc, rfl, sqT_same ht3 s4, TupLs.same hus3 s4, g.cok c mc, fun a ha => g.cok a (sub a ha), _, rfl, q H4 (Same.refl _)⟩
    · have hx4 := s4 _ _ hx3
      refine ⟨_, rfl, x, CC, dx, _, rfl, hx4, Tc.cl, Tc.n2, (by show 1 < 1000; decide), k _ D (fun q o n e => ?_) ?_ ⟨upd_same, ⟨dy, L, S, F, prog_off hx4 ny (pr3.same s4)⟩, ⟨ts, ?_, tups_off hx4 (by intro l z; cases z) (by intro od l z; cases z) hts⟩⟩⟩
      · rw [upd_ne n]
        exact s4 _ _ (keep3 q o n e)
      · cases z : H D with
        | none => rfl
        | some o =>
          by_cases e : D = x
          · rw [e, hx3] at nD; cases nD
          · rw [keep3 _ _ e z] at nD; cases nD
      · rw [upd_ne (ne_of hD hx4 (by intro z; cases z))]
        exact hD
end
end CT


set_option Elab.async false
set_option linter.all false
set_option maxRecDepth 100000
set_option maxHeartbeats 4000000
/-! != of a class that has an own == and no own !=. -/
namespace OW
open PySem PySem.Spec PyProof.Rows L2
section
variable {prog : Program} {w : World} {A : Around} {E : Value → Shared → Prop} {s : Shared} {K : PySem.W.Frag} {x C f L : Addr} {h₀ : Heap} {m : Str → Option Value} {ox : Obj} {od : Option Obj} {b tb : Value}
theorem objNe_K {Q : Fin → Shared → Prop} (X : K.In s.heap) (I : PySem.W.InstAt s.heap x ox C od) (he : PySem.W.findIn K (.ref C) "__eq__" = some (some (.ref f))) (hf : PySem.W.isFn K (.ref f) = true) (hu : A.units < cLine)
    (h : wpAny (model prog w) A (call (.ref f) [.ref x, b]) (fun v s' => ∃ c, v = .bool c ∧ Q (.done (.ret (.bool (!c)))) s') E s) : wpAny (model prog w) A (Builtin.«object.__ne__» ⟨[.ref x, b], []⟩) Q E s := by
  obtain ⟨hh, g, d, t, os⟩ := s
  unfold Builtin.«object.__ne__»
  repeat (first
    | with_reducible refine wpAny_cRoomFor hu ?_
    | (refine wpAny_bind (m := callSpecialIfBound? (.ref x) (Str.ofString "__eq__") [b]) (PySem.W.ifBound_K X I he hf (wpAny_mono h (fun r s' hr => by
          obtain ⟨c, rfl, hq⟩ := hr
          repeat (first | exact hq | exact wpAny_pure hq | exact wpAny_truthy_bool hq | (refine wpAny_bind (m := truthy (.bool _)) (wpAny_truthy_bool ?_)) | wp_step)) fun _ _ e => e)))
    | wp_step)
theorem checkK {M : Model} {id owner n : String} {rest : List Value} {Q : Unit → Shared → Prop} (X : K.In s.heap) (I : PySem.W.InstAt s.heap x ox C od) (hm : PySem.W.mroIn K C (.type owner) = some true) (hk : builtinKind id = some .slot) (hs : splitId id = some (owner, n)) (ha : argsOk id ⟨.ref x :: rest, []⟩) (hq : Q () s) :
    wpAny M A (checkBuiltinCall id ⟨.ref x :: rest, []⟩) Q E s := by
  obtain ⟨hh, g, d, t, os⟩ := s
  have L0 := I.type (M := M)
  have L1 := PySem.W.looks_mroIn (M := M) X hm
  simp only [checkBuiltinCall, hk, hs]
  refine wpAny_bind ?_
  unfold isInstance
  refine wpAny_bind (L0.here ?_)
  refine L1.here ?_
  rw [if_neg (by decide)]
  cases hsig : Manifest.signature? id with
  | none => exact wpAny_pure hq
  | some sig =>
    simp only [argsOk, hsig] at ha
    have h2 : Bind.checkArgs id sig ⟨.ref x :: rest, []⟩ = pure () := ha
    show wpAny M A (Bind.checkArgs id sig ⟨.ref x :: rest, []⟩) Q E _
    rw [h2]
    exact wpAny_pure hq
theorem callNe_K {Q : Value → Shared → Prop} (X : K.In s.heap) (I : PySem.W.InstAt s.heap x ox C od) (hm : PySem.W.mroIn K C (.type "object") = some true) (he : PySem.W.findIn K (.ref C) "__eq__" = some (some (.ref f))) (hf : PySem.W.isFn K (.ref f) = true) (hu : A.units + 1 < cLine)
    (h : wpAny (model prog w) A.in1 (call (.ref f) [.ref x, b]) (fun v s' => ∃ c, v = .bool c ∧ Q (.bool (!c)) s') E s) : wpAny (model prog w) A (call (.builtin "object.__ne__") [.ref x, b]) Q E s := by
  refine wpAny_call (codeAny_call_builtin F.cmp_object.ne.plain F.cmpEntry_ne ?_)
  obtain ⟨hh, g, d, t, os⟩ := s
  have fin : wpAny (model prog w) A.in1 (Builtin.«object.__ne__» ⟨[.ref x, b], []⟩) (fun fin s' => ∃ v, fin = .done (.ret v) ∧ Q v s') E ⟨hh, g, d, t, os⟩ := objNe_K X I he hf hu (wpAny_mono h (fun v s' ⟨c, e, q⟩ => ⟨c, e, _, rfl, q⟩) fun _ _ e => e)
  refine checkK X I hm F.cmpKind_ne F.cmpSplit_ne (F.cmpArgs_ne _ _) (wpAny_mono fin (fun fn s' z => ?_) fun _ _ e => e)
  obtain ⟨v, rfl, q⟩ := z
  exact q
theorem cmpNe_K {Q : Value → Shared → Prop} (hu : A.units + 1 < cLine) (F0 : Fr h₀ L s.heap m) (X₀ : K.In h₀) (I : PySem.W.InstAt s.heap x ox C od) (hb : PySem.W.Looks (model prog w) s.heap (typeOf b) tb) (hn : PySem.W.notFirst K C tb = true)
    (hs : PySem.W.findIn K (.ref C) "__ne__" = some (some (.builtin "object.__ne__"))) (hm : PySem.W.mroIn K C (.type "object") = some true) (he : PySem.W.findIn K (.ref C) "__eq__" = some (some (.ref f))) (hf : PySem.W.isFn K (.ref f) = true)
    (h : wpAny (model prog w) A.in1 (call (.ref f) [.ref x, b]) (fun v s' => ∃ c, v = .bool c ∧ Q (.bool (!c)) s') E s) : wpAny (model prog w) A (richCompare .NotEq (.ref x) b) Q E s := by
  have X := X₀.keeps F0.keep
  have one : wpAny (model prog w) A (tryCompare (.ref x) "__ne__" b) (fun r s' => ∃ v, r = some v ∧ Q v s') E s := by
    unfold tryCompare
    have call1 : wpAny (model prog w) A (call (.builtin "object.__ne__") [.ref x, b]) (fun v s' => ∃ c, v = .bool c ∧ Q (.bool c) s') E s := callNe_K (Q := fun v s' => ∃ c, v = .bool c ∧ Q (.bool c) s') X I hm he hf hu (wpAny_mono h (fun v s' ⟨c, e, q⟩ => ⟨c, e, _, rfl, q⟩) fun _ _ e => e)
    have fin : wpAny (model prog w) A (call (.builtin "object.__ne__") ([.ref x] ++ [b]) >>= fun v => pure (some v)) (fun r s' => ∃ c, r = some (.bool c) ∧ Q (.bool c) s') E s := wpAny_bind (wpAny_mono call1 (fun v s' ⟨c, e, q⟩ => wpAny_pure ⟨c, by rw [e], q⟩) fun _ _ e => e)
    have sp : wpAny (model prog w) A (callSpecialIfBound? (.ref x) "__ne__" [b]) (fun r s' => ∃ c, r = some (.bool c) ∧ Q (.bool c) s') E s := by
      simp only [callSpecialIfBound?, bindSpecialIfBound?]
      refine wpAny_holding (wpAny_bind (wpAny_bind (wpAny_bind (I.type.here ((PySem.W.looks_findIn X hs).here ?_)))))
      simp only [F.cmp_object.ne.bind]
      refine wpAny_bind (wpAny_askSetting (wpAny_ite ?_))
      split
      · exact wpAny_bind (wpAny_pure (wpAny_pure fin))
      · exact wpAny_tryCatch (wpAny_bind (wpAny_pure (wpAny_pure fin)))
    refine wpAny_bind (wpAny_mono sp (fun r s' z => ?_) fun _ _ e => e)
    obtain ⟨c, rfl, q⟩ := z
    exact wpAny_pure ⟨_, rfl, q⟩
  unfold richCompare
  simp only [oneThing_ref]
  refine wpAny_holding (wpAny_bind (wpAny_cRoomFor (Nat.lt_of_succ_lt hu) (wpAny_bind (I.type.here (wpAny_bind (hb.here ?_))))))
  split
  · rename_i q
    have e : PySem.W.subIn K tb (.ref C) = some false := by
      rcases Bool.or_eq_true_iff.mp hn with e | e
      · rw [beq_iff_eq.mp e] at q; simp at q
      · exact beq_iff_eq.mp e
    refine wpAny_bind ((PySem.W.looks_subIn X e).here ?_)
    simp only [Bool.false_eq_true, if_false]
    exact wpAny_bind (wpAny_mono one (fun r s' ⟨v, e, hq⟩ => by subst e; exact wpAny_pure hq) fun _ _ e => e)
  · refine wpAny_bind (wpAny_pure ?_)
    simp only [Bool.false_eq_true, if_false]
    exact wpAny_bind (wpAny_mono one (fun r s' ⟨v, e, hq⟩ => by subst e; exact wpAny_pure hq) fun _ _ e => e)
end
section
variable {X : Cx} {CX : CXT} {k : Nat} {f C : Addr} {fd : FuncData} {ps : List Str} {sp : Sp} {E : XK}
/-- x != y by x's own == -/
def rOwnNe (K : PySem.W.Frag) (C : Addr) (sp : Sp) (E : XK) : R2 := fun x y H Q => ∃ (a dx : Addr) (fs : List (Str × V)) (t : Value), x = .ref a ∧ H a = some (.ins C dx fs) ∧ TyX K H y t ∧ PySem.W.notFirst K C t = true ∧ sp [.ref a, y] H (fun v H' => ∃ b : Bool, v = .bl b ∧ Q (.bl (!b)) H') E
theorem op_ownNe (F : FnOk X.prog X.w X.K X.mg X.base CX k f fd ps sp) (hb : Binds X.K fd ps []) (hx : Passes CX X E) (hr : Room (k + 1) X.A) (hn : PySem.W.findIn X.K (.ref C) "__ne__" = some (some (.builtin "object.__ne__"))) (hm : PySem.W.mroIn X.K C (.type "object") = some true) (hs : PySem.W.findIn X.K (.ref C) "__eq__" = some (some (.ref f))) (hf : PySem.W.isFn X.K (.ref f) = true) : OpR X (compareOp .NotEq) (rOwnNe X.K C sp E) := by
  intro pins s σ H x y v u Q I rx ry h
  obtain ⟨a, dx, fs, t, rfl, ha, ty, nf, h⟩ := h
  obtain rfl : v = Value.ref a := rx
  obtain ⟨ox, od, J⟩ := own_at I ha
  obtain ⟨m, hF⟩ := I.fr
  show wpAny (model X.prog X.w) X.A (richCompare .NotEq (.ref a) u) (EP X pins σ Q) X.xe s
  refine cmpNe_K (tb := t) (hu_of hr) hF I.ok.mod.kin J ?_ nf hn hm hs hf ?_
  · obtain ⟨P, Z, p, _⟩ := kit_of I ry ty
    exact Z.ty _ _ I.kIn p
  · refine wpAny_mono (own_call (vs := [.ref a, y]) F hb hx hr.in1 rfl I (.cons rfl (.cons ry .nil)) h) (fun v s' z => ?_) fun _ _ z => z
    obtain ⟨w, H', I', rw', b, rfl, q⟩ := z
    obtain rfl : v = Value.bool b := rw'
    exact ⟨b, rfl, .bl (!b), H', I', rfl, q⟩
end
end OW


set_option Elab.async false
set_option linter.all false
set_option maxRecDepth 100000
set_option maxHeartbeats 4000000
namespace CT
open PySem L2 PG OW
abbrev sCProg : Stmt := inClass sCnt 1
abbrev sListed : Stmt := inClass sCnt 2
abbrev sCLen : Stmt := inClass sCnt 3
abbrev sCHas : Stmt := inClass sCnt 4
abbrev sAdd : Stmt := inClass sCnt 5
abbrev sIadd : Stmt := inClass sCnt 6
abbrev sSub : Stmt := inClass sCnt 7
abbrev sIsub : Stmt := inClass sCnt 8
abbrev sCEq : Stmt := inClass sCnt 9
structure CsIn (d : PD) (cs : List (List Str)) : Prop where
  sub : ∀ c ∈ cs, c ∈ allC d
  nd : cs.Nodup
theorem nodup_leC {α : Type} [DecidableEq α] : ∀ {xs ys : List α}, xs.Nodup → (∀ x ∈ xs, x ∈ ys) → xs.length ≤ ys.length
  | [], ys, _, _ => Nat.zero_le _
  | x :: xs, ys, n, h => by
    obtain ⟨n1, n2⟩ := List.nodup_cons.mp n
    have m : x ∈ ys := h x List.mem_cons_self
    have e : (ys.erase x).length = ys.length - 1 := List.length_erase_of_mem m
    have p : 0 < ys.length := List.length_pos_of_mem m
    have r := nodup_leC (ys := ys.erase x) n2 fun y hy => (List.mem_erase_of_ne (fun z : y = x => n1 (by rw [← z]; exact hy))).mpr (h y (List.mem_cons_of_mem _ hy))
    rw [List.length_cons]
    omega
theorem CsIn.few {d : PD} {cs : List (List Str)} (h : CsIn d cs) (g : PDg d) : cs.length ≤ 200 := Nat.le_trans (nodup_leC h.nd h.sub) g.few
theorem CsIn.ok {d : PD} {cs : List (List Str)} (h : CsIn d cs) (g : PDg d) : CsOk cs := fun c hc => g.cok c (h.sub c hc)
theorem selC_in {d : PD} (g : PDg d) (as : List (List Str)) : CsIn d (selC d as) := ⟨fun c hc => (List.mem_filter.mp hc).1, g.nd.sublist List.filter_sublist⟩
section
variable {P : Program} {w : World} {K : PySem.W.Frag} {mg : Str → Option Value} {base : Heap} {CP CC : Addr}
/-- what init's promise comes to for a new set -/
theorem cmk_new {aR : Addr} {H1 : Hp} {y dy L S F : Addr} {d : PD} {us : List V} {as : List (List Str)} {R : Addr → Hp → Prop} {E : XK} (ra : RA K aR H1) (pr : ProgAt K CP H1 y dy L S F d) (g : PDg d) (hus : TupLs K H1 us as) (ci : CsIn d as)
    (k : ∀ (H' : Hp) (x dx B : Addr), Same H1 H' → H1 x = none → H1 B = none → CtrAt K CP CC H' x dx y B d (selC d as) → R x H') :
    ∀ x dx, H1 x = none → H1 dx = none → dx ≠ x → spStar 2 (spInitC aR K CP CC) (.ref x :: .ref y :: us) (upd (upd H1 dx (.own x)) x (.ins CC dx [])) (fun v H2 => v = .non ∧ R x H2) E := by
  intro x dx nx ndx nxd
  have s1 : Same H1 (upd (upd H1 dx (.own x)) x (.ins CC dx [])) := fun c o z => by
    rw [upd_ne (ne_of_none z nx), upd_ne (ne_of_none z ndx)]
    exact z
  have lu : us.length = as.length := Paired.length hus
  have hx : (upd (upd H1 dx (.own x)) x (.ins CC dx [])) x = some (.ins CC dx []) := upd_same
  generalize upd (upd H1 dx (.own x)) x (.ins CC dx []) = H2 at s1 hx
  refine ⟨[.ref x, .ref y], us, rfl, rfl, ?_, fun t nt => ?_⟩
  · rw [lu, sizeLine_eq]
    have := ci.few g
    omega
  · have s2 : Same H2 (upd H2 t (.tup us)) := sm nt
    have s12 := s1.trans s2
    have ht : (upd H2 t (.tup us)) t = some (.tup us) := upd_same
    generalize upd H2 t (.tup us) = H3 at s2 ht s12
    refine ⟨x, dx, y, dy, L, S, F, d, t, us, as, rfl, ra.same s12, s2 _ _ hx, pr.same s12, g, SqT.of ht, TupLs.same hus s12, ci.nd, ci.sub, fun H' B s3 nB h => ⟨rfl, k H' x dx B (fun c o z => s3 c o (ne_of_none z nx) (s12 c o z)) nx ?_ h⟩⟩
    cases q : H1 B with
    | none => rfl
    | some o => rw [s12 _ _ q] at nB; cases nB
theorem scCProg : FnScope ["self"] ["self"] (defScope sCProg) := ⟨rfl, rfl, rfl, by decide +kernel, rfl, by decide +kernel, by decide +kernel⟩
def spCProg (K : PySem.W.Frag) (CP CC : Addr) : Sp := fun vs H Q _ => ∃ (x dx y B : Addr) (d : PD) (cs : List (List Str)), vs = [.ref x] ∧ CtrAt K CP CC H x dx y B d cs ∧ Q (.ref y) H
theorem ok_cprog {f : Addr} {fd : FuncData} (Fn : Fun K "program" "Counters.program" sCProg f fd) (Tc : CTc K mg CC) : FnOk P w K mg base CX0 1 f fd ["self"] (spCProg K CP CC) := by
  refine Fn.ok scCProg (fun vs H Q E h => ?_) (fun cdv A outer s H vs Q E hr h => ?_)
  · obtain ⟨x, dx, y, B, d, cs, rfl, _⟩ := h
    rfl
  · obtain ⟨x, dx, y, B, d, cs, rfl, h, k⟩ := h
    exact ⟨_, pss_one (ps_ret (pe_fld (pv 0) rfl)), _, rfl, x, CC, dx, _, _, rfl, h.ins, Tc.cl, Tc.n1, rfl, k⟩
theorem scListed : FnScope ["self"] ["self"] (defScope sListed) := ⟨rfl, rfl, rfl, by decide +kernel, rfl, by decide +kernel, by decide +kernel⟩
def spListed (K : PySem.W.Frag) (CP CC : Addr) : Sp := fun vs H Q _ => ∃ (x dx y B : Addr) (d : PD) (cs : List (List Str)), vs = [.ref x] ∧ CtrAt K CP CC H x dx y B d cs ∧ ∀ (p : Addr) (H' : Hp) (us : List V), H p = none → Same H H' → (∀ q o, q ≠ p → H' q = some o → H q = some o) → H' p = some (.lst us) → TupLs K H' us cs → Q (.ref p) H'
theorem ok_listed {f : Addr} {fd : FuncData} (Fn : Fun K "listed" "Counters.listed" sListed f fd) (T : PT0 mg) (Tc : CTc K mg CC) : FnOk P w K mg base CX0 1 f fd ["self"] (spListed K CP CC) := by
  refine Fn.ok scListed (fun vs H Q E h => ?_) (fun cdv A outer s H vs Q E hr h => ?_)
  · obtain ⟨x, dx, y, B, d, cs, rfl, _⟩ := h
    rfl
  · obtain ⟨x, dx, y, B, d, cs, rfl, h, k⟩ := h
    obtain ⟨us, hB, hus⟩ := h.ch
    exact ⟨_, pss_one (ps_ret (pe_callTy call_list_of (by rfl) T.list PyProof.Rows.boot_list (pa_cons (pe_fld (pv 0) rfl) pa_nil))), _, rfl, x, CC, dx, _, _, rfl, h.ins, Tc.cl, Tc.n2, rfl, B, _, rfl, .inl (SqL.of hB), fun p np => k p _ us np (sm np) (fun q o n e => by rw [upd_ne n] at e; exact e) upd_same (TupLs.same hus (sm np))⟩
theorem scCLen : FnScope ["self"] ["self"] (defScope sCLen) := ⟨rfl, rfl, rfl, by decide +kernel, rfl, by decide +kernel, by decide +kernel⟩
def spCLen (K : PySem.W.Frag) (CP CC : Addr) : Sp := fun vs H Q _ => ∃ (x dx y B : Addr) (d : PD) (cs : List (List Str)), vs = [.ref x] ∧ CtrAt K CP CC H x dx y B d cs ∧ Q (.int (cs.length : Nat)) H
theorem ok_clen {f : Addr} {fd : FuncData} (Fn : Fun K "__len__" "Counters.__len__" sCLen f fd) (T : PT0 mg) (Tc : CTc K mg CC) : FnOk P w K mg base CX0 1 f fd ["self"] (spCLen K CP CC) := by
  refine Fn.ok scCLen (fun vs H Q E h => ?_) (fun cdv A outer s H vs Q E hr h => ?_)
  · obtain ⟨x, dx, y, B, d, cs, rfl, _⟩ := h
    rfl
  · obtain ⟨x, dx, y, B, d, cs, rfl, h, k⟩ := h
    obtain ⟨us, hB, hus⟩ := h.ch
    refine ⟨_, pss_one (ps_ret (pe_callB call_len_seq (by rfl) T.len PySem.boot_len (pa_cons (pe_fld (pv 0) rfl) pa_nil))), _, rfl, x, CC, dx, _, _, rfl, h.ins, Tc.cl, Tc.n2, rfl, B, us, rfl, .inl (SqL.of hB), ?_⟩
    rw [Paired.length hus]
    exact k
theorem scCHas : FnScope ["self", "x"] ["self", "x"] (defScope sCHas) := ⟨rfl, rfl, rfl, by decide +kernel, rfl, by decide +kernel, by decide +kernel⟩
def spCHas (K : PySem.W.Frag) (CP CC : Addr) : Sp := fun vs H Q _ => ∃ (x dx y B : Addr) (d : PD) (cs : List (List Str)) (v : V) (o : Option (List Str)), vs = [.ref x, v] ∧ CtrAt K CP CC H x dx y B d cs ∧ CsOk cs ∧ KnV K H v o ∧ ∀ H', Same H H' → Q (.bl (knB cs o)) H'
theorem ok_chas {f fK : Addr} {fd fdK : FuncData} (Fn : Fun K "__contains__" "Counters.__contains__" sCHas f fd) (Tc : CTc K mg CC) (FK : Fun K "is_known" "is_known" sKnown fK fdK) (bK : Binds K fdK ["value", "known"] []) (gK : mg "is_known" = some (.ref fK)) (GK : FnOk P w K mg base CX0 2 fK fdK ["value", "known"] (spKnown K)) : FnOk P w K mg base CX0 3 f fd ["self", "x"] (spCHas K CP CC) := by
  refine Fn.ok scCHas (fun vs H Q E h => ?_) (fun cdv A outer s H vs Q E hr h => ?_)
  · obtain ⟨x, dx, y, B, d, cs, v, o, rfl, _⟩ := h
    rfl
  · obtain ⟨x, dx, y, B, d, cs, v, o, rfl, h, oc, hv, k⟩ := h
    obtain ⟨us, hB, hus⟩ := h.ch
    exact ⟨_, pss_one (ps_ret (pe_call GK hr (by rfl) gK FK.kp bK .nil pass0 (pa_cons (pv 1) (pa_cons (pe_fld (pv 0) rfl) pa_nil)))), _, rfl, _, rfl, x, CC, dx, _, _, rfl, h.ins, Tc.cl, Tc.n2, rfl, v, B, us, cs, o, rfl, SqL.of hB, hus, oc, hv, k⟩
/-- what is known of the classes among the types, for == and != -/
structure CTt (K : PySem.W.Frag) (CP CC : Addr) : Prop where
  ha : PySem.W.findIn K (.ref CC) "__class__" = some (some (.builtin "object.__class__"))
  hm : PySem.W.mroIn K CC (.type "object") = some true
  nfP : PySem.W.notFirst K CP (.ref CP) = true
  neP : PySem.W.findIn K (.ref CP) "__ne__" = some (some (.builtin "object.__ne__"))
theorem ty_prog {H : Hp} {y dy L S F : Addr} {d : PD} (h : ProgAt K CP H y dy L S F d) (cl : Cls K CP) (Tt : PTt K CP) : TyX K H (.ref y) (.ref CP) := .base (.ins h.ins cl Tt.ha Tt.hn Tt.htk Tt.hm)
theorem ty_ctr {H : Hp} {x dx y B : Addr} {d : PD} {cs : List (List Str)} (h : CtrAt K CP CC H x dx y B d cs) (cl : Cls K CC) (Tt : PTt K CP) (Ct : CTt K CP CC) : TyX K H (.ref x) (.ref CC) := .base (.ins h.ins cl Ct.ha Tt.hn Tt.htk Ct.hm)
theorem kit_self (C : Addr) : PySem.W.kitOne K (.ref C) (.ref C) = some true := by
  unfold PySem.W.kitOne
  rw [if_pos (beq_self_eq_true _)]
theorem scCEq : FnScope ["self", "other"] ["self", "other"] (defScope sCEq) := ⟨rfl, rfl, rfl, by decide +kernel, rfl, by decide +kernel, by decide +kernel⟩
def spCEq (K : PySem.W.Frag) (CP CC : Addr) : Sp := fun vs H Q _ => ∃ (x dx y B : Addr) (d : PD) (cs : List (List Str)) (v : V), vs = [.ref x, v] ∧ CtrAt K CP CC H x dx y B d cs ∧ PDg d ∧ CsOk cs ∧
  ((∃ (x2 dx2 y2 B2 : Addr) (e : PD) (ds : List (List Str)), v = .ref x2 ∧ CtrAt K CP CC H x2 dx2 y2 B2 e ds ∧ PDg e ∧ CsOk ds ∧ Q (.bl (eqPD d e && decide (cs = ds))) H) ∨ (∃ t, TyX K H v t ∧ PySem.W.kitOne K t (.ref CC) = some false ∧ Q (.bl false) H))
theorem ok_ceq {f gQ : Addr} {fd fdQ : FuncData} (Fn : Fun K "__eq__" "Counters.__eq__" sCEq f fd) (T : PT0 mg) (Tc : CTc K mg CC) (cl : Cls K CP) (Tt : PTt K CP) (Ct : CTt K CP CC) (fQ : PySem.W.findIn K (.ref CP) "__eq__" = some (some (.ref gQ))) (iQ : PySem.W.isFn K (.ref gQ) = true) (bQ : Binds K fdQ ["self", "other"] []) (GQ : FnOk P w K mg base CX0 1 gQ fdQ ["self", "other"] (spEqP K CP)) : FnOk P w K mg base CX0 2 f fd ["self", "other"] (spCEq K CP CC) := by
  refine Fn.ok scCEq (fun vs H Q E h => ?_) (fun cdv A outer s H vs Q E hr h => ?_)
  · obtain ⟨x, dx, y, B, d, cs, v, rfl, _⟩ := h
    rfl
  · obtain ⟨x, dx, y, B, d, cs, v, rfl, h, g, oc, k⟩ := h
    obtain ⟨us, hB, hus⟩ := h.ch
    obtain ⟨dy, L, S, F, pr⟩ := h.pr
    refine ⟨_, pss_one (ps_ret (pe_and (pe_callB call_isi (by rfl) T.isi PyProof.Rows.boot_isinstance (pa_cons (pv 1) (pa_cons (pe_glob (v := .ref CC) (by rfl) Tc.gC rfl) pa_nil)))
      (pe_and (pe_cmpR (op_ownEq (C := CP) GQ bQ pass0 hr fQ iQ) (pe_fld (pv 0) rfl) (pe_fld (pv 1) rfl) (nomark _))
      (pe_one (pe_cmpR (op_eqC hr.units) (pe_fld (pv 0) rfl) (pe_fld (pv 1) rfl) (nomark _)))))), ?_⟩
    rcases k with ⟨x2, dx2, y2, B2, e, ds, rfl, h2, g2, oc2, q⟩ | ⟨t, ht, hk, q⟩
    · obtain ⟨us2, hB2, hus2⟩ := h2.ch
      obtain ⟨dy2, L2, S2, F2, pr2⟩ := h2.pr
      refine ⟨_, rfl, .ref x2, .ref CC, _, _, true, rfl, .own CC, ty_ctr h2 Tc.cl Tt Ct, kit_self CC, _, rfl, iteT ?_⟩
      refine ⟨_, rfl, x, CC, dx, _, _, rfl, h.ins, Tc.cl, Tc.n1, rfl, _, rfl, x2, CC, dx2, _, _, rfl, h2.ins, Tc.cl, Tc.n1, rfl, y, dy, _, _, rfl, pr.ins, ty_prog pr2 cl Tt, Ct.nfP, y, dy, L, S, F, d, .ref y2, rfl, pr, .inl ⟨y2, dy2, L2, S2, F2, e, rfl, pr2, g.ok, g2.ok, _, rfl, _, rfl, ?_⟩⟩
      refine iteB (fun c => ?_) (fun c => ?_)
      · refine ⟨_, rfl, x, CC, dx, _, _, rfl, h.ins, Tc.cl, Tc.n2, rfl, _, rfl, x2, CC, dx2, _, _, rfl, h2.ins, Tc.cl, Tc.n2, rfl, B, B2, us, us2, cs, ds, rfl, rfl, SqL.of hB, SqL.of hB2, hus, hus2, oc, oc2, ?_⟩
        rw [c, Bool.true_and] at q
        exact q
      · rw [c, Bool.false_and] at q
        exact q
    · exact ⟨_, rfl, v, .ref CC, _, _, false, rfl, .own CC, ht, hk, _, rfl, iteF q⟩
theorem scPart : FnScope ["one", "other"] ["one", "other"] (defScope sPart) := ⟨rfl, rfl, rfl, by decide +kernel, rfl, by decide +kernel, by decide +kernel⟩
def spPart (K : PySem.W.Frag) (CP CC : Addr) : Sp := fun vs H Q _ => ∃ (x dx y B x2 dx2 y2 B2 : Addr) (d e : PD) (cs ds : List (List Str)), vs = [.ref x, .ref x2] ∧ CtrAt K CP CC H x dx y B d cs ∧ CtrAt K CP CC H x2 dx2 y2 B2 e ds ∧ PDg d ∧ PDg e ∧ eqPD d e = true ∧ Q .non H
theorem ok_part {f gQ : Addr} {fd fdQ : FuncData} (Fn : Fun K "require_partner" "require_partner" sPart f fd) (T : PT0 mg) (Tc : CTc K mg CC) (cl : Cls K CP) (Tt : PTt K CP) (Ct : CTt K CP CC) (fQ : PySem.W.findIn K (.ref CP) "__eq__" = some (some (.ref gQ))) (iQ : PySem.W.isFn K (.ref gQ) = true) (bQ : Binds K fdQ ["self", "other"] []) (GQ : FnOk P w K mg base CX0 1 gQ fdQ ["self", "other"] (spEqP K CP)) : FnOk P w K mg base CX0 3 f fd ["one", "other"] (spPart K CP CC) := by
  refine Fn.ok scPart (fun vs H Q E h => ?_) (fun cdv A outer s H vs Q E hr h => ?_)
  · obtain ⟨x, dx, y, B, x2, dx2, y2, B2, d, e, cs, ds, rfl, _⟩ := h
    rfl
  · obtain ⟨x, dx, y, B, x2, dx2, y2, B2, d, e, cs, ds, rfl, h, h2, g, g2, eq, k⟩ := h
    obtain ⟨dy, L, S, F, pr⟩ := h.pr
    obtain ⟨dy2, L2, S2, F2, pr2⟩ := h2.pr
    refine ⟨_, pss_one (ps_if (PW.pt (pw_or (pt_not (pt_val (pe_callB call_isi (by rfl) T.isi PyProof.Rows.boot_isinstance (pa_cons (pv 1) (pa_cons (pe_glob (v := .ref CC) (by rfl) Tc.gC rfl) pa_nil)))))
      (pw_or1 (pt_cmpR (op_ownNe (C := CP) GQ bQ pass0 hr Ct.neP Tt.hm fQ iQ) (pe_fld (pv 0) rfl) (pe_fld (pv 1) rfl) (nomark _))))) pss_dead pss_nil), ?_⟩
    refine ⟨_, rfl, .ref x2, .ref CC, _, _, true, rfl, .own CC, ty_ctr h2 Tc.cl Tt Ct, kit_self CC, _, rfl, iteF ?_⟩
    refine ⟨_, rfl, x, CC, dx, _, _, rfl, h.ins, Tc.cl, Tc.n1, rfl, _, rfl, x2, CC, dx2, _, _, rfl, h2.ins, Tc.cl, Tc.n1, rfl, y, dy, _, _, rfl, pr.ins, ty_prog pr2 cl Tt, Ct.nfP, y, dy, L, S, F, d, .ref y2, rfl, pr, .inl ⟨y2, dy2, L2, S2, F2, e, rfl, pr2, g.ok, g2.ok, _, rfl, _, rfl, ?_⟩⟩
    rw [eq]
    exact iteF k
end
end CT


set_option Elab.async false
set_option linter.all false
set_option maxRecDepth 100000
set_option maxHeartbeats 4000000
namespace PG
open PySem L2
section
variable {P : Program} {w : World} {K : PySem.W.Frag} {mg : Str → Option Value} {base : Heap}
/-! ### leaving, entering -/
abbrev nsLv : List Str := ["self", "place", "way"]
def lvOf (ls : List Lk) (p : Str) : List Str := keysL (ls.filter fun l => decide (l.2.1 = p))
def etOf (ls : List Lk) (p : Str) : List Str := keysL (ls.filter fun l => decide (l.2.2 = p))
theorem lv_snoc {ls : List Lk} {i : Nat} {l : Lk} (c : Lk → Bool) (h : ls[i]? = some l) : (keysL ((ls.take (i + 1)).filter c)).map V.str = (keysL ((ls.take i).filter c)).map V.str ++ (if c l then [V.str l.1] else []) := by
  rw [List.take_add_one, h, List.filter_append]
  show List.map V.str (List.map _ (_ ++ _)) = _
  rw [List.map_append, List.map_append]
  congr 1
  show List.map V.str (List.map (·.1) (List.filter c [l])) = _
  by_cases e : c l = true
  · rw [List.filter_cons_of_pos e, if_pos e]
    rfl
  · rw [List.filter_cons_of_neg e, if_neg e]
    rfl
theorem lv_len (ls : List Lk) (i : Nat) (c : Lk → Bool) : ((keysL ((ls.take i).filter c)).map V.str).length ≤ ls.length := by
  rw [List.length_map]
  show (List.map _ _).length ≤ _
  rw [List.length_map]
  exact Nat.le_trans (List.length_filter_le _ _) (List.length_take_le' i ls)
def spLv (K : PySem.W.Frag) (C : Addr) (g : List Lk → Str → List Str) : Sp := fun vs H Q _ => ∃ (x dx L S F : Addr) (d : PD) (p : Str), vs = [.ref x, .str p] ∧ ProgAt K C H x dx L S F d ∧ p ∈ d.ps ∧ (keysL d.ls).Nodup ∧ d.ls.length ≤ 40 ∧ ∀ (r : Addr) (H' : Hp), H r = none → Same H H' → H' r = some (.lst ((g d.ls p).map V.str)) → Q (.ref r) H'
end
end PG


set_option Elab.async false
set_option linter.all false
set_option maxRecDepth 100000
set_option maxHeartbeats 4000000
/-! repr of data; promises of defs that are called where no repr is under way. -/
namespace RP
open PySem PySem.Spec PyProof.Rows L2
/-- as FnOk, where no repr is under way -/
structure FnG (P : Program) (w : World) (K : PySem.W.Frag) (mg : Str → Option Value) (base : Heap) (CX : CXT) (k : Nat) (f : Addr) (fd : FuncData) (ps : List Str) (sp : Sp) : Prop where
  len : ∀ vs H Q E, sp vs H Q E → vs.length = ps.length
  run : ∀ (A : Around) (outer : List Env) (s : Shared) (H : Hp) (args : Args) (us : List Value) (vs : List V) (Q : VK) (E : XK), A.guards = some [] → Room k A → Env0 P w K mg base A outer s H → BindsTo s fd args (ps.zip us) → Vals vs us → sp vs H Q E → codeAny (model P w) A (.call (.ref f) args) (CR CX outer P w H s Q E) s
section
variable {X : Cx} {CX : CXT} {k : Nat} {f C : Addr} {fd : FuncData} {ps : List Str} {sp : Sp} {E : XK} {x : Str} {p pos : Pos} {e : Expr} {es : List Expr} {t : TA}
/-- x(e, ..) -/
theorem pe_callG (F : FnG X.prog X.w X.K X.mg X.base CX k f fd ps sp) (gu : X.A.guards = some []) (hr : Room k X.A) (hg : Gl X x) (hm : X.mg x = some (.ref f)) (hk : PySem.W.keepIn X.K (.ref f) = true) (hb : Binds X.K fd ps []) (hx : Passes CX X E) (ha : PA X (e :: es) t) (hdb : (x == ("__debug__" : Str)) = false := by decide)
    (he : starEach (e :: es) X.env = (false, eval e X.env) :: starEach es X.env := by rfl) (hpl : (backTo pos (starEach es X.env)).any (·.1) = false := by rfl) : PE X (.Call (.Name x p) (e :: es) [] pos) (tCall sp [] E t) := by
  refine ⟨fun pins s σ H Q I h => wpAny_Call_Name_kw (ld_glob I hg hm (PySem.W.callWith_K (h₀ := X.base) I.ok.mod.kin hk (thn (ha.run pos pins s σ H _ I h) fun us s1 ⟨vs, H1, I1, r, q⟩ => ⟨I1.kIn, ?_⟩) he hpl) hdb)⟩
  have q' : sp vs H1 Q E := by
    have z : sp (vs ++ []) H1 Q E := q
    rw [List.append_nil] at z
    exact z
  have hl : us.length = ps.length := by rw [← r.length]; exact F.len _ _ _ _ q'
  have b := hb s1 us I1.kIn (by rw [List.append_nil]; exact hl)
  rw [List.append_nil] at b
  refine wpAny_call (codeAny_mono (F.run X.A X.stack s1 H1 ⟨us, []⟩ us vs Q E gu hr I1.env0 b r q') fun r s' hq => ?_)
  cases r with
  | error e => exact hx pins σ H1 s1 e s' I1 hq
  | ok fl =>
    cases fl with
    | ret u => exact I1.after hq
    | next => exact False.elim hq
    | brk => exact False.elim hq
    | cont => exact False.elim hq
end
section
variable {P : Program} {w : World} {K : PySem.W.Frag} {mg : Str → Option Value} {base : Heap}
/-- a body's walk to such a promise -/
theorem okG {x qual : Str} {st : Stmt} {f : Addr} {fd : FuncData} {N ps : List Str} {k : Nat} {sp : Sp} (F : Fun K x qual st f fd) (S : FnScope N ps (defScope st)) (len : ∀ vs H Q E, sp vs H Q E → vs.length = ps.length)
    (hbody : ∀ (cdv : Value) (A : Around) (outer : List Env) (s : Shared) (H : Hp) (vs : List V) (Q : VK) (E : XK), (A.deeper (envOfC qual (defScope st) s.heap.objs.size f cdv)).guards = some [] → Room k (A.deeper (envOfC qual (defScope st) s.heap.objs.size f cdv)) → sp vs H Q E →
      ∃ t, PSs (cxOf CX0 P w K mg base N qual (defScope st) f cdv A outer s H E).nox (defBody st) t ∧ t { nx := fun _ H' => Q .non H', rt := Q } (start N vs) H) : FnG P w K mg base CX0 (k + 1) f fd ps sp := by
  obtain ⟨oc, od, kV, doc, pm, an, cdv, ct, osl, rfl, lk, hcd⟩ := F.ex
  refine ⟨len, fun A outer s H args us vs Q E hgu hr e0 hb r hsp => ?_⟩
  have dg : ∀ env, (A.deeper env).guards = some [] := fun env => by
    unfold Around.deeper
    rw [← hgu]
  refine StX.run_bnd lk hcd S hr e0 (G := fun xs H2 => xs = vs ∧ H2 = H) (fun A' Ex Q' h => hb _ _ _ _ (h s H vs us e0 (Un.kept fun _ _ z => z) rfl (fun _ _ z => z) r (len _ _ _ _ hsp) ⟨rfl, rfl⟩)) fun s2 H2 xs ⟨e1, e2⟩ hr' => ?_
  subst e1 e2
  obtain ⟨t, h, q⟩ := hbody cdv A outer s2 _ _ Q E (dg _) hr' hsp
  exact ⟨t, h.nox, q⟩
end
section
variable {X : Cx}
def rRepr (K : PySem.W.Frag) : List V → Hp → VK → Prop := fun xs H Q => ∃ v d, xs = [v] ∧ Dp K H v d ∧ d.showable = true ∧ d.hasDict = false ∧ d.depth ≤ 8 ∧ d.shown.length ≤ sizeLine ∧ Q (.str d.shown) H
theorem call_repr (gu : X.A.guards = some []) (hu : X.A.units + 64 < cLine) : CallR X (.builtin "repr") (rRepr X.K) := by
  intro pins s σ H xs us Q I r h
  obtain ⟨v, d, rfl, hv, hs, hnd, hdp, hz, q⟩ := h
  obtain ⟨u, rfl, ru⟩ : ∃ u, us = [u] ∧ RelV v u := by
    cases r with
    | cons a b => cases b; exact ⟨_, rfl, a⟩
  have fin : ∀ h' t tk, (∀ b o, s.heap.get? b = some o → h'.get? b = some o) → EP X pins σ Q (.str d.shown t) { s with heap := h', toks := tk } := fun h' t tk hk => ⟨.str d.shown, H, I.kept hk, ⟨t, rfl⟩, q⟩
  have dat : ∀ a, u = .ref a → wpAny (model X.prog X.w) X.A (call (.builtin "repr") [u]) (EP X pins σ Q) X.xe s := fun a e => by
    obtain ⟨as, rd⟩ := Dp.reads I d v u hv ru
    subst e
    exact repr_of_reads' rd hs (PyData.noDict_hsm hnd) gu (by omega) (fun _ _ z => z) fin hz
  cases hv with
  | non =>
    obtain rfl : u = Value.none := ru
    exact PySem.P.repr_of_none (fin _ _ _ fun _ _ z => z)
  | bl b =>
    obtain rfl : u = Value.bool b := ru
    exact PySem.P.repr_of_bool (fin _ _ _ fun _ _ z => z)
  | int i =>
    obtain ⟨t, rfl⟩ := ru
    exact PySem.P.repr_of_int (of_decide_eq_true hs) (fin _ _ _ fun _ _ z => z)
  | str x =>
    obtain ⟨t, rfl⟩ := ru
    exact PySem.P.repr_of_str (fin _ _ _ fun _ _ z => z) hz
  | @lst a _ _ _ _ => exact dat a ru
  | @tup a _ _ _ _ => exact dat a ru
end
end RP


set_option Elab.async false
set_option linter.all false
set_option maxRecDepth 100000
set_option maxHeartbeats 4000000
/-! what Program's init refuses -/
namespace RX
open PySem L2 PG OW EXC
theorem fr_of {H H1 : Hp} {d : Addr} (s : Same H H1) (n : H1 d = none) : H d = none := by
  cases z : H d with
  | none => rfl
  | some o => rw [s _ _ z] at n; cases n
/-- an error of the class at C with the field f is raised, all that stood stands -/
def RsF (f : Str) (E : XK) (C : Addr) (v : V) (H : Hp) : Prop := ∀ (d : Addr) (H' : Hp), H d = none → Same H H' → H' d = some (.xd [(f, v)]) → E (.ref C) (some d) H'
theorem RsF.same {f : Str} {E : XK} {C : Addr} {v : V} {H H1 : Hp} (h : RsF f E C v H) (s : Same H H1) : RsF f E C v H1 := fun d H' nd s' hd => h d H' (fr_of s nd) (s.trans s') hd
theorem RsF.now {f : Str} {E : XK} {C : Addr} {v : V} {H : Hp} (h : RsF f E C v H) : ∀ d, H d = none → E (.ref C) (some d) (upd H d (.xd [(f, v)])) := fun d nd => h d _ nd (sm nd) upd_same
theorem pass {X : Cx} {E : XK} (tk : Takes X (fun cls d _ H => E cls d H)) : Passes (L2.CX X.prog X.w) X E := passes_call tk fun _ _ _ _ h => h
structure HalfP (ls : List Lk) : Prop where
  n1 : 1 ≤ ls.length
  n2 : ls.length ≤ 40
  sm : (plc ls).length < 64
  nd : (keysL ls).Nodup
  wd : ∀ l ∈ ls, isWord l.1 = true ∧ isWord l.2.1 = true ∧ isWord l.2.2 = true
/-- no ways -/
def WBad (K : PySem.W.Frag) (H : Hp) (v : V) : Prop := (∃ (a : Addr) (kvs : List (Key × V)) (bs : List Bool), v = .ref a ∧ H a = some (.dK kvs) ∧ kvs.length ≤ 1000 ∧ Paired (ItemIs K H) kvs bs ∧ (decide (1 ≤ kvs.length) && (decide (kvs.length ≤ 40) && bs.all id)) = false) ∨ (∃ t, TyX K H v t ∧ PySem.W.kitOne K t (.type "dict") = some false)
/-- no exits -/
def XBad (K : PySem.W.Frag) (ws : List Str) (H : Hp) (v : V) : Prop := (∃ (l : Addr) (xs : List V) (bs : List Bool), v = .ref l ∧ H l = some (.lst xs) ∧ xs.length < 1000 ∧ Paired (AmIs K H ws) xs bs ∧ (!xs.isEmpty && (bs.all id && decide (txs xs).Nodup)) = false) ∨ (∃ t, TyX K H v t ∧ PySem.W.kitOne K t (.type "list") = some false)
theorem XBad.same {K : PySem.W.Frag} {ws : List Str} {H H' : Hp} {v : V} (h : XBad K ws H v) (s : Same H H') : XBad K ws H' v := by
  rcases h with ⟨l, xs, bs, e, hl, n, p, z⟩ | ⟨t, h, k⟩
  · exact .inl ⟨l, xs, bs, e, s _ _ hl, n, Paired.imp (fun _ _ q => q.same s) p, z⟩
  · exact .inr ⟨t, TyX.same h s, k⟩
theorem rch_few {ps : List Str} {prs : List (Str × Str)} {fs qs : List Str} (n : fs.Nodup) (h : ∀ x, x ∈ fs ↔ Rch ps prs x) (s : ∀ x ∈ fs, x ∈ qs) {y : Str} (my : y ∈ qs) (ny : ¬ Rch ps prs y) : (fs.length : Int) < (qs.length : Int) := by
  have z := nodup_le (xs := y :: fs) (ys := qs) (List.nodup_cons.mpr ⟨fun m => ny ((h y).mp m), n⟩) fun x hx => by
    rcases List.mem_cons.mp hx with e | e
    · rw [e]; exact my
    · exact s x e
  rw [List.length_cons] at z
  omega
def sxInit (K : PySem.W.Frag) (CR : Addr) : Sp := fun vs H _ E => ∃ x v bv ev : V, vs = [x, v, bv, ev] ∧
  ((WBad K H v ∧ RsF "part" E CR (.str "ways") H) ∨ ∃ (a : Addr) (kvs : List (Key × V)) (ls : List Lk), v = .ref a ∧ H a = some (.dK kvs) ∧ Lks K H kvs ls ∧ HalfP ls ∧
  ((AmIs K H (plc ls) bv false ∧ RsF "part" E CR (.str "begin") H) ∨ ∃ b, bv = .str b ∧ b ∈ ends ls ∧
  ((XBad K (plc ls) H ev ∧ RsF "part" E CR (.str "exits") H) ∨ ∃ (e : Addr) (es : List Str), ev = .ref e ∧ H e = some (.lst (es.map V.str)) ∧ es ≠ [] ∧ (∀ x ∈ es, x ∈ ends ls) ∧ es.Nodup ∧
  (((∃ y ∈ ends ls, ¬ Rch [b] (ls.map (·.2)) y) ∧ RsF "part" E CR (.str "reach") H) ∨
  ((∀ y ∈ ends ls, Rch [b] (ls.map (·.2)) y) ∧ (∃ y ∈ ends ls, ¬ Rch es (ls.map fun l => (l.2.2, l.2.1)) y) ∧ RsF "part" E CR (.str "leave") H)))))
section
variable {P : Program} {w : World} {K : PySem.W.Frag} {mg : Str → Option Value} {base : Heap}
theorem xx_init {f C CR fIR fA fW fE fR : Addr} {fd fdA fdW fdE fdR : FuncData} (Fi : Fun K "__init__" "Program.__init__" sInit f fd) (T : PT0 mg) (TP : ErrT K mg "BadProgram" "part" CR fIR) (Td : PTd K mg fA fW fE fR fdA fdW fdE fdR)
    (FA : Fun K "is_among" "is_among" sAmong fA fdA) (FW : Fun K "are_ways" "are_ways" sWays fW fdW) (FE : Fun K "are_exits" "are_exits" sExits fE fdE) (FR : Fun K "reached_from" "reached_from" sReach fR fdR)
    (GA : FnOk P w K mg base CX0 1 fA fdA ["value", "words"] (spAmong K)) (GW : FnOk P w K mg base CX0 3 fW fdW ["value"] (spWays K)) (GE : FnOk P w K mg base CX0 2 fE fdE ["value", "places"] (spExits K)) (GR : FnOk P w K mg base CX0 1 fR fdR ["places", "pairs"] (spReach K)) :
    FnOk P w K mg base (L2.CX P w) 4 f fd ["self", "ways", "begin", "exits"] (sxInit K CR) := by
  refine Fi.okX scInit (fun vs H Q E h => ?_) (fun cdv A outer s H vs Q E hr h => ?_)
  · obtain ⟨x, v, bv, ev, rfl, _⟩ := h
    rfl
  · obtain ⟨x, v, bv, ev, rfl, h⟩ := h
    have nd := scInit.nd
    have hr1 : Room 1 _ := hr.mono (by decide)
    have hr2 : Room 2 _ := hr.mono (by decide)
    have hu := hu_of hr
    refine ⟨_, pss_cons (ps_if (pt_not (pt_val (pe_call GW hr (by rfl) Td.gW FW.kp Td.bW .nil pass0 (pa_cons (pv 1) pa_nil)))) (pss_one (ps_raise rfl (takes_of rfl rfl rfl rfl) (pmk_err TP hr pe_str (by rfl)))) pss_nil)
      (pss_cons (ps_set (i := 4) nd rfl (Or.inr rfl) (pe_dc (own := [("way", 6)]) (g := gName 6) (tt := tYes) rfl nd (pi_list (pe_callB (call_sortedD rfl) (by rfl) T.sorted PyProof.Rows.boot_sorted (pa_cons (pv 1) pa_nil))) (blkOk_by (own := [("way", 6)]) (N := nsInit) (sc := defScope sInit) (by decide +kernel))
        (fun _ _ _ _ _ => pg_name (i := 6) nd rfl (Or.inl rfl)) (fun _ _ _ _ _ => pts_nil) (fun _ _ _ _ _ => pv 6)
        (fun _ _ _ _ _ => pe_tup (pa_cons (pe_ix (show IxR _ (rIxT K) from ix_tup) (pe_dget hu (pv 1) (pv 6) (fun _ _ => rfl)) pe_int (fun _ _ => rfl)) (pa_cons (pe_ix (show IxR _ (rIxT K) from ix_tup) (pe_dget hu (pv 1) (pv 6) (fun _ _ => rfl)) pe_int (fun _ _ => rfl)) pa_nil)))))
      (pss_cons (ps_set (i := 5) nd rfl (Or.inl rfl) (pe_callB (STX.cr_sortedTx rfl) (by rfl) T.sorted PyProof.Rows.boot_sorted (pa_cons (pe_lock (STX.pe_sc2 (own := [("way", 6), ("place", 7)]) (vs1 := [7]) (wi1 := iTup K _) (g := gName 6) (tt := tYes) (g1 := gName 7) (tt1 := tYes) rfl nd (pi_keys (pv 4)) (blkOk_by (own := [("way", 6), ("place", 7)]) (N := nsInit) (sc := defScope sInit) (by decide +kernel)) (by decide)
        (fun _ _ _ _ _ => pg_name (i := 6) nd rfl (Or.inl rfl)) (fun _ _ _ _ _ => pts_nil) (fun _ _ _ _ _ => pi_tup (pe_dget hu (pv 4) (pv 6) (fun _ _ => rfl))) (fun _ _ _ _ _ => pg_name (i := 7) nd rfl (Or.inl rfl)) (fun _ _ _ _ _ => pts_nil) (fun _ _ _ _ _ => pv 7))) pa_nil)))
      (pss_cons (ps_if (pt_not (pt_val (pe_call GA hr1 (by rfl) Td.gA FA.kp Td.bA .nil pass0 (pa_cons (pv 2) (pa_cons (pv 5) pa_nil))))) (pss_one (ps_raise rfl (takes_of rfl rfl rfl rfl) (pmk_err TP hr pe_str (by rfl)))) pss_nil)
      (pss_cons (ps_if (pt_not (pt_val (pe_call GE hr2 (by rfl) Td.gE FE.kp Td.bE .nil pass0 (pa_cons (pv 3) (pa_cons (pv 5) pa_nil))))) (pss_one (ps_raise rfl (takes_of rfl rfl rfl rfl) (pmk_err TP hr pe_str (by rfl)))) pss_nil)
      (pss_cons (ps_if (pt_cmpR op_lt (pe_callB call_len_seq (by rfl) T.len PySem.boot_len (pa_cons (pe_call GR hr1 (by rfl) Td.gR FR.kp Td.bR .nil pass0 (pa_cons (pe_lst (pa_cons (pv 2) pa_nil)) (pa_cons (pe_lock (pe_lc (own := [("way", 6)]) (g := gName 6) (tt := tYes) rfl nd (pi_keys (pv 4)) (blkOk_by (own := [("way", 6)]) (N := nsInit) (sc := defScope sInit) (by decide +kernel))
          (fun _ _ _ _ _ => pg_name (i := 6) nd rfl (Or.inl rfl)) (fun _ _ _ _ _ => pts_nil) (fun _ _ _ _ _ => pe_dget hu (pv 4) (pv 6) (fun _ _ => rfl)))) pa_nil))) pa_nil)) (pe_callB call_len_seq (by rfl) T.len PySem.boot_len (pa_cons (pv 5) pa_nil)) (nomark _)) (pss_one (ps_raise rfl (takes_of rfl rfl rfl rfl) (pmk_err TP hr pe_str (by rfl)))) pss_nil)
      (pss_cons (ps_if (pt_cmpR op_lt (pe_callB call_len_seq (by rfl) T.len PySem.boot_len (pa_cons (pe_call GR hr1 (by rfl) Td.gR FR.kp Td.bR .nil pass0 (pa_cons (pv 3) (pa_cons (pe_lock (pe_lc (own := [("way", 6)]) (g := gName 6) (tt := tYes) rfl nd (pi_keys (pv 4)) (blkOk_by (own := [("way", 6)]) (N := nsInit) (sc := defScope sInit) (by decide +kernel))
          (fun _ _ _ _ _ => pg_name (i := 6) nd rfl (Or.inl rfl)) (fun _ _ _ _ _ => pts_nil) (fun _ _ _ _ _ => pe_tup (pa_cons (pe_ix (show IxR _ (rIxT K) from ix_tup) (pe_dget hu (pv 4) (pv 6) (fun _ _ => rfl)) pe_int (fun _ _ => rfl)) (pa_cons (pe_ix (show IxR _ (rIxT K) from ix_tup) (pe_dget hu (pv 4) (pv 6) (fun _ _ => rfl)) pe_int (fun _ _ => rfl)) pa_nil))))) pa_nil))) pa_nil)) (pe_callB call_len_seq (by rfl) T.len PySem.boot_len (pa_cons (pv 5) pa_nil)) (nomark _)) (pss_one (ps_raise rfl (takes_of rfl rfl rfl rfl) (pmk_err TP hr pe_str (by rfl)))) pss_nil)
      pss_dead)))))), ?_⟩
    rcases h with ⟨bad, rs⟩ | ⟨a, kvs, ls, rfl, ha, hL, Gd, h⟩
    · rcases bad with ⟨a, kvs, bs, rfl, ha, n, pi, z⟩ | ⟨t, ht, hk⟩
      · refine ⟨_, rfl, .ref a, rfl, .inl ⟨a, kvs, bs, rfl, ha, n, pi, fun H1 s1 => ⟨_, rfl, ?_⟩⟩⟩
        rw [z]
        exact iteT (rs.same s1).now
      · exact ⟨_, rfl, v, rfl, .inr ⟨t, ht, hk, _, rfl, iteT rs.now⟩⟩
    have lkv : kvs.length = ls.length := Paired.length hL
    refine ⟨_, rfl, .ref a, rfl, .inl ⟨a, kvs, _, rfl, ha, by have := Gd.n2; omega, lks_items hL Gd.wd, fun H1 s1 => ⟨_, rfl, ?_⟩⟩⟩
    rw [all_true, lkv, decide_eq_true Gd.n1, decide_eq_true Gd.n2]
    refine iteNF ?_
    refine ⟨_, rfl, a, kvs, keysL ls, rfl, .inl (s1 _ _ ha), lks_keys hL, by have z : (keysL ls).length = ls.length := List.length_map _; have := Gd.n2; omega, fun ys p0 perm sr np0 => ?_⟩
    obtain rfl := srt_of perm sr
    refine ⟨p0, rfl, ⟨_, SqL.of upd_same⟩, fun L nL => dc_it walk_list (fun i H' => Same (upd H1 p0 (.lst ((srt (keysL ls)).map V.str))) H' ∧ ∃ kv2, H' L = some (.dK kv2) ∧ Lks K H' kv2 ((srtL ls).take i)) ⟨sm nL, [], upd_same, .nil⟩ (fun i H' _ p => SqL.of (p.1 _ _ upd_same)) ?_ ?_⟩
    · rintro i v H2 H3 hi ⟨s2, kv2, h2, l2⟩ ⟨rfl, hv⟩
      rw [List.getElem?_map] at hv
      obtain ⟨wy, hw, rfl⟩ : ∃ wy, (srt (keysL ls))[i]? = some wy ∧ v = .str wy := by
        cases e : (srt (keysL ls))[i]? with
        | none => rw [e] at hv; cases hv
        | some wy => rw [e] at hv; exact ⟨wy, rfl, (Option.some.inj hv).symm⟩
      have mw : wy ∈ keysL ls := srt_mem.mp (List.mem_of_getElem? hw)
      obtain ⟨t, hvl, ht⟩ := lks_val hL mw
      have s13 : Same H H3 := fun b o e => s2 _ _ (sm np0 _ _ (s1 b o e))
      have hg : DGet H3 a (.str wy) (some (.ref t)) := by
        rw [← hvl]
        exact .inl ⟨kvs, Sum.inr wy, .inl (s13 _ _ ha), rfl, rfl⟩
      have hl3 : (srtL ls)[i]? = some (wy, lkp ls wy) := by
        unfold srtL
        rw [List.getElem?_map, hw]
        rfl
      refine ⟨rfl, ?_⟩
      unfold tYes
      dsimp only
      rw [if_pos rfl]
      refine ⟨_, rfl, _, rfl, _, rfl, a, .ref t, rfl, hg, t, _, _, _, rfl, rfl, sqT_same ht s13, atI_nat (j := 0) rfl, _, rfl, _, rfl, a, .ref t, rfl, hg, t, _, _, _, rfl, rfl, sqT_same ht s13, atI_nat (j := 1) rfl, by show 2 ≤ sizeLine; decide, fun q nq => ?_⟩
      have nLq : L ≠ q := ne_of_none h2 nq
      have lkv2 : kv2.length = ((srtL ls).take i).length := Paired.length l2
      have fresh : valV kv2 (Sum.inr wy : Key) = none := by
        refine lks_none l2 fun m => ?_
        have nd2 := srtL_nodup Gd.nd
        obtain ⟨l0, hl0, e0⟩ := List.mem_map.mp m
        obtain ⟨j, hj, ej⟩ := List.getElem_of_mem hl0
        rw [List.length_take] at hj
        have hi2 : i < (srtL ls).length := (List.getElem?_eq_some_iff.mp hl3).1
        have q1 : (keysL (srtL ls))[j]? = some wy := by
          unfold keysL
          rw [List.getElem?_map, List.getElem?_eq_getElem (by omega)]
          rw [List.getElem_take] at ej
          rw [ej]
          exact congrArg some e0
        have q2 : (keysL (srtL ls))[i]? = some wy := by
          unfold keysL
          rw [List.getElem?_map, hl3]
          rfl
        have q3 := (List.getElem?_inj (by have := (List.getElem?_eq_some_iff.mp q1).1; exact this) nd2).mp (q1.trans q2.symm)
        omega
      refine ⟨kv2, Sum.inr wy, rfl, by rw [upd_ne nLq]; exact h2, ?_, ?_⟩
      · rw [lkv2]
        refine small1000 (Nat.le_trans (List.length_take_le' i _) ?_)
        rw [srtL_len]
        have := Gd.n2
        omega
      · refine ⟨fun b o eb => ?_, _, upd_same, ?_⟩
        · rw [upd_ne (ne_of_none eb nL), upd_ne (ne_of_none (s2 _ _ eb) nq)]
          exact s2 _ _ eb
        · rw [putK_new _ fresh, List.take_add_one, hl3]
          have hd3 : (upd H3 q (.tup [.str (lkp ls wy).1, .str (lkp ls wy).2])) L = some (.dK kv2) := by rw [upd_ne nLq]; exact h2
          refine paired_snoc (Paired.imp (fun _ _ z => ⟨z.1, two_dk hd3 (z.2.same (sm nq))⟩) l2) ⟨rfl, two_dk hd3 ⟨q, rfl, SqT.of upd_same⟩⟩
    · rintro H2 ⟨s2, kvL, hL2, lL⟩
      have nd2 := srtL_nodup Gd.nd
      have n40 : (srtL ls).length ≤ 40 := by rw [srtL_len]; exact Gd.n2
      rw [show ((srt (keysL ls)).map V.str).length = (srtL ls).length by rw [List.length_map, srtL_len, srt_len]; exact List.length_map _, List.take_length] at lL
      have s02 : Same H H2 := fun b o e => s2 _ _ (sm np0 _ _ (s1 b o e))
      refine ⟨L, .dK kvL, hL2, trivial, fun od => ⟨_, rfl, L, od, rfl, .inl ⟨kvL, upd_same, fun D nD => rd_ends (P := P) (w := w) upd_same (Lks.lock lL hL2) nd2 n40 nD fun H3 s3 hD3 => ⟨s3 _ _ upd_same, D, STX.insAll (ends (srtL ls)) [], rfl, ?_, ?_, fun ys S perm2 sr2 nS => ?_⟩⟩⟩⟩
      · have nDL : D ≠ L := fun z => by rw [z, upd_same] at nD; cases nD
        rw [upd_ne nDL]
        exact hD3
      · have z := Gd.sm
        rw [← plc_srtL Gd.nd] at z
        unfold plc at z
        rw [srt_len] at z
        exact z
      · have ey : ys = plc ls := by
          rw [← plc_srtL Gd.nd]
          exact srt_of perm2 sr2
        subst ey
        have s24 : Same H2 (upd H3 L (.dK kvL)) := unlock hL2 s3
        generalize upd H3 L (.dK kvL) = H4 at nS s24
        have s45 : Same H4 (upd H4 S (.lst ((plc ls).map V.str))) := sm nS
        have hS5 : (upd H4 S (.lst ((plc ls).map V.str))) S = some (.lst ((plc ls).map V.str)) := upd_same
        generalize upd H4 S (.lst ((plc ls).map V.str)) = H5 at s45 hS5
        have s05 : Same H H5 := fun b o e => s45 _ _ (s24 _ _ (s02 _ _ e))
        have hL5 : H5 L = some (.dK kvL) := s45 _ _ (s24 _ _ hL2)
        have lL5 : Lks K H5 kvL (srtL ls) := (lL.same s24).same s45
        rcases h with ⟨am, rs⟩ | ⟨b, rfl, hb, h⟩
        · rcases am with ⟨y, rfl, ef⟩ | ⟨t, ht, hk, _⟩
          · refine ⟨_, rfl, _, rfl, .str y, S, rfl, .inl ⟨y, plc ls, rfl, SqL.of hS5, _, rfl, ?_⟩⟩
            rw [← ef]
            exact iteT (rs.same s05).now
          · exact ⟨_, rfl, _, rfl, bv, S, rfl, .inr (.inr ⟨t, TyX.same ht s05, hk, _, rfl, iteT (rs.same s05).now⟩)⟩
        refine ⟨_, rfl, _, rfl, .str b, S, rfl, .inl ⟨b, plc ls, rfl, SqL.of hS5, _, rfl, ?_⟩⟩
        rw [decide_eq_true (plc_mem.mpr hb)]
        refine iteNF ?_
        rcases h with ⟨xb, rs⟩ | ⟨e, es, rfl, he, ne, hs, hn, h⟩
        · rcases xb.same s05 with ⟨l, xs, bs, rfl, hl, n, pa, z⟩ | ⟨t, ht, hk⟩
          · refine ⟨_, rfl, _, rfl, .ref l, S, plc ls, rfl, SqL.of hS5, .inl ⟨l, xs, bs, rfl, hl, n, pa, fun H6 s6 => ⟨_, rfl, ?_⟩⟩⟩
            rw [z]
            exact iteT (rs.same (s05.trans s6)).now
          · exact ⟨_, rfl, _, rfl, ev, S, plc ls, rfl, SqL.of hS5, .inr ⟨t, ht, hk, _, rfl, iteT (rs.same s05).now⟩⟩
        have lE : es.length < 1000 := by
          have z := nodup_le hn fun x hx => plc_mem.mpr (hs x hx)
          have := Gd.sm
          omega
        refine ⟨_, rfl, _, rfl, .ref e, S, plc ls, rfl, SqL.of hS5, .inl ⟨e, _, _, rfl, s05 _ _ he, by rw [List.length_map]; exact lE, am_all fun x hx => plc_mem.mpr (hs x hx), fun H6 s6 => ⟨_, rfl, ?_⟩⟩⟩
        have e0 : (es.map V.str).isEmpty = false := by
          cases q : es with
          | nil => exact absurd q ne
          | cons _ _ => rfl
        rw [e0, all_true, txs_map, decide_eq_true hn]
        refine iteNF ?_
        have hL6 := s6 _ _ hL5
        have lL6 := lL5.same s6
        have hS6 := s6 _ _ hS5
        have s06 : Same H H6 := s05.trans s6
        refine ⟨_, rfl, by show 1 ≤ sizeLine; decide, fun l0 nl0 => ⟨L, .dK kvL, sm nl0 _ _ hL6, trivial, fun od => ⟨_, rfl, L, od, rfl, .inl ⟨kvL, upd_same, fun D nD => rd_pairs upd_same (Lks.lock (lL6.same (sm nl0)) (sm nl0 _ _ hL6)) nd2 n40 nD fun H7 ts s7 hD7 r7 => ⟨s7 _ _ upd_same, l0, D, [b], ts, _, rfl, ?_, ?_, Paired.imp (fun _ _ z => two_frz (s7 _ _ upd_same) z) r7, List.nodup_cons.mpr ⟨List.not_mem_nil, List.nodup_nil⟩, ?_, fun p fs H8 np nf mf s8 h8 => ?_⟩⟩⟩⟩⟩
        · exact SqL.of (unlock (sm nl0 _ _ hL6) s7 _ _ upd_same)
        · have nDL : D ≠ L := fun z => by rw [z, upd_same] at nD; cases nD
          exact SqL.of (by rw [upd_ne nDL]; exact hD7)
        · rw [List.length_map]
          show 1 + _ ≤ 500
          omega
        · have s68 : Same H6 H8 := fun q o z => s8 _ _ (unlock (sm nl0 _ _ hL6) s7 _ _ (sm nl0 _ _ z))
          have hL8 := s68 _ _ hL6
          have lL8 := lL6.same s68
          have hS8 := s68 _ _ hS6
          have s08 : Same H H8 := s06.trans s68
          refine ⟨p, _, rfl, .inl (SqL.of h8), _, rfl, S, _, rfl, .inl (SqL.of hS8), _, _, rfl, rfl, _, rfl, ?_⟩
          rw [List.length_map, List.length_map]
          have sub1 : ∀ x ∈ fs, x ∈ plc ls := fun x hx => by
            have r := ((mf x).mp hx).mem
            refine plc_mem.mpr ?_
            rcases List.mem_append.mp r with z | z
            · rw [List.mem_singleton.mp z]; exact hb
            · obtain ⟨pr, hp, rfl⟩ := List.mem_map.mp z
              obtain ⟨l, hl, rfl⟩ := List.mem_map.mp hp
              exact ends_mem.mpr ⟨l, (srtL_mem Gd.nd).mp hl, .inr rfl⟩
          rcases h with ⟨⟨y, my, ny⟩, rs⟩ | ⟨reach, ⟨y, my, ny⟩, rs⟩
          · rw [decide_eq_true (rch_few nf mf sub1 (plc_mem.mpr my) fun z => ny (z.mono (fun _ z => z) fun pr hp => by
              obtain ⟨l, hl, rfl⟩ := List.mem_map.mp hp
              exact List.mem_map.mpr ⟨l, (srtL_mem Gd.nd).mp hl, rfl⟩))]
            exact iteT (rs.same s08).now
          have c1 : decide ((fs.length : Int) < ((plc ls).length : Int)) = false := decide_eq_false (rch_len (plc_nodup ls) mf fun x hx => (reach x (plc_mem.mp hx)).mono (fun _ z => z) fun pr hp => by
            obtain ⟨l, hl, rfl⟩ := List.mem_map.mp hp
            exact List.mem_map.mpr ⟨l, (srtL_mem Gd.nd).mpr hl, rfl⟩)
          rw [c1]
          refine iteF ?_
          refine ⟨_, rfl, L, .dK kvL, hL8, trivial, fun od => ⟨_, rfl, L, od, rfl, .inl ⟨kvL, upd_same, fun D2 nD2 => rd_backs upd_same (Lks.lock lL8 hL8) nd2 n40 nD2 fun H9 ts s9 hD9 r9 => ⟨s9 _ _ upd_same, e, D2, es, ts, _, rfl, ?_, ?_, Paired.imp (fun _ _ z => two_frz (s9 _ _ upd_same) z) r9, hn, ?_, fun p2 fs2 H10 np2 nf2 mf2 s10 h10 => ?_⟩⟩⟩⟩
          · exact SqL.of (unlock hL8 s9 _ _ (s08 _ _ he))
          · have nDL : D2 ≠ L := fun z => by rw [z, upd_same] at nD2; cases nD2
            exact SqL.of (by rw [upd_ne nDL]; exact hD9)
          · rw [List.length_map]
            have z := nodup_le hn fun x hx => plc_mem.mpr (hs x hx)
            have := Gd.sm
            omega
          · have s8' : Same H8 H10 := fun q o z => s10 _ _ (unlock hL8 s9 _ _ z)
            have hLa := s8' _ _ hL8
            have lLa := lL8.same s8'
            have hSa := s8' _ _ hS8
            have s0a : Same H H10 := s08.trans s8'
            refine ⟨p2, _, rfl, .inl (SqL.of h10), _, rfl, S, _, rfl, .inl (SqL.of hSa), _, _, rfl, rfl, _, rfl, ?_⟩
            rw [List.length_map, List.length_map]
            have sub2 : ∀ x ∈ fs2, x ∈ plc ls := fun x hx => by
              have r := ((mf2 x).mp hx).mem
              refine plc_mem.mpr ?_
              rcases List.mem_append.mp r with z | z
              · exact hs x z
              · obtain ⟨pr, hp, rfl⟩ := List.mem_map.mp z
                obtain ⟨l, hl, rfl⟩ := List.mem_map.mp hp
                exact ends_mem.mpr ⟨l, (srtL_mem Gd.nd).mp hl, .inl rfl⟩
            rw [decide_eq_true (rch_few nf2 mf2 sub2 (plc_mem.mpr my) fun z => ny (z.mono (fun _ z => z) fun pr hp => by
              obtain ⟨l, hl, rfl⟩ := List.mem_map.mp hp
              exact List.mem_map.mpr ⟨l, (srtL_mem Gd.nd).mp hl, rfl⟩))]
            exact iteT (rs.same s0a).now
end
/-- what is refused, and the first wrong part -/
inductive InitBad (K : PySem.W.Frag) (H : Hp) : V → V → V → Str → Prop where
  | ways {v bv ev : V} (h : WBad K H v) : InitBad K H v bv ev "ways"
  | bg {a : Addr} {kvs : List (Key × V)} {ls : List Lk} {bv ev : V} (ha : H a = some (.dK kvs)) (hL : Lks K H kvs ls) (hf : HalfP ls) (h : AmIs K H (plc ls) bv false) : InitBad K H (.ref a) bv ev "begin"
  | ex {a : Addr} {kvs : List (Key × V)} {ls : List Lk} {b : Str} {ev : V} (ha : H a = some (.dK kvs)) (hL : Lks K H kvs ls) (hf : HalfP ls) (hb : b ∈ ends ls) (h : XBad K (plc ls) H ev) : InitBad K H (.ref a) (.str b) ev "exits"
  | rc {a : Addr} {kvs : List (Key × V)} {ls : List Lk} {b : Str} {e : Addr} {es : List Str} (ha : H a = some (.dK kvs)) (hL : Lks K H kvs ls) (hf : HalfP ls) (hb : b ∈ ends ls) (he : H e = some (.lst (es.map V.str))) (h0 : es ≠ []) (hs : ∀ x ∈ es, x ∈ ends ls) (hn : es.Nodup)
      (h : ∃ y ∈ ends ls, ¬ Rch [b] (ls.map (·.2)) y) : InitBad K H (.ref a) (.str b) (.ref e) "reach"
  | lv {a : Addr} {kvs : List (Key × V)} {ls : List Lk} {b : Str} {e : Addr} {es : List Str} (ha : H a = some (.dK kvs)) (hL : Lks K H kvs ls) (hf : HalfP ls) (hb : b ∈ ends ls) (he : H e = some (.lst (es.map V.str))) (h0 : es ≠ []) (hs : ∀ x ∈ es, x ∈ ends ls) (hn : es.Nodup)
      (h1 : ∀ y ∈ ends ls, Rch [b] (ls.map (·.2)) y) (h : ∃ y ∈ ends ls, ¬ Rch es (ls.map fun l => (l.2.2, l.2.1)) y) : InitBad K H (.ref a) (.str b) (.ref e) "leave"
theorem ItemIs.same {K : PySem.W.Frag} {H H' : Hp} {kv : Key × V} {b : Bool} (h : ItemIs K H kv b) (s : Same H H') : ItemIs K H' kv b := by
  obtain ⟨c, i1, i2, e⟩ := h
  exact ⟨c, i1.same s, i2.same s, e⟩
theorem WBad.same {K : PySem.W.Frag} {H H' : Hp} {v : V} (h : WBad K H v) (s : Same H H') : WBad K H' v := by
  rcases h with ⟨a, kvs, bs, e, ha, n, p, z⟩ | ⟨t, h, k⟩
  · exact .inl ⟨a, kvs, bs, e, s _ _ ha, n, Paired.imp (fun _ _ q => ItemIs.same q s) p, z⟩
  · exact .inr ⟨t, TyX.same h s, k⟩
theorem InitBad.same {K : PySem.W.Frag} {H H' : Hp} {v bv ev : V} {p : Str} (h : InitBad K H v bv ev p) (s : Same H H') : InitBad K H' v bv ev p := by
  cases h with
  | ways h => exact .ways (h.same s)
  | bg ha hL hf h => exact .bg (s _ _ ha) (hL.same s) hf (h.same s)
  | ex ha hL hf hb h => exact .ex (s _ _ ha) (hL.same s) hf hb (h.same s)
  | rc ha hL hf hb he h0 hs hn h => exact .rc (s _ _ ha) (hL.same s) hf hb (s _ _ he) h0 hs hn h
  | lv ha hL hf hb he h0 hs hn h1 h => exact .lv (s _ _ ha) (hL.same s) hf hb (s _ _ he) h0 hs hn h1 h
theorem sx_of {K : PySem.W.Frag} {CR : Addr} {H : Hp} {x v bv ev : V} {p : Str} {Q : VK} {E : XK} (h : InitBad K H v bv ev p) (rs : RsF "part" E CR (.str p) H) : sxInit K CR [x, v, bv, ev] H Q E := by
  cases h with
  | ways h => exact ⟨_, _, _, _, rfl, .inl ⟨h, rs⟩⟩
  | bg ha hL hf h => exact ⟨_, _, _, _, rfl, .inr ⟨_, _, _, rfl, ha, hL, hf, .inl ⟨h, rs⟩⟩⟩
  | ex ha hL hf hb h => exact ⟨_, _, _, _, rfl, .inr ⟨_, _, _, rfl, ha, hL, hf, .inr ⟨_, rfl, hb, .inl ⟨h, rs⟩⟩⟩⟩
  | rc ha hL hf hb he h0 hs hn h => exact ⟨_, _, _, _, rfl, .inr ⟨_, _, _, rfl, ha, hL, hf, .inr ⟨_, rfl, hb, .inr ⟨_, _, rfl, he, h0, hs, hn, .inl ⟨h, rs⟩⟩⟩⟩⟩
  | lv ha hL hf hb he h0 hs hn h1 h => exact ⟨_, _, _, _, rfl, .inr ⟨_, _, _, rfl, ha, hL, hf, .inr ⟨_, rfl, hb, .inr ⟨_, _, rfl, he, h0, hs, hn, .inr ⟨h1, h, rs⟩⟩⟩⟩⟩
end RX


set_option Elab.async false
set_option linter.all false
set_option maxRecDepth 100000
set_option maxHeartbeats 4000000
/-! an own class called inside a try; repr of an empty dict; a generator's statements that are never come to. -/
namespace L2
open PySem PySem.Spec PyProof.Rows
section
variable {X : Cx} {CX : CXT} {k : Nat} {f C : Addr} {fd : FuncData} {ps : List Str} {sp : Sp} {E : L2.St → XK} {x : Str} {p pos : Pos} {e : Expr} {es : List Expr} {t : TA}
theorem run_makeAt {pins : List (Addr × Obj)} {σ : L2.St} {H : Hp} {s : Shared} {Q : VK} {us : List Value} {vs : List V} (M : Mk X.K C f) (F : FnOk X.prog X.w X.K X.mg X.base CX k f fd ps sp) (hr : Room (k + 1) X.A) (hb : Binds X.K fd ps [])
    (hx : PassesAt CX X σ (E σ)) (I : Inv X pins σ H s) (r : Vals vs us)
    (h : ∀ x dx, H x = none → H dx = none → dx ≠ x → sp (.ref x :: vs) (upd (upd H dx (.own x)) x (.ins C dx [])) (fun v H2 => v = .non ∧ Q (.ref x) H2) (E σ)) :
    wpAny (model X.prog X.w) X.A (call (.ref C) us) (EP X pins σ Q) X.xe s := by
  have hq := h (s.heap.objs.size + 1) s.heap.objs.size (I.hok.fresh (Nat.le_succ _)) (I.hok.fresh (Nat.le_refl _)) (Nat.ne_of_lt (Nat.lt_succ_self _))
  have I2 := Inv.made (C := C) I
  have r2 : Vals (V.ref (s.heap.objs.size + 1) :: vs) (Value.ref (s.heap.objs.size + 1) :: us) := .cons rfl r
  have hl : (Value.ref (s.heap.objs.size + 1) :: us ++ []).length = ps.length := by
    have e := r2.length
    rw [F.len _ _ _ _ hq] at e
    rw [List.append_nil]
    exact e.symm
  have b := hb _ (Value.ref (s.heap.objs.size + 1) :: us) I2.kIn hl
  rw [List.append_nil] at b
  refine wpAny_call (make_map (f := f) I.kIn M.makes M.init (beq_iff_eq.mp M.fn) (codeAny_mono (F.run _ X.stack _ _ ⟨Value.ref (s.heap.objs.size + 1) :: us, []⟩ (Value.ref (s.heap.objs.size + 1) :: us) _ _ (E σ) (hr.make C us [])
    (I2.env0.make C us []) b r2 hq) fun r s' hq' => ?_))
  cases r with
  | error e => exact hx pins _ _ e s' I2 hq'
  | ok fl =>
    cases fl with
    | ret u =>
      obtain ⟨v, H', I3, rv, ev, q3⟩ := I2.after hq'
      subst ev
      exact ⟨rv, ⟨V.ref (s.heap.objs.size + 1), H', I3, rfl, q3⟩⟩
    | next => exact False.elim hq'
    | brk => exact False.elim hq'
    | cont => exact False.elim hq'
def tMakeAt (C : Addr) (sp : Sp) (E : L2.St → XK) (t : TA) : TE := fun σ H Q => t σ H fun vs H1 => ∀ x dx, H1 x = none → H1 dx = none → dx ≠ x → sp (.ref x :: vs) (upd (upd H1 dx (.own x)) x (.ins C dx [])) (fun v H2 => v = .non ∧ Q (.ref x) H2) (E σ)
theorem pe_makeAt (M : Mk X.K C f) (F : FnOk X.prog X.w X.K X.mg X.base CX k f fd ps sp) (hr : Room (k + 1) X.A) (hg : Gl X x) (hm : X.mg x = some (.ref C)) (hb : Binds X.K fd ps []) (hx : ∀ σ, PassesAt CX X σ (E σ))
    (ha : PA X (e :: es) t) (hdb : (x == ("__debug__" : Str)) = false := by decide) (he : starEach (e :: es) X.env = (false, eval e X.env) :: starEach es X.env := by rfl) (hpl : (backTo pos (starEach es X.env)).any (·.1) = false := by rfl) :
    PE X (.Call (.Name x p) (e :: es) [] pos) (tMakeAt C sp E t) := by
  refine ⟨fun pins s σ H Q I h => ?_⟩
  refine wpAny_Call_Name_kw (ld_glob I hg hm ?_ hdb)
  refine PySem.W.callWith_K (h₀ := X.base) I.ok.mod.kin M.kp (thn (ha.run pos pins s σ H _ I h) fun us s1 ⟨vs, H1, I1, r, q⟩ => ⟨I1.kIn, ?_⟩) he hpl
  exact run_makeAt M F hr hb (hx σ) I1 r q
end
section
variable {X : Cx}
theorem pt_dead {e : Expr} : PT X e (fun _ _ _ => False) := ⟨fun _ _ _ _ _ _ h => h.elim⟩
theorem pe_dead' {e : Expr} : PE X e (fun _ _ _ => False) := ⟨fun _ _ _ _ _ _ h => h.elim⟩
/-- repr({}) -/
def rReprE : List V → Hp → VK → Prop := fun xs H Q => ∃ a, xs = [.ref a] ∧ H a = some (.dK []) ∧ Q (.str "{}") H
theorem call_reprE (gu : X.A.guards = some []) (hu : X.A.units + 64 < cLine) : CallR X (.builtin "repr") rReprE := by
  intro pins s σ H xs us Q I r h
  obtain ⟨a, rfl, ha, q⟩ := h
  obtain ⟨u, rfl, ru⟩ : ∃ u, us = [u] ∧ RelV (.ref a) u := by
    cases r with
    | cons a b => cases b; exact ⟨_, rfl, a⟩
  obtain rfl : u = Value.ref a := ru
  obtain ⟨_, hsm, vs, rel, dof⟩ := dk_of I.hok ha
  cases rel
  obtain ⟨o, es, n, e1, ex, e3, _, prs, _⟩ := dof
  have el : es.toList = [] := by
    cases z : es.toList with
    | nil => rfl
    | cons a b => rw [z] at prs; cases prs
  have rd : Reads s.heap (.ref a) (.dict []) [a] := by
    have z := Reads.dict (h := s.heap) (a := a) (o := o) (es := es) (n := n) (kvs := []) (as := []) (bs := []) e1 ex.1 e3 (by rw [el]; exact .nil) (by rw [el]; exact .nil)
    exact z
  have ne : sysModules ∉ [a] := fun z => by
    rw [List.mem_singleton.mp z, beq_self_eq_true] at hsm
    cases hsm
  have sd : (PyData.dict []).shown = "{}" := by decide +kernel
  refine repr_of_reads' rd (by decide +kernel) (fun _ => ne) gu (by show X.A.units + ((PyData.dict []).depth + 1) < cLine; have z8 : (PyData.dict []).depth ≤ 8 := (by decide +kernel); omega) (fun _ _ z => z) (fun h' t tk hk => ?_) (by rw [sd, sizeLine_eq]; decide)
  refine ⟨.str "{}", H, I.kept hk, ⟨t, ?_⟩, q⟩
  rw [sd]
end
end L2


set_option Elab.async false
set_option linter.all false
set_option maxRecDepth 100000
set_option maxHeartbeats 4000000
/-! k02: what the methods and defs of programs refuse -/
namespace RX
open PySem L2 PG OW EXC
abbrev sReq : Stmt := top 20
section
variable {P : Program} {w : World} {K : PySem.W.Frag} {mg : Str → Option Value} {base : Heap} {CP CA CB CW CN CL fIA fIB fIW fIN fIL : Addr}
theorem am_no {H : Hp} {ws : List Str} {v : V} (h : AmIs K H ws v false) : (∃ x, v = .str x ∧ x ∉ ws) ∨ (∃ t, TyX K H v t ∧ PySem.W.kitOne K t (.type "str") = some false) := by
  rcases h with ⟨x, e, z⟩ | ⟨t, a, b, _⟩
  · exact .inl ⟨x, e, of_decide_eq_false z.symm⟩
  · exact .inr ⟨t, a, b⟩
/-- program[way] -/
def sxGet (K : PySem.W.Frag) (CP CW : Addr) : Sp := fun vs H _ E => ∃ (x dx L S F : Addr) (d : PD) (v : V), vs = [.ref x, v] ∧ ProgAt K CP H x dx L S F d ∧ AmIs K H (keysL d.ls) v false ∧ RsF "value" E CW v H
theorem xx_get {f fA : Addr} {fd fdA : FuncData} (Fn : Fun K "__getitem__" "Program.__getitem__" sGet f fd) (Tc : PTc K mg CP) (TW : ErrT K mg "BadWay" "value" CW fIW) (FA : Fun K "is_among" "is_among" sAmong fA fdA) (bA : Binds K fdA ["value", "words"] []) (gA : mg "is_among" = some (.ref fA)) (GA : FnOk P w K mg base CX0 1 fA fdA ["value", "words"] (spAmong K)) : FnOk P w K mg base (L2.CX P w) 2 f fd ["self", "at"] (sxGet K CP CW) := by
  refine Fn.okX scGet (fun vs H Q E h => ?_) (fun cdv A outer s H vs Q E hr h => ?_)
  · obtain ⟨x, dx, L, S, F, d, v, rfl, _⟩ := h
    rfl
  · obtain ⟨x, dx, L, S, F, d, v, rfl, h, am, rs⟩ := h
    obtain ⟨kvs, hL, lk⟩ := h.lk
    refine ⟨_, pss_cons (ps_if (pt_not (pt_val (pe_call GA hr (by rfl) gA FA.kp bA .nil pass0 (pa_cons (pv 1) (pa_cons (pe_fld (pv 0) rfl) pa_nil))))) (pss_one (ps_raise rfl (takes_of rfl rfl rfl rfl) (pmk_err TW hr (pv 1) (by rfl)))) pss_nil) pss_dead, ?_⟩
    refine ⟨_, rfl, _, rfl, x, CP, dx, _, _, rfl, h.ins, Tc.cl, Tc.n1, rfl, v, L, rfl, ?_⟩
    rcases am_no am with ⟨y, rfl, ny⟩ | ⟨t, ht, hk⟩
    · refine .inr (.inl ⟨y, kvs, rfl, .inl hL, _, rfl, ?_⟩)
      rw [isSome_val lk, decide_eq_false ny]
      exact iteT ⟨_, rfl, rs.now⟩
    · exact .inr (.inr ⟨t, ht, hk, _, rfl, iteT ⟨_, rfl, rs.now⟩⟩)
/-- leaving, entering -/
def sxLv (K : PySem.W.Frag) (CP CL : Addr) : Sp := fun vs H _ E => ∃ (x dx L S F : Addr) (d : PD) (v : V), vs = [.ref x, v] ∧ ProgAt K CP H x dx L S F d ∧ AmIs K H d.ps v false ∧ RsF "value" E CL v H
/-! ### require_program -/
theorem scReq : FnScope ["program"] ["program"] (defScope sReq) := ⟨rfl, rfl, rfl, by decide +kernel, rfl, by decide +kernel, by decide +kernel⟩
def NoP (K : PySem.W.Frag) (CP : Addr) (H : Hp) (v : V) : Prop := ∃ t, TyX K H v t ∧ PySem.W.kitOne K t (.ref CP) = some false
theorem NoP.same {H H' : Hp} {v : V} (h : NoP K CP H v) (s : Same H H') : NoP K CP H' v := by
  obtain ⟨t, ht, k⟩ := h
  exact ⟨t, TyX.same ht s, k⟩
def sxReq (K : PySem.W.Frag) (CP CA : Addr) : Sp := fun vs H _ E => ∃ v, vs = [v] ∧ NoP K CP H v ∧ RsF "value" E CA v H
theorem xx_req {f : Addr} {fd : FuncData} (Fn : Fun K "require_program" "require_program" sReq f fd) (T : PT0 mg) (Tc : PTc K mg CP) (TA : ErrT K mg "BadArgument" "value" CA fIA) : FnOk P w K mg base (L2.CX P w) 1 f fd ["program"] (sxReq K CP CA) := by
  refine Fn.okX scReq (fun vs H Q E h => ?_) (fun cdv A outer s H vs Q E hr h => ?_)
  · obtain ⟨v, rfl, _⟩ := h
    rfl
  · obtain ⟨v, rfl, ⟨t, ht, hk⟩, rs⟩ := h
    refine ⟨_, pss_one (ps_if (pt_not (pt_val (pe_callB call_isi (by rfl) T.isi PyProof.Rows.boot_isinstance (pa_cons (pv 0) (pa_cons (pe_glob (v := .ref CP) (by rfl) Tc.gC rfl) pa_nil))))) (pss_one (ps_raise rfl (takes_of rfl rfl rfl rfl) (pmk_err TA hr (pv 0) (by rfl)))) pss_nil), ?_⟩
    exact ⟨_, rfl, v, .ref CP, _, _, false, rfl, .own CP, ht, hk, _, rfl, iteT ⟨_, rfl, rs.now⟩⟩
def spReq (K : PySem.W.Frag) (CP : Addr) : Sp := fun vs H Q _ => ∃ (x dx L S F : Addr) (d : PD), vs = [.ref x] ∧ ProgAt K CP H x dx L S F d ∧ Q .non H
theorem ok_req {f : Addr} {fd : FuncData} (Fn : Fun K "require_program" "require_program" sReq f fd) (T : PT0 mg) (Tc : PTc K mg CP) (Tt : PTt K CP) : FnOk P w K mg base CX0 1 f fd ["program"] (spReq K CP) := by
  refine Fn.ok scReq (fun vs H Q E h => ?_) (fun cdv A outer s H vs Q E hr h => ?_)
  · obtain ⟨x, dx, L, S, F, d, rfl, _⟩ := h
    rfl
  · obtain ⟨x, dx, L, S, F, d, rfl, h, q⟩ := h
    refine ⟨_, pss_one (ps_if (pt_not (pt_val (pe_callB call_isi (by rfl) T.isi PyProof.Rows.boot_isinstance (pa_cons (pv 0) (pa_cons (pe_glob (v := .ref CP) (by rfl) Tc.gC rfl) pa_nil))))) pss_dead pss_nil), ?_⟩
    refine ⟨_, rfl, .ref x, .ref CP, _, _, true, rfl, .own CP, .base (.ins h.ins Tc.cl Tt.ha Tt.hn Tt.htk Tt.hm), ?_, _, rfl, iteNF q⟩
    unfold PySem.W.kitOne
    rw [if_pos (beq_self_eq_true _)]
/-! ### end_of, is_run, stop_of -/
abbrev nsEnd : List Str := ["program", "value", "place", "way"]
/-- no run of the program -/
def BadR (K : PySem.W.Frag) (H : Hp) (d : PD) (v : V) : Prop := (∃ t, TyX K H v t ∧ PySem.W.kitOne K t (.type "list") = some false) ∨ (∃ (l : Addr) (u : V) (rest : List V), v = .ref l ∧ H l = some (.lst (u :: rest)) ∧ AmIs K H (keysL d.ls) u false)
theorem BadR.same {H H' : Hp} {d : PD} {v : V} (h : BadR K H d v) (s : Same H H') : BadR K H' d v := by
  rcases h with ⟨t, h, k⟩ | ⟨l, u, rest, e, hl, am⟩
  · exact .inl ⟨t, TyX.same h s, k⟩
  · exact .inr ⟨l, u, rest, e, s _ _ hl, am.same s⟩
def spEndN (K : PySem.W.Frag) (CP : Addr) : Sp := fun vs H Q _ => ∃ (x dx L S F : Addr) (d : PD) (v : V), vs = [.ref x, v] ∧ ProgAt K CP H x dx L S F d ∧ BadR K H d v ∧ Q .non H
def sxStopR (K : PySem.W.Frag) (CP CN : Addr) : Sp := fun vs H _ E => ∃ (x dx L S F : Addr) (d : PD) (v : V), vs = [.ref x, v] ∧ ProgAt K CP H x dx L S F d ∧ BadR K H d v ∧ RsF "value" E CN v H
def sxStopA (K : PySem.W.Frag) (CP CA : Addr) : Sp := fun vs H _ E => ∃ (v u : V), vs = [v, u] ∧ NoP K CP H v ∧ RsF "value" E CA v H
end
end RX


set_option Elab.async false
set_option linter.all false
set_option maxRecDepth 100000
set_option maxHeartbeats 4000000
namespace CT
open PySem L2 PG OW
def addL (cs ds : List (List Str)) : List (List Str) := cs ++ ds.filter fun c => !decide (c ∈ cs)
def subL (cs ds : List (List Str)) : List (List Str) := cs.filter fun c => !decide (c ∈ ds)
theorem addL_in {d : PD} {cs ds : List (List Str)} (h1 : CsIn d cs) (h2 : CsIn d ds) : CsIn d (addL cs ds) where
  sub := fun c hc => by
    rcases List.mem_append.mp hc with z | z
    · exact h1.sub c z
    · exact h2.sub c (List.mem_filter.mp z).1
  nd := List.nodup_append.mpr ⟨h1.nd, h2.nd.sublist List.filter_sublist, fun a ha b hb e => by
    have z := (List.mem_filter.mp hb).2
    rw [← e, decide_eq_true ha] at z
    cases z⟩
theorem subL_in {d : PD} {cs : List (List Str)} (h1 : CsIn d cs) (ds : List (List Str)) : CsIn d (subL cs ds) := ⟨fun c hc => h1.sub c (List.mem_filter.mp hc).1, h1.nd.sublist List.filter_sublist⟩
section
variable {P : Program} {w : World} {K : PySem.W.Frag} {mg : Str → Option Value} {base : Heap} {CP CC aR : Addr}
def spBin (aR : Addr) (K : PySem.W.Frag) (CP CC : Addr) (op : List (List Str) → List (List Str) → List (List Str)) : Sp := fun vs H Q _ => ∃ (x dx y B x2 dx2 y2 B2 : Addr) (d : PD) (cs ds : List (List Str)), vs = [.ref x, .ref x2] ∧ RA K aR H ∧ CtrAt K CP CC H x dx y B d cs ∧ CtrAt K CP CC H x2 dx2 y2 B2 d ds ∧ PDg d ∧ CsIn d cs ∧ CsIn d ds ∧
  ∀ (H' : Hp) (x3 dx3 B3 : Addr), Same H H' → H x3 = none → H B3 = none → CtrAt K CP CC H' x3 dx3 y B3 d (selC d (op cs ds)) → Q (.ref x3) H'
abbrev nsAdd : List Str := ["self", "other", "more", "counter"]
theorem scAdd : FnScope nsAdd ["self", "other"] (defScope sAdd) := ⟨rfl, rfl, rfl, by decide +kernel, rfl, by decide +kernel, by decide +kernel⟩
theorem ok_add {f fR fI : Addr} {fd fdR : FuncData} (Fn : Fun K "__add__" "Counters.__add__" sAdd f fd) (Tc : CTc K mg CC) (M : Mk K CC fI) (FI : FnR P w K mg base CX0 3 fI (spStar 2 (spInitC aR K CP CC))) (FR : Fun K "require_partner" "require_partner" sPart fR fdR) (bR : Binds K fdR ["one", "other"] []) (gR : mg "require_partner" = some (.ref fR)) (GR : FnOk P w K mg base CX0 3 fR fdR ["one", "other"] (spPart K CP CC)) : FnOk P w K mg base CX0 5 f fd ["self", "other"] (spBin aR K CP CC addL) := by
  refine Fn.ok scAdd (fun vs H Q E h => ?_) (fun cdv A outer s H vs Q E hr h => ?_)
  · obtain ⟨x, dx, y, B, x2, dx2, y2, B2, d, cs, ds, rfl, _⟩ := h
    rfl
  · obtain ⟨x, dx, y, B, x2, dx2, y2, B2, d, cs, ds, rfl, ra, h, h2, g, i1, i2, k⟩ := h
    have nd := scAdd.nd
    have hun := Nat.lt_of_succ_lt (room66 hr)
    obtain ⟨us, hB, hus⟩ := h.ch
    obtain ⟨us2, hB2, hus2⟩ := h2.ch
    obtain ⟨dy, L, S, F, pr⟩ := h.pr
    refine ⟨_, pss_cons (ps_expr (pe_call GR (hr.mono (by decide)) (by rfl) gR FR.kp bR .nil pass0 (pa_cons (pv 0) (pa_cons (pv 1) pa_nil))))
      (pss_cons (ps_setLc (i := 2) (own := [("counter", 3)]) (g := gName 3) (tt := tTest (tOp (rInC K true) (tVar 3) (tFld K (tVar 0) "chosen"))) rfl nd rfl rfl (sw_true rfl rfl rfl (by decide +kernel)) (pi_list (pe_fld (pv 1) rfl)) (blkOk_by (own := [("counter", 3)]) (N := nsAdd) (sc := defScope sAdd) (by decide +kernel)) (fun _ _ _ _ _ => pg_name (i := 3) nd rfl (Or.inl rfl)) (fun _ _ _ _ _ => pts_one (pt_cmpR (op_notInC hun) (pv 3) (pe_fld (pv 0) rfl) rfl)) (fun _ _ _ _ _ => pv 3))
      (pss_one (ps_ret (pe_makeS M FI hr (by rfl) Tc.gC pass0 (pa_cons (pe_fld (pv 0) rfl) (StX.pa_star (pe_fld (pv 0) rfl) (StX.pa_star (pv 2) pa_nil))))))), ?_⟩
    refine ⟨_, rfl, _, rfl, x, dx, y, B, x2, dx2, y2, B2, d, d, cs, ds, rfl, h, h2, g, g, g.eqr, ?_⟩
    refine ⟨_, rfl, x2, CC, dx2, _, _, rfl, h2.ins, Tc.cl, Tc.n2, rfl, B2, rfl, ⟨_, SqL.of hB2⟩, fun D nD => rd_sel (fun c => !decide (c ∈ cs)) (SqL.of hB2) hus2 (by have := i2.few g; omega) nD (fun v => rfl) (fun v => rfl) (fun j c v H2 Q2 s2 hc tc q => ?_) fun H1 ts s1 hD hts => ?_⟩
    · exact ⟨_, rfl, _, rfl, x, CC, dx, _, _, rfl, s2 _ _ h.ins, Tc.cl, Tc.n2, rfl, c, B, us, cs, tc, rfl, SqL.of (s2 _ _ hB), TupLs.same hus s2, i2.ok g c (List.mem_of_getElem? hc), i1.ok g, _, rfl, q H2 (Same.refl _)⟩
    · refine ⟨_, rfl, x, CC, dx, _, _, rfl, s1 _ _ h.ins, Tc.cl, Tc.n1, rfl, _, rfl, x, CC, dx, _, _, rfl, s1 _ _ h.ins, Tc.cl, Tc.n2, rfl, B, us, rfl, .inr (SqL.of (s1 _ _ hB)), _, rfl, D, ts, rfl, .inr (SqL.of hD), ?_⟩
      unfold tNil
      simp only [List.append_nil]
      exact cmk_new (as := addL cs ds) (ra.same s1) (pr.same s1) g (paired_app (TupLs.same hus s1) hts) (addL_in i1 i2) fun H' x3 dx3 B3 s3 nx nB hh => k H' x3 dx3 B3 (s1.trans s3) (RX.fr_of s1 nx) (RX.fr_of s1 nB) hh
end
end CT


set_option Elab.async false
set_option linter.all false
set_option maxRecDepth 100000
set_option maxHeartbeats 4000000
namespace LH
open PySem L2
def top (i : Nat) : Stmt := PySem.Challenge.pw_countededges_k47_whole_ways_doubled_and.main.body.getD i (.Pass ⟨0, 0, 0, 0⟩)
abbrev sNum : Stmt := top 41
abbrev sPool : Stmt := top 42
abbrev sDraw : Stmt := top 43
abbrev sOpen : Stmt := top 45
/-- the module's and built-in names that these defs read -/
structure HT (mg : Str → Option Value) : Prop where
  max : mg "max" = none
  min : mg "min" = none
  int : mg "int" = none
  range : mg "range" = none
  len : mg "len" = none
theorem z420 : (0 : Int) < 420 := by decide
/-- a new object changes nothing that stood -/
theorem sm {H : Hp} {p : Addr} {o : HO} (np : H p = none) : Same H (upd H p o) := fun b u e => by
  rw [upd_ne (ne_of_none e np)]
  exact e
section
variable {P : Program} {w : World} {K : PySem.W.Frag} {mg : Str → Option Value} {base : Heap}
abbrev nsNum : List Str := ["cell", "salt", "sizes", "whole", "left", "result", "k", "one"]
theorem scNum : FnScope nsNum ["cell", "salt", "sizes"] (defScope sNum) := ⟨rfl, rfl, rfl, by decide +kernel, rfl, by decide +kernel, by decide +kernel⟩
def spNum (K : PySem.W.Frag) : Sp := fun vs H Q _ => ∃ (c salt : Int) (a : Addr) (n : Nat), vs = [.int c, .int salt, .ref a] ∧ 0 ≤ salt ∧ salt ≤ 63 ∧ SqL K H a (List.replicate n (V.int 420)) ∧ n ≤ 200 ∧
  ∀ (p : Addr) (rs : List Int) (H' : Hp), H p = none → Same H H' → H' p = some (.lst (rs.map V.int)) → rs.length = n → (∀ r ∈ rs, 0 ≤ r ∧ r < 420) → Q (.ref p) H'
theorem ok_num {f : Addr} {fd : FuncData} (F : Fun K "_law_numbers" "_law_numbers" sNum f fd) (T : HT mg) : FnOk P w K mg base CX0 1 f fd ["cell", "salt", "sizes"] (spNum K) := by
  refine F.ok scNum (fun vs H Q E h => ?_) (fun cdv A outer s H vs Q E hr h => ?_)
  · obtain ⟨c, salt, a, n, rfl, _⟩ := h
    rfl
  · obtain ⟨c, salt, a, n, rfl, s0, s1, hS, hn, k⟩ := h
    refine ⟨_, pss_cons (ps_set (i := 3) scNum.nd rfl (Or.inl rfl) (pe_callB (call_max2 rfl) (by rfl) T.max (by decide +kernel) (pa_cons (pe_callTy call_int1 (by rfl) T.int (by decide +kernel) (pa_cons (pv 0) pa_nil)) (pa_cons (pe_callTy call_int1 (by rfl) T.int (by decide +kernel) (pa_cons (pe_op op_sub (pe_un un_neg pe_int) (pv 0)) pa_nil)) pa_nil))))
      (pss_cons (ps_set (i := 4) scNum.nd rfl (Or.inl rfl) (pv 3))
      (pss_cons (ps_set (i := 5) scNum.nd rfl (Or.inl rfl) (pe_lst pa_nil))
      (pss_cons (ps_for PassesOwn.never rfl (pi_range1 rfl T.range (pa_cons (pe_callB call_len_seq (by rfl) T.len PySem.boot_len (pa_cons (pv 2) pa_nil)) pa_nil)) (pg_name (i := 6) scNum.nd rfl (Or.inl rfl))
        (pss_one (ps_if (pw_and (pt_cmpR op_ge (pv 3) (pe_op op_pow pe_int pe_int) (nomark _)) (pw_and1 (pt_cmpR op_gt (pv 4) pe_int (nomark _)))).pt
          (pss_cons (ps_expr (pe_bm PySem.F.plainAttrs_list PySem.F.slot_list_append PySem.F.type_list_append mt_append (pv 5) (pa_cons (pe_op op_mod (pe_callTy call_int1 (by rfl) T.int (by decide +kernel) (pa_cons (pv 4) pa_nil)) (pe_ix ix_list (pv 2) (pv 6) (fun _ _ => rfl))) pa_nil)))
            (pss_one (ps_set (i := 4) scNum.nd rfl (Or.inl rfl) (pe_op op_fdiv (pv 4) (pe_ix ix_list (pv 2) (pv 6) (fun _ _ => rfl))))))
          (pss_cons (ps_set (i := 7) scNum.nd rfl (Or.inl rfl) (pe_op op_pow (pe_op op_add (pe_op op_add (pe_op op_mod (pe_callTy call_int1 (by rfl) T.int (by decide +kernel) (pa_cons (pv 3) pa_nil)) pe_int) (pe_op op_mul pe_int (pv 1))) pe_int) pe_int))
          (pss_cons (ps_set (i := 7) scNum.nd rfl (Or.inl rfl) (pe_op op_mul (pe_op op_add (pe_op op_mod (pe_callTy call_int1 (by rfl) T.int (by decide +kernel) (pa_cons (pv 7) pa_nil)) pe_int) (pe_op op_mul pe_int (pe_op op_add (pv 6) pe_int))) (pe_op op_add (pv 6) pe_int)))
          (pss_cons (ps_set (i := 7) scNum.nd rfl (Or.inl rfl) (pe_op op_mod (pe_callTy call_int1 (by rfl) T.int (by decide +kernel) (pa_cons (pv 7) pa_nil)) pe_int))
          (pss_cons (ps_set (i := 7) scNum.nd rfl (Or.inl rfl) (pe_op op_mul (pe_op op_mod (pe_callTy call_int1 (by rfl) T.int (by decide +kernel) (pa_cons (pe_op op_pow (pv 7) pe_int) pa_nil)) pe_int) pe_int))
          (pss_cons (ps_set (i := 7) scNum.nd rfl (Or.inl rfl) (pe_op op_mod (pe_callTy call_int1 (by rfl) T.int (by decide +kernel) (pa_cons (pv 7) pa_nil)) pe_int))
          (pss_one (ps_expr (pe_bm PySem.F.plainAttrs_list PySem.F.slot_list_append PySem.F.type_list_append mt_append (pv 5) (pa_cons (pe_op op_mod (pe_callTy call_int1 (by rfl) T.int (by decide +kernel) (pa_cons (pe_op op_fdiv (pv 7) pe_int) pa_nil)) (pe_ix ix_list (pv 2) (pv 6) (fun _ _ => rfl))) pa_nil)))))))))
        )))
      (pss_one (ps_ret (pv 5)))))), ?_⟩
    -- whole = max(int(cell), int(-1 - cell)); left = whole; result = []
    refine ⟨_, rfl, .inl ⟨_, rfl, _, rfl, _, rfl, _, _, rfl, rfl, .inl ⟨_, rfl, _, _, rfl, ?_⟩⟩⟩
    generalize (if (-1 - c : Int) > c then -1 - c else c) = W
    refine ⟨_, rfl, (by show 0 ≤ sizeLine; exact Nat.zero_le _), fun p np => ?_⟩
    have hS' : ∀ l, SqL K (upd H p (.lst l)) a (List.replicate n (V.int 420)) := fun l => (sm np).seq hS
    have el : (((List.replicate n (V.int 420)).length : Nat) : Int).toNat = n := by rw [List.length_replicate]; rfl
    have lz : (((List.replicate n (V.int 420)).length : Nat) : Int) ≤ 200 := by rw [List.length_replicate]; omega
    refine ⟨_, rfl, a, _, rfl, .inl (hS' _), _, rfl, by omega, by omega, ?_⟩
    rw [el]
    refine for_range (lo := 0) (n := n) (fun i σ H' => ∃ (left : Int) (rs : List Int) (v6 v7 : Option V), σ = [some (.int c), some (.int salt), some (.ref a), some (.int W), some (.int left), some (.ref p), v6, v7] ∧
      H' = upd H p (.lst (rs.map V.int)) ∧ rs.length = i ∧ (∀ r ∈ rs, 0 ≤ r ∧ r < 420)) ⟨W, [], none, none, rfl, rfl, rfl, fun r h => nomatch h⟩ ?_ ?_
    · rintro i σ H' hi ⟨left, rs, v6, v7, rfl, rfl, hl, hb⟩
      have at420 : atI (List.replicate n (V.int 420)) ((0 : Int) + (i : Nat)) = some (V.int 420) := by
        rw [Int.zero_add]
        exact atI_nat (by rw [List.getElem?_replicate, if_pos hi])
      have next : ∀ (x left' : Int) (v7' : Option V), 0 ≤ x → x < 420 → ∃ (left : Int) (rs' : List Int) (v6 v7 : Option V), [some (V.int c), some (V.int salt), some (V.ref a), some (V.int W), some (V.int left'), some (V.ref p), some (V.int ((0 : Int) + (i : Nat))), v7'] = [some (V.int c), some (V.int salt), some (V.ref a), some (V.int W), some (V.int left), some (V.ref p), v6, v7] ∧
          upd (upd H p (.lst (rs.map V.int))) p (.lst (rs.map V.int ++ [V.int x])) = upd H p (.lst (rs'.map V.int)) ∧ rs'.length = i + 1 ∧ (∀ r ∈ rs', 0 ≤ r ∧ r < 420) := fun x left' v7' x0 x1 => by
        refine ⟨left', rs ++ [x], _, v7', rfl, ?_, by rw [List.length_append, hl]; rfl, fun r h => ?_⟩
        · rw [upd_upd, List.map_append]; rfl
        · rcases List.mem_append.mp h with h | h
          · exact hb r h
          · rw [List.mem_singleton.mp h]; exact ⟨x0, x1⟩
      have m0 : ∀ z : Int, 0 ≤ z % 420 ∧ z % 420 < 420 := fun z => ⟨Int.emod_nonneg _ (by decide), Int.emod_lt_of_pos _ (by decide)⟩
      have sz : (rs.map V.int).length < sizeLine := by rw [List.length_map, hl]; exact small1000 (by omega)
      refine ⟨_, rfl, _, _, rfl, rfl, ⟨by decide, by decide, by decide⟩, _, _, rfl, rfl, _, rfl, ?_⟩
      have nb : ∀ (z m : Int), 0 < m → m < 2 ^ 40 → (z % m).natAbs < 2 ^ 41 := fun z m h1 h2 => by
        have a1 := Int.emod_nonneg z (Int.ne_of_gt h1)
        have a2 := Int.emod_lt_of_pos z h1
        omega
      have ib : (0 : Int) + (i : Nat) = (i : Int) := Int.zero_add _
      refine ite2 (fun _ => ⟨_, rfl, _, _, rfl, rfl, _, rfl, ite2 (fun _ => ?_) (fun _ => ?_)⟩) (fun _ => iteF ?_)
      · -- result.append(int(left) % sizes[k]); left = left // sizes[k]
        refine ⟨_, rfl, .inl ⟨rfl, _, SqL.of upd_same⟩, _, rfl, .inl ⟨_, rfl, _, rfl, _, rfl, a, _, _, _, rfl, rfl, hS' _, at420, _, _, rfl, rfl, z420, p, _, _, rfl, rfl, upd_same, sz, ?_⟩⟩
        have hS2 : SqL K (upd (upd H p (.lst (rs.map V.int))) p (.lst (rs.map V.int ++ [V.int (left % 420)]))) a (List.replicate n (V.int 420)) := by rw [upd_upd]; exact hS' _
        exact ⟨_, rfl, _, rfl, _, rfl, a, _, _, _, rfl, rfl, hS2, at420, _, _, rfl, rfl, ⟨by decide, by decide⟩, next _ _ _ (m0 _).1 (m0 _).2⟩
      all_goals
        refine ⟨_, rfl, .inl ⟨_, rfl, _, _, rfl, rfl, (show (0 : Int) < _ by decide), _, rfl, _, _, rfl, rfl, .inl ⟨by decide, by decide⟩, _, _, rfl, rfl, _, _, rfl, rfl, _, _, rfl, rfl, ⟨by decide, by decide, ?_⟩, ?_⟩⟩
        · have z := nb W 2147483629 (by decide) (by decide)
          omega
        · generalize ((W % 2147483629 + 7919 * salt + 1) ^ (Int.toNat 3) : Int) = o1
          refine ⟨_, rfl, .inl ⟨_, rfl, _, _, rfl, rfl, (show (0 : Int) < _ by decide), _, rfl, _, _, rfl, rfl, _, _, rfl, rfl, .inl ⟨by decide, by decide⟩, _, _, rfl, rfl, _, rfl, _, _, rfl, rfl, _, _, rfl, rfl, .inr ⟨by rw [ib]; omega, by rw [ib]; omega⟩, ?_⟩⟩
          generalize ((o1 % 2147483647 + 104729 * ((0 : Int) + (i : Nat) + 1)) * ((0 : Int) + (i : Nat) + 3) : Int) = o2
          refine ⟨_, rfl, .inl ⟨_, rfl, _, _, rfl, rfl, (show (0 : Int) < _ by decide), ?_⟩⟩
          refine ⟨_, rfl, _, _, rfl, rfl, ⟨by decide, by decide, ?_⟩, .inl ⟨_, rfl, _, _, rfl, rfl, (show (0 : Int) < _ by decide), _, _, rfl, rfl, .inr ⟨by decide, by decide⟩, ?_⟩⟩
          · have z := nb o2 2147483629 (by decide) (by decide)
            omega
          · generalize ((o2 % 2147483629) ^ (Int.toNat 5) % 2147483647 * 48271 : Int) = o3
            refine ⟨_, rfl, .inl ⟨_, rfl, _, _, rfl, rfl, (show (0 : Int) < _ by decide), ?_⟩⟩
            exact ⟨_, rfl, .inl ⟨rfl, _, SqL.of upd_same⟩, _, rfl, _, _, rfl, rfl, ⟨by decide, by decide⟩, .inl ⟨_, rfl, _, rfl, _, rfl, a, _, _, _, rfl, rfl, hS' _, at420, _, _, rfl, rfl, z420, p, _, _, rfl, rfl, upd_same, sz, next _ _ _ (m0 _).1 (m0 _).2⟩⟩
    · rintro σ H' ⟨left, rs, v6, v7, rfl, rfl, hl, hb⟩
      exact ⟨_, rfl, k p rs _ np (sm np) upd_same hl hb⟩
end
end LH


set_option Elab.async false
set_option linter.all false
set_option maxRecDepth 100000
set_option maxHeartbeats 4000000
namespace LH
open PySem L2
section
variable {P : Program} {w : World} {K : PySem.W.Frag} {mg : Str → Option Value} {base : Heap}
/-- a pool: its list of drawn numbers at q, the place of the next one -/
structure PoolAt (H : Hp) (p q : Addr) (rs : List Int) (i : Int) : Prop where
  hp : H p = some (.lst [.ref q, .int i])
  hq : H q = some (.lst (rs.map V.int))
  i0 : 0 ≤ i
  len : rs.length ≤ 200
  bd : ∀ r ∈ rs, 0 ≤ r ∧ r < 420
theorem PoolAt.ne {H : Hp} {p q : Addr} {rs : List Int} {i : Int} (h : PoolAt H p q rs i) : p ≠ q := fun e => by
  have z := h.hp
  rw [e, h.hq] at z
  have z2 := Option.some.inj z
  cases rs with
  | nil => cases z2
  | cons r rs => cases z2
theorem PoolAt.same {H H' : Hp} {p q : Addr} {rs : List Int} {i : Int} (h : PoolAt H p q rs i) (s : Same H H') : PoolAt H' p q rs i := ⟨s _ _ h.hp, s _ _ h.hq, h.i0, h.len, h.bd⟩
theorem scPool : FnScope ["cell", "salt", "many"] ["cell", "salt", "many"] (defScope sPool) := ⟨rfl, rfl, rfl, by decide +kernel, rfl, by decide +kernel, by decide +kernel⟩
def spPool : Sp := fun vs H Q _ => ∃ (c salt : Int) (m : Nat), vs = [.int c, .int salt, .int m] ∧ 0 ≤ salt ∧ salt ≤ 63 ∧ m ≤ 200 ∧
  ∀ (p q : Addr) (rs : List Int) (H' : Hp), H p = none → H q = none → Same H H' → PoolAt H' p q rs 0 → rs.length = m → Q (.ref p) H'
theorem ok_pool {f fN : Addr} {fd fdN : FuncData} (F : Fun K "_law_pool" "_law_pool" sPool f fd) (T : HT mg) (FN : Fun K "_law_numbers" "_law_numbers" sNum fN fdN) (bN : Binds K fdN ["cell", "salt", "sizes"] []) (gN : mg "_law_numbers" = some (.ref fN)) :
    FnOk P w K mg base CX0 2 f fd ["cell", "salt", "many"] spPool := by
  have GN : FnOk P w K mg base CX0 1 fN fdN ["cell", "salt", "sizes"] (spNum K) := ok_num FN T
  refine F.ok scPool (fun vs H Q E h => ?_) (fun cdv A outer s H vs Q E hr h => ?_)
  · obtain ⟨c, salt, m, rfl, _⟩ := h
    rfl
  · obtain ⟨c, salt, m, rfl, s0, s1, hm, k⟩ := h
    refine ⟨_, pss_one (ps_ret (pe_lst (pa_cons (pe_call GN hr rfl gN FN.kp bN .nil pass0 (pa_cons (pv 0) (pa_cons (pv 1) (pa_cons (pe_op op_rep (pe_lst (pa_cons pe_int pa_nil)) (pv 2)) pa_nil)))) (pa_cons pe_int pa_nil)))), ?_⟩
    refine ⟨_, rfl, _, rfl, (by show 1 ≤ sizeLine; decide), fun l nl => ⟨_, rfl, l, _, _, rfl, rfl, upd_same, by omega, by omega, ?_, fun x nx => ?_⟩⟩
    · show 1 * _ ≤ sizeLine
      rw [sizeLine_eq, Int.toNat_natCast]
      omega
    · have e : (List.replicate (m : Int).toNat [V.int 420]).flatten = List.replicate m (V.int 420) := by
        rw [Int.toNat_natCast, List.flatten_replicate_singleton]
      rw [e]
      have sA : Same H (upd (upd H l (.lst [V.int 420])) x (.lst (List.replicate m (V.int 420)))) := (sm nl).trans (sm nx)
      refine ⟨c, salt, x, m, rfl, s0, s1, SqL.of upd_same, hm, fun q rs H1 nq s1' hq hl hb => ⟨(by show 2 ≤ sizeLine; decide), fun p np => ?_⟩⟩
      have sB : Same H1 (upd H1 p (.lst [V.ref q, V.int 0])) := sm np
      exact k p q rs _ (sA.free (s1'.free np)) (sA.free nq) ((sA.trans s1').trans sB) ⟨upd_same, sB _ _ hq, Int.le_refl 0, by omega, hb⟩ hl
abbrev nsDraw : List Str := ["pool", "many", "at"]
theorem scDraw : FnScope nsDraw ["pool", "many"] (defScope sDraw) := ⟨rfl, rfl, rfl, by decide +kernel, rfl, by decide +kernel, by decide +kernel⟩
/-- a draw below m: the pool's place moves on, nothing else changes -/
def spDraw : Sp := fun vs H Q _ => ∃ (p q : Addr) (rs : List Int) (i m : Int), vs = [.ref p, .int m] ∧ PoolAt H p q rs i ∧ 0 < m ∧
  ∀ (r : Int), 0 ≤ r → r < m → Q (.int r) (upd H p (.lst [.ref q, .int (i + 1)]))
theorem ok_draw {f : Addr} {fd : FuncData} (F : Fun K "_law_draw" "_law_draw" sDraw f fd) (T : HT mg) : FnOk P w K mg base CX0 1 f fd ["pool", "many"] spDraw := by
  refine F.ok scDraw (fun vs H Q E h => ?_) (fun cdv A outer s H vs Q E hr h => ?_)
  · obtain ⟨p, q, rs, i, m, rfl, _⟩ := h
    rfl
  · obtain ⟨p, q, rs, i, m, rfl, hP, m0, k⟩ := h
    have hne := hP.ne
    refine ⟨_, pss_cons (ps_set (i := 2) scDraw.nd rfl (Or.inl rfl) (pe_ix ix_list (pv 0) pe_int (fun _ _ => rfl)))
      (pss_cons (ps_asg (pe_op op_add (pv 2) pe_int) (pg_sub (pv 0) pe_int set_list))
      (pss_one (ps_ret (pe_ifExp (pt_cmpR op_lt (pv 2) (pe_callB call_len_seq (by rfl) T.len PySem.boot_len (pa_cons (pe_ix ix_list (pv 0) pe_int (fun _ _ => rfl)) pa_nil)) (nomark _))
        (pe_op op_mod (pe_callTy call_int1 (by rfl) T.int (by decide +kernel) (pa_cons (pe_ix ix_list (pe_ix ix_list (pv 0) pe_int (fun _ _ => rfl)) (pv 2) (fun _ _ => rfl)) pa_nil)) (pv 1)) pe_int)))), ?_⟩
    refine ⟨_, rfl, p, _, _, _, rfl, rfl, SqL.of hP.hp, atI_nat (j := 1) rfl, ?_⟩
    refine ⟨_, rfl, _, _, rfl, rfl, _, rfl, p, _, _, 1, rfl, rfl, hP.hp, rfl, ?_⟩
    have h1 : ∀ o, (upd H p o) q = some (.lst (rs.map V.int)) := fun o => by rw [upd_ne hne.symm]; exact hP.hq
    refine ⟨_, rfl, _, rfl, p, _, _, _, rfl, rfl, SqL.of upd_same, atI_nat (j := 0) rfl, q, _, rfl, .inl (SqL.of (h1 _)), _, _, rfl, rfl, _, rfl, ?_⟩
    refine ite2 (fun hlt => ?_) (fun _ => ?_)
    · have hlt' : i < ((rs.map V.int).length : Int) := of_decide_eq_true hlt
      rw [List.length_map] at hlt'
      obtain ⟨j, rfl⟩ : ∃ j : Nat, i = (j : Int) := ⟨i.toNat, (Int.toNat_of_nonneg hP.i0).symm⟩
      have hj : j < rs.length := by omega
      have hat : (rs.map V.int)[j]? = some (V.int rs[j]) := by rw [List.getElem?_map, List.getElem?_eq_getElem hj]; rfl
      refine ⟨_, rfl, p, _, _, _, rfl, rfl, SqL.of upd_same, atI_nat (j := 0) rfl, _, rfl, q, _, _, _, rfl, rfl, SqL.of (h1 _), atI_nat hat, .inl ⟨_, rfl, _, rfl, _, _, rfl, rfl, m0, ?_⟩⟩
      exact k _ (Int.emod_nonneg _ (Int.ne_of_gt m0)) (Int.emod_lt_of_pos _ m0)
    · exact k 0 (Int.le_refl 0) m0
abbrev nsOpen : List Str := ["script", "k", "many", "cell"]
theorem scOpen : FnScope nsOpen ["script", "k", "many"] (defScope sOpen) := ⟨rfl, rfl, rfl, by decide +kernel, rfl, by decide +kernel, by decide +kernel⟩
def spOpen (K : PySem.W.Frag) : Sp := fun vs H Q _ => ∃ (a : Addr) (ns : List Int) (j m : Nat), vs = [.ref a, .int j, .int m] ∧ SqL K H a (ns.map V.int) ∧ (ns = [] ∨ j < ns.length) ∧ j ≤ 63 ∧ m ≤ 200 ∧
  ∀ (p q : Addr) (rs : List Int) (H' : Hp), H p = none → H q = none → Same H H' → PoolAt H' p q rs 0 → rs.length = m → Q (.ref p) H'
theorem iteNS' {b : Bool} {A B : Prop} (h : b = false) (hb : B) : if b = true then A else B := by
  rw [h]
  exact iteF hb
theorem iteS' {b : Bool} {A B : Prop} (h : b = true) (ha : A) : if b = true then A else B := by
  rw [h]
  exact iteT ha
theorem dp_ints {H : Hp} : ∀ ns : List Int, DpAll K H (ns.map V.int) (ns.map PyData.int)
  | [] => .nil
  | n :: ns => .cons (.int n) (dp_ints ns)
theorem ok_open {f fP fN : Addr} {fd fdP fdN : FuncData} (F : Fun K "_law_opened" "_law_opened" sOpen f fd) (T : HT mg) (FP : Fun K "_law_pool" "_law_pool" sPool fP fdP) (bP : Binds K fdP ["cell", "salt", "many"] []) (gP : mg "_law_pool" = some (.ref fP))
    (FN : Fun K "_law_numbers" "_law_numbers" sNum fN fdN) (bN : Binds K fdN ["cell", "salt", "sizes"] []) (gN : mg "_law_numbers" = some (.ref fN)) :
    FnOk P w K mg base CX0 3 f fd ["script", "k", "many"] (spOpen K) := by
  have GP : FnOk P w K mg base CX0 2 fP fdP ["cell", "salt", "many"] spPool := ok_pool FP T FN bN gN
  refine F.ok scOpen (fun vs H Q E h => ?_) (fun cdv A outer s H vs Q E hr h => ?_)
  · obtain ⟨a, ns, j, m, rfl, _⟩ := h
    rfl
  · obtain ⟨a, ns, j, m, rfl, hS, hj, hj2, hm, k⟩ := h
    refine ⟨_, pss_cons (ps_set (i := 3) scOpen.nd rfl (Or.inl rfl) (pe_ifExp (pt_cmpR (op_neD hr.units) (pv 0) (pe_lst pa_nil) (nomark _)) (pe_ix ix_list (pv 0) (pv 1) (fun _ _ => rfl)) pe_int))
      (pss_one (ps_ret (pe_call GP hr rfl gP FP.kp bP .nil pass0 (pa_cons (pv 3) (pa_cons (pv 1) (pa_cons (pv 2) pa_nil)))))), ?_⟩
    refine ⟨_, rfl, (by show 0 ≤ sizeLine; exact Nat.zero_le _), fun l nl => ?_⟩
    have s1 : Same H (upd H l (.lst [])) := sm nl
    have hS1 := s1.seq hS
    have fin : ∀ c : Int, tRet (tCall spPool [] E0 (tCons (tVar 3) (tCons (tVar 1) (tCons (tVar 2) tNil)))) { nx := fun x H' => Q V.non H', rt := Q } [some (.ref a), some (.int j), some (.int m), some (.int c)] (upd H l (.lst [])) := fun c =>
      ⟨_, rfl, _, rfl, _, rfl, c, j, m, rfl, by omega, by omega, hm, fun p q rs H' np nq s2 hP hl => k p q rs H' (s1.free np) (s1.free nq) (s1.trans s2) hP hl⟩
    refine ⟨_, _, .lst hS1 (dp_ints ns), .lst (SqL.of upd_same) .nil, PySem.W.ke_shaped_ints ns, PySem.W.ke_shaped_ints [], _, rfl, ?_⟩
    cases ns with
    | nil =>
      refine iteNS' (by first | rfl | decide) ?_
      exact fin 7
    | cons n ns =>
      have hj' : j < (n :: ns).length := by
        rcases hj with e | e
        · cases e
        · exact e
      refine iteS' (by first | rfl | decide) ?_
      have hat : ((n :: ns).map V.int)[j]? = some (V.int ((n :: ns)[j])) := by rw [List.getElem?_map, List.getElem?_eq_getElem hj']; rfl
      exact ⟨_, rfl, _, rfl, a, _, _, _, rfl, rfl, hS1, atI_nat hat, fin _⟩
end
end LH


set_option Elab.async false
set_option linter.all false
set_option maxRecDepth 100000
set_option maxHeartbeats 4000000
namespace LW
open PySem L2 PG
open LH hiding sm top
abbrev sWords : Stmt := LH.top 46
abbrev sNames : Stmt := LH.top 47
/-- all but the pool stays -/
def But (p : Addr) (H H' : Hp) : Prop := ∀ b o, b ≠ p → H b = some o → H' b = some o
theorem But.refl (p : Addr) (H : Hp) : But p H H := fun _ _ _ h => h
theorem But.trans {p : Addr} {H H1 H2 : Hp} (a : But p H H1) (b : But p H1 H2) : But p H H2 := fun q o n h => b q o n (a q o n h)
theorem But.of {p : Addr} {H H' : Hp} (s : Same H H') : But p H H' := fun q o _ h => s q o h
theorem But.upd {p : Addr} {H : Hp} (o : HO) : But p H (upd H p o) := fun q u n h => by rw [upd_ne n]; exact h
theorem pool_step {H : Hp} {p q : Addr} {rs : List Int} {i : Int} (h : PoolAt H p q rs i) : PoolAt (upd H p (.lst [.ref q, .int (i + 1)])) p q rs (i + 1) :=
  ⟨upd_same, by rw [upd_ne h.ne.symm]; exact h.hq, by have := h.i0; omega, h.len, h.bd⟩
theorem But.free {p b : Addr} {H H' : Hp} (s : But p H H') (nb : b ≠ p) (h : H' b = none) : H b = none := by
  cases z : H b with
  | none => rfl
  | some o => rw [s b o nb z] at h; cases h
theorem nat_of {r m : Int} (h0 : 0 ≤ r) (h1 : r < m) : ∃ k : Nat, r = (k : Int) ∧ (k : Int) < m := ⟨r.toNat, (Int.toNat_of_nonneg h0).symm, by omega⟩
def rot (ws : List Str) (k m : Nat) : List Str := (ws.drop k ++ ws.take k).take m
theorem rot_mem {ws : List Str} {k m : Nat} {x : Str} (h : x ∈ rot ws k m) : x ∈ ws := by
  rcases List.mem_append.mp (List.mem_of_mem_take h) with z | z
  · exact List.mem_of_mem_drop z
  · exact List.mem_of_mem_take z
theorem rot_nodup {ws : List Str} {k m : Nat} (h : ws.Nodup) : (rot ws k m).Nodup := by
  have p : (ws.drop k ++ ws.take k).Perm ws := by
    refine List.perm_append_comm.trans ?_
    rw [List.take_append_drop]
  exact (p.nodup_iff.mpr h).sublist (List.take_sublist _ _)
theorem rot_len {ws : List Str} {k m : Nat} (h : m ≤ ws.length) : (rot ws k m).length = m := by
  unfold rot
  rw [List.length_take, List.length_append, List.length_drop, List.length_take]
  omega
theorem cut_from (ws : List Str) {k : Nat} (h : k ≤ ws.length) : cutV (ws.map V.str) (some (k : Int)) none = (ws.drop k).map V.str := by
  unfold cutV
  rw [_root_.HT.sIx_nat, _root_.HT.sIx_none, List.length_map, Nat.min_eq_left h, List.map_drop]
  exact List.take_of_length_le (by rw [List.length_drop, List.length_map]; exact Nat.le_refl _)
theorem cut_to (ws : List Str) (k : Nat) : cutV (ws.map V.str) none (some (k : Int)) = (ws.take k).map V.str := by
  unfold cutV
  rw [_root_.HT.sIx_nat, _root_.HT.sIx_none, List.length_map, List.drop_zero, Nat.sub_zero, List.map_take]
  by_cases h : k ≤ ws.length
  · rw [Nat.min_eq_left h]
  · rw [Nat.min_eq_right (by omega), List.take_of_length_le (by rw [List.length_map]; exact Nat.le_refl _), List.take_of_length_le (by rw [List.length_map]; omega)]
def menuA : List Str := ["a", "b", "c", "d", "e", "f", "g"]
def menuB : List Str := ["x", "way", "runs", "stop", "b", "zz", "place"]
def menuN : List Str := ["p", "q", "r", "s", "t", "u", "v", "x", "b", "a", "way", "none"]
theorem menus_ok : (menuA.Nodup ∧ ∀ x ∈ menuA, isWord x = true) ∧ (menuB.Nodup ∧ ∀ x ∈ menuB, isWord x = true) ∧ (menuN.Nodup ∧ ∀ x ∈ menuN, isWord x = true) := by decide +kernel
section
variable {P : Program} {w : World} {K : PySem.W.Frag} {mg : Str → Option Value} {base : Heap}
/-- a list of m unlike words, new -/
def spWordsL (ok : List Str → Prop) (mx : Nat) : Sp := fun vs H Q _ => ∃ (p q : Addr) (rs : List Int) (i : Int) (m : Nat), vs = [.ref p, .int m] ∧ PoolAt H p q rs i ∧ m ≤ mx ∧
  ∀ (r : Addr) (ws : List Str) (H' : Hp) (i' : Int), H r = none → ok ws → ws.Nodup → ws.length = m → But p H H' → PoolAt H' p q rs i' → H' r = some (.lst (ws.map V.str)) → Q (.ref r) H'
abbrev nsWords : List Str := ["pool", "many", "menus", "some", "at"]
theorem scWords : FnScope nsWords ["pool", "many"] (defScope sWords) := ⟨rfl, rfl, rfl, by decide +kernel, rfl, by decide +kernel, by decide +kernel⟩
/-- from one of the two menus -/
def okWords (ws : List Str) : Prop := (∀ x ∈ ws, x ∈ menuA) ∨ (∀ x ∈ ws, x ∈ menuB)
theorem ok_words {f fD : Addr} {fd fdD : FuncData} (F : Fun K "_law_words" "_law_words" sWords f fd) (FD : Fun K "_law_draw" "_law_draw" sDraw fD fdD) (bD : Binds K fdD ["pool", "many"] []) (gD : mg "_law_draw" = some (.ref fD)) (GD : FnOk P w K mg base CX0 1 fD fdD ["pool", "many"] spDraw) : FnOk P w K mg base CX0 2 f fd ["pool", "many"] (spWordsL okWords 7) := by
  refine F.ok scWords (fun vs H Q E h => ?_) (fun cdv A outer s H vs Q E hr h => ?_)
  · obtain ⟨p, q, rs, i, m, rfl, _⟩ := h
    rfl
  · obtain ⟨p, q, rs, i, m, rfl, hP, hm, k⟩ := h
    have nd := scWords.nd
    refine ⟨_, pss_cons (ps_set (i := 2) nd rfl (Or.inl rfl) (pe_lst (pa_cons (pe_lst (pa_cons pe_str (pa_cons pe_str (pa_cons pe_str (pa_cons pe_str (pa_cons pe_str (pa_cons pe_str (pa_cons pe_str pa_nil))))))))
        (pa_cons (pe_lst (pa_cons pe_str (pa_cons pe_str (pa_cons pe_str (pa_cons pe_str (pa_cons pe_str (pa_cons pe_str (pa_cons pe_str pa_nil)))))))) pa_nil))))
      (pss_cons (ps_par (i := 3) (j := 4) (by rfl) nd rfl rfl (by decide) rfl rfl (pa_cons (pe_ix ix_list (pv 2) (pe_call GD hr (by rfl) gD FD.kp bD .nil pass0 (pa_cons (pv 0) (pa_cons pe_int pa_nil))) (fun _ _ => rfl)) (pa_cons (pe_call GD hr (by rfl) gD FD.kp bD .nil pass0 (pa_cons (pv 0) (pa_cons pe_int pa_nil))) pa_nil)) (by rfl))
      (pss_one (ps_ret (pe_slice sl_list (pe_op op_cat (pe_slice sl_list (pv 3) (po_some (pv 4)) po_none) (pe_slice sl_list (pv 3) po_none (po_some (pv 4)))) po_none (po_some (pv 1)))))), ?_⟩
    refine ⟨by show 7 ≤ sizeLine; decide, fun a na => ⟨by show 7 ≤ sizeLine; decide, fun b nb => ⟨by show 2 ≤ sizeLine; decide, fun ms nms => ?_⟩⟩⟩
    replace nb : (upd H a (.lst (menuA.map V.str))) b = none := nb
    replace nms : (upd (upd H a (.lst (menuA.map V.str))) b (.lst (menuB.map V.str))) ms = none := nms
    have s1 : Same H (upd H a (.lst (menuA.map V.str))) := sm na
    have s2 : Same (upd H a (.lst (menuA.map V.str))) (upd (upd H a (.lst (menuA.map V.str))) b (.lst (menuB.map V.str))) := sm nb
    have s3 := sm (o := .lst [.ref a, .ref b]) nms
    have ha : (upd (upd (upd H a (.lst (menuA.map V.str))) b (.lst (menuB.map V.str))) ms (.lst [.ref a, .ref b])) a = some (.lst (menuA.map V.str)) := s3 _ _ (s2 _ _ upd_same)
    have hb : (upd (upd (upd H a (.lst (menuA.map V.str))) b (.lst (menuB.map V.str))) ms (.lst [.ref a, .ref b])) b = some (.lst (menuB.map V.str)) := s3 _ _ upd_same
    have hms : (upd (upd (upd H a (.lst (menuA.map V.str))) b (.lst (menuB.map V.str))) ms (.lst [.ref a, .ref b])) ms = some (.lst [.ref a, .ref b]) := upd_same
    have s03 : Same H (upd (upd (upd H a (.lst (menuA.map V.str))) b (.lst (menuB.map V.str))) ms (.lst [.ref a, .ref b])) := (s1.trans s2).trans s3
    show tSeq _ _ _ _ (upd (upd (upd H a (.lst (menuA.map V.str))) b (.lst (menuB.map V.str))) ms (.lst [.ref a, .ref b]))
    generalize upd (upd (upd H a (.lst (menuA.map V.str))) b (.lst (menuB.map V.str))) ms (.lst [.ref a, .ref b]) = H3 at ha hb hms s03
    have hP3 := hP.same s03
    have nap : a ≠ p := fun z => by rw [z, hP.hp] at na; cases na
    have nbp : b ≠ p := fun z => by rw [z, s1 _ _ hP.hp] at nb; cases nb
    have nmp : ms ≠ p := fun z => by rw [z, s2 _ _ (s1 _ _ hP.hp)] at nms; cases nms
    refine ⟨_, rfl, _, rfl, p, q, rs, i, 2, rfl, hP3, by decide, fun r r0 r1 => ?_⟩
    obtain ⟨c, menu, hat, hcp, hc, okm, nm, lm⟩ : ∃ (c : Addr) (menu : List Str), atI [V.ref a, V.ref b] r = some (.ref c) ∧ c ≠ p ∧ H3 c = some (.lst (menu.map V.str)) ∧ ((∀ x ∈ menu, x ∈ menuA) ∨ (∀ x ∈ menu, x ∈ menuB)) ∧ menu.Nodup ∧ menu.length = 7 := by
      have : r = 0 ∨ r = 1 := by omega
      rcases this with rfl | rfl
      · exact ⟨a, menuA, atI_nat (j := 0) rfl, nap, ha, .inl fun _ z => z, menus_ok.1.1, rfl⟩
      · exact ⟨b, menuB, atI_nat (j := 1) rfl, nbp, hb, .inr fun _ z => z, menus_ok.2.1.1, rfl⟩
    refine ⟨ms, _, _, _, rfl, rfl, SqL.of (by rw [upd_ne nmp]; exact hms), hat, ?_⟩
    have hP4 := pool_step hP3
    refine ⟨_, rfl, p, q, rs, i + 1, 7, rfl, hP4, by decide, fun r' r0' r1' => ?_⟩
    obtain ⟨j, rfl, hj⟩ := nat_of r0' r1'
    have hP5 := pool_step hP4
    have b5 : But p H3 (upd (upd H3 p (.lst [.ref q, .int (i + 1)])) p (.lst [.ref q, .int (i + 1 + 1)])) := (But.upd _).trans (But.upd _)
    have hc5 := b5 _ _ hcp hc
    refine ⟨_, _, rfl, ?_⟩
    generalize upd (upd H3 p (.lst [.ref q, .int (i + 1)])) p (.lst [.ref q, .int (i + 1 + 1)]) = H5 at hP5 b5 hc5
    have jl : j ≤ menu.length := by omega
    refine ⟨_, rfl, _, rfl, _, rfl, c, _, rfl, SqL.of hc5, fun t1 n1 => ?_⟩
    rw [cut_from menu jl]
    refine ⟨_, rfl, _, rfl, _, rfl, c, _, rfl, SqL.of (sm n1 _ _ hc5), fun t2 n2 => ?_⟩
    rw [cut_to menu j]
    refine ⟨t1, t2, _, _, rfl, rfl, sm n2 _ _ upd_same, upd_same, ?_, fun t3 n3 => ?_⟩
    · rw [List.length_map, List.length_map, List.length_drop, List.length_take, sizeLine_eq]
      omega
    · refine ⟨_, rfl, _, rfl, t3, _, rfl, SqL.of upd_same, fun t4 n4 => ?_⟩
      rw [← List.map_append, cut_to]
      have s5 : Same H5 (upd (upd (upd (upd H5 t1 (.lst ((menu.drop j).map V.str))) t2 (.lst ((menu.take j).map V.str))) t3 (.lst ((menu.drop j ++ menu.take j).map V.str))) t4 (.lst (((menu.drop j ++ menu.take j).take m).map V.str))) := by
        rw [← List.map_append] at n4
        exact (((sm n1).trans (sm n2)).trans (sm n3)).trans (sm n4)
      have b0 : But p H H5 := (But.of s03).trans b5
      have f4 : H5 t4 = none := by
        cases z : H5 t4 with
        | none => rfl
        | some o => rw [sm n3 _ _ (sm n2 _ _ (sm n1 _ _ z))] at n4; cases n4
      have n4p : t4 ≠ p := fun z => by rw [z, hP5.hp] at f4; cases f4
      rw [List.map_append] at s5 ⊢
      refine k t4 (rot menu j m) _ _ (b0.free n4p f4) ?_ (rot_nodup nm) (rot_len (by omega)) (b0.trans (But.of s5)) (hP5.same s5) upd_same
      rcases okm with z | z
      · exact .inl fun x hx => z x (rot_mem hx)
      · exact .inr fun x hx => z x (rot_mem hx)
abbrev nsNames : List Str := ["pool", "many", "some", "at"]
theorem scNames : FnScope nsNames ["pool", "many"] (defScope sNames) := ⟨rfl, rfl, rfl, by decide +kernel, rfl, by decide +kernel, by decide +kernel⟩
def okNames (ws : List Str) : Prop := ∀ x ∈ ws, x ∈ menuN
theorem ok_names {f fD : Addr} {fd fdD : FuncData} (F : Fun K "_law_names" "_law_names" sNames f fd) (FD : Fun K "_law_draw" "_law_draw" sDraw fD fdD) (bD : Binds K fdD ["pool", "many"] []) (gD : mg "_law_draw" = some (.ref fD)) (GD : FnOk P w K mg base CX0 1 fD fdD ["pool", "many"] spDraw) : FnOk P w K mg base CX0 2 f fd ["pool", "many"] (spWordsL okNames 12) := by
  refine F.ok scNames (fun vs H Q E h => ?_) (fun cdv A outer s H vs Q E hr h => ?_)
  · obtain ⟨p, q, rs, i, m, rfl, _⟩ := h
    rfl
  · obtain ⟨p, q, rs, i, m, rfl, hP, hm, k⟩ := h
    have nd := scNames.nd
    refine ⟨_, pss_cons (ps_set (i := 2) nd rfl (Or.inl rfl) (pe_lst (pa_cons pe_str (pa_cons pe_str (pa_cons pe_str (pa_cons pe_str (pa_cons pe_str (pa_cons pe_str (pa_cons pe_str (pa_cons pe_str (pa_cons pe_str (pa_cons pe_str (pa_cons pe_str (pa_cons pe_str pa_nil))))))))))))))
      (pss_cons (ps_set (i := 3) nd rfl (Or.inl rfl) (pe_call GD hr (by rfl) gD FD.kp bD .nil pass0 (pa_cons (pv 0) (pa_cons pe_int pa_nil))))
      (pss_one (ps_ret (pe_slice sl_list (pe_op op_cat (pe_slice sl_list (pv 2) (po_some (pv 3)) po_none) (pe_slice sl_list (pv 2) po_none (po_some (pv 3)))) po_none (po_some (pv 1)))))), ?_⟩
    refine ⟨by show 12 ≤ sizeLine; decide, fun c nc => ?_⟩
    have s3 : Same H (upd H c (.lst (menuN.map V.str))) := sm nc
    have hc : (upd H c (.lst (menuN.map V.str))) c = some (.lst (menuN.map V.str)) := upd_same
    show tSeq _ _ _ _ (upd H c (.lst (menuN.map V.str)))
    have hcp : c ≠ p := fun z => by rw [z, hP.hp] at nc; cases nc
    generalize upd H c (.lst (menuN.map V.str)) = H3 at s3 hc
    have hP3 := hP.same s3
    refine ⟨_, rfl, p, q, rs, i, 12, rfl, hP3, by decide, fun r' r0' r1' => ?_⟩
    obtain ⟨j, rfl, hj⟩ := nat_of r0' r1'
    have hP5 := pool_step hP3
    have b5 : But p H3 (upd H3 p (.lst [.ref q, .int (i + 1)])) := But.upd _
    have hc5 := b5 _ _ hcp hc
    generalize upd H3 p (.lst [.ref q, .int (i + 1)]) = H5 at hP5 b5 hc5
    have lm : menuN.length = 12 := rfl
    have jl : j ≤ menuN.length := by omega
    refine ⟨_, rfl, _, rfl, _, rfl, c, _, rfl, SqL.of hc5, fun t1 n1 => ?_⟩
    rw [cut_from menuN jl]
    refine ⟨_, rfl, _, rfl, _, rfl, c, _, rfl, SqL.of (sm n1 _ _ hc5), fun t2 n2 => ?_⟩
    rw [cut_to menuN j]
    refine ⟨t1, t2, _, _, rfl, rfl, sm n2 _ _ upd_same, upd_same, ?_, fun t3 n3 => ?_⟩
    · rw [List.length_map, List.length_map, List.length_drop, List.length_take, sizeLine_eq]
      omega
    · refine ⟨_, rfl, _, rfl, t3, _, rfl, SqL.of upd_same, fun t4 n4 => ?_⟩
      rw [← List.map_append, cut_to]
      have s5 : Same H5 (upd (upd (upd (upd H5 t1 (.lst ((menuN.drop j).map V.str))) t2 (.lst ((menuN.take j).map V.str))) t3 (.lst ((menuN.drop j ++ menuN.take j).map V.str))) t4 (.lst (((menuN.drop j ++ menuN.take j).take m).map V.str))) := by
        rw [← List.map_append] at n4
        exact (((sm n1).trans (sm n2)).trans (sm n3)).trans (sm n4)
      have b0 : But p H H5 := (But.of s3).trans b5
      have f4 : H5 t4 = none := by
        cases z : H5 t4 with
        | none => rfl
        | some o => rw [sm n3 _ _ (sm n2 _ _ (sm n1 _ _ z))] at n4; cases n4
      have n4p : t4 ≠ p := fun z => by rw [z, hP5.hp] at f4; cases f4
      rw [List.map_append] at s5 ⊢
      exact k t4 (rot menuN j m) _ _ (b0.free n4p f4) (fun x hx => rot_mem hx) (rot_nodup menus_ok.2.2.1) (rot_len (by omega)) (b0.trans (But.of s5)) (hP5.same s5) upd_same
end
end LW


set_option Elab.async false
set_option linter.all false
set_option maxRecDepth 100000
set_option maxHeartbeats 4000000
/-! A drawn program, in plain mathematics; the heap while one is drawn. -/
namespace LW
open PySem L2 PG
open LH hiding sm top
structure Drawn (pls : List Str) (ls : List Lk) (es : List Str) : Prop where
  okw : okWords pls
  nd : pls.Nodup
  n2 : 2 ≤ pls.length
  n7 : pls.length ≤ 7
  kn : (keysL ls).Nodup
  km : ∀ x ∈ keysL ls, x ∈ menuN
  l1 : 1 ≤ ls.length
  l2 : ls.length ≤ 12
  t1 : ∀ (i : Nat) (y : Str), 1 ≤ i → pls[i]? = some y → ∃ (j : Nat) (x w : Str), j < i ∧ pls[j]? = some x ∧ (w, x, y) ∈ ls
  t3 : ∀ l ∈ ls, l.2.1 ∈ pls ∧ l.2.2 ∈ pls
  ex1 : ∀ e ∈ es, e ∈ pls
  exn : es.Nodup
  tr : ∃ ts ms, ls = ts ++ ms ∧ (∀ l ∈ ts, l.2.1 ≠ l.2.2) ∧ ∀ x ∈ pls, x ∈ PG.ends ts
  ex2 : ∀ (i : Nat) (x : Str), pls[i]? = some x → x ∉ es → ∃ (j : Nat) (y w : Str), i < j ∧ pls[j]? = some y ∧ (w, x, y) ∈ ls
theorem Drawn.b {pls : List Str} {ls : List Lk} {es : List Str} (d : Drawn pls ls es) : ∃ b, pls[0]? = some b := ⟨_, List.getElem?_eq_getElem (by have := d.n2; omega)⟩
theorem Drawn.ends {pls : List Str} {ls : List Lk} {es : List Str} (d : Drawn pls ls es) (x : Str) : x ∈ PG.ends ls ↔ x ∈ pls := by
  rw [ends_mem]
  constructor
  · rintro ⟨l, hl, h | h⟩
    · rw [h]; exact (d.t3 l hl).1
    · rw [h]; exact (d.t3 l hl).2
  · intro h
    obtain ⟨i, hi, e⟩ := List.getElem_of_mem h
    have hx : pls[i]? = some x := by rw [List.getElem?_eq_getElem hi, e]
    by_cases z : i = 0
    · obtain ⟨y, hy⟩ : ∃ y, pls[1]? = some y := ⟨_, List.getElem?_eq_getElem (by have := d.n2; omega)⟩
      obtain ⟨j, x', w, hj, hx', m⟩ := d.t1 1 y (Nat.le_refl 1) hy
      have ej : j = 0 := by omega
      rw [ej, ← z, hx] at hx'
      cases hx'
      exact ⟨_, m, .inl rfl⟩
    · obtain ⟨j, x', w, hj, hx', m⟩ := d.t1 i x (by omega) hx
      exact ⟨_, m, .inr rfl⟩
theorem word_of {pls : List Str} (h : okWords pls) {x : Str} (hx : x ∈ pls) : isWord x = true := by
  rcases h with h | h
  · exact menus_ok.1.2 x (h x hx)
  · exact menus_ok.2.1.2 x (h x hx)
theorem Drawn.reach {pls : List Str} {ls : List Lk} {es : List Str} (d : Drawn pls ls es) {b : Str} (hb : pls[0]? = some b) : ∀ (i : Nat) (x : Str), pls[i]? = some x → Rch [b] (ls.map (·.2)) x := by
  intro i
  induction i using Nat.strongRecOn with
  | _ i ih =>
    intro x hx
    by_cases z : i = 0
    · rw [z, hb] at hx
      cases hx
      exact .base List.mem_cons_self
    · obtain ⟨j, x', w, hj, hx', m⟩ := d.t1 i x (by omega) hx
      exact .step (ih j hj x' hx') (List.mem_map.mpr ⟨_, m, rfl⟩)
theorem Drawn.leave {pls : List Str} {ls : List Lk} {es : List Str} (d : Drawn pls ls es) : ∀ (k i : Nat) (x : Str), pls.length - i = k → pls[i]? = some x → Rch es (ls.map fun l => (l.2.2, l.2.1)) x := by
  intro k
  induction k using Nat.strongRecOn with
  | _ k ih =>
    intro i x hk hx
    by_cases z : x ∈ es
    · exact .base z
    · obtain ⟨j, y, w, hj, hy, m⟩ := d.ex2 i x hx z
      have lj : j < pls.length := (List.getElem?_eq_some_iff.mp hy).1
      exact .step (ih (pls.length - j) (by omega) j y rfl hy) (List.mem_map.mpr ⟨_, m, rfl⟩)
theorem Drawn.last {pls : List Str} {ls : List Lk} {es : List Str} (d : Drawn pls ls es) : es ≠ [] := fun z => by
  obtain ⟨y, hy⟩ : ∃ y, pls[pls.length - 1]? = some y := ⟨_, List.getElem?_eq_getElem (by have := d.n2; omega)⟩
  obtain ⟨j, y', w, hj, hy', _⟩ := d.ex2 _ y hy (by rw [z]; exact List.not_mem_nil)
  have lj : j < pls.length := (List.getElem?_eq_some_iff.mp hy').1
  omega
theorem at_of_mem {pls : List Str} {x : Str} (h : x ∈ pls) : ∃ i : Nat, pls[i]? = some x := by
  obtain ⟨i, hi, e⟩ := List.getElem_of_mem h
  exact ⟨i, by rw [List.getElem?_eq_getElem hi, e]⟩
theorem Drawn.plc {pls : List Str} {ls : List Lk} {es : List Str} (d : Drawn pls ls es) : (PG.plc ls).length ≤ 7 := by
  have z := nodup_le (plc_nodup ls) fun x hx => (d.ends x).mp (plc_mem.mp hx)
  have := d.n7
  omega
theorem Drawn.good {pls : List Str} {ls : List Lk} {es : List Str} (d : Drawn pls ls es) {b : Str} (hb : pls[0]? = some b) : GoodP ls b es where
  n1 := d.l1
  n2 := by have := d.l2; omega
  sm := by have := d.plc; omega
  nd := d.kn
  wd := fun l hl => ⟨menus_ok.2.2.2 _ (d.km _ (key_mem hl)), word_of d.okw (d.t3 l hl).1, word_of d.okw (d.t3 l hl).2⟩
  hb := (d.ends b).mpr (List.mem_of_getElem? hb)
  he := d.last
  hs := fun e he => (d.ends e).mpr (d.ex1 e he)
  hn := d.exn
  reach := fun x hx => by
    obtain ⟨i, hi⟩ := at_of_mem ((d.ends x).mp hx)
    exact d.reach hb i x hi
  leave := fun x hx => by
    obtain ⟨i, hi⟩ := at_of_mem ((d.ends x).mp hx)
    exact d.leave _ i x rfl hi
/-! ### the heap -/
structure St1 (K : PySem.W.Frag) (H : Hp) (p q : Addr) (rs : List Int) (r1 r2 dp dq : Addr) (pls nms : List Str) (H' : Hp) (i : Int) (kvs : List (Key × V)) (ls : List Lk) (ovs : List (Key × V)) : Prop where
  but : But p H H'
  pool : PoolAt H' p q rs i
  h1 : H' r1 = some (.lst (pls.map V.str))
  h2 : H' r2 = some (.lst (nms.map V.str))
  hd : H' dp = some (.dK kvs)
  lk : Lks K H' kvs ls
  ho : H' dq = some (.dK ovs)
section
variable {K : PySem.W.Frag} {H H' H'' : Hp} {p q r1 r2 dp dq : Addr} {rs : List Int} {pls nms : List Str} {i : Int} {kvs ovs : List (Key × V)} {ls : List Lk}
theorem strs_ne {H' : Hp} {r : Addr} {ws : List Str} (h : H' r = some (.lst (ws.map V.str))) (hP : PoolAt H' p q rs i) : r ≠ p := fun z => by
  rw [z, hP.hp] at h
  have e := Option.some.inj h
  cases ws with
  | nil => cases e
  | cons x ws => cases e
theorem strs_neq {H' : Hp} {r : Addr} {ws : List Str} (n : ws ≠ []) (h : H' r = some (.lst (ws.map V.str))) (hP : PoolAt H' p q rs i) : r ≠ q := fun z => by
  rw [z, hP.hq] at h
  have e := Option.some.inj h
  cases ws with
  | nil => exact n rfl
  | cons x ws =>
    cases rs with
    | nil => cases e
    | cons y rs => cases e
theorem St1.draw (s : St1 K H p q rs r1 r2 dp dq pls nms H' i kvs ls ovs) : St1 K H p q rs r1 r2 dp dq pls nms (upd H' p (.lst [.ref q, .int (i + 1)])) (i + 1) kvs ls ovs where
  but := s.but.trans (But.upd _)
  pool := pool_step s.pool
  h1 := by rw [upd_ne (strs_ne s.h1 s.pool)]; exact s.h1
  h2 := by rw [upd_ne (strs_ne s.h2 s.pool)]; exact s.h2
  hd := by rw [upd_ne (ne_of s.hd s.pool.hp (by intro z; cases z))]; exact s.hd
  lk := PG.Paired.imp (fun _ _ z => ⟨z.1, two_lst s.pool.hp z.2⟩) s.lk
  ho := by rw [upd_ne (ne_of s.ho s.pool.hp (by intro z; cases z))]; exact s.ho
theorem St1.same (s : St1 K H p q rs r1 r2 dp dq pls nms H' i kvs ls ovs) (k : Same H' H'') : St1 K H p q rs r1 r2 dp dq pls nms H'' i kvs ls ovs :=
  ⟨s.but.trans (But.of k), s.pool.same k, k _ _ s.h1, k _ _ s.h2, k _ _ s.hd, s.lk.same k, k _ _ s.ho⟩
theorem pool_upd {o : HO} {d : Addr} (hP : PoolAt H' p q rs i) (n1 : p ≠ d) (n2 : q ≠ d) : PoolAt (L2.upd H' d o) p q rs i := ⟨by rw [upd_ne n1]; exact hP.hp, by rw [upd_ne n2]; exact hP.hq, hP.i0, hP.len, hP.bd⟩
theorem St1.put (s : St1 K H p q rs r1 r2 dp dq pls nms H' i kvs ls ovs) (nd : H dp = none) (ne : dp ≠ dq) {w x y : Str} {v : V} (hv : TwoAt K H' v (x, y)) : St1 K H p q rs r1 r2 dp dq pls nms (upd H' dp (.dK (kvs ++ [(Sum.inr w, v)]))) i (kvs ++ [(Sum.inr w, v)]) (ls ++ [(w, x, y)]) ovs where
  but := fun b o nb e => by rw [upd_ne (ne_of_none e nd)]; exact s.but b o nb e
  pool := pool_upd s.pool (ne_of s.pool.hp s.hd (by intro z; cases z)) (ne_of s.pool.hq s.hd (by intro z; cases z))
  h1 := by rw [upd_ne (ne_of s.h1 s.hd (by intro z; cases z))]; exact s.h1
  h2 := by rw [upd_ne (ne_of s.h2 s.hd (by intro z; cases z))]; exact s.h2
  hd := upd_same
  lk := paired_snoc (PG.Paired.imp (fun _ _ z => ⟨z.1, two_dk s.hd z.2⟩) s.lk) ⟨rfl, two_dk s.hd hv⟩
  ho := by rw [upd_ne ne.symm]; exact s.ho
theorem St1.out (s : St1 K H p q rs r1 r2 dp dq pls nms H' i kvs ls ovs) (nd : H dq = none) (ne : dp ≠ dq) (ov2 : List (Key × V)) : St1 K H p q rs r1 r2 dp dq pls nms (upd H' dq (.dK ov2)) i kvs ls ov2 where
  but := fun b o nb e => by rw [upd_ne (ne_of_none e nd)]; exact s.but b o nb e
  pool := pool_upd s.pool (ne_of s.pool.hp s.ho (by intro z; cases z)) (ne_of s.pool.hq s.ho (by intro z; cases z))
  h1 := by rw [upd_ne (ne_of s.h1 s.ho (by intro z; cases z))]; exact s.h1
  h2 := by rw [upd_ne (ne_of s.h2 s.ho (by intro z; cases z))]; exact s.h2
  hd := by rw [upd_ne ne]; exact s.hd
  lk := PG.Paired.imp (fun _ _ z => ⟨z.1, two_dk s.ho z.2⟩) s.lk
  ho := upd_same
/-- a list of our own changes -/
theorem St1.lst (s : St1 K H p q rs r1 r2 dp dq pls nms H' i kvs ls ovs) {D : Addr} {xs ys : List V} (hD : H' D = some (.lst xs)) (n0 : H D = none) (n1 : D ≠ p) (n2 : D ≠ q) (n3 : D ≠ r1) (n4 : D ≠ r2) : St1 K H p q rs r1 r2 dp dq pls nms (upd H' D (.lst ys)) i kvs ls ovs where
  but := fun b o nb e => by rw [upd_ne (ne_of_none e n0)]; exact s.but b o nb e
  pool := pool_upd s.pool n1.symm n2.symm
  h1 := by rw [upd_ne n3.symm]; exact s.h1
  h2 := by rw [upd_ne n4.symm]; exact s.h2
  hd := by rw [upd_ne (ne_of s.hd hD (by intro z; cases z))]; exact s.hd
  lk := PG.Paired.imp (fun _ _ z => ⟨z.1, two_lst hD z.2⟩) s.lk
  ho := by rw [upd_ne (ne_of s.ho hD (by intro z; cases z))]; exact s.ho
end
/-- what the walk over the places has made -/
structure M1 (pls nms : List Str) (i : Nat) (ls : List Lk) (ovs : List (Key × V)) : Prop where
  ks : keysL ls = nms.take i
  t1 : ∀ (t : Nat) (y : Str), 1 ≤ t → t ≤ i → pls[t]? = some y → ∃ (j : Nat) (x w : Str), j < t ∧ pls[j]? = some x ∧ (w, x, y) ∈ ls
  t3 : ∀ l ∈ ls, l.2.1 ∈ pls ∧ l.2.2 ∈ pls
  o : ∀ x : Str, (valV ovs (Sum.inr x : Key)).isSome = true → ∃ (j t : Nat) (y w : Str), j < t ∧ pls[j]? = some x ∧ pls[t]? = some y ∧ (w, x, y) ∈ ls
  ol : ovs.length ≤ i
  ne : ∀ l ∈ ls, l.2.1 ≠ l.2.2
theorem keysL_snoc (ls : List Lk) (l : Lk) : keysL (ls ++ [l]) = keysL ls ++ [l.1] := by
  unfold keysL
  rw [List.map_append]
  rfl
theorem M1.step {pls nms : List Str} {i : Nat} {ls : List Lk} {ovs : List (Key × V)} (m : M1 pls nms i ls ovs) (np : pls.Nodup) {w x y : Str} {j : Nat} (hw : nms[i]? = some w) (hj : j < i + 1) (hx : pls[j]? = some x) (hy : pls[i + 1]? = some y) : M1 pls nms (i + 1) (ls ++ [(w, x, y)]) (putK ovs (Sum.inr x : Key) (.bl true)) where
  ks := by rw [keysL_snoc, m.ks, List.take_add_one, hw]; rfl
  t1 := fun t y' h1 h2 e => by
    by_cases z : t ≤ i
    · obtain ⟨j', x', w', a, b, c⟩ := m.t1 t y' h1 z e
      exact ⟨j', x', w', a, b, List.mem_append_left _ c⟩
    · have et : t = i + 1 := by omega
      subst et
      rw [hy] at e
      cases e
      exact ⟨j, x, w, hj, hx, List.mem_append_right _ List.mem_cons_self⟩
  t3 := fun l hl => by
    rcases List.mem_append.mp hl with z | z
    · exact m.t3 l z
    · rw [List.mem_singleton.mp z]
      exact ⟨List.mem_of_getElem? hx, List.mem_of_getElem? hy⟩
  o := fun x' h => by
    rw [valV_put] at h
    by_cases z : (Sum.inr x' : Key) = Sum.inr x
    · obtain rfl := Sum.inr.inj z
      exact ⟨j, i + 1, y, w, hj, hx, hy, List.mem_append_right _ List.mem_cons_self⟩
    · rw [if_neg z] at h
      obtain ⟨j', t, y', w', a, b, c, d⟩ := m.o x' h
      exact ⟨j', t, y', w', a, b, c, List.mem_append_left _ d⟩
  ol := Nat.le_trans (length_putK _ _ _) (Nat.succ_le_succ m.ol)
  ne := fun l hl => by
    rcases List.mem_append.mp hl with z | z
    · exact m.ne l z
    · rw [List.mem_singleton.mp z]
      intro e
      have e' : x = y := e
      rw [← e'] at hy
      have q := (List.getElem?_inj (List.getElem?_eq_some_iff.mp hx).1 np).mp (hx.trans hy.symm)
      omega
/-- behind it: ways more -/
structure M2 (pls nms : List Str) (n : Nat) (i : Nat) (ls : List Lk) (ovs : List (Key × V)) : Prop where
  tr : ∃ ts ms, ls = ts ++ ms ∧ (∀ l ∈ ts, l.2.1 ≠ l.2.2) ∧ ∀ x ∈ pls, x ∈ PG.ends ts
  ks : keysL ls = nms.take (n - 1 + i)
  t1 : ∀ (t : Nat) (y : Str), 1 ≤ t → pls[t]? = some y → ∃ (j : Nat) (x w : Str), j < t ∧ pls[j]? = some x ∧ (w, x, y) ∈ ls
  t3 : ∀ l ∈ ls, l.2.1 ∈ pls ∧ l.2.2 ∈ pls
  o : ∀ x : Str, (valV ovs (Sum.inr x : Key)).isSome = true → ∃ (j t : Nat) (y w : Str), j < t ∧ pls[j]? = some x ∧ pls[t]? = some y ∧ (w, x, y) ∈ ls
theorem M1.m2 {pls nms : List Str} {ls : List Lk} {ovs : List (Key × V)} (m : M1 pls nms (pls.length - 1) ls ovs) (n2 : 2 ≤ pls.length) : M2 pls nms pls.length 0 ls ovs where
  tr := by
    refine ⟨ls, [], (List.append_nil _).symm, m.ne, fun x hx => ?_⟩
    obtain ⟨i, hi, e⟩ := List.getElem_of_mem hx
    have hx : pls[i]? = some x := by rw [List.getElem?_eq_getElem hi, e]
    rw [ends_mem]
    by_cases z : i = 0
    · obtain ⟨y, hy⟩ : ∃ y, pls[1]? = some y := ⟨_, List.getElem?_eq_getElem (by omega)⟩
      obtain ⟨j, x', w, hj, hx', mm⟩ := m.t1 1 y (Nat.le_refl 1) (by omega) hy
      have ej : j = 0 := by omega
      rw [ej, ← z, hx] at hx'
      cases hx'
      exact ⟨_, mm, .inl rfl⟩
    · obtain ⟨j, x', w, hj, hx', mm⟩ := m.t1 i x (by omega) (by omega) hx
      exact ⟨_, mm, .inr rfl⟩
  ks := m.ks
  t1 := fun t y h1 e => m.t1 t y h1 (by have := (List.getElem?_eq_some_iff.mp e).1; omega) e
  t3 := m.t3
  o := m.o
theorem M2.step {pls nms : List Str} {n i : Nat} {ls : List Lk} {ovs : List (Key × V)} (m : M2 pls nms n i ls ovs) {w x y : Str} (hw : nms[n - 1 + i]? = some w) (hx : x ∈ pls) (hy : y ∈ pls) : M2 pls nms n (i + 1) (ls ++ [(w, x, y)]) ovs where
  tr := by
    obtain ⟨ts, ms, e, a, b⟩ := m.tr
    exact ⟨ts, ms ++ [(w, x, y)], by rw [e, List.append_assoc], a, b⟩
  ks := by rw [keysL_snoc, m.ks, ← Nat.add_assoc, List.take_add_one, hw]; rfl
  t1 := fun t y' h1 e => by
    obtain ⟨j', x', w', a, b, c⟩ := m.t1 t y' h1 e
    exact ⟨j', x', w', a, b, List.mem_append_left _ c⟩
  t3 := fun l hl => by
    rcases List.mem_append.mp hl with z | z
    · exact m.t3 l z
    · rw [List.mem_singleton.mp z]
      exact ⟨hx, hy⟩
  o := fun x' h => by
    obtain ⟨j', t, y', w', a, b, c, d⟩ := m.o x' h
    exact ⟨j', t, y', w', a, b, c, List.mem_append_left _ d⟩
structure ES (pls : List Str) (ovs : List (Key × V)) (i : Nat) (es : List Str) : Prop where
  sub : ∀ x ∈ es, x ∈ pls.take i
  nd : es.Nodup
  ou : ∀ x ∈ pls.take i, x ∉ es → (valV ovs (Sum.inr x : Key)).isSome = true
  len : es.length ≤ i
theorem nodup_at {pls : List Str} (n : pls.Nodup) {i : Nat} {x : Str} (h : pls[i]? = some x) : x ∉ pls.take i := fun m => by
  obtain ⟨j, hj, e⟩ := List.getElem_of_mem m
  rw [List.length_take] at hj
  rw [List.getElem_take] at e
  have q1 : pls[j]? = some x := by rw [List.getElem?_eq_getElem (by omega), e]
  have z := (List.getElem?_inj (by omega) n).mp (q1.trans h.symm)
  omega
theorem ES.yes {pls : List Str} {ovs : List (Key × V)} {i : Nat} {es : List Str} (s : ES pls ovs i es) (n : pls.Nodup) {x : Str} (h : pls[i]? = some x) : ES pls ovs (i + 1) (es ++ [x]) where
  sub := fun y hy => by
    rw [List.take_add_one, h]
    rcases List.mem_append.mp hy with z | z
    · exact List.mem_append_left _ (s.sub y z)
    · exact List.mem_append_right _ z
  nd := List.nodup_append.mpr ⟨s.nd, List.nodup_cons.mpr ⟨List.not_mem_nil, List.nodup_nil⟩, fun a ha b hb e => by
    rw [List.mem_singleton.mp hb] at e
    exact nodup_at n h (s.sub x (e ▸ ha))⟩
  ou := fun y hy ny => by
    rw [List.take_add_one, h] at hy
    rcases List.mem_append.mp hy with z | z
    · exact s.ou y z fun q => ny (List.mem_append_left _ q)
    · exact absurd (List.mem_append_right es z) ny
  len := by rw [List.length_append]; exact Nat.succ_le_succ s.len
theorem ES.no {pls : List Str} {ovs : List (Key × V)} {i : Nat} {es : List Str} (s : ES pls ovs i es) {x : Str} (h : pls[i]? = some x) (o : (valV ovs (Sum.inr x : Key)).isSome = true) : ES pls ovs (i + 1) es where
  sub := fun y hy => by
    rw [List.take_add_one]
    exact List.mem_append_left _ (s.sub y hy)
  nd := s.nd
  ou := fun y hy ny => by
    rw [List.take_add_one, h] at hy
    rcases List.mem_append.mp hy with z | z
    · exact s.ou y z ny
    · rw [List.mem_singleton.mp z]
      exact o
  len := Nat.le_succ_of_le s.len
theorem drawn_of {pls nms : List Str} {i : Nat} {ls : List Lk} {ovs : List (Key × V)} {es : List Str} (okw : okWords pls) (nd : pls.Nodup) (n2 : 2 ≤ pls.length) (n7 : pls.length ≤ 7) (okn : okNames nms) (nn : nms.Nodup) (ln : nms.length ≤ 12) (l1 : pls.length - 1 ≤ nms.length) (m : M2 pls nms pls.length i ls ovs) (e : ES pls ovs pls.length es) : Drawn pls ls es where
  okw := okw
  nd := nd
  n2 := n2
  n7 := n7
  kn := by rw [m.ks]; exact nn.sublist (List.take_sublist _ _)
  km := fun x hx => okn x (by rw [m.ks] at hx; exact List.mem_of_mem_take hx)
  l1 := by
    have z : (keysL ls).length = ls.length := List.length_map _
    rw [m.ks, List.length_take] at z
    omega
  l2 := by
    have z : (keysL ls).length = ls.length := List.length_map _
    rw [m.ks, List.length_take] at z
    omega
  t1 := m.t1
  t3 := m.t3
  ex1 := fun x hx => List.mem_of_mem_take (e.sub x hx)
  exn := e.nd
  tr := m.tr
  ex2 := fun j x hx ne => by
    have z := e.ou x (by rw [List.take_length]; exact List.mem_of_getElem? hx) ne
    obtain ⟨j', t, y, w, a, b, c, d⟩ := m.o x z
    have ej : j' = j := (List.getElem?_inj (List.getElem?_eq_some_iff.mp b).1 nd).mp (b.trans hx.symm)
    exact ⟨t, y, w, by omega, c, d⟩
end LW


set_option Elab.async false
set_option linter.all false
set_option maxRecDepth 100000
set_option maxHeartbeats 4000000
namespace LW
open PySem L2 PG
open LH hiding sm top
abbrev sProgram : Stmt := LH.top 48
theorem pe_dead {X : Cx} {e : Expr} : PE X e (fun _ _ _ => False) := ⟨fun _ _ _ _ _ _ h => h.elim⟩
/-- the law's names, ours -/
structure LT (mg : Str → Option Value) : Prop where
  range : mg "range" = none
  len : mg "len" = none
  min : mg "min" = none
  max : mg "max" = none
/-- a program as the laws draw it: a dict of its ways, begin and exits -/
structure PrgAt (K : PySem.W.Frag) (H : Hp) (r dp ex : Addr) (ls : List Lk) (b : Str) (es : List Str) : Prop where
  hr : H r = some (.dK [(Sum.inr "ways", .ref dp), (Sum.inr "begin", .str b), (Sum.inr "exits", .ref ex)])
  hw : ∃ kvs, H dp = some (.dK kvs) ∧ Lks K H kvs ls
  he : H ex = some (.lst (es.map V.str))
theorem PrgAt.same {K : PySem.W.Frag} {H H' : Hp} {r dp ex : Addr} {ls : List Lk} {b : Str} {es : List Str} (h : PrgAt K H r dp ex ls b es) (s : Same H H') : PrgAt K H' r dp ex ls b es := by
  obtain ⟨a, ⟨kvs, c, d⟩, e⟩ := h
  exact ⟨s _ _ a, ⟨kvs, s _ _ c, d.same s⟩, s _ _ e⟩
def spProgram (K : PySem.W.Frag) : Sp := fun vs H Q _ => ∃ (p q : Addr) (rs : List Int) (i : Int) (mo n : Nat), vs = [.ref p, .int mo, .int n, .bl true] ∧ PoolAt H p q rs i ∧ 2 ≤ mo ∧ mo ≤ 7 ∧ n ≤ 6 ∧
  ∀ (r dp ex : Addr) (pls : List Str) (ls : List Lk) (es : List Str) (b : Str) (H' : Hp) (i' : Int), H r = none → H dp = none → H ex = none → Drawn pls ls es → pls[0]? = some b → pls.length ≤ mo → But p H H' → PoolAt H' p q rs i' → PrgAt K H' r dp ex ls b es → Q (.ref r) H'
section
variable {P : Program} {w : World} {K : PySem.W.Frag} {mg : Str → Option Value} {base : Heap}
abbrev nsProgram : List Str := ["pool", "most", "more", "rings", "places", "names", "pairs", "outs", "at", "start", "one", "other", "first", "last", "exits", "place"]
theorem scProgram : FnScope nsProgram ["pool", "most", "more", "rings"] (defScope sProgram) := ⟨rfl, rfl, rfl, by decide +kernel, rfl, by decide +kernel, by decide +kernel⟩
theorem ok_program {f fD fW fN : Addr} {fd fdD fdW fdN : FuncData} (F : Fun K "_law_program" "_law_program" sProgram f fd) (T : LT mg) (FD : Fun K "_law_draw" "_law_draw" sDraw fD fdD) (bD : Binds K fdD ["pool", "many"] []) (gD : mg "_law_draw" = some (.ref fD)) (GD : FnOk P w K mg base CX0 1 fD fdD ["pool", "many"] spDraw)
    (FW : Fun K "_law_words" "_law_words" sWords fW fdW) (bW : Binds K fdW ["pool", "many"] []) (gW : mg "_law_words" = some (.ref fW)) (GW : FnOk P w K mg base CX0 2 fW fdW ["pool", "many"] (spWordsL okWords 7))
    (FN : Fun K "_law_names" "_law_names" sNames fN fdN) (bN : Binds K fdN ["pool", "many"] []) (gN : mg "_law_names" = some (.ref fN)) (GN : FnOk P w K mg base CX0 2 fN fdN ["pool", "many"] (spWordsL okNames 12)) : FnOk P w K mg base CX0 3 f fd ["pool", "most", "more", "rings"] (spProgram K) := by
  refine F.ok scProgram (fun vs H Q E h => ?_) (fun cdv A outer s H vs Q E hr h => ?_)
  · obtain ⟨p, q, rs, i, mo, n, rfl, _⟩ := h
    rfl
  · obtain ⟨p, q, rs, i, mo, n, rfl, hP, hmo, hmo7, hn, k⟩ := h
    have nd := scProgram.nd
    have hr1 : Room 1 _ := hr.mono (by decide)
    have hu := hu_of hr
    refine ⟨_, pss_cons (ps_set (i := 4) nd rfl (Or.inl rfl) (pe_call GW hr (by rfl) gW FW.kp bW .nil pass0 (pa_cons (pv 0) (pa_cons (pe_op op_add pe_int (pe_call GD hr1 (by rfl) gD FD.kp bD .nil pass0 (pa_cons (pv 0) (pa_cons (pe_op op_sub (pv 1) pe_int) pa_nil)))) pa_nil))))
      (pss_cons (ps_asg (pe_tup (pa_cons (pe_call GN hr (by rfl) gN FN.kp bN .nil pass0 (pa_cons (pv 0) (pa_cons (pe_op op_add (pe_op op_sub (pe_callB call_len_seq (by rfl) T.len PySem.boot_len (pa_cons (pv 4) pa_nil)) pe_int) (pv 2)) pa_nil))) (pa_cons pe_dnewK (pa_cons pe_dnewK pa_nil)))) (pg_tup rfl (pgs_cons (pg_name (i := 5) nd rfl (Or.inl rfl)) (pgs_cons (pg_name (i := 6) nd rfl (Or.inl rfl)) (pgs_cons (pg_name (i := 7) nd rfl (Or.inr rfl)) pgs_nil)))))
      (pss_cons (ps_for PassesOwn.never rfl (pi_range2 rfl T.range (pa_cons pe_int (pa_cons (pe_callB call_len_seq (by rfl) T.len PySem.boot_len (pa_cons (pv 4) pa_nil)) pa_nil))) (pg_name (i := 8) nd rfl (Or.inl rfl))
        (pss_cons (ps_set (i := 9) nd rfl (Or.inl rfl) (pe_ix ix_list (pv 4) (pe_call GD hr1 (by rfl) gD FD.kp bD .nil pass0 (pa_cons (pv 0) (pa_cons (pv 8) pa_nil))) (fun _ _ => rfl)))
        (pss_one (ps_asg (pe_tup (pa_cons (pe_tup (pa_cons (pv 9) (pa_cons (pe_ix ix_list (pv 4) (pv 8) (fun _ _ => rfl)) pa_nil))) (pa_cons pe_bl pa_nil))) (pg_tup rfl (pgs_cons (pg_sub (pv 6) (pe_ix ix_list (pv 5) (pe_op op_sub (pv 8) pe_int) (fun _ _ => rfl)) (set_dict hu)) (pgs_cons (pg_sub (pv 7) (pv 9) (set_dict hu)) pgs_nil)))))))
      (pss_cons (ps_for PassesOwn.never rfl (pi_range1 rfl T.range (pa_cons (pe_call GD hr1 (by rfl) gD FD.kp bD .nil pass0 (pa_cons (pv 0) (pa_cons (pe_op op_add (pv 2) pe_int) pa_nil))) pa_nil)) (pg_name (i := 8) nd rfl (Or.inl rfl))
        (pss_cons (ps_par (i := 10) (j := 11) (by rfl) nd rfl rfl (by decide) rfl rfl (pa_cons (pe_call GD hr1 (by rfl) gD FD.kp bD .nil pass0 (pa_cons (pv 0) (pa_cons (pe_callB call_len_seq (by rfl) T.len PySem.boot_len (pa_cons (pv 4) pa_nil)) pa_nil))) (pa_cons (pe_call GD hr1 (by rfl) gD FD.kp bD .nil pass0 (pa_cons (pv 0) (pa_cons (pe_callB call_len_seq (by rfl) T.len PySem.boot_len (pa_cons (pv 4) pa_nil)) pa_nil))) pa_nil)) (by rfl))
        (pss_one (ps_if (PW.pt (pw_or (pt_val (pv 3)) (pw_or1 (pt_cmpR op_ne (pv 10) (pv 11) (nomark _)))))
          (pss_cons (ps_asg (pe_ifExp (pt_val (pv 3)) (pe_tup (pa_cons (pv 10) (pa_cons (pv 11) pa_nil))) pe_dead) (pg_tup rfl (pgs_cons (pg_name (i := 12) nd rfl (Or.inl rfl)) (pgs_cons (pg_name (i := 13) nd rfl (Or.inl rfl)) pgs_nil))))
          (pss_one (ps_dput hu (pv 6) (pe_ix ix_list (pv 5) (pe_op op_add (pe_op op_sub (pe_callB call_len_seq (by rfl) T.len PySem.boot_len (pa_cons (pv 4) pa_nil)) pe_int) (pv 8)) (fun _ _ => rfl)) (pe_tup (pa_cons (pe_ix ix_list (pv 4) (pv 12) (fun _ _ => rfl)) (pa_cons (pe_ix ix_list (pv 4) (pv 13) (fun _ _ => rfl)) pa_nil))) rfl))) pss_nil))))
      (pss_cons (ps_setLc (i := 14) (own := [("place", 15)]) (g := gName 15) (tt := tOr (tB (tDNotIn (tVar 15) (tVar 7))) (tTest (tOp rEq (tCall spDraw [] E0 (tCons (tVar 0) (tCons (tC (V.int 5)) tNil))) (tC (V.int 0))))) rfl nd rfl rfl (sw_true rfl rfl rfl (by decide +kernel)) (pi_list (pv 4)) (blkOk_by (own := [("place", 15)]) (N := nsProgram) (sc := defScope sProgram) (by decide +kernel)) (fun _ _ _ _ _ => pg_name (i := 15) nd rfl (Or.inl rfl))
        (fun _ _ _ _ _ => pts_one (PW.pt (pw_or (pt_cmp (pc_dnotin hu (pv 15) (pv 7)) rfl) (pw_or1 (pt_cmpR op_eq (pe_call GD hr1 (by rfl) gD FD.kp bD .nil pass0 (pa_cons (pv 0) (pa_cons pe_int pa_nil))) pe_int (nomark _)))))) (fun _ _ _ _ _ => pv 15))
      (pss_one (ps_ret (pe_disp (pps_cons pe_str (pv 6) (pps_cons pe_str (pe_ix ix_list (pv 4) pe_int (fun _ _ => rfl)) (pps_cons pe_str (pv 14) pps_nil))) rfl rfl (by decide) (by decide)))))))), ?_⟩
    -- places = _law_words(pool, 2 + draw)
    refine ⟨_, rfl, _, rfl, _, rfl, _, _, rfl, rfl, p, q, rs, i, _, rfl, hP, by omega, fun r r0 r1 => ?_⟩
    obtain ⟨j, rfl, hj⟩ := nat_of r0 r1
    have hP1 := pool_step hP
    have b1 : But p H (upd H p (.lst [.ref q, .int (i + 1)])) := But.upd _
    generalize upd H p (.lst [.ref q, .int (i + 1)]) = H1 at hP1 b1
    refine ⟨_, _, rfl, rfl, p, q, rs, i + 1, 2 + j, by rw [Int.natCast_add]; rfl, hP1, by omega, fun a1 pls H2 i2 na1 okw npls lpls b2 hP2 h1 => ?_⟩
    have a1p : a1 ≠ p := strs_ne h1 hP2
    -- names, pairs, outs
    refine ⟨_, rfl, _, rfl, a1, _, rfl, .inl (SqL.of h1), _, _, rfl, rfl, _, rfl, _, _, rfl, rfl, p, q, rs, i2, j + 1 + n, ?_, hP2, by omega, fun a2 nms H3 i3 na2 okn nnms lnms b3 hP3 h2 => ?_⟩
    · have e1 : (((pls.map V.str).length : Nat) : Int) - 1 + (n : Int) = ((j + 1 + n : Nat) : Int) := by rw [List.length_map, lpls]; omega
      show [V.ref p, V.int _] = [V.ref p, V.int _]
      rw [e1]
    have h13 := b3 _ _ a1p h1
    refine fun dp ndp dq ndq => ⟨by show 3 ≤ sizeLine; decide, fun t nt => ⟨t, _, rfl, SqT.of upd_same, rfl, _, _, rfl, _, _, rfl, _, _, rfl, rfl, ?_⟩⟩
    have b03 : But p H H3 := (b1.trans b2).trans b3
    have dpp : dp ≠ p := fun z => by rw [z, hP3.hp] at ndp; cases ndp
    have nedq : dp ≠ dq := fun z => by rw [← z, upd_same] at ndq; cases ndq
    have ndq3 : H3 dq = none := by rw [upd_ne nedq.symm] at ndq; exact ndq
    have dqp : dq ≠ p := fun z => by rw [z, hP3.hp] at ndq3; cases ndq3
    have Hdp : H dp = none := b03.free dpp ndp
    have Hdq : H dq = none := b03.free dqp ndq3
    have s4 : Same H3 (upd (upd (upd H3 dp (.dK [])) dq (.dK [])) t (.tup [.ref a2, .ref dp, .ref dq])) := ((sm ndp).trans (sm ndq)).trans (sm nt)
    have hd4 : (upd (upd (upd H3 dp (.dK [])) dq (.dK [])) t (.tup [.ref a2, .ref dp, .ref dq])) dp = some (.dK []) := sm nt _ _ (sm ndq _ _ upd_same)
    have hq4 : (upd (upd (upd H3 dp (.dK [])) dq (.dK [])) t (.tup [.ref a2, .ref dp, .ref dq])) dq = some (.dK []) := sm nt _ _ upd_same
    have S4 : St1 K H p q rs a1 a2 dp dq pls nms (upd (upd (upd H3 dp (.dK [])) dq (.dK [])) t (.tup [.ref a2, .ref dp, .ref dq])) i3 [] [] [] := ⟨b03.trans (But.of s4), hP3.same s4, s4 _ _ h13, s4 _ _ h2, hd4, .nil, hq4⟩
    show tSeq _ _ _ _ (upd (upd (upd H3 dp (.dK [])) dq (.dK [])) t (.tup [.ref a2, .ref dp, .ref dq]))
    generalize upd (upd (upd H3 dp (.dK [])) dq (.dK [])) t (.tup [.ref a2, .ref dp, .ref dq]) = H4 at S4
    have el : ((((pls.map V.str).length : Nat) : Int) - 1).toNat = pls.length - 1 := by rw [List.length_map]; omega
    have lb : (((pls.map V.str).length : Nat) : Int) ≤ 7 := by rw [List.length_map]; omega
    refine ⟨_, rfl, a1, _, rfl, .inl (SqL.of S4.h1), 1, _, rfl, ⟨by decide, by decide, by omega, by omega⟩, ?_⟩
    rw [el]
    refine for_range (lo := 1) (n := pls.length - 1) (fun ii σ H' => ∃ (i' : Int) (kvs : List (Key × V)) (ls : List Lk) (ovs : List (Key × V)) (v8 v9 : Option V), σ = [some (.ref p), some (.int mo), some (.int n), some (.bl true), some (.ref a1), some (.ref a2), some (.ref dp), some (.ref dq), v8, v9, none, none, none, none, none, none] ∧
      St1 K H p q rs a1 a2 dp dq pls nms H' i' kvs ls ovs ∧ M1 pls nms ii ls ovs) ⟨i3, [], [], [], none, none, rfl, S4, ⟨by rw [List.take_zero]; rfl, fun t y h1 h2 => by omega, fun l hl => (nomatch hl), fun x hx => (by cases hx), Nat.le_refl 0, fun l hl => (nomatch hl)⟩⟩ ?_ ?_
    · rintro ii σ H' hii ⟨i', kvs, ls, ovs, v8, v9, rfl, S, M⟩
      refine ⟨_, rfl, _, rfl, _, rfl, p, q, rs, i', _, rfl, S.pool, by omega, fun r r0 r1 => ?_⟩
      obtain ⟨jj, rfl, hjj⟩ := nat_of r0 r1
      have S1 := S.draw
      obtain ⟨x, hx⟩ : ∃ x, pls[jj]? = some x := ⟨_, List.getElem?_eq_getElem (by omega)⟩
      obtain ⟨y, hy⟩ : ∃ y, pls[ii + 1]? = some y := ⟨_, List.getElem?_eq_getElem (by omega)⟩
      obtain ⟨wy, hw⟩ : ∃ wy, nms[ii]? = some wy := ⟨_, List.getElem?_eq_getElem (by omega)⟩
      have ey : atI (pls.map V.str) ((1 : Int) + (ii : Nat)) = some (.str y) := by
        rw [show (1 : Int) + (ii : Nat) = ((ii + 1 : Nat) : Int) by omega]
        exact atI_nat (by rw [List.getElem?_map, hy]; rfl)
      have ew : atI (nms.map V.str) ((1 : Int) + (ii : Nat) - 1) = some (.str wy) := by
        rw [show (1 : Int) + (ii : Nat) - 1 = ((ii : Nat) : Int) by omega]
        exact atI_nat (by rw [List.getElem?_map, hw]; rfl)
      refine ⟨a1, _, _, _, rfl, rfl, SqL.of S1.h1, atI_nat (j := jj) (by rw [List.getElem?_map, hx]; rfl), ?_⟩
      refine ⟨_, rfl, _, rfl, _, rfl, a1, _, _, _, rfl, rfl, SqL.of S1.h1, ey, by show 2 ≤ sizeLine; decide, fun t1 nt1 => ⟨by show 2 ≤ sizeLine; decide, fun t2 nt2 => ?_⟩⟩
      have S2 := (S1.same (sm (o := .tup [.str x, .str y]) nt1)).same (sm (o := .tup [.ref t1, .bl true]) nt2)
      have hv : TwoAt K (upd (upd (upd H' p (.lst [.ref q, .int (i' + 1)])) t1 (.tup [.str x, .str y])) t2 (.tup [.ref t1, .bl true])) (.ref t1) (x, y) := ⟨t1, rfl, SqT.of (sm nt2 _ _ upd_same)⟩
      have fresh : valV kvs (Sum.inr wy : Key) = none := lks_none S.lk (by rw [M.ks]; exact nodup_at nnms hw)
      have epk : putK kvs (Sum.inr wy : Key) (.ref t1) = kvs ++ [(Sum.inr wy, .ref t1)] := putK_new _ fresh
      have S3 := S2.put Hdp nedq (w := wy) hv
      rw [← epk] at S3
      have S4 := S3.out Hdq nedq (putK ovs (Sum.inr x : Key) (.bl true))
      refine ⟨t2, _, rfl, SqT.of upd_same, rfl, _, _, rfl, _, rfl, _, rfl, _, rfl, _, _, rfl, rfl, a2, _, _, _, rfl, rfl, SqL.of S2.h2, ew, dp, _, rfl, DPut.k (k := Sum.inr wy) S2.hd ?_, _, _, rfl, _, rfl, _, rfl, dq, _, rfl, DPut.k (k := Sum.inr x) S3.ho (small1000 (by have := M.ol; omega)), rfl, ?_⟩
      · have z1 : kvs.length = ls.length := Paired.length S.lk
        have z2 : (keysL ls).length = ls.length := List.length_map _
        rw [M.ks, List.length_take] at z2
        exact small1000 (by omega)
      · exact ⟨_, _, _, _, _, _, rfl, S4, M.step npls hw (by omega) hx hy⟩
    · rintro σ H' ⟨i', kvs, ls, ovs, v8, v9, rfl, S, M⟩
      refine ⟨_, rfl, _, rfl, _, _, rfl, rfl, p, q, rs, i', _, rfl, S.pool, by omega, fun r r0 r1 => ?_⟩
      obtain ⟨mm, rfl, hmm⟩ := nat_of r0 r1
      have S0 := S.draw
      refine ⟨_, rfl, by omega, by omega, ?_⟩
      rw [Int.toNat_natCast]
      refine for_range (lo := 0) (n := mm) (fun ii σ H' => ∃ (i' : Int) (kvs : List (Key × V)) (ls : List Lk) (v8 v9 v10 v11 v12 v13 : Option V), σ = [some (.ref p), some (.int mo), some (.int n), some (.bl true), some (.ref a1), some (.ref a2), some (.ref dp), some (.ref dq), v8, v9, v10, v11, v12, v13, none, none] ∧
        St1 K H p q rs a1 a2 dp dq pls nms H' i' kvs ls ovs ∧ M2 pls nms pls.length ii ls ovs) ⟨_, _, _, _, _, _, _, _, _, rfl, S0, M.m2 (by omega)⟩ ?_ ?_
      · rintro ii σ H' hii ⟨i', kvs, ls, v8, v9, v10, v11, v12, v13, rfl, S, M⟩
        refine ⟨_, rfl, _, rfl, a1, _, rfl, .inl (SqL.of S.h1), p, q, rs, i', _, rfl, S.pool, by rw [List.length_map]; omega, fun r r0 r1 => ?_⟩
        obtain ⟨u1, rfl, hu1⟩ := nat_of r0 r1
        have S1 := S.draw
        refine ⟨_, rfl, _, rfl, a1, _, rfl, .inl (SqL.of S1.h1), p, q, rs, _, _, rfl, S1.pool, by rw [List.length_map]; omega, fun r r0 r1 => ?_⟩
        obtain ⟨u2, rfl, hu2⟩ := nat_of r0 r1
        have S2 := S1.draw
        generalize upd (upd H' p (.lst [.ref q, .int (i' + 1)])) p (.lst [.ref q, .int (i' + 1 + 1)]) = H6 at S2
        rw [List.length_map] at hu1 hu2
        obtain ⟨x, hx⟩ : ∃ x, pls[u1]? = some x := ⟨_, List.getElem?_eq_getElem (by omega)⟩
        obtain ⟨y, hy⟩ : ∃ y, pls[u2]? = some y := ⟨_, List.getElem?_eq_getElem (by omega)⟩
        obtain ⟨wy, hw⟩ : ∃ wy, nms[pls.length - 1 + ii]? = some wy := ⟨_, List.getElem?_eq_getElem (by omega)⟩
        have ew : atI (nms.map V.str) ((((pls.map V.str).length : Nat) : Int) - 1 + ((0 : Int) + (ii : Nat))) = some (.str wy) := by
          rw [show (((pls.map V.str).length : Nat) : Int) - 1 + ((0 : Int) + (ii : Nat)) = ((pls.length - 1 + ii : Nat) : Int) by rw [List.length_map]; omega]
          exact atI_nat (by rw [List.getElem?_map, hw]; rfl)
        refine ⟨_, _, rfl, _, rfl, _, rfl, iteT (iteT ?_)⟩
        refine ⟨_, rfl, _, rfl, iteT ⟨_, rfl, _, rfl, by show 2 ≤ sizeLine; decide, fun t nt => ⟨t, _, rfl, SqT.of upd_same, rfl, _, _, rfl, _, _, rfl, rfl, ?_⟩⟩⟩
        have S3 := S2.same (sm (o := .tup [.int u1, .int u2]) nt)
        refine ⟨_, rfl, _, rfl, a1, _, _, _, rfl, rfl, SqL.of S3.h1, atI_nat (j := u1) (by rw [List.getElem?_map, hx]; rfl), _, rfl, _, rfl, a1, _, _, _, rfl, rfl, SqL.of S3.h1, atI_nat (j := u2) (by rw [List.getElem?_map, hy]; rfl), by show 2 ≤ sizeLine; decide, fun t1 nt1 => ?_⟩
        have S4 := S3.same (sm (o := .tup [.str x, .str y]) nt1)
        have fresh : valV kvs (Sum.inr wy : Key) = none := lks_none S.lk (by rw [M.ks]; exact nodup_at nnms hw)
        have epk : putK kvs (Sum.inr wy : Key) (.ref t1) = kvs ++ [(Sum.inr wy, .ref t1)] := putK_new _ fresh
        have S5 := S4.put Hdp nedq (w := wy) (v := .ref t1) (x := x) (y := y) ⟨t1, rfl, SqT.of upd_same⟩
        rw [← epk] at S5
        have ksz : kvs.length < sizeLine := by
          have z1 : kvs.length = ls.length := Paired.length S.lk
          have z2 : (keysL ls).length = ls.length := List.length_map _
          rw [M.ks, List.length_take] at z2
          exact small1000 (by omega)
        refine ⟨_, rfl, _, rfl, _, rfl, a1, _, rfl, .inl (SqL.of S4.h1), _, _, rfl, rfl, _, rfl, _, _, rfl, rfl, a2, _, _, _, rfl, rfl, SqL.of S4.h2, ew, dp, _, rfl, DPut.k (k := Sum.inr wy) S4.hd ksz, ?_⟩
        exact ⟨_, _, _, _, _, _, _, _, _, rfl, S5, M.step hw (List.mem_of_getElem? hx) (List.mem_of_getElem? hy)⟩
      · rintro σ H' ⟨i', kvs, ls, v8, v9, v10, v11, v12, v13, rfl, S, M⟩
        refine ⟨_, rfl, a1, rfl, ⟨_, SqL.of S.h1⟩, fun D nD => lc_it walk_list (fun ii H'' => ∃ (i'' : Int) (es : List Str), St1 K H p q rs a1 a2 dp dq pls nms H'' i'' kvs ls ovs ∧ H'' D = some (.lst (es.map V.str)) ∧ ES pls ovs ii es) ?_ (fun ii H'' _ ⟨_, _, z, _⟩ => SqL.of z.h1) ?_ ?_⟩
        · exact ⟨i', [], S.same (sm nD), upd_same, ⟨fun x z => (nomatch z), List.nodup_nil, fun x z => (by rw [List.take_zero] at z; cases z), Nat.le_refl 0⟩⟩
        · rintro ii v H5 H6 hii ⟨i'', es, S5, hD5, ES5⟩ ⟨rfl, hv⟩
          have Dp : D ≠ p := fun z => by rw [z, S.pool.hp] at nD; cases nD
          have Dq : D ≠ q := fun z => by rw [z, S.pool.hq] at nD; cases nD
          have D1 : D ≠ a1 := fun z => by rw [z, S.h1] at nD; cases nD
          have D2 : D ≠ a2 := fun z => by rw [z, S.h2] at nD; cases nD
          have HD : H D = none := S.but.free Dp nD
          rw [List.length_map] at hii
          obtain ⟨x, hx⟩ : ∃ x, pls[ii]? = some x := ⟨_, List.getElem?_eq_getElem hii⟩
          obtain rfl : v = .str x := by
            rw [List.getElem?_map, hx] at hv
            exact (Option.some.inj hv).symm
          refine ⟨rfl, _, rfl, _, rfl, dq, _, rfl, DGet.k (k := Sum.inr x) S5.ho, _, rfl, ?_⟩
          have yes : ∀ {H7 : Hp} {i7 : Int}, St1 K H p q rs a1 a2 dp dq pls nms H7 i7 kvs ls ovs → H7 D = some (.lst (es.map V.str)) → ∃ acc, H7 D = some (.lst acc) ∧ acc.length < sizeLine ∧ ∃ (i'' : Int) (es' : List Str), St1 K H p q rs a1 a2 dp dq pls nms (upd H7 D (.lst (acc ++ [V.str x]))) i'' kvs ls ovs ∧ (upd H7 D (.lst (acc ++ [V.str x]))) D = some (.lst (es'.map V.str)) ∧ ES pls ovs (ii + 1) es' := fun {H7 i7} S7 hD7 => by
            refine ⟨_, hD7, small1000 (by rw [List.length_map]; have := ES5.len; omega), i7, es ++ [x], S7.lst hD7 HD Dp Dq D1 D2, ?_, ES5.yes npls hx⟩
            rw [upd_same, List.map_append]
            rfl
          cases e : valV ovs (Sum.inr x : Key) with
          | none =>
            refine iteT ?_
            exact iteT ⟨_, rfl, yes S5 hD5⟩
          | some z =>
            refine iteF ?_
            refine ⟨_, rfl, p, q, rs, i'', 5, rfl, S5.pool, by decide, fun r r0 r1 => ⟨rfl, _, rfl, ?_⟩⟩
            have S6 := S5.draw
            have hD6 : (upd H6 p (.lst [.ref q, .int (i'' + 1)])) D = some (.lst (es.map V.str)) := by rw [upd_ne Dp]; exact hD5
            refine iteB (fun _ => ⟨_, rfl, yes S6 hD6⟩) (fun _ => ⟨_, es, S6, hD6, ES5.no hx (by rw [e]; rfl)⟩)
        · rintro H5 ⟨i'', es, S5, hD5, ES5⟩
          rw [List.length_map] at ES5
          obtain ⟨b0, hb0⟩ : ∃ b0, pls[0]? = some b0 := ⟨_, List.getElem?_eq_getElem (by omega)⟩
          refine fun r nr => ⟨_, rfl, _, rfl, a1, _, _, _, rfl, rfl, SqL.of (sm nr _ _ S5.h1), atI_nat (j := 0) (by rw [List.getElem?_map, hb0]; rfl), _, rfl, upd_same, [(Sum.inr "ways", .ref dp), (Sum.inr "begin", .str b0), (Sum.inr "exits", .ref D)], rfl, by show 3 ≤ 15; decide, ?_⟩
          rw [upd_upd]
          have Dp : D ≠ p := fun z => by rw [z, S.pool.hp] at nD; cases nD
          have rp : r ≠ p := fun z => by rw [z, S5.pool.hp] at nr; cases nr
          refine k r dp D pls ls es b0 _ i'' (S5.but.free rp nr) Hdp (S.but.free Dp nD) (drawn_of okw npls (by omega) (by omega) okn nnms (by omega) (by omega) M ES5) hb0 (by omega) (S5.but.trans (But.of (sm nr))) (S5.pool.same (sm nr)) ⟨?_, ⟨kvs, sm nr _ _ S5.hd, S5.lk.same (sm nr)⟩, sm nr _ _ hD5⟩
          rw [upd_same]
          rfl
end
end LW


set_option Elab.async false
set_option linter.all false
set_option maxRecDepth 100000
set_option maxHeartbeats 4000000
namespace LW
open PySem L2 PG
open LH hiding sm top
abbrev sMade : Stmt := LH.top 49
theorem get_ways {K : PySem.W.Frag} {H : Hp} {r dp ex : Addr} {ls : List Lk} {b : Str} {es : List Str} (h : PrgAt K H r dp ex ls b es) : DGet H r (.str "ways") (some (.ref dp)) := .inl ⟨_, Sum.inr "ways", .inl h.hr, rfl, rfl⟩
theorem get_begin {K : PySem.W.Frag} {H : Hp} {r dp ex : Addr} {ls : List Lk} {b : Str} {es : List Str} (h : PrgAt K H r dp ex ls b es) : DGet H r (.str "begin") (some (.str b)) := .inl ⟨_, Sum.inr "begin", .inl h.hr, rfl, rfl⟩
theorem get_exits {K : PySem.W.Frag} {H : Hp} {r dp ex : Addr} {ls : List Lk} {b : Str} {es : List Str} (h : PrgAt K H r dp ex ls b es) : DGet H r (.str "exits") (some (.ref ex)) := .inl ⟨_, Sum.inr "exits", .inl h.hr, rfl, rfl⟩
section
variable {P : Program} {w : World} {K : PySem.W.Frag} {mg : Str → Option Value} {base : Heap}
theorem scMade : FnScope ["prog"] ["prog"] (defScope sMade) := ⟨rfl, rfl, rfl, by decide +kernel, rfl, by decide +kernel, by decide +kernel⟩
def spMade (K : PySem.W.Frag) (C : Addr) : Sp := fun vs H Q _ => ∃ (r dp ex : Addr) (ls : List Lk) (b : Str) (es : List Str), vs = [.ref r] ∧ PrgAt K H r dp ex ls b es ∧ GoodP ls b es ∧
  ∀ (H' : Hp) (x dx L S F : Addr), Same H H' → H x = none → H L = none → H S = none → H F = none → ProgAt K C H' x dx L S F (pdOf ls b es) → Q (.ref x) H'
/-- what init's promise comes to for a new program -/
theorem init_new {C : Addr} {H1 : Hp} {a e : Addr} {b : Str} {kvs : List (Key × V)} {ls : List Lk} {es : List Str} {R : Addr → Hp → Prop} {E : XK} (ha : H1 a = some (.dK kvs)) (lk : Lks K H1 kvs ls) (he : H1 e = some (.lst (es.map V.str))) (Gd : GoodP ls b es)
    (k : ∀ (H' : Hp) (x dx L S F : Addr), Same H1 H' → H1 x = none → H1 L = none → H1 S = none → H1 F = none → ProgAt K C H' x dx L S F (pdOf ls b es) → R x H') :
    ∀ x dx, H1 x = none → H1 dx = none → dx ≠ x → spInit K C [.ref x, .ref a, .str b, .ref e] (upd (upd H1 dx (.own x)) x (.ins C dx [])) (fun v H2 => v = .non ∧ R x H2) E := by
  intro x dx nx ndx nxd
  have s1 : Same H1 (upd (upd H1 dx (.own x)) x (.ins C dx [])) := fun c o z => by
    rw [upd_ne (ne_of_none z nx), upd_ne (ne_of_none z ndx)]
    exact z
  refine ⟨x, dx, a, e, b, kvs, ls, es, rfl, upd_same, s1 _ _ ha, lk.same s1, s1 _ _ he, Gd, fun H' L S F s2 nL nS nF pr => ⟨rfl, ?_⟩⟩
  have fr : ∀ {y : Addr}, (upd (upd H1 dx (.own x)) x (.ins C dx [])) y = none → H1 y = none := fun {y} z => by
    cases q : H1 y with
    | none => rfl
    | some o => rw [s1 _ _ q] at z; cases z
  exact k H' x dx L S F (fun c o z => s2 c o (ne_of_none z nx) (s1 c o z)) nx (fr nL) (fr nS) (fr nF) pr
theorem ok_made {f C fI : Addr} {fd fdI : FuncData} (F : Fun K "_law_made" "_law_made" sMade f fd) (T : PT0 mg) (Tc : PTc K mg C) (M : Mk K C fI) (bI : Binds K fdI ["self", "ways", "begin", "exits"] []) (GI : FnOk P w K mg base CX0 4 fI fdI ["self", "ways", "begin", "exits"] (spInit K C)) : FnOk P w K mg base CX0 6 f fd ["prog"] (spMade K C) := by
  refine F.ok scMade (fun vs H Q E h => ?_) (fun cdv A outer s H vs Q E hr h => ?_)
  · obtain ⟨r, dp, ex, ls, b, es, rfl, _⟩ := h
    rfl
  · obtain ⟨r, dp, ex, ls, b, es, rfl, h, Gd, k⟩ := h
    have hu := hu_of hr
    obtain ⟨kvs, hd, lk⟩ := h.hw
    refine ⟨_, pss_one (ps_ret (pe_make M GI hr (by rfl) Tc.gC bI .nil pass0 (pa_cons (pe_callTy call_dictD (by rfl) T.dict (by decide +kernel) (pa_cons (pe_dget hu (pv 0) pe_str (fun _ _ => rfl)) pa_nil)) (pa_cons (pe_dget hu (pv 0) pe_str (fun _ _ => rfl)) (pa_cons (pe_callTy call_list_of (by rfl) T.list PyProof.Rows.boot_list (pa_cons (pe_dget hu (pv 0) pe_str (fun _ _ => rfl)) pa_nil)) pa_nil))))), ?_⟩
    refine ⟨_, rfl, r, _, rfl, get_ways h, dp, kvs, rfl, .inl hd, fun a na => ?_⟩
    have h1 := h.same (sm (o := .dK kvs) na)
    refine ⟨_, rfl, r, _, rfl, get_begin h1, _, rfl, r, _, rfl, get_exits h1, ex, _, rfl, .inl (SqL.of h1.he), fun e ne => ?_⟩
    have s2 : Same H (upd (upd H a (.dK kvs)) e (.lst (es.map V.str))) := (sm na).trans (sm ne)
    have fr : ∀ {y : Addr}, (upd (upd H a (.dK kvs)) e (.lst (es.map V.str))) y = none → H y = none := fun {y} z => by
      cases q : H y with
      | none => rfl
      | some o => rw [s2 _ _ q] at z; cases z
    exact init_new (sm ne _ _ upd_same) (lk.same s2) upd_same Gd fun H' x dx L S Fn s3 nx nL nS nF pr => k H' x dx L S Fn (s2.trans s3) (fr nx) (fr nL) (fr nS) (fr nF) pr
theorem prg_ne {H : Hp} {r dp ex : Addr} {ls : List Lk} {b : Str} {es : List Str} (h : PrgAt K H r dp ex ls b es) : r ≠ dp := fun z => by
  obtain ⟨kvs, hd, lk⟩ := h.hw
  have e := h.hr
  rw [z, hd] at e
  have e2 := HO.dK.inj (Option.some.inj e)
  rw [e2] at lk
  cases lk with
  | cons _ rs =>
    cases rs with
    | cons q _ =>
      obtain ⟨_, t, q2, _⟩ := q
      cases q2
/-- prog["ways"] while they are walked -/
theorem get_waysL {H H' : Hp} {r dp ex : Addr} {ls : List Lk} {b : Str} {es : List Str} {od : Obj} {u : HO} (h : PrgAt K H r dp ex ls b es) (s : Same (upd H dp (.frz od u)) H') : DGet H' r (.str "ways") (some (.ref dp)) :=
  .inl ⟨_, Sum.inr "ways", .inl (s _ _ (by rw [upd_ne (prg_ne h)]; exact h.hr)), rfl, rfl⟩
end
end LW


set_option Elab.async false
set_option linter.all false
set_option maxRecDepth 100000
set_option maxHeartbeats 4000000
namespace LW
open PySem L2 PG
open LH hiding sm top
section
variable {P : Program} {w : World} {K : PySem.W.Frag} {mg : Str → Option Value} {base : Heap}
abbrev sLPlaces : Stmt := LH.top 50
abbrev nsLP : List Str := ["prog", "found", "way", "place"]
theorem scLPlaces : FnScope nsLP ["prog"] (defScope sLPlaces) := ⟨rfl, rfl, rfl, by decide +kernel, rfl, by decide +kernel, by decide +kernel⟩
/-- one way more looked at -/
def lpStep (found : List Str) (l : Lk) : List Str := found ++ [l.2.1, l.2.2].filter fun x => !decide (x ∈ found)
def lpAll (ls : List Lk) : List Str := ls.foldl lpStep []
theorem lp_mem : ∀ (ls : List Lk) (f : List Str) (x : Str), x ∈ ls.foldl lpStep f ↔ x ∈ f ∨ x ∈ ends ls
  | [], f, x => ⟨.inl, fun h => h.elim id fun z => nomatch z⟩
  | l :: r, f, x => by
    rw [List.foldl_cons, lp_mem r]
    have e : x ∈ ends (l :: r) ↔ (x = l.2.1 ∨ x = l.2.2) ∨ x ∈ ends r := by
      show x ∈ [l.2.1, l.2.2] ++ ends r ↔ _
      rw [List.mem_append]
      simp
    have e2 : x ∈ lpStep f l ↔ x ∈ f ∨ (x = l.2.1 ∨ x = l.2.2) := by
      unfold lpStep
      rw [List.mem_append, List.mem_filter]
      constructor
      · rintro (h | ⟨h, _⟩)
        · exact .inl h
        · exact .inr (by simpa using h)
      · rintro (h | h)
        · exact .inl h
        · by_cases z : x ∈ f
          · exact .inl z
          · exact .inr ⟨by simpa using h, by simpa using z⟩
    rw [e, e2, or_assoc]
theorem lp_nodup1 : ∀ {ts : List Lk} {f : List Str}, (∀ l ∈ ts, l.2.1 ≠ l.2.2) → f.Nodup → (ts.foldl lpStep f).Nodup
  | [], _, _, h => h
  | l :: r, f, ne, h => by
    rw [List.foldl_cons]
    refine lp_nodup1 (fun l' hl => ne l' (List.mem_cons_of_mem _ hl)) ?_
    unfold lpStep
    have n2 : [l.2.1, l.2.2].Nodup := List.nodup_cons.mpr ⟨fun z => ne l List.mem_cons_self (List.mem_singleton.mp z), List.nodup_cons.mpr ⟨List.not_mem_nil, List.nodup_nil⟩⟩
    refine List.nodup_append.mpr ⟨h, n2.sublist List.filter_sublist, fun a ha b hb e => ?_⟩
    have z := (List.mem_filter.mp hb).2
    rw [← e] at z
    simp at z
    exact z ha
theorem lp_nodup2 : ∀ {ms : List Lk} {f : List Str}, (∀ x ∈ ends ms, x ∈ f) → ms.foldl lpStep f = f
  | [], _, _ => rfl
  | l :: r, f, h => by
    have h1 : ∀ x ∈ [l.2.1, l.2.2], x ∈ f := fun x hx => h x (List.mem_append_left _ hx)
    have e : lpStep f l = f := by
      unfold lpStep
      have : ([l.2.1, l.2.2].filter fun x => !decide (x ∈ f)) = [] := List.filter_eq_nil_iff.mpr fun x hx => by simpa using h1 x hx
      rw [this, List.append_nil]
    rw [List.foldl_cons, e]
    exact lp_nodup2 fun x hx => h x (List.mem_append_right [l.2.1, l.2.2] hx)
theorem lp_places {pls : List Str} {ls : List Lk} {es : List Str} (d : Drawn pls ls es) : srt (lpAll ls) = plc ls ∧ (lpAll ls).length ≤ 7 := by
  obtain ⟨ts, ms, e, a, b⟩ := d.tr
  have nd : (lpAll ls).Nodup := by
    unfold lpAll
    rw [e, List.foldl_append]
    have z := lp_nodup1 (f := []) a List.nodup_nil
    rw [lp_nodup2]
    · exact z
    · intro x hx
      refine (lp_mem ts [] x).mpr (.inr (b x ((d.ends x).mp ?_)))
      rw [e]
      obtain ⟨l, hl, q⟩ := ends_mem.mp hx
      exact ends_mem.mpr ⟨l, List.mem_append_right _ hl, q⟩
  have mm : ∀ x, x ∈ lpAll ls ↔ x ∈ ends ls := fun x => by
    unfold lpAll
    rw [lp_mem]
    exact ⟨fun h => h.elim (fun z => nomatch z) id, .inr⟩
  refine ⟨?_, ?_⟩
  · unfold plc
    refine srt_same nd (insAll_nd List.nodup_nil) fun x => ?_
    rw [mm, STX.insAll_mem]
    exact ⟨.inl, fun h => h.elim id fun z => nomatch z⟩
  · have z := nodup_le nd fun x hx => (d.ends x).mp ((mm x).mp hx)
    have := d.n7
    omega
theorem lp_len (f : List Str) (l : Lk) : (lpStep f l).length ≤ f.length + 2 := by
  unfold lpStep
  rw [List.length_append]
  have z := List.length_filter_le (fun x => !decide (x ∈ f)) [l.2.1, l.2.2]
  have e : [l.2.1, l.2.2].length = 2 := rfl
  omega
theorem lp_lenAll : ∀ (ls : List Lk) (f : List Str), (ls.foldl lpStep f).length ≤ f.length + 2 * ls.length
  | [], _ => Nat.le_refl _
  | l :: r, f => by
    rw [List.foldl_cons, List.length_cons]
    have a := lp_lenAll r (lpStep f l)
    have b := lp_len f l
    omega
theorem filt_snocP {xs : List Str} {j : Nat} {x : Str} (c : Str → Bool) (h : xs[j]? = some x) : ((xs.take (j + 1)).filter c).map V.str = ((xs.take j).filter c).map V.str ++ (if c x then [V.str x] else []) := by
  rw [List.take_add_one, h, List.filter_append, List.map_append]
  congr 1
  show List.map V.str (List.filter c [x]) = _
  by_cases e : c x = true
  · rw [List.filter_cons_of_pos e, if_pos e]
    rfl
  · rw [List.filter_cons_of_neg e, if_neg e]
    rfl
def spLP (K : PySem.W.Frag) : Sp := fun vs H Q _ => ∃ (r dp ex : Addr) (pls : List Str) (ls : List Lk) (b : Str) (es : List Str), vs = [.ref r] ∧ PrgAt K H r dp ex ls b es ∧ Drawn pls ls es ∧
  ∀ (H' : Hp) (p : Addr), Same H H' → H p = none → H' p = some (.lst ((plc ls).map V.str)) → Q (.ref p) H'
theorem ok_lplaces {f : Addr} {fd : FuncData} (F : Fun K "_law_places" "_law_places" sLPlaces f fd) (T : PT0 mg) : FnOk P w K mg base CX0 1 f fd ["prog"] (spLP K) := by
  refine F.ok scLPlaces (fun vs H Q E h => ?_) (fun cdv A outer s H vs Q E hr h => ?_)
  · obtain ⟨r, dp, ex, pls, ls, b, es, rfl, _⟩ := h
    rfl
  · obtain ⟨r, dp, ex, pls, ls, b, es, rfl, h, D, k⟩ := h
    have hu := hu_of hr
    have nd := scLPlaces.nd
    obtain ⟨kvs, hd, lk⟩ := h.hw
    refine ⟨_, pss_cons (ps_set (i := 1) nd rfl (Or.inr rfl) (pe_lst pa_nil))
      (pss_cons (ps_lock (ps_for PassesOwn.never rfl (pi_keys (pe_dget hu (pv 0) pe_str (fun _ _ => rfl))) (pg_name (i := 2) nd rfl (Or.inl rfl))
        (pss_one (ps_set (i := 1) nd rfl (Or.inr rfl) (pe_op op_cat (pv 1) (pe_lc (own := [("place", 3)]) (g := gName 3) (tt := tTest (tOp (rIn K true) (tVar 3) (tVar 1))) rfl nd (pi_tup (pe_dget hu (pe_dget hu (pv 0) pe_str (fun _ _ => rfl)) (pv 2) (fun _ _ => rfl))) (blkOk_by (own := [("place", 3)]) (N := nsLP) (sc := defScope sLPlaces) (by decide +kernel))
          (fun _ _ _ _ _ => pg_name (i := 3) nd rfl (Or.inl rfl)) (fun _ _ _ _ _ => pts_one (pt_cmpR op_notIn_seq (pv 3) (pv 1) rfl)) (fun _ _ _ _ _ => pv 3)))))))
      (pss_one (ps_ret (pe_callB cr_sortedS (by rfl) T.sorted PyProof.Rows.boot_sorted (pa_cons (pv 1) pa_nil))))), ?_⟩
    refine ⟨Nat.zero_le _, fun p0 np0 => ?_⟩
    have h0 := h.same (sm (o := .lst []) np0)
    have hd0 := sm (o := .lst []) np0 _ _ hd
    have lk0 := lk.same (sm (o := .lst []) np0)
    have s00 : Same H (upd H p0 (.lst [])) := sm np0
    have hp0 : (upd H p0 (.lst [])) p0 = some (.lst []) := upd_same
    show tSeq _ _ _ _ (upd H p0 (.lst []))
    generalize upd H p0 (.lst []) = H0 at h0 hd0 lk0 s00 hp0
    have lkn : kvs.length = ls.length := Paired.length lk
    have n12 := D.l2
    refine ⟨dp, .dK kvs, hd0, trivial, fun od => ⟨_, rfl, r, _, rfl, get_waysL h0 (Same.refl _), dp, od, rfl, .inl ⟨kvs, upd_same, for_it walk_keys (fun i σ H' => ∃ (pf : Addr) (v2 : Option V), σ = [some (.ref r), some (.ref pf), v2, none] ∧ Same (upd H0 dp (.frz od (.dK kvs))) H' ∧ H' pf = some (.lst (((ls.take i).foldl lpStep []).map V.str))) ?_ (fun i σ H' _ ⟨_, _, _, z, _⟩ => z _ _ upd_same) ?_ ?_⟩⟩⟩
    · exact ⟨p0, none, rfl, Same.refl _, by rw [upd_ne (ne_of hp0 hd0 (by intro z; cases z))]; exact hp0⟩
    · rintro i v σ H1 H2 hi ⟨pf, v2, rfl, s1, hf⟩ ⟨rfl, kk, vv, ekv, rfl⟩
      have lkL := Lks.lock (od := od) lk0 hd0
      obtain ⟨l, hl, e1, _⟩ := lks_at lkL ekv
      have e1' : kk = Sum.inr l.1 := e1
      subst e1'
      obtain ⟨t, hv, ht⟩ := pair_uniq lkL D.kn hl
      have hg : DGet H2 dp (.str l.1) (some (.ref t)) := by
        rw [← hv]
        exact .inl ⟨kvs, Sum.inr l.1, .inr ⟨od, s1 _ _ upd_same⟩, rfl, rfl⟩
      have hfl : ((ls.take i).foldl lpStep []).length ≤ 24 := by
        have z := lp_lenAll (ls.take i) []
        have z2 : (ls.take i).length ≤ ls.length := List.length_take_le' i ls
        rw [List.length_nil] at z
        omega
      have et : (ls.take (i + 1)).foldl lpStep [] = lpStep ((ls.take i).foldl lpStep []) l := by
        rw [List.take_add_one, hl, List.foldl_append]
        rfl
      rw [et]
      generalize (ls.take i).foldl lpStep [] = fnd at hf hfl
      refine ⟨_, rfl, _, rfl, r, _, rfl, get_waysL h0 s1, _, rfl, dp, _, rfl, hg, t, rfl, ⟨_, sqT_same ht s1⟩, fun B nB => ?_⟩
      refine lc_keep walk_tup nB (fun j => (([l.2.1, l.2.2].take j).filter fun x => !decide (x ∈ fnd)).map V.str) rfl (fun j _ => ?_) (fun H' s' => sqT_same (sqT_same ht s1) s') ?_ ?_
      · rw [List.length_map]
        exact Nat.le_trans (List.length_filter_le _ _) (Nat.le_trans (List.length_take_le' j _) (by show 2 ≤ 1000; decide))
      · rintro j v H3 H4 Pn hj s3 ⟨rfl, ev⟩ fin skip
        obtain ⟨x, hx, rfl⟩ : ∃ x, [l.2.1, l.2.2][j]? = some x ∧ v = .str x := by
          have : j = 0 ∨ j = 1 := by
            have z : j < 2 := hj
            omega
          rcases this with rfl | rfl
          · exact ⟨_, rfl, (Option.some.inj ev).symm⟩
          · exact ⟨_, rfl, (Option.some.inj ev).symm⟩
        refine ⟨rfl, _, rfl, _, rfl, pf, _, rfl, .inl (SqL.of (s3 _ _ hf)), rfl, PG.flat_strs _, _, rfl, ?_⟩
        rw [if_pos rfl, inV_strs]
        have sn := filt_snocP (fun x => !decide (x ∈ fnd)) hx
        refine iteB (fun c => ?_) (fun c => ?_)
        · refine ⟨_, rfl, fin H4 _ (Same.refl _) ?_⟩
          rw [sn, if_pos c]
        · refine skip H4 (Same.refl _) ?_
          rw [sn, if_neg (by rw [c]; exact Bool.false_ne_true), List.append_nil]
      · intro H3 s3 hB
        refine ⟨pf, B, _, _, rfl, rfl, s3 _ _ hf, hB, ?_, fun p2 np2 => ?_⟩
        · have e2 : ([V.str l.2.1, V.str l.2.2].length) = 2 := rfl
          rw [List.length_map, List.length_map, sizeLine_eq]
          have z := List.length_filter_le (fun x => !decide (x ∈ fnd)) ([l.2.1, l.2.2].take ([V.str l.2.1, V.str l.2.2].length))
          have z2 : ([l.2.1, l.2.2].take ([V.str l.2.1, V.str l.2.2].length)).length ≤ 2 := List.length_take_le' _ _
          omega
        · refine ⟨p2, _, rfl, fun c o z => sm np2 _ _ (s3 _ _ (s1 _ _ z)), ?_⟩
          rw [upd_same, ← List.map_append]
          rfl
    · rintro σ H1 ⟨pf, v2, rfl, s1, hf⟩
      rw [lkn, List.take_length] at hf
      refine ⟨s1 _ _ upd_same, _, rfl, pf, lpAll ls, rfl, SqL.of ?_, by have := (lp_places D).2; omega, fun ys p2 perm sr np2 => ?_⟩
      · rw [upd_ne (fun z => by rw [z, s1 _ _ upd_same] at hf; cases hf)]
        exact hf
      · have ey : ys = plc ls := (srt_of perm sr).trans (lp_places D).1
        subst ey
        have s2 : Same H (upd H1 dp (.dK kvs)) := s00.trans (unlock hd0 s1)
        refine k _ p2 (s2.trans (sm np2)) ?_ upd_same
        cases z : H p2 with
        | none => rfl
        | some o => rw [s2 _ _ z] at np2; cases np2
end
end LW


set_option Elab.async false
set_option linter.all false
set_option maxRecDepth 100000
set_option maxHeartbeats 4000000
namespace LC
open PySem L2 PG OW CT
open LH hiding sm top
open LW (But But.refl But.trans But.of But.upd pool_step Drawn PrgAt PrgAt.same LT spLP sLPlaces spMade get_ways get_begin get_exits okWords menuN nat_of)
abbrev sLAll : Stmt := LH.top 51
abbrev sSome : Stmt := LH.top 52
abbrev sSet : Stmt := LH.top 53
theorem allC_of (ls : List Lk) (b : Str) (es : List Str) : allC (pdOf ls b es) = tag "way" (srt (keysL ls)) ++ (tag "place" (plc ls) ++ (tag "stop" (srt es) ++ [[("runs" : Str)]])) := by
  unfold allC pdOf
  dsimp only
  rw [srtL_keys]
theorem es_len {pls : List Str} {ls : List Lk} {es : List Str} (d : Drawn pls ls es) : es.length ≤ 7 := Nat.le_trans (nodup_leC d.exn d.ex1) d.n7
section
variable {P : Program} {w : World} {K : PySem.W.Frag} {mg : Str → Option Value} {base : Heap}
abbrev nsLA : List Str := ["prog", "found", "way", "place"]
theorem scLAll : FnScope nsLA ["prog"] (defScope sLAll) := ⟨rfl, rfl, rfl, by decide +kernel, rfl, by decide +kernel, by decide +kernel⟩
def spLAll (K : PySem.W.Frag) : Sp := fun vs H Q _ => ∃ (r dp ex : Addr) (pls : List Str) (ls : List Lk) (b : Str) (es : List Str), vs = [.ref r] ∧ PrgAt K H r dp ex ls b es ∧ Drawn pls ls es ∧
  ∀ (H' : Hp) (p : Addr) (us : List V), Same H H' → H p = none → H' p = some (.lst us) → TupLs K H' us (allC (pdOf ls b es)) → Q (.ref p) H'
theorem ok_lall {f fP : Addr} {fd fdP : FuncData} (Fn : Fun K "_law_all" "_law_all" sLAll f fd) (T : PT0 mg) (FP : Fun K "_law_places" "_law_places" sLPlaces fP fdP) (bP : Binds K fdP ["prog"] []) (gP : mg "_law_places" = some (.ref fP)) (GP : FnOk P w K mg base CX0 1 fP fdP ["prog"] (spLP K)) : FnOk P w K mg base CX0 2 f fd ["prog"] (spLAll K) := by
  refine Fn.ok scLAll (fun vs H Q E h => ?_) (fun cdv A outer s H vs Q E hr h => ?_)
  · obtain ⟨r, dp, ex, pls, ls, b, es, rfl, _⟩ := h
    rfl
  · obtain ⟨r, dp, ex, pls, ls, b, es, rfl, h, D, k⟩ := h
    have hu := hu_of hr
    have nd := scLAll.nd
    obtain ⟨kvs, hd, lk⟩ := h.hw
    refine ⟨_, pss_cons (ps_set (i := 1) nd rfl (Or.inl rfl) (pe_op op_cat (pe_lc (own := [("way", 2)]) (g := gName 2) (tt := tYes) rfl nd (pi_list (pe_callB (call_sortedD rfl) (by rfl) T.sorted PyProof.Rows.boot_sorted (pa_cons (pe_dget hu (pv 0) pe_str (fun _ _ => rfl)) pa_nil))) (blkOk_by (own := [("way", 2)]) (N := nsLA) (sc := defScope sLAll) (by decide +kernel)) (fun _ _ _ _ _ => pg_name (i := 2) nd rfl (Or.inl rfl)) (fun _ _ _ _ _ => pts_nil) (fun _ _ _ _ _ => pe_tup (pa_cons pe_str (pa_cons (pv 2) pa_nil))))
        (pe_lc (own := [("place", 3)]) (g := gName 3) (tt := tYes) rfl nd (pi_list (pe_call GP hr (by rfl) gP FP.kp bP .nil pass0 (pa_cons (pv 0) pa_nil))) (blkOk_by (own := [("place", 3)]) (N := nsLA) (sc := defScope sLAll) (by decide +kernel)) (fun _ _ _ _ _ => pg_name (i := 3) nd rfl (Or.inl rfl)) (fun _ _ _ _ _ => pts_nil) (fun _ _ _ _ _ => pe_tup (pa_cons pe_str (pa_cons (pv 3) pa_nil))))))
      (pss_one (ps_ret (pe_op op_cat (pe_op op_cat (pv 1) (pe_lc (own := [("place", 3)]) (g := gName 3) (tt := tYes) rfl nd (pi_list (pe_callB cr_sortedS (by rfl) T.sorted PyProof.Rows.boot_sorted (pa_cons (pe_dget hu (pv 0) pe_str (fun _ _ => rfl)) pa_nil))) (blkOk_by (own := [("place", 3)]) (N := nsLA) (sc := defScope sLAll) (by decide +kernel)) (fun _ _ _ _ _ => pg_name (i := 3) nd rfl (Or.inl rfl)) (fun _ _ _ _ _ => pts_nil) (fun _ _ _ _ _ => pe_tup (pa_cons pe_str (pa_cons (pv 3) pa_nil))))) (pe_lst (pa_cons (pe_tup (pa_cons pe_str pa_nil)) pa_nil))))), ?_⟩
    have kl : (keysL ls).length = ls.length := List.length_map _
    have n12 := D.l2
    have e7 := es_len D
    have p7 := D.plc
    refine ⟨_, rfl, r, _, rfl, get_ways h, dp, kvs, keysL ls, rfl, .inl hd, lks_keys lk, by omega, fun ys p0 perm sr np0 => ?_⟩
    obtain rfl := srt_of perm sr
    have s1 : Same H (upd H p0 (.lst ((srt (keysL ls)).map V.str))) := sm np0
    have hp0 : (upd H p0 (.lst ((srt (keysL ls)).map V.str))) p0 = some (.lst ((srt (keysL ls)).map V.str)) := upd_same
    generalize upd H p0 (.lst ((srt (keysL ls)).map V.str)) = H1 at s1 hp0
    refine ⟨p0, rfl, ⟨_, SqL.of hp0⟩, fun D1 nD1 => rd_tag (ws := srt (keysL ls)) hp0 (by rw [srt_len]; omega) nD1 (fun v => rfl) (fun v => rfl) fun H2 u1 s2 hD1 r1 => ?_⟩
    have s02 := s1.trans s2
    refine ⟨_, rfl, r, dp, ex, pls, ls, b, es, rfl, h.same s02, D, fun H3 p1 s3 np1 hp1 => ?_⟩
    refine ⟨p1, rfl, ⟨_, SqL.of hp1⟩, fun D2 nD2 => rd_tag (ws := plc ls) hp1 (by omega) nD2 (fun v => rfl) (fun v => rfl) fun H4 u2 s4 hD2 r2 => ?_⟩
    have s24 := s3.trans s4
    have l1 : u1.length ≤ 12 := by rw [Paired.length r1, tag_len, srt_len]; omega
    have l2 : u2.length ≤ 7 := by rw [Paired.length r2, tag_len]; exact p7
    refine ⟨D1, D2, u1, u2, rfl, rfl, s24 _ _ hD1, hD2, by rw [sizeLine_eq]; omega, fun q1 nq1 => ?_⟩
    have s5 : Same H4 (upd H4 q1 (.lst (u1 ++ u2))) := sm nq1
    have hq1 : (upd H4 q1 (.lst (u1 ++ u2))) q1 = some (.lst (u1 ++ u2)) := upd_same
    have r12 : TupLs K (upd H4 q1 (.lst (u1 ++ u2))) (u1 ++ u2) (tag "way" (srt (keysL ls)) ++ tag "place" (plc ls)) := paired_app (TupLs.same r1 (s24.trans s5)) (TupLs.same r2 s5)
    have s05 := s02.trans (s24.trans s5)
    generalize upd H4 q1 (.lst (u1 ++ u2)) = H5 at s5 hq1 r12 s05
    have h5 := h.same s05
    refine ⟨_, rfl, _, rfl, r, _, rfl, get_exits h5, ex, es, rfl, SqL.of h5.he, by omega, fun ys p2 perm2 sr2 np2 => ?_⟩
    obtain rfl := srt_of perm2 sr2
    have s6 : Same H5 (upd H5 p2 (.lst ((srt es).map V.str))) := sm np2
    have hp2 : (upd H5 p2 (.lst ((srt es).map V.str))) p2 = some (.lst ((srt es).map V.str)) := upd_same
    generalize upd H5 p2 (.lst ((srt es).map V.str)) = H6 at s6 hp2
    refine ⟨p2, rfl, ⟨_, SqL.of hp2⟩, fun D3 nD3 => rd_tag (ws := srt es) hp2 (by rw [srt_len]; omega) nD3 (fun v => rfl) (fun v => rfl) fun H7 u3 s7 hD3 r3 => ?_⟩
    have l3 : u3.length ≤ 7 := by rw [Paired.length r3, tag_len, srt_len]; exact e7
    have s57 := s6.trans s7
    refine ⟨q1, D3, _, u3, rfl, rfl, s57 _ _ hq1, hD3, by rw [List.length_append, sizeLine_eq]; omega, fun q2 nq2 => ?_⟩
    have s8 : Same H7 (upd H7 q2 (.lst (u1 ++ u2 ++ u3))) := sm nq2
    have hq2 : (upd H7 q2 (.lst (u1 ++ u2 ++ u3))) q2 = some (.lst (u1 ++ u2 ++ u3)) := upd_same
    have r123 : TupLs K (upd H7 q2 (.lst (u1 ++ u2 ++ u3))) (u1 ++ u2 ++ u3) (tag "way" (srt (keysL ls)) ++ tag "place" (plc ls) ++ tag "stop" (srt es)) := paired_app (TupLs.same r12 (s57.trans s8)) (TupLs.same r3 s8)
    have s08 := s05.trans (s57.trans s8)
    generalize upd H7 q2 (.lst (u1 ++ u2 ++ u3)) = H8 at s8 hq2 r123 s08
    refine ⟨by show 1 ≤ sizeLine; decide, fun t nt => ⟨by show 1 ≤ sizeLine; decide, fun l nl => ?_⟩⟩
    have s9 := sm (o := .tup [.str "runs"]) nt
    have s10 := sm (o := .lst [.ref t]) nl
    have s810 := s9.trans s10
    have ht := s10 _ _ (upd_same (H := H8) (a := t) (o := .tup [.str "runs"]))
    refine ⟨q2, l, _, _, rfl, rfl, s810 _ _ hq2, upd_same, ?_, fun q3 nq3 => ?_⟩
    · rw [List.length_append, List.length_append, sizeLine_eq]
      show _ + _ + _ + 1 ≤ _
      omega
    · have s11 := sm (o := .lst (u1 ++ u2 ++ u3 ++ [V.ref t])) nq3
      have sF := s08.trans (s810.trans s11)
      refine k _ q3 _ sF ?_ upd_same ?_
      · exact RX.fr_of (s08.trans s810) nq3
      · rw [allC_of, ← List.append_assoc, ← List.append_assoc]
        exact paired_app (TupLs.same r123 (s810.trans s11)) (.cons (b := [("runs" : Str)]) ⟨t, rfl, SqT.of (s11 _ _ ht)⟩ .nil)
/-! ### what a draw keeps -/
theorem tup_but {p : Addr} {H H' : Hp} {l : List V} {v : V} {c : List Str} (b : But p H H') (hp : H p = some (.lst l)) (h : TupT K H v c) : TupT K H' v c := by
  obtain ⟨t, e, h⟩ := h
  refine ⟨t, e, ?_⟩
  have d : ∀ u, H t = some u → ((∃ l, u = .tup l) ∨ ∃ od l, u = .frz od (.tup l)) → t ≠ p := fun u hu hk z => by
    rw [z, hp] at hu
    cases hu
    rcases hk with ⟨l, e⟩ | ⟨od, l, e⟩ <;> cases e
  rcases h with (h | ⟨od, h⟩) | h
  · exact .inl (.inl (b _ _ (d _ h (.inl ⟨_, rfl⟩)) h))
  · exact .inl (.inr ⟨od, b _ _ (d _ h (.inr ⟨_, _, rfl⟩)) h⟩)
  · exact .inr h
theorem tups_but {p : Addr} {H H' : Hp} {l : List V} {vs : List V} {cs : List (List Str)} (b : But p H H') (hp : H p = some (.lst l)) (h : TupLs K H vs cs) : TupLs K H' vs cs := Paired.imp (fun _ _ q => tup_but b hp q) h
abbrev nsSm : List Str := ["pool", "prog", "chance", "counter"]
theorem scSome : FnScope nsSm ["pool", "prog", "chance"] (defScope sSome) := ⟨rfl, rfl, rfl, by decide +kernel, rfl, by decide +kernel, by decide +kernel⟩
def spSome (K : PySem.W.Frag) : Sp := fun vs H Q _ => ∃ (p q : Addr) (rs : List Int) (i ch : Int) (r dp ex : Addr) (pls : List Str) (ls : List Lk) (b : Str) (es : List Str), vs = [.ref p, .ref r, .int ch] ∧ PoolAt H p q rs i ∧ PrgAt K H r dp ex ls b es ∧ Drawn pls ls es ∧ (allC (pdOf ls b es)).length ≤ 200 ∧
  ∀ (H' : Hp) (D : Addr) (us : List V) (cs : List (List Str)) (i' : Int), But p H H' → H D = none → PoolAt H' p q rs i' → H' D = some (.lst us) → TupLs K H' us cs → cs.Sublist (allC (pdOf ls b es)) → Q (.ref D) H'
theorem ok_some {f fA fD : Addr} {fd fdA fdD : FuncData} (Fn : Fun K "_law_some" "_law_some" sSome f fd) (FA : Fun K "_law_all" "_law_all" sLAll fA fdA) (bA : Binds K fdA ["prog"] []) (gA : mg "_law_all" = some (.ref fA)) (GA : FnOk P w K mg base CX0 2 fA fdA ["prog"] (spLAll K))
    (FD : Fun K "_law_draw" "_law_draw" sDraw fD fdD) (bD : Binds K fdD ["pool", "many"] []) (gD : mg "_law_draw" = some (.ref fD)) (GD : FnOk P w K mg base CX0 1 fD fdD ["pool", "many"] spDraw) : FnOk P w K mg base CX0 3 f fd ["pool", "prog", "chance"] (spSome K) := by
  refine Fn.ok scSome (fun vs H Q E h => ?_) (fun cdv A outer s H vs Q E hr h => ?_)
  · obtain ⟨p, q, rs, i, ch, r, dp, ex, pls, ls, b, es, rfl, _⟩ := h
    rfl
  · obtain ⟨p, q, rs, i, ch, r, dp, ex, pls, ls, b, es, rfl, hP, h, D, few, k⟩ := h
    have nd := scSome.nd
    have hr1 : Room 1 _ := hr.mono (by decide)
    refine ⟨_, pss_one (ps_ret (pe_lc (own := [("counter", 3)]) (g := gName 3) (tt := tTest (tOp (rI0 fun i j => .bl (decide (i < j))) (tCall spDraw [] E0 (tCons (tVar 0) (tCons (tC (V.int 6)) tNil))) (tVar 2))) rfl nd (pi_list (pe_call GA hr (by rfl) gA FA.kp bA .nil pass0 (pa_cons (pv 1) pa_nil))) (blkOk_by (own := [("counter", 3)]) (N := nsSm) (sc := defScope sSome) (by decide +kernel)) (fun _ _ _ _ _ => pg_name (i := 3) nd rfl (Or.inl rfl))
      (fun _ _ _ _ _ => pts_one (pt_cmpR op_lt (pe_call GD hr1 (by rfl) gD FD.kp bD .nil pass0 (pa_cons (pv 0) (pa_cons pe_int pa_nil))) (pv 2) (nomark _))) (fun _ _ _ _ _ => pv 3))), ?_⟩
    refine ⟨_, rfl, r, dp, ex, pls, ls, b, es, rfl, h, D, fun H1 pA us s1 npA hpA hus => ?_⟩
    have hP1 := hP.same s1
    have nAp : pA ≠ p := fun z => by rw [z, hP.hp] at npA; cases npA
    generalize allC (pdOf ls b es) = all at hus few k
    have lu : us.length = all.length := Paired.length hus
    refine ⟨pA, rfl, ⟨_, SqL.of hpA⟩, fun B nB => ?_⟩
    have nBp : B ≠ p := fun z => by rw [z, hP1.hp] at nB; cases nB
    have nqB : q ≠ B := ne_of_none hP1.hq nB
    refine lc_it (walk_list (xs := us)) (fun j H' => But p H1 H' ∧ ∃ (i' : Int) (ts : List V) (cs : List (List Str)), PoolAt H' p q rs i' ∧ H' B = some (.lst ts) ∧ TupLs K H' ts cs ∧ cs.Sublist (all.take j)) ⟨But.of (sm nB), i, [], [], hP1.same (sm nB), upd_same, .nil, List.Sublist.refl _⟩ (fun j H' _ z => SqL.of (z.1 _ _ nAp hpA)) ?_ ?_
    · rintro j v H2 H3 hj ⟨b2, i', ts, cs, hP2, hB, hts, sub⟩ ⟨rfl, ev⟩
      obtain ⟨c, hc, tc⟩ := paired_at hus ev
      have tc2 := tup_but b2 hP1.hp tc
      have tk : all.take (j + 1) = all.take j ++ [c] := by rw [List.take_add_one, hc]; rfl
      have lts : ts.length ≤ 200 := by
        rw [Paired.length hts]
        exact Nat.le_trans sub.length_le (Nat.le_trans (List.length_take_le' j _) few)
      refine ⟨rfl, _, rfl, p, q, rs, i', 6, rfl, hP2, by decide, fun r0 r1 r2 => ?_⟩
      have hP3 := pool_step hP2
      have b3 : But p H3 (upd H3 p (.lst [.ref q, .int (i' + 1)])) := But.upd _
      generalize upd H3 p (.lst [.ref q, .int (i' + 1)]) = H4 at hP3 b3
      have tc4 := tup_but b3 hP2.hp tc2
      have hts4 := tups_but b3 hP2.hp hts
      have hB4 := b3 _ _ nBp hB
      have b14 := b2.trans b3
      refine ⟨_, rfl, _, _, rfl, rfl, _, rfl, iteB (fun _ => ?_) (fun _ => ?_)⟩
      · refine ⟨_, rfl, ts, hB4, small1000 (by omega), fun a o n e => ?_, i' + 1, _, cs ++ [c], LW.pool_upd hP3 nBp.symm nqB, upd_same, paired_snoc (tups_off hB4 (by intro l z; cases z) (by intro od l z; cases z) hts4) (tup_off hB4 (by intro l z; cases z) (by intro od l z; cases z) tc4), ?_⟩
        · rw [upd_ne (ne_of_none e nB)]
          exact b14 a o n e
        · rw [tk]
          exact List.Sublist.append sub (List.Sublist.refl _)
      · exact ⟨b14, i' + 1, ts, cs, hP3, hB4, hts4, by rw [tk]; exact List.Sublist.trans sub (List.sublist_append_left _ _)⟩
    · rintro H' ⟨b2, i', ts, cs, hP2, hB, hts, sub⟩
      rw [lu, List.take_length] at sub
      exact k H' B ts cs i' ((But.of s1).trans b2) (RX.fr_of s1 nB) hP2 hB hts sub
end
end LC


set_option Elab.async false
set_option linter.all false
set_option maxRecDepth 100000
set_option maxHeartbeats 4000000
/-! counters of drawn programs, in plain mathematics -/
namespace LC
open PySem L2 PG OW CT
open LH hiding sm top
open LW (But Drawn PrgAt okWords menuN word_of)
theorem lay_word {x : Str} (h : isWord x = true) : PyData.canLay0 (.str x) = true := by
  unfold isWord at h
  rw [Bool.and_eq_true, Bool.and_eq_true] at h
  have h3 := List.all_eq_true.mp h.2.2
  show x.cps.all (· < 0x110000) = true
  rw [← Array.all_toList, List.all_eq_true]
  intro c hc
  have m : c ∈ alpha.cps.toList := of_decide_eq_true (h3 c hc)
  have all : ∀ c ∈ alpha.cps.toList, decide (c < 0x110000) = true := by decide +kernel
  exact all c m
theorem hits_eq (lb : List Lk) : ∀ la : List Lk, hitsL lb la = la.all fun l => decide (l.1 ∈ keysL lb) && decide (l.2 = lkp lb l.1)
  | [] => rfl
  | l :: r => by
    unfold hitsL
    rw [List.all_cons, hits_eq lb r]
    by_cases m : l.1 ∈ keysL lb
    · rw [if_pos m, decide_eq_true m, Bool.true_and]
    · rw [if_neg m, decide_eq_false m, Bool.false_and, Bool.false_and]
theorem hits_refl {ls : List Lk} (n : (keysL ls).Nodup) : hitsL ls ls = true := by
  rw [hits_eq, List.all_eq_true]
  intro l hl
  rw [decide_eq_true (key_mem hl), decide_eq_true (lkp_of n hl).symm]
  rfl
theorem hits_srt {la lb : List Lk} (na : (keysL la).Nodup) (nb : (keysL lb).Nodup) : hitsL (srtL lb) (srtL la) = hitsL lb la := by
  rw [hits_eq, hits_eq, Bool.eq_iff_iff, List.all_eq_true, List.all_eq_true]
  have kk : ∀ x, x ∈ keysL (srtL lb) ↔ x ∈ keysL lb := fun x => by rw [srtL_keys]; exact srt_mem
  constructor
  · intro h l hl
    have z := h l ((srtL_mem na).mpr hl)
    rw [Bool.and_eq_true, decide_eq_true_eq, decide_eq_true_eq] at z ⊢
    have m := (kk _).mp z.1
    exact ⟨m, by rw [z.2, srtL_lkp nb m]⟩
  · intro h l hl
    have z := h l ((srtL_mem na).mp hl)
    rw [Bool.and_eq_true, decide_eq_true_eq, decide_eq_true_eq] at z ⊢
    exact ⟨(kk _).mpr z.1, by rw [z.2, srtL_lkp nb z.1]⟩
theorem eqPD_of {la lb : List Lk} (na : (keysL la).Nodup) (nb : (keysL lb).Nodup) (b : Str) (es : List Str) : eqPD (pdOf la b es) (pdOf lb b es) = (decide (la.length = lb.length) && hitsL lb la) := by
  unfold eqPD pdOf
  dsimp only
  rw [srtL_len, srtL_len, hits_srt na nb, decide_eq_true rfl, decide_eq_true rfl, Bool.and_true, Bool.and_true]
theorem tag_nodup {t : Str} {ws : List Str} (n : ws.Nodup) : (tag t ws).Nodup := by
  unfold tag
  exact List.Pairwise.map _ (fun a b ne e => ne (List.cons.inj (List.cons.inj e).2).1) n
theorem tag_mem {t : Str} {ws : List Str} {c : List Str} : c ∈ tag t ws ↔ ∃ x ∈ ws, c = [t, x] := by
  unfold tag
  rw [List.mem_map]
  exact ⟨fun ⟨x, h, e⟩ => ⟨x, h, e.symm⟩, fun ⟨x, h, e⟩ => ⟨x, h, e.symm⟩⟩
theorem mem_allC {d : PD} {c : List Str} : c ∈ allC d ↔ (∃ x ∈ keysL d.ls, c = [("way" : Str), x]) ∨ (∃ x ∈ d.ps, c = [("place" : Str), x]) ∨ (∃ x ∈ d.fs, c = [("stop" : Str), x]) ∨ c = [("runs" : Str)] := by
  unfold allC
  rw [List.mem_append, List.mem_append, List.mem_append, tag_mem, tag_mem, tag_mem, List.mem_singleton]
theorem tags_ne : ("way" : Str) ≠ "place" ∧ ("way" : Str) ≠ "stop" ∧ ("place" : Str) ≠ "stop" := by decide +kernel
theorem tags_lay : PyData.canLay0 (.str "way") = true ∧ PyData.canLay0 (.str "place") = true ∧ PyData.canLay0 (.str "stop") = true ∧ PyData.canLay0 (.str "runs") = true := by decide +kernel
theorem pdok_of {ls : List Lk} {b : Str} {es : List Str} (g : GoodP ls b es) : PDok (pdOf ls b es) := by
  have we : ∀ x ∈ ends ls, isWord x = true := fun x hx => by
    obtain ⟨l, hl, q⟩ := ends_mem.mp hx
    obtain ⟨_, w1, w2⟩ := g.wd l hl
    rcases q with q | q
    · rw [q]; exact w1
    · rw [q]; exact w2
  refine ⟨fun x hx => lay_word (we x ?_), fun x hx => lay_word (we x (g.hs x (srt_mem.mp hx)))⟩
  obtain ⟨l, hl, q⟩ := ends_mem.mp hx
  exact ends_mem.mpr ⟨l, (srtL_mem g.nd).mp hl, q⟩
theorem pdg_of {ls : List Lk} {b : Str} {es : List Str} (g : GoodP ls b es) : PDg (pdOf ls b es) := by
  have we : ∀ x ∈ ends ls, isWord x = true := fun x hx => by
    obtain ⟨l, hl, q⟩ := ends_mem.mp hx
    obtain ⟨_, w1, w2⟩ := g.wd l hl
    rcases q with q | q
    · rw [q]; exact w1
    · rw [q]; exact w2
  have es64 : es.length ≤ 64 := by
    have z := nodup_leC g.hn fun x hx => plc_mem.mpr (g.hs x hx)
    have := g.sm
    omega
  have kw : ∀ x ∈ keysL (srtL ls), isWord x = true := fun x hx => by
    rw [srtL_keys] at hx
    obtain ⟨l, hl, rfl⟩ := List.mem_map.mp (srt_mem.mp hx)
    exact (g.wd l hl).1
  have mm : ∀ c ∈ allC (pdOf ls b es), TxOkk c ∧ c.length ≤ 2 := fun c hc => by
    rcases mem_allC.mp hc with ⟨x, hx, rfl⟩ | ⟨x, hx, rfl⟩ | ⟨x, hx, rfl⟩ | rfl
    · refine ⟨fun y hy => ?_, Nat.le_refl _⟩
      rcases List.mem_cons.mp hy with rfl | z
      · exact tags_lay.1
      · rw [List.mem_singleton.mp z]; exact lay_word (kw x hx)
    · refine ⟨fun y hy => ?_, Nat.le_refl _⟩
      rcases List.mem_cons.mp hy with rfl | z
      · exact tags_lay.2.1
      · rw [List.mem_singleton.mp z]; exact lay_word (we x (plc_mem.mp hx))
    · refine ⟨fun y hy => ?_, Nat.le_refl _⟩
      rcases List.mem_cons.mp hy with rfl | z
      · exact tags_lay.2.2.1
      · rw [List.mem_singleton.mp z]; exact lay_word (we x (g.hs x (srt_mem.mp hx)))
    · refine ⟨fun y hy => ?_, by show 1 ≤ 2; decide⟩
      rw [List.mem_singleton.mp hy]; exact tags_lay.2.2.2
  have sm := g.sm
  have n2 := g.n2
  have lk : (keysL (srtL ls)).length = ls.length := by rw [srtL_keys, srt_len]; exact List.length_map _
  exact {
    ok := pdok_of g
    sz := ⟨by show (srtL ls).length ≤ 40; rw [srtL_len]; exact n2, by show (plc ls).length ≤ 64; omega, by show (srt es).length ≤ 64; rw [srt_len]; exact es64⟩
    cok := fun c hc => (mm c hc).1
    sm := fun c hc => Nat.le_trans (mm c hc).2 (by decide)
    few := by
      unfold allC
      rw [List.length_append, List.length_append, List.length_append, tag_len, tag_len, tag_len]
      show (keysL (srtL ls)).length + ((plc ls).length + ((srt es).length + 1)) ≤ 200
      rw [lk, srt_len]
      omega
    eqr := by
      rw [eqPD_of g.nd g.nd, decide_eq_true rfl, hits_refl g.nd]
      rfl
    nd := by
      unfold allC
      refine List.nodup_append.mpr ⟨tag_nodup (srtL_nodup g.nd), List.nodup_append.mpr ⟨tag_nodup (plc_nodup ls), List.nodup_append.mpr ⟨tag_nodup (srt_nodup g.hn), List.nodup_cons.mpr ⟨List.not_mem_nil, List.nodup_nil⟩, ?_⟩, ?_⟩, ?_⟩
      · intro a ha c hc e
        obtain ⟨x, _, rfl⟩ := tag_mem.mp ha
        rw [List.mem_singleton.mp hc] at e
        cases e
      · intro a ha c hc e
        obtain ⟨x, _, rfl⟩ := tag_mem.mp ha
        rcases List.mem_append.mp hc with z | z
        · obtain ⟨y, _, rfl⟩ := tag_mem.mp z
          exact tags_ne.2.2 (List.cons.inj e).1
        · rw [List.mem_singleton.mp z] at e
          cases e
      · intro a ha c hc e
        obtain ⟨x, _, rfl⟩ := tag_mem.mp ha
        rcases List.mem_append.mp hc with z | z
        · obtain ⟨y, _, rfl⟩ := tag_mem.mp z
          exact tags_ne.1 (List.cons.inj e).1
        · rcases List.mem_append.mp z with z | z
          · obtain ⟨y, _, rfl⟩ := tag_mem.mp z
            exact tags_ne.2.1 (List.cons.inj e).1
          · rw [List.mem_singleton.mp z] at e
            cases e }
theorem selC_congr {d : PD} {as bs : List (List Str)} (h : ∀ c ∈ allC d, c ∈ as ↔ c ∈ bs) : selC d as = selC d bs := by
  unfold selC
  exact List.filter_congr fun c hc => by rw [decide_eq_decide]; exact h c hc
theorem selC_mem {d : PD} {as : List (List Str)} {c : List Str} : c ∈ selC d as ↔ c ∈ allC d ∧ c ∈ as := by
  unfold selC
  rw [List.mem_filter, decide_eq_true_eq]
theorem selC_len {d : PD} (g : PDg d) {as : List (List Str)} (h : CsIn d as) : (selC d as).length = as.length := by
  refine Nat.le_antisymm (nodup_leC (selC_in g as).nd fun c hc => (selC_mem.mp hc).2) (nodup_leC h.nd fun c hc => selC_mem.mpr ⟨h.sub c hc, hc⟩)
theorem selC_all (d : PD) : selC d (allC d) = allC d := by
  unfold selC
  exact List.filter_eq_self.mpr fun c hc => decide_eq_true hc
theorem selC_sel (d : PD) (as : List (List Str)) : selC d (selC d as) = selC d as := selC_congr fun c hc => by rw [selC_mem]; exact ⟨fun h => h.2, fun h => ⟨hc, h⟩⟩
theorem mem_addL {cs ds : List (List Str)} {c : List Str} : c ∈ addL cs ds ↔ c ∈ cs ∨ c ∈ ds := by
  unfold addL
  rw [List.mem_append, List.mem_filter]
  constructor
  · rintro (h | h)
    · exact .inl h
    · exact .inr h.1
  · rintro (h | h)
    · exact .inl h
    · by_cases e : c ∈ cs
      · exact .inl e
      · exact .inr ⟨h, by rw [decide_eq_false e]; rfl⟩
theorem mem_subL {cs ds : List (List Str)} {c : List Str} : c ∈ subL cs ds ↔ c ∈ cs ∧ c ∉ ds := by
  unfold subL
  rw [List.mem_filter, Bool.not_eq_true', decide_eq_false_iff_not]
theorem selC_add (d : PD) (as bs : List (List Str)) : selC d (addL (selC d as) (selC d bs)) = selC d (addL as bs) := selC_congr fun c hc => by
  rw [mem_addL, mem_addL, selC_mem, selC_mem]
  exact ⟨fun h => h.elim (fun z => .inl z.2) (fun z => .inr z.2), fun h => h.elim (fun z => .inl ⟨hc, z⟩) (fun z => .inr ⟨hc, z⟩)⟩
theorem selC_sub (d : PD) (as bs : List (List Str)) : selC d (subL (selC d as) (selC d bs)) = selC d (subL as bs) := selC_congr fun c hc => by
  rw [mem_subL, mem_subL, selC_mem, selC_mem]
  exact ⟨fun h => ⟨h.1.2, fun z => h.2 ⟨hc, z⟩⟩, fun h => ⟨⟨hc, h.1⟩, fun z => h.2 z.2⟩⟩
theorem sub_in {d : PD} (g : PDg d) {cs : List (List Str)} (h : cs.Sublist (allC d)) : CsIn d cs := ⟨fun c hc => h.subset hc, g.nd.sublist h⟩
theorem CsIn.rev {d : PD} {cs : List (List Str)} (h : CsIn d cs) : CsIn d cs.reverse := ⟨fun c hc => h.sub c (List.mem_reverse.mp hc), by rw [List.Nodup, List.pairwise_reverse]; exact h.nd.imp fun ne e => ne e.symm⟩
/-- the ways are more, the places the same -/
theorem good_more {ls ls' : List Lk} {b : Str} {es : List Str} (g : GoodP ls b es) (hp : ∀ pr ∈ ls.map (·.2), pr ∈ ls'.map (·.2)) (hq : ∀ l ∈ ls', l.2.1 ∈ ends ls ∧ l.2.2 ∈ ends ls) (n1 : 1 ≤ ls'.length) (n2 : ls'.length ≤ 40) (nd : (keysL ls').Nodup) (wk : ∀ x ∈ keysL ls', isWord x = true) : GoodP ls' b es := by
  have we : ∀ x ∈ ends ls, isWord x = true := fun x hx => by
    obtain ⟨l, hl, q⟩ := ends_mem.mp hx
    obtain ⟨_, w1, w2⟩ := g.wd l hl
    rcases q with q | q
    · rw [q]; exact w1
    · rw [q]; exact w2
  have he : ∀ x, x ∈ ends ls' ↔ x ∈ ends ls := fun x => by
    constructor
    · intro h
      obtain ⟨l, hl, q⟩ := ends_mem.mp h
      rcases q with q | q
      · rw [q]; exact (hq l hl).1
      · rw [q]; exact (hq l hl).2
    · intro h
      obtain ⟨l, hl, q⟩ := ends_mem.mp h
      obtain ⟨l2, h2, e⟩ := List.mem_map.mp (hp l.2 (List.mem_map.mpr ⟨l, hl, rfl⟩))
      exact ends_mem.mpr ⟨l2, h2, by rw [e]; exact q⟩
  have epl : plc ls' = plc ls := by
    unfold plc
    refine srt_same (insAll_nd List.nodup_nil) (insAll_nd List.nodup_nil) fun x => ?_
    rw [STX.insAll_mem, STX.insAll_mem]
    exact ⟨fun h => h.elim (fun z => .inl ((he x).mp z)) .inr, fun h => h.elim (fun z => .inl ((he x).mpr z)) .inr⟩
  exact {
    n1 := n1, n2 := n2, nd := nd
    sm := by rw [epl]; exact g.sm
    wd := fun l hl => ⟨wk _ (key_mem hl), we _ (hq l hl).1, we _ (hq l hl).2⟩
    hb := (he b).mpr g.hb
    he := g.he
    hs := fun e h => (he e).mpr (g.hs e h)
    hn := g.hn
    reach := fun x hx => (g.reach x ((he x).mp hx)).mono (fun _ z => z) hp
    leave := fun x hx => (g.leave x ((he x).mp hx)).mono (fun _ z => z) fun pr h => by
      obtain ⟨l, hl, e⟩ := List.mem_map.mp h
      obtain ⟨l2, h2, e2⟩ := List.mem_map.mp (hp l.2 (List.mem_map.mpr ⟨l, hl, rfl⟩))
      exact List.mem_map.mpr ⟨l2, h2, by show (l2.2.2, l2.2.1) = pr; rw [e2]; exact e⟩ }
end LC


set_option Elab.async false
set_option linter.all false
set_option maxRecDepth 100000
set_option maxHeartbeats 4000000
/-! {k: v for t in i if ..}, the keys tuples of ints and texts. -/
namespace DCt
open PySem PySem.Spec PyProof.Rows L2 STX
section
variable {X : Cx}
theorem put_T {pins : List (Addr × Obj)} {σ : L2.St} {H : Hp} {s : Shared} {E : Value → Shared → Prop} {D b : Addr} {kvs : List (List Key × V)} {k : List Key} {v : V} {r : Value} {Q : Unit → Shared → Prop} (hu : X.A.units < cLine) (I : Inv X pins σ H s) (hD : H D = some (.dT kvs)) (hb : H b = some (.tup (k.map kV))) (hz : kvs.length < sizeLine)
    (rv : RelV v r) (go : ∀ s', Inv X pins σ (upd H D (.dT (putK kvs k v))) s' → Q () s') : wpAny (model X.prog X.w) X.A (dictSet D (.ref b) r) Q E s := by
  obtain ⟨z, nm, xs, rel, dd⟩ := dt_of I.hok hD
  have len : (putK kvs k v).length ≤ sizeLine := by have := length_putK kvs k v; omega
  refine wpAny_dictSet_heap (knd := tupleKind (mixKind X.prog X.w)) (hsz := by rw [← Paired.length rel]; exact z) hu (key_of I.hok hb) dd fun h' dd' sb => go _ ?_
  · obtain ⟨q, es, ep, hq, h2, h3, h4, _, h5⟩ := dd'
    refine d_write I (by rw [hD]; trivial) sb ⟨q, hq⟩ ⟨len, nm, _, (rel.put k hb rv).keeps fun c ys ec => ?_, q, es, ep, hq, h2, h3, h4, h5⟩
    rw [upd_ne (ne_of ec hD (by intro z; cases z))]
    exact ec
/-- its reading: D the new dict -/
def tDcT (wi : TI) (g : TG) (tt : TT) (tk tv : TE) (vs : List Nat) : TE := fun σ H Q => wi σ H fun J H1 => ∀ D, H1 D = none → ∃ W : Nat → Nat → Hp → Prop, (∃ m, W 0 m (upd H1 D (.dT []))) ∧ ∀ i m H, W i m H →
  (J.stop i H ∧ Q (.ref D) H) ∨ (J.go i H ∧ ∃ Nx : Hp → Prop, (∀ H', Nx H' → ∃ m', m' < m ∧ W (i + 1) m' H') ∧ ∀ x H', J.yld i H x H' → g x (wipe σ vs) H' fun σ2 H2 => wipe σ2 vs = wipe σ vs ∧ tt σ2 H2 fun b H3 =>
    if b = true then tk σ2 H3 fun y H4 => tv σ2 H4 fun z H5 => ∃ (kvs : List (List Key × V)) (k : List Key) (kb : Addr), y = .ref kb ∧ H5 kb = some (.tup (k.map kV)) ∧ H5 D = some (.dT kvs) ∧ kvs.length < sizeLine ∧ Nx (upd H5 D (.dT (putK kvs k z))) else Nx H3)
theorem dcT_core {pins : List (Addr × Obj)} {s : Shared} {σ : L2.St} {H : Hp} {Q : VK} {kx vx tg iter : Expr} {ifs : List Expr} {scope : Scope} {own : List (Str × Nat)} {pos pos' : Pos} {wi : TI} {g : TG} {tt : TT} {tk tv : TE} {use : Option (Value → Sem Unit)} {Qf : Value → Shared → Prop} (hu : X.A.units < cLine)
    (hc : X.calm = true) (hN : X.N.Nodup) (I : Inv X pins σ H s) (hi : PI X tg iter wi) (ok : BlkOk X.N X.env.scope scope own)
    (hg : AllB X scope fun Y => PG Y tg g) (ht : AllB X scope fun Y => PTs Y ifs tt) (hk : AllB X scope fun Y => PE Y kx tk) (he : AllB X scope fun Y => PE Y vx tv)
    (hs : ∀ x, foldedSetIterable iter X.env x = pure x) (h : tDcT wi g tt tk tv (own.map (·.2)) σ H Q)
    (fin : ∀ D C s' m H', Inv X pins σ H' s' → Q (.ref D) H' → s'.heap.Ns C m → FpOk X pins H' C → compPost (model X.prog X.w) X.A X.xe use Qf (.ref D) C (.ok .next) s') :
    wpAny (model X.prog X.w) X.A (comprehension (.DictComp kx vx [⟨tg, iter, ifs, 0⟩] scope pos) scope X.env pos' newDict false (eval iter X.env) use) Qf X.xe s := by
  have cells : ∀ y ∈ scope.names, y.2 = .free → ∃ c, X.env.cells.lookup y.1 = some c := fun y hy e => (ok.free y hy e).elim (fun k => I.ok.has _ (.inl k)) fun k => I.ok.has _ (.inr k)
  refine wpAny_comprehension_free (use := use) rfl hs (closure_ok cells) ok.kind (fun y hy e => by rw [ok.uniq y hy, e]) (thn (hi.run pins s σ H _ I h) fun xv s1 hx => thn hx fun itv s2 z2 => ?_)
  obtain ⟨it, fp, tn, J, H2, e, I2, T, st2, f2, q⟩ := z2
  subst e
  refine wpAny_newObj_type (newEnv_comp ?_)
  generalize eD : s2.heap.objs.size = D
  have nD : H2 D = none := I2.hok.fresh (Nat.le_of_eq eD)
  obtain ⟨W, ⟨m0, w0⟩, turn⟩ := q D nD
  generalize e3 : ({ s2 with heap := s2.heap.push { cls := .type "dict", data := .dict #[] } } : Shared) = s3
  have p3 : s3.heap = s2.heap.push { cls := .type "dict", data := .dict #[] } := by rw [← e3]
  have I3 : Inv X pins σ (upd H2 D (.dT [])) s3 := by
    rw [← e3]
    refine I2.laid (t' := s2.toks) (fun b o z => Heap.get?_push_of_some _ z) (Nat.le_of_eq eD) ?_
    rw [← eD]
    exact dt_empty s2.heap I2.big
  have f3 : ∀ b ∈ fp, FpOk X pins (upd H2 D (.dT [])) b ∧ b < s3.heap.objs.size := fun b hb => by
    obtain ⟨o, ho, _⟩ := T.obj _ _ st2 b hb
    have lt := Heap.lt_size ho
    refine ⟨⟨?_, (f2 b hb).2⟩, by rw [p3, Heap.size_push]; exact Nat.lt_succ_of_lt lt⟩
    rw [upd_ne (by rw [← eD]; exact Nat.ne_of_lt lt)]
    exact (f2 b hb).1
  have st3 : tn 0 s3.heap := T.keep _ _ _ st2 fun b _ o z => by rw [p3]; exact Heap.get?_push_of_some _ z
  have I4 := block_start I3 ok hN f3
  have a1 := hg s3 (upd H2 D (.dT [])) s3.heap.objs.size (cellsFrom (s3.heap.objs.size + 1) scope.names (cloFrom X.env.cells scope.names [])) fp
  have a2 := ht s3 (upd H2 D (.dT [])) s3.heap.objs.size (cellsFrom (s3.heap.objs.size + 1) scope.names (cloFrom X.env.cells scope.names [])) fp
  have a4 := hk s3 (upd H2 D (.dT [])) s3.heap.objs.size (cellsFrom (s3.heap.objs.size + 1) scope.names (cloFrom X.env.cells scope.names [])) fp
  have a3 := he s3 (upd H2 D (.dT [])) s3.heap.objs.size (cellsFrom (s3.heap.objs.size + 1) scope.names (cloFrom X.env.cells scope.names [])) fp
  have nfp : ∀ b ∈ fp, (upd H2 D (.dT [])) b = none := fun b hb => (f3 b hb).1.1
  show codeAny _ _ (.compStart (.DictComp kx vx [⟨tg, iter, ifs, 0⟩] scope pos) 0 (.ref it) (.ref D) (compEnvC scope (cellsFrom (s3.heap.objs.size + 1) scope.names (cloFrom X.env.cells scope.names [])) s3.heap.objs.size X.env)) (compPost (model X.prog X.w) X.A X.xe use Qf (.ref D) s3.heap.objs.size) { s3 with heap := pushCells (s3.heap.push { cls := .type "dict", data := .dict #[] }) scope.names }
  generalize ece : compEnvC scope (cellsFrom (s3.heap.objs.size + 1) scope.names (cloFrom X.env.cells scope.names [])) s3.heap.objs.size X.env = ce at I4 a1 a2 a3 a4 ⊢
  have cL : ce.locals = s3.heap.objs.size := by
    subst ece
    rfl
  generalize upd H2 D (.dT []) = H3 at I3 I4 a1 a2 a3 a4 w0 nfp f3
  generalize e4 : ({ s3 with heap := pushCells (s3.heap.push { cls := .type "dict", data := .dict #[] }) scope.names } : Shared) = s4 at I4 ⊢
  have st4 : tn 0 s4.heap := T.keep _ _ _ st3 fun b _ o z => by rw [← e4]; exact pushCells_keeps _ _ _ _ (Heap.get?_push_of_some _ z)
  have hold : ∀ {σ' : L2.St} {H' : Hp} {s' : Shared}, Inv (X.blk s3 H3 scope ce fp) [] σ' H' s' → (∀ b ∈ fp, H' b = none) → ∀ b ∈ fp, FpOk (X.blk s3 H3 scope ce fp) [] H' b := fun {σ' H' s'} I' hn b hb =>
    ⟨hn b hb, (I'.ok.exf b hb).1, I'.ok.exfs b hb, .inl hb, fun x c z => (I'.ok.exf b hb).2 x c z, fun p hp => absurd (show p ∈ ([] : List (Addr × Obj)) ++ [] from hp) (by simp)⟩
  have main : codeAny (model X.prog X.w) X.A (.compLoop (.DictComp kx vx [⟨tg, iter, ifs, 0⟩] scope pos) 0 (.ref it) (.ref D) ce) (compPost (model X.prog X.w) X.A X.xe use Qf (.ref D) s3.heap.objs.size) s4 := by
    refine compLoop_anyD (fun n s' => ∃ i H', Inv (X.blk s3 H3 scope ce fp) [] (wipe σ (own.map (·.2))) H' s' ∧ tn i s'.heap ∧ (∀ b ∈ fp, H' b = none) ∧ W i n H') ?_ m0 ⟨0, H3, I4, st4, nfp, w0⟩
    rintro n s5 ⟨i, H5, I5, st5, n5, w5⟩
    rcases turn i n H5 w5 with ⟨stop, qq⟩ | ⟨go, Nx, hNx, step⟩
    · refine thnF (T.done (X.blk s3 H3 scope ce fp) rfl rfl rfl hc i [] s5 _ H5 (fun _ _ => False) I5 (hold I5 n5) st5 stop) fun r s6 ⟨hr, I6⟩ => ?_
      subst hr
      have I7 : Inv X pins σ H5 s6 := I3.call' (ch := fp) I6.os I6.base I6.hok I6.bare fun b hb => ⟨(f3 b hb).1.2.2.2.1, (f3 b hb).1.2.1, (f3 b hb).1.2.2.2.2.1, (f3 b hb).1.2.2.2.2.2⟩
      have nC : H5 s3.heap.objs.size = none := by
        have z : H5 ce.locals = none := I6.free
        rw [cL] at z
        exact z
      obtain ⟨m, hn, _⟩ := I6.loc
      have hn : s6.heap.Ns ce.locals m := hn
      rw [cL] at hn
      exact fin D s3.heap.objs.size s6 m H5 I7 qq hn (I3.fpOk (Nat.le_refl _) nC)
    · refine thnF (T.item (X.blk s3 H3 scope ce fp) rfl rfl rfl hc i [] s5 _ H5 (fun _ _ => False) I5 (hold I5 n5) st5 go) fun r s6 ⟨u, hr, h6⟩ => ?_
      subst hr
      refine thnF h6 fun _ s7 ⟨x, H7, I7, r7, y7, st7, n7⟩ => ?_
      refine thnF (a1.run _ s7 _ H7 x u _ (I7.pinned (hold I7 n7) (T.obj _ _ st7)) r7 (step x H7 y7)) fun _ s8 ⟨σ8, H8, I8, hw8, q8⟩ => ?_
      refine thnF (a2.run _ s8 σ8 H8 _ I8 q8) fun b s9 ⟨H9, I9, q9⟩ => ?_
      have back : ∀ {σ9 : L2.St} {s' : Shared} {H' : Hp}, Inv (X.blk s3 H3 scope ce fp) ([] ++ pinsAt fp s7.heap) σ9 H' s' → (wipe σ (own.map (·.2))).length = σ9.length → (∀ (j : Nat) v, (wipe σ (own.map (·.2)))[j]? = some (some v) → σ9[j]? = some (some v)) → Nx H' →
          ∃ m, m < n ∧ ∃ i H', Inv (X.blk s3 H3 scope ce fp) [] (wipe σ (own.map (·.2))) H' s' ∧ tn i s'.heap ∧ (∀ b ∈ fp, H' b = none) ∧ W i m H' := fun {σ9 s' H'} I' hl hk nx => by
        obtain ⟨m', hm, w'⟩ := hNx H' nx
        have pin' : ∀ b ∈ fp, ∀ o, s7.heap.get? b = some o → s'.heap.get? b = some o ∧ H' b = none := fun b hb o z =>
          ⟨(I'.pin (b, o) (List.mem_append_right _ (List.mem_append_right _ (mem_pinsAt hb z)))).1, (I'.pin (b, o) (List.mem_append_right _ (List.mem_append_right _ (mem_pinsAt hb z)))).2.1⟩
        refine ⟨m', hm, i + 1, H', (I'.unpinned (pins := [])).weak hl hk, T.keep _ _ _ st7 fun b hb o z => (pin' b hb o z).1, fun b hb => ?_, w'⟩
        obtain ⟨o, z, _⟩ := T.obj _ _ st7 b hb
        exact (pin' b hb o z).2
      have l8 : (wipe σ (own.map (·.2))).length = σ8.length := by rw [← hw8, wipe_length]
      have k8 : ∀ (j : Nat) v, (wipe σ (own.map (·.2)))[j]? = some (some v) → σ8[j]? = some (some v) ∧ j ∉ own.map (·.2) := fun j v z => by
        rw [← hw8] at z
        exact wipe_some z
      cases b with
      | false =>
        simp only [Bool.false_eq_true, if_false] at q9 ⊢
        exact back I9 l8 (fun j v z => (k8 j v z).1) q9
      | true =>
        simp only [if_true] at q9 ⊢
        refine thnF (a4.run _ s9 σ8 H9 _ I9 q9) fun z s10 ⟨yk, H10, I10, r10, q10⟩ => ?_
        refine thnF (a3.run _ s10 σ8 H10 _ I10 q10) fun z2 s11 ⟨yv, H11, I11, r11, kvs, k, kb, ek, hb11, hD11, hz11, nx⟩ => ?_
        subst ek
        cases (show z = Value.ref kb from r10)
        exact put_T (X := X.blk s3 H3 scope ce fp) hu I11 hD11 hb11 hz11 r11 fun s12 I12 => back I12 l8 (fun j v z => (k8 j v z).1) nx
  exact codeAny_compStart_dict main (T.self X.A 0 _ _ _ st4 main)
theorem pe_dcT {kx vx tg iter : Expr} {ifs : List Expr} {scope : Scope} {own : List (Str × Nat)} {pos : Pos} {wi : TI} {g : TG} {tt : TT} {tk tv : TE} (hu : X.A.units < cLine)
    (hc : X.calm = true) (hN : X.N.Nodup) (hi : PI X tg iter wi) (ok : BlkOk X.N X.env.scope scope own)
    (hg : AllB X scope fun Y => PG Y tg g) (ht : AllB X scope fun Y => PTs Y ifs tt) (hk : AllB X scope fun Y => PE Y kx tk) (he : AllB X scope fun Y => PE Y vx tv)
    (hs : ∀ x, foldedSetIterable iter X.env x = pure x := by intro _; rfl) :
    PE X (.DictComp kx vx [⟨tg, iter, ifs, 0⟩] scope pos) (tDcT wi g tt tk tv (own.map (·.2))) := by
  refine ⟨fun pins s σ H Q I h => ?_⟩
  rw [arm_eval_DictComp]
  refine dcT_core hu hc hN I hi ok hg ht hk he hs h fun D C s' m H' I' q hn f => ⟨m, hn, fun h'' sb => ?_⟩
  exact ⟨.ref D, H', I'.turned (t' := s'.toks) (fun b o hb e => (sb.2 b hb).trans e) f.1 f.2.1 f.2.2.2.1 f.2.2.2.2.1 f.2.2.2.2.2, rfl, q⟩
/-- name = {..} on one line, the name a local -/
theorem ps_setDcT {i : Nat} {y : Str} {py : Pos} {kx vx tg iter : Expr} {ifs : List Expr} {scope : Scope} {own : List (Str × Nat)} {pos spos : Pos} {wi : TI} {g : TG} {tt : TT} {tk tv : TE} (hu : X.A.units < cLine)
    (hc : X.calm = true) (hN : X.N.Nodup) (hy : X.N[i]? = some y) (hyl : X.env.scope.names.lookup y = some .local) (hsw : swapsWith (.DictComp kx vx [⟨tg, iter, ifs, 0⟩] scope pos) (some (.Name y py)) spos.line X.env = pure true)
    (hi : PI X tg iter wi) (ok : BlkOk X.N X.env.scope scope own)
    (hg : AllB X scope fun Y => PG Y tg g) (ht : AllB X scope fun Y => PTs Y ifs tt) (hk : AllB X scope fun Y => PE Y kx tk) (he : AllB X scope fun Y => PE Y vx tv)
    (hs : ∀ x, foldedSetIterable iter X.env x = pure x := by intro _; rfl) :
    PS X (.Assign [.Name y py] (.DictComp kx vx [⟨tg, iter, ifs, 0⟩] scope pos) spos) (tAsg (tDcT wi g tt tk tv (own.map (·.2))) (gName i)) := by
  refine ⟨fun pins s σ H D I h => ?_⟩
  rw [exec_Assign_Name_used _ _ _ _ hsw]
  have q0 : tDcT wi g tt tk tv (own.map (·.2)) σ H (fun x H1 => gName i x σ H1 D.nx) := h
  refine wpAny_bind (wpAny_standAt (wpAny_bind ?_))
  show wpAny _ X.A (do let _ ← comprehension (.DictComp kx vx [⟨tg, iter, ifs, 0⟩] scope pos) scope X.env (firstIterPos [⟨tg, iter, ifs, 0⟩] pos) newDict false (eval iter X.env) (some (assign (.Name y py) X.env))) _ _ s
  refine wpAny_bind (thn (dcT_core (Qf := fun _ s' => SP X pins D .next s') hu hc hN I hi ok hg ht hk he hs q0 fun L C s' m H' I' q hn f => ?_) fun _ s' z => wpAny_pure (wpAny_pure z))
  show wpAny _ _ (assign (.Name y py) X.env (.ref L)) _ _ _
  refine wpAny_assign_Name (store_ok2 (v := V.ref L) I' hN hy (.inl hyl) rfl (fun s2 I2 ⟨a, sb, ha⟩ => ⟨m, hn.sameBut sb ?_, fun h3 sb3 => ?_⟩) (.inr hyl))
  · rcases ha with z | z
    · rw [z]; exact f.2.1
    · exact fun e => f.2.2.2.2.1 y a z e.symm
  · exact ⟨_, H', I2.turned (t' := s2.toks) (fun b o hb e => (sb3.2 b hb).trans e) f.1 f.2.1 f.2.2.2.1 f.2.2.2.2.1 f.2.2.2.2.2, q⟩
theorem sw_trueD {kx vx : Expr} {gs : List Comprehension} {scope : Scope} {pos py : Pos} {y : Str} {l : Nat} {env : Env} (hk : env.scope.kind = .function) (hy : env.scope.names.lookup y = some .local) (hl : (py.line == pos.line) = true)
    (ha : (scope.names.any fun (n, k) => n == y && (k == .local || k == .cell)) = false) : swapsWith (.DictComp kx vx gs scope pos) (some (.Name y py)) l env = pure true := by
  have a1 : env.kindOf y = some .local := hy
  have a2 : env.blockKind = .function := by
    unfold Env.blockKind
    rw [hk]
    rfl
  unfold swapsWith
  simp only [a2, a1, ha, Expr.pos, hl]
  rfl
end
end DCt


set_option Elab.async false
set_option linter.all false
set_option maxRecDepth 100000
set_option maxHeartbeats 4000000
/-! == and != of dicts from tuples of ints and texts to ints. -/
namespace DEq
open PySem PySem.Spec PyProof.Rows L2
abbrev Tab := List (List Key × Int)
def dTab (ks : Tab) : List (List Key × V) := ks.map fun p => (p.1, V.int p.2)
def look (ls : Tab) (k : List Key) : Option Int := (ls.find? fun p => decide (p.1 = k)).map (·.2)
/-- each item of the first is one of the second -/
def within (ls ks : Tab) : Bool := ks.all fun p => decide (look ls p.1 = some p.2)
abbrev HX := List Key × Addr × Value
/-- the stored things of a table -/
inductive Sto : Tab → List HX → Prop where
  | nil : Sto [] []
  | cons {k : List Key} {i : Int} {t : Tok} {a : Addr} {ks : Tab} {xs : List HX} (r : Sto ks xs) : Sto ((k, i) :: ks) ((k, a, .int i t) :: xs)
theorem Sto.of {H : Hp} : ∀ {ks : Tab} {xs : List HX}, KT H (dTab ks) xs → Sto ks xs
  | [], _, h => by cases h; exact .nil
  | (k, i) :: ks, _, h => by
    cases h with
    | @cons _ q _ qs r rs =>
      obtain ⟨e1, _, t, e3⟩ := r
      obtain ⟨k', a, v⟩ := q
      cases (show k = k' from e1)
      cases (show v = Value.int i t from e3)
      exact .cons (Sto.of rs)
theorem Sto.len {ks : Tab} {xs : List HX} (h : Sto ks xs) : ks.length = xs.length := by
  induction h with
  | nil => rfl
  | cons _ ih => rw [List.length_cons, List.length_cons, ih]
theorem Sto.at {ks : Tab} {xs : List HX} (h : Sto ks xs) : ∀ {j : Nat} {x : HX}, xs[j]? = some x → ∃ i t, ks[j]? = some (x.1, i) ∧ x.2.2 = .int i t := by
  induction h with
  | nil => intro j x e; simp at e
  | @cons k i t a ks xs r ih =>
    intro j x e
    cases j with
    | zero =>
      cases (Option.some.inj e)
      exact ⟨i, t, rfl, rfl⟩
    | succ j => exact ih (by simpa using e)
theorem look_at : ∀ {ls : Tab} {j : Nat} {k : List Key} {i : Int}, (ls.map (·.1)).Nodup → ls[j]? = some (k, i) → look ls k = some i
  | [], _, _, _, _, e => by simp at e
  | (k', i') :: ls, 0, k, i, _, e => by
    cases (Option.some.inj e)
    unfold look
    rw [List.find?_cons_of_pos (by simp)]
    rfl
  | (k', i') :: ls, j + 1, k, i, n, e => by
    have e' : ls[j]? = some (k, i) := by simpa using e
    rw [List.map_cons, List.nodup_cons] at n
    have ne : ¬ k' = k := fun z => n.1 (by rw [z]; exact List.mem_map.mpr ⟨(k, i), List.mem_of_getElem? e', rfl⟩)
    have ih := look_at n.2 e'
    unfold look at ih ⊢
    rw [List.find?_cons_of_neg (by simpa using ne)]
    exact ih
theorem look_no {ls : Tab} {k : List Key} (h : k ∉ ls.map (·.1)) : look ls k = none := by
  unfold look
  rw [List.find?_eq_none.mpr fun p hp => ?_]
  · rfl
  · intro z
    exact h (List.mem_map.mpr ⟨p, hp, of_decide_eq_true z⟩)
theorem sto_keys {ks : Tab} {xs : List HX} (h : Sto ks xs) : xs.map (·.1) = ks.map (·.1) := by
  induction h with
  | nil => rfl
  | cons _ ih => rw [List.map_cons, List.map_cons, ih]
section
variable {prog : Program} {w : World} {A : Around} {E : Value → Shared → Prop} {s : Shared} {a b : Addr} {ks ls : Tab} {xs ys : List HX}
abbrev knd (prog : Program) (w : World) := tupleKind (mixKind prog w)
/-- the pairs of the one are looked for in the other -/
theorem pairs_T {nm : String} {Q : Bool → Shared → Prop} (hu : A.units < cLine) (na : (a == sysModules) = false) (nb : (b == sysModules) = false) (da : s.heap.DictOfH (knd prog w) a xs) (db : s.heap.DictOfH (knd prog w) b ys) (sa : Sto ks xs) (sb : Sto ls ys)
    (q : Q (decide (ks.length = ls.length) && within ls ks) s) : wpAny (model prog w) A (Builtin.Dict.samePairs nm a b) Q E s := by
  obtain ⟨oa, ea, pa, ha, _, hda, la, isa, nda⟩ := da
  obtain ⟨ob, eb, pb, hb, _, hdb, lb, isb, ndb⟩ := db
  have za : ea.size = ks.length := (size_of_entries la).trans sa.len.symm
  have zb : eb.size = ls.length := (size_of_entries lb).trans sb.len.symm
  have ndl : (ls.map (·.1)).Nodup := by rw [← sto_keys sb]; exact ndb
  unfold Builtin.Dict.samePairs Builtin.Dict.showsAll
  rw [if_neg (by rw [na]; exact Bool.false_ne_true), if_neg (by rw [nb]; exact Bool.false_ne_true)]
  refine wpAny_bind (wpAny_pure (wpAny_bind (wpAny_pure (wpAny_bind (wpAny_dictEntries ha hda ?_)))))
  dsimp only
  refine wpAny_bind (wpAny_dictEntries hb hdb ?_)
  by_cases hz : ks.length = ls.length
  · rw [if_neg (by rw [za, zb, hz]; simp)]
    rw [decide_eq_true hz, Bool.true_and] at q
    refine wpAny_bind (wpAny_dictEpoch ha hda (wpAny_bind ?_))
    rw [Std.Legacy.Range.forIn_eq_forIn_range']
    simp only [Std.Legacy.Range.size, Nat.sub_zero, Nat.add_sub_cancel, Nat.div_one]
    refine wpAny_forIn_list _ (fun rest r s' => s' = s ∧ r = (none, ()) ∧ ∃ i, rest = List.range' i (ea.size - i) ∧ i ≤ ea.size ∧ within ls ks = within ls (ks.drop i)) _ ?_ ?_ _ _ ⟨rfl, rfl, 0, by simp, Nat.zero_le _, rfl⟩
    · rintro x rest r s' ⟨rfl, rfl, i, hr, hi, hw⟩
      have lt : i < ea.size := by
        by_cases z : i < ea.size
        · exact z
        · rw [show ea.size - i = 0 by omega] at hr
          simp at hr
      obtain ⟨rfl, hrest⟩ : x = i ∧ rest = List.range' (i + 1) (ea.size - (i + 1)) := by
        rw [show ea.size - i = (ea.size - (i + 1)) + 1 by omega, List.range'_succ] at hr
        injection hr with h1 h2
        exact ⟨h1, h2⟩
      obtain ⟨hx, hxx⟩ : ∃ hx, xs[x]? = some hx := ⟨_, List.getElem?_eq_getElem (by rw [← size_of_entries la]; exact lt)⟩
      obtain ⟨iv, tv, hk, hv⟩ := sa.at hxx
      have ent := entry_at la x
      rw [hxx] at ent
      have dr : ks.drop x = (hx.1, iv) :: ks.drop (x + 1) := by
        obtain ⟨hl, he⟩ := List.getElem?_eq_some_iff.mp hk
        rw [← he]
        exact List.drop_eq_getElem_cons hl
      rw [dr] at hw
      refine wpAny_bind (wpAny_dictEntries ha hda ?_)
      rw [ent]
      show wpAny _ _ (holding [(entryOfKey (knd prog w) hx).key, (entryOfKey (knd prog w) hx).val] _ >>= _) _ _ _
      refine wpAny_bind (wpAny_holding (wpAny_bind ?_))
      show wpAny _ _ (dictFind b (.ref hx.2.1) ((knd prog w).hash hx.1)) _ _ _
      refine wpAny_dictFind_heap (knd := knd prog w) hu (isa hx (List.mem_of_getElem? hxx)) hb hdb lb isb ndb (fun none => ?_) (fun j p hj => ?_)
      · have ln : look ls hx.1 = Option.none := look_no (by rw [← sto_keys sb]; exact not_mem_keys_of_get none)
        have wf : within ls ((hx.1, iv) :: ks.drop (x + 1)) = false := by
          unfold within
          rw [List.all_cons, ln]
          rfl
        rw [hw, wf] at q
        refine wpAny_pure ?_
        show wpAny _ _ (if (!false) = true then _ else _) _ _ _
        rw [if_pos (by decide)]
        exact wpAny_pure (wpAny_pure q)
      · obtain ⟨jv, tj, hkj, hvj⟩ := sb.at hj
        have lj : look ls hx.1 = some jv := look_at ndl hkj
        have entb := entry_at lb j
        rw [hj] at entb
        refine wpAny_bind (wpAny_dictEntries hb hdb ?_)
        rw [entb]
        show wpAny _ _ (holding _ (eqBool hx.2.2 p.2)) _ _ _
        have hvj' : p.2 = Value.int jv tj := hvj
        rw [hv, hvj']
        refine wpAny_holding (MeetsSeq.EqGives.int iv jv tv tj prog w _ _ _ _ ?_)
        have wc : within ls ((hx.1, iv) :: ks.drop (x + 1)) = ((iv == jv) && within ls (ks.drop (x + 1))) := by
          unfold within
          rw [List.all_cons, lj]
          congr 1
          by_cases e : iv = jv
          · subst e; simp
          · simp [e, Ne.symm e, beq_eq_false_iff_ne.mpr e, fun z : jv = iv => e z.symm]
        rw [wc] at hw
        cases e : iv == jv with
        | false =>
          rw [e, Bool.false_and] at hw
          rw [hw] at q
          show wpAny _ _ (if (!false) = true then _ else _) _ _ _
          rw [if_pos (by decide)]
          exact wpAny_pure (wpAny_pure q)
        | true =>
          rw [e, Bool.true_and] at hw
          show wpAny _ _ (if (!true) = true then _ else _) _ _ _
          rw [if_neg (by decide)]
          refine wpAny_bind (wpAny_dictEpoch ha hda ?_)
          rw [if_neg (by simp)]
          exact wpAny_pure ⟨rfl, rfl, x + 1, hrest, lt, hw⟩
    · rintro r s' ⟨rfl, rfl, i, hr, hi, hw⟩
      have e : i = ks.length := by
        by_cases z : i < ea.size
        · rw [show ea.size - i = (ea.size - (i + 1)) + 1 by omega, List.range'_succ] at hr
          cases hr
        · omega
      rw [e, List.drop_length] at hw
      rw [hw] at q
      exact wpAny_pure q
  · rw [if_pos (by rw [za, zb]; simpa using hz)]
    rw [decide_eq_false hz, Bool.false_and] at q
    exact wpAny_bind (wpAny_rule (wpAny_pure q))
/-- the two slots' bodies -/
theorem eq_T {Q : Value → Shared → Prop} (hu : A.units + 1 < cLine) (na : (a == sysModules) = false) (nb : (b == sysModules) = false) (da : s.heap.DictOfH (knd prog w) a xs) (db : s.heap.DictOfH (knd prog w) b ys) (sa : Sto ks xs) (sb : Sto ls ys)
    (q : Q (.bool (decide (ks.length = ls.length) && within ls ks)) s) : wpAny (model prog w) A (compareOp .Eq (.ref a) (.ref b)) Q E s := by
  refine wpAny_richCompare_same_room (op := .Eq) da.typeIs db.typeIs PySem.F.slot_dict_eq (wpAny_call_entry PySem.F.slot_dict_eq da.typeIs PySem.F.entry_dict_eq ?_ (PySem.F.args_dict_eq_2 _ _)) (Nat.lt_of_succ_lt hu)
  show wpAny _ _ (Builtin.Dict.dictSlotArgs "__eq__" ⟨[.ref a, .ref b], []⟩ >>= _) _ _ s
  unfold Builtin.Dict.dictSlotArgs
  refine wpAny_bind (wpAny_bind (wpAny_notOrdered_dict da.typeIs (show wpAny _ _ (pure (Value.ref a, Value.ref b)) _ _ s from wpAny_pure ?_)))
  refine wpAny_bind (wpAny_isInstance (T := "dict") db.typeIs PySem.F.sub_dict_dict ?_)
  simp only [Bool.not_true, Bool.false_eq_true, if_false]
  refine wpAny_bind (wpAny_pure (wpAny_bind (wpAny_pure (wpAny_bind (pairs_T hu na nb da db sa sb (wpAny_pure ⟨_, rfl, ?_, ?_⟩))))))
  · exact fun x => nomatch x
  · simpa using q
theorem ne_T {Q : Value → Shared → Prop} (hu : A.units + 1 < cLine) (na : (a == sysModules) = false) (nb : (b == sysModules) = false) (da : s.heap.DictOfH (knd prog w) a xs) (db : s.heap.DictOfH (knd prog w) b ys) (sa : Sto ks xs) (sb : Sto ls ys)
    (q : Q (.bool (!(decide (ks.length = ls.length) && within ls ks))) s) : wpAny (model prog w) A (compareOp .NotEq (.ref a) (.ref b)) Q E s := by
  refine wpAny_richCompare_same_room (op := .NotEq) da.typeIs db.typeIs PySem.F.slot_dict_ne (wpAny_call_entry PySem.F.slot_dict_ne da.typeIs PySem.F.entry_dict_ne ?_ (PySem.F.args_dict_ne_2 _ _)) (Nat.lt_of_succ_lt hu)
  show wpAny _ _ (Builtin.Dict.dictSlotArgs "__ne__" ⟨[.ref a, .ref b], []⟩ >>= _) _ _ s
  unfold Builtin.Dict.dictSlotArgs
  refine wpAny_bind (wpAny_bind (wpAny_notOrdered_dict da.typeIs (show wpAny _ _ (pure (Value.ref a, Value.ref b)) _ _ s from wpAny_pure ?_)))
  refine wpAny_bind (wpAny_isInstance (T := "dict") db.typeIs PySem.F.sub_dict_dict ?_)
  simp only [Bool.not_true, Bool.false_eq_true, if_false]
  refine wpAny_bind (wpAny_pure (wpAny_bind (wpAny_pure (wpAny_bind (pairs_T hu na nb da db sa sb (wpAny_pure ⟨_, rfl, ?_, ?_⟩))))))
  · exact fun x => nomatch x
  · simpa using q
end
section
variable {X : Cx}
def rEqTab (H : Hp) (x y : V) (Q : Bool → Prop) : Prop := ∃ (a b : Addr) (ks ls : Tab), x = .ref a ∧ y = .ref b ∧ H a = some (.dT (dTab ks)) ∧ H b = some (.dT (dTab ls)) ∧ Q (decide (ks.length = ls.length) && within ls ks)
theorem op_eqTab (hu : X.A.units + 1 < cLine) : OpR X (compareOp .Eq) (fun x y H Q => rEqTab H x y fun r => Q (.bl r) H) := by
  intro pins s σ H x y v u Q I rx ry h
  obtain ⟨a, b, ks, ls, rfl, rfl, ha, hb, q⟩ := h
  cases (show v = Value.ref a from rx)
  cases (show u = Value.ref b from ry)
  obtain ⟨_, na, xs, ra, da⟩ := dt_of I.hok ha
  obtain ⟨_, nb, ys, rb, db⟩ := dt_of I.hok hb
  exact eq_T hu na nb da db (.of ra) (.of rb) ⟨.bl _, H, I, rfl, q⟩
theorem op_neTab (hu : X.A.units + 1 < cLine) : OpR X (compareOp .NotEq) (fun x y H Q => rEqTab H x y fun r => Q (.bl (!r)) H) := by
  intro pins s σ H x y v u Q I rx ry h
  obtain ⟨a, b, ks, ls, rfl, rfl, ha, hb, q⟩ := h
  cases (show v = Value.ref a from rx)
  cases (show u = Value.ref b from ry)
  obtain ⟨_, na, xs, ra, da⟩ := dt_of I.hok ha
  obtain ⟨_, nb, ys, rb, db⟩ := dt_of I.hok hb
  exact ne_T hu na nb da db (.of ra) (.of rb) ⟨.bl _, H, I, rfl, q⟩
end
end DEq


set_option Elab.async false
set_option linter.all false
set_option maxRecDepth 100000
set_option maxHeartbeats 4000000
/-! dicts whose keys are tuples of ints and texts, some of them constants of the module: held by what lies in them. -/
namespace DTx
open PySem PySem.Spec PyProof.Rows L2 STX DCt DEq
/-- what lies in the dict -/
def DHas (P : Program) (w : World) (o : Obj) (xs : List HX) : Prop := ∃ es ep, o.ExactDict ∧ o.data = .dict es ep ∧ es.toList = xs.map (entryOfKey (tupleKind (mixKind P w)))
/-- the dict, to the object -/
def DxO (D : Addr) (o : Obj) : HO := .ext fun h => h.get? D = some o
theorem dxo_ok {P : Program} {w : World} {H : Hp} {h : Heap} {D : Addr} {o : Obj} (x : h.get? D = some o) : ObjOk P w H h D (DxO D o) := ⟨x, ⟨o, x⟩, fun _ _ e k => k o e⟩
abbrev KTx (K : PySem.W.Frag) (H : Hp) : List (List Key × V) → List HX → Prop := Paired fun p q => p.1 = q.1 ∧ SqT K H q.2.1 (p.1.map kV) ∧ RelV p.2 q.2.2
/-- the dict at D holds kvs -/
structure DX (P : Program) (w : World) (K : PySem.W.Frag) (H : Hp) (D : Addr) (kvs : List (List Key × V)) : Prop where
  ex : ∃ o xs, H D = some (DxO D o) ∧ DHas P w o xs ∧ KTx K H kvs xs ∧ (xs.map (·.1)).Nodup
  len : kvs.length ≤ sizeLine
  nm : (D == sysModules) = false
/-- nothing but D is another -/
def Off (D : Addr) (H H' : Hp) : Prop := ∀ c, c ≠ D → H' c = H c
section
variable {P : Program} {w : World} {K : PySem.W.Frag} {H H' : Hp} {D : Addr} {kvs : List (List Key × V)} {xs : List HX}
theorem KTx.val (r : KTx K H kvs xs) (k : List Key) : RelO (valV kvs k) ((atKey xs k).map (·.2)) := by
  induction r with
  | nil => exact True.intro
  | @cons p q ps qs h t ih =>
    obtain ⟨h1, _, h2⟩ := h
    by_cases e : p.1 = k
    · have e' : q.1 = k := h1.symm.trans e
      have b : atKey (q :: qs) k = some q.2 := by simp [atKey, List.find?_cons, e']
      rw [valV_pos e, b]; exact h2
    · have e' : ¬ q.1 = k := fun z => e (h1.trans z)
      have b : atKey (q :: qs) k = atKey qs k := by simp [atKey, List.find?_cons, e']
      rw [valV_neg e, b]; exact ih
theorem KTx.repl (r : KTx K H kvs xs) (k : List Key) {y : V} {u : Value} (ry : RelV y u) : KTx K H (kvs.map fun kv => if kv.1 = k then (kv.1, y) else kv) (xs.map (putAt k u)) := by
  induction r with
  | nil => exact .nil
  | @cons p q ps qs h t ih =>
    rw [List.map_cons, List.map_cons]
    refine .cons ?_ ih
    obtain ⟨h1, h2, h3⟩ := h
    unfold putAt
    by_cases e : p.1 = k
    · rw [if_pos e, if_pos (h1.symm.trans e)]; exact ⟨h1, h2, ry⟩
    · rw [if_neg e, if_neg (fun z => e (h1.trans z))]; exact ⟨h1, h2, h3⟩
theorem KTx.put (r : KTx K H kvs xs) (k : List Key) {b : Addr} {y : V} {u : Value} (hb : SqT K H b (k.map kV)) (ry : RelV y u) : KTx K H (putK kvs k y) (storedH xs k b u) := by
  have e : (kvs.any fun kv => decide (kv.1 = k)) = (atKey xs k).isSome := by
    rw [valV_any, (r.val k).isSome_eq, Option.isSome_map]
  unfold putK storedH
  rw [e]
  by_cases q : (atKey xs k).isSome = true
  · rw [if_pos q, if_pos q]; exact r.repl k ry
  · rw [if_neg q, if_neg q]; exact Paired.snoc r ⟨rfl, hb, ry⟩
theorem KTx.keeps (r : KTx K H kvs xs) (ht : ∀ b ys, SqT K H b ys → SqT K H' b ys) : KTx K H' kvs xs := Paired.mapP r fun _ _ z => ⟨z.1, ht _ _ z.2.1, z.2.2⟩
theorem sqT_off {b : Addr} {ys : List V} {φ : Heap → Prop} (of : Off D H H') (hD : H D = some (.ext φ)) (h : SqT K H b ys) : SqT K H' b ys := by
  rcases h with (h | ⟨o, h⟩) | h
  · exact .inl (.inl (by rw [of b (fun z => by rw [z, hD] at h; cases h)]; exact h))
  · exact .inl (.inr ⟨o, by rw [of b (fun z => by rw [z, hD] at h; cases h)]; exact h⟩)
  · exact .inr h
theorem DX.same (d : DX P w K H D kvs) (s : Same H H') : DX P w K H' D kvs := by
  obtain ⟨⟨o, xs, h1, h0, h2, h3⟩, l, n⟩ := d
  refine ⟨⟨o, xs, s _ _ h1, h0, h2.keeps fun b ys z => ?_, h3⟩, l, n⟩
  rcases z with (z | ⟨o, z⟩) | z
  · exact .inl (.inl (s _ _ z))
  · exact .inl (.inr ⟨o, s _ _ z⟩)
  · exact .inr z
theorem DX.ne (d : DX P w K H D kvs) {b : Addr} {ys : List V} (h : H b = some (.tup ys)) : b ≠ D := fun z => by
  obtain ⟨⟨o, xs, h1, _⟩, _, _⟩ := d
  rw [z, h1] at h
  cases h
/-- a new dict -/
def newD : Obj := { cls := .type "dict", data := .dict #[] }
theorem dx_new : DHas P w newD [] := by
  obtain ⟨_, _, xs, r, o, es, ep, h1, h2, h3, h4, _⟩ := (show ObjOk P w (fun _ => none) ((⟨#[newD, newD, newD, newD, newD, newD, newD, newD, newD, newD, newD, newD], default⟩ : Heap).push newD) _ (.dT []) from dt_empty _ (by decide))
  cases r
  have e : o = newD := Option.some.inj (h1.symm.trans (Heap.get?_push_size _ rfl))
  subst e
  exact ⟨es, ep, h2, h3, h4⟩
theorem dx_empty (h : Heap) : ObjOk P w H (h.push newD) h.objs.size (DxO h.objs.size newD) := dxo_ok (Heap.get?_push_size _ rfl)
end
section
variable {X : Cx} {pins : List (Addr × Obj)} {σ : L2.St} {H : Hp} {s : Shared} {D b : Addr} {kvs : List (List Key × V)} {k : List Key} {v : V} {A : Around} {E : Value → Shared → Prop}
theorem key_ofS (I : Inv X pins σ H s) (h : SqT X.K H b (k.map kV)) : (tupleKind (mixKind X.prog X.w)).is s.heap k b := by
  obtain ⟨its, r, p, _⟩ := I.tuple h
  obtain ⟨o, h1, h2, n, h3⟩ := p
  exact ⟨o, its.toArray, n, h1, h2, h3, by simpa using items_are r⟩
theorem dx_of (I : Inv X pins σ H s) (d : DX X.prog X.w X.K H D kvs) : ∃ o xs, H D = some (DxO D o) ∧ KTx X.K H kvs xs ∧ s.heap.get? D = some o ∧ DHas X.prog X.w o xs ∧ s.heap.DictOfH (tupleKind (mixKind X.prog X.w)) D xs := by
  obtain ⟨⟨o, xs, h1, h0, h2, h3⟩, l, n⟩ := d
  obtain ⟨q1, _⟩ := (show ObjOk X.prog X.w H s.heap D (DxO D o) from I.hok D _ h1)
  obtain ⟨es, ep, q2, q3, q4⟩ := id h0
  refine ⟨o, xs, h1, h2, q1, h0, o, es, ep, q1, q2, q3, q4, fun x hx => ?_, h3⟩
  have all : ∀ {l : List (List Key × V)} {m : List HX}, KTx X.K H l m → ∀ x ∈ m, (tupleKind (mixKind X.prog X.w)).is s.heap x.1 x.2.1 := by
    intro l m q
    induction q with
    | nil => intro x hx; exact nomatch hx
    | @cons p q ps qs hq t ih =>
      intro x hx
      rcases List.mem_cons.mp hx with e | hx
      · subst e
        exact key_ofS I (by rw [← hq.1]; exact hq.2.1)
      · exact ih x hx
  exact all h2 x hx
/-- what a put leaves -/
theorem dx_put {h' : Heap} {t' : Nat} {r : Value} {xs : List HX} {o : Obj} (I : Inv X pins σ H s) (hD : H D = some (DxO D o)) (rel : KTx X.K H kvs xs) (nm : (D == sysModules) = false) (hb : SqT X.K H b (k.map kV)) (rv : RelV v r) (hz : kvs.length < sizeLine) (dd : h'.DictOfH (tupleKind (mixKind X.prog X.w)) D (storedH xs k b r)) (sb : Heap.SameBut D s.heap h') :
    ∃ H', Off D H H' ∧ DX X.prog X.w X.K H' D (putK kvs k v) ∧ Inv X pins σ H' { s with heap := h', toks := t' } := by
  obtain ⟨q, es, ep, hq, h2, h3, h4, _, h5⟩ := dd
  have of : Off D H (upd H D (DxO D q)) := fun c nc => upd_ne nc
  refine ⟨_, of, ⟨⟨q, _, upd_same, ⟨es, ep, h2, h3, h4⟩, (rel.put k hb rv).keeps fun c ys z => sqT_off of hD z, h5⟩, by have := length_putK kvs k v; omega, nm⟩, ?_⟩
  exact d_write I (by rw [hD]; trivial) sb ⟨q, hq⟩ (dxo_ok hq)
theorem put_X {r : Value} {Q : Unit → Shared → Prop} (hu : X.A.units < cLine) (I : Inv X pins σ H s) (hD : DX X.prog X.w X.K H D kvs) (hb : SqT X.K H b (k.map kV)) (hz : kvs.length < sizeLine)
    (rv : RelV v r) (go : ∀ H' s', Off D H H' → DX X.prog X.w X.K H' D (putK kvs k v) → Inv X pins σ H' s' → Q () s') : wpAny (model X.prog X.w) X.A (dictSet D (.ref b) r) Q E s := by
  obtain ⟨o, xs, h1, rel, _, _, dd⟩ := dx_of I hD
  refine wpAny_dictSet_heap (knd := tupleKind (mixKind X.prog X.w)) (hsz := by rw [← Paired.length rel]; exact hD.len) hu (key_ofS I hb) dd fun h' dd' sb => ?_
  obtain ⟨H', of, dx, I'⟩ := dx_put (t' := s.toks + (tupleKind (mixKind X.prog X.w)).draws k) I h1 rel hD.nm hb rv hz dd' sb
  exact go H' _ of dx I'
theorem get_X {Q : Value → Shared → Prop} (hu : A.units + 1 < cLine) (I : Inv X pins σ H s) (hD : DX X.prog X.w X.K H D kvs) (hb : SqT X.K H b (k.map kV)) (l : valV kvs k = some v) (h : ∀ w' s', Inv X pins σ H s' → RelV v w' → Q w' s') :
    wpAny (model X.prog X.w) A (getItem (.ref D) (.ref b)) Q E s := by
  obtain ⟨o, xs, h1, rel, _, _, dd⟩ := dx_of I hD
  obtain ⟨w', hw, rw'⟩ := RelO.some_of (v := v) (o := (atKey xs k).map (·.2)) (by rw [← l]; exact rel.val k)
  obtain ⟨p, hp, hp2⟩ := Option.map_eq_some_iff.mp hw
  refine wpAny_getItem_heap (tupleKind_room_in1 hu) (key_ofS I hb) dd hp ?_
  rw [hp2]
  exact h w' _ (I.tok _) rw'
theorem set_X {r : Value} {Q : Unit → Shared → Prop} (hu : A.units + 1 < cLine) (I : Inv X pins σ H s) (hD : DX X.prog X.w X.K H D kvs) (hb : SqT X.K H b (k.map kV)) (hz : kvs.length < sizeLine) (rv : RelV v r) (go : ∀ H' s', Off D H H' → DX X.prog X.w X.K H' D (putK kvs k v) → Inv X pins σ H' s' → Q () s') :
    wpAny (model X.prog X.w) A (setItem (.ref D) (.ref b) r) Q E s := by
  obtain ⟨o, xs, h1, rel, _, _, dd⟩ := dx_of I hD
  refine wpAny_setItem_heap (hsz := by rw [← Paired.length rel]; exact hD.len) (tupleKind_room_in1 hu) (key_ofS I hb) dd fun h' dd' sb => ?_
  obtain ⟨H', of, dx, I'⟩ := dx_put (t' := s.toks + (tupleKind (mixKind X.prog X.w)).draws k) I h1 rel hD.nm hb rv hz dd' sb
  exact go H' _ of dx I'
end
/-- D[k] -/
def tDGetX (P : Program) (w : World) (K : PySem.W.Frag) (td ty : TE) : TE := fun σ H Q => td σ H fun x H1 => ty σ H1 fun y H2 => ∃ (D b : Addr) (kvs : List (List Key × V)) (k : List Key) (v : V), x = .ref D ∧ y = .ref b ∧ DX P w K H2 D kvs ∧ SqT K H2 b (k.map kV) ∧ valV kvs k = some v ∧ Q v H2
/-- D[k] = v -/
def sDPutX (P : Program) (w : World) (K : PySem.W.Frag) (td ty tv : TE) : TS := fun R σ H => tv σ H fun v H1 => td σ H1 fun x H2 => ty σ H2 fun y H3 => ∃ (D b : Addr) (kvs : List (List Key × V)) (k : List Key), x = .ref D ∧ y = .ref b ∧ DX P w K H3 D kvs ∧ SqT K H3 b (k.map kV) ∧ kvs.length < sizeLine ∧ ∀ H4, Off D H3 H4 → DX P w K H4 D (putK kvs k v) → R.nx σ H4
/-- D[k] op= v -/
def sDAugX (P : Program) (w : World) (K : PySem.W.Frag) (td ty tv : TE) (rd : V → V → Hp → VK → Prop) : TS := fun R σ H => td σ H fun x H1 => ty σ H1 fun y H2 => ∃ (D b : Addr) (kvs : List (List Key × V)) (k : List Key) (v : V), x = .ref D ∧ y = .ref b ∧ DX P w K H2 D kvs ∧ SqT K H2 b (k.map kV) ∧ valV kvs k = some v ∧
  tv σ H2 fun y2 H3 => rd v y2 H3 fun z H4 => ∃ (kvs2 : List (List Key × V)), DX P w K H4 D kvs2 ∧ SqT K H4 b (k.map kV) ∧ kvs2.length < sizeLine ∧ ∀ H5, Off D H4 H5 → DX P w K H5 D (putK kvs2 k z) → R.nx σ H5
section
variable {X : Cx} {o i e value : Expr} {pos pos' tpos : Pos} {td ty tv : TE}
theorem pe_dgetX (hu : X.A.units + 1 < cLine) (ho : PE X o td) (hi : PE X i ty) (hs : NoSl i) : PE X (.Subscript o i pos) (tDGetX X.prog X.w X.K td ty) := by
  refine ⟨fun pins s σ H Q I h => ?_⟩
  refine subD_of PySem.F.slot_dict_getitem.lookup hs (thn (ho.run pins s σ H _ I h) fun u s1 ⟨x, H1, I1, rx, q1⟩ => thn (hi.run pins s1 σ H1 _ I1 q1) fun iv s2 ⟨y, H2, I2, ry, D, b, kvs, k, v, ex, ey, dx, sq, l, q2⟩ => ?_)
  subst ex ey
  obtain rfl : u = Value.ref D := rx
  obtain rfl : iv = Value.ref b := ry
  obtain ⟨_, xs, _, _, _, _, dd⟩ := dx_of I2 dx
  exact ⟨dd.typeIs, get_X hu I2 dx sq l fun w' s3 I3 rw' => ⟨v, H2, I3, rw', q2⟩⟩
theorem ps_dputX (hu : X.A.units + 1 < cLine) (ho : PE X o td) (hi : PE X i ty) (hv : PE X value tv) (hs : swapsWith value (some (.Subscript o i pos')) pos.line X.env = pure false) :
    PS X (.Assign [.Subscript o i pos'] value pos) (sDPutX X.prog X.w X.K td ty tv) := by
  refine ⟨fun pins s σ H R I h => ?_⟩
  refine wpAny_Assign_Subscript (thn (hv.run pins s σ H _ I h) fun r s1 ⟨v, H1, I1, rv, q1⟩ => thn (ho.run pins s1 σ H1 _ I1 q1) fun u s2 ⟨x, H2, I2, rx, q2⟩ => thn (hi.run pins s2 σ H2 _ I2 q2) fun iv s3 ⟨y, H3, I3, ry, D, b, kvs, k, ex, ey, dx, sq, hz, q3⟩ => ?_) hs
  subst ex ey
  obtain rfl : u = Value.ref D := rx
  obtain rfl : iv = Value.ref b := ry
  exact set_X hu I3 dx sq hz rv fun H4 s4 of dx4 I4 => ⟨σ, H4, I4, q3 H4 of dx4⟩
theorem ps_daugX {op : Operator} {rd : V → V → Hp → VK → Prop} (hu : X.A.units + 1 < cLine) (ho : PE X o td) (hi : PE X i ty) (hv : PE X value tv) (hop : InOp X op rd)
    (ha : ∀ ov iv new, augStore i ov iv new = (do holding [new, ov, iv] (setItem ov iv new); release [new, ov, iv] []; pure .next)) : PS X (.AugAssign (.Subscript o i tpos) op value pos) (sDAugX X.prog X.w X.K td ty tv rd) := by
  refine ⟨fun pins s σ H R I h => ?_⟩
  refine wpAny_AugAssign_SubscriptAny (thn (ho.run pins s σ H _ I h) fun u s1 ⟨x, H1, I1, rx, q1⟩ => thn (hi.run pins s1 σ H1 _ I1 q1) fun iv s2 ⟨y, H2, I2, ry, D, b, kvs, k, v, ex, ey, dx, sq, l, q2⟩ => ?_) ha
  subst ex ey
  obtain rfl : u = Value.ref D := rx
  obtain rfl : iv = Value.ref b := ry
  refine get_X hu I2 dx sq l fun w' s3 I3 rw' => thn (hv.run pins s3 σ H2 _ I3 q2) fun w2 s4 ⟨y2, H3, I4, ry2, q3⟩ => thn (hop pins s4 σ H3 v y2 w' w2 _ I4 rw' ry2 q3) fun w3 s5 ⟨z, H4, I5, rz, kvs2, dx5, sq5, hz5, q4⟩ => ?_
  exact set_X hu I5 dx5 sq5 hz5 rz fun H6 s6 of dx6 I6 => ⟨σ, H6, I6, q4 H6 of dx6⟩
end
theorem sto_of {K : PySem.W.Frag} {H : Hp} : ∀ {ks : Tab} {xs : List HX}, KTx K H (dTab ks) xs → Sto ks xs
  | [], _, h => by cases h; exact .nil
  | (k, i) :: ks, _, h => by
    cases h with
    | @cons _ q _ qs r rs =>
      obtain ⟨e1, _, t, e3⟩ := r
      obtain ⟨k', a, v⟩ := q
      cases (show k = k' from e1)
      cases (show v = Value.int i t from e3)
      exact .cons (sto_of rs)
section
variable {X : Cx}
def rEqX (P : Program) (w : World) (K : PySem.W.Frag) (H : Hp) (x y : V) (Q : Bool → Prop) : Prop := ∃ (a b : Addr) (ks ls : Tab), x = .ref a ∧ y = .ref b ∧ DX P w K H a (dTab ks) ∧ DX P w K H b (dTab ls) ∧ Q (decide (ks.length = ls.length) && within ls ks)
theorem op_eqX (hu : X.A.units + 1 < cLine) : OpR X (compareOp .Eq) (fun x y H Q => rEqX X.prog X.w X.K H x y fun r => Q (.bl r) H) := by
  intro pins s σ H x y v u Q I rx ry h
  obtain ⟨a, b, ks, ls, rfl, rfl, ha, hb, q⟩ := h
  cases (show v = Value.ref a from rx)
  cases (show u = Value.ref b from ry)
  obtain ⟨_, xs, _, ra, _, _, da⟩ := dx_of I ha
  obtain ⟨_, ys, _, rb, _, _, db⟩ := dx_of I hb
  exact eq_T hu ha.nm hb.nm da db (sto_of ra) (sto_of rb) ⟨.bl _, H, I, rfl, q⟩
theorem op_neX (hu : X.A.units + 1 < cLine) : OpR X (compareOp .NotEq) (fun x y H Q => rEqX X.prog X.w X.K H x y fun r => Q (.bl (!r)) H) := by
  intro pins s σ H x y v u Q I rx ry h
  obtain ⟨a, b, ks, ls, rfl, rfl, ha, hb, q⟩ := h
  cases (show v = Value.ref a from rx)
  cases (show u = Value.ref b from ry)
  obtain ⟨_, xs, _, ra, _, _, da⟩ := dx_of I ha
  obtain ⟨_, ys, _, rb, _, _, db⟩ := dx_of I hb
  exact ne_T hu ha.nm hb.nm da db (sto_of ra) (sto_of rb) ⟨.bl _, H, I, rfl, q⟩
/-- its reading: D the new dict -/
def tDcX (P : Program) (w : World) (K : PySem.W.Frag) (wi : TI) (g : TG) (tt : TT) (tk tv : TE) (vs : List Nat) : TE := fun σ H Q => wi σ H fun J H1 => ∀ D, H1 D = none → ∃ W : Nat → Nat → Hp → Prop, (∃ m, ∀ H2, Off D H1 H2 → DX P w K H2 D [] → W 0 m H2) ∧ ∀ i m H, W i m H →
  (J.stop i H ∧ Q (.ref D) H) ∨ (J.go i H ∧ ∃ Nx : Hp → Prop, (∀ H', Nx H' → ∃ m', m' < m ∧ W (i + 1) m' H') ∧ ∀ x H', J.yld i H x H' → g x (wipe σ vs) H' fun σ2 H2 => wipe σ2 vs = wipe σ vs ∧ tt σ2 H2 fun b H3 =>
    if b = true then tk σ2 H3 fun y H4 => tv σ2 H4 fun z H5 => ∃ (kvs : List (List Key × V)) (k : List Key) (kb : Addr), y = .ref kb ∧ SqT K H5 kb (k.map kV) ∧ DX P w K H5 D kvs ∧ kvs.length < sizeLine ∧ ∀ H6, Off D H5 H6 → DX P w K H6 D (putK kvs k z) → Nx H6 else Nx H3)
theorem dcX_core {pins : List (Addr × Obj)} {s : Shared} {σ : L2.St} {H : Hp} {Q : VK} {kx vx tg iter : Expr} {ifs : List Expr} {scope : Scope} {own : List (Str × Nat)} {pos pos' : Pos} {wi : TI} {g : TG} {tt : TT} {tk tv : TE} {use : Option (Value → Sem Unit)} {Qf : Value → Shared → Prop} (hu : X.A.units < cLine)
    (hc : X.calm = true) (hN : X.N.Nodup) (I : Inv X pins σ H s) (hi : PI X tg iter wi) (ok : BlkOk X.N X.env.scope scope own)
    (hg : AllB X scope fun Y => PG Y tg g) (ht : AllB X scope fun Y => PTs Y ifs tt) (hk : AllB X scope fun Y => PE Y kx tk) (he : AllB X scope fun Y => PE Y vx tv)
    (hs : ∀ x, foldedSetIterable iter X.env x = pure x) (h : tDcX X.prog X.w X.K wi g tt tk tv (own.map (·.2)) σ H Q)
    (fin : ∀ D C s' m H', Inv X pins σ H' s' → Q (.ref D) H' → s'.heap.Ns C m → FpOk X pins H' C → compPost (model X.prog X.w) X.A X.xe use Qf (.ref D) C (.ok .next) s') :
    wpAny (model X.prog X.w) X.A (comprehension (.DictComp kx vx [⟨tg, iter, ifs, 0⟩] scope pos) scope X.env pos' newDict false (eval iter X.env) use) Qf X.xe s := by
  have cells : ∀ y ∈ scope.names, y.2 = .free → ∃ c, X.env.cells.lookup y.1 = some c := fun y hy e => (ok.free y hy e).elim (fun k => I.ok.has _ (.inl k)) fun k => I.ok.has _ (.inr k)
  refine wpAny_comprehension_free (use := use) rfl hs (closure_ok cells) ok.kind (fun y hy e => by rw [ok.uniq y hy, e]) (thn (hi.run pins s σ H _ I h) fun xv s1 hx => thn hx fun itv s2 z2 => ?_)
  obtain ⟨it, fp, tn, J, H2, e, I2, T, st2, f2, q⟩ := z2
  subst e
  refine wpAny_newObj_type (newEnv_comp ?_)
  generalize eD : s2.heap.objs.size = D
  have nD : H2 D = none := I2.hok.fresh (Nat.le_of_eq eD)
  obtain ⟨W, ⟨m0, w0f⟩, turn⟩ := q D nD
  have w0 : W 0 m0 (upd H2 D (DxO D newD)) := w0f _ (fun c nc => upd_ne nc) ⟨⟨newD, [], upd_same, dx_new, .nil, List.nodup_nil⟩, Nat.zero_le _, by rw [← eD]; exact beq_eq_false_iff_ne.mpr (Ne.symm (Nat.ne_of_lt I2.big))⟩
  generalize e3 : ({ s2 with heap := s2.heap.push { cls := .type "dict", data := .dict #[] } } : Shared) = s3
  have p3 : s3.heap = s2.heap.push { cls := .type "dict", data := .dict #[] } := by rw [← e3]
  have I3 : Inv X pins σ (upd H2 D (DxO D newD)) s3 := by
    rw [← e3]
    refine I2.laid (t' := s2.toks) (fun b o z => Heap.get?_push_of_some _ z) (Nat.le_of_eq eD) ?_
    rw [← eD]
    exact dx_empty s2.heap
  have f3 : ∀ b ∈ fp, FpOk X pins (upd H2 D (DxO D newD)) b ∧ b < s3.heap.objs.size := fun b hb => by
    obtain ⟨o, ho, _⟩ := T.obj _ _ st2 b hb
    have lt := Heap.lt_size ho
    refine ⟨⟨?_, (f2 b hb).2⟩, by rw [p3, Heap.size_push]; exact Nat.lt_succ_of_lt lt⟩
    rw [upd_ne (by rw [← eD]; exact Nat.ne_of_lt lt)]
    exact (f2 b hb).1
  have st3 : tn 0 s3.heap := T.keep _ _ _ st2 fun b _ o z => by rw [p3]; exact Heap.get?_push_of_some _ z
  have I4 := block_start I3 ok hN f3
  have a1 := hg s3 (upd H2 D (DxO D newD)) s3.heap.objs.size (cellsFrom (s3.heap.objs.size + 1) scope.names (cloFrom X.env.cells scope.names [])) fp
  have a2 := ht s3 (upd H2 D (DxO D newD)) s3.heap.objs.size (cellsFrom (s3.heap.objs.size + 1) scope.names (cloFrom X.env.cells scope.names [])) fp
  have a4 := hk s3 (upd H2 D (DxO D newD)) s3.heap.objs.size (cellsFrom (s3.heap.objs.size + 1) scope.names (cloFrom X.env.cells scope.names [])) fp
  have a3 := he s3 (upd H2 D (DxO D newD)) s3.heap.objs.size (cellsFrom (s3.heap.objs.size + 1) scope.names (cloFrom X.env.cells scope.names [])) fp
  have nfp : ∀ b ∈ fp, (upd H2 D (DxO D newD)) b = none := fun b hb => (f3 b hb).1.1
  show codeAny _ _ (.compStart (.DictComp kx vx [⟨tg, iter, ifs, 0⟩] scope pos) 0 (.ref it) (.ref D) (compEnvC scope (cellsFrom (s3.heap.objs.size + 1) scope.names (cloFrom X.env.cells scope.names [])) s3.heap.objs.size X.env)) (compPost (model X.prog X.w) X.A X.xe use Qf (.ref D) s3.heap.objs.size) { s3 with heap := pushCells (s3.heap.push { cls := .type "dict", data := .dict #[] }) scope.names }
  generalize ece : compEnvC scope (cellsFrom (s3.heap.objs.size + 1) scope.names (cloFrom X.env.cells scope.names [])) s3.heap.objs.size X.env = ce at I4 a1 a2 a3 a4 ⊢
  have cL : ce.locals = s3.heap.objs.size := by
    subst ece
    rfl
  generalize upd H2 D (DxO D newD) = H3 at I3 I4 a1 a2 a3 a4 w0 nfp f3
  generalize e4 : ({ s3 with heap := pushCells (s3.heap.push { cls := .type "dict", data := .dict #[] }) scope.names } : Shared) = s4 at I4 ⊢
  have st4 : tn 0 s4.heap := T.keep _ _ _ st3 fun b _ o z => by rw [← e4]; exact pushCells_keeps _ _ _ _ (Heap.get?_push_of_some _ z)
  have hold : ∀ {σ' : L2.St} {H' : Hp} {s' : Shared}, Inv (X.blk s3 H3 scope ce fp) [] σ' H' s' → (∀ b ∈ fp, H' b = none) → ∀ b ∈ fp, FpOk (X.blk s3 H3 scope ce fp) [] H' b := fun {σ' H' s'} I' hn b hb =>
    ⟨hn b hb, (I'.ok.exf b hb).1, I'.ok.exfs b hb, .inl hb, fun x c z => (I'.ok.exf b hb).2 x c z, fun p hp => absurd (show p ∈ ([] : List (Addr × Obj)) ++ [] from hp) (by simp)⟩
  have main : codeAny (model X.prog X.w) X.A (.compLoop (.DictComp kx vx [⟨tg, iter, ifs, 0⟩] scope pos) 0 (.ref it) (.ref D) ce) (compPost (model X.prog X.w) X.A X.xe use Qf (.ref D) s3.heap.objs.size) s4 := by
    refine compLoop_anyD (fun n s' => ∃ i H', Inv (X.blk s3 H3 scope ce fp) [] (wipe σ (own.map (·.2))) H' s' ∧ tn i s'.heap ∧ (∀ b ∈ fp, H' b = none) ∧ W i n H') ?_ m0 ⟨0, H3, I4, st4, nfp, w0⟩
    rintro n s5 ⟨i, H5, I5, st5, n5, w5⟩
    rcases turn i n H5 w5 with ⟨stop, qq⟩ | ⟨go, Nx, hNx, step⟩
    · refine thnF (T.done (X.blk s3 H3 scope ce fp) rfl rfl rfl hc i [] s5 _ H5 (fun _ _ => False) I5 (hold I5 n5) st5 stop) fun r s6 ⟨hr, I6⟩ => ?_
      subst hr
      have I7 : Inv X pins σ H5 s6 := I3.call' (ch := fp) I6.os I6.base I6.hok I6.bare fun b hb => ⟨(f3 b hb).1.2.2.2.1, (f3 b hb).1.2.1, (f3 b hb).1.2.2.2.2.1, (f3 b hb).1.2.2.2.2.2⟩
      have nC : H5 s3.heap.objs.size = none := by
        have z : H5 ce.locals = none := I6.free
        rw [cL] at z
        exact z
      obtain ⟨m, hn, _⟩ := I6.loc
      have hn : s6.heap.Ns ce.locals m := hn
      rw [cL] at hn
      exact fin D s3.heap.objs.size s6 m H5 I7 qq hn (I3.fpOk (Nat.le_refl _) nC)
    · refine thnF (T.item (X.blk s3 H3 scope ce fp) rfl rfl rfl hc i [] s5 _ H5 (fun _ _ => False) I5 (hold I5 n5) st5 go) fun r s6 ⟨u, hr, h6⟩ => ?_
      subst hr
      refine thnF h6 fun _ s7 ⟨x, H7, I7, r7, y7, st7, n7⟩ => ?_
      refine thnF (a1.run _ s7 _ H7 x u _ (I7.pinned (hold I7 n7) (T.obj _ _ st7)) r7 (step x H7 y7)) fun _ s8 ⟨σ8, H8, I8, hw8, q8⟩ => ?_
      refine thnF (a2.run _ s8 σ8 H8 _ I8 q8) fun b s9 ⟨H9, I9, q9⟩ => ?_
      have back : ∀ {σ9 : L2.St} {s' : Shared} {H' : Hp}, Inv (X.blk s3 H3 scope ce fp) ([] ++ pinsAt fp s7.heap) σ9 H' s' → (wipe σ (own.map (·.2))).length = σ9.length → (∀ (j : Nat) v, (wipe σ (own.map (·.2)))[j]? = some (some v) → σ9[j]? = some (some v)) → Nx H' →
          ∃ m, m < n ∧ ∃ i H', Inv (X.blk s3 H3 scope ce fp) [] (wipe σ (own.map (·.2))) H' s' ∧ tn i s'.heap ∧ (∀ b ∈ fp, H' b = none) ∧ W i m H' := fun {σ9 s' H'} I' hl hk nx => by
        obtain ⟨m', hm, w'⟩ := hNx H' nx
        have pin' : ∀ b ∈ fp, ∀ o, s7.heap.get? b = some o → s'.heap.get? b = some o ∧ H' b = none := fun b hb o z =>
          ⟨(I'.pin (b, o) (List.mem_append_right _ (List.mem_append_right _ (mem_pinsAt hb z)))).1, (I'.pin (b, o) (List.mem_append_right _ (List.mem_append_right _ (mem_pinsAt hb z)))).2.1⟩
        refine ⟨m', hm, i + 1, H', (I'.unpinned (pins := [])).weak hl hk, T.keep _ _ _ st7 fun b hb o z => (pin' b hb o z).1, fun b hb => ?_, w'⟩
        obtain ⟨o, z, _⟩ := T.obj _ _ st7 b hb
        exact (pin' b hb o z).2
      have l8 : (wipe σ (own.map (·.2))).length = σ8.length := by rw [← hw8, wipe_length]
      have k8 : ∀ (j : Nat) v, (wipe σ (own.map (·.2)))[j]? = some (some v) → σ8[j]? = some (some v) ∧ j ∉ own.map (·.2) := fun j v z => by
        rw [← hw8] at z
        exact wipe_some z
      cases b with
      | false =>
        simp only [Bool.false_eq_true, if_false] at q9 ⊢
        exact back I9 l8 (fun j v z => (k8 j v z).1) q9
      | true =>
        simp only [if_true] at q9 ⊢
        refine thnF (a4.run _ s9 σ8 H9 _ I9 q9) fun z s10 ⟨yk, H10, I10, r10, q10⟩ => ?_
        refine thnF (a3.run _ s10 σ8 H10 _ I10 q10) fun z2 s11 ⟨yv, H11, I11, r11, kvs, k, kb, ek, hb11, hD11, hz11, nxf⟩ => ?_
        subst ek
        cases (show z = Value.ref kb from r10)
        exact put_X (X := X.blk s3 H3 scope ce fp) hu I11 hD11 hb11 hz11 r11 fun H6 s12 of dx I12 => back I12 l8 (fun j v z => (k8 j v z).1) (nxf H6 of dx)
  exact codeAny_compStart_dict main (T.self X.A 0 _ _ _ st4 main)
theorem pe_dcX {kx vx tg iter : Expr} {ifs : List Expr} {scope : Scope} {own : List (Str × Nat)} {pos : Pos} {wi : TI} {g : TG} {tt : TT} {tk tv : TE} (hu : X.A.units < cLine)
    (hc : X.calm = true) (hN : X.N.Nodup) (hi : PI X tg iter wi) (ok : BlkOk X.N X.env.scope scope own)
    (hg : AllB X scope fun Y => PG Y tg g) (ht : AllB X scope fun Y => PTs Y ifs tt) (hk : AllB X scope fun Y => PE Y kx tk) (he : AllB X scope fun Y => PE Y vx tv)
    (hs : ∀ x, foldedSetIterable iter X.env x = pure x := by intro _; rfl) :
    PE X (.DictComp kx vx [⟨tg, iter, ifs, 0⟩] scope pos) (tDcX X.prog X.w X.K wi g tt tk tv (own.map (·.2))) := by
  refine ⟨fun pins s σ H Q I h => ?_⟩
  rw [arm_eval_DictComp]
  refine dcX_core hu hc hN I hi ok hg ht hk he hs h fun D C s' m H' I' q hn f => ⟨m, hn, fun h'' sb => ?_⟩
  exact ⟨.ref D, H', I'.turned (t' := s'.toks) (fun b o hb e => (sb.2 b hb).trans e) f.1 f.2.1 f.2.2.2.1 f.2.2.2.2.1 f.2.2.2.2.2, rfl, q⟩
/-- name = {..} on one line, the name a local -/
theorem ps_setDcX {i : Nat} {y : Str} {py : Pos} {kx vx tg iter : Expr} {ifs : List Expr} {scope : Scope} {own : List (Str × Nat)} {pos spos : Pos} {wi : TI} {g : TG} {tt : TT} {tk tv : TE} (hu : X.A.units < cLine)
    (hc : X.calm = true) (hN : X.N.Nodup) (hy : X.N[i]? = some y) (hyl : X.env.scope.names.lookup y = some .local) (hsw : swapsWith (.DictComp kx vx [⟨tg, iter, ifs, 0⟩] scope pos) (some (.Name y py)) spos.line X.env = pure true)
    (hi : PI X tg iter wi) (ok : BlkOk X.N X.env.scope scope own)
    (hg : AllB X scope fun Y => PG Y tg g) (ht : AllB X scope fun Y => PTs Y ifs tt) (hk : AllB X scope fun Y => PE Y kx tk) (he : AllB X scope fun Y => PE Y vx tv)
    (hs : ∀ x, foldedSetIterable iter X.env x = pure x := by intro _; rfl) :
    PS X (.Assign [.Name y py] (.DictComp kx vx [⟨tg, iter, ifs, 0⟩] scope pos) spos) (tAsg (tDcX X.prog X.w X.K wi g tt tk tv (own.map (·.2))) (gName i)) := by
  refine ⟨fun pins s σ H D I h => ?_⟩
  rw [exec_Assign_Name_used _ _ _ _ hsw]
  have q0 : tDcX X.prog X.w X.K wi g tt tk tv (own.map (·.2)) σ H (fun x H1 => gName i x σ H1 D.nx) := h
  refine wpAny_bind (wpAny_standAt (wpAny_bind ?_))
  show wpAny _ X.A (do let _ ← comprehension (.DictComp kx vx [⟨tg, iter, ifs, 0⟩] scope pos) scope X.env (firstIterPos [⟨tg, iter, ifs, 0⟩] pos) newDict false (eval iter X.env) (some (assign (.Name y py) X.env))) _ _ s
  refine wpAny_bind (thn (dcX_core (Qf := fun _ s' => SP X pins D .next s') hu hc hN I hi ok hg ht hk he hs q0 fun L C s' m H' I' q hn f => ?_) fun _ s' z => wpAny_pure (wpAny_pure z))
  show wpAny _ _ (assign (.Name y py) X.env (.ref L)) _ _ _
  refine wpAny_assign_Name (store_ok2 (v := V.ref L) I' hN hy (.inl hyl) rfl (fun s2 I2 ⟨a, sb, ha⟩ => ⟨m, hn.sameBut sb ?_, fun h3 sb3 => ?_⟩) (.inr hyl))
  · rcases ha with z | z
    · rw [z]; exact f.2.1
    · exact fun e => f.2.2.2.2.1 y a z e.symm
  · exact ⟨_, H', I2.turned (t' := s2.toks) (fun b o hb e => (sb3.2 b hb).trans e) f.1 f.2.1 f.2.2.2.1 f.2.2.2.2.1 f.2.2.2.2.2, q⟩
end
end DTx


set_option Elab.async false
set_option linter.all false
set_option maxRecDepth 100000
set_option maxHeartbeats 4000000
/-! walks over dicts that are held to the object: their keys. -/
namespace DTx
open PySem PySem.Spec PyProof.Rows L2 STX DCt DEq
/-- the keys of the dict o at D: xs what lies in it -/
def Itx (D : Addr) (o : Obj) (xs : List HX) : It :=
  ⟨fun i H => H D = some (DxO D o) ∧ i < xs.length, fun i H x H' => H' = H ∧ ∃ p, xs[i]? = some p ∧ x = .ref p.2.1, fun i H => H D = some (DxO D o) ∧ xs.length ≤ i⟩
section
variable {P : Program} {w : World} {K : PySem.W.Frag} {tg : Expr} {D : Addr} {o : Obj} {es : Array DictEntry} {ep : Nat} {xs : List HX}
theorem turn_keysX (it : Addr) (hod : o.data = .dict es ep) (hx : o.ExactDict) (he : es.toList = xs.map (entryOfKey (tupleKind (mixKind P w)))) (hs : (D == sysModules) = false) : Turn P w K tg (Itx D o xs) [it] it (fun i h => h.IsKeyIter it D i xs.length ep) where
  mem := by simp
  obj := fun i h st b hb => by
    have e : b = it := by simpa using hb
    subst e
    obtain ⟨oi, e, c, dd⟩ := st
    exact ⟨oi, e, fun v z => by rw [dd] at z; cases z⟩
  keep := fun i h h' st k => st.at fun oi e => k it (by simp) oi e
  item := by
    intro X hP hw hK hc i pins s σ H E I hf st hg
    subst hP hw hK
    obtain ⟨hd, hi⟩ := hg
    obtain ⟨f0, f1, f2, f3, f4, f5⟩ := hf it (by simp)
    have hgd : s.heap.get? D = some o := (show ObjOk X.prog X.w H s.heap D (DxO D o) from I.hok D _ hd).1
    have hsz : es.size = xs.length := size_of_entries he
    obtain ⟨p, hp⟩ : ∃ p, xs[i]? = some p := ⟨xs[i], List.getElem?_eq_getElem hi⟩
    have hen := entry_at he i
    rw [hp] at hen
    refine next_key_item st hgd hod hsz hen fun h' st' sb => ?_
    have I1 : Inv X pins σ H { s with heap := h' } := I.turned (t' := s.toks) (fun b ob hb e => (sb.2 b hb).trans e) f0 f1 f3 f4 f5
    obtain ⟨oi, e, c, dd⟩ := id st'
    exact ⟨_, rfl, go_of (s := { s with heap := h' }) e c dd (by decide) ⟨.ref p.2.1, H, I1, rfl, ⟨rfl, p, hp, rfl⟩, st', fun b hb => (hf b hb).1⟩⟩
  done := by
    intro X hP hw hK hc i pins s σ H E I hf st hg
    subst hP hw hK
    obtain ⟨hd, hi⟩ := hg
    obtain ⟨f0, f1, f2, f3, f4, f5⟩ := hf it (by simp)
    have hgd : s.heap.get? D = some o := (show ObjOk X.prog X.w H s.heap D (DxO D o) from I.hok D _ hd).1
    have hsz : es.size = xs.length := size_of_entries he
    exact next_key_end (I.ok.hd hc) st hgd hod hsz hi fun h' eb => ⟨rfl, I.turned (t' := s.toks) (fun b ob hb e => eb b ob hb e) f0 f1 f3 f4 f5⟩
  self := fun A i s Q E st h => wpAny_pyIter_keyiter st h
end
/-- its reading -/
def iKeysX (P : Program) (w : World) (K : PySem.W.Frag) (td : TE) : TI := fun σ H R => td σ H fun x H1 => ∃ (D : Addr) (kvs : List (List Key × V)), x = .ref D ∧ DX P w K H1 D kvs ∧ ∀ (o : Obj) (xs : List HX), H1 D = some (DxO D o) → KTx K H1 kvs xs → R (Itx D o xs) H1
section
variable {X : Cx} {e tg : Expr} {td : TE}
theorem pi_keysX (he : PE X e td) : PI X tg e (iKeysX X.prog X.w X.K td) := by
  refine ⟨fun pins s σ H R I h => ?_⟩
  refine thn (he.run pins s σ H _ I h) fun u s1 ⟨x, H1, I1, rx, D, kvs, ex, dx, q⟩ => ?_
  subst ex
  obtain rfl : u = Value.ref D := rx
  obtain ⟨o, xs, h1, rel, hgd, ⟨es, ep, hx, hdt, hes⟩, _⟩ := dx_of I1 dx
  have hsz : es.size = xs.length := size_of_entries hes
  refine iter_keys dx.nm hgd hx hdt (pi_one (tk := s1.toks) I1 _ (turn_keysX _ hdt hx hes dx.nm) ⟨_, Heap.get?_push_size _ rfl, rfl, ?_⟩ (q o xs h1 rel))
  rw [hsz] <;> rfl
end
/-- a walk over the keys -/
theorem walk_keysX {D : Addr} {o : Obj} {xs : List HX} : Walk (Itx D o xs) xs.length (fun H => H D = some (DxO D o)) (fun i H x H' => H' = H ∧ ∃ p, xs[i]? = some p ∧ x = .ref p.2.1) where
  goes := fun i H lt g => ⟨g, lt⟩
  yields := fun i H x H' _ _ y => y
  stops := fun H g => ⟨g, Nat.le_refl _⟩
/-- the keys as tuples -/
theorem ktx_key {K : PySem.W.Frag} {H : Hp} {kvs : List (List Key × V)} {xs : List HX} (r : KTx K H kvs xs) {i : Nat} {p : HX} (h : xs[i]? = some p) : ∃ v, kvs[i]? = some (p.1, v) ∧ SqT K H p.2.1 (p.1.map kV) := by
  induction r generalizing i with
  | nil => simp at h
  | @cons a b as bs ab _ ih =>
    cases i with
    | zero =>
      simp only [List.getElem?_cons_zero, Option.some.injEq] at h
      subst h
      obtain ⟨e, s, _⟩ := ab
      refine ⟨a.2, ?_, by rw [← e]; exact s⟩
      rw [List.getElem?_cons_zero, ← e]
    | succ j =>
      simp only [List.getElem?_cons_succ] at h ⊢
      exact ih h
end DTx


set_option Elab.async false
set_option linter.all false
set_option maxRecDepth 100000
set_option maxHeartbeats 4000000
/-! dicts with tuple keys that are held to the object: d.get(k, x), len(d). -/
namespace DTx
open PySem PySem.Spec PyProof.Rows L2 STX DCt DEq
/-- d.get(y, z) -/
def tDGet2X (P : Program) (w : World) (K : PySem.W.Frag) (td ty tx : TE) : TE := fun σ H Q => td σ H fun x H1 => ∃ (D : Addr) (kvs : List (List Key × V)), x = .ref D ∧ DX P w K H1 D kvs ∧ ty σ H1 fun y H2 => tx σ H2 fun z H3 => ∃ (b : Addr) (kvs : List (List Key × V)) (k : List Key), y = .ref b ∧ DX P w K H3 D kvs ∧ SqT K H3 b (k.map kV) ∧ Q ((valV kvs k).getD z) H3
section
variable {X : Cx} {o e f : Expr} {apos cpos : Pos} {td ty tx : TE}
theorem pe_dget2X (hu : X.A.units + 1 < cLine) (ho : PE X o td) (he : PE X e ty) (hf : PE X f tx) (m : M2 X o "get" apos e f cpos) : PE X (.Call (.Attribute o "get" apos) [e, f] [] cpos) (tDGet2X X.prog X.w X.K td ty tx) := by
  refine ⟨fun pins s σ H Q I h => ?_⟩
  refine wpAny_Call_method m.base m.few m.line PySem.F.plainAttrs_dict PySem.F.slot_dict_get PySem.F.type_dict_get (thn (ho.run pins s σ H _ I h) fun u s1 ⟨x, H1, I1, rx, a, kvs, ex, d, q1⟩ => ?_)
  subst ex
  obtain rfl : u = Value.ref a := rx
  obtain ⟨ob, xs, hD, rel, hgd, ⟨es, ep, hx, hdt, hes⟩, dd⟩ := dx_of I1 d
  refine ⟨dd.typeIs, ?_, ?_⟩
  · intro b q
    cases q
    exact ⟨ob, hgd, hx.2.1⟩
  rw [m.trees]
  refine Calls.callWith_builtin rfl (Calls.evalArgs_plain (Calls.spliced_cons (thn (he.run pins s1 σ H1 _ I1 q1) fun iv s2 ⟨y, H2, I2, ry, q2⟩ =>
    Calls.spliced_cons (thn (hf.run pins s2 σ H2 _ I2 q2) fun fv s3 ⟨z, H3, I3, rz, b, kvs3, k, ey, d3, sb, q3⟩ => Calls.spliced_nil ?_))))
  subst ey
  cases (show iv = Value.ref b from ry)
  obtain ⟨ob3, xs3, hD3, rel3, hgd3, _, dd3⟩ := dx_of I3 d3
  refine call_meetsIn PySem.F.slot_dict_get dd3.typeIs PySem.F.entry_dict_get (PySem.F.args_dict_get_3 _ _ _) (meetsH_dict_get_default (tupleKind (mixKind X.prog X.w)) a b d3.nm fv) ⟨tupleKind_room_in1 hu, k, xs3, key_ofS I3 sb, dd3, _, _, I3.tok _, ?_, q3⟩
  exact (rel3.val k).getD rz
end
end DTx


set_option Elab.async false
set_option linter.all false
set_option maxRecDepth 100000
set_option maxHeartbeats 4000000
/-! dicts with tuple keys that are held to the object: d.items(), len(d), d.clear(). -/
namespace DTx
open PySem PySem.Spec PyProof.Rows L2 STX DCt DEq
/-- the items of the dict o at D, kvs what lies in it -/
def Itxi (D : Addr) (o : Obj) (xs : List HX) (kvs : List (List Key × V)) : It :=
  ⟨fun i H => H D = some (DxO D o) ∧ i < xs.length, fun i H x H' => ∃ p q a, xs[i]? = some p ∧ kvs[i]? = some q ∧ x = .ref a ∧ H a = none ∧ H' = upd H a (.tup [.ref p.2.1, q.2]), fun i H => H D = some (DxO D o) ∧ xs.length ≤ i⟩
theorem ktx_at {K : PySem.W.Frag} {H : Hp} {kvs : List (List Key × V)} {xs : List HX} (r : KTx K H kvs xs) {i : Nat} {p : HX} (h : xs[i]? = some p) : ∃ q, kvs[i]? = some q ∧ q.1 = p.1 ∧ RelV q.2 p.2.2 := by
  induction r generalizing i with
  | nil => simp at h
  | @cons a b as bs ab _ ih =>
    cases i with
    | zero =>
      simp only [List.getElem?_cons_zero, Option.some.injEq] at h
      subst h
      exact ⟨a, rfl, ab.1, ab.2.2⟩
    | succ j =>
      simp only [List.getElem?_cons_succ] at h ⊢
      exact ih h
section
variable {P : Program} {w : World} {K : PySem.W.Frag} {D : Addr} {o : Obj} {es : Array DictEntry} {ep : Nat} {xs : List HX} {kvs : List (List Key × V)}
theorem turn_itemsX {elts : List Expr} {kk : Nat} {tpos : Pos} (it : Addr) (hod : o.data = .dict es ep) (hx : o.ExactDict) (he : es.toList = xs.map (entryOfKey (tupleKind (mixKind P w)))) (hs : (D == sysModules) = false) (rel : ∀ (i : Nat) (p : HX), xs[i]? = some p → ∃ q : List Key × V, kvs[i]? = some q ∧ q.1 = p.1 ∧ RelV q.2 p.2.2) :
    Turn P w K (.Tuple elts kk tpos) (Itxi D o xs kvs) [it] it (fun i h => ∃ ok ov, IsItemIter h it D i es.size ep ok ov) where
  mem := by simp
  obj := fun i h st b hb => by
    have e : b = it := by simpa using hb
    subst e
    obtain ⟨ok, ov, e⟩ := st
    exact ⟨_, e, fun v z => nomatch z⟩
  keep := fun i h h' st k => let ⟨ok, ov, e⟩ := st; ⟨ok, ov, k it (by simp) _ e⟩
  item := by
    intro X hP hw hK hc i pins s σ H E I hf st hg
    subst hP hw hK
    obtain ⟨hd, hi⟩ := hg
    have hgd : s.heap.get? D = some o := (show ObjOk X.prog X.w H s.heap D (DxO D o) from I.hok D _ hd).1
    have hsz : es.size = xs.length := size_of_entries he
    obtain ⟨p, hp⟩ : ∃ p, xs[i]? = some p := ⟨xs[i], List.getElem?_eq_getElem hi⟩
    have hen := entry_at he i
    rw [hp] at hen
    obtain ⟨q, hq, e1, rq⟩ := rel i p hp
    obtain ⟨ok, ov, hit⟩ := st
    have hlt : it < s.heap.objs.size := Heap.lt_size hit
    have hi' : i < es.size := by omega
    have hk : es[i] = entryOfKey (tupleKind (mixKind X.prog X.w)) p := by
      have z := Array.getElem?_eq_getElem hi'
      rw [hen] at z
      exact (Option.some.inj z).symm
    refine wpAny_pyNext_items_item_raw hit ⟨o, hgd, hx, hod⟩ hi' fun h' ho hT hz hk' => ?_
    rw [hk] at ho hT
    refine ⟨_, rfl, wpAny_letOwnedTupleGo_items (s := { s with heap := h' }) ho fun h'' he' sb => ?_⟩
    have hT2 := (sb.2 _ (Nat.ne_of_gt hlt)).trans hT
    have new : ObjOk X.prog X.w (upd H s.heap.objs.size (.tup [.ref p.2.1, q.2])) h'' s.heap.objs.size (.tup [.ref p.2.1, q.2]) :=
      ⟨by show 2 ≤ sizeLine; decide, [.ref p.2.1, p.2.2], .cons rfl (.cons rq .nil), ⟨_, hT2, rfl, _, rfl⟩⟩
    have I1 : Inv X pins σ (upd H s.heap.objs.size (.tup [.ref p.2.1, q.2])) { s with heap := h'' } :=
      I.turnedNew (t' := s.toks) (ch := [it]) (fun b ob hb e => (sb.2 b (by simpa using hb)).trans (hk' b ob (by simpa using hb) e)) hf (Nat.le_refl _) new
    refine ⟨.ref s.heap.objs.size, _, I1, rfl, ⟨p, q, _, hp, hq, rfl, I.hok.fresh (Nat.le_refl _), rfl⟩, ⟨_, _, he'⟩, fun b hb => ?_⟩
    have e : b = it := by simpa using hb
    rw [e, upd_ne (Nat.ne_of_lt hlt)]
    exact (hf it (by simp)).1
  done := by
    intro X hP hw hK hc i pins s σ H E I hf st hg
    subst hP hw hK
    obtain ⟨hd, hi⟩ := hg
    obtain ⟨f0, f1, f2, f3, f4, f5⟩ := hf it (by simp)
    have hgd : s.heap.get? D = some o := (show ObjOk X.prog X.w H s.heap D (DxO D o) from I.hok D _ hd).1
    have hsz : es.size = xs.length := size_of_entries he
    obtain ⟨ok, ov, hit⟩ := st
    exact wpAny_pyNext_items_end_raw (I.ok.hd hc) hit ⟨o, hgd, hx, hod⟩ (by omega) fun h' eb => ⟨rfl, I.turned (t' := s.toks) (fun b ob hb e => eb b ob hb e) f0 f1 f3 f4 f5⟩
  self := fun A i s Q E st h => let ⟨_, _, e⟩ := st; PySem.W.kcp_self e h
end
def iItemsX (P : Program) (w : World) (K : PySem.W.Frag) (td : TE) : TI := fun σ H R => td σ H fun x H1 => ∃ (D : Addr) (kvs : List (List Key × V)), x = .ref D ∧ DX P w K H1 D kvs ∧ ∀ (o : Obj) (xs : List HX), H1 D = some (DxO D o) → KTx K H1 kvs xs → R (Itxi D o xs kvs) H1
section
variable {X : Cx} {e : Expr} {td : TE} {apos cpos : Pos}
theorem pi_itemsX {elts : List Expr} {kk : Nat} {tpos : Pos} (he : PE X e td) (hbase : attributeBase e "items" X.env (eval e X.env) = eval e X.env := by rfl) (hline : (apos.endLine == cpos.line) = true := by rfl) :
    PI X (.Tuple elts kk tpos) (.Call (.Attribute e "items" apos) [] [] cpos) (iItemsX X.prog X.w X.K td) := by
  refine ⟨fun pins s σ H R I h => ?_⟩
  refine wpAny_Call_method (T := "dict") (id := "dict.items") hbase rfl hline F.plainAttrs_dict F.slot_dict_items F.type_dict_items (thn (he.run pins s σ H _ I h) fun u s1 ⟨x, H1, I1, rx, D, kvs, ex, dx, q⟩ => ?_)
  subst ex
  obtain rfl : u = Value.ref D := rx
  obtain ⟨o, xs, h1, rel, hgd, ⟨es, ep, hx, hdt, hes⟩, dd⟩ := dx_of I1 dx
  have raw : s1.heap.DictRaw D es ep := ⟨o, hgd, hx, hdt⟩
  refine ⟨dd.typeIs, ?_, ?_⟩
  · intro b q
    cases q
    exact ⟨o, hgd, hx.2.1⟩
  have I2 : Inv X pins σ H1 { s1 with heap := s1.heap.push { cls := .type "dict_items", data := .fields #[.ref D] } } := I1.kept (t' := s1.toks) fun b ob q => Heap.get?_push_of_some _ q
  have fin : wpAny (model X.prog X.w) X.A (pyIter (.ref s1.heap.objs.size)) (PIE X pins σ (.Tuple elts kk tpos) R) X.xe { s1 with heap := s1.heap.push { cls := .type "dict_items", data := .fields #[.ref D] } } := by
    refine wpAny_pyIter_items_raw (d := D) ⟨_, Heap.get?_push_size _ rfl, rfl, rfl⟩ (raw.at fun o e => Heap.get?_push_of_some _ e) (pi_one (tk := s1.toks) I2 _ (turn_itemsX (kvs := kvs) _ hdt hx hes dx.nm (fun i p hp => ktx_at rel hp)) ⟨.none, .none, ?_⟩ (q o xs h1 rel))
    exact Heap.get?_push_size _ rfl
  show wpAny _ _ (callWith cpos (.builtin "dict.items") [.ref D] [] []) _ X.xe s1
  exact method_meetsIn F.slot_dict_items F.entry_dict_items rfl (PySem.evalArgs_none ⟨rfl, dd.typeIs, F.args_dict_items_1 _, _, meets_dict_items_raw D dx.nm, ⟨es, ep, raw⟩, fin⟩)
end
/-- a walk over the items -/
theorem walk_itemsX {D : Addr} {o : Obj} {xs : List HX} {kvs : List (List Key × V)} : Walk (Itxi D o xs kvs) xs.length (fun H => H D = some (DxO D o)) (fun i H x H' => ∃ p q a, xs[i]? = some p ∧ kvs[i]? = some q ∧ x = .ref a ∧ H a = none ∧ H' = upd H a (.tup [.ref p.2.1, q.2])) where
  goes := fun i H lt g => ⟨g, lt⟩
  yields := fun i H x H' _ _ y => y
  stops := fun H g => ⟨g, Nat.le_refl _⟩
end DTx


set_option Elab.async false
set_option linter.all false
set_option maxRecDepth 100000
set_option maxHeartbeats 4000000
/-! dicts with tuple keys that are held to the object: isinstance, len, clear. -/
namespace DTx
open PySem PySem.Spec PyProof.Rows L2 STX DCt DEq
section
variable {X : Cx}
/-- isinstance(d, c) for such a dict, or for what the library knows -/
def rIsiX (P : Program) (w : World) (K : PySem.W.Frag) : List V → Hp → VK → Prop := fun xs H Q => rIsi K xs H Q ∨ ∃ (D : Addr) (kvs : List (List Key × V)) (c : V) (u : Value) (b : Bool), xs = [.ref D, c] ∧ ClsV c u ∧ DX P w K H D kvs ∧ PySem.W.kitOne K (.type "dict") u = some b ∧ Q (.bl b) H
theorem call_isiX : CallR X (.builtin "isinstance") (rIsiX X.prog X.w X.K) := by
  intro pins s σ H xs us Q I r h
  rcases h with h | ⟨D, kvs, c, u, b, rfl, k, dx, e, q⟩
  · exact call_isi pins s σ H xs us Q I r h
  · obtain ⟨u1, u2, rfl, r1, r2⟩ := vals2 r
    have e2 := k.eq r2
    subst e2
    obtain rfl : u1 = Value.ref D := r1
    obtain ⟨o, ys, _, _, hgd, ⟨es, ep, hx, _, _⟩, _⟩ := dx_of I dx
    exact PySem.W.kia_one PySem.W.kitx_dict I.kIn ⟨o, hgd, hx.1⟩ e (fun z => nomatch z) fun tk => ⟨.bl b, H, I.tok tk, rfl, q⟩
/-- len(d) -/
def rLenX (P : Program) (w : World) (K : PySem.W.Frag) : List V → Hp → VK → Prop := fun xs H Q => ∃ (D : Addr) (kvs : List (List Key × V)), xs = [.ref D] ∧ DX P w K H D kvs ∧ Q (.int ((kvs.length : Nat) : Int)) H
theorem call_lenX : CallR X (.builtin "len") (rLenX X.prog X.w X.K) := by
  intro pins s σ H xs us Q I r h
  obtain ⟨p, kvs, rfl, hp, q⟩ := h
  obtain ⟨u, rfl, rx⟩ := vals1 r
  obtain rfl : u = .ref p := rx
  obtain ⟨o, ys, _, rel, _, _, dd⟩ := dx_of I hp
  have hl : kvs.length = ys.length := Paired.length rel
  have z := hp.len
  refine call_len_dictH hp.nm dd (by rw [← hl]; rw [sizeLine_eq] at z; omega) ?_
  rw [← hl]
  exact ⟨.int ((kvs.length : Nat) : Int), H, I.tok _, ⟨_, rfl⟩, q⟩
/-- d.clear() -/
def rClearX (P : Program) (w : World) (K : PySem.W.Frag) : V → List V → Hp → VK → Prop := fun x xs H Q => ∃ (D : Addr) (kvs : List (List Key × V)), x = .ref D ∧ xs = [] ∧ DX P w K H D kvs ∧ ∀ H', Off D H H' → DX P w K H' D [] → Q .non H'
theorem mt_clearX : MtR X "dict.clear" (rClearX X.prog X.w X.K) := by
  intro pins s σ H x xs v us Q I rx rxs h
  obtain ⟨D, kvs, rfl, rfl, dx, q⟩ := h
  cases rx
  cases rxs
  obtain ⟨o, ys, h1, rel, hgd, ⟨es, ep, hx, hdt, hes⟩, dd⟩ := dx_of I dx
  have hl : kvs.length = ys.length := Paired.length rel
  have hsz : es.size = ys.length := size_of_entries hes
  refine call_meetsIn PySem.F.slot_dict_clear dd.typeIs PySem.F.entry_dict_clear (PySem.F.args_dict_clear_1 _) (meets_dict_clear_raw D) ⟨es, ep, ⟨o, hgd, hx, hdt⟩, by have := dx.len; omega, fun h' raw sb => ?_⟩
  obtain ⟨q0, hq, h2, h3⟩ := raw
  have of : Off D H (upd H D (DxO D q0)) := fun c nc => upd_ne nc
  have dx' : DX X.prog X.w X.K (upd H D (DxO D q0)) D [] := ⟨⟨q0, [], upd_same, ⟨#[], _, h2, h3, rfl⟩, .nil, List.nodup_nil⟩, Nat.zero_le _, dx.nm⟩
  exact ⟨.non, _, d_write (t' := s.toks) I (by rw [h1]; trivial) sb ⟨q0, hq⟩ (dxo_ok hq), rfl, q _ of dx'⟩
end
end DTx


set_option Elab.async false
set_option linter.all false
set_option maxRecDepth 100000
set_option maxHeartbeats 4000000
/-! d.clear() as an expression -/
namespace DTx
open PySem PySem.Spec PyProof.Rows L2 STX DCt DEq
def tClearX (P : Program) (w : World) (K : PySem.W.Frag) (td : TE) : TE := fun σ H Q => td σ H fun x H1 => rClearX P w K x [] H1 Q
section
variable {X : Cx} {o : Expr} {apos cpos : Pos} {td : TE}
theorem pe_clearX (ho : PE X o td) (hbase : attributeBase o "clear" X.env (eval o X.env) = eval o X.env := by rfl) (hline : (apos.endLine == cpos.line) = true := by rfl) : PE X (.Call (.Attribute o "clear" apos) [] [] cpos) (tClearX X.prog X.w X.K td) := by
  refine ⟨fun pins s σ H Q I h => ?_⟩
  refine wpAny_Call_method0_late hbase hline (thn (ho.run pins s σ H _ I h) fun v s1 ⟨x, H1, I1, r1, q1⟩ => ?_)
  have q1' := q1
  obtain ⟨D, kvs, rfl, _, dx, _⟩ := q1'
  obtain rfl : v = Value.ref D := r1
  obtain ⟨ob, xs, hD, rel, hgd, ⟨es, ep, hx, hdt, hes⟩, dd⟩ := dx_of I1 dx
  exact ⟨"dict", _, PySem.F.plainAttrs_dict, PySem.F.slot_dict_clear, PySem.F.type_dict_clear, dd.typeIs, (fun b q => by
    cases q
    exact ⟨ob, hgd, hx.2.1⟩), Calls.callWith_builtin rfl (PySem.evalArgs_none (mt_clearX pins s1 σ H1 (.ref D) [] (.ref D) [] Q I1 rfl .nil q1))⟩
end
end DTx


set_option Elab.async false
set_option linter.all false
set_option maxRecDepth 100000
set_option maxHeartbeats 4000000
/-! dicts with tuple keys that are held to the object: in, not in; such a dict is equal to itself. -/
namespace DTx
open PySem PySem.Spec PyProof.Rows L2 STX DCt DEq
section
variable {X : Cx}
def rInX (P : Program) (w : World) (K : PySem.W.Frag) (neg : Bool) : R2 := fun x y H Q => ∃ (D b : Addr) (kvs : List (List Key × V)) (k : List Key), x = .ref b ∧ y = .ref D ∧ DX P w K H D kvs ∧ SqT K H b (k.map kV) ∧ Q (.bl (if neg then !(valV kvs k).isSome else (valV kvs k).isSome)) H
theorem op_inX (hu : X.A.units + 1 < cLine) : OpR X (compareOp .In) (rInX X.prog X.w X.K false) := by
  intro pins s σ H x y v u Q I rx ry h
  obtain ⟨D, b, kvs, k, rfl, rfl, d, sb, q⟩ := h
  obtain rfl : v = Value.ref b := rx
  obtain rfl : u = Value.ref D := ry
  obtain ⟨ob, xs, hD, rel, hgd, _, dd⟩ := dx_of I d
  have e : (valV kvs k).isSome = (atKey xs k).isSome := by
    rw [(rel.val k).isSome_eq, Option.isSome_map]
  rw [if_neg Bool.false_ne_true, e] at q
  show wpAny _ _ (do return Value.bool (← contains (.ref D) (.ref b))) _ _ _
  exact wpAny_bind (wpAny_contains_heap (knd := tupleKind (mixKind X.prog X.w)) (tupleKind_room_in1 hu) (key_ofS I sb) d.nm dd (wpAny_pure ⟨.bl _, H, I.tok _, rfl, q⟩))
theorem op_notInX (hu : X.A.units + 1 < cLine) : OpR X (compareOp .NotIn) (rInX X.prog X.w X.K true) := by
  intro pins s σ H x y v u Q I rx ry h
  obtain ⟨D, b, kvs, k, rfl, rfl, d, sb, q⟩ := h
  obtain rfl : v = Value.ref b := rx
  obtain rfl : u = Value.ref D := ry
  obtain ⟨ob, xs, hD, rel, hgd, _, dd⟩ := dx_of I d
  have e : (valV kvs k).isSome = (atKey xs k).isSome := by
    rw [(rel.val k).isSome_eq, Option.isSome_map]
  rw [if_pos rfl, e] at q
  show wpAny _ _ (do return Value.bool (!(← contains (.ref D) (.ref b)))) _ _ _
  exact wpAny_bind (wpAny_contains_heap (knd := tupleKind (mixKind X.prog X.w)) (tupleKind_room_in1 hu) (key_ofS I sb) d.nm dd (wpAny_pure ⟨.bl _, H, I.tok _, rfl, q⟩))
end
def FlatD (xs : List HX) : Prop := ∀ x ∈ xs, x.2.2 = .none ∨ ∃ i t, x.2.2 = .int i t
section
variable {prog : Program} {w : World} {A : Around} {E : Value → Shared → Prop} {s : Shared} {a : Addr} {xs : List HX}
theorem pairs_S {nm : String} {Q : Bool → Shared → Prop} (hu : A.units < cLine) (na : (a == sysModules) = false) (da : s.heap.DictOfH (knd prog w) a xs) (sa : FlatD xs)
    (q : Q true s) : wpAny (model prog w) A (Builtin.Dict.samePairs nm a a) Q E s := by
  obtain ⟨oa, ea, pa, ha, _, hda, la, isa, nda⟩ := da
  unfold Builtin.Dict.samePairs Builtin.Dict.showsAll
  rw [if_neg (by rw [na]; exact Bool.false_ne_true)]
  refine wpAny_bind (wpAny_pure (wpAny_bind (wpAny_pure (wpAny_bind (wpAny_dictEntries ha hda ?_)))))
  dsimp only
  refine wpAny_bind (wpAny_dictEntries ha hda ?_)
  rw [if_neg (by simp)]
  refine wpAny_bind (wpAny_dictEpoch ha hda (wpAny_bind ?_))
  rw [Std.Legacy.Range.forIn_eq_forIn_range']
  simp only [Std.Legacy.Range.size, Nat.sub_zero, Nat.add_sub_cancel, Nat.div_one]
  refine wpAny_forIn_list _ (fun rest r s' => s' = s ∧ r = (none, ()) ∧ ∃ i, rest = List.range' i (ea.size - i) ∧ i ≤ ea.size) _ ?_ ?_ _ _ ⟨rfl, rfl, 0, by simp, Nat.zero_le _⟩
  · rintro x rest r s' ⟨rfl, rfl, i, hr, hi⟩
    have lt : i < ea.size := by
      by_cases z : i < ea.size
      · exact z
      · rw [show ea.size - i = 0 by omega] at hr
        simp at hr
    obtain ⟨rfl, hrest⟩ : x = i ∧ rest = List.range' (i + 1) (ea.size - (i + 1)) := by
      rw [show ea.size - i = (ea.size - (i + 1)) + 1 by omega, List.range'_succ] at hr
      injection hr with h1 h2
      exact ⟨h1, h2⟩
    obtain ⟨hx, hxx⟩ : ∃ hx, xs[x]? = some hx := ⟨_, List.getElem?_eq_getElem (by rw [← size_of_entries la]; exact lt)⟩
    have ent := entry_at la x
    rw [hxx] at ent
    refine wpAny_bind (wpAny_dictEntries ha hda ?_)
    rw [ent]
    show wpAny _ _ (holding [(entryOfKey (knd prog w) hx).key, (entryOfKey (knd prog w) hx).val] _ >>= _) _ _ _
    refine wpAny_bind (wpAny_holding (wpAny_bind ?_))
    show wpAny _ _ (dictFind a (.ref hx.2.1) ((knd prog w).hash hx.1)) _ _ _
    refine wpAny_dictFind_heap (knd := knd prog w) hu (isa hx (List.mem_of_getElem? hxx)) ha hda la isa nda (fun none => ?_) (fun j p hj => ?_)
    · exact absurd (not_mem_keys_of_get none) (fun z => z (List.mem_map_of_mem (List.mem_of_getElem? hxx)))
    · have e1 : (xs.map (·.1))[x]? = (xs.map (·.1))[j]? := by
        rw [List.getElem?_map, List.getElem?_map, hxx, hj]
        rfl
      have ej : x = j := (List.getElem?_inj (by rw [List.length_map, ← size_of_entries la]; exact lt) nda).mp e1
      subst ej
      rw [hxx] at hj
      have entb := ent
      have ep : p = hx.2 := by
        injection hj with hj
        rw [hj]
      refine wpAny_bind (wpAny_dictEntries ha hda ?_)
      rw [entb]
      show wpAny _ _ (holding _ (eqBool hx.2.2 hx.2.2)) _ _ _
      have eqs : SeqAt.EqAt A s' hx.2.2 hx.2.2 true := by
        rcases sa hx (List.mem_of_getElem? hxx) with e | ⟨i, t, e⟩
        · rw [e]
          exact SeqAt.EqAt.same _
        · rw [e]
          have z := (MeetsSeq.EqGives.int i i t t).at A s'
          rwa [show (i == i) = true from beq_self_eq_true i] at z
      refine wpAny_holding (eqs _ _ _ _ ?_)
      show wpAny _ _ (if (!true) = true then _ else _) _ _ _
      rw [if_neg (by decide)]
      refine wpAny_bind (wpAny_dictEpoch ha hda ?_)
      rw [if_neg (by simp)]
      exact wpAny_pure ⟨rfl, rfl, x + 1, hrest, lt⟩
  · rintro r s' ⟨rfl, rfl, i, hr, hi⟩
    exact wpAny_pure q
theorem eq_S {Q : Value → Shared → Prop} (hu : A.units + 1 < cLine) (na : (a == sysModules) = false) (da : s.heap.DictOfH (knd prog w) a xs) (sa : FlatD xs)
    (q : Q (.bool true) s) : wpAny (model prog w) A (compareOp .Eq (.ref a) (.ref a)) Q E s := by
  refine wpAny_richCompare_same_room (op := .Eq) da.typeIs da.typeIs PySem.F.slot_dict_eq (wpAny_call_entry PySem.F.slot_dict_eq da.typeIs PySem.F.entry_dict_eq ?_ (PySem.F.args_dict_eq_2 _ _)) (Nat.lt_of_succ_lt hu)
  show wpAny _ _ (Builtin.Dict.dictSlotArgs "__eq__" ⟨[.ref a, .ref a], []⟩ >>= _) _ _ s
  unfold Builtin.Dict.dictSlotArgs
  refine wpAny_bind (wpAny_bind (wpAny_notOrdered_dict da.typeIs (show wpAny _ _ (pure (Value.ref a, Value.ref a)) _ _ s from wpAny_pure ?_)))
  refine wpAny_bind (wpAny_isInstance (T := "dict") da.typeIs PySem.F.sub_dict_dict ?_)
  simp only [Bool.not_true, Bool.false_eq_true, if_false]
  refine wpAny_bind (wpAny_pure (wpAny_bind (wpAny_pure (wpAny_bind (pairs_S hu na da sa (wpAny_pure ⟨_, rfl, ?_, ?_⟩))))))
  · exact fun x => nomatch x
  · simpa using q
end
section
variable {X : Cx}
def rEqS (P : Program) (w : World) (K : PySem.W.Frag) (H : Hp) (x y : V) (Q : Prop) : Prop := ∃ (a : Addr) (kvs : List (List Key × V)), x = .ref a ∧ y = .ref a ∧ DX P w K H a kvs ∧ (∀ p ∈ kvs, p.2 = .non ∨ ∃ i, p.2 = .int i) ∧ Q
theorem ktx_flat {K : PySem.W.Frag} {H : Hp} : ∀ {kvs : List (List Key × V)} {xs : List HX}, KTx K H kvs xs → (∀ p ∈ kvs, p.2 = .non ∨ ∃ i, p.2 = .int i) → FlatD xs
  | _, _, .nil, _ => fun x hx => nomatch hx
  | p :: kvs, q :: xs, .cons a r, h => fun x hx => by
    rcases List.mem_cons.mp hx with rfl | hx
    · have rv := a.2.2
      rcases h p List.mem_cons_self with e | ⟨i, e⟩
      · rw [e] at rv
        exact .inl rv
      · rw [e] at rv
        obtain ⟨t, et⟩ := rv
        exact .inr ⟨i, t, et⟩
    · exact ktx_flat r (fun p hp => h p (List.mem_cons_of_mem _ hp)) x hx
theorem op_eqS (hu : X.A.units + 1 < cLine) : OpR X (compareOp .Eq) (fun x y H Q => rEqS X.prog X.w X.K H x y (Q (.bl true) H)) := by
  intro pins s σ H x y v u Q I rx ry h
  obtain ⟨a, kvs, rfl, rfl, ha, fl, q⟩ := h
  obtain rfl : v = Value.ref a := rx
  obtain rfl : u = Value.ref a := ry
  obtain ⟨_, xs, _, ra, _, _, da⟩ := dx_of I ha
  exact eq_S hu ha.nm da (ktx_flat ra fl) ⟨.bl _, H, I, rfl, q⟩
end
end DTx


set_option Elab.async false
set_option linter.all false
set_option maxRecDepth 100000
set_option maxHeartbeats 4000000
/-! dicts whose keys are (a tuple of texts, an int): held to the object -/
namespace DYx
open PySem PySem.Spec PyProof.Rows L2 STX DCt DEq DTx
abbrev NKey := List Str × Int
abbrev HY := NestedKey × Addr × Value
def nkOf (k : NKey) : NestedKey := .tup [.tup (k.1.map .text), .num k.2]
theorem texts_inj : ∀ {a b : List Str}, a.map NestedKey.text = b.map NestedKey.text → a = b
  | [], [], _ => rfl
  | [], _ :: _, h => by cases h
  | _ :: _, [], h => by cases h
  | x :: a, y :: b, h => by
    rw [List.map_cons, List.map_cons] at h
    injection h with h1 h2
    injection h1 with h1
    rw [h1, texts_inj h2]
theorem nkOf_inj {a b : NKey} (h : nkOf a = nkOf b) : a = b := by
  unfold nkOf at h
  injection h with h
  injection h with h1 h2
  injection h1 with h1
  injection h2 with h2 _
  injection h2 with h2
  obtain ⟨a1, a2⟩ := a
  obtain ⟨b1, b2⟩ := b
  dsimp only at h1 h2
  rw [texts_inj h1, h2]
theorem depth_texts : ∀ c : List Str, NestedKey.depthAll (c.map .text) = 0
  | [] => rfl
  | x :: c => by
    show max (NestedKey.depth (.text x)) (NestedKey.depthAll (c.map .text)) = 0
    rw [depth_texts c]
    rfl
theorem depth_nk (k : NKey) : (nkOf k).depth ≤ 8 := by
  show max (NestedKey.depthAll (k.1.map .text) + 1) (max 0 0) + 1 ≤ 8
  rw [depth_texts]
  decide
/-- the tuple at b is the key -/
def StK (K : PySem.W.Frag) (H : Hp) (b : Addr) (k : NKey) : Prop := ∃ t, SqT K H b [.ref t, .int k.2] ∧ SqT K H t (k.1.map V.str)
theorem StK.keeps {K : PySem.W.Frag} {H H' : Hp} {b : Addr} {k : NKey} (h : StK K H b k) (ht : ∀ b ys, SqT K H b ys → SqT K H' b ys) : StK K H' b k := by
  obtain ⟨t, h1, h2⟩ := h
  exact ⟨t, ht _ _ h1, ht _ _ h2⟩
theorem texts_are {h : Heap} : ∀ {c : List Str} {its : List Value}, Vals (c.map V.str) its → NestedAll h (c.map .text) its
  | [], _, r => by cases r; exact .nil
  | x :: c, _, r => by
    cases r with
    | cons r1 r2 =>
      obtain ⟨t, rfl⟩ := r1
      exact .cons (.text x t) (texts_are r2)
theorem roomY {P : Program} {w : World} {A : Around} (hu : A.units + 64 < cLine) : (nestedKind P w).room A := by
  show A.units + 8 < cLine
  omega
theorem roomY1 {P : Program} {w : World} {A : Around} (hu : A.units + 64 < cLine) : (nestedKind P w).room A.in1 := by
  show A.in1.units + 8 < cLine
  rw [Around.in1_units]
  omega
theorem key_ofY {X : Cx} {pins : List (Addr × Obj)} {σ : L2.St} {H : Hp} {s : Shared} {b : Addr} {k : NKey} (I : Inv X pins σ H s) (h : StK X.K H b k) : (nestedKind X.prog X.w).is s.heap (nkOf k) b := by
  obtain ⟨t, h1, h2⟩ := h
  obtain ⟨its, r, p, _⟩ := I.tuple h1
  obtain ⟨o, g1, g2, n, g3⟩ := p
  obtain ⟨its2, r2, p2, _⟩ := I.tuple h2
  obtain ⟨o2, e1, e2, n2, e3⟩ := p2
  refine ⟨?_, depth_nk k⟩
  cases r with
  | cons a1 a2 =>
    cases a2 with
    | cons b1 b2 =>
      cases b2
      cases a1
      obtain ⟨tk, rfl⟩ := b1
      exact .tup g1 g2 g3 (by simpa using NestedAll.cons (NestedIs.tup e1 e2 e3 (by simpa using texts_are r2)) (.cons (.int k.2 tk) .nil))
/-- what lies in the dict -/
def DHasY (P : Program) (w : World) (o : Obj) (xs : List HY) : Prop := ∃ es ep, o.ExactDict ∧ o.data = .dict es ep ∧ es.toList = xs.map (entryOfKey (nestedKind P w))
theorem dy_new {P : Program} {w : World} : DHasY P w newD [] := by
  obtain ⟨es, ep, h1, h2, h3⟩ := (dx_new : DHas P w newD [])
  exact ⟨es, ep, h1, h2, h3⟩
abbrev KTy (K : PySem.W.Frag) (H : Hp) : List (NKey × V) → List HY → Prop := Paired fun p q => q.1 = nkOf p.1 ∧ StK K H q.2.1 p.1 ∧ RelV p.2 q.2.2
/-- the dict at D holds kvs -/
structure DY (P : Program) (w : World) (K : PySem.W.Frag) (H : Hp) (D : Addr) (kvs : List (NKey × V)) : Prop where
  ex : ∃ o xs, H D = some (DxO D o) ∧ DHasY P w o xs ∧ KTy K H kvs xs ∧ (xs.map (·.1)).Nodup
  len : kvs.length ≤ sizeLine
  nm : (D == sysModules) = false
section
variable {P : Program} {w : World} {K : PySem.W.Frag} {H H' : Hp} {D : Addr} {kvs : List (NKey × V)} {xs : List HY}
theorem KTy.val (r : KTy K H kvs xs) (k : NKey) : RelO (valV kvs k) ((atKey xs (nkOf k)).map (·.2)) := by
  induction r with
  | nil => exact True.intro
  | @cons p q ps qs h t ih =>
    obtain ⟨h1, _, h2⟩ := h
    by_cases e : p.1 = k
    · have e' : q.1 = nkOf k := h1.trans (by rw [e])
      have b : atKey (q :: qs) (nkOf k) = some q.2 := by simp [atKey, List.find?_cons, e']
      rw [valV_pos e, b]; exact h2
    · have e' : ¬ q.1 = nkOf k := fun z => e (nkOf_inj (h1.symm.trans z))
      have b : atKey (q :: qs) (nkOf k) = atKey qs (nkOf k) := by simp [atKey, List.find?_cons, e']
      rw [valV_neg e, b]; exact ih
theorem KTy.repl (r : KTy K H kvs xs) (k : NKey) {y : V} {u : Value} (ry : RelV y u) : KTy K H (kvs.map fun kv => if kv.1 = k then (kv.1, y) else kv) (xs.map (putAt (nkOf k) u)) := by
  induction r with
  | nil => exact .nil
  | @cons p q ps qs h t ih =>
    rw [List.map_cons, List.map_cons]
    refine .cons ?_ ih
    obtain ⟨h1, h2, h3⟩ := h
    unfold putAt
    by_cases e : p.1 = k
    · rw [if_pos e, if_pos (h1.trans (by rw [e]))]; exact ⟨h1, h2, ry⟩
    · rw [if_neg e, if_neg (fun z => e (nkOf_inj (h1.symm.trans z)))]; exact ⟨h1, h2, h3⟩
theorem KTy.put (r : KTy K H kvs xs) (k : NKey) {b : Addr} {y : V} {u : Value} (hb : StK K H b k) (ry : RelV y u) : KTy K H (putK kvs k y) (storedH xs (nkOf k) b u) := by
  have e : (kvs.any fun kv => decide (kv.1 = k)) = (atKey xs (nkOf k)).isSome := by
    rw [valV_any, (r.val k).isSome_eq, Option.isSome_map]
  unfold putK storedH
  rw [e]
  by_cases q : (atKey xs (nkOf k)).isSome = true
  · rw [if_pos q, if_pos q]; exact r.repl k ry
  · rw [if_neg q, if_neg q]; exact Paired.snoc r ⟨rfl, hb, ry⟩
theorem KTy.keeps (r : KTy K H kvs xs) (ht : ∀ b ys, SqT K H b ys → SqT K H' b ys) : KTy K H' kvs xs := Paired.mapP r fun _ _ z => ⟨z.1, z.2.1.keeps ht, z.2.2⟩
theorem DY.same (d : DY P w K H D kvs) (s : Same H H') : DY P w K H' D kvs := by
  obtain ⟨⟨o, xs, h1, h0, h2, h3⟩, l, n⟩ := d
  refine ⟨⟨o, xs, s _ _ h1, h0, h2.keeps fun b ys z => ?_, h3⟩, l, n⟩
  rcases z with (z | ⟨o, z⟩) | z
  · exact .inl (.inl (s _ _ z))
  · exact .inl (.inr ⟨o, s _ _ z⟩)
  · exact .inr z
end
section
variable {X : Cx} {pins : List (Addr × Obj)} {σ : L2.St} {H : Hp} {s : Shared} {D b : Addr} {kvs : List (NKey × V)} {k : NKey} {v : V} {A : Around} {E : Value → Shared → Prop}
theorem dy_of (I : Inv X pins σ H s) (d : DY X.prog X.w X.K H D kvs) : ∃ o xs, H D = some (DxO D o) ∧ KTy X.K H kvs xs ∧ s.heap.get? D = some o ∧ DHasY X.prog X.w o xs ∧ s.heap.DictOfH (nestedKind X.prog X.w) D xs := by
  obtain ⟨⟨o, xs, h1, h0, h2, h3⟩, l, n⟩ := d
  obtain ⟨q1, _⟩ := (show ObjOk X.prog X.w H s.heap D (DxO D o) from I.hok D _ h1)
  obtain ⟨es, ep, q2, q3, q4⟩ := id h0
  refine ⟨o, xs, h1, h2, q1, h0, o, es, ep, q1, q2, q3, q4, fun x hx => ?_, h3⟩
  have all : ∀ {l : List (NKey × V)} {m : List HY}, KTy X.K H l m → ∀ x ∈ m, (nestedKind X.prog X.w).is s.heap x.1 x.2.1 := by
    intro l m q
    induction q with
    | nil => intro x hx; exact nomatch hx
    | @cons p q ps qs hq t ih =>
      intro x hx
      rcases List.mem_cons.mp hx with e | hx
      · subst e
        rw [hq.1]
        exact key_ofY I hq.2.1
      · exact ih x hx
  exact all h2 x hx
/-- what a put leaves -/
theorem dy_put {h' : Heap} {t' : Nat} {r : Value} {xs : List HY} {o : Obj} (I : Inv X pins σ H s) (hD : H D = some (DxO D o)) (rel : KTy X.K H kvs xs) (nm : (D == sysModules) = false) (hb : StK X.K H b k) (rv : RelV v r) (hz : kvs.length < sizeLine) (dd : h'.DictOfH (nestedKind X.prog X.w) D (storedH xs (nkOf k) b r)) (sb : Heap.SameBut D s.heap h') :
    ∃ H', Off D H H' ∧ DY X.prog X.w X.K H' D (putK kvs k v) ∧ Inv X pins σ H' { s with heap := h', toks := t' } := by
  obtain ⟨q, es, ep, hq, h2, h3, h4, _, h5⟩ := dd
  have of : Off D H (upd H D (DxO D q)) := fun c nc => upd_ne nc
  refine ⟨_, of, ⟨⟨q, _, upd_same, ⟨es, ep, h2, h3, h4⟩, (rel.put k hb rv).keeps fun c ys z => sqT_off of hD z, h5⟩, by have := length_putK kvs k v; omega, nm⟩, ?_⟩
  exact d_write I (by rw [hD]; trivial) sb ⟨q, hq⟩ (dxo_ok hq)
theorem put_Y {r : Value} {Q : Unit → Shared → Prop} (hu : X.A.units + 64 < cLine) (I : Inv X pins σ H s) (hD : DY X.prog X.w X.K H D kvs) (hb : StK X.K H b k) (hz : kvs.length < sizeLine)
    (rv : RelV v r) (go : ∀ H' s', Off D H H' → DY X.prog X.w X.K H' D (putK kvs k v) → Inv X pins σ H' s' → Q () s') : wpAny (model X.prog X.w) X.A (dictSet D (.ref b) r) Q E s := by
  obtain ⟨o, xs, h1, rel, _, _, dd⟩ := dy_of I hD
  refine wpAny_dictSet_heap (knd := nestedKind X.prog X.w) (hsz := by rw [← Paired.length rel]; exact hD.len) (roomY hu) (key_ofY I hb) dd fun h' dd' sb => ?_
  obtain ⟨H', of, dx, I'⟩ := dy_put (t' := s.toks + (nestedKind X.prog X.w).draws (nkOf k)) I h1 rel hD.nm hb rv hz dd' sb
  exact go H' _ of dx I'
theorem get_Y {Q : Value → Shared → Prop} (hu : A.units + 64 < cLine) (I : Inv X pins σ H s) (hD : DY X.prog X.w X.K H D kvs) (hb : StK X.K H b k) (l : valV kvs k = some v) (h : ∀ w' s', Inv X pins σ H s' → RelV v w' → Q w' s') :
    wpAny (model X.prog X.w) A (getItem (.ref D) (.ref b)) Q E s := by
  obtain ⟨o, xs, h1, rel, _, _, dd⟩ := dy_of I hD
  obtain ⟨w', hw, rw'⟩ := RelO.some_of (v := v) (o := (atKey xs (nkOf k)).map (·.2)) (by rw [← l]; exact rel.val k)
  obtain ⟨p, hp, hp2⟩ := Option.map_eq_some_iff.mp hw
  refine wpAny_getItem_heap (roomY1 hu) (key_ofY I hb) dd hp ?_
  rw [hp2]
  exact h w' _ (I.tok _) rw'
theorem set_Y {r : Value} {Q : Unit → Shared → Prop} (hu : A.units + 64 < cLine) (I : Inv X pins σ H s) (hD : DY X.prog X.w X.K H D kvs) (hb : StK X.K H b k) (hz : kvs.length < sizeLine) (rv : RelV v r) (go : ∀ H' s', Off D H H' → DY X.prog X.w X.K H' D (putK kvs k v) → Inv X pins σ H' s' → Q () s') :
    wpAny (model X.prog X.w) A (setItem (.ref D) (.ref b) r) Q E s := by
  obtain ⟨o, xs, h1, rel, _, _, dd⟩ := dy_of I hD
  refine wpAny_setItem_heap (hsz := by rw [← Paired.length rel]; exact hD.len) (roomY1 hu) (key_ofY I hb) dd fun h' dd' sb => ?_
  obtain ⟨H', of, dx, I'⟩ := dy_put (t' := s.toks + (nestedKind X.prog X.w).draws (nkOf k)) I h1 rel hD.nm hb rv hz dd' sb
  exact go H' _ of dx I'
end
/-- D[k] -/
def tDGetY (P : Program) (w : World) (K : PySem.W.Frag) (td ty : TE) : TE := fun σ H Q => td σ H fun x H1 => ty σ H1 fun y H2 => ∃ (D b : Addr) (kvs : List (NKey × V)) (k : NKey) (v : V), x = .ref D ∧ y = .ref b ∧ DY P w K H2 D kvs ∧ StK K H2 b k ∧ valV kvs k = some v ∧ Q v H2
/-- D[k] = v -/
def sDPutY (P : Program) (w : World) (K : PySem.W.Frag) (td ty tv : TE) : TS := fun R σ H => tv σ H fun v H1 => td σ H1 fun x H2 => ty σ H2 fun y H3 => ∃ (D b : Addr) (kvs : List (NKey × V)) (k : NKey), x = .ref D ∧ y = .ref b ∧ DY P w K H3 D kvs ∧ StK K H3 b k ∧ kvs.length < sizeLine ∧ ∀ H4, Off D H3 H4 → DY P w K H4 D (putK kvs k v) → R.nx σ H4
section
variable {X : Cx} {o i e value : Expr} {pos pos' tpos : Pos} {td ty tv : TE}
theorem pe_dgetY (hu : X.A.units + 64 < cLine) (ho : PE X o td) (hi : PE X i ty) (hs : NoSl i) : PE X (.Subscript o i pos) (tDGetY X.prog X.w X.K td ty) := by
  refine ⟨fun pins s σ H Q I h => ?_⟩
  refine subD_of PySem.F.slot_dict_getitem.lookup hs (thn (ho.run pins s σ H _ I h) fun u s1 ⟨x, H1, I1, rx, q1⟩ => thn (hi.run pins s1 σ H1 _ I1 q1) fun iv s2 ⟨y, H2, I2, ry, D, b, kvs, k, v, ex, ey, dx, sq, l, q2⟩ => ?_)
  subst ex ey
  obtain rfl : u = Value.ref D := rx
  obtain rfl : iv = Value.ref b := ry
  obtain ⟨_, xs, _, _, _, _, dd⟩ := dy_of I2 dx
  exact ⟨dd.typeIs, get_Y hu I2 dx sq l fun w' s3 I3 rw' => ⟨v, H2, I3, rw', q2⟩⟩
theorem ps_dputY (hu : X.A.units + 64 < cLine) (ho : PE X o td) (hi : PE X i ty) (hv : PE X value tv) (hs : swapsWith value (some (.Subscript o i pos')) pos.line X.env = pure false) :
    PS X (.Assign [.Subscript o i pos'] value pos) (sDPutY X.prog X.w X.K td ty tv) := by
  refine ⟨fun pins s σ H R I h => ?_⟩
  refine wpAny_Assign_Subscript (thn (hv.run pins s σ H _ I h) fun r s1 ⟨v, H1, I1, rv, q1⟩ => thn (ho.run pins s1 σ H1 _ I1 q1) fun u s2 ⟨x, H2, I2, rx, q2⟩ => thn (hi.run pins s2 σ H2 _ I2 q2) fun iv s3 ⟨y, H3, I3, ry, D, b, kvs, k, ex, ey, dx, sq, hz, q3⟩ => ?_) hs
  subst ex ey
  obtain rfl : u = Value.ref D := rx
  obtain rfl : iv = Value.ref b := ry
  exact set_Y hu I3 dx sq hz rv fun H4 s4 of dx4 I4 => ⟨σ, H4, I4, q3 H4 of dx4⟩
end
/-- the keys of the dict o at D: xs what lies in it -/
def Ity (D : Addr) (o : Obj) (xs : List HY) : It :=
  ⟨fun i H => H D = some (DxO D o) ∧ i < xs.length, fun i H x H' => H' = H ∧ ∃ p, xs[i]? = some p ∧ x = .ref p.2.1, fun i H => H D = some (DxO D o) ∧ xs.length ≤ i⟩
section
variable {P : Program} {w : World} {K : PySem.W.Frag} {tg : Expr} {D : Addr} {o : Obj} {es : Array DictEntry} {ep : Nat} {xs : List HY}
theorem turn_keysY (it : Addr) (hod : o.data = .dict es ep) (hx : o.ExactDict) (he : es.toList = xs.map (entryOfKey (nestedKind P w))) (hs : (D == sysModules) = false) : Turn P w K tg (Ity D o xs) [it] it (fun i h => h.IsKeyIter it D i xs.length ep) where
  mem := by simp
  obj := fun i h st b hb => by
    have e : b = it := by simpa using hb
    subst e
    obtain ⟨oi, e, c, dd⟩ := st
    exact ⟨oi, e, fun v z => by rw [dd] at z; cases z⟩
  keep := fun i h h' st k => st.at fun oi e => k it (by simp) oi e
  item := by
    intro X hP hw hK hc i pins s σ H E I hf st hg
    subst hP hw hK
    obtain ⟨hd, hi⟩ := hg
    obtain ⟨f0, f1, f2, f3, f4, f5⟩ := hf it (by simp)
    have hgd : s.heap.get? D = some o := (show ObjOk X.prog X.w H s.heap D (DxO D o) from I.hok D _ hd).1
    have hsz : es.size = xs.length := size_of_entries he
    obtain ⟨p, hp⟩ : ∃ p, xs[i]? = some p := ⟨xs[i], List.getElem?_eq_getElem hi⟩
    have hen := entry_at he i
    rw [hp] at hen
    refine next_key_item st hgd hod hsz hen fun h' st' sb => ?_
    have I1 : Inv X pins σ H { s with heap := h' } := I.turned (t' := s.toks) (fun b ob hb e => (sb.2 b hb).trans e) f0 f1 f3 f4 f5
    obtain ⟨oi, e, c, dd⟩ := id st'
    exact ⟨_, rfl, go_of (s := { s with heap := h' }) e c dd (by decide) ⟨.ref p.2.1, H, I1, rfl, ⟨rfl, p, hp, rfl⟩, st', fun b hb => (hf b hb).1⟩⟩
  done := by
    intro X hP hw hK hc i pins s σ H E I hf st hg
    subst hP hw hK
    obtain ⟨hd, hi⟩ := hg
    obtain ⟨f0, f1, f2, f3, f4, f5⟩ := hf it (by simp)
    have hgd : s.heap.get? D = some o := (show ObjOk X.prog X.w H s.heap D (DxO D o) from I.hok D _ hd).1
    have hsz : es.size = xs.length := size_of_entries he
    exact next_key_end (I.ok.hd hc) st hgd hod hsz hi fun h' eb => ⟨rfl, I.turned (t' := s.toks) (fun b ob hb e => eb b ob hb e) f0 f1 f3 f4 f5⟩
  self := fun A i s Q E st h => wpAny_pyIter_keyiter st h
end
/-- its reading -/
def iKeysY (P : Program) (w : World) (K : PySem.W.Frag) (td : TE) : TI := fun σ H R => td σ H fun x H1 => ∃ (D : Addr) (kvs : List (NKey × V)), x = .ref D ∧ DY P w K H1 D kvs ∧ ∀ (o : Obj) (xs : List HY), H1 D = some (DxO D o) → KTy K H1 kvs xs → R (Ity D o xs) H1
section
variable {X : Cx} {e tg : Expr} {td : TE}
theorem pi_keysY (he : PE X e td) : PI X tg e (iKeysY X.prog X.w X.K td) := by
  refine ⟨fun pins s σ H R I h => ?_⟩
  refine thn (he.run pins s σ H _ I h) fun u s1 ⟨x, H1, I1, rx, D, kvs, ex, dx, q⟩ => ?_
  subst ex
  obtain rfl : u = Value.ref D := rx
  obtain ⟨o, xs, h1, rel, hgd, ⟨es, ep, hx, hdt, hes⟩, _⟩ := dy_of I1 dx
  have hsz : es.size = xs.length := size_of_entries hes
  refine iter_keys dx.nm hgd hx hdt (pi_one (tk := s1.toks) I1 _ (turn_keysY _ hdt hx hes dx.nm) ⟨_, Heap.get?_push_size _ rfl, rfl, ?_⟩ (q o xs h1 rel))
  rw [hsz] <;> rfl
end
/-- a walk over the keys -/
theorem walk_keysY {D : Addr} {o : Obj} {xs : List HY} : Walk (Ity D o xs) xs.length (fun H => H D = some (DxO D o)) (fun i H x H' => H' = H ∧ ∃ p, xs[i]? = some p ∧ x = .ref p.2.1) where
  goes := fun i H lt g => ⟨g, lt⟩
  yields := fun i H x H' _ _ y => y
  stops := fun H g => ⟨g, Nat.le_refl _⟩
/-- the keys as tuples -/
theorem kty_key {K : PySem.W.Frag} {H : Hp} {kvs : List (NKey × V)} {xs : List HY} (r : KTy K H kvs xs) {i : Nat} {p : HY} (h : xs[i]? = some p) : ∃ k v, kvs[i]? = some (k, v) ∧ StK K H p.2.1 k := by
  induction r generalizing i with
  | nil => simp at h
  | @cons a b as bs ab _ ih =>
    cases i with
    | zero =>
      simp only [List.getElem?_cons_zero, Option.some.injEq] at h
      subst h
      obtain ⟨e, s, _⟩ := ab
      exact ⟨a.1, a.2, rfl, s⟩
    | succ j =>
      simp only [List.getElem?_cons_succ] at h ⊢
      exact ih h
section
variable {X : Cx} {pos : Pos}
def tDNewY (P : Program) (w : World) (K : PySem.W.Frag) : TE := fun _ H Q => ∀ D H', H D = none → Same H H' → DY P w K H' D [] → Q (.ref D) H'
theorem pe_dnewY : PE X (.Dict [] [] pos) (tDNewY X.prog X.w X.K) := ⟨fun pins s σ H Q I h => by
  have nD : H s.heap.objs.size = none := I.hok.fresh (Nat.le_refl _)
  refine wpAny_Dict_empty ⟨.ref s.heap.objs.size, upd H s.heap.objs.size (DxO s.heap.objs.size newD), I.laid (a := s.heap.objs.size) (o := DxO s.heap.objs.size newD) (t' := s.toks) (fun _ _ q => Heap.get?_push_of_some _ q) (Nat.le_refl _) (dx_empty s.heap), rfl, ?_⟩
  exact h _ _ nD (fun c o z => by rw [upd_ne (ne_of_none z nD)]; exact z) ⟨⟨newD, [], upd_same, dy_new, .nil, List.nodup_nil⟩, Nat.zero_le _, beq_eq_false_iff_ne.mpr (Ne.symm (Nat.ne_of_lt I.big))⟩⟩
end
end DYx


set_option Elab.async false
set_option linter.all false
set_option maxRecDepth 100000
set_option maxHeartbeats 4000000
/-! dicts with tuple keys that are held to the object: methods by a rule (get, setdefault), {k: v} -/
namespace DTx
open PySem PySem.Spec PyProof.Rows L2 STX DCt DEq
def tBX (P : Program) (w : World) (K : PySem.W.Frag) (r : V → List V → Hp → VK → Prop) (td : TE) (t : TA) : TE := fun σ H Q => td σ H fun x H1 => ∃ (D : Addr) (kvs : List (List Key × V)), x = .ref D ∧ DX P w K H1 D kvs ∧ t σ H1 fun vs H2 => r x vs H2 Q
section
variable {X : Cx} {o e : Expr} {es : List Expr} {name : Str} {id : String} {apos cpos : Pos} {td : TE} {t : TA} {r : V → List V → Hp → VK → Prop}
theorem pe_bmX (slot : Slot "dict" name id) (hty : typeOf (.builtin id) = pure (.type "method_descriptor")) (hm : MtR X id r) (ho : PE X o td) (ha : PA X (e :: es) t)
    (hbase : attributeBase o name X.env (eval o X.env) = eval o X.env := by rfl)
    (hfew : ((backTo cpos (starEach (e :: es) X.env)).all (fun x => !x.1) && (backToKw cpos (keywordEach [] X.env)).all (fun x => x.1.isSome)
      && decide ((e :: es).length + ([] : List Keyword).length + (if ([] : List Keyword).isEmpty then 0 else 1) < 30)) = true := by rfl)
    (hline : (apos.endLine == cpos.line) = true := by rfl) (hs : starEach (e :: es) X.env = (false, eval e X.env) :: starEach es X.env := by rfl) (hplain : (backTo cpos (starEach es X.env)).any (·.1) = false := by rfl) :
    PE X (.Call (.Attribute o name apos) (e :: es) [] cpos) (tBX X.prog X.w X.K r td t) := by
  refine ⟨fun pins s σ H Q I h => ?_⟩
  refine wpAny_Call_method_late hbase hfew hline rfl (thn (ho.run pins s σ H _ I h) fun v s1 ⟨x, H1, I1, r1, D, kvs, ex, dx, q1⟩ => ?_)
  subst ex
  obtain rfl : v = Value.ref D := r1
  obtain ⟨ob, xs, hD, rel, hgd, ⟨es', ep, hx, hdt, hes⟩, dd⟩ := dx_of I1 dx
  refine ⟨"dict", id, PySem.F.plainAttrs_dict, slot, hty, dd.typeIs, (fun b q => by
    cases q
    exact ⟨ob, hgd, hx.2.1⟩), ?_⟩
  have hA := ha.run cpos pins s1 σ H1 _ I1 q1
  rw [hs] at hA ⊢
  refine Calls.callWith_builtin (by show (false || (backTo cpos (starEach es X.env)).any (·.1)) = false; rw [hplain] <;> rfl) (Calls.evalArgs_plain ?_)
  exact thn hA fun us s2 ⟨vs, H2, I2, r2, q2⟩ => hm pins s2 σ H2 (.ref D) vs (.ref D) us Q I2 rfl r2 q2
/-- d.get(k) -/
def rGetX (P : Program) (w : World) (K : PySem.W.Frag) : V → List V → Hp → VK → Prop := fun x vs H Q => ∃ (D b : Addr) (kvs : List (List Key × V)) (k : List Key), x = .ref D ∧ vs = [.ref b] ∧ DX P w K H D kvs ∧ SqT K H b (k.map kV) ∧ Q ((valV kvs k).getD .non) H
theorem mt_getX (hu : X.A.units + 1 < cLine) : MtR X "dict.get" (rGetX X.prog X.w X.K) := by
  intro pins s σ H x vs v us Q I rx rv h
  obtain ⟨D, b, kvs, k, rfl, rfl, dx, sq, q⟩ := h
  obtain rfl : v = Value.ref D := rx
  obtain ⟨u, rfl, ru⟩ := vals1 rv
  obtain rfl : u = Value.ref b := ru
  obtain ⟨ob, xs, hD, rel, hgd, _, dd⟩ := dx_of I dx
  refine call_meetsIn PySem.F.slot_dict_get dd.typeIs PySem.F.entry_dict_get (PySem.F.args_dict_get_2 _ _) (meetsH_dict_get (tupleKind (mixKind X.prog X.w)) D b dx.nm) ⟨tupleKind_room_in1 hu, k, xs, key_ofS I sq, dd, ?_⟩
  exact ⟨_, _, I.tok _, (rel.val k).getD (d := .non) (d' := .none) rfl, q⟩
/-- d.setdefault(k, x) -/
def rSetdX (P : Program) (w : World) (K : PySem.W.Frag) : V → List V → Hp → VK → Prop := fun x vs H Q => ∃ (D b : Addr) (kvs : List (List Key × V)) (k : List Key) (y : V), x = .ref D ∧ vs = [.ref b, y] ∧ DX P w K H D kvs ∧ SqT K H b (k.map kV) ∧ kvs.length < sizeLine ∧
  (∀ v, valV kvs k = some v → Q v H) ∧ (valV kvs k = none → ∀ H', Off D H H' → DX P w K H' D (putK kvs k y) → Q y H')
theorem mt_setdX (hu : X.A.units + 1 < cLine) : MtR X "dict.setdefault" (rSetdX X.prog X.w X.K) := by
  intro pins s σ H x vs v us Q I rx rv h
  obtain ⟨D, b, kvs, k, y, rfl, rfl, dx, sq, hz, q1, q2⟩ := h
  obtain rfl : v = Value.ref D := rx
  obtain ⟨u, u2, rfl, ru, ru2⟩ := vals2 rv
  obtain rfl : u = Value.ref b := ru
  obtain ⟨ob, xs, hD, rel, hgd, _, dd⟩ := dx_of I dx
  refine call_setdefault_heap (hsz := by rw [← Paired.length rel]; exact dx.len) (tupleKind_room_in1 hu) (key_ofS I sq) dx.nm dd (fun p hp => ?_) (fun none h' dd' sb => ?_)
  · have rv := rel.val k
    rw [hp] at rv
    cases hv : valV kvs k with
    | none => rw [hv] at rv; exact rv.elim
    | some v0 =>
      rw [hv] at rv
      exact ⟨v0, H, I.tok _, rv, q1 v0 hv⟩
  · have rv := rel.val k
    rw [none] at rv
    have nv : valV kvs k = Option.none := by
      cases hv : valV kvs k with
      | none => rfl
      | some v0 => rw [hv] at rv; exact rv.elim
    obtain ⟨H', of, dx', I'⟩ := dx_put (t' := s.toks + (tupleKind (mixKind X.prog X.w)).draws k) I hD rel dx.nm sq ru2 hz dd' sb
    exact ⟨y, H', I', ru2, q2 nv H' of dx'⟩
end
/-- {k: v} -/
def tDisp1X (P : Program) (w : World) (K : PySem.W.Frag) (tk tv : TE) : TE := fun σ H Q => ∀ D H1, H D = none → Same H H1 → DX P w K H1 D [] → tk σ H1 fun y H2 => tv σ H2 fun x H3 => ∃ (b : Addr) (k : List Key), y = .ref b ∧ DX P w K H3 D [] ∧ SqT K H3 b (k.map kV) ∧ ∀ H4, Off D H3 H4 → DX P w K H4 D [(k, x)] → Q (.ref D) H4
section
variable {X : Cx} {ke ve : Expr} {pos : Pos} {tk tv : TE}
theorem pe_disp1X (hu : X.A.units < cLine) (hk : PE X ke tk) (hv : PE X ve tv) : PE X (.Dict [some ke] [ve] pos) (tDisp1X X.prog X.w X.K tk tv) := by
  refine ⟨fun pins s σ H Q I h => ?_⟩
  have nD : H s.heap.objs.size = none := I.hok.fresh (Nat.le_refl _)
  have I1 := I.laid (a := s.heap.objs.size) (o := DxO s.heap.objs.size newD) (t' := s.toks) (h' := s.heap.push newD) (fun _ _ q => Heap.get?_push_of_some _ q) (Nat.le_refl _) (dx_empty s.heap)
  have h1 := h _ _ nD (fun c o z => by rw [upd_ne (ne_of_none z nD)]; exact z) ⟨⟨newD, [], upd_same, dx_new, .nil, List.nodup_nil⟩, Nat.zero_le _, beq_eq_false_iff_ne.mpr (Ne.symm (Nat.ne_of_lt I.big))⟩
  have hz := zip_pairTrees [some ke] [ve] X.env pos rfl rfl
  rw [arm_eval_Dict, hz, dictDisplay_pairs (pairTrees [some ke] [ve] X.env pos) (by intro z; cases z) (by show 1 < 17; decide)]
  refine wpAny_bind (wpAny_standAt (wpAny_bind ?_))
  unfold subDict
  refine wpAny_bind (wpAny_alloc ?_)
  refine wpAny_bind (wpAny_holding ?_)
  rw [if_pos (by show 1 ≤ 15; decide)]
  generalize s.heap.objs.size = D at nD I1 h1 ⊢
  refine wpAny_bind (pairTrees_cons_walk (thn (hk.run pins _ σ _ _ I1 h1) fun kv s2 ⟨y, H2, I2, ry, q2⟩ => thn (hv.run pins s2 σ H2 _ I2 q2) fun vv s3 ⟨x, H3, I3, rx, b, k, ey, dx, sq, q3⟩ => pairTrees_nil_walk ?_))
  subst ey
  obtain rfl : kv = Value.ref b := ry
  refine wpAny_holding ?_
  rw [List.forIn_cons]
  refine wpAny_bind (wpAny_bind (wpAny_bind (put_X hu I3 dx sq (by decide) rx fun H4 s4 of dx4 I4 => wpAny_pure ?_)))
  dsimp only
  rw [List.forIn_nil]
  exact wpAny_pure (wpAny_pure (wpAny_pure (wpAny_pure ⟨.ref D, H4, I4, rfl, q3 H4 of dx4⟩)))
end
section
variable {X : Cx} {pos : Pos}
def tDNewX (P : Program) (w : World) (K : PySem.W.Frag) : TE := fun _ H Q => ∀ D H', H D = none → Same H H' → DX P w K H' D [] → Q (.ref D) H'
theorem pe_dnewX : PE X (.Dict [] [] pos) (tDNewX X.prog X.w X.K) := ⟨fun pins s σ H Q I h => by
  have nD : H s.heap.objs.size = none := I.hok.fresh (Nat.le_refl _)
  refine wpAny_Dict_empty ⟨.ref s.heap.objs.size, upd H s.heap.objs.size (DxO s.heap.objs.size newD), I.laid (a := s.heap.objs.size) (o := DxO s.heap.objs.size newD) (t' := s.toks) (fun _ _ q => Heap.get?_push_of_some _ q) (Nat.le_refl _) (dx_empty s.heap), rfl, ?_⟩
  exact h _ _ nD (fun c o z => by rw [upd_ne (ne_of_none z nD)]; exact z) ⟨⟨newD, [], upd_same, dx_new, .nil, List.nodup_nil⟩, Nat.zero_le _, beq_eq_false_iff_ne.mpr (Ne.symm (Nat.ne_of_lt I.big))⟩⟩
end
end DTx


set_option Elab.async false
set_option linter.all false
set_option maxRecDepth 100000
set_option maxHeartbeats 4000000
/-! k13: points and edges -/
namespace TG
open PySem L2 PG OW CT EXC DCt DEq DTx DYx
abbrev sInlet : Stmt := PG.top 31
abbrev sOutlet : Stmt := PG.top 32
abbrev sEdgeOf : Stmt := PG.top 33
abbrev sEdgesOf : Stmt := PG.top 34
abbrev sEdgesW : Stmt := PG.top 35
abbrev Pt := List Str
abbrev Ed := Pt × Pt
def inP (p : Str) : Pt := [("in" : Str), p]
def outP (p : Str) : Pt := [("out" : Str), p]
def outside : Pt := [("outside" : Str)]
/-- the edge of a counter -/
def edF (d : PD) (c : List Str) : Ed := match c with
  | [k, x] => if k = ("way" : Str) then (outP (lkp d.ls x).1, inP (lkp d.ls x).2) else if k = ("place" : Str) then (inP x, outP x) else (outP x, outside)
  | _ => (outside, inP d.b)
theorem edF_way (d : PD) (x : Str) : edF d [("way" : Str), x] = (outP (lkp d.ls x).1, inP (lkp d.ls x).2) := by
  show (if ("way" : Str) = ("way" : Str) then (outP (lkp d.ls x).1, inP (lkp d.ls x).2) else if ("way" : Str) = ("place" : Str) then (inP x, outP x) else (outP x, outside)) = _
  rw [if_pos rfl]
theorem edF_place (d : PD) (x : Str) : edF d [("place" : Str), x] = (inP x, outP x) := by
  show (if ("place" : Str) = ("way" : Str) then (outP (lkp d.ls x).1, inP (lkp d.ls x).2) else if ("place" : Str) = ("place" : Str) then (inP x, outP x) else (outP x, outside)) = _
  rw [if_neg (by decide +kernel), if_pos rfl]
theorem edF_stop (d : PD) (x : Str) : edF d [("stop" : Str), x] = (outP x, outside) := by
  show (if ("stop" : Str) = ("way" : Str) then (outP (lkp d.ls x).1, inP (lkp d.ls x).2) else if ("stop" : Str) = ("place" : Str) then (inP x, outP x) else (outP x, outside)) = _
  rw [if_neg (by decide +kernel), if_neg (by decide +kernel)]
theorem itT {b : Bool} {X Y : Prop} (h : b = true) (x : X) : if b = true then X else Y := by
  subst h
  exact x
theorem itF {b : Bool} {X Y : Prop} (h : b = false) (y : Y) : if b = true then X else Y := by
  subst h
  exact y
section
variable {P : Program} {w : World} {K : PySem.W.Frag} {mg : Str → Option Value} {base : Heap} {CP CC aR aO : Addr}
def EdgeAt (K : PySem.W.Frag) (H : Hp) (v : V) (e : Ed) : Prop := ∃ t a b, v = .ref t ∧ SqT K H t [.ref a, .ref b] ∧ SqT K H a (e.1.map V.str) ∧ SqT K H b (e.2.map V.str)
theorem EdgeAt.same {H H' : Hp} {v : V} {e : Ed} (h : EdgeAt K H v e) (s : Same H H') : EdgeAt K H' v e := by
  obtain ⟨t, a, b, ev, h1, h2, h3⟩ := h
  exact ⟨t, a, b, ev, sqT_same h1 s, sqT_same h2 s, sqT_same h3 s⟩
def OA (K : PySem.W.Frag) (aO : Addr) (H : Hp) : Prop := SqT K H aO (outside.map V.str)
theorem OA.same {H H' : Hp} (h : OA K aO H) (s : Same H H') : OA K aO H' := sqT_same h s
def spPoint (tag : Str) : Sp := fun vs H Q _ => ∃ p : Str, vs = [.str p] ∧ ∀ H' t, Same H H' → H' t = some (.tup [.str tag, .str p]) → Q (.ref t) H'
theorem scIn : FnScope ["place"] ["place"] (defScope sInlet) := ⟨rfl, rfl, rfl, by decide +kernel, rfl, by decide +kernel, by decide +kernel⟩
theorem scOut : FnScope ["place"] ["place"] (defScope sOutlet) := ⟨rfl, rfl, rfl, by decide +kernel, rfl, by decide +kernel, by decide +kernel⟩
theorem ok_inlet {f : Addr} {fd : FuncData} (Fn : Fun K "inlet_of" "inlet_of" sInlet f fd) : FnOk P w K mg base CX0 1 f fd ["place"] (spPoint "in") := by
  refine Fn.ok scIn (fun vs H Q E h => ?_) (fun cdv A outer s H vs Q E hr h => ?_)
  · obtain ⟨p, rfl, _⟩ := h
    rfl
  · obtain ⟨p, rfl, k⟩ := h
    refine ⟨_, pss_one (ps_ret (pe_tup (pa_cons pe_str (pa_cons (pv 0) pa_nil)))), ?_⟩
    exact ⟨_, rfl, by show 2 ≤ sizeLine; decide, fun t nt => k _ t (sm nt) upd_same⟩
theorem ok_outlet {f : Addr} {fd : FuncData} (Fn : Fun K "outlet_of" "outlet_of" sOutlet f fd) : FnOk P w K mg base CX0 1 f fd ["place"] (spPoint "out") := by
  refine Fn.ok scOut (fun vs H Q E h => ?_) (fun cdv A outer s H vs Q E hr h => ?_)
  · obtain ⟨p, rfl, _⟩ := h
    rfl
  · obtain ⟨p, rfl, k⟩ := h
    refine ⟨_, pss_one (ps_ret (pe_tup (pa_cons pe_str (pa_cons (pv 0) pa_nil)))), ?_⟩
    exact ⟨_, rfl, by show 2 ≤ sizeLine; decide, fun t nt => k _ t (sm nt) upd_same⟩
abbrev nsEO : List Str := ["program", "counter", "kind", "source", "goal"]
theorem scEO : FnScope nsEO ["program", "counter"] (defScope sEdgeOf) := ⟨rfl, rfl, rfl, by decide +kernel, rfl, by decide +kernel, by decide +kernel⟩
def spEO (K : PySem.W.Frag) (CP aO : Addr) : Sp := fun vs H Q _ => ∃ (y dy L S F tc : Addr) (d : PD) (c : List Str), vs = [.ref y, .ref tc] ∧ OA K aO H ∧ ProgAt K CP H y dy L S F d ∧ SqT K H tc (c.map V.str) ∧ c ∈ allC d ∧ ∀ H' v, Same H H' → EdgeAt K H' v (edF d c) → Q v H'
/-- a new pair of two points -/
theorem pair_at {H Ha Hb Hc : Hp} {ta tb t : Addr} {p q : Pt} (sb : Same Ha Hb) (nt : Hb t = none) (ha : SqT K Ha ta (p.map V.str)) (hb : SqT K Hb tb (q.map V.str)) (e : Hc = upd Hb t (.tup [.ref ta, .ref tb])) : EdgeAt K Hc (.ref t) (p, q) := by
  subst e
  have sc := sm (o := .tup [V.ref ta, V.ref tb]) nt
  exact ⟨t, ta, tb, rfl, SqT.of upd_same, sqT_same ha (sb.trans sc), sqT_same hb sc⟩
theorem ok_eo {f gG fI fO pB fB : Addr} {fd fdG fdI fdO fdB : FuncData} (Fn : Fun K "edge_of" "edge_of" sEdgeOf f fd) (Tc : PTc K mg CP) (gT : mg "OUTSIDE" = some (.ref aO))
    (aG : PySem.W.findIn K (.ref CP) "__getitem__" = some (some (.ref gG))) (iG : PySem.W.isFn K (.ref gG) = true) (nG : PySem.W.fnIn K gG = true) (bG : Binds K fdG ["self", "at"] []) (GG : FnOk P w K mg base CX0 2 gG fdG ["self", "at"] (spGet K CP))
    (oB : PropOf K CP "begin" pB fB) (bB : Binds K fdB ["self"] []) (GB : FnOk P w K mg base CX0 1 fB fdB ["self"] (spBegin K CP))
    (kI : PySem.W.keepIn K (.ref fI) = true) (bI : Binds K fdI ["place"] []) (gI : mg "inlet_of" = some (.ref fI)) (GI : FnOk P w K mg base CX0 1 fI fdI ["place"] (spPoint "in"))
    (kO : PySem.W.keepIn K (.ref fO) = true) (bO : Binds K fdO ["place"] []) (gO : mg "outlet_of" = some (.ref fO)) (GO : FnOk P w K mg base CX0 1 fO fdO ["place"] (spPoint "out")) : FnOk P w K mg base CX0 4 f fd ["program", "counter"] (spEO K CP aO) := by
  refine Fn.ok scEO (fun vs H Q E h => ?_) (fun cdv A outer s H vs Q E hr h => ?_)
  · obtain ⟨y, dy, L, S, F, tc, d, c, rfl, _⟩ := h
    rfl
  · obtain ⟨y, dy, L, S, F, tc, d, c, rfl, oa, pr, hc, mc, k⟩ := h
    have nd := scEO.nd
    have hr1 : Room 1 _ := hr.mono (by decide)
    have hr2 : Room 2 _ := hr.mono (by decide)
    refine ⟨_, pss_cons (ps_set (i := 2) nd rfl (Or.inl rfl) (pe_ix (show IxR _ (rIxT K) from ix_tup) (pv 1) pe_int (fun _ _ => rfl)))
      (pss_cons (ps_if (pt_cmpR op_eq (pv 2) pe_str (nomark _)) (pss_cons (ps_asg (pe_ownIx (C := CP) GG bG pass0 hr aG iG nG (pv 0) (pe_ix (show IxR _ (rIxT K) from ix_tup) (pv 1) pe_int (fun _ _ => rfl))) (pg_tup rfl (pgs_cons (pg_name (i := 3) nd rfl (Or.inl rfl)) (pgs_cons (pg_name (i := 4) nd rfl (Or.inl rfl)) pgs_nil)))) (pss_one (ps_ret (pe_tup (pa_cons (pe_call GO hr1 (by rfl) gO kO bO .nil pass0 (pa_cons (pv 3) pa_nil)) (pa_cons (pe_call GI hr1 (by rfl) gI kI bI .nil pass0 (pa_cons (pv 4) pa_nil)) pa_nil)))))) pss_nil)
      (pss_cons (ps_if (pt_cmpR op_eq (pv 2) pe_str (nomark _)) (pss_one (ps_ret (pe_tup (pa_cons (pe_call GI hr1 (by rfl) gI kI bI .nil pass0 (pa_cons (pe_ix (show IxR _ (rIxT K) from ix_tup) (pv 1) pe_int (fun _ _ => rfl)) pa_nil)) (pa_cons (pe_call GO hr1 (by rfl) gO kO bO .nil pass0 (pa_cons (pe_ix (show IxR _ (rIxT K) from ix_tup) (pv 1) pe_int (fun _ _ => rfl)) pa_nil)) pa_nil))))) pss_nil)
      (pss_cons (ps_if (pt_cmpR op_eq (pv 2) pe_str (nomark _)) (pss_one (ps_ret (pe_tup (pa_cons (pe_call GO hr1 (by rfl) gO kO bO .nil pass0 (pa_cons (pe_ix (show IxR _ (rIxT K) from ix_tup) (pv 1) pe_int (fun _ _ => rfl)) pa_nil)) (pa_cons (pe_glob (v := .ref aO) (by rfl) gT rfl) pa_nil))))) pss_nil)
      (pss_one (ps_ret (pe_tup (pa_cons (pe_glob (v := .ref aO) (by rfl) gT rfl) (pa_cons (pe_call GI hr1 (by rfl) gI kI bI .nil pass0 (pa_cons (pe_prop (pv 0) Tc.cl oB GB hr2 bB .nil pass0 rfl) pa_nil)) pa_nil)))))))), ?_⟩
    have kn : ∀ {a b : Str}, a ≠ b → decide (V.str a = V.str b) = false := fun ne => decide_eq_false fun z => ne (by injection z)
    rcases LC.mem_allC.mp mc with ⟨x, hx, rfl⟩ | ⟨x, hx, rfl⟩ | ⟨x, hx, rfl⟩ | rfl
    · refine ⟨_, rfl, tc, _, 0, _, rfl, rfl, hc, atI_nat (j := 0) rfl, ?_⟩
      refine ⟨_, rfl, rfl, _, rfl, itT (decide_eq_true rfl) ?_⟩
      refine ⟨_, rfl, _, rfl, tc, _, 1, .str x, rfl, rfl, hc, atI_nat (j := 1) rfl, y, dy, _, rfl, pr.ins, y, dy, L, S, F, d, x, rfl, pr, hx, fun t ht => ?_⟩
      refine ⟨t, _, rfl, ht, rfl, _, _, rfl, _, _, rfl, rfl, ?_⟩
      refine ⟨_, rfl, _, rfl, fun H1 ta s1 ha => ⟨_, rfl, _, rfl, fun H2 tb s2 hb => ⟨by show 2 ≤ sizeLine; decide, fun t3 nt3 => k _ _ (s1.trans (s2.trans (sm nt3))) ?_⟩⟩⟩
      rw [edF_way]
      exact pair_at (H := H) s2 nt3 (SqT.of ha) (SqT.of hb) rfl
    · refine ⟨_, rfl, tc, _, 0, _, rfl, rfl, hc, atI_nat (j := 0) rfl, ?_⟩
      refine ⟨_, rfl, rfl, _, rfl, itF (kn (by decide +kernel)) ⟨_, rfl, rfl, _, rfl, itT (decide_eq_true rfl) ?_⟩⟩
      refine ⟨_, rfl, tc, _, 1, .str x, rfl, rfl, hc, atI_nat (j := 1) rfl, _, rfl, fun H1 ta s1 ha => ⟨_, rfl, tc, _, 1, .str x, rfl, rfl, sqT_same hc s1, atI_nat (j := 1) rfl, _, rfl, fun H2 tb s2 hb => ⟨by show 2 ≤ sizeLine; decide, fun t3 nt3 => k _ _ (s1.trans (s2.trans (sm nt3))) ?_⟩⟩⟩
      rw [edF_place]
      exact pair_at (H := H) s2 nt3 (SqT.of ha) (SqT.of hb) rfl
    · refine ⟨_, rfl, tc, _, 0, _, rfl, rfl, hc, atI_nat (j := 0) rfl, ?_⟩
      refine ⟨_, rfl, rfl, _, rfl, itF (kn (by decide +kernel)) ⟨_, rfl, rfl, _, rfl, itF (kn (by decide +kernel)) ⟨_, rfl, rfl, _, rfl, itT (decide_eq_true rfl) ?_⟩⟩⟩
      refine ⟨_, rfl, tc, _, 1, .str x, rfl, rfl, hc, atI_nat (j := 1) rfl, _, rfl, fun H1 ta s1 ha => ⟨by show 2 ≤ sizeLine; decide, fun t3 nt3 => k _ _ (s1.trans (sm nt3)) ?_⟩⟩
      rw [edF_stop]
      exact pair_at (H := H) (Same.refl _) nt3 (SqT.of ha) (oa.same s1) rfl
    · refine ⟨_, rfl, tc, _, 0, _, rfl, rfl, hc, atI_nat (j := 0) rfl, ?_⟩
      refine ⟨_, rfl, rfl, _, rfl, itF (kn (by decide +kernel)) ⟨_, rfl, rfl, _, rfl, itF (kn (by decide +kernel)) ⟨_, rfl, rfl, _, rfl, itF (kn (by decide +kernel)) ?_⟩⟩⟩
      refine ⟨_, rfl, y, dy, _, rfl, pr.ins, y, dy, L, S, F, d, rfl, pr, _, rfl, fun H1 ta s1 ha => ⟨by show 2 ≤ sizeLine; decide, fun t3 nt3 => k _ _ (s1.trans (sm nt3)) ?_⟩⟩
      exact pair_at (H := H) s1 nt3 oa (SqT.of ha) rfl
end
end TG


set_option Elab.async false
set_option linter.all false
set_option maxRecDepth 100000
set_option maxHeartbeats 4000000
/-! keys of counters; dict comprehensions with tuple keys (as in LTb, LTc, of no row) -/
namespace TZ
open PySem L2 DCt DEq DTx
def kOf (c : List Str) : List Key := c.map Sum.inr
theorem kOf_v (c : List Str) : (kOf c).map kV = c.map V.str := by
  unfold kOf
  rw [List.map_map]
  rfl
theorem kOf_inj {c c' : List Str} (h : kOf c = kOf c') : c = c' := List.map_inj_right (fun a b e => Sum.inr.inj e) |>.mp h
theorem off_same {H Hd He : Hp} {D : Addr} (n : H D = none) (s : Same H Hd) (of : Off D Hd He) : Same H He := fun b o z => by
  rw [of b (ne_of_none z n)]
  exact s _ _ z
section
variable {P : Program} {w : World} {K : PySem.W.Frag}
/-- a dict comprehension with tuple keys, turn by turn -/
theorem dcX_it {J : It} {n : Nat} {G : Hp → Prop} {Y : Nat → Hp → V → Hp → Prop} (wk : Walk J n G Y) {g : TG} {tt : TT} {tk tv : TE} {vs : List Nat} {σ : L2.St} {H1 : Hp} {D : Addr} {Qd : Hp → Prop} (Pv : Nat → Hp → Prop) (h0 : ∀ H2, Off D H1 H2 → DX P w K H2 D [] → Pv 0 H2) (hG : ∀ i H, i ≤ n → Pv i H → G H)
    (hs : ∀ i x H H', i < n → Pv i H → Y i H x H' → g x (wipe σ vs) H' fun σ2 H2 => wipe σ2 vs = wipe σ vs ∧ tt σ2 H2 fun b H3 => if b = true then tk σ2 H3 fun y H4 => tv σ2 H4 fun z H5 => ∃ (kvs : List (List Key × V)) (k : List Key) (kb : Addr), y = .ref kb ∧ SqT K H5 kb (k.map kV) ∧ DX P w K H5 D kvs ∧ kvs.length < sizeLine ∧ ∀ H6, Off D H5 H6 → DX P w K H6 D (putK kvs k z) → Pv (i + 1) H6 else Pv (i + 1) H3)
    (hd : ∀ H, Pv n H → Qd H) :
    ∃ W : Nat → Nat → Hp → Prop, (∃ m, ∀ H2, Off D H1 H2 → DX P w K H2 D [] → W 0 m H2) ∧ ∀ i m H, W i m H →
      (J.stop i H ∧ Qd H) ∨ (J.go i H ∧ ∃ Nx : Hp → Prop, (∀ H', Nx H' → ∃ m', m' < m ∧ W (i + 1) m' H') ∧ ∀ x H', J.yld i H x H' → g x (wipe σ vs) H' fun σ2 H2 => wipe σ2 vs = wipe σ vs ∧ tt σ2 H2 fun b H3 =>
        if b = true then tk σ2 H3 fun y H4 => tv σ2 H4 fun z H5 => ∃ (kvs : List (List Key × V)) (k : List Key) (kb : Addr), y = .ref kb ∧ SqT K H5 kb (k.map kV) ∧ DX P w K H5 D kvs ∧ kvs.length < sizeLine ∧ ∀ H6, Off D H5 H6 → DX P w K H6 D (putK kvs k z) → Nx H6 else Nx H3) := by
  refine ⟨fun i m H => m = n - i ∧ i ≤ n ∧ Pv i H, ⟨n, fun H2 of dx => ⟨(Nat.sub_zero n).symm, Nat.zero_le _, h0 H2 of dx⟩⟩, ?_⟩
  rintro i m H ⟨rfl, hi, p⟩
  by_cases lt : i < n
  · exact .inr ⟨wk.goes i H lt (hG i H hi p), Pv (i + 1), fun H' p' => ⟨n - (i + 1), by omega, rfl, lt, p'⟩, fun x H' y => hs i x H H' lt p (wk.yields i H x H' lt (hG i H hi p) y)⟩
  · have e : i = n := by omega
    subst e
    exact .inl ⟨wk.stops H (hG i H hi p), hd H p⟩
end
end TZ


set_option Elab.async false
set_option linter.all false
set_option maxRecDepth 100000
set_option maxHeartbeats 4000000
/-! k13: edges_of, edges_without -/
namespace TG
open PySem L2 PG OW CT EXC DCt DEq DTx DYx TZ
abbrev ETab := List (List Str × Ed)
def keysE (es : ETab) : List (List Str) := es.map (·.1)
section
variable {P : Program} {w : World} {K : PySem.W.Frag} {mg : Str → Option Value} {base : Heap} {CP CC aR aO : Addr} {H H' : Hp} {D : Addr} {es : ETab}
theorem EdgeAt.keeps {v : V} {e : Ed} (h : EdgeAt K H v e) (ht : ∀ b ys, SqT K H b ys → SqT K H' b ys) : EdgeAt K H' v e := by
  obtain ⟨t, a, b, ev, h1, h2, h3⟩ := h
  exact ⟨t, a, b, ev, ht _ _ h1, ht _ _ h2, ht _ _ h3⟩
abbrev EdT (K : PySem.W.Frag) (H : Hp) : List (List Key × V) → ETab → Prop := Paired fun kv e => kv.1 = kOf e.1 ∧ EdgeAt K H kv.2 e.2
theorem EdT.keeps {kvs : List (List Key × V)} (h : EdT K H kvs es) (ht : ∀ b ys, SqT K H b ys → SqT K H' b ys) : EdT K H' kvs es := Paired.imp (fun _ _ z => ⟨z.1, z.2.keeps ht⟩) h
/-- a dict of edges -/
def ET (P : Program) (w : World) (K : PySem.W.Frag) (H : Hp) (D : Addr) (es : ETab) : Prop := ∃ kvs, DX P w K H D kvs ∧ EdT K H kvs es
theorem ET.same (h : ET P w K H D es) (s : Same H H') : ET P w K H' D es := by
  obtain ⟨kvs, d, p⟩ := h
  exact ⟨kvs, d.same s, p.keeps fun b ys z => sqT_same z s⟩
theorem edt_keys {kvs : List (List Key × V)} (h : EdT K H kvs es) : kvs.map (·.1) = (keysE es).map kOf := by
  induction h with
  | nil => rfl
  | @cons kv e kvs es a _ ih =>
    show kv.1 :: kvs.map (·.1) = kOf e.1 :: (keysE es).map kOf
    rw [a.1, ih]
theorem edt_len {kvs : List (List Key × V)} (h : EdT K H kvs es) : kvs.length = es.length := Paired.length h
theorem edt_no {kvs : List (List Key × V)} (h : EdT K H kvs es) {c : List Str} (n : c ∉ keysE es) : valV kvs (kOf c) = none := by
  induction h with
  | nil => rfl
  | @cons kv e kvs es a _ ih =>
    rw [valV_neg (by rw [a.1]; exact fun z => n (by rw [← kOf_inj z]; exact List.mem_cons_self))]
    exact ih fun m => n (List.mem_cons_of_mem _ m)
theorem edt_val {kvs : List (List Key × V)} (h : EdT K H kvs es) (nd : (keysE es).Nodup) {c : List Str} {e : Ed} (m : (c, e) ∈ es) : ∃ v, valV kvs (kOf c) = some v ∧ EdgeAt K H v e := by
  induction h with
  | nil => exact nomatch m
  | @cons kv x kvs es a _ ih =>
    have nd2 := List.nodup_cons.mp (show (x.1 :: keysE es).Nodup from nd)
    rcases List.mem_cons.mp m with z | m
    · subst z
      exact ⟨kv.2, valV_pos a.1, a.2⟩
    · have ne : ¬ kv.1 = kOf c := by
        rw [a.1]
        intro z
        exact nd2.1 (by rw [kOf_inj z]; exact List.mem_map.mpr ⟨_, m, rfl⟩)
      rw [valV_neg ne]
      exact ih nd2.2 m
def edgesL (d : PD) : ETab := (allC d).map fun c => (c, edF d c)
def freeL (d : PD) (cs : List (List Str)) : ETab := (edgesL d).filter fun e => !decide (e.1 ∈ cs)
theorem keys_map {cs : List (List Str)} {d : PD} : keysE (cs.map fun c => (c, edF d c)) = cs := by
  unfold keysE
  rw [List.map_map]
  exact List.map_id' _
/-- one edge more in a dict of edges that is being made -/
theorem et_snoc {Hb H6 : Hp} {D : Addr} {kvs : List (List Key × V)} {es : ETab} {c : List Str} {v : V} {e : Ed} (d : DX P w K Hb D kvs) (p : EdT K Hb kvs es) (n : c ∉ keysE es) (ev : EdgeAt K Hb v e) (of : Off D Hb H6) (dx : DX P w K H6 D (putK kvs (kOf c) v)) : ET P w K H6 D (es ++ [(c, e)]) := by
  obtain ⟨φ, eφ⟩ : ∃ φ, Hb D = some (.ext φ) := by
    obtain ⟨⟨o, xs, h1, _⟩, _⟩ := d
    exact ⟨_, h1⟩
  rw [putK_new _ (edt_no p n)] at dx
  exact ⟨_, dx, paired_snoc (p.keeps fun b ys z => sqT_off of eφ z) ⟨rfl, ev.keeps fun b ys z => sqT_off of eφ z⟩⟩
theorem scES : FnScope ["program", "counter"] ["program"] (defScope sEdgesOf) := ⟨rfl, rfl, rfl, by decide +kernel, rfl, by decide +kernel, by decide +kernel⟩
def spES (P : Program) (w : World) (K : PySem.W.Frag) (CP aR aO : Addr) : Sp := fun vs H Q _ => ∃ (y dy L S F : Addr) (d : PD), vs = [.ref y] ∧ RA K aR H ∧ OA K aO H ∧ ProgAt K CP H y dy L S F d ∧ PDg d ∧ ∀ H' D, Same H H' → H D = none → ET P w K H' D (edgesL d) → Q (.ref D) H'
theorem ok_es {f fA fO : Addr} {fd fdA fdO : FuncData} (Fn : Fun K "edges_of" "edges_of" sEdgesOf f fd) (kA : PySem.W.keepIn K (.ref fA) = true) (bA : Binds K fdA ["program"] []) (gA : mg "all_counters" = some (.ref fA)) (GA : FnOk P w K mg base CX0 2 fA fdA ["program"] (spAllC aR K CP))
    (kO : PySem.W.keepIn K (.ref fO) = true) (bO : Binds K fdO ["program", "counter"] []) (gO : mg "edge_of" = some (.ref fO)) (GO : FnOk P w K mg base CX0 4 fO fdO ["program", "counter"] (spEO K CP aO)) : FnOk P w K mg base CX0 5 f fd ["program"] (spES P w K CP aR aO) := by
  refine Fn.ok scES (fun vs H Q E h => ?_) (fun cdv A outer s H vs Q E hr h => ?_)
  · obtain ⟨y, dy, L, S, F, d, rfl, _⟩ := h
    rfl
  · obtain ⟨y, dy, L, S, F, d, rfl, ra, oa, pr, g, k⟩ := h
    have nd := scES.nd
    have hu := hu_of hr
    have hr2 : Room 2 _ := hr.mono (by decide)
    refine ⟨_, pss_one (ps_ret (pe_dcX (own := [("counter", 1)]) (g := gName 1) (tt := tYes) (tk := tVar 1) (tv := tCall (spEO K CP aO) [] E0 (tCons (tVar 0) (tCons (tVar 1) tNil))) (Nat.lt_of_succ_lt hu) rfl nd (pi_list (pe_call GA hr2 (by rfl) gA kA bA .nil pass0 (pa_cons (pv 0) pa_nil))) (blkOk_by (own := [("counter", 1)]) (N := ["program", "counter"]) (sc := defScope sEdgesOf) (by decide +kernel)) (fun _ _ _ _ _ => pg_name (i := 1) nd rfl (Or.inl rfl)) (fun _ _ _ _ _ => pts_nil) (fun _ _ _ _ _ => pv 1) (fun _ _ _ _ _ => pe_call GO hr (by rfl) gO kO bO .nil pass0 (pa_cons (pv 0) (pa_cons (pv 1) pa_nil))))), ?_⟩
    refine ⟨_, rfl, y, dy, L, S, F, d, rfl, ra, pr, g.sz, fun p H1 us np s1 hp hus => ?_⟩
    have lu : us.length = (allC d).length := Paired.length hus
    have few := g.few
    have le : (edgesL d).length = (allC d).length := List.length_map _
    refine ⟨p, rfl, ⟨_, SqL.of hp⟩, fun D nD => dcX_it (walk_list (xs := us)) (fun i H' => Same H1 H' ∧ ET P w K H' D ((edgesL d).take i)) (fun H6 of dx => ⟨off_same nD (Same.refl _) of, [], dx, .nil⟩) (fun i H' _ z => SqL.of (z.1 _ _ hp)) ?_ ?_⟩
    · rintro i v Ha Hb hi ⟨sa, hDa⟩ ⟨rfl, hv⟩
      obtain ⟨c, hc, tk, rfl, htk⟩ := paired_at hus hv
      have mc := List.mem_of_getElem? hc
      refine ⟨rfl, ?_⟩
      unfold tYes
      dsimp only
      rw [if_pos rfl]
      have sb := s1.trans sa
      refine ⟨_, rfl, _, rfl, _, rfl, y, dy, L, S, F, tk, d, c, rfl, oa.same sb, pr.same sb, sqT_same htk sa, mc, fun Hc v' sc ev => ?_⟩
      obtain ⟨kvs, dx0, pt⟩ := hDa.same sc
      refine ⟨kvs, kOf c, tk, rfl, by rw [kOf_v]; exact sqT_same htk (sa.trans sc), dx0, ?_, fun H6 of dx => ⟨off_same nD (sa.trans sc) of, ?_⟩⟩
      · rw [edt_len pt, sizeLine_eq]
        have := List.length_take_le' i (edgesL d)
        omega
      · have hz : (edgesL d)[i]? = some (c, edF d c) := by
          unfold edgesL
          rw [List.getElem?_map, hc]
          rfl
        rw [List.take_add_one, hz]
        refine et_snoc dx0 pt (fun m => ?_) ev of dx
        have ek : keysE ((edgesL d).take i) = (allC d).take i := by
          unfold keysE edgesL
          rw [← List.map_take, List.map_map]
          exact List.map_id' _
        rw [ek] at m
        obtain ⟨j, hj, ej⟩ := List.getElem_of_mem m
        rw [List.length_take] at hj
        rw [List.getElem_take] at ej
        have e2 : (allC d)[j]? = some c := by rw [List.getElem?_eq_getElem (by omega), ej]
        have z := (List.getElem?_inj (by omega) g.nd).mp (e2.trans hc.symm)
        omega
    · rintro H6 ⟨s6, h6⟩
      rw [lu, ← le, List.take_length] at h6
      exact k H6 D (s1.trans s6) (RX.fr_of s1 nD) h6
end
end TG


set_option Elab.async false
set_option linter.all false
set_option maxRecDepth 100000
set_option maxHeartbeats 4000000
/-! k13: edges_without -/
namespace TG
open PySem L2 PG OW CT EXC DCt DEq DTx DYx TZ
theorem keys_edges (d : PD) : keysE (edgesL d) = allC d := by
  unfold keysE edgesL
  rw [List.map_map]
  exact List.map_id' _
theorem take_no {es : ETab} (nd : (keysE es).Nodup) {i : Nat} {c : List Str} {e : Ed} (h : es[i]? = some (c, e)) (p : List Str × Ed → Bool) : c ∉ keysE ((es.take i).filter p) := fun m => by
  obtain ⟨x, hx, ex⟩ := List.mem_map.mp m
  have hx2 := (List.mem_filter.mp hx).1
  obtain ⟨j, hj, ej⟩ := List.getElem_of_mem hx2
  rw [List.length_take] at hj
  rw [List.getElem_take] at ej
  have e1 : (keysE es)[j]? = some c := by
    unfold keysE
    rw [List.getElem?_map, List.getElem?_eq_getElem (by omega), ej]
    exact congrArg some ex
  have e2 : (keysE es)[i]? = some c := by
    unfold keysE
    rw [List.getElem?_map, h]
    rfl
  have z := (List.getElem?_inj (by unfold keysE; rw [List.length_map]; omega) nd).mp (e1.trans e2.symm)
  omega
section
variable {P : Program} {w : World} {K : PySem.W.Frag} {mg : Str → Option Value} {base : Heap} {CP CC aR aO : Addr} {H H' : Hp} {D : Addr} {es : ETab}
/-- what a walk over the keys of a dict of edges meets -/
theorem edt_at {kvs : List (List Key × V)} {xs : List HX} (p : EdT K H kvs es) (kt : KTx K H kvs xs) {i : Nat} {q : HX} (h : xs[i]? = some q) : ∃ c e, es[i]? = some (c, e) ∧ SqT K H q.2.1 (c.map V.str) := by
  obtain ⟨v, hkv, sq⟩ := ktx_key kt h
  obtain ⟨e, he, e1, _⟩ := paired_at p hkv
  have e1' : q.1 = kOf e.1 := e1
  rw [e1', kOf_v] at sq
  exact ⟨e.1, e.2, he, sq⟩
abbrev nsEW : List Str := ["counters", "chosen", "edges", "counter"]
theorem scEW : FnScope nsEW ["counters"] (defScope sEdgesW) := ⟨rfl, rfl, rfl, by decide +kernel, rfl, by decide +kernel, by decide +kernel⟩
def spEW (P : Program) (w : World) (K : PySem.W.Frag) (CP CC aR aO : Addr) : Sp := fun vs H Q _ => ∃ (x dx y B : Addr) (d : PD) (cs : List (List Str)), vs = [.ref x] ∧ RA K aR H ∧ OA K aO H ∧ CtrAt K CP CC H x dx y B d cs ∧ PDg d ∧ CsIn d cs ∧ ∀ H' D, Same H H' → H D = none → ET P w K H' D (freeL d cs) → Q (.ref D) H'
theorem ok_ew {f fS gLi pP fP : Addr} {fd fdS fdLi fdP : FuncData} (Fn : Fun K "edges_without" "edges_without" sEdgesW f fd) (Tc : CTc K mg CC)
    (mLi : Meth K CC "listed" gLi) (bLi : Binds K fdLi ["self"] []) (GLi : FnOk P w K mg base CX0 1 gLi fdLi ["self"] (spListed K CP CC))
    (oP : PropOf K CC "program" pP fP) (bP : Binds K fdP ["self"] []) (GP : FnOk P w K mg base CX0 1 fP fdP ["self"] (spCProg K CP CC))
    (kS : PySem.W.keepIn K (.ref fS) = true) (bS : Binds K fdS ["program"] []) (gS : mg "edges_of" = some (.ref fS)) (GS : FnOk P w K mg base CX0 5 fS fdS ["program"] (spES P w K CP aR aO)) : FnOk P w K mg base CX0 6 f fd ["counters"] (spEW P w K CP CC aR aO) := by
  refine Fn.ok scEW (fun vs H Q E h => ?_) (fun cdv A outer s H vs Q E hr h => ?_)
  · obtain ⟨x, dx, y, B, d, cs, rfl, _⟩ := h
    rfl
  · obtain ⟨x, dx, y, B, d, cs, rfl, ra, oa, hc, g, ic, k⟩ := h
    have nd := scEW.nd
    have hu := hu_of hr
    have hun := Nat.lt_of_succ_lt (room66 hr)
    have hr1 : Room 1 _ := hr.mono (by decide)
    have hr2 : Room 2 _ := hr.mono (by decide)
    refine ⟨_, pss_cons (ps_set (i := 1) nd rfl (Or.inr rfl) (pe_meth0 (pv 0) Tc.cl mLi GLi hr1 bLi .nil pass0))
      (pss_cons (ps_set (i := 2) nd rfl (Or.inr rfl) (pe_call GS hr (by rfl) gS kS bS .nil pass0 (pa_cons (pe_prop (pv 0) Tc.cl oP GP hr2 bP .nil pass0 rfl) pa_nil)))
      (pss_one (ps_ret (pe_dcX (own := [("counter", 3)]) (g := gName 3) (tt := tTest (tOp (rInC K true) (tVar 3) (tVar 1))) (tk := tVar 3) (tv := tDGetX P w K (tVar 2) (tVar 3)) (Nat.lt_of_succ_lt hu) rfl nd (pi_keysX (pv 2)) (blkOk_by (own := [("counter", 3)]) (N := nsEW) (sc := defScope sEdgesW) (by decide +kernel)) (fun _ _ _ _ _ => pg_name (i := 3) nd rfl (Or.inl rfl)) (fun _ _ _ _ _ => pts_one (pt_cmpR (op_notInC hun) (pv 3) (pv 1) rfl)) (fun _ _ _ _ _ => pv 3) (fun _ _ _ _ _ => pe_dgetX hu (pv 2) (pv 3) (fun _ _ => rfl)))))), ?_⟩
    obtain ⟨dy, L, S, F, pr⟩ := hc.pr
    refine ⟨_, rfl, x, dx, _, rfl, hc.ins, rfl, x, dx, y, B, d, cs, rfl, hc, fun p H1 us np s1 _ hp hus => ?_⟩
    have hc1 := hc.same s1
    refine ⟨_, rfl, x, dx, _, rfl, hc1.ins, x, dx, y, B, d, cs, rfl, hc1, y, dy, L, S, F, d, rfl, ra.same s1, oa.same s1, pr.same s1, g, fun H2 DE s2 nDE hDE => ?_⟩
    have s02 := s1.trans s2
    have hp2 := s2 _ _ hp
    have hus2 : TupLs K H2 us cs := TupLs.same hus s2
    obtain ⟨kvs, dxE, ptE⟩ := hDE
    have nde : (keysE (edgesL d)).Nodup := by rw [keys_edges]; exact g.nd
    have le : (edgesL d).length = (allC d).length := List.length_map _
    have few := g.few
    refine ⟨_, rfl, DE, kvs, rfl, dxE, fun o xs hT kt => ?_⟩
    have lx : xs.length = (edgesL d).length := by rw [← Paired.length kt, edt_len ptE]
    intro D nD
    refine dcX_it (walk_keysX (xs := xs)) (fun i H' => Same H2 H' ∧ ET P w K H' D (((edgesL d).take i).filter fun e => !decide (e.1 ∈ cs))) (fun H6 of dx => ⟨off_same nD (Same.refl _) of, [], dx, .nil⟩) (fun i H' _ z => z.1 _ _ hT) ?_ ?_
    · rintro i v Ha Hb hi ⟨sa, hDa⟩ ⟨rfl, q, hq, rfl⟩
      obtain ⟨c, e, hce, sq⟩ := edt_at ptE kt hq
      have mce := List.mem_of_getElem? hce
      have mc : c ∈ allC d := by
        rw [← keys_edges]
        exact List.mem_map.mpr ⟨_, mce, rfl⟩
      have tk : ((edgesL d).take (i + 1)).filter (fun e => !decide (e.1 ∈ cs)) = ((edgesL d).take i).filter (fun e => !decide (e.1 ∈ cs)) ++ (if c ∈ cs then [] else [(c, e)]) := by
        rw [List.take_add_one, hce, List.filter_append]
        congr 1
        show List.filter _ [(c, e)] = _
        by_cases z : c ∈ cs
        · rw [if_pos z, List.filter_cons_of_neg (by show ¬ (!decide (c ∈ cs)) = true; rw [decide_eq_true z]; decide)]
          rfl
        · rw [if_neg z, List.filter_cons_of_pos (by show (!decide (c ∈ cs)) = true; rw [decide_eq_false z]; rfl)]
          rfl
      refine ⟨rfl, ?_⟩
      refine ⟨_, rfl, _, rfl, c, p, us, cs, ⟨_, rfl, sqT_same sq sa⟩, rfl, SqL.of (sa _ _ hp2), TupLs.same hus2 sa, g.cok c mc, ic.ok g, _, rfl, ?_⟩
      by_cases z : c ∈ cs
      · rw [if_pos z, List.append_nil] at tk
        refine itF (by show (!decide (c ∈ cs)) = false; rw [decide_eq_true z]; rfl) ⟨sa, ?_⟩
        rw [tk]
        exact hDa
      · rw [if_neg z] at tk
        refine itT (by show (!decide (c ∈ cs)) = true; rw [decide_eq_false z]; rfl) ?_
        obtain ⟨v, hv, ev⟩ := edt_val ptE nde mce
        obtain ⟨kva, dxa, pta⟩ := hDa
        refine ⟨_, rfl, _, rfl, _, rfl, DE, q.2.1, kvs, kOf c, v, rfl, rfl, dxE.same sa, by rw [kOf_v]; exact sqT_same sq sa, hv, kva, kOf c, q.2.1, rfl, by rw [kOf_v]; exact sqT_same sq sa, dxa, ?_, fun H6 of dx => ⟨off_same nD sa of, ?_⟩⟩
        · rw [edt_len pta, sizeLine_eq]
          have h1 := List.length_filter_le (fun e : List Str × Ed => !decide (e.1 ∈ cs)) ((edgesL d).take i)
          have h2 := List.length_take_le' i (edgesL d)
          omega
        · rw [tk]
          exact et_snoc dxa pta (take_no nde hce _) (ev.same sa) of dx
    · rintro H6 ⟨s6, h6⟩
      rw [lx, List.take_length] at h6
      exact k H6 D (s02.trans s6) (RX.fr_of s02 nD) h6
end
end TG


set_option Elab.async false
set_option linter.all false
set_option maxRecDepth 100000
set_option maxHeartbeats 4000000
/-! k13: names_at of steps -/
namespace TG
open PySem L2 PG OW CT EXC DCt DEq DTx DYx TZ
open LW (But But.refl But.trans But.of But.upd)
abbrev sNamesAt : Stmt := PG.top 17
abbrev STab := List (NKey × Ed)
section
variable {P : Program} {w : World} {K : PySem.W.Frag} {mg : Str → Option Value} {base : Heap} {H H' : Hp} {D : Addr} {S : STab}
abbrev StT (K : PySem.W.Frag) (H : Hp) : List (NKey × V) → STab → Prop := Paired fun kv s => kv.1 = s.1 ∧ EdgeAt K H kv.2 s.2
/-- a dict of steps -/
def ST (P : Program) (w : World) (K : PySem.W.Frag) (H : Hp) (D : Addr) (S : STab) : Prop := ∃ kvs, DY P w K H D kvs ∧ StT K H kvs S
theorem StT.keeps {kvs : List (NKey × V)} (h : StT K H kvs S) (ht : ∀ b ys, SqT K H b ys → SqT K H' b ys) : StT K H' kvs S := Paired.imp (fun _ _ z => ⟨z.1, z.2.keeps ht⟩) h
theorem ST.same (h : ST P w K H D S) (s : Same H H') : ST P w K H' D S := by
  obtain ⟨kvs, d, p⟩ := h
  exact ⟨kvs, d.same s, p.keeps fun b ys z => sqT_same z s⟩
theorem stt_val {kvs : List (NKey × V)} (h : StT K H kvs S) (nd : (S.map (·.1)).Nodup) {k : NKey} {e : Ed} (m : (k, e) ∈ S) : ∃ v, valV kvs k = some v ∧ EdgeAt K H v e := by
  induction h with
  | nil => exact nomatch m
  | @cons kv x kvs S a _ ih =>
    have nd2 := List.nodup_cons.mp (show (x.1 :: S.map (·.1)).Nodup from nd)
    rcases List.mem_cons.mp m with z | m
    · subst z
      exact ⟨kv.2, valV_pos a.1, a.2⟩
    · have ne : ¬ kv.1 = k := by
        rw [a.1]
        intro z
        exact nd2.1 (by rw [z]; exact List.mem_map.mpr ⟨_, m, rfl⟩)
      rw [valV_neg ne]
      exact ih nd2.2 m
/-- a step's name -/
def NmAt (K : PySem.W.Frag) (H : Hp) (u : V) (k : NKey) : Prop := ∃ b, u = .ref b ∧ StK K H b k
theorem NmAt.keeps {u : V} {k : NKey} (h : NmAt K H u k) (ht : ∀ b ys, SqT K H b ys → SqT K H' b ys) : NmAt K H' u k := by
  obtain ⟨b, e, h⟩ := h
  exact ⟨b, e, h.keeps ht⟩
theorem nms_keeps {us : List V} {ks : List NKey} (h : Paired (NmAt K H) us ks) (ht : ∀ b ys, SqT K H b ys → SqT K H' b ys) : Paired (NmAt K H') us ks := Paired.imp (fun _ _ z => NmAt.keeps z ht) h
def namesL (S : STab) (pt : Pt) : List NKey := (S.filter fun s => decide (s.2.1 = pt)).map (·.1)
/-- what is known of the dict of names by points -/
def LdAt (K : PySem.W.Frag) (H : Hp) (kvs : List (List Key × V)) (S : STab) : Prop := ∀ pt : Pt, (valV kvs (kOf pt) = none ∧ namesL S pt = []) ∨ ∃ l us, valV kvs (kOf pt) = some (.ref l) ∧ H l = some (.lst us) ∧ Paired (NmAt K H) us (namesL S pt)
theorem sqT_lst {l : Addr} {xs : List V} {o : HO} {b : Addr} {ys : List V} (hl : H l = some (.lst xs)) (h : SqT K H b ys) : SqT K (upd H l o) b ys := sqT_at h (.inr ⟨_, hl, (by intro l z; cases z), by intro od l z; cases z⟩)
theorem dx_lst {l : Addr} {xs : List V} {o : HO} {kvs : List (List Key × V)} (hl : H l = some (.lst xs)) (d : DX P w K H D kvs) : DX P w K (upd H l o) D kvs := by
  obtain ⟨⟨q, ys, h1, h0, h2, h3⟩, n, m⟩ := d
  exact ⟨⟨q, ys, by rw [upd_ne (ne_of h1 hl (by intro z; cases z))]; exact h1, h0, h2.keeps fun b zs z => sqT_lst hl z, h3⟩, n, m⟩
theorem dx_extK {kvs : List (List Key × V)} (d : DX P w K H D kvs) : ∃ φ, H D = some (.ext φ) := by
  obtain ⟨⟨o, xs, h1, _⟩, _⟩ := d
  exact ⟨_, h1⟩
theorem names_snoc (S : STab) (k : NKey) (e : Ed) (pt : Pt) : namesL (S ++ [(k, e)]) pt = namesL S pt ++ (if e.1 = pt then [k] else []) := by
  unfold namesL
  rw [List.filter_append, List.map_append]
  congr 1
  by_cases z : e.1 = pt
  · rw [if_pos z, List.filter_cons_of_pos (by exact decide_eq_true z)]
    rfl
  · rw [if_neg z, List.filter_cons_of_neg (by show ¬ decide (e.1 = pt) = true; rw [decide_eq_false z]; decide)]
    rfl
abbrev nsNA : List Str := ["links", "leading", "name"]
theorem scNA : FnScope nsNA ["links"] (defScope sNamesAt) := ⟨rfl, rfl, rfl, by decide +kernel, rfl, by decide +kernel, by decide +kernel⟩
def spNA (P : Program) (w : World) (K : PySem.W.Frag) : Sp := fun vs H Q _ => ∃ (D : Addr) (S : STab), vs = [.ref D] ∧ ST P w K H D S ∧ (S.map (·.1)).Nodup ∧ S.length ≤ 1000 ∧ ∀ H' L kvs, Same H H' → H L = none → DX P w K H' L kvs → LdAt K H' kvs S → Q (.ref L) H'
theorem ok_na {f : Addr} {fd : FuncData} (Fn : Fun K "names_at" "names_at" sNamesAt f fd) : FnOk P w K mg base CX0 1 f fd ["links"] (spNA P w K) := by
  refine Fn.ok scNA (fun vs H Q E h => ?_) (fun cdv A outer s H vs Q E hr h => ?_)
  · obtain ⟨D, S, rfl, _⟩ := h
    rfl
  · obtain ⟨D, S, rfl, ⟨kvS, dyS, ptS⟩, ndS, few, k⟩ := h
    have nd := scNA.nd
    have hu := hu_of hr
    refine ⟨_, pss_cons (ps_set (i := 1) nd rfl (Or.inl rfl) pe_dnewX)
      (pss_cons (ps_for PassesOwn.never rfl (pi_keysY (pv 0)) (pg_name (i := 2) nd rfl (Or.inl rfl))
        (pss_one (ps_expr (pe_bm PySem.F.plainAttrs_list PySem.F.slot_list_append PySem.F.type_list_append mt_append (pe_bmX PySem.F.slot_dict_setdefault PySem.F.type_dict_setdefault (mt_setdX hu) (pv 1) (pa_cons (pe_ix (show IxR _ (rIxT K) from ix_tup) (pe_dgetY hr.units (pv 0) (pv 2) (fun _ _ => rfl)) pe_int (fun _ _ => rfl)) (pa_cons (pe_lst pa_nil) pa_nil))) (pa_cons (pv 2) pa_nil)))))
      (pss_one (ps_ret (pv 1)))), ?_⟩
    refine fun L H1 nL s1 dL => ?_
    obtain ⟨⟨o0, ys0, hD0, _⟩, _⟩ := id dyS
    refine ⟨_, rfl, D, kvS, rfl, dyS.same s1, fun o xs hT kt => ?_⟩
    have hTH : H D = some (DxO D o) := by
      rw [s1 _ _ hD0] at hT
      rw [hD0]
      exact hT
    have lS : kvS.length = S.length := Paired.length ptS
    have lx : xs.length = S.length := by rw [← Paired.length kt, lS]
    refine for_it (walk_keysY (xs := xs)) (fun i σ H' => ∃ (v2 : Option V) (kvs : List (List Key × V)), σ = [some (.ref D), some (.ref L), v2] ∧ Same H H' ∧ (∀ b ys, SqT K H1 b ys → SqT K H' b ys) ∧ DX P w K H' L kvs ∧ LdAt K H' kvs (S.take i) ∧ (∀ pt pt' l, valV kvs (kOf pt) = some (.ref l) → valV kvs (kOf pt') = some (.ref l) → pt = pt') ∧ (∀ pt l, valV kvs (kOf pt) = some (.ref l) → H l = none) ∧ kvs.length ≤ i) ⟨_, [], rfl, s1, (fun _ _ z => z), dL, fun pt => .inl ⟨rfl, rfl⟩, (fun _ _ _ z => nomatch z), (fun _ _ z => nomatch z), Nat.zero_le _⟩ (fun i σ H' _ ⟨_, _, _, z, _⟩ => z _ _ hTH) ?_ ?_
    · rintro i v σ Ha Hb hi ⟨v2, kvs, rfl, sa, ts, dxa, ld, inj, fr, lk⟩ ⟨rfl, q, hq, rfl⟩
      obtain ⟨kk, vv, hkv, stk⟩ := kty_key kt hq
      obtain ⟨⟨k1, e⟩, hS, e1, _⟩ := paired_at ptS hkv
      have e1' : kk = k1 := e1
      subst e1'
      obtain ⟨ve, hve, t, a, b2, rfl, ht, ha, hb2⟩ := stt_val ptS ndS (List.mem_of_getElem? hS)
      have stkH : StK K Hb q.2.1 kk := stk.keeps ts
      have tk : S.take (i + 1) = S.take i ++ [(kk, e)] := by
        rw [List.take_add_one, hS]
        rfl
      refine ⟨_, rfl, L, kvs, rfl, dxa, ?_⟩
      refine ⟨_, rfl, _, rfl, D, q.2.1, kvS, kk, _, rfl, rfl, dyS.same sa, stkH, hve, t, _, 0, .ref a, rfl, rfl, sqT_same ht sa, atI_nat (j := 0) rfl, by show 0 ≤ sizeLine; decide, fun l0 nl0 => ?_⟩
      have s2 : Same Hb (upd Hb l0 (.lst [])) := sm nl0
      have hl0 : (upd Hb l0 (.lst [])) l0 = some (.lst []) := upd_same
      generalize upd Hb l0 (.lst []) = H2 at s2 hl0
      have dx2 := dxa.same s2
      have sa2 := sa.trans s2
      have ts2 : ∀ b ys, SqT K H1 b ys → SqT K H2 b ys := fun b ys z => sqT_same (ts b ys z) s2
      obtain ⟨φ, eφ⟩ := dx_extK dx2
      have nm2 : NmAt K H2 (.ref q.2.1) kk := ⟨_, rfl, stk.keeps ts2⟩
      refine ⟨L, a, kvs, kOf e.1, .ref l0, rfl, rfl, dx2, by rw [kOf_v]; exact sqT_same ha sa2, by rw [sizeLine_eq]; omega, fun v hv => ?_, fun nv H3 of dx3 => ?_⟩
      · -- the point has names
        rcases ld e.1 with ⟨z, _⟩ | ⟨l, us, z, hl, pn⟩
        · rw [hv] at z
          cases z
        rw [hv] at z
        cases z
        have hl2 := s2 _ _ hl
        have nlH := fr _ _ hv
        have lus : us.length ≤ i := by
          rw [Paired.length pn]
          unfold namesL
          rw [List.length_map]
          exact Nat.le_trans (List.length_filter_le _ _) (List.length_take_le i S)
        refine ⟨.inl ⟨rfl, us, SqL.of hl2⟩, _, rfl, l, us, _, rfl, rfl, hl2, by rw [sizeLine_eq]; omega, _, kvs, rfl, fun c o z => ?_, fun b ys z => sqT_lst hl2 (ts2 b ys z), dx_lst hl2 dx2, fun pt => ?_, inj, fr, by omega⟩
        · rw [upd_ne (ne_of_none z nlH)]
          exact sa2 _ _ z
        · rw [tk, names_snoc]
          by_cases ep : e.1 = pt
          · rw [if_pos ep]
            refine .inr ⟨l, us ++ [.ref q.2.1], by rw [← ep]; exact hv, upd_same, ?_⟩
            refine paired_snoc (nms_keeps (nms_keeps (H' := H2) ?_ fun b ys y => sqT_same y s2) fun b ys y => sqT_lst hl2 y) (nm2.keeps fun b ys y => sqT_lst hl2 y)
            rw [← ep]
            exact pn
          · rw [if_neg ep, List.append_nil]
            rcases ld pt with z | ⟨l', us', z, hl', pn'⟩
            · exact .inl z
            · have ne : l' ≠ l := fun y => ep (inj _ _ _ hv (by rw [← y]; exact z))
              exact .inr ⟨l', us', z, by rw [upd_ne ne]; exact s2 _ _ hl', nms_keeps (nms_keeps (H' := H2) pn' fun b ys y => sqT_same y s2) fun b ys y => sqT_lst hl2 y⟩
      · -- a new list
        have nel : l0 ≠ L := fun z => by
          rw [z, eφ] at hl0
          cases hl0
        have hl3 : H3 l0 = some (.lst []) := by
          rw [of l0 nel]
          exact hl0
        have to3 : ∀ b ys, SqT K H2 b ys → SqT K H3 b ys := fun b ys z => sqT_off of eφ z
        have nl0H : H l0 = none := RX.fr_of sa nl0
        have vp : ∀ pt, valV (putK kvs (kOf e.1) (.ref l0)) (kOf pt) = if pt = e.1 then some (.ref l0) else valV kvs (kOf pt) := fun pt => by
          rw [valV_put]
          by_cases z : pt = e.1
          · rw [z, if_pos rfl, if_pos rfl]
          · rw [if_neg z, if_neg fun y => z (kOf_inj y)]
        have old : ∀ pt l, valV kvs (kOf pt) = some (.ref l) → l ≠ l0 := fun pt l z y => by
          rcases ld pt with ⟨z2, _⟩ | ⟨l', us', z2, hl', _⟩
          · rw [z] at z2
            cases z2
          · rw [z] at z2
            cases z2
            rw [y, nl0] at hl'
            cases hl'
        have emp : namesL (S.take i) e.1 = [] := by
          rcases ld e.1 with ⟨_, z⟩ | ⟨l', us', z2, _⟩
          · exact z
          · rw [nv] at z2
            cases z2
        refine ⟨.inl ⟨rfl, [], SqL.of hl3⟩, _, rfl, l0, [], _, rfl, rfl, hl3, by show 0 < sizeLine; decide, _, _, rfl, fun c o z => ?_, fun b ys z => sqT_lst hl3 (to3 b ys (ts2 b ys z)), dx_lst hl3 dx3, fun pt => ?_, fun pt pt' l z z' => ?_, fun pt l z => ?_, ?_⟩
        · rw [upd_ne (ne_of_none z nl0H), of c (ne_of_none z nL)]
          exact sa2 _ _ z
        · rw [tk, names_snoc, vp]
          by_cases ep : pt = e.1
          · rw [if_pos ep, if_pos ep.symm, ep, emp]
            exact .inr ⟨l0, [.ref q.2.1], rfl, upd_same, .cons ((nm2.keeps to3).keeps fun b ys y => sqT_lst hl3 y) .nil⟩
          · rw [if_neg ep, if_neg fun z => ep z.symm, List.append_nil]
            rcases ld pt with z | ⟨l', us', z, hl', pn'⟩
            · exact .inl z
            · have ne := old pt l' z
              have neL : l' ≠ L := fun y => by
                rw [y] at hl'
                have hL := s2 _ _ hl'
                rw [eφ] at hL
                cases hL
              refine .inr ⟨l', us', z, by rw [upd_ne ne, of l' neL]; exact s2 _ _ hl', nms_keeps (nms_keeps (H' := H3) (nms_keeps (H' := H2) pn' fun b ys y => sqT_same y s2) to3) fun b ys y => sqT_lst hl3 y⟩
        · rw [vp] at z z'
          by_cases e1 : pt = e.1
          · by_cases e2 : pt' = e.1
            · rw [e1, e2]
            · rw [if_pos e1] at z
              rw [if_neg e2] at z'
              cases z
              exact absurd rfl (old _ _ z')
          · rw [if_neg e1] at z
            by_cases e2 : pt' = e.1
            · rw [if_pos e2] at z'
              cases z'
              exact absurd rfl (old _ _ z)
            · rw [if_neg e2] at z'
              exact inj _ _ _ z z'
        · rw [vp] at z
          by_cases e1 : pt = e.1
          · rw [if_pos e1] at z
            cases z
            exact nl0H
          · rw [if_neg e1] at z
            exact fr _ _ z
        · have := length_putK kvs (kOf e.1) (.ref l0)
          omega
    · rintro σ Ha ⟨v2, kvs, rfl, sa, ts, dxa, ld, _⟩
      rw [lx, List.take_length] at ld
      exact ⟨_, rfl, k Ha L kvs sa nL dxa ld⟩
end
end TG


set_option Elab.async false
set_option linter.all false
set_option maxRecDepth 100000
set_option maxHeartbeats 4000000
/-! k13: paths_from -/
namespace TG
open PySem L2 PG OW CT EXC DCt DEq DTx DYx TZ
open LW (But But.refl But.trans But.of But.upd)
abbrev sPathsF : Stmt := PG.top 18
/-- what is reached by steps -/
inductive RchP (S : STab) (a : Pt) : Pt → Prop where
  | base : RchP S a a
  | step {s : NKey × Ed} (h : RchP S a s.2.1) (m : s ∈ S) : RchP S a s.2.2
/-- the search -/
structure BI (S : STab) (a : Pt) (V W : List Pt) (x : Option Pt) : Prop where
  nd : V.Nodup
  st : a ∈ V
  sub : ∀ p ∈ W, p ∈ V
  rch : ∀ p ∈ V, RchP S a p
  cl : ∀ p ∈ V, p ∉ W → some p ≠ x → ∀ s ∈ S, s.2.1 = p → s.2.2 ∈ V
theorem BI.len {S : STab} {a : Pt} {V W : List Pt} {x : Option Pt} (h : BI S a V W x) : V.length ≤ S.length + 1 := by
  have sub : ∀ p ∈ V, p ∈ a :: S.map (·.2.2) := fun p hp => by
    cases h.rch p hp with
    | base => exact List.mem_cons_self
    | step _ m => exact List.mem_cons_of_mem _ (List.mem_map.mpr ⟨_, m, rfl⟩)
  have z := nodup_leC h.nd sub
  rw [List.length_cons, List.length_map] at z
  exact z
theorem BI.start (S : STab) (a : Pt) : BI S a [a] [a] none :=
  ⟨List.nodup_cons.mpr ⟨List.not_mem_nil, List.nodup_nil⟩, List.mem_singleton.mpr rfl, fun _ h => h, fun p hp => by rw [List.mem_singleton.mp hp]; exact .base, fun p hp n => absurd hp n⟩
theorem BI.pop {S : STab} {a x : Pt} {V W : List Pt} (h : BI S a V (x :: W) none) : BI S a V W (some x) :=
  ⟨h.nd, h.st, fun p hp => h.sub p (List.mem_cons_of_mem _ hp), h.rch, fun p hp n ne => h.cl p hp (fun m => by
    rcases List.mem_cons.mp m with z | z
    · exact ne (by rw [z])
    · exact n z) (fun z => nomatch z)⟩
theorem BI.add {S : STab} {a x g : Pt} {V W : List Pt} (h : BI S a V W (some x)) (hx : x ∈ V) {s : NKey × Ed} (m : s ∈ S) (e1 : s.2.1 = x) (e2 : s.2.2 = g) (n : g ∉ V) : BI S a (V ++ [g]) (W ++ [g]) (some x) where
  nd := List.nodup_append.mpr ⟨h.nd, List.nodup_cons.mpr ⟨List.not_mem_nil, List.nodup_nil⟩, fun p hp q hq e => by rw [List.mem_singleton.mp hq] at e; exact n (e ▸ hp)⟩
  st := List.mem_append_left _ h.st
  sub := fun p hp => by
    rcases List.mem_append.mp hp with hp | hp
    · exact List.mem_append_left _ (h.sub p hp)
    · exact List.mem_append_right _ hp
  rch := fun p hp => by
    rcases List.mem_append.mp hp with hp | hp
    · exact h.rch p hp
    · rw [List.mem_singleton.mp hp, ← e2]
      exact .step (by rw [e1]; exact h.rch x hx) m
  cl := fun p hp nw ne s' m' e => by
    rcases List.mem_append.mp hp with hp | hp
    · exact List.mem_append_left _ (h.cl p hp (fun z => nw (List.mem_append_left _ z)) ne s' m' e)
    · exact absurd (List.mem_append_right _ hp) nw
theorem BI.done {S : STab} {a x : Pt} {V W : List Pt} (h : BI S a V W (some x)) (d : ∀ s ∈ S, s.2.1 = x → s.2.2 ∈ V) : BI S a V W none :=
  ⟨h.nd, h.st, h.sub, h.rch, fun p hp n _ s m e => by
    by_cases z : p = x
    · exact d s m (by rw [e, z])
    · exact h.cl p hp n (fun y => z (Option.some.inj y)) s m e⟩
theorem BI.all {S : STab} {a : Pt} {V : List Pt} (h : BI S a V [] none) {p : Pt} (r : RchP S a p) : p ∈ V := by
  induction r with
  | base => exact h.st
  | step _ m ih => exact h.cl _ ih (fun z => nomatch z) (fun z => nomatch z) _ m rfl
section
variable {P : Program} {w : World} {K : PySem.W.Frag} {mg : Str → Option Value} {base : Heap} {H H' : Hp} {D : Addr} {S : STab}
def PtAt (K : PySem.W.Frag) (H : Hp) (u : V) (p : Pt) : Prop := ∃ b, u = .ref b ∧ SqT K H b (p.map V.str)
theorem pts_keeps {us : List V} {ps : List Pt} (h : Paired (PtAt K H) us ps) (ht : ∀ b ys, SqT K H b ys → SqT K H' b ys) : Paired (PtAt K H') us ps := Paired.imp (fun _ _ z => by
  obtain ⟨b, e, z⟩ := z
  exact ⟨b, e, ht _ _ z⟩) h
/-- the values of the paths: lists -/
abbrev VAt (H : Hp) (wA : Addr) (n : Nat) : List (List Key × V) → List Pt → Prop := Paired fun kv p => kv.1 = kOf p ∧ ∃ l us, kv.2 = .ref l ∧ H l = some (.lst us) ∧ us.length ≤ n ∧ l ≠ wA
theorem vat_yes {wA : Addr} {n : Nat} {kvs : List (List Key × V)} {ps : List Pt} (h : VAt H wA n kvs ps) {p : Pt} (m : p ∈ ps) : ∃ l us, valV kvs (kOf p) = some (.ref l) ∧ H l = some (.lst us) ∧ us.length ≤ n ∧ l ≠ wA := by
  induction h with
  | nil => exact nomatch m
  | @cons kv q kvs ps a _ ih =>
    by_cases z : q = p
    · obtain ⟨a1, l, us, e, r⟩ := a
      exact ⟨l, us, by rw [valV_pos (by rw [a1, z]), e], r⟩
    · rw [valV_neg (by rw [a.1]; exact fun y => z (kOf_inj y))]
      rcases List.mem_cons.mp m with y | m
      · exact absurd y.symm z
      · exact ih m
theorem vat_no {wA : Addr} {n : Nat} {kvs : List (List Key × V)} {ps : List Pt} (h : VAt H wA n kvs ps) {p : Pt} (m : p ∉ ps) : valV kvs (kOf p) = none := by
  induction h with
  | nil => rfl
  | @cons kv q kvs ps a _ ih =>
    rw [valV_neg (by rw [a.1]; exact fun y => m (by rw [← kOf_inj y]; exact List.mem_cons_self))]
    exact ih fun z => m (List.mem_cons_of_mem _ z)
theorem vat_keeps {wA : Addr} {n n' : Nat} {kvs : List (List Key × V)} {ps : List Pt} (h : VAt H wA n kvs ps) (le : n ≤ n') (ht : ∀ l us, l ≠ wA → H l = some (.lst us) → H' l = some (.lst us)) : VAt H' wA n' kvs ps := Paired.imp (fun _ _ z => by
  obtain ⟨z1, l, us, e, h1, h2, h3⟩ := z
  exact ⟨z1, l, us, e, ht l us h3 h1, Nat.le_trans h2 le, h3⟩) h
abbrev nsPF : List Str := ["links", "start", "leading", "paths", "waiting", "place", "name", "goal"]
theorem scPF : FnScope nsPF ["links", "start"] (defScope sPathsF) := ⟨rfl, rfl, rfl, by decide +kernel, rfl, by decide +kernel, by decide +kernel⟩
def spPF (P : Program) (w : World) (K : PySem.W.Frag) : Sp := fun vs H Q _ => ∃ (D a : Addr) (S : STab) (st : Pt), vs = [.ref D, .ref a] ∧ ST P w K H D S ∧ (S.map (·.1)).Nodup ∧ S.length ≤ 1000 ∧ SqT K H a (st.map V.str) ∧
  ∀ H' L kvs, Same H H' → H L = none → DX P w K H' L kvs → (∀ p, (valV kvs (kOf p) = none ∧ ¬ RchP S st p) ∨ ∃ l us, valV kvs (kOf p) = some (.ref l) ∧ H' l = some (.lst us) ∧ us.length ≤ 1001 ∧ RchP S st p) → Q (.ref L) H'
theorem ok_pf {f fN : Addr} {fd fdN : FuncData} (Fn : Fun K "paths_from" "paths_from" sPathsF f fd) (kN : PySem.W.keepIn K (.ref fN) = true) (bN : Binds K fdN ["links"] []) (gN : mg "names_at" = some (.ref fN)) (GN : FnOk P w K mg base CX0 1 fN fdN ["links"] (spNA P w K)) : FnOk P w K mg base CX0 2 f fd ["links", "start"] (spPF P w K) := by
  refine Fn.ok scPF (fun vs H Q E h => ?_) (fun cdv A outer s H vs Q E hr h => ?_)
  · obtain ⟨D, a, S, st, rfl, _⟩ := h
    rfl
  · obtain ⟨D, a, S, st, rfl, hS, ndS, few, ha, k⟩ := h
    have nd := scPF.nd
    have hu := hu_of hr
    refine ⟨_, pss_cons (ps_set (i := 2) nd rfl (Or.inl rfl) (pe_call GN hr (by rfl) gN kN bN .nil pass0 (pa_cons (pv 0) pa_nil)))
      (pss_cons (ps_set (i := 3) nd rfl (Or.inl rfl) (pe_disp1X (Nat.lt_of_succ_lt hu) (pv 1) (pe_lst pa_nil)))
      (pss_cons (ps_set (i := 4) nd rfl (Or.inl rfl) (pe_lst (pa_cons (pv 1) pa_nil)))
      (pss_cons (ps_while PassesOwn.never (pt_truth (pv 4) (fun _ => rfl))
        (pss_cons (ps_set (i := 5) nd rfl (Or.inl rfl) (pe_bm PySem.F.plainAttrs_list PySem.F.slot_list_pop PySem.F.type_list_pop mt_popAt (pv 4) (pa_cons pe_int pa_nil)))
        (pss_one (ps_for PassesOwn.never rfl (pi_list (pe_dget2X hu (pv 2) (pv 5) (pe_lst pa_nil) ⟨rfl, rfl, rfl, rfl⟩)) (pg_name (i := 6) nd rfl (Or.inl rfl))
          (pss_cons (ps_set (i := 7) nd rfl (Or.inl rfl) (pe_ix (show IxR _ (rIxT K) from ix_tup) (pe_dgetY hr.units (pv 0) (pv 6) (fun _ _ => rfl)) pe_int (fun _ _ => rfl)))
          (pss_one (ps_if (pt_cmpR (op_notInX hu) (pv 7) (pv 3) rfl)
            (pss_cons (ps_dputX hu (pv 3) (pv 7) (pe_lst (StX.pa_star (pe_dgetX hu (pv 3) (pv 5) (fun _ _ => rfl)) (pa_cons (pv 6) pa_nil))) rfl)
            (pss_one (ps_expr (pe_bm PySem.F.plainAttrs_list PySem.F.slot_list_append PySem.F.type_list_append mt_append (pv 4) (pa_cons (pv 7) pa_nil))))) pss_nil)))))))
      (pss_one (ps_ret (pv 3)))))), ?_⟩
    obtain ⟨kvS, dyS, ptS⟩ := id hS
    refine ⟨_, rfl, D, S, rfl, hS, ndS, few, fun H1 LD kvL s1 nLD dxL ld => ?_⟩
    have ha1 := sqT_same ha s1
    -- paths = {start: []}
    refine fun PA H2 nPA s2 dxP0 => ⟨_, rfl, by show 0 ≤ sizeLine; decide, fun l0 nl0 => ?_⟩
    have s3 := sm (o := .lst []) nl0
    have hl0 : (upd H2 l0 (.lst [])) l0 = some (.lst []) := upd_same
    generalize upd H2 l0 (.lst []) = H3 at s3 hl0
    refine ⟨a, kOf st, rfl, dxP0.same s3, by rw [kOf_v]; exact sqT_same ha1 (s2.trans s3), fun H4 of dxP4 => ?_⟩
    have s14 : Same H1 H4 := off_same nPA (s2.trans s3) of
    obtain ⟨φ4, eφ4⟩ := dx_extK (dxP0.same s3)
    have nl0P : l0 ≠ PA := fun z => by
      rw [z, eφ4] at hl0
      cases hl0
    have hl4 : H4 l0 = some (.lst []) := by
      rw [of l0 nl0P]
      exact hl0
    -- waiting = [start]
    refine ⟨_, rfl, by show 1 ≤ sizeLine; decide, fun wA nwA => ?_⟩
    have s5 := sm (o := .lst [.ref a]) nwA
    have hw5 : (upd H4 wA (.lst [.ref a])) wA = some (.lst [.ref a]) := upd_same
    generalize upd H4 wA (.lst [.ref a]) = H5 at s5 hw5
    have s15 := s14.trans s5
    have nwA1 := RX.fr_of s14 nwA
    have dxP5 := dxP4.same s5
    have nl0w := ne_of_none hl4 nwA
    have hl5 := s5 _ _ hl4
    clear hl0 hl4 s3 s2 nl0 eφ4 of dxP0 dxP4 s14 nwA s5
    refine ⟨fun m σ H' => ∃ (V W : List Pt) (ws : List L2.V) (kvs : List (List Key × L2.V)) (v5 v6 v7 : Option L2.V), σ = [some (.ref D), some (.ref a), some (.ref LD), some (.ref PA), some (.ref wA), v5, v6, v7] ∧ Same H1 H' ∧ DX P w K H' PA kvs ∧ VAt H' wA V.length kvs V ∧ H' wA = some (.lst ws) ∧ Paired (PtAt K H1) ws W ∧ BI S st V W none ∧ 2 * (S.length + 1 - V.length) + W.length = m ∧ m ≤ 3000, ⟨_, [st], [st], [.ref a], _, _, _, _, rfl, s15, dxP5, .cons ⟨rfl, l0, [], rfl, hl5, Nat.zero_le _, nl0w⟩ .nil, hw5, .cons ⟨a, rfl, ha1⟩ .nil, BI.start S st, rfl, by show 2 * (S.length + 1 - 1) + 1 ≤ 3000; omega⟩, ?_⟩
    rintro m σ Ha ⟨V, W, ws, kvs, v5, v6, v7, rfl, sa, dxP, vat, hw, pw, bi, hm, hm3⟩
    refine ⟨_, rfl, !ws.isEmpty, .inl ⟨_, SqL.of hw, rfl⟩, ?_⟩
    cases pw with
    | nil =>
      refine iteF ⟨_, rfl, k Ha PA kvs (s1.trans sa) (RX.fr_of s1 nPA) dxP fun p => ?_⟩
      by_cases mp : p ∈ V
      · obtain ⟨l, us, e1, e2, e3, _⟩ := vat_yes vat mp
        have := bi.len
        exact .inr ⟨l, us, e1, e2, by omega, bi.rch p mp⟩
      · exact .inl ⟨vat_no vat mp, fun r => mp (bi.all r)⟩
    | @cons u x ws' W' hu1 pw' =>
      obtain ⟨b, rfl, hb⟩ := hu1
      have bi' := bi.pop
      have xV : x ∈ V := bi.sub x List.mem_cons_self
      refine iteT ⟨fun σ' H'' => ∃ m', m' < m ∧ ∃ (V W : List Pt) (ws : List L2.V) (kvs : List (List Key × L2.V)) (v5 v6 v7 : Option L2.V), σ' = [some (.ref D), some (.ref a), some (.ref LD), some (.ref PA), some (.ref wA), v5, v6, v7] ∧ Same H1 H'' ∧ DX P w K H'' PA kvs ∧ VAt H'' wA V.length kvs V ∧ H'' wA = some (.lst ws) ∧ Paired (PtAt K H1) ws W ∧ BI S st V W none ∧ 2 * (S.length + 1 - V.length) + W.length = m' ∧ m' ≤ 3000, fun σ' H'' z => z, ?_⟩
      -- place = waiting.pop(0)
      refine ⟨_, rfl, .inl ⟨rfl, _, SqL.of hw⟩, wA, _, 0, 0, .ref b, rfl, rfl, hw, by decide, by decide, by simp [seqIndex?], rfl, ?_⟩
      have sb : Same H1 (upd Ha wA (.lst ws')) := fun c o z => by
        rw [upd_ne (ne_of_none z nwA1)]
        exact sa _ _ z
      have hw6 : (upd Ha wA (.lst ws')) wA = some (.lst ws') := upd_same
      have dxP6 : DX P w K (upd Ha wA (.lst ws')) PA kvs := dx_lst hw dxP
      have vat6 : VAt (upd Ha wA (.lst ws')) wA V.length kvs V := vat_keeps vat (Nat.le_refl _) fun l us ne z => by
        rw [upd_ne ne]
        exact z
      show gName 5 _ _ (upd Ha wA (.lst ws')) _
      generalize upd Ha wA (.lst ws') = H6 at sb hw6 dxP6 vat6
      obtain ⟨φ6, eφ6⟩ := dx_extK dxP6
      -- leading.get(place, [])
      refine ⟨_, rfl, LD, kvL, rfl, dxL.same sb, _, rfl, by show 0 ≤ sizeLine; decide, fun le nle => ?_⟩
      have s7 := sm (o := .lst []) nle
      have hle : (upd H6 le (.lst [])) le = some (.lst []) := upd_same
      generalize upd H6 le (.lst []) = H7 at s7 hle
      have sc := sb.trans s7
      refine ⟨b, kvL, kOf x, rfl, dxL.same sc, by rw [kOf_v]; exact sqT_same hb sc, ?_⟩
      obtain ⟨lst, us, el, hlst, pn, nlw⟩ : ∃ lst us, (valV kvL (kOf x)).getD (.ref le) = .ref lst ∧ H7 lst = some (.lst us) ∧ Paired (NmAt K H1) us (namesL S x) ∧ lst ≠ wA := by
        rcases ld x with ⟨z1, z2⟩ | ⟨l, us, z1, z2, z3⟩
        · refine ⟨le, [], by rw [z1]; rfl, hle, by rw [z2]; exact .nil, fun z => ?_⟩
          rw [z, hw6] at nle
          cases nle
        · exact ⟨l, us, by rw [z1]; rfl, sc _ _ z2, z3, ne_of_none z2 nwA1⟩
      rw [el]
      have dxP7 := dxP6.same s7
      have hw7 := s7 _ _ hw6
      have vat7 : VAt H7 wA V.length kvs V := vat_keeps vat6 (Nat.le_refl _) fun l us _ z => s7 _ _ z
      have nlP : lst ≠ PA := fun z => by
        have e7 := s7 _ _ eφ6
        rw [← z, hlst] at e7
        cases e7
      clear hle nle el dxP6 hw6 vat6 vat hw sb sa dxP s7 eφ6
      have lu : us.length = (namesL S x).length := Paired.length pn
      have memN : ∀ kk ∈ namesL S x, ∃ e, (kk, e) ∈ S ∧ e.1 = x := fun kk hk => by
        obtain ⟨s', hs', rfl⟩ := List.mem_map.mp hk
        obtain ⟨h1, h2⟩ := List.mem_filter.mp hs'
        exact ⟨s'.2, h1, of_decide_eq_true h2⟩
      refine ⟨lst, rfl, ⟨_, SqL.of hlst⟩, for_it (walk_list (xs := us)) (fun j σ H' => ∃ (V2 W2 : List Pt) (ws2 : List L2.V) (kvs2 : List (List Key × L2.V)) (v6 v7 : Option L2.V), σ = [some (.ref D), some (.ref a), some (.ref LD), some (.ref PA), some (.ref wA), some (.ref b), v6, v7] ∧ Same H1 H' ∧ H' lst = some (.lst us) ∧ DX P w K H' PA kvs2 ∧ VAt H' wA V2.length kvs2 V2 ∧ H' wA = some (.lst ws2) ∧ Paired (PtAt K H1) ws2 W2 ∧ BI S st V2 W2 (some x) ∧ x ∈ V2 ∧ (∀ kk ∈ (namesL S x).take j, ∀ e, (kk, e) ∈ S → e.2 ∈ V2) ∧ 2 * (S.length + 1 - V2.length) + W2.length + 1 ≤ m) ⟨V, W', ws', kvs, _, _, rfl, sc, hlst, dxP7, vat7, hw7, pw', bi', xV, (fun _ z => nomatch z), by rw [List.length_cons] at hm; omega⟩ (fun j σ H' _ ⟨_, _, _, _, _, _, _, _, z, _⟩ => SqL.of z) ?_ ?_⟩
      · rintro j v σ Hb Hc hj ⟨V2, W2, ws2, kvs2, v6, v7, rfl, sd, hl, dxp, vt, hw, pw2, bi2, xv, dn, hm2⟩ ⟨rfl, hv⟩
        obtain ⟨kk, hkk, bq, rfl, stk⟩ := paired_at pn hv
        have mkk := List.mem_of_getElem? hkk
        obtain ⟨e, mS, ex⟩ := memN kk mkk
        obtain ⟨ve, hve, t, a2, g2, rfl, ht, _, hg⟩ := stt_val ptS ndS mS
        have se := s1.trans sd
        have hgb := sqT_same hg se
        have ld2 := bi2.len
        refine ⟨_, rfl, _, rfl, D, bq, kvS, kk, _, rfl, rfl, dyS.same se, stk.keeps (fun b ys z => sqT_same z sd), hve, t, _, 1, .ref g2, rfl, rfl, sqT_same ht se, atI_nat (j := 1) rfl, ?_⟩
        have tk : (namesL S x).take (j + 1) = (namesL S x).take j ++ [kk] := by
          rw [List.take_add_one, hkk]
          rfl
        have dn2 : ∀ V3 : List Pt, (∀ p ∈ V2, p ∈ V3) → e.2 ∈ V3 → ∀ k2 ∈ (namesL S x).take (j + 1), ∀ e2, (k2, e2) ∈ S → e2.2 ∈ V3 := fun V3 sub me k2 hk2 e2 m2 => by
          rw [tk] at hk2
          rcases List.mem_append.mp hk2 with hk2 | hk2
          · exact sub _ (dn k2 hk2 e2 m2)
          · rw [List.mem_singleton.mp hk2] at m2
            obtain ⟨v1, h1, _⟩ := stt_val ptS ndS mS
            have ee : e2 = e := by
              have n1 := (ndS : (S.map (·.1)).Nodup)
              obtain ⟨i1, l1, q1⟩ := List.getElem_of_mem mS
              obtain ⟨i2, l2, q2⟩ := List.getElem_of_mem m2
              have g1 : (S.map (·.1))[i1]? = some kk := by rw [List.getElem?_map, List.getElem?_eq_getElem l1, q1]; rfl
              have g2 : (S.map (·.1))[i2]? = some kk := by rw [List.getElem?_map, List.getElem?_eq_getElem l2, q2]; rfl
              have z := (List.getElem?_inj (by rw [List.length_map]; exact l1) n1).mp (g1.trans g2.symm)
              subst z
              rw [q1] at q2
              exact (congrArg Prod.snd q2).symm
            rw [ee]
            exact me
        refine ⟨_, rfl, _, rfl, PA, g2, kvs2, kOf e.2, rfl, rfl, dxp, by rw [kOf_v]; exact hgb, _, rfl, ?_⟩
        rw [if_pos rfl]
        by_cases mg2 : e.2 ∈ V2
        · obtain ⟨l2, us2, z, _⟩ := vat_yes vt mg2
          rw [z]
          refine iteF ⟨V2, W2, ws2, kvs2, _, _, rfl, sd, hl, dxp, vt, hw, pw2, bi2, xv, dn2 V2 (fun _ z => z) mg2, hm2⟩
        · rw [vat_no vt mg2]
          refine iteT ?_
          obtain ⟨lx, usx, hvx, hlx, lnx, nxw⟩ := vat_yes vt xv
          refine ⟨_, rfl, _, rfl, PA, b, kvs2, kOf x, _, rfl, rfl, dxp, by rw [kOf_v]; exact sqT_same hb sd, hvx, lx, usx, rfl, .inr (SqL.of hlx), _, rfl, ?_⟩
          refine ⟨by rw [List.length_append, sizeLine_eq]; show usx.length + 1 ≤ _; omega, fun ln nln => ?_⟩
          have s8 := sm (o := .lst (usx ++ [L2.V.ref bq])) nln
          have hln : (upd Hc ln (.lst (usx ++ [L2.V.ref bq]))) ln = some (.lst (usx ++ [L2.V.ref bq])) := upd_same
          show tVar 3 _ (upd Hc ln (.lst (usx ++ [L2.V.ref bq]))) _
          generalize upd Hc ln (.lst (usx ++ [L2.V.ref bq])) = H8 at s8 hln
          have dx8 := dxp.same s8
          obtain ⟨φ8, eφ8⟩ := dx_extK dx8
          have lk2 : kvs2.length = V2.length := Paired.length vt
          refine ⟨_, rfl, _, rfl, PA, g2, kvs2, kOf e.2, rfl, rfl, dx8, by rw [kOf_v]; exact sqT_same hgb s8, by rw [lk2, sizeLine_eq]; omega, fun H9 of dx9 => ?_⟩
          rw [putK_new _ (vat_no vt mg2)] at dx9
          have dx9' : DX P w K H9 PA (kvs2 ++ [(kOf e.2, .ref ln)]) := dx9
          have s19 : Same H1 H9 := off_same nPA (sd.trans s8) of
          have lstP : ∀ l xs, H8 l = some (.lst xs) → H9 l = some (.lst xs) := fun l xs z => by
            rw [of l (fun y => by rw [y, eφ8] at z; cases z)]
            exact z
          have hw9 := lstP _ _ (s8 _ _ hw)
          have nlnw : ln ≠ wA := fun z => by
            rw [z, hw] at nln
            cases nln
          refine ⟨_, rfl, .inl ⟨rfl, _, SqL.of hw9⟩, _, rfl, wA, ws2, _, rfl, rfl, hw9, ?_, ?_⟩
          · rw [Paired.length pw2, sizeLine_eq]
            omega
          refine ⟨V2 ++ [e.2], W2 ++ [e.2], ws2 ++ [.ref g2], kvs2 ++ [(kOf e.2, .ref ln)], _, _, rfl, fun c o z => ?_, ?_, dx_lst hw9 dx9', ?_, upd_same, paired_snoc pw2 ⟨g2, rfl, sqT_same hg s1⟩, bi2.add xv mS ex rfl mg2, List.mem_append_left _ xv, dn2 _ (fun p hp => List.mem_append_left _ hp) (List.mem_append_right _ (List.mem_singleton.mpr rfl)), ?_⟩
          · rw [upd_ne (ne_of_none z nwA1)]
            exact s19 _ _ z
          · rw [upd_ne nlw]
            exact lstP _ _ (s8 _ _ hl)
          · refine paired_snoc (vat_keeps vt (by rw [List.length_append]; omega) fun l xs ne z => ?_) ⟨rfl, ln, usx ++ [.ref bq], rfl, ?_, ?_, nlnw⟩
            · rw [upd_ne ne]
              exact lstP _ _ (s8 _ _ z)
            · rw [upd_ne nlnw]
              exact lstP _ _ hln
            · rw [List.length_append, List.length_append]
              show usx.length + 1 ≤ V2.length + 1
              omega
          · have b3 : (V2 ++ [e.2]).length ≤ S.length + 1 := (bi2.add xv mS ex rfl mg2).len
            rw [List.length_append, List.length_singleton] at b3
            rw [List.length_append, List.length_append, List.length_singleton]
            omega
      · rintro σ Hb ⟨V2, W2, ws2, kvs2, v6, v7, rfl, sd, hl, dxp, vt, hw, pw2, bi2, xv, dn, hm2⟩
        rw [lu, List.take_length] at dn
        refine ⟨_, ?_, V2, W2, ws2, kvs2, _, _, _, rfl, sd, dxp, vt, hw, pw2, bi2.done fun s' ms es => ?_, rfl, ?_⟩
        · omega
        · refine dn s'.1 ?_ s'.2 ms
          exact List.mem_map.mpr ⟨s', List.mem_filter.mpr ⟨ms, decide_eq_true es⟩, rfl⟩
        · omega
end
end TG


set_option Elab.async false
set_option linter.all false
set_option maxRecDepth 100000
set_option maxHeartbeats 4000000
/-! k13: paths_beside -/
namespace TG
open PySem L2 PG OW CT EXC DCt DEq DTx DYx TZ
abbrev sBeside : Stmt := PG.top 37
def stepsL (es : ETab) (c0 : List Str) : STab := (es.filter fun e => !decide (e.1 = c0)).flatMap fun e => [((e.1, 1), e.2), ((e.1, -1), (e.2.2, e.2.1))]
theorem steps_snoc (es : ETab) (c0 c : List Str) (e : Ed) : stepsL (es ++ [(c, e)]) c0 = stepsL es c0 ++ (if c = c0 then [] else [((c, 1), e), ((c, -1), (e.2, e.1))]) := by
  unfold stepsL
  rw [List.filter_append, List.flatMap_append]
  congr 1
  by_cases z : c = c0
  · rw [if_pos z, List.filter_cons_of_neg (by show ¬ (!decide (c = c0)) = true; rw [decide_eq_true z]; decide)]
    rfl
  · rw [if_neg z, List.filter_cons_of_pos (by show (!decide (c = c0)) = true; rw [decide_eq_false z]; rfl)]
    rfl
theorem steps_keys {es : ETab} {c0 : List Str} {k : NKey} (h : k ∈ (stepsL es c0).map (·.1)) : k.1 ∈ keysE es ∧ k.1 ≠ c0 ∧ (k.2 = 1 ∨ k.2 = -1) := by
  obtain ⟨s, hs, rfl⟩ := List.mem_map.mp h
  obtain ⟨e, he, hs⟩ := List.mem_flatMap.mp hs
  obtain ⟨h1, h2⟩ := List.mem_filter.mp he
  have ne : e.1 ≠ c0 := fun z => by
    rw [decide_eq_true z] at h2
    cases h2
  have me : e.1 ∈ keysE es := List.mem_map.mpr ⟨e, h1, rfl⟩
  rcases List.mem_cons.mp hs with z | hs
  · rw [z]
    exact ⟨me, ne, .inl rfl⟩
  · rw [List.mem_singleton.mp hs]
    exact ⟨me, ne, .inr rfl⟩
theorem steps_mem {es : ETab} {c0 : List Str} {s : NKey × Ed} (h : s ∈ stepsL es c0) : ∃ c e, (c, e) ∈ es ∧ c ≠ c0 ∧ (s.2 = e ∨ s.2 = (e.2, e.1)) := by
  obtain ⟨e, he, hs⟩ := List.mem_flatMap.mp h
  obtain ⟨h1, h2⟩ := List.mem_filter.mp he
  have ne : e.1 ≠ c0 := fun z => by
    rw [decide_eq_true z] at h2
    cases h2
  rcases List.mem_cons.mp hs with z | hs
  · rw [z]
    exact ⟨e.1, e.2, h1, ne, .inl rfl⟩
  · rw [List.mem_singleton.mp hs]
    exact ⟨e.1, e.2, h1, ne, .inr rfl⟩
theorem steps_of {es : ETab} {c0 c : List Str} {e : Ed} (h : (c, e) ∈ es) (ne : c ≠ c0) : ((c, 1), e) ∈ stepsL es c0 ∧ ((c, -1), (e.2, e.1)) ∈ stepsL es c0 := by
  have hf : (c, e) ∈ es.filter fun e => !decide (e.1 = c0) := List.mem_filter.mpr ⟨h, by show (!decide (c = c0)) = true; rw [decide_eq_false ne]; rfl⟩
  exact ⟨List.mem_flatMap.mpr ⟨_, hf, List.mem_cons_self⟩, List.mem_flatMap.mpr ⟨_, hf, List.mem_cons_of_mem _ List.mem_cons_self⟩⟩
theorem steps_len (es : ETab) (c0 : List Str) : (stepsL es c0).length ≤ 2 * es.length := by
  unfold stepsL
  have h : ∀ xs : ETab, (xs.flatMap fun e => [((e.1, (1 : Int)), e.2), ((e.1, -1), (e.2.2, e.2.1))]).length = 2 * xs.length := by
    intro xs
    induction xs with
    | nil => rfl
    | cons x xs ih =>
      rw [List.flatMap_cons, List.length_append, ih]
      show 2 + 2 * xs.length = 2 * (xs.length + 1)
      omega
  rw [h]
  have := List.length_filter_le (fun e : List Str × Ed => !decide (e.1 = c0)) es
  omega
theorem steps_cons (es : ETab) (c0 c : List Str) (e : Ed) : stepsL ((c, e) :: es) c0 = (if c = c0 then [] else [((c, 1), e), ((c, -1), (e.2, e.1))]) ++ stepsL es c0 := by
  unfold stepsL
  by_cases z : c = c0
  · rw [if_pos z, List.filter_cons_of_neg (by show ¬ (!decide (c = c0)) = true; rw [decide_eq_true z]; decide)]
    rfl
  · rw [if_neg z, List.filter_cons_of_pos (by show (!decide (c = c0)) = true; rw [decide_eq_false z]; rfl)]
    rfl
theorem steps_nd {c0 : List Str} : ∀ {es : ETab}, (keysE es).Nodup → ((stepsL es c0).map (·.1)).Nodup
  | [], _ => List.nodup_nil
  | x :: es, nd => by
    have nd2 := List.nodup_cons.mp (show (x.1 :: keysE es).Nodup from nd)
    rw [show x :: es = (x.1, x.2) :: es from rfl, steps_cons]
    by_cases z : x.1 = c0
    · rw [if_pos z, List.nil_append]
      exact steps_nd nd2.2
    · rw [if_neg z, List.map_append]
      refine List.nodup_append.mpr ⟨?_, steps_nd nd2.2, fun a ha b hb e => ?_⟩
      · refine List.nodup_cons.mpr ⟨fun m => ?_, List.nodup_cons.mpr ⟨List.not_mem_nil, List.nodup_nil⟩⟩
        have m2 := List.mem_singleton.mp m
        have : (1 : Int) = -1 := congrArg Prod.snd m2
        omega
      · obtain ⟨h1, _, _⟩ := steps_keys hb
        have e2 : a.1 = x.1 := by
          rcases List.mem_cons.mp ha with y | ha
          · rw [y]
          · rw [List.mem_singleton.mp ha]
        rw [← e, e2] at h1
        exact nd2.1 h1
section
variable {P : Program} {w : World} {K : PySem.W.Frag} {mg : Str → Option Value} {base : Heap} {H H' : Hp} {D : Addr} {S : STab}
theorem stt_no {kvs : List (NKey × V)} (h : StT K H kvs S) {k : NKey} (n : k ∉ S.map (·.1)) : valV kvs k = none := by
  induction h with
  | nil => rfl
  | @cons kv e kvs es a _ ih =>
    rw [valV_neg (by rw [a.1]; exact fun z => n (by rw [← z]; exact List.mem_cons_self))]
    exact ih fun m => n (List.mem_cons_of_mem _ m)
theorem dy_ext {kvs : List (NKey × V)} (d : DY P w K H D kvs) : ∃ φ, H D = some (.ext φ) := by
  obtain ⟨⟨o, xs, h1, _⟩, _⟩ := d
  exact ⟨_, h1⟩
/-- one step more -/
theorem st_snoc {Hb H6 : Hp} {kvs : List (NKey × V)} {k : NKey} {v : V} {e : Ed} (d : DY P w K Hb D kvs) (p : StT K Hb kvs S) (n : k ∉ S.map (·.1)) (ev : EdgeAt K Hb v e) (of : Off D Hb H6) (dx : DY P w K H6 D (putK kvs k v)) : ST P w K H6 D (S ++ [(k, e)]) := by
  obtain ⟨φ, eφ⟩ := dy_ext d
  rw [putK_new _ (stt_no p n)] at dx
  exact ⟨_, dx, paired_snoc (p.keeps fun b ys z => sqT_off of eφ z) ⟨rfl, ev.keeps fun b ys z => sqT_off of eφ z⟩⟩
abbrev nsPB : List Str := ["free", "target", "steps", "counter", "source", "goal"]
theorem scPB : FnScope nsPB ["free", "target"] (defScope sBeside) := ⟨rfl, rfl, rfl, by decide +kernel, rfl, by decide +kernel, by decide +kernel⟩
/-- what is told of the paths -/
def PathsAt (H : Hp) (kvs : List (List Key × V)) (S : STab) (st : Pt) : Prop := ∀ p, (valV kvs (kOf p) = none ∧ ¬ RchP S st p) ∨ ∃ l us, valV kvs (kOf p) = some (.ref l) ∧ H l = some (.lst us) ∧ us.length ≤ 1001 ∧ RchP S st p
def spPB (P : Program) (w : World) (K : PySem.W.Frag) : Sp := fun vs H Q _ => ∃ (F tc : Addr) (es : ETab) (c0 : List Str) (e0 : Ed), vs = [.ref F, .ref tc] ∧ ET P w K H F es ∧ (keysE es).Nodup ∧ es.length ≤ 200 ∧ CsOk (keysE es) ∧ (c0, e0) ∈ es ∧ SqT K H tc (c0.map V.str) ∧
  ∀ H' L kvs, Same H H' → H L = none → DX P w K H' L kvs → PathsAt H' kvs (stepsL es c0) e0.2 → Q (.ref L) H'
theorem ok_pb {f fP : Addr} {fd fdP : FuncData} (Fn : Fun K "paths_beside" "paths_beside" sBeside f fd) (kP : PySem.W.keepIn K (.ref fP) = true) (bP : Binds K fdP ["links", "start"] []) (gP : mg "paths_from" = some (.ref fP)) (GP : FnOk P w K mg base CX0 2 fP fdP ["links", "start"] (spPF P w K)) : FnOk P w K mg base CX0 3 f fd ["free", "target"] (spPB P w K) := by
  refine Fn.ok scPB (fun vs H Q E h => ?_) (fun cdv A outer s H vs Q E hr h => ?_)
  · obtain ⟨F, tc, es, c0, e0, rfl, _⟩ := h
    rfl
  · obtain ⟨F, tc, es, c0, e0, rfl, hF, nde, few, okk, m0, htc, k⟩ := h
    have nd := scPB.nd
    have hu := hu_of hr
    refine ⟨_, pss_cons (ps_set (i := 2) nd rfl (Or.inl rfl) pe_dnewY)
      (pss_cons (ps_for PassesOwn.never rfl (pi_keysX (pv 0)) (pg_name (i := 3) nd rfl (Or.inl rfl))
        (pss_cons (ps_asg (pe_dgetX hu (pv 0) (pv 3) (fun _ _ => rfl)) (pg_tup rfl (pgs_cons (pg_name (i := 4) nd rfl (Or.inl rfl)) (pgs_cons (pg_name (i := 5) nd rfl (Or.inl rfl)) pgs_nil))))
        (pss_one (ps_if (pt_cmpR (op_neD hr.units) (pv 3) (pv 1) (nomark _))
          (pss_cons (ps_dputY hr.units (pv 2) (pe_tup (pa_cons (pv 3) (pa_cons pe_int pa_nil))) (pe_tup (pa_cons (pv 4) (pa_cons (pv 5) pa_nil))) rfl)
          (pss_one (ps_dputY hr.units (pv 2) (pe_tup (pa_cons (pv 3) (pa_cons (pe_un un_neg pe_int) pa_nil))) (pe_tup (pa_cons (pv 5) (pa_cons (pv 4) pa_nil))) rfl))) pss_nil))))
      (pss_one (ps_ret (pe_call GP hr (by rfl) gP kP bP .nil pass0 (pa_cons (pv 2) (pa_cons (pe_ix (show IxR _ (rIxT K) from ix_tup) (pe_dgetX hu (pv 0) (pv 1) (fun _ _ => rfl)) pe_int (fun _ _ => rfl)) pa_nil)))))), ?_⟩
    refine fun SD H1 nSD s1 dS => ?_
    obtain ⟨kvF, dxF, ptF⟩ := id hF
    obtain ⟨⟨oF, ysF, hF0, _⟩, _⟩ := id dxF
    have lF : kvF.length = es.length := edt_len ptF
    refine ⟨_, rfl, F, kvF, rfl, dxF.same s1, fun o xs hT kt => ?_⟩
    have hTH : H F = some (DxO F o) := by
      rw [s1 _ _ hF0] at hT
      rw [hF0]
      exact hT
    have lx : xs.length = es.length := by rw [← Paired.length kt, lF]
    have ptF1 : EdT K H1 kvF es := ptF.keeps fun b ys z => sqT_same z s1
    refine for_it (walk_keysX (xs := xs)) (fun i σ H' => ∃ (v3 v4 v5 : Option L2.V), σ = [some (.ref F), some (.ref tc), some (.ref SD), v3, v4, v5] ∧ Same H H' ∧ (∀ b ys, SqT K H1 b ys → SqT K H' b ys) ∧ ST P w K H' SD (stepsL (es.take i) c0)) ⟨_, _, _, rfl, s1, (fun _ _ z => z), [], dS, .nil⟩ (fun i σ H' _ ⟨_, _, _, _, z, _⟩ => z _ _ hTH) ?_ ?_
    · rintro i v σ Ha Hb hi ⟨v3, v4, v5, rfl, sa, ts, hSt⟩ ⟨rfl, q, hq, rfl⟩
      obtain ⟨c, e, hce, sq⟩ := edt_at ptF1 kt hq
      have mce := List.mem_of_getElem? hce
      have mk : c ∈ keysE es := List.mem_map.mpr ⟨_, mce, rfl⟩
      have m0k : c0 ∈ keysE es := List.mem_map.mpr ⟨_, m0, rfl⟩
      obtain ⟨ve, hve, t, a, b, rfl, ht, ha, hb⟩ := edt_val ptF nde mce
      have sqb := ts _ _ sq
      have tk : es.take (i + 1) = es.take i ++ [(c, e)] := by
        rw [List.take_add_one, hce]
        rfl
      refine ⟨_, rfl, _, rfl, F, q.2.1, kvF, kOf c, _, rfl, rfl, dxF.same sa, by rw [kOf_v]; exact sqb, hve, t, _, rfl, sqT_same ht sa, rfl, _, _, rfl, _, _, rfl, rfl, ?_⟩
      refine ⟨_, rfl, _, rfl, dOf c, dOf c0, (TupT.dp ⟨_, rfl, sqb⟩), (TupT.dp ⟨_, rfl, sqT_same htc sa⟩), shaped_tup (okk c mk), shaped_tup (okk c0 m0k), _, rfl, ?_⟩
      rw [eqv_dOf]
      by_cases z : c = c0
      · rw [decide_eq_true z]
        refine iteF ⟨_, _, _, rfl, sa, ts, ?_⟩
        rw [tk, steps_snoc, if_pos z, List.append_nil]
        exact hSt
      · rw [decide_eq_false z]
        refine iteT ?_
        have no : ∀ n : Int, (c, n) ∉ (stepsL (es.take i) c0).map (·.1) := fun n m => by
          have h1 := (steps_keys m).1
          have h2 := take_no nde hce (fun _ => true)
          rw [List.filter_eq_self.mpr (fun _ _ => rfl)] at h2
          exact h2 h1
        have lenS : (stepsL (es.take i) c0).length ≤ 400 := by
          have h1 := steps_len (es.take i) c0
          have h2 := List.length_take_le' i es
          omega
        -- steps[counter, 1] = (source, goal)
        refine ⟨_, rfl, _, rfl, by show 2 ≤ sizeLine; decide, fun t1 nt1 => ?_⟩
        have s2 := sm (o := .tup [L2.V.ref a, .ref b]) nt1
        have ht1 : (upd Hb t1 (.tup [L2.V.ref a, .ref b])) t1 = some (.tup [L2.V.ref a, .ref b]) := upd_same
        show tVar 2 _ (upd Hb t1 (.tup [L2.V.ref a, .ref b])) _
        generalize upd Hb t1 (.tup [L2.V.ref a, .ref b]) = H2 at s2 ht1
        refine ⟨_, rfl, _, rfl, by show 2 ≤ sizeLine; decide, fun k1 nk1 => ?_⟩
        have s3 := sm (o := .tup [L2.V.ref q.2.1, .int 1]) nk1
        have hk1 : (upd H2 k1 (.tup [L2.V.ref q.2.1, .int 1])) k1 = some (.tup [L2.V.ref q.2.1, .int 1]) := upd_same
        generalize upd H2 k1 (.tup [L2.V.ref q.2.1, .int 1]) = H3 at s3 hk1
        have s23 := s2.trans s3
        obtain ⟨kvS, dyS, ptS⟩ := hSt.same s23
        refine ⟨SD, k1, kvS, (c, 1), rfl, rfl, dyS, ⟨_, SqT.of hk1, sqT_same sqb s23⟩, by rw [Paired.length ptS, sizeLine_eq]; omega, fun H4 of4 dy4 => ?_⟩
        have ev1 : EdgeAt K H3 (.ref t1) e := ⟨t1, a, b, rfl, SqT.of (s3 _ _ ht1), sqT_same ha (sa.trans s23), sqT_same hb (sa.trans s23)⟩
        have st4 := st_snoc dyS ptS (no 1) ev1 of4 dy4
        obtain ⟨φ3, eφ3⟩ := dy_ext dyS
        have sa4 : Same H H4 := off_same nSD (sa.trans s23) of4
        have ts4 : ∀ b ys, SqT K Hb b ys → SqT K H4 b ys := fun b ys z => sqT_off of4 eφ3 (sqT_same z s23)
        clear ev1 dyS ptS hk1 ht1
        -- steps[counter, -1] = (goal, source)
        refine ⟨_, rfl, _, rfl, by show 2 ≤ sizeLine; decide, fun t2 nt2 => ?_⟩
        have s5 := sm (o := .tup [L2.V.ref b, .ref a]) nt2
        have ht2 : (upd H4 t2 (.tup [L2.V.ref b, .ref a])) t2 = some (.tup [L2.V.ref b, .ref a]) := upd_same
        show tVar 2 _ (upd H4 t2 (.tup [L2.V.ref b, .ref a])) _
        generalize upd H4 t2 (.tup [L2.V.ref b, .ref a]) = H5 at s5 ht2
        refine ⟨_, rfl, _, rfl, _, rfl, by show 2 ≤ sizeLine; decide, fun k2 nk2 => ?_⟩
        have s6 := sm (o := .tup [L2.V.ref q.2.1, .int (-1)]) nk2
        have hk2 : (upd H5 k2 (.tup [L2.V.ref q.2.1, .int (-1)])) k2 = some (.tup [L2.V.ref q.2.1, .int (-1)]) := upd_same
        generalize upd H5 k2 (.tup [L2.V.ref q.2.1, .int (-1)]) = H6 at s6 hk2
        have s56 := s5.trans s6
        obtain ⟨kvS, dyS, ptS⟩ := st4.same s56
        refine ⟨SD, k2, kvS, (c, -1), rfl, rfl, dyS, ⟨_, SqT.of hk2, sqT_same (ts4 _ _ sqb) s56⟩, by rw [Paired.length ptS, List.length_append, sizeLine_eq]; show _ + 1 < _; omega, fun H7 of7 dy7 => ?_⟩
        have ev2 : EdgeAt K H6 (.ref t2) (e.2, e.1) := ⟨t2, b, a, rfl, SqT.of (s6 _ _ ht2), sqT_same hb (sa4.trans s56), sqT_same ha (sa4.trans s56)⟩
        have no2 : (c, -1) ∉ (stepsL (es.take i) c0 ++ [((c, (1 : Int)), e)]).map (·.1) := fun m => by
          rw [List.map_append] at m
          rcases List.mem_append.mp m with m | m
          · exact no _ m
          · have y : (-1 : Int) = 1 := congrArg Prod.snd (List.mem_singleton.mp m)
            omega
        have st7 := st_snoc dyS ptS no2 ev2 of7 dy7
        obtain ⟨φ6, eφ6⟩ := dy_ext dyS
        refine ⟨_, _, _, rfl, off_same nSD (sa4.trans s56) of7, fun b ys z => sqT_off of7 eφ6 (sqT_same (ts4 b ys (ts b ys z)) s56), ?_⟩
        rw [tk, steps_snoc, if_neg z]
        rw [List.append_assoc] at st7
        exact st7
    · rintro σ Ha ⟨v3, v4, v5, rfl, sa, ts, hSt⟩
      rw [lx, List.take_length] at hSt
      obtain ⟨v0, hv0, t, a, b, rfl, ht, ha, hb⟩ := edt_val ptF nde m0
      refine ⟨_, rfl, _, rfl, _, rfl, F, tc, kvF, kOf c0, _, rfl, rfl, dxF.same sa, by rw [kOf_v]; exact sqT_same htc sa, hv0, t, _, 1, .ref b, rfl, rfl, sqT_same ht sa, atI_nat (j := 1) rfl, ?_⟩
      refine ⟨SD, b, stepsL es c0, e0.2, rfl, hSt, steps_nd nde, by have := steps_len es c0; omega, sqT_same hb sa, fun H' L kvs s' nL dx pa => k H' L kvs (sa.trans s') (RX.fr_of sa nL) dx pa⟩
end
end TG


set_option Elab.async false
set_option linter.all false
set_option maxRecDepth 100000
set_option maxHeartbeats 4000000
/-! k13: circle_of, untold -/
namespace TG
open PySem L2 PG OW CT EXC DCt DEq DTx DYx TZ
abbrev sCircle : Stmt := PG.top 38
abbrev sUntold : Stmt := PG.top 39
abbrev sReqC : Stmt := PG.top 28
/-- an edge lies on a circle -/
def Circ (es : ETab) (c0 : List Str) (e0 : Ed) : Prop := RchP (stepsL es c0) e0.2 e0.1
open Classical in
noncomputable def circB (es : ETab) (e : List Str × Ed) : Bool := decide (Circ es e.1 e.2)
noncomputable def untoldL (es : ETab) : List (List Str) := keysE (es.filter (circB es))
theorem circB_t {es : ETab} {c : List Str} {e : Ed} (h : Circ es c e) : circB es (c, e) = true := by
  unfold circB
  exact @decide_eq_true _ (Classical.propDecidable _) h
theorem circB_f {es : ETab} {c : List Str} {e : Ed} (h : ¬ Circ es c e) : circB es (c, e) = false := by
  unfold circB
  exact @decide_eq_false _ (Classical.propDecidable _) h
section
variable {P : Program} {w : World} {K : PySem.W.Frag} {mg : Str → Option Value} {base : Heap} {H H' : Hp} {D : Addr} {CP CC aR aO : Addr}
abbrev nsCO : List Str := ["free", "target", "back"]
theorem scCO : FnScope nsCO ["free", "target"] (defScope sCircle) := ⟨rfl, rfl, rfl, by decide +kernel, rfl, by decide +kernel, by decide +kernel⟩
def spCO (P : Program) (w : World) (K : PySem.W.Frag) : Sp := fun vs H Q _ => ∃ (F tc : Addr) (es : ETab) (c0 : List Str) (e0 : Ed), vs = [.ref F, .ref tc] ∧ ET P w K H F es ∧ (keysE es).Nodup ∧ es.length ≤ 200 ∧ CsOk (keysE es) ∧ (c0, e0) ∈ es ∧ SqT K H tc (c0.map V.str) ∧
  ∀ H' v, Same H H' → ((v = .non ∧ ¬ Circ es c0 e0) ∨ ∃ p, v = .ref p ∧ Circ es c0 e0) → Q v H'
theorem ok_co {f fB : Addr} {fd fdB : FuncData} (Fn : Fun K "circle_of" "circle_of" sCircle f fd) (kB : PySem.W.keepIn K (.ref fB) = true) (bB : Binds K fdB ["free", "target"] []) (gB : mg "paths_beside" = some (.ref fB)) (GB : FnOk P w K mg base CX0 3 fB fdB ["free", "target"] (spPB P w K)) : FnOk P w K mg base CX0 4 f fd ["free", "target"] (spCO P w K) := by
  refine Fn.ok scCO (fun vs H Q E h => ?_) (fun cdv A outer s H vs Q E hr h => ?_)
  · obtain ⟨F, tc, es, c0, e0, rfl, _⟩ := h
    rfl
  · obtain ⟨F, tc, es, c0, e0, rfl, hF, nde, few, okk, m0, htc, k⟩ := h
    have nd := scCO.nd
    have hu := hu_of hr
    obtain ⟨kvF, dxF, ptF⟩ := id hF
    obtain ⟨v0, hv0, t, a, b, rfl, ht, ha, hb⟩ := edt_val ptF nde m0
    refine ⟨_, pss_cons (ps_if (pt_cmpR (op_notInX hu) (pv 1) (pv 0) rfl) (pss_one (ps_ret pe_non)) pss_nil)
      (pss_cons (ps_set (i := 2) nd rfl (Or.inl rfl) (pe_bmX PySem.F.slot_dict_get PySem.F.type_dict_get (mt_getX hu) (pe_call GB hr (by rfl) gB kB bB .nil pass0 (pa_cons (pv 0) (pa_cons (pv 1) pa_nil))) (pa_cons (pe_ix (show IxR _ (rIxT K) from ix_tup) (pe_dgetX hu (pv 0) (pv 1) (fun _ _ => rfl)) pe_int (fun _ _ => rfl)) pa_nil)))
      (pss_one (ps_ret (pe_ifExp (pt_cmpR op_isN (pv 2) pe_non (nomark _)) pe_non (pe_lst (pa_cons (pe_tup (pa_cons (pv 1) (pa_cons pe_int pa_nil))) (StX.pa_star (pv 2) pa_nil))))))), ?_⟩
    refine ⟨_, rfl, _, rfl, F, tc, kvF, kOf c0, rfl, rfl, dxF, by rw [kOf_v]; exact htc, _, rfl, ?_⟩
    rw [if_pos rfl, hv0]
    refine iteF ?_
    refine ⟨_, rfl, _, rfl, F, tc, es, c0, e0, rfl, hF, nde, few, okk, m0, htc, fun H1 L kvs s1 nL dx pa => ⟨L, kvs, rfl, dx, ?_⟩⟩
    refine ⟨_, rfl, _, rfl, F, tc, kvF, kOf c0, _, rfl, rfl, dxF.same s1, by rw [kOf_v]; exact sqT_same htc s1, hv0, t, _, 0, .ref a, rfl, rfl, sqT_same ht s1, atI_nat (j := 0) rfl, ?_⟩
    refine ⟨L, a, kvs, kOf e0.1, rfl, rfl, dx, by rw [kOf_v]; exact sqT_same ha s1, ?_⟩
    rcases pa e0.1 with ⟨z, n⟩ | ⟨l, us, z, hl, ln, r⟩
    · rw [z]
      refine ⟨_, rfl, rfl, _, rfl, iteT (k H1 .non s1 (.inl ⟨rfl, n⟩))⟩
    · rw [z]
      refine ⟨_, rfl, rfl, _, rfl, iteF ⟨_, rfl, by show 2 ≤ sizeLine; decide, fun t2 nt2 => ?_⟩⟩
      have s2 := sm (o := .tup [L2.V.ref tc, .int 1]) nt2
      have hl2 := s2 _ _ hl
      generalize upd H1 t2 (.tup [L2.V.ref tc, .int 1]) = H2 at s2 hl2
      refine ⟨_, rfl, l, us, rfl, .inr (SqL.of hl2), ?_⟩
      refine ⟨by rw [sizeLine_eq]; show (us ++ []).length + 1 ≤ _; rw [List.append_nil]; omega, fun p np => k _ _ (s1.trans (s2.trans (sm np))) (.inr ⟨p, rfl, r⟩)⟩
theorem scRC : FnScope ["counters"] ["counters"] (defScope sReqC) := ⟨rfl, rfl, rfl, by decide +kernel, rfl, by decide +kernel, by decide +kernel⟩
def spRC (K : PySem.W.Frag) (CP CC : Addr) : Sp := fun vs H Q _ => ∃ (x dx y B : Addr) (d : PD) (cs : List (List Str)), vs = [.ref x] ∧ CtrAt K CP CC H x dx y B d cs ∧ Q .non H
theorem ok_rc {f : Addr} {fd : FuncData} (Fn : Fun K "require_counters" "require_counters" sReqC f fd) (T : PT0 mg) (Tc : CTc K mg CC) (Tt : PTt K CP) (Ct : CTt K CP CC) : FnOk P w K mg base CX0 1 f fd ["counters"] (spRC K CP CC) := by
  refine Fn.ok scRC (fun vs H Q E h => ?_) (fun cdv A outer s H vs Q E hr h => ?_)
  · obtain ⟨x, dx, y, B, d, cs, rfl, _⟩ := h
    rfl
  · obtain ⟨x, dx, y, B, d, cs, rfl, h, q⟩ := h
    refine ⟨_, pss_one (ps_if (pt_not (pt_val (pe_callB call_isi (by rfl) T.isi PyProof.Rows.boot_isinstance (pa_cons (pv 0) (pa_cons (pe_glob (v := .ref CC) (by rfl) Tc.gC rfl) pa_nil))))) pss_dead pss_nil), ?_⟩
    refine ⟨_, rfl, .ref x, .ref CC, _, _, true, rfl, .own CC, ty_ctr h Tc.cl Tt Ct, ?_, _, rfl, iteF q⟩
    unfold PySem.W.kitOne
    rw [if_pos (beq_self_eq_true _)]
abbrev nsUN : List Str := ["counters", "free", "target"]
theorem scUN : FnScope nsUN ["counters"] (defScope sUntold) := ⟨rfl, rfl, rfl, by decide +kernel, rfl, by decide +kernel, by decide +kernel⟩
def spUN (K : PySem.W.Frag) (CP CC aR aO : Addr) : Sp := fun vs H Q _ => ∃ (x dx y B : Addr) (d : PD) (cs : List (List Str)), vs = [.ref x] ∧ RA K aR H ∧ OA K aO H ∧ CtrAt K CP CC H x dx y B d cs ∧ PDg d ∧ CsIn d cs ∧ ∀ H' p us, Same H H' → H p = none → H' p = some (.lst us) → TupLs K H' us (untoldL (freeL d cs)) → Q (.ref p) H'
theorem keys_free {d : PD} (g : PDg d) (cs : List (List Str)) : (keysE (freeL d cs)).Nodup ∧ (freeL d cs).length ≤ 200 ∧ CsOk (keysE (freeL d cs)) := by
  have few := g.few
  have le : (edgesL d).length = (allC d).length := List.length_map _
  have sub : keysE (freeL d cs) = (allC d).filter fun c => !decide (c ∈ cs) := by
    unfold keysE freeL edgesL
    rw [List.filter_map, List.map_map]
    exact List.map_id' _
  refine ⟨by rw [sub]; exact g.nd.filter _, ?_, fun c hc => ?_⟩
  · have := List.length_filter_le (fun e : List Str × Ed => !decide (e.1 ∈ cs)) (edgesL d)
    unfold freeL
    omega
  · rw [sub] at hc
    exact g.cok c (List.mem_filter.mp hc).1
theorem ok_un {f fR fW fO : Addr} {fd fdR fdW fdO : FuncData} (Fn : Fun K "untold" "untold" sUntold f fd)
    (kR : PySem.W.keepIn K (.ref fR) = true) (bR : Binds K fdR ["counters"] []) (gR : mg "require_counters" = some (.ref fR)) (GR : FnOk P w K mg base CX0 1 fR fdR ["counters"] (spRC K CP CC))
    (kW : PySem.W.keepIn K (.ref fW) = true) (bW : Binds K fdW ["counters"] []) (gW : mg "edges_without" = some (.ref fW)) (GW : FnOk P w K mg base CX0 6 fW fdW ["counters"] (spEW P w K CP CC aR aO))
    (kO : PySem.W.keepIn K (.ref fO) = true) (bO : Binds K fdO ["free", "target"] []) (gO : mg "circle_of" = some (.ref fO)) (GO : FnOk P w K mg base CX0 4 fO fdO ["free", "target"] (spCO P w K)) : FnOk P w K mg base CX0 7 f fd ["counters"] (spUN K CP CC aR aO) := by
  refine Fn.ok scUN (fun vs H Q E h => ?_) (fun cdv A outer s H vs Q E hr h => ?_)
  · obtain ⟨x, dx, y, B, d, cs, rfl, _⟩ := h
    rfl
  · obtain ⟨x, dx, y, B, d, cs, rfl, ra, oa, hc, g, ic, k⟩ := h
    have nd := scUN.nd
    have hr1 : Room 1 _ := hr.mono (by decide)
    have hr4 : Room 4 _ := hr.mono (by decide)
    refine ⟨_, pss_cons (ps_expr (pe_call GR hr1 (by rfl) gR kR bR .nil pass0 (pa_cons (pv 0) pa_nil)))
      (pss_cons (ps_set (i := 1) nd rfl (Or.inr rfl) (pe_call GW hr (by rfl) gW kW bW .nil pass0 (pa_cons (pv 0) pa_nil)))
      (pss_one (ps_ret (pe_lc (own := [("target", 2)]) (g := gName 2) (tt := tTest (tOp (fun x y H Q => y = .non ∧ Q (.bl (!decide (x = .non))) H) (tCall (spCO P w K) [] E0 (tCons (tVar 1) (tCons (tVar 2) tNil))) (tC .non))) (te := tVar 2) rfl nd (pi_keysX (pv 1)) (blkOk_by (own := [("target", 2)]) (N := nsUN) (sc := defScope sUntold) (by decide +kernel)) (fun _ _ _ _ _ => pg_name (i := 2) nd rfl (Or.inl rfl)) (fun _ _ _ _ _ => pts_one (pt_cmpR op_notN (pe_call GO hr4 (by rfl) gO kO bO .nil pass0 (pa_cons (pv 1) (pa_cons (pv 2) pa_nil))) pe_non (nomark _))) (fun _ _ _ _ _ => pv 2))))), ?_⟩
    obtain ⟨nde, few, okk⟩ := keys_free g cs
    refine ⟨_, rfl, x, dx, y, B, d, cs, rfl, hc, ?_⟩
    refine ⟨_, rfl, x, dx, y, B, d, cs, rfl, ra, oa, hc, g, ic, fun H1 F s1 nF hF => ?_⟩
    obtain ⟨kvF, dxF, ptF⟩ := id hF
    have lF : kvF.length = (freeL d cs).length := edt_len ptF
    refine ⟨_, rfl, F, kvF, rfl, dxF, fun o xs hT kt => ?_⟩
    have lx : xs.length = (freeL d cs).length := by rw [← Paired.length kt, lF]
    intro D1 nD1
    refine lc_it (walk_keysX (xs := xs)) (fun j H' => Same H1 H' ∧ ∃ us, H' D1 = some (.lst us) ∧ TupLs K H' us (keysE (((freeL d cs).take j).filter (circB (freeL d cs))))) ⟨sm nD1, [], upd_same, .nil⟩ (fun j H' _ q => q.1 _ _ hT) ?_ ?_
    · rintro j v Ha Hb hj ⟨sa, us, hD, pt⟩ ⟨rfl, q, hq, rfl⟩
      obtain ⟨c, e, hce, sq⟩ := edt_at ptF kt hq
      have mce := List.mem_of_getElem? hce
      have sqb := sqT_same sq sa
      have tk : keysE (((freeL d cs).take (j + 1)).filter (circB (freeL d cs))) = keysE (((freeL d cs).take j).filter (circB (freeL d cs))) ++ (if circB (freeL d cs) (c, e) = true then [c] else []) := by
        rw [List.take_add_one, hce, List.filter_append]
        unfold keysE
        rw [List.map_append]
        congr 1
        show List.map _ (List.filter _ [(c, e)]) = _
        cases z : circB (freeL d cs) (c, e) with
        | true =>
          rw [List.filter_cons_of_pos z, if_pos rfl]
          rfl
        | false =>
          rw [List.filter_cons_of_neg (by rw [z]; decide), if_neg (by decide)]
          rfl
      have lus : us.length ≤ 200 := by
        rw [Paired.length pt]
        unfold keysE
        rw [List.length_map]
        have h1 := List.length_filter_le (circB (freeL d cs)) ((freeL d cs).take j)
        have h2 := List.length_take_le' j (freeL d cs)
        omega
      refine ⟨rfl, ?_⟩
      refine ⟨_, rfl, _, rfl, F, q.2.1, freeL d cs, c, e, rfl, hF.same sa, nde, few, okk, mce, sqb, fun Hc v sc hv => ⟨rfl, _, rfl, ?_⟩⟩
      have hDc := sc _ _ hD
      have ptc : TupLs K Hc us (keysE (((freeL d cs).take j).filter (circB (freeL d cs)))) := TupLs.same pt sc
      rcases hv with ⟨rfl, n⟩ | ⟨p, rfl, yes⟩
      · refine iteF ⟨sa.trans sc, us, hDc, ?_⟩
        rw [tk, circB_f n, if_neg (by decide), List.append_nil]
        exact ptc
      · refine iteT ⟨_, rfl, us, hDc, by rw [sizeLine_eq]; omega, fun b o z => ?_, us ++ [.ref q.2.1], upd_same, ?_⟩
        · rw [upd_ne (ne_of_none z nD1)]
          exact sc _ _ (sa _ _ z)
        · rw [tk, circB_t yes, if_pos rfl]
          have kp : ∀ {u : L2.V} {c : List Str}, TupT K Hc u c → TupT K (upd Hc D1 (.lst (us ++ [.ref q.2.1]))) u c := fun ⟨t, e, z⟩ => ⟨t, e, sqT_lst hDc z⟩
          exact paired_snoc (Paired.imp (fun _ _ z => kp z) ptc) (kp ⟨_, rfl, sqT_same sqb sc⟩)
    · rintro H2 ⟨s2, us, hD, pt⟩
      rw [lx, List.take_length] at pt
      exact k H2 D1 us (s1.trans s2) (RX.fr_of s1 nD1) hD pt
end
end TG


set_option Elab.async false
set_option linter.all false
set_option maxRecDepth 100000
set_option maxHeartbeats 4000000
/-! k13: plain facts: circles in a graph of edges -/
namespace TG
open PySem L2 PG OW CT EXC DCt DEq DTx DYx TZ
theorem rch_mono {S S' : STab} (h : ∀ s ∈ S, s ∈ S') {a p : Pt} (r : RchP S a p) : RchP S' a p := by
  induction r with
  | base => exact .base
  | step _ m ih => exact .step ih (h _ m)
theorem rch_trans {S : STab} {a b c : Pt} (h : RchP S a b) (h2 : RchP S b c) : RchP S a c := by
  induction h2 with
  | base => exact h
  | step _ m ih => exact .step ih m
theorem steps_sub {es es' : ETab} (h : ∀ x ∈ es, x ∈ es') {c : List Str} {s : NKey × Ed} (m : s ∈ stepsL es c) : s ∈ stepsL es' c := by
  obtain ⟨e, he, hs⟩ := List.mem_flatMap.mp m
  obtain ⟨h1, h2⟩ := List.mem_filter.mp he
  exact List.mem_flatMap.mpr ⟨e, List.mem_filter.mpr ⟨h e h1, h2⟩, hs⟩
theorem circ_mono {es es' : ETab} (h : ∀ x ∈ es, x ∈ es') {c : List Str} {e : Ed} (r : Circ es c e) : Circ es' c e := rch_mono (fun _ m => steps_sub h m) r
/-- both ends of another edge are on one side -/
theorem side_iff {es : ETab} {c cg : List Str} {eg : Ed} {a : Pt} (m : (cg, eg) ∈ es) (ne : cg ≠ c) : RchP (stepsL es c) a eg.1 ↔ RchP (stepsL es c) a eg.2 := by
  obtain ⟨h1, h2⟩ := steps_of m ne
  exact ⟨fun r => .step (s := ((cg, 1), eg)) r h1, fun r => .step (s := ((cg, -1), (eg.2, eg.1))) r h2⟩
inductive Path (S : STab) : Pt → Pt → Nat → Prop where
  | nil {a : Pt} : Path S a a 0
  | cons {s : NKey × Ed} {q : Pt} {n : Nat} (m : s ∈ S) (h : Path S s.2.2 q n) : Path S s.2.1 q (n + 1)
theorem Path.snoc {S : STab} {a p : Pt} {n : Nat} (h : Path S a p n) {s : NKey × Ed} (m : s ∈ S) (e : s.2.1 = p) : Path S a s.2.2 (n + 1) := by
  induction h with
  | nil =>
    rw [← e]
    exact .cons m .nil
  | cons m' _ ih => exact .cons m' (ih e)
theorem path_of {S : STab} {a p : Pt} (r : RchP S a p) : ∃ n, Path S a p n := by
  induction r with
  | base => exact ⟨0, .nil⟩
  | step _ m ih =>
    obtain ⟨n, h⟩ := ih
    exact ⟨n + 1, h.snoc m rfl⟩
theorem rch_cons {S : STab} {s : NKey × Ed} {q : Pt} (m : s ∈ S) (r : RchP S s.2.2 q) : RchP S s.2.1 q := rch_trans (.step .base m) r
/-- a path that comes in comes in by a step -/
theorem comes_in {S : STab} {v q : Pt} {n : Nat} (X : Pt → Prop) (h : Path S v q n) (nv : ¬ X v) (xq : X q) : ∃ s ∈ S, ∃ m, m < n ∧ ¬ X s.2.1 ∧ X s.2.2 ∧ Path S s.2.2 q m := by
  induction h with
  | nil => exact absurd xq nv
  | @cons s q n m h ih =>
    by_cases z : X s.2.2
    · exact ⟨s, m, n, Nat.lt_succ_self _, nv, z, h⟩
    · obtain ⟨s', m', k, lt, r⟩ := ih z xq
      exact ⟨s', m', k, Nat.lt_succ_of_lt lt, r⟩
/-- a bridge's side -/
def Side (es : ETab) (f : List Str × Ed) (p : Pt) : Prop := RchP (stepsL es f.1) f.2.2 p
theorem ends_of {es : ETab} {c : List Str} {s : NKey × Ed} (nd : (keysE es).Nodup) (m : s ∈ stepsL es c) : ∃ cg eg, (cg, eg) ∈ es ∧ cg ≠ c ∧ ((s.2.1 = eg.1 ∧ s.2.2 = eg.2) ∨ (s.2.1 = eg.2 ∧ s.2.2 = eg.1)) := by
  obtain ⟨cg, eg, h1, h2, h3⟩ := steps_mem m
  refine ⟨cg, eg, h1, h2, ?_⟩
  rcases h3 with e | e
  · exact .inl ⟨by rw [e], by rw [e]⟩
  · exact .inr ⟨by rw [e], by rw [e]⟩
theorem uniq {es : ETab} (nd : (keysE es).Nodup) {c : List Str} {e e' : Ed} (h : (c, e) ∈ es) (h' : (c, e') ∈ es) : e = e' := by
  obtain ⟨i, li, hi⟩ := List.getElem_of_mem h
  obtain ⟨j, lj, hj⟩ := List.getElem_of_mem h'
  have g1 : (keysE es)[i]? = some c := by
    unfold keysE
    rw [List.getElem?_map, List.getElem?_eq_getElem li, hi]
    rfl
  have g2 : (keysE es)[j]? = some c := by
    unfold keysE
    rw [List.getElem?_map, List.getElem?_eq_getElem lj, hj]
    rfl
  have z := (List.getElem?_inj (by unfold keysE; rw [List.length_map]; exact li) nd).mp (g1.trans g2.symm)
  subst z
  rw [hi] at hj
  exact congrArg Prod.snd hj
/-- what is reached beside c without crossing any bridge for good is reached without bridges -/
theorem no_bridges {es : ETab} (nd : (keysE es).Nodup) {c : List Str} : ∀ (n : Nat) (p q : Pt), Path (stepsL es c) p q n → (∀ f ∈ es, ¬ Circ es f.1 f.2 → (Side es f p ↔ Side es f q)) → RchP (stepsL (es.filter (circB es)) c) p q := by
  intro n
  induction n using Nat.strongRecOn with
  | _ n ih =>
    intro p q h sd
    cases h with
    | nil => exact .base
    | @cons s _ n m h =>
      obtain ⟨cg, eg, mg, neg, en⟩ := ends_of nd m
      by_cases ci : Circ es cg eg
      · have mg2 : (cg, eg) ∈ es.filter (circB es) := List.mem_filter.mpr ⟨mg, circB_t ci⟩
        have same : ∀ f ∈ es, ¬ Circ es f.1 f.2 → (Side es f s.2.2 ↔ Side es f q) := fun f hf nf => by
          have ne : cg ≠ f.1 := fun z => by
            have e := uniq nd (show (cg, f.2) ∈ es by rw [z]; exact hf) mg
            rw [← z, e] at nf
            exact nf ci
          have sw := side_iff (a := f.2.2) mg ne
          rw [← sd f hf nf]
          rcases en with ⟨e1, e2⟩ | ⟨e1, e2⟩
          · rw [e1, e2]
            exact sw.symm
          · rw [e1, e2]
            exact sw
        have r := ih n (Nat.lt_succ_self _) s.2.2 q h same
        obtain ⟨h1, h2⟩ := steps_of mg2 neg
        rcases en with ⟨e1, e2⟩ | ⟨e1, e2⟩
        · rw [e1]
          rw [e2] at r
          exact rch_cons (s := ((cg, 1), eg)) h1 r
        · rw [e1]
          rw [e2] at r
          exact rch_cons (s := ((cg, -1), (eg.2, eg.1))) h2 r
      · have sq := sd (cg, eg) mg ci
        have in2 : Side es (cg, eg) eg.2 := .base
        have out1 : ¬ Side es (cg, eg) eg.1 := ci
        -- a step that changes the side is this edge
        have only : ∀ s' ∈ stepsL es c, (Side es (cg, eg) s'.2.1 ↔ Side es (cg, eg) s'.2.2) ∨ ((s'.2.1 = eg.1 ∧ s'.2.2 = eg.2) ∨ (s'.2.1 = eg.2 ∧ s'.2.2 = eg.1)) := fun s' m' => by
          obtain ⟨ch, eh, mh, _, en'⟩ := ends_of nd m'
          by_cases z : ch = cg
          · subst z
            rw [uniq nd mh mg] at en'
            exact .inr en'
          · have sw := side_iff (a := eg.2) mh z
            left
            rcases en' with ⟨e1, e2⟩ | ⟨e1, e2⟩
            · rw [e1, e2]
              exact sw
            · rw [e1, e2]
              exact sw.symm
        rcases en with ⟨e1, e2⟩ | ⟨e1, e2⟩
        · rw [e1] at sq ⊢
          have nq : ¬ Side es (cg, eg) q := fun z => out1 (sq.mpr z)
          rw [e2] at h
          obtain ⟨s', m', k, lt, x1, x2, h'⟩ := comes_in (fun x => ¬ Side es (cg, eg) x) h (fun z => z in2) nq
          have x1' : Side es (cg, eg) s'.2.1 := Classical.not_not.mp x1
          rcases only s' m' with z | ⟨y1, y2⟩ | ⟨y1, y2⟩
          · exact absurd (z.mp x1') x2
          · rw [y1] at x1'
            exact absurd x1' out1
          · rw [y2] at h'
            exact ih k (by omega) eg.1 q h' (by rw [← e1]; exact sd)
        · rw [e1] at sq ⊢
          have yq : Side es (cg, eg) q := sq.mp in2
          rw [e2] at h
          obtain ⟨s', m', k, lt, x1, x2, h'⟩ := comes_in (fun x => Side es (cg, eg) x) h out1 yq
          rcases only s' m' with z | ⟨y1, y2⟩ | ⟨y1, y2⟩
          · exact absurd (z.mpr x2) x1
          · rw [y2] at h'
            exact ih k (by omega) eg.2 q h' (by rw [← e1]; exact sd)
          · rw [y1] at x1
            exact absurd in2 x1
/-- the edges on circles are on circles among themselves -/
theorem circ_self {es : ETab} (nd : (keysE es).Nodup) {c : List Str} {e : Ed} (m : (c, e) ∈ es) (h : Circ es c e) : Circ (es.filter (circB es)) c e := by
  obtain ⟨n, p⟩ := path_of h
  refine no_bridges nd n e.2 e.1 p fun f hf nf => ?_
  have ne : c ≠ f.1 := fun z => by
    have y := uniq nd (show (c, f.2) ∈ es by rw [z]; exact hf) m
    rw [← z, y] at nf
    exact nf h
  exact (side_iff (a := f.2.2) m ne).symm
end TG


set_option Elab.async false
set_option linter.all false
set_option maxRecDepth 100000
set_option maxHeartbeats 4000000
/-! k13: plain facts of what is not told -/
namespace TG
open PySem L2 PG OW CT EXC DCt DEq DTx DYx TZ
noncomputable def U (d : PD) (cs : List (List Str)) : List (List Str) := untoldL (freeL d cs)
theorem mem_free {d : PD} {cs : List (List Str)} {x : List Str × Ed} : x ∈ freeL d cs ↔ x.1 ∈ allC d ∧ x.1 ∉ cs ∧ x.2 = edF d x.1 := by
  unfold freeL edgesL
  rw [List.mem_filter]
  constructor
  · rintro ⟨h1, h2⟩
    obtain ⟨c, hc, rfl⟩ := List.mem_map.mp h1
    refine ⟨hc, fun z => ?_, rfl⟩
    have h3 : (!decide (c ∈ cs)) = true := h2
    rw [decide_eq_true z] at h3
    cases h3
  · rintro ⟨h1, h2, h3⟩
    obtain ⟨c, e⟩ := x
    refine ⟨List.mem_map.mpr ⟨c, h1, ?_⟩, ?_⟩
    · exact Prod.ext rfl h3.symm
    · show (!decide (c ∈ cs)) = true
      rw [decide_eq_false h2]
      rfl
theorem mem_U {d : PD} {cs : List (List Str)} {c : List Str} : c ∈ U d cs ↔ c ∈ allC d ∧ c ∉ cs ∧ Circ (freeL d cs) c (edF d c) := by
  unfold U untoldL keysE
  constructor
  · intro h
    obtain ⟨x, hx, rfl⟩ := List.mem_map.mp h
    obtain ⟨h1, h2⟩ := List.mem_filter.mp hx
    obtain ⟨a, b, e⟩ := mem_free.mp h1
    refine ⟨a, b, ?_⟩
    by_cases z : Circ (freeL d cs) x.1 x.2
    · rw [← e]
      exact z
    · rw [show x = (x.1, x.2) from rfl, circB_f z] at h2
      cases h2
  · rintro ⟨a, b, r⟩
    exact List.mem_map.mpr ⟨(c, edF d c), List.mem_filter.mpr ⟨mem_free.mpr ⟨a, b, rfl⟩, circB_t r⟩, rfl⟩
theorem U_filter (d : PD) (cs : List (List Str)) : U d cs = (allC d).filter fun c => decide (c ∈ U d cs) := by
  have e : U d cs = (allC d).filter fun c => (!decide (c ∈ cs)) && circB (freeL d cs) (c, edF d c) := by
    show keysE (((edgesL d).filter fun e => !decide (e.1 ∈ cs)).filter (circB (freeL d cs))) = _
    rw [List.filter_filter]
    unfold keysE
    conv => lhs; rw [edgesL]
    rw [List.filter_map, List.map_map]
    rw [show ((fun x : List Str × Ed => x.1) ∘ fun c => (c, edF d c)) = id from rfl, List.map_id]
    refine List.filter_congr fun c _ => ?_
    show (circB (freeL d cs) (c, edF d c) && !decide (c ∈ cs)) = _
    rw [Bool.and_comm]
  refine e.trans (List.filter_congr fun c hc => ?_)
  by_cases z : c ∈ U d cs
  · rw [decide_eq_true z]
    rw [e] at z
    exact (List.mem_filter.mp z).2
  · rw [decide_eq_false z]
    cases y : ((!decide (c ∈ cs)) && circB (freeL d cs) (c, edF d c)) with
    | false => rfl
    | true =>
      refine absurd ?_ z
      rw [e]
      exact List.mem_filter.mpr ⟨hc, y⟩
theorem U_ext {d : PD} {cs cs' : List (List Str)} (h : ∀ c, c ∈ U d cs ↔ c ∈ U d cs') : U d cs = U d cs' := by
  rw [U_filter d cs, U_filter d cs']
  exact List.filter_congr fun c _ => decide_eq_decide.mpr (h c)
theorem U_sub {d : PD} {cs : List (List Str)} {c : List Str} (h : c ∈ U d cs) : c ∈ allC d := (mem_U.mp h).1
theorem U_nd {d : PD} (g : PDg d) (cs : List (List Str)) : (U d cs).Nodup := by
  rw [U_filter]
  exact g.nd.filter _
/-- more counters, less untold -/
theorem U_mono {d : PD} {cs cs' : List (List Str)} (h : ∀ c ∈ allC d, c ∈ cs → c ∈ cs') {c : List Str} (m : c ∈ U d cs') : c ∈ U d cs := by
  obtain ⟨a, b, r⟩ := mem_U.mp m
  refine mem_U.mpr ⟨a, fun z => b (h c a z), circ_mono (fun x hx => ?_) r⟩
  obtain ⟨x1, x2, x3⟩ := mem_free.mp hx
  exact mem_free.mpr ⟨x1, fun z => x2 (h _ x1 z), x3⟩
theorem U_not {d : PD} {cs : List (List Str)} {c : List Str} (m : c ∈ cs) : c ∉ U d cs := fun z => (mem_U.mp z).2.1 m
/-- told counters put in -/
theorem U_closed {d : PD} (g : PDg d) {cs cs' : List (List Str)} (h : ∀ c ∈ allC d, c ∈ cs' ↔ c ∉ U d cs) : U d cs' = U d cs := by
  have nd := (keys_free g cs).1
  have ef : freeL d cs' = (freeL d cs).filter (circB (freeL d cs)) := by
    unfold freeL
    rw [List.filter_filter]
    refine List.filter_congr fun x hx => ?_
    obtain ⟨c, hc, rfl⟩ := List.mem_map.mp (show x ∈ (allC d).map _ from hx)
    by_cases z : c ∈ U d cs
    · obtain ⟨_, b, r⟩ := mem_U.mp z
      show (!decide (c ∈ cs')) = (circB (freeL d cs) (c, edF d c) && !decide (c ∈ cs))
      rw [decide_eq_false (fun y => (h c hc).mp y z), decide_eq_false b, circB_t r]
      rfl
    · show (!decide (c ∈ cs')) = (circB (freeL d cs) (c, edF d c) && !decide (c ∈ cs))
      rw [decide_eq_true ((h c hc).mpr z)]
      by_cases y : c ∈ cs
      · rw [decide_eq_true y, show (!true) = false from rfl, Bool.and_false]
      · rw [circB_f fun r => z (mem_U.mpr ⟨hc, y, r⟩), Bool.false_and]
        rfl
  refine U_ext fun c => ⟨fun m => ?_, fun m => ?_⟩
  · obtain ⟨a, b, _⟩ := mem_U.mp m
    by_cases z : c ∈ U d cs
    · exact z
    · exact absurd ((h c a).mpr z) b
  · obtain ⟨a, b, r⟩ := mem_U.mp m
    refine mem_U.mpr ⟨a, fun z => (h c a).mp z m, ?_⟩
    rw [ef]
    exact circ_self nd (mem_free.mpr ⟨a, b, rfl⟩) r
/-- one untold counter more -/
theorem U_again {d : PD} (g : PDg d) {cs cs' : List (List Str)} {m0 : List Str} (h0 : m0 ∈ U d cs) (h : ∀ c ∈ allC d, c ∈ cs' ↔ (c ∈ cs ∨ c = m0)) : m0 ∉ U d cs' ∧ (U d cs').length < (U d cs).length := by
  have n0 : m0 ∉ U d cs' := U_not ((h m0 (U_sub h0)).mpr (.inr rfl))
  refine ⟨n0, ?_⟩
  have sub : ∀ c ∈ m0 :: U d cs', c ∈ U d cs := fun c hc => by
    rcases List.mem_cons.mp hc with e | hc
    · rw [e]
      exact h0
    · exact U_mono (fun c a m => (h c a).mpr (.inl m)) hc
  have z := nodup_leC (List.nodup_cons.mpr ⟨n0, U_nd g cs'⟩) sub
  rw [List.length_cons] at z
  omega
theorem U_all {d : PD} {cs : List (List Str)} (h : ∀ c ∈ allC d, c ∈ cs) : U d cs = [] := by
  rw [U_filter]
  refine List.filter_eq_nil_iff.mpr fun c hc z => ?_
  exact U_not (h c hc) (of_decide_eq_true z)
/-! ### two forests -/
theorem inj1 {t x t' x' : Str} (h : ([t, x] : Pt) = [t', x']) : t = t' ∧ x = x' := by
  injection h with h1 h2
  injection h2 with h2 _
  exact ⟨h1, h2⟩
theorem io {x y : Str} : inP x ≠ outP y := fun z => absurd (inj1 z).1 (by decide +kernel)
theorem is {x : Str} : inP x ≠ outside := fun z => by
  injection z with _ z
  cases z
theorem os {x : Str} : outP x ≠ outside := fun z => by
  injection z with _ z
  cases z
theorem rch_out {S : STab} {a p : Pt} (Z : Pt → Prop) (na : ¬ Z a) (cl : ∀ s ∈ S, ¬ Z s.2.1 → ¬ Z s.2.2) (r : RchP S a p) : ¬ Z p := by
  induction r with
  | base => exact na
  | step _ m ih => exact cl _ m ih
theorem nil_of {d : PD} {cs : List (List Str)} (h : ∀ c ∈ allC d, c ∉ cs → ¬ Circ (freeL d cs) c (edF d c)) : U d cs = [] := by
  rw [U_filter]
  refine List.filter_eq_nil_iff.mpr fun c hc z => ?_
  obtain ⟨a, b, r⟩ := mem_U.mp (of_decide_eq_true z)
  exact h c a b r
theorem step_ends {d : PD} {cs : List (List Str)} {c : List Str} {s : NKey × Ed} (m : s ∈ stepsL (freeL d cs) c) : ∃ cg, cg ∈ allC d ∧ cg ∉ cs ∧ cg ≠ c ∧ ((s.2.1 = (edF d cg).1 ∧ s.2.2 = (edF d cg).2) ∨ (s.2.1 = (edF d cg).2 ∧ s.2.2 = (edF d cg).1)) := by
  obtain ⟨cg, eg, h1, h2, h3⟩ := steps_mem m
  obtain ⟨a, b, e⟩ := mem_free.mp h1
  have e' : eg = edF d cg := e
  subst e'
  refine ⟨cg, a, b, h2, ?_⟩
  rcases h3 with e | e
  · exact .inl ⟨by rw [e], by rw [e]⟩
  · exact .inr ⟨by rw [e], by rw [e]⟩
theorem U_edges {d : PD} {cs : List (List Str)} (h : ∀ c ∈ allC d, c ∉ cs → (∃ x, c = [("place" : Str), x]) ∨ ∃ x, c = [("stop" : Str), x]) : U d cs = [] := by
  refine nil_of fun c hc nc r => ?_
  rcases h c hc nc with ⟨x, rfl⟩ | ⟨x, rfl⟩
  · rw [edF_place] at r
    refine rch_out (fun p => p = inP x) (fun z => io z.symm) (fun s hs _ z => ?_) r rfl
    obtain ⟨cg, a, b, ne, en⟩ := step_ends hs
    rcases h cg a b with ⟨y, rfl⟩ | ⟨y, rfl⟩
    · have nxy : y ≠ x := fun e => ne (by rw [e])
      rw [edF_place] at en
      rcases en with ⟨_, e2⟩ | ⟨_, e2⟩
      · exact io (z.symm.trans e2)
      · exact nxy (inj1 (e2.symm.trans z)).2
    · rw [edF_stop] at en
      rcases en with ⟨_, e2⟩ | ⟨_, e2⟩
      · exact is (z.symm.trans e2)
      · exact io (z.symm.trans e2)
  · rw [edF_stop] at r
    refine rch_out (fun p => p = outP x ∨ p = inP x) (fun z => z.elim (fun y => os y.symm) fun y => is y.symm) (fun s hs nz z => ?_) r (.inl rfl)
    obtain ⟨cg, a, b, ne, en⟩ := step_ends hs
    rcases h cg a b with ⟨y, rfl⟩ | ⟨y, rfl⟩
    · rw [edF_place] at en
      by_cases e : y = x
      · subst e
        rcases en with ⟨e1, _⟩ | ⟨e1, _⟩
        · exact nz (.inr e1)
        · exact nz (.inl e1)
      · rcases en with ⟨_, e2⟩ | ⟨_, e2⟩
        · rcases z with z | z
          · exact e (inj1 (e2.symm.trans z)).2
          · exact io (z.symm.trans e2)
        · rcases z with z | z
          · exact io (e2.symm.trans z)
          · exact e (inj1 (e2.symm.trans z)).2
    · have nxy : y ≠ x := fun e => ne (by rw [e])
      rw [edF_stop] at en
      rcases en with ⟨_, e2⟩ | ⟨_, e2⟩
      · rcases z with z | z
        · exact os (z.symm.trans e2)
        · exact is (z.symm.trans e2)
      · rcases z with z | z
        · exact nxy (inj1 (e2.symm.trans z)).2
        · exact io (z.symm.trans e2)
theorem edF_runs (d : PD) : edF d [("runs" : Str)] = (outside, inP d.b) := rfl
theorem U_stops {d : PD} {cs : List (List Str)} (h : ∀ c ∈ allC d, c ∉ cs → (∃ x, c = [("place" : Str), x]) ∨ c = [("runs" : Str)]) : U d cs = [] := by
  refine nil_of fun c hc nc r => ?_
  rcases h c hc nc with ⟨x, rfl⟩ | rfl
  · rw [edF_place] at r
    refine rch_out (fun p => p ≠ outP x) (fun z => z rfl) (fun s hs nz => ?_) r io
    have e1 : s.2.1 = outP x := Classical.not_not.mp nz
    obtain ⟨cg, a, b, ne, en⟩ := step_ends hs
    rcases h cg a b with ⟨y, rfl⟩ | rfl
    · have nxy : y ≠ x := fun e => ne (by rw [e])
      rw [edF_place] at en
      rcases en with ⟨e, _⟩ | ⟨e, _⟩
      · exact absurd (e.symm.trans e1) io
      · exact absurd (inj1 (e.symm.trans e1)).2 nxy
    · rw [edF_runs] at en
      rcases en with ⟨e, _⟩ | ⟨e, _⟩
      · exact absurd (e1.symm.trans e) os
      · exact absurd (e.symm.trans e1) io
  · rw [edF_runs] at r
    refine rch_out (fun p => p = outside) is (fun s hs _ z => ?_) r rfl
    obtain ⟨cg, a, b, ne, en⟩ := step_ends hs
    rcases h cg a b with ⟨y, rfl⟩ | rfl
    · rw [edF_place] at en
      rcases en with ⟨_, e⟩ | ⟨_, e⟩
      · exact os (e.symm.trans z)
      · exact is (e.symm.trans z)
    · exact ne rfl
end TG


set_option Elab.async false
set_option linter.all false
set_option maxRecDepth 100000
set_option maxHeartbeats 4000000
/-! k47: plain: a way doubled, a way split -/
namespace TL
open PySem L2 PG OW CT EXC DCt DEq DTx DYx TZ TG
/-- two points at the ends of a free edge other than c -/
def Adj (d : PD) (cs : List (List Str)) (c : List Str) (p q : Pt) : Prop := ∃ cg, cg ∈ allC d ∧ cg ∉ cs ∧ cg ≠ c ∧ ((p = (edF d cg).1 ∧ q = (edF d cg).2) ∨ (p = (edF d cg).2 ∧ q = (edF d cg).1))
inductive Rt (R : Pt → Pt → Prop) (a : Pt) : Pt → Prop where
  | base : Rt R a a
  | step {p q : Pt} (h : Rt R a p) (r : R p q) : Rt R a q
theorem Rt.one {R : Pt → Pt → Prop} {a b : Pt} (r : R a b) : Rt R a b := .step .base r
theorem Rt.trans {R : Pt → Pt → Prop} {a b c : Pt} (h : Rt R a b) (h2 : Rt R b c) : Rt R a c := by
  induction h2 with
  | base => exact h
  | step _ r ih => exact .step ih r
/-- a walk is carried over where each step is carried over -/
theorem Rt.map {R S : Pt → Pt → Prop} (f : Pt → Pt) (h : ∀ p q, R p q → Rt S (f p) (f q)) {a b : Pt} (r : Rt R a b) : Rt S (f a) (f b) := by
  induction r with
  | base => exact .base
  | step _ r ih => exact ih.trans (h _ _ r)
theorem Rt.imp {R S : Pt → Pt → Prop} (h : ∀ p q, R p q → Rt S p q) {a b : Pt} (r : Rt R a b) : Rt S a b := Rt.map (fun p => p) h r
theorem rch_rt {d : PD} {cs : List (List Str)} {c : List Str} {a p : Pt} : RchP (stepsL (freeL d cs) c) a p ↔ Rt (Adj d cs c) a p := by
  constructor
  · intro h
    induction h with
    | base => exact .base
    | step h m ih => 
      obtain ⟨cg, h1, h2, h3, h4⟩ := step_ends m
      exact .step ih ⟨cg, h1, h2, h3, h4⟩
  · intro h
    induction h with
    | base => exact .base
    | step h r ih =>
      obtain ⟨cg, h1, h2, h3, h4⟩ := r
      obtain ⟨m1, m2⟩ := steps_of (mem_free (x := (cg, edF d cg)).mpr ⟨h1, h2, rfl⟩) h3
      rcases h4 with ⟨rfl, rfl⟩ | ⟨rfl, rfl⟩
      · exact RchP.step (s := ((cg, 1), edF d cg)) ih m1
      · exact RchP.step (s := ((cg, -1), ((edF d cg).2, (edF d cg).1))) ih m2
theorem mem_Ur {d : PD} {cs : List (List Str)} {c : List Str} : c ∈ U d cs ↔ c ∈ allC d ∧ c ∉ cs ∧ Rt (Adj d cs c) (edF d c).2 (edF d c).1 := by
  rw [mem_U]
  unfold Circ
  rw [rch_rt]
/-- what a table with one edge more, beside another one, tells -/
structure Twin (d d' : PD) (w z : List Str) : Prop where
  all : ∀ c, c ∈ allC d' ↔ c ∈ allC d ∨ c = z
  ed : ∀ c ∈ allC d, edF d' c = edF d c
  ez : edF d' z = edF d w
  mw : w ∈ allC d
  nz : z ∉ allC d
section
variable {d d' : PD} {w z : List Str} {cs : List (List Str)} {c : List Str}
theorem Twin.ne (T : Twin d d' w z) : w ≠ z := fun e => T.nz (e ▸ T.mw)
theorem Twin.keep (T : Twin d d' w z) {p q : Pt} (a : Adj d cs c p q) : Adj d' cs c p q := by
  obtain ⟨cg, h1, h2, h3, h4⟩ := a
  exact ⟨cg, (T.all cg).mpr (.inl h1), h2, h3, by rw [T.ed cg h1]; exact h4⟩
theorem Twin.back (T : Twin d d' w z) (nw : w ∉ cs) (hc : c ≠ w) {p q : Pt} (a : Adj d' cs c p q) : Adj d cs c p q := by
  obtain ⟨cg, h1, h2, h3, h4⟩ := a
  rcases (T.all cg).mp h1 with m | rfl
  · exact ⟨cg, m, h2, h3, by rw [← T.ed cg m]; exact h4⟩
  · exact ⟨w, T.mw, nw, fun e => hc e.symm, by rw [← T.ez]; exact h4⟩
theorem Twin.other (T : Twin d d' w z) (nw : w ∉ cs) (h1 : c ≠ w) (h2 : c ≠ z) : c ∈ U d' cs ↔ c ∈ U d cs := by
  rw [mem_Ur, mem_Ur]
  constructor
  · rintro ⟨a, n, r⟩
    have m := ((T.all c).mp a).resolve_right h2
    rw [T.ed c m] at r
    exact ⟨m, n, r.imp fun p q s => .one (T.back nw h1 s)⟩
  · rintro ⟨m, n, r⟩
    refine ⟨(T.all c).mpr (.inl m), n, ?_⟩
    rw [T.ed c m]
    exact r.imp fun p q s => .one (T.keep s)
theorem Twin.first (T : Twin d d' w z) (nw : w ∉ cs) (nz : z ∉ cs) : w ∈ U d' cs := by
  refine mem_Ur.mpr ⟨(T.all w).mpr (.inl T.mw), nw, .one ⟨z, (T.all z).mpr (.inr rfl), nz, fun e => T.ne e.symm, .inr ?_⟩⟩
  rw [T.ed w T.mw, T.ez]
  exact ⟨rfl, rfl⟩
theorem Twin.second (T : Twin d d' w z) (nw : w ∉ cs) (nz : z ∉ cs) : z ∈ U d' cs := by
  refine mem_Ur.mpr ⟨(T.all z).mpr (.inr rfl), nz, .one ⟨w, (T.all w).mpr (.inl T.mw), nw, T.ne, .inr ?_⟩⟩
  rw [T.ed w T.mw, T.ez]
  exact ⟨rfl, rfl⟩
theorem Twin.len (T : Twin d d' w z) (g : PDg d) (g' : PDg d') (nw : w ∉ cs) (nz : z ∉ cs) (m : w ∈ U d cs) : (U d' cs).length = (U d cs).length + 1 := by
  have nzU : z ∉ U d cs := fun h => T.nz (U_sub h)
  have a := nodup_leC (U_nd g' cs) (ys := z :: U d cs) fun x hx => by
    by_cases h2 : x = z
    · rw [h2]; exact List.mem_cons_self
    · by_cases h1 : x = w
      · rw [h1]; exact List.mem_cons_of_mem _ m
      · exact List.mem_cons_of_mem _ ((T.other nw h1 h2).mp hx)
  have b := nodup_leC (List.nodup_cons.mpr ⟨nzU, U_nd g cs⟩) (ys := U d' cs) fun x hx => by
    rcases List.mem_cons.mp hx with rfl | hx
    · exact T.second nw nz
    · by_cases h1 : x = w
      · rw [h1]; exact T.first nw nz
      · exact (T.other nw h1 fun e => nzU (e ▸ hx)).mpr hx
  simp only [List.length_cons] at a b
  omega
end
/-- what a table with one edge put in three pieces tells: x and y are the new points -/
structure Split (d d' : PD) (w a m b : List Str) (s x y t : Pt) : Prop where
  all : ∀ c, c ∈ allC d' ↔ (c ∈ allC d ∧ c ≠ w) ∨ c = a ∨ c = m ∨ c = b
  ed : ∀ c ∈ allC d, c ≠ w → edF d' c = edF d c
  ew : edF d w = (s, t)
  ea : edF d' a = (s, x)
  em : edF d' m = (x, y)
  eb : edF d' b = (y, t)
  mw : w ∈ allC d
  na : a ∉ allC d
  nm : m ∉ allC d
  nb : b ∉ allC d
  am : a ≠ m
  ab : a ≠ b
  mb : m ≠ b
  xy : x ≠ y
  fx : ∀ c ∈ allC d, (edF d c).1 ≠ x ∧ (edF d c).2 ≠ x ∧ (edF d c).1 ≠ y ∧ (edF d c).2 ≠ y
open Classical in
noncomputable def pj (x y fx fy : Pt) (p : Pt) : Pt := if p = x then fx else if p = y then fy else p
theorem pj_x {x y fx fy : Pt} : pj x y fx fy x = fx := if_pos rfl
theorem pj_y {x y fx fy : Pt} (h : x ≠ y) : pj x y fx fy y = fy := by
  unfold pj
  rw [if_neg (fun e => h e.symm), if_pos rfl]
theorem pj_n {x y fx fy p : Pt} (h1 : p ≠ x) (h2 : p ≠ y) : pj x y fx fy p = p := by
  unfold pj
  rw [if_neg h1, if_neg h2]
section
variable {d d' : PD} {w a m b : List Str} {s x y t : Pt} {cs : List (List Str)} {c : List Str}
theorem Adj.symm {p q : Pt} (h : Adj d cs c p q) : Adj d cs c q p := by
  obtain ⟨cg, h1, h2, h3, h4⟩ := h
  exact ⟨cg, h1, h2, h3, h4.elim (fun z => .inr ⟨z.2, z.1⟩) fun z => .inl ⟨z.2, z.1⟩⟩
/-- both ends of each step of the split table, seen through a map that holds the old points -/
theorem Split.map (T : Split d d' w a m b s x y t) {fx fy : Pt} {S : Pt → Pt → Prop} (sy : ∀ p q, S p q → S q p)
    (h : ∀ cg, cg ∈ allC d → cg ≠ w → cg ∉ cs → cg ≠ c → Rt S (edF d cg).1 (edF d cg).2)
    (ha : a ≠ c → Rt S s fx) (hm : m ≠ c → Rt S fx fy) (hb : b ≠ c → Rt S fy t) {p q : Pt} (r : Rt (Adj d' cs c) p q) : Rt S (pj x y fx fy p) (pj x y fx fy q) := by
  have rs : ∀ {p q}, Rt S p q → Rt S q p := fun {p q} r => by
    induction r with
    | base => exact .base
    | step _ r ih => exact (Rt.one (sy _ _ r)).trans ih
  obtain ⟨s1, s2, s3, s4⟩ := T.fx w T.mw
  rw [T.ew] at s1 s2 s3 s4
  have ps : pj x y fx fy s = s := pj_n s1 s3
  have pt : pj x y fx fy t = t := pj_n s2 s4
  refine Rt.map _ (fun p q ad => ?_) r
  obtain ⟨cg, h1, h2, h3, h4⟩ := ad
  have key : Rt S (pj x y fx fy (edF d' cg).1) (pj x y fx fy (edF d' cg).2) := by
    rcases (T.all cg).mp h1 with ⟨k1, k2⟩ | rfl | rfl | rfl
    · obtain ⟨f1, f2, f3, f4⟩ := T.fx cg k1
      rw [T.ed cg k1 k2, pj_n f1 f3, pj_n f2 f4]
      exact h cg k1 k2 h2 h3
    · rw [T.ea, ps, pj_x]
      exact ha h3
    · rw [T.em, pj_x, pj_y T.xy]
      exact hm h3
    · rw [T.eb, pj_y T.xy, pt]
      exact hb h3
  rcases h4 with ⟨rfl, rfl⟩ | ⟨rfl, rfl⟩
  · exact key
  · exact rs key
theorem Split.ed_a (T : Split d d' w a m b s x y t) (n : a ∉ cs) (h : a ≠ c) : Adj d' cs c s x := ⟨a, (T.all a).mpr (.inr (.inl rfl)), n, h, .inl (by rw [T.ea]; exact ⟨rfl, rfl⟩)⟩
theorem Split.ed_m (T : Split d d' w a m b s x y t) (n : m ∉ cs) (h : m ≠ c) : Adj d' cs c x y := ⟨m, (T.all m).mpr (.inr (.inr (.inl rfl))), n, h, .inl (by rw [T.em]; exact ⟨rfl, rfl⟩)⟩
theorem Split.ed_b (T : Split d d' w a m b s x y t) (n : b ∉ cs) (h : b ≠ c) : Adj d' cs c y t := ⟨b, (T.all b).mpr (.inr (.inr (.inr rfl))), n, h, .inl (by rw [T.eb]; exact ⟨rfl, rfl⟩)⟩
theorem Split.keep (T : Split d d' w a m b s x y t) {c' : List Str} (hc : ∀ cg ∈ allC d, cg ≠ w → cg ≠ c → cg ≠ c') {p q : Pt} (h : ∃ cg, cg ∈ allC d ∧ cg ≠ w ∧ cg ∉ cs ∧ cg ≠ c ∧ ((p = (edF d cg).1 ∧ q = (edF d cg).2) ∨ (p = (edF d cg).2 ∧ q = (edF d cg).1))) : Adj d' cs c' p q := by
  obtain ⟨cg, h1, h2, h3, h4, h5⟩ := h
  exact ⟨cg, (T.all cg).mpr (.inl ⟨h1, h2⟩), h3, hc cg h1 h2 h4, by rw [T.ed cg h1 h2]; exact h5⟩
/-- the counters that stay -/
theorem Split.other (T : Split d d' w a m b s x y t) (nw : w ∉ cs) (na : a ∉ cs) (nm : m ∉ cs) (nb : b ∉ cs) (hc : c ∈ allC d) (h1 : c ≠ w) : c ∈ U d' cs ↔ c ∈ U d cs := by
  have ca : a ≠ c := fun e => T.na (e ▸ hc)
  have cm : m ≠ c := fun e => T.nm (e ▸ hc)
  have cb : b ≠ c := fun e => T.nb (e ▸ hc)
  obtain ⟨f1, f2, f3, f4⟩ := T.fx c hc
  rw [mem_Ur, mem_Ur, T.ed c hc h1]
  have wst : Adj d cs c s t := ⟨w, T.mw, nw, fun e => h1 e.symm, .inl (by rw [T.ew]; exact ⟨rfl, rfl⟩)⟩
  constructor
  · rintro ⟨_, n, r⟩
    refine ⟨hc, n, ?_⟩
    have z := T.map (S := Adj d cs c) (fx := t) (fy := t) (fun p q h => h.symm) (fun cg k1 k2 k3 k4 => .one ⟨cg, k1, k3, k4, .inl ⟨rfl, rfl⟩⟩) (fun _ => .one wst) (fun _ => .base) (fun _ => .base) r
    rw [pj_n f2 f4, pj_n f1 f3] at z
    exact z
  · rintro ⟨_, n, r⟩
    refine ⟨(T.all c).mpr (.inl ⟨hc, h1⟩), n, r.imp fun p q ad => ?_⟩
    obtain ⟨cg, k1, k2, k3, k4⟩ := ad
    by_cases e : cg = w
    · subst e
      have one := (Rt.one (T.ed_a na ca)).trans ((Rt.one (T.ed_m nm cm)).trans (Rt.one (T.ed_b nb cb)))
      have two := (Rt.one (T.ed_b nb cb).symm).trans ((Rt.one (T.ed_m nm cm).symm).trans (Rt.one (T.ed_a na ca).symm))
      rw [T.ew] at k4
      rcases k4 with ⟨rfl, rfl⟩ | ⟨rfl, rfl⟩
      · exact one
      · exact two
    · exact .one (T.keep (c := c) (fun _ _ _ z => z) ⟨cg, k1, e, k2, k3, k4⟩)
/-- each of the three pieces is as the whole was -/
theorem Split.back (T : Split d d' w a m b s x y t) {fx fy : Pt} (ha : a ≠ c → s = fx) (hm : m ≠ c → fx = fy) (hb : b ≠ c → fy = t) {p q : Pt} (r : Rt (Adj d' cs c) p q) : Rt (Adj d cs w) (pj x y fx fy p) (pj x y fx fy q) :=
  T.map (S := Adj d cs w) (fun p q h => h.symm) (fun cg k1 k2 k3 _ => .one ⟨cg, k1, k3, k2, .inl ⟨rfl, rfl⟩⟩) (fun z => by rw [ha z]; exact .base) (fun z => by rw [hm z]; exact .base) (fun z => by rw [hb z]; exact .base) r
theorem Split.on (T : Split d d' w a m b s x y t) (hc : c ∉ allC d) {p q : Pt} (r : Rt (Adj d cs w) p q) : Rt (Adj d' cs c) p q := r.imp fun p q ad => by
  obtain ⟨cg, k1, k2, k3, k4⟩ := ad
  exact .one (T.keep (c := w) (c' := c) (fun cg h _ _ e => hc (e ▸ h)) ⟨cg, k1, k3, k2, k3, k4⟩)
theorem Split.pieces (T : Split d d' w a m b s x y t) (nw : w ∉ cs) (na : a ∉ cs) (nm : m ∉ cs) (nb : b ∉ cs) : (a ∈ U d' cs ↔ w ∈ U d cs) ∧ (m ∈ U d' cs ↔ w ∈ U d cs) ∧ (b ∈ U d' cs ↔ w ∈ U d cs) := by
  obtain ⟨s1, s2, s3, s4⟩ := T.fx w T.mw
  rw [T.ew] at s1 s2 s3 s4
  have wU : w ∈ U d cs ↔ Rt (Adj d cs w) t s := by
    rw [mem_Ur, T.ew]
    exact ⟨fun h => h.2.2, fun h => ⟨T.mw, nw, h⟩⟩
  refine ⟨?_, ?_, ?_⟩
  · rw [wU, mem_Ur, T.ea]
    constructor
    · rintro ⟨_, _, r⟩
      have z := T.back (fx := t) (fy := t) (fun z => absurd rfl z) (fun _ => rfl) (fun _ => rfl) r
      rw [pj_x, pj_n s1 s3] at z
      exact z
    · intro r
      exact ⟨(T.all a).mpr (.inr (.inl rfl)), na, (Rt.one (T.ed_m nm fun e => T.am e.symm)).trans ((Rt.one (T.ed_b nb fun e => T.ab e.symm)).trans (T.on T.na r))⟩
  · rw [wU, mem_Ur, T.em]
    constructor
    · rintro ⟨_, _, r⟩
      have z := T.back (fx := s) (fy := t) (fun _ => rfl) (fun z => absurd rfl z) (fun _ => rfl) r
      rw [pj_x, pj_y T.xy] at z
      exact z
    · intro r
      exact ⟨(T.all m).mpr (.inr (.inr (.inl rfl))), nm, (Rt.one (T.ed_b nb fun e => T.mb e.symm)).trans ((T.on T.nm r).trans (Rt.one (T.ed_a na T.am)))⟩
  · rw [wU, mem_Ur, T.eb]
    constructor
    · rintro ⟨_, _, r⟩
      have z := T.back (fx := s) (fy := s) (fun _ => rfl) (fun _ => rfl) (fun z => absurd rfl z) r
      rw [pj_y T.xy, pj_n s2 s4] at z
      exact z
    · intro r
      exact ⟨(T.all b).mpr (.inr (.inr (.inr rfl))), nb, (T.on T.nb r).trans ((Rt.one (T.ed_a na T.ab)).trans (Rt.one (T.ed_m nm T.mb)))⟩
theorem Split.len (T : Split d d' w a m b s x y t) (g : PDg d) (g' : PDg d') (nw : w ∉ cs) (na : a ∉ cs) (nm : m ∉ cs) (nb : b ∉ cs) : (U d' cs).length = (U d cs).length + (if w ∈ U d cs then 2 else 0) := by
  obtain ⟨pa, pm, pb⟩ := T.pieces nw na nm nb
  have old : ∀ c, c ∈ U d' cs → c ≠ a → c ≠ m → c ≠ b → c ∈ allC d ∧ c ≠ w := fun c h h1 h2 h3 => ((T.all c).mp (U_sub h)).elim id fun z => z.elim (fun e => absurd e h1) fun z => z.elim (fun e => absurd e h2) fun e => absurd e h3
  by_cases hw : w ∈ U d cs
  · rw [if_pos hw]
    have nwd : ((U d cs).filter fun c => !decide (c = w)).length + 1 = (U d cs).length := by
      have ndU := U_nd g cs
      have e1 := nodup_leC (xs := w :: (U d cs).filter fun c => !decide (c = w)) (ys := U d cs) (List.nodup_cons.mpr ⟨fun z => by simpa using (List.mem_filter.mp z).2, ndU.filter _⟩) fun c hc => by
        rcases List.mem_cons.mp hc with rfl | hc
        · exact hw
        · exact (List.mem_filter.mp hc).1
      have e2 := nodup_leC (xs := U d cs) (ys := w :: (U d cs).filter fun c => !decide (c = w)) ndU fun c hc => by
        by_cases e : c = w
        · rw [e]; exact List.mem_cons_self
        · exact List.mem_cons_of_mem _ (List.mem_filter.mpr ⟨hc, by simpa using e⟩)
      simp only [List.length_cons] at e1 e2
      omega
    have f1 := nodup_leC (xs := U d' cs) (ys := a :: m :: b :: (U d cs).filter fun c => !decide (c = w)) (U_nd g' cs) fun c hc => by
      by_cases e1 : c = a
      · rw [e1]; exact List.mem_cons_self
      by_cases e2 : c = m
      · rw [e2]; exact List.mem_cons_of_mem _ List.mem_cons_self
      by_cases e3 : c = b
      · rw [e3]; exact List.mem_cons_of_mem _ (List.mem_cons_of_mem _ List.mem_cons_self)
      obtain ⟨k1, k2⟩ := old c hc e1 e2 e3
      exact List.mem_cons_of_mem _ (List.mem_cons_of_mem _ (List.mem_cons_of_mem _ (List.mem_filter.mpr ⟨(T.other nw na nm nb k1 k2).mp hc, by simpa using k2⟩)))
    have nU : ∀ {c}, c ∉ allC d → c ∉ (U d cs).filter fun c => !decide (c = w) := fun n z => n (U_sub (List.mem_filter.mp z).1)
    have f2 := nodup_leC (xs := a :: m :: b :: (U d cs).filter fun c => !decide (c = w)) (ys := U d' cs)
      (List.nodup_cons.mpr ⟨by simp only [List.mem_cons, not_or]; exact ⟨T.am, T.ab, nU T.na⟩, List.nodup_cons.mpr ⟨by simp only [List.mem_cons, not_or]; exact ⟨T.mb, nU T.nm⟩, List.nodup_cons.mpr ⟨nU T.nb, (U_nd g cs).filter _⟩⟩⟩) fun c hc => by
      rcases List.mem_cons.mp hc with rfl | hc
      · exact pa.mpr hw
      rcases List.mem_cons.mp hc with rfl | hc
      · exact pm.mpr hw
      rcases List.mem_cons.mp hc with rfl | hc
      · exact pb.mpr hw
      · obtain ⟨k1, k2⟩ := List.mem_filter.mp hc
        exact (T.other nw na nm nb (U_sub k1) (by simpa using k2)).mpr k1
    simp only [List.length_cons] at f1 f2
    omega
  · rw [if_neg hw, Nat.add_zero]
    have f1 := nodup_leC (xs := U d' cs) (ys := U d cs) (U_nd g' cs) fun c hc => by
      have e1 : c ≠ a := fun e => hw (pa.mp (e ▸ hc))
      have e2 : c ≠ m := fun e => hw (pm.mp (e ▸ hc))
      have e3 : c ≠ b := fun e => hw (pb.mp (e ▸ hc))
      obtain ⟨k1, k2⟩ := old c hc e1 e2 e3
      exact (T.other nw na nm nb k1 k2).mp hc
    have f2 := nodup_leC (xs := U d cs) (ys := U d' cs) (U_nd g cs) fun c hc => (T.other nw na nm nb (U_sub hc) fun e => hw (e ▸ hc)).mpr hc
    omega
end
end TL


set_option Elab.async false
set_option linter.all false
set_option maxRecDepth 100000
set_option maxHeartbeats 4000000
namespace LC
open PySem L2 PG OW CT
open LH hiding sm top
open LW (But Drawn PrgAt LT spMade sMade)
/-- what is known of both classes and their defs -/
structure CMs (P : Program) (w : World) (K : PySem.W.Frag) (mg : Str → Option Value) (base : Heap) (aR CP CC : Addr) : Prop where
  cl : CTc K mg CC
  clP : PTc K mg CP
  tt : PTt K CP
  ct : CTt K CP CC
  sf : PySem.W.selfFirst K CC = true
  nfC : PySem.W.notFirst K CC (.ref CC) = true
  make : ∃ fI, Mk K CC fI ∧ FnR P w K mg base CX0 3 fI (spStar 2 (spInitC aR K CP CC))
  prog : ∃ p g fd, PropOf K CC "program" p g ∧ Binds K fd ["self"] [] ∧ FnOk P w K mg base CX0 1 g fd ["self"] (spCProg K CP CC)
  listed : ∃ g fd, Meth K CC "listed" g ∧ Binds K fd ["self"] [] ∧ FnOk P w K mg base CX0 1 g fd ["self"] (spListed K CP CC)
  add : ∃ g fd, PySem.W.findIn K (.ref CC) "__add__" = some (some (.ref g)) ∧ PySem.W.isFn K (.ref g) = true ∧ Binds K fd ["self", "other"] [] ∧ FnOk P w K mg base CX0 5 g fd ["self", "other"] (spBin aR K CP CC addL)
  eqP : ∃ g fd, PySem.W.findIn K (.ref CP) "__eq__" = some (some (.ref g)) ∧ PySem.W.isFn K (.ref g) = true ∧ Binds K fd ["self", "other"] [] ∧ FnOk P w K mg base CX0 1 g fd ["self", "other"] (spEqP K CP)
  getP : ∃ g fd, PySem.W.findIn K (.ref CP) "__getitem__" = some (some (.ref g)) ∧ PySem.W.isFn K (.ref g) = true ∧ PySem.W.fnIn K g = true ∧ Binds K fd ["self", "at"] [] ∧ FnOk P w K mg base CX0 2 g fd ["self", "at"] (spGet K CP)
  waysP : ∃ g fd, Meth K CP "ways" g ∧ Binds K fd ["self"] [] ∧ FnOk P w K mg base CX0 1 g fd ["self"] (spList K CP fun d => keysL d.ls)
  exitsP : ∃ g fd, Meth K CP "exits" g ∧ Binds K fd ["self"] [] ∧ FnOk P w K mg base CX0 1 g fd ["self"] (spList K CP fun d => d.fs)
  beginP : ∃ p g fd, PropOf K CP "begin" p g ∧ Binds K fd ["self"] [] ∧ FnOk P w K mg base CX0 1 g fd ["self"] (spBegin K CP)
  makeP : ∃ g fd, Mk K CP g ∧ Binds K fd ["self", "ways", "begin", "exits"] [] ∧ FnOk P w K mg base CX0 4 g fd ["self", "ways", "begin", "exits"] (spInit K CP)
/-- what is known of a def of the module -/
def Cl (P : Program) (w : World) (K : PySem.W.Frag) (mg : Str → Option Value) (base : Heap) (k : Nat) (x : Str) (ps : List Str) (sp : Sp) : Prop := ∃ g fd, mg x = some (.ref g) ∧ PySem.W.keepIn K (.ref g) = true ∧ Binds K fd ps [] ∧ FnOk P w K mg base CX0 k g fd ps sp
section
variable {P : Program} {w : World} {K : PySem.W.Frag} {mg : Str → Option Value} {base : Heap} {CP CC aR : Addr}
abbrev nsSet : List Str := ["prog", "some", "found", "counter"]
theorem scSet : FnScope nsSet ["prog", "some"] (defScope sSet) := ⟨rfl, rfl, rfl, by decide +kernel, rfl, by decide +kernel, by decide +kernel⟩
def spSetL (aR : Addr) (K : PySem.W.Frag) (CP CC : Addr) : Sp := fun vs H Q _ => ∃ (r dp ex : Addr) (ls : List Lk) (b : Str) (es : List Str) (a : Addr) (us : List V) (cs : List (List Str)), vs = [.ref r, .ref a] ∧ RA K aR H ∧ PrgAt K H r dp ex ls b es ∧ GoodP ls b es ∧ SqL K H a us ∧ TupLs K H us cs ∧ CsIn (pdOf ls b es) cs ∧
  ∀ (H' : Hp) (x dx y B : Addr), Same H H' → H x = none → CtrAt K CP CC H' x dx y B (pdOf ls b es) (selC (pdOf ls b es) cs) → Q (.ref x) H'
theorem take_snoc {α : Type} {xs : List α} {i : Nat} {x : α} (h : xs[i]? = some x) : xs.take (i + 1) = xs.take i ++ [x] := by
  rw [List.take_add_one, h]
  rfl
theorem ok_set {f : Addr} {fd : FuncData} (Fn : Fun K "_law_set" "_law_set" sSet f fd) (M : CMs P w K mg base aR CP CC) (cM : Cl P w K mg base 6 "_law_made" ["prog"] (spMade K CP)) : FnOk P w K mg base CX0 7 f fd ["prog", "some"] (spSetL aR K CP CC) := by
  refine Fn.ok scSet (fun vs H Q E h => ?_) (fun cdv A outer s H vs Q E hr h => ?_)
  · obtain ⟨r, dp, ex, ls, b, es, a, us, cs, rfl, _⟩ := h
    rfl
  · obtain ⟨r, dp, ex, ls, b, es, a, us, cs, rfl, ra, h, Gd, ha, hus, ci, k⟩ := h
    have nd := scSet.nd
    have g := pdg_of Gd
    have hr4 : Room 4 _ := hr.mono (by decide)
    have hr5 : Room 5 _ := hr.mono (by decide)
    obtain ⟨gM, fdM, mM, kM, bM, GM⟩ := cM
    obtain ⟨fI, Mi, FI⟩ := M.make
    obtain ⟨gA, fdA, fA, iA, bA, GA⟩ := M.add
    refine ⟨_, pss_cons (ps_set (i := 2) nd rfl (Or.inl rfl) (StX.pe_makeR Mi FI hr4 (by rfl) M.cl.gC pass0 (pa_cons (pe_call GM hr (by rfl) mM kM bM .nil pass0 (pa_cons (pv 0) pa_nil)) pa_nil)))
      (pss_cons (ps_for PassesOwn.never rfl (pi_list (pv 1)) (pg_name (i := 3) nd rfl (Or.inl rfl)) (pss_one (ps_set (i := 2) nd rfl (Or.inl rfl) (pe_op (op_ownBin (op := .Add) GA bA pass0 hr5 M.sf fA iA) (pv 2) (StX.pe_makeR Mi FI hr4 (by rfl) M.cl.gC pass0 (pa_cons (pe_call GM hr (by rfl) mM kM bM .nil pass0 (pa_cons (pv 0) pa_nil)) (pa_cons (pv 3) pa_nil)))))))
      (pss_one (ps_ret (pv 2)))), ?_⟩
    have lu : us.length = cs.length := Paired.length hus
    refine ⟨_, rfl, r, dp, ex, ls, b, es, rfl, h, Gd, fun H1 y dy L S F s1 ny nL nS nF pr => ?_⟩
    refine cmk_new (us := []) (as := []) (ra.same s1) pr g .nil ⟨fun c hc => (nomatch hc), List.nodup_nil⟩ fun H2 x0 dx0 B0 s2 nx0 nB0 c0 => ?_
    have s02 := s1.trans s2
    refine ⟨_, rfl, a, rfl, ⟨_, s02.seq ha⟩, for_it (walk_list (xs := us)) (fun i σ H' => ∃ (x dx y B : Addr) (v3 : Option V), σ = [some (.ref r), some (.ref a), some (.ref x), v3] ∧ Same H H' ∧ H x = none ∧ CtrAt K CP CC H' x dx y B (pdOf ls b es) (selC (pdOf ls b es) (cs.take i))) ⟨x0, dx0, y, B0, none, rfl, s02, RX.fr_of s1 nx0, c0⟩ (fun i σ H' _ ⟨_, _, _, _, _, _, z, _⟩ => z.seq ha) ?_ ?_⟩
    · rintro i v σ H3 H4 hi ⟨x, dx, y1, B, v3, rfl, s3, nx, cx⟩ ⟨rfl, ev⟩
      obtain ⟨c, hc, tc⟩ := paired_at hus ev
      refine ⟨_, rfl, _, rfl, r, dp, ex, ls, b, es, rfl, h.same s3, Gd, fun H5 y2 dy2 L2 S2 F2 s5 ny2 nL2 nS2 nF2 pr2 => ?_⟩
      have tc5 := tc.same (s3.trans s5)
      refine ⟨_, rfl, cmk_new (us := [v]) (as := [c]) (ra.same (s3.trans s5)) pr2 g (.cons tc5 .nil) ⟨fun e he => by rw [List.mem_singleton.mp he]; exact ci.sub c (List.mem_of_getElem? hc), List.nodup_cons.mpr ⟨List.not_mem_nil, List.nodup_nil⟩⟩ fun H6 x2 dx2 B2 s6 nx2 nB2 c2 => ?_⟩
      have cx6 := cx.same (s5.trans s6)
      refine ⟨x, dx, _, rfl, cx6.ins, ty_ctr c2 M.cl.cl M.tt M.ct, x, dx, y1, B, x2, dx2, y2, B2, _, _, _, rfl, ra.same (s3.trans (s5.trans s6)), cx6, c2, g, selC_in g _, selC_in g _, fun H7 x3 dx3 B3 s7 nx3 nB3 c3 => ⟨⟨_, rfl⟩, ?_⟩⟩
      have s07 := s3.trans (s5.trans s6)
      refine ⟨x3, dx3, y1, B3, _, rfl, s07.trans s7, RX.fr_of s07 nx3, ?_⟩
      rw [selC_add] at c3
      rw [take_snoc hc]
      rw [selC_congr (bs := cs.take i ++ [c])] at c3
      · exact c3
      · intro e he
        rw [mem_addL, List.mem_append]
    · rintro σ H3 ⟨x, dx, y1, B, v3, rfl, s3, nx, cx⟩
      rw [lu, List.take_length] at cx
      exact ⟨_, rfl, k H3 x dx y1 B s3 nx cx⟩
end
end LC


set_option Elab.async false
set_option linter.all false
set_option maxRecDepth 100000
set_option maxHeartbeats 4000000
/-! what lots are held against: _law_pick, _law_edges, _law_stop -/
namespace LJ
open PySem L2 PG OW CT
open LH hiding sm top
open LW (But But.refl But.trans But.of But.upd pool_step Drawn PrgAt PrgAt.same get_ways get_begin get_exits okWords menuN)
abbrev sPick : Stmt := LH.top 44
section
variable {P : Program} {w : World} {K : PySem.W.Frag} {mg : Str → Option Value} {base : Heap}
theorem scPick : FnScope ["pool", "some"] ["pool", "some"] (defScope sPick) := ⟨rfl, rfl, rfl, by decide +kernel, rfl, by decide +kernel, by decide +kernel⟩
def spPick (K : PySem.W.Frag) : Sp := fun vs H Q _ => ∃ (p q : Addr) (rs : List Int) (i : Int) (a : Addr) (us : List V), vs = [.ref p, .ref a] ∧ PoolAt H p q rs i ∧ a ≠ p ∧ H a = some (.lst us) ∧ 0 < us.length ∧
  ∀ (H' : Hp) (i' : Int) (j : Nat) (v : V), But p H H' → PoolAt H' p q rs i' → us[j]? = some v → Q v H'
theorem ok_pick {f fD : Addr} {fd fdD : FuncData} (Fn : Fun K "_law_pick" "_law_pick" sPick f fd) (T : PT0 mg) (kD : PySem.W.keepIn K (.ref fD) = true) (bD : Binds K fdD ["pool", "many"] []) (gD : mg "_law_draw" = some (.ref fD)) (GD : FnOk P w K mg base CX0 1 fD fdD ["pool", "many"] spDraw) : FnOk P w K mg base CX0 2 f fd ["pool", "some"] (spPick K) := by
  refine Fn.ok scPick (fun vs H Q E h => ?_) (fun cdv A outer s H vs Q E hr h => ?_)
  · obtain ⟨p, q, rs, i, a, us, rfl, _⟩ := h
    rfl
  · obtain ⟨p, q, rs, i, a, us, rfl, hP, ne, ha, n0, k⟩ := h
    refine ⟨_, pss_one (ps_ret (pe_ix ix_list (pv 1) (pe_call GD hr (by rfl) gD kD bD .nil pass0 (pa_cons (pv 0) (pa_cons (pe_callB call_len_seq (by rfl) T.len PySem.boot_len (pa_cons (pv 1) pa_nil)) pa_nil))) (fun _ _ => rfl))), ?_⟩
    refine ⟨_, rfl, _, rfl, _, rfl, a, us, rfl, .inl (SqL.of ha), p, q, rs, i, _, rfl, hP, by omega, fun r r0 r1 => ?_⟩
    obtain ⟨j, rfl⟩ := Int.eq_ofNat_of_zero_le r0
    have lt : j < us.length := by omega
    refine ⟨a, us, _, us[j], rfl, rfl, SqL.of (by rw [upd_ne ne]; exact ha), atI_nat (List.getElem?_eq_getElem lt), ?_⟩
    exact k _ _ j _ (But.upd _) (pool_step hP) (List.getElem?_eq_getElem lt)
end
end LJ


set_option Elab.async false
set_option linter.all false
set_option maxRecDepth 100000
set_option maxHeartbeats 4000000
/-! k47: the programs with a way doubled, a way split -/
namespace TL
open PySem L2 PG OW CT EXC DCt DEq DTx DYx TZ TG
theorem mem_allP {ls : List Lk} {b : Str} {es : List Str} {c : List Str} : c ∈ allC (pdOf ls b es) ↔ (∃ x ∈ keysL ls, c = [("way" : Str), x]) ∨ (∃ x ∈ ends ls, c = [("place" : Str), x]) ∨ (∃ x ∈ es, c = [("stop" : Str), x]) ∨ c = [("runs" : Str)] := by
  rw [LC.mem_allC]
  show (∃ x ∈ keysL (srtL ls), _) ∨ (∃ x ∈ plc ls, _) ∨ (∃ x ∈ srt es, _) ∨ _ ↔ _
  rw [srtL_keys]
  constructor
  · rintro (⟨x, m, e⟩ | ⟨x, m, e⟩ | ⟨x, m, e⟩ | e)
    · exact .inl ⟨x, srt_mem.mp m, e⟩
    · exact .inr (.inl ⟨x, plc_mem.mp m, e⟩)
    · exact .inr (.inr (.inl ⟨x, srt_mem.mp m, e⟩))
    · exact .inr (.inr (.inr e))
  · rintro (⟨x, m, e⟩ | ⟨x, m, e⟩ | ⟨x, m, e⟩ | e)
    · exact .inl ⟨x, srt_mem.mpr m, e⟩
    · exact .inr (.inl ⟨x, plc_mem.mpr m, e⟩)
    · exact .inr (.inr (.inl ⟨x, srt_mem.mpr m, e⟩))
    · exact .inr (.inr (.inr e))
theorem ed_way {ls : List Lk} {b : Str} {es : List Str} (n : (keysL ls).Nodup) {x : Str} (h : x ∈ keysL ls) : edF (pdOf ls b es) [("way" : Str), x] = (outP (lkp ls x).1, inP (lkp ls x).2) := by
  rw [edF_way]
  show (outP (lkp (srtL ls) x).1, inP (lkp (srtL ls) x).2) = _
  rw [srtL_lkp n h]
theorem tag_inj {t x t' x' : Str} (h : ([t, x] : List Str) = [t', x']) : t = t' ∧ x = x' := ⟨(List.cons.inj h).1, (List.cons.inj (List.cons.inj h).2).1⟩
theorem way_in {ls : List Lk} {b : Str} {es : List Str} {x : Str} : [("way" : Str), x] ∈ allC (pdOf ls b es) ↔ x ∈ keysL ls := by
  rw [mem_allP]
  constructor
  · rintro (⟨y, m, e⟩ | ⟨y, m, e⟩ | ⟨y, m, e⟩ | e)
    · rw [(tag_inj e).2]; exact m
    · exact absurd (tag_inj e).1 (by decide +kernel)
    · exact absurd (tag_inj e).1 (by decide +kernel)
    · exact absurd (List.cons.inj e).2 (by simp)
  · exact fun h => .inl ⟨x, h, rfl⟩
theorem place_in {ls : List Lk} {b : Str} {es : List Str} {x : Str} : [("place" : Str), x] ∈ allC (pdOf ls b es) ↔ x ∈ ends ls := by
  rw [mem_allP]
  constructor
  · rintro (⟨y, m, e⟩ | ⟨y, m, e⟩ | ⟨y, m, e⟩ | e)
    · exact absurd (tag_inj e).1 (by decide +kernel)
    · rw [(tag_inj e).2]; exact m
    · exact absurd (tag_inj e).1 (by decide +kernel)
    · exact absurd (List.cons.inj e).2 (by simp)
  · exact fun h => .inr (.inl ⟨x, h, rfl⟩)
/-- the edge of a counter that is no way is the same in programs of the same begin -/
theorem ed_same {ls ls' : List Lk} {b : Str} {es : List Str} (n : (keysL ls).Nodup) (n' : (keysL ls').Nodup) {c : List Str} (hc : c ∈ allC (pdOf ls b es)) (h : ∀ x, c = [("way" : Str), x] → x ∈ keysL ls → (x, lkp ls x) ∈ ls') : edF (pdOf ls' b es) c = edF (pdOf ls b es) c := by
  rcases mem_allP.mp hc with ⟨x, m, rfl⟩ | ⟨x, m, rfl⟩ | ⟨x, m, rfl⟩ | rfl
  · have q := h x rfl m
    rw [ed_way n m, ed_way n' (List.mem_map.mpr ⟨_, q, rfl⟩), lkp_of n' q]
  · rfl
  · rfl
  · rfl
def twinL (ls : List Lk) (w : Str) : List Lk := ls ++ [(("zzz" : Str), lkp ls w)]
theorem twin_keys (ls : List Lk) (w : Str) : keysL (twinL ls w) = keysL ls ++ [("zzz" : Str)] := List.map_append
theorem twin_nd {ls : List Lk} {w : Str} (n : (keysL ls).Nodup) (hz : ("zzz" : Str) ∉ keysL ls) : (keysL (twinL ls w)).Nodup := by
  rw [twin_keys]
  exact List.nodup_append.mpr ⟨n, List.nodup_cons.mpr ⟨List.not_mem_nil, List.nodup_nil⟩, fun x hx y hy e => hz (by rw [← List.mem_singleton.mp hy, ← e]; exact hx)⟩
theorem twin_ends {ls : List Lk} {w : Str} (hw : w ∈ keysL ls) (x : Str) : x ∈ ends (twinL ls w) ↔ x ∈ ends ls := by
  rw [ends_mem, ends_mem]
  constructor
  · rintro ⟨l, hl, q⟩
    rcases List.mem_append.mp hl with z | z
    · exact ⟨l, z, q⟩
    · rw [List.mem_singleton.mp z] at q
      exact ⟨_, lkp_mem hw, q⟩
  · rintro ⟨l, hl, q⟩
    exact ⟨l, List.mem_append_left _ hl, q⟩
theorem twin_T {ls : List Lk} {b : Str} {es : List Str} {w : Str} (n : (keysL ls).Nodup) (hw : w ∈ keysL ls) (hz : ("zzz" : Str) ∉ keysL ls) : Twin (pdOf ls b es) (pdOf (twinL ls w) b es) [("way" : Str), w] [("way" : Str), "zzz"] := by
  have n' := twin_nd (w := w) n hz
  refine ⟨fun c => ?_, fun c hc => ed_same n n' hc fun x _ m => List.mem_append_left _ (lkp_mem m), ?_, way_in.mpr hw, fun z => hz (way_in.mp z)⟩
  · rw [mem_allP, mem_allP, twin_keys]
    constructor
    · rintro (⟨x, m, e⟩ | ⟨x, m, e⟩ | ⟨x, m, e⟩ | e)
      · rcases List.mem_append.mp m with z | z
        · exact .inl (.inl ⟨x, z, e⟩)
        · rw [List.mem_singleton.mp z] at e
          exact .inr e
      · exact .inl (.inr (.inl ⟨x, (twin_ends hw x).mp m, e⟩))
      · exact .inl (.inr (.inr (.inl ⟨x, m, e⟩)))
      · exact .inl (.inr (.inr (.inr e)))
    · rintro ((⟨x, m, e⟩ | ⟨x, m, e⟩ | ⟨x, m, e⟩ | e) | e)
      · exact .inl ⟨x, List.mem_append_left _ m, e⟩
      · exact .inr (.inl ⟨x, (twin_ends hw x).mpr m, e⟩)
      · exact .inr (.inr (.inl ⟨x, m, e⟩))
      · exact .inr (.inr (.inr e))
      · exact .inl ⟨_, List.mem_append_right _ (List.mem_singleton.mpr rfl), e⟩
  · have mz : (("zzz" : Str), lkp ls w) ∈ twinL ls w := List.mem_append_right _ (List.mem_singleton.mpr rfl)
    rw [ed_way n hw, ed_way n' (List.mem_map.mpr ⟨_, mz, rfl⟩), lkp_of n' mz]
def splitL (ls : List Lk) (w : Str) : List Lk := ls.filter (fun l => !decide (l.1 = w)) ++ [(("zza" : Str), (lkp ls w).1, ("zzzzz" : Str)), (("zzb" : Str), ("zzzzz" : Str), (lkp ls w).2)]
theorem split_keys {ls : List Lk} {w x : Str} : x ∈ keysL (splitL ls w) ↔ (x ∈ keysL ls ∧ x ≠ w) ∨ x = "zza" ∨ x = "zzb" := by
  unfold keysL splitL
  rw [List.map_append, List.mem_append]
  constructor
  · rintro (h | h)
    · obtain ⟨l, hl, rfl⟩ := List.mem_map.mp h
      obtain ⟨a, c⟩ := List.mem_filter.mp hl
      exact .inl ⟨List.mem_map.mpr ⟨l, a, rfl⟩, by simpa using c⟩
    · simp only [List.map_cons, List.map_nil, List.mem_cons, List.not_mem_nil, or_false] at h
      exact .inr h
  · rintro (⟨h, ne⟩ | h)
    · obtain ⟨l, hl, rfl⟩ := List.mem_map.mp h
      exact .inl (List.mem_map.mpr ⟨l, List.mem_filter.mpr ⟨hl, by simpa using ne⟩, rfl⟩)
    · refine .inr ?_
      simp only [List.map_cons, List.map_nil, List.mem_cons, List.not_mem_nil, or_false]
      exact h
theorem split_nd {ls : List Lk} {w : Str} (n : (keysL ls).Nodup) (ha : ("zza" : Str) ∉ keysL ls) (hb : ("zzb" : Str) ∉ keysL ls) : (keysL (splitL ls w)).Nodup := by
  unfold keysL splitL
  rw [List.map_append]
  refine List.nodup_append.mpr ⟨n.sublist (List.filter_sublist.map _), show ([("zza" : Str), "zzb"] : List Str).Nodup by decide +kernel, fun x hx y hy e => ?_⟩
  obtain ⟨l, hl, rfl⟩ := List.mem_map.mp hx
  have m : l.1 ∈ keysL ls := List.mem_map.mpr ⟨l, (List.mem_filter.mp hl).1, rfl⟩
  simp only [List.map_cons, List.map_nil, List.mem_cons, List.not_mem_nil, or_false] at hy
  rcases hy with rfl | rfl
  · exact ha (e ▸ m)
  · exact hb (e ▸ m)
theorem split_ends {ls : List Lk} {w : Str} (n : (keysL ls).Nodup) (hw : w ∈ keysL ls) (x : Str) : x ∈ ends (splitL ls w) ↔ x ∈ ends ls ∨ x = "zzzzz" := by
  rw [ends_mem, ends_mem]
  constructor
  · rintro ⟨l, hl, q⟩
    rcases List.mem_append.mp hl with z | z
    · exact .inl ⟨l, (List.mem_filter.mp z).1, q⟩
    · rcases List.mem_cons.mp z with rfl | z
      · exact q.elim (fun e => .inl ⟨_, lkp_mem hw, .inl e⟩) .inr
      · rw [List.mem_singleton.mp z] at q
        exact q.elim .inr (fun e => .inl ⟨_, lkp_mem hw, .inr e⟩)
  · rintro (⟨l, hl, q⟩ | rfl)
    · by_cases e : l.1 = w
      · have el : lkp ls w = l.2 := by rw [← e]; exact lkp_of n hl
        rcases q with q | q
        · exact ⟨("zza", (lkp ls w).1, "zzzzz"), List.mem_append_right _ List.mem_cons_self, .inl (by rw [q, el])⟩
        · exact ⟨("zzb", "zzzzz", (lkp ls w).2), List.mem_append_right _ (List.mem_cons_of_mem _ List.mem_cons_self), .inr (by rw [q, el])⟩
      · exact ⟨l, List.mem_append_left _ (List.mem_filter.mpr ⟨hl, by simpa using e⟩), q⟩
    · exact ⟨("zza", (lkp ls w).1, "zzzzz"), List.mem_append_right _ List.mem_cons_self, .inr rfl⟩
theorem split_T {ls : List Lk} {b : Str} {es : List Str} {w : Str} (g : GoodP ls b es) (hw : w ∈ keysL ls) (ha : ("zza" : Str) ∉ keysL ls) (hb : ("zzb" : Str) ∉ keysL ls) (hp : ("zzzzz" : Str) ∉ ends ls) : Split (pdOf ls b es) (pdOf (splitL ls w) b es) [("way" : Str), w] [("way" : Str), "zza"] [("place" : Str), "zzzzz"] [("way" : Str), "zzb"] (outP (lkp ls w).1) (inP "zzzzz") (outP "zzzzz") (inP (lkp ls w).2) := by
  have n := g.nd
  have n' := split_nd (w := w) n ha hb
  have ma : (("zza" : Str), (lkp ls w).1, ("zzzzz" : Str)) ∈ splitL ls w := List.mem_append_right _ List.mem_cons_self
  have mb : (("zzb" : Str), ("zzzzz" : Str), (lkp ls w).2) ∈ splitL ls w := List.mem_append_right _ (List.mem_cons_of_mem _ List.mem_cons_self)
  have wn : ∀ {c x : Str}, ([("way" : Str), c] ≠ [("way" : Str), x]) → c ≠ x := fun h e => h (by rw [e])
  refine { all := fun c => ?_, ed := fun c hc ne => ed_same n n' hc fun x e m => List.mem_append_left _ (List.mem_filter.mpr ⟨lkp_mem m, by simpa using wn (e ▸ ne)⟩), ew := ed_way n hw, ea := ?_, em := rfl, eb := ?_, mw := way_in.mpr hw, na := fun z => ha (way_in.mp z), nm := fun z => hp (place_in.mp z), nb := fun z => hb (way_in.mp z), am := fun e => absurd (tag_inj e).1 (by decide +kernel), ab := fun e => absurd (tag_inj e).2 (by decide +kernel), mb := fun e => absurd (tag_inj e).1 (by decide +kernel), xy := io, fx := fun c hc => ?_ }
  · rw [mem_allP, mem_allP]
    constructor
    · rintro (⟨x, m, e⟩ | ⟨x, m, e⟩ | ⟨x, m, e⟩ | e)
      · rcases split_keys.mp m with ⟨k1, k2⟩ | rfl | rfl
        · exact .inl ⟨.inl ⟨x, k1, e⟩, fun z => k2 (tag_inj (e.symm.trans z)).2⟩
        · exact .inr (.inl e)
        · exact .inr (.inr (.inr e))
      · rcases (split_ends n hw x).mp m with k | rfl
        · exact .inl ⟨.inr (.inl ⟨x, k, e⟩), fun z => absurd (tag_inj (e.symm.trans z)).1 (by decide +kernel)⟩
        · exact .inr (.inr (.inl e))
      · exact .inl ⟨.inr (.inr (.inl ⟨x, m, e⟩)), fun z => absurd (tag_inj (e.symm.trans z)).1 (by decide +kernel)⟩
      · exact .inl ⟨.inr (.inr (.inr e)), fun z => absurd (List.cons.inj (e.symm.trans z)).1 (by decide +kernel)⟩
    · rintro (⟨⟨x, m, e⟩ | ⟨x, m, e⟩ | ⟨x, m, e⟩ | e, ne⟩ | e | e | e)
      · exact .inl ⟨x, split_keys.mpr (.inl ⟨m, fun z => ne (by rw [e, z])⟩), e⟩
      · exact .inr (.inl ⟨x, (split_ends n hw x).mpr (.inl m), e⟩)
      · exact .inr (.inr (.inl ⟨x, m, e⟩))
      · exact .inr (.inr (.inr e))
      · exact .inl ⟨_, split_keys.mpr (.inr (.inl rfl)), e⟩
      · exact .inr (.inl ⟨_, (split_ends n hw _).mpr (.inr rfl), e⟩)
      · exact .inl ⟨_, split_keys.mpr (.inr (.inr rfl)), e⟩
  · rw [ed_way n' (List.mem_map.mpr ⟨_, ma, rfl⟩)]
    rw [lkp_of n' ma]
  · rw [ed_way n' (List.mem_map.mpr ⟨_, mb, rfl⟩)]
    rw [lkp_of n' mb]
  · have np : ∀ {x : Str}, x ∈ ends ls → x ≠ "zzzzz" := fun h e => hp (e ▸ h)
    have ix : ∀ {x : Str}, x ∈ ends ls → inP x ≠ inP "zzzzz" := fun h e => np h (inj1 e).2
    have ox : ∀ {x : Str}, x ∈ ends ls → outP x ≠ outP "zzzzz" := fun h e => np h (inj1 e).2
    rcases mem_allP.mp hc with ⟨x, m, rfl⟩ | ⟨x, m, rfl⟩ | ⟨x, m, rfl⟩ | rfl
    · rw [ed_way n m]
      have e1 : (lkp ls x).1 ∈ ends ls := ends_mem.mpr ⟨_, lkp_mem m, .inl rfl⟩
      have e2 : (lkp ls x).2 ∈ ends ls := ends_mem.mpr ⟨_, lkp_mem m, .inr rfl⟩
      exact ⟨fun z => io z.symm, ix e2, ox e1, io⟩
    · rw [edF_place]
      exact ⟨ix m, fun z => io z.symm, io, ox m⟩
    · rw [edF_stop]
      exact ⟨fun z => io z.symm, fun z => is z.symm, ox (g.hs _ m), fun z => os z.symm⟩
    · rw [edF_runs]
      exact ⟨fun z => is z.symm, ix g.hb, fun z => os z.symm, io⟩
end TL


set_option Elab.async false
set_option linter.all false
set_option maxRecDepth 100000
set_option maxHeartbeats 4000000
/-! k47: both are good programs -/
namespace TL
open PySem L2 PG OW CT EXC DCt DEq DTx DYx TZ TG
theorem twin_good {ls : List Lk} {b : Str} {es : List Str} {w : Str} (g : GoodP ls b es) (hw : w ∈ keysL ls) (hz : ("zzz" : Str) ∉ keysL ls) (h12 : ls.length ≤ 12) : GoodP (twinL ls w) b es := by
  refine LC.good_more g (fun pr h => ?_) (fun l hl => ?_) ?_ ?_ (twin_nd g.nd hz) fun x hx => ?_
  · unfold twinL
    rw [List.map_append]
    exact List.mem_append_left _ h
  · exact ⟨(twin_ends hw _).mp (ends_mem.mpr ⟨l, hl, .inl rfl⟩), (twin_ends hw _).mp (ends_mem.mpr ⟨l, hl, .inr rfl⟩)⟩
  · unfold twinL
    rw [List.length_append]
    show 1 ≤ _ + 1
    omega
  · unfold twinL
    rw [List.length_append]
    show _ + 1 ≤ _
    omega
  · rw [twin_keys] at hx
    rcases List.mem_append.mp hx with z | z
    · obtain ⟨l, hl, rfl⟩ := List.mem_map.mp z
      exact (g.wd l hl).1
    · rw [List.mem_singleton.mp z]
      decide +kernel
theorem split_good {ls : List Lk} {b : Str} {es : List Str} {w : Str} (g : GoodP ls b es) (hw : w ∈ keysL ls) (ha : ("zza" : Str) ∉ keysL ls) (hb : ("zzb" : Str) ∉ keysL ls) (h12 : ls.length ≤ 12) (h7 : (plc ls).length ≤ 7) : GoodP (splitL ls w) b es := by
  have n := g.nd
  have ma : (("zza" : Str), (lkp ls w).1, ("zzzzz" : Str)) ∈ splitL ls w := List.mem_append_right _ List.mem_cons_self
  have mb : (("zzb" : Str), ("zzzzz" : Str), (lkp ls w).2) ∈ splitL ls w := List.mem_append_right _ (List.mem_cons_of_mem _ List.mem_cons_self)
  obtain ⟨_, w1, w2⟩ := g.wd _ (lkp_mem hw)
  have len : (splitL ls w).length = (ls.filter fun l => !decide (l.1 = w)).length + 2 := by
    unfold splitL
    rw [List.length_append]
    rfl
  have lf := List.length_filter_le (fun l : Lk => !decide (l.1 = w)) ls
  have z5 : isWord ("zzzzz" : Str) = true := by decide +kernel
  have za : isWord ("zza" : Str) = true := by decide +kernel
  have zb : isWord ("zzb" : Str) = true := by decide +kernel
  have old : ∀ {l : Lk}, l ∈ ls → l.1 ≠ w → l ∈ splitL ls w := fun h ne => List.mem_append_left _ (List.mem_filter.mpr ⟨h, by simpa using ne⟩)
  have rc : ∀ {x : Str}, Rch [b] (ls.map (·.2)) x → Rch [b] ((splitL ls w).map (·.2)) x := fun h => by
    induction h with
    | base h => exact .base h
    | step h m ih =>
      obtain ⟨l, hl, e⟩ := List.mem_map.mp m
      by_cases q : l.1 = w
      · have el : lkp ls w = l.2 := by rw [← q]; exact lkp_of n hl
        rw [← el] at e
        have e1 : (lkp ls w).1 = _ := congrArg Prod.fst e
        have e2 : (lkp ls w).2 = _ := congrArg Prod.snd e
        dsimp only at e1 e2
        rw [← e1] at ih
        rw [← e2]
        exact .step (.step ih (List.mem_map.mpr ⟨_, ma, rfl⟩)) (List.mem_map.mpr ⟨_, mb, rfl⟩)
      · exact .step ih (List.mem_map.mpr ⟨l, old hl q, e⟩)
  have lv : ∀ {x : Str}, Rch es (ls.map fun l => (l.2.2, l.2.1)) x → Rch es ((splitL ls w).map fun l => (l.2.2, l.2.1)) x := fun h => by
    induction h with
    | base h => exact .base h
    | step h m ih =>
      obtain ⟨l, hl, e⟩ := List.mem_map.mp m
      by_cases q : l.1 = w
      · have el : lkp ls w = l.2 := by rw [← q]; exact lkp_of n hl
        rw [← el] at e
        have e1 : (lkp ls w).2 = _ := congrArg Prod.fst e
        have e2 : (lkp ls w).1 = _ := congrArg Prod.snd e
        dsimp only at e1 e2
        rw [← e1] at ih
        rw [← e2]
        exact .step (.step ih (List.mem_map.mpr ⟨_, mb, rfl⟩)) (List.mem_map.mpr ⟨_, ma, rfl⟩)
      · exact .step ih (List.mem_map.mpr ⟨l, old hl q, e⟩)
  have i1 : (lkp ls w).1 ∈ ends ls := ends_mem.mpr ⟨_, lkp_mem hw, .inl rfl⟩
  have i2 : (lkp ls w).2 ∈ ends ls := ends_mem.mpr ⟨_, lkp_mem hw, .inr rfl⟩
  refine { n1 := by omega, n2 := by omega, sm := ?_, nd := split_nd n ha hb, wd := fun l hl => ?_, hb := (split_ends n hw _).mpr (.inl g.hb), he := g.he, hs := fun e he => (split_ends n hw _).mpr (.inl (g.hs e he)), hn := g.hn, reach := fun x hx => ?_, leave := fun x hx => ?_ }
  · have z := nodup_leC (plc_nodup (splitL ls w)) (ys := ("zzzzz" : Str) :: plc ls) fun x hx => by
      rcases (split_ends n hw x).mp (plc_mem.mp hx) with k | rfl
      · exact List.mem_cons_of_mem _ (plc_mem.mpr k)
      · exact List.mem_cons_self
    simp only [List.length_cons] at z
    omega
  · rcases List.mem_append.mp hl with z | z
    · exact g.wd l (List.mem_filter.mp z).1
    · rcases List.mem_cons.mp z with rfl | z
      · exact ⟨za, w1, z5⟩
      · rw [List.mem_singleton.mp z]
        exact ⟨zb, z5, w2⟩
  · rcases (split_ends n hw x).mp hx with k | rfl
    · exact rc (g.reach x k)
    · exact .step (rc (g.reach _ i1)) (List.mem_map.mpr ⟨_, ma, rfl⟩)
  · rcases (split_ends n hw x).mp hx with k | rfl
    · exact lv (g.leave x k)
    · exact .step (lv (g.leave _ i2)) (List.mem_map.mpr ⟨_, mb, rfl⟩)
end TL


set_option Elab.async false
set_option linter.all false
set_option maxRecDepth 100000
set_option maxHeartbeats 4000000
/-! k47: [(one, prog["ways"][one]) for one in prog["ways"] if ..], read while the dict is locked -/
namespace TL
open PySem L2 PG OW CT
open LH hiding sm top
open LW (PrgAt get_waysL)
theorem rd_links {K : PySem.W.Frag} {H : Hp} {r dp ex D : Addr} {od : Obj} {kvs : List (Key × V)} {ls : List Lk} {b : Str} {es : List Str} {σ : L2.St} {i : Nat} {tt : TT} {te : TE} {Qd : Hp → Prop} (p : Str → Bool) (h : PrgAt K H r dp ex ls b es) (hd : H dp = some (.dK kvs)) (lk : Lks K H kvs ls) (n : (keysL ls).Nodup) (few : ls.length ≤ 12) (nD : (upd H dp (.frz od (.dK kvs))) D = none)
    (hw : ∀ v, wipe ((wipe σ [i]).set i (some v)) [i] = wipe σ [i])
    (ht : ∀ (x : Str) (H2 : Hp) (Q : Bool → Hp → Prop), Q (p x) H2 → tt ((wipe σ [i]).set i (some (.str x))) H2 Q)
    (he : ∀ (x : Str) (t : Addr) (H2 : Hp) (Q : VK), DGet H2 r (.str "ways") (some (.ref dp)) → DGet H2 dp (.str x) (some (.ref t)) → (∀ q, H2 q = none → Q (.ref q) (upd H2 q (.tup [.str x, .ref t]))) → te ((wipe σ [i]).set i (some (.str x))) H2 Q)
    (k : ∀ (H2 : Hp) (ps : List Addr) (kv2 : List (Key × V)), Same (upd H dp (.frz od (.dK kvs))) H2 → H2 D = some (.lst (ps.map V.ref)) → Paired (fun q kv => SqT K H2 q [kV kv.1, kv.2]) ps kv2 → Lks K H2 kv2 (ls.filter fun l => p l.1) → Qd H2) :
    ∃ W : Nat → Nat → Hp → Prop, (∃ m, W 0 m (upd (upd H dp (.frz od (.dK kvs))) D (.lst []))) ∧ ∀ jj m H, W jj m H →
      ((Itk dp od kvs).stop jj H ∧ Qd H) ∨ ((Itk dp od kvs).go jj H ∧ ∃ Nx : Hp → Prop, (∀ H', Nx H' → ∃ m', m' < m ∧ W (jj + 1) m' H') ∧ ∀ x H', (Itk dp od kvs).yld jj H x H' → gName i x (wipe σ [i]) H' fun σ2 H2 => wipe σ2 [i] = wipe σ [i] ∧ tt σ2 H2 fun b H3 =>
        if b = true then te σ2 H3 fun y H4 => ∃ acc, H4 D = some (.lst acc) ∧ acc.length < sizeLine ∧ Nx (upd H4 D (.lst (acc ++ [y]))) else Nx H3) := by
  have lkL := Lks.lock (od := od) lk hd
  have lkn : kvs.length = ls.length := Paired.length lk
  refine lc_it walk_keys (fun jj H' => Same (upd H dp (.frz od (.dK kvs))) H' ∧ ∃ (ps : List Addr) (kv2 : List (Key × V)), H' D = some (.lst (ps.map V.ref)) ∧ Paired (fun q kv => SqT K H' q [kV kv.1, kv.2]) ps kv2 ∧ Lks K H' kv2 ((ls.take jj).filter fun l => p l.1)) ⟨sm nD, [], [], upd_same, .nil, .nil⟩ (fun jj H' _ q => q.1 _ _ upd_same) ?_ ?_
  · rintro jj v H2 H3 hjj ⟨s2, ps, kv2, hD, pp, l2⟩ ⟨rfl, kk, vv, ekv, rfl⟩
    obtain ⟨l, hl, e1, _⟩ := lks_at lkL ekv
    have e1' : kk = Sum.inr l.1 := e1
    subst e1'
    obtain ⟨t, hv, htt⟩ := pair_uniq lkL n hl
    have hg : DGet H3 dp (.str l.1) (some (.ref t)) := by
      rw [← hv]
      exact .inl ⟨kvs, Sum.inr l.1, .inr ⟨od, s2 _ _ upd_same⟩, rfl, rfl⟩
    have tk : (ls.take (jj + 1)).filter (fun l => p l.1) = (ls.take jj).filter (fun l => p l.1) ++ (if p l.1 then [l] else []) := by
      rw [List.take_add_one, hl, List.filter_append]
      congr 1
      show List.filter _ [l] = _
      rw [List.filter_cons]
      rfl
    have lps : ps.length ≤ 12 := by
      rw [Paired.length pp, Paired.length l2]
      have h1 := List.length_filter_le (fun l : Lk => p l.1) (ls.take jj)
      have h2 := List.length_take_le' jj ls
      omega
    refine ⟨hw _, ht l.1 H3 _ ?_⟩
    refine iteB (fun c => ?_) (fun c => ?_)
    · refine he l.1 t H3 _ (get_waysL h s2) hg fun q nq => ?_
      have s3 := sm (o := .tup [.str l.1, .ref t]) nq
      have hq : (upd H3 q (.tup [.str l.1, .ref t])) q = some (.tup [.str l.1, .ref t]) := upd_same
      generalize upd H3 q (.tup [.str l.1, .ref t]) = H4 at s3 hq ⊢
      have hD4 := s3 _ _ hD
      have kp : ∀ {a : Addr} {xs : List V}, SqT K H4 a xs → SqT K (upd H4 D (.lst (ps.map V.ref ++ [.ref q]))) a xs := fun z => TG.sqT_lst hD4 z
      refine ⟨_, hD4, by rw [List.length_map, sizeLine_eq]; omega, fun a o z => ?_, ps ++ [q], kv2 ++ [(Sum.inr l.1, .ref t)], ?_, ?_, ?_⟩
      · rw [upd_ne (ne_of_none z nD)]
        exact s3 _ _ (s2 _ _ z)
      · rw [upd_same, List.map_append]
        rfl
      · exact paired_snoc (Paired.imp (fun _ _ z => kp (sqT_same z s3)) pp) (kp (SqT.of hq))
      · rw [tk, c, if_pos rfl]
        exact paired_snoc (Paired.imp (fun _ _ z => ⟨z.1, z.2.imp fun t w => ⟨w.1, kp (sqT_same w.2 s3)⟩⟩) l2) ⟨rfl, t, rfl, kp (sqT_same htt (s2.trans s3))⟩
    · exact ⟨s2, ps, kv2, hD, pp, by rw [tk, c, if_neg (by decide), List.append_nil]; exact l2⟩
  · rintro H2 ⟨s2, ps, kv2, hD, pp, l2⟩
    rw [lkn, List.take_length] at l2
    exact k H2 ps kv2 s2 hD pp l2
end TL


set_option Elab.async false
set_option linter.all false
set_option maxRecDepth 100000
set_option maxHeartbeats 4000000
/-! k47: dicts of links that are merged, unlocked -/
namespace TL
open PySem L2 PG OW CT
open LH hiding sm top
theorem valV_none {kvs : List (Key × V)} {k : Key} (h : k ∉ kvs.map (·.1)) : valV kvs k = none := by
  induction kvs with
  | nil => rfl
  | cons p r ih =>
    rw [List.map_cons, List.mem_cons, not_or] at h
    rw [valV_neg fun z => h.1 z.symm]
    exact ih h.2
theorem merge_app : ∀ (more acc : List (Key × V)), ((acc ++ more).map (·.1)).Nodup → mergeK acc more = acc ++ more
  | [], acc, _ => (List.append_nil acc).symm
  | p :: r, acc, h => by
    have e : acc ++ p :: r = (acc ++ [p]) ++ r := by rw [List.append_assoc]; rfl
    have n : p.1 ∉ acc.map (·.1) := fun m => by
      rw [List.map_append, List.map_cons] at h
      exact (List.nodup_append.mp h).2.2 _ m _ List.mem_cons_self rfl
    show mergeK (putK acc p.1 p.2) r = _
    rw [putK_new _ (valV_none n), e]
    refine merge_app r (acc ++ [(p.1, p.2)]) ?_
    rw [e] at h
    exact h
theorem inr_nodup {ws : List Str} (h : ws.Nodup) : (ws.map (Sum.inr : Str → Key)).Nodup := by
  induction ws with
  | nil => exact List.nodup_nil
  | cons a r ih =>
    obtain ⟨n1, n2⟩ := List.nodup_cons.mp h
    refine List.nodup_cons.mpr ⟨fun m => ?_, ih n2⟩
    obtain ⟨x, hx, e⟩ := List.mem_map.mp m
    exact n1 ((Sum.inr.inj e) ▸ hx)
theorem lks_nodup {K : PySem.W.Frag} {H : Hp} {kvs : List (Key × V)} {ls : List Lk} (h : Lks K H kvs ls) (n : (keysL ls).Nodup) : (kvs.map (·.1)).Nodup := by
  rw [lks_keys h]
  exact inr_nodup n
theorem merge_lks {K : PySem.W.Frag} {H : Hp} {kvs : List (Key × V)} {ls : List Lk} (h : Lks K H kvs ls) (n : (keysL ls).Nodup) : mergeK [] kvs = kvs := by
  have z := merge_app kvs [] (by rw [List.nil_append]; exact lks_nodup h n)
  rw [List.nil_append] at z
  exact z
section
variable {K : PySem.W.Frag} {H H8 : Hp} {dp : Addr} {od : Obj} {kvs : List (Key × V)}
theorem same_unlock (hd : H dp = some (.dK kvs)) (s : Same (upd H dp (.frz od (.dK kvs))) H8) : Same H (upd H8 dp (.dK kvs)) := fun c o e => by
  by_cases z : c = dp
  · rw [z] at e ⊢
    rw [upd_same, ← hd]
    exact e
  · rw [upd_ne z]
    exact s _ _ (by rw [upd_ne z]; exact e)
theorem sqT_unlock (s : Same (upd H dp (.frz od (.dK kvs))) H8) {q : Addr} {xs : List V} (h : SqT K H8 q xs) : SqT K (upd H8 dp (.dK kvs)) q xs := sqT_at h (.inr ⟨_, s _ _ upd_same, (by intro l z; cases z), by intro od l z; cases z⟩)
theorem lks_unlock (s : Same (upd H dp (.frz od (.dK kvs))) H8) {kv2 : List (Key × V)} {l2 : List Lk} (h : Lks K H8 kv2 l2) : Lks K (upd H8 dp (.dK kvs)) kv2 l2 := Paired.imp (fun _ _ z => ⟨z.1, z.2.imp fun t w => ⟨w.1, sqT_unlock s w.2⟩⟩) h
theorem pp_unlock (s : Same (upd H dp (.frz od (.dK kvs))) H8) {ps : List Addr} {kv2 : List (Key × V)} (h : Paired (fun q (kv : Key × V) => SqT K H8 q [kV kv.1, kv.2]) ps kv2) : Paired (fun q (kv : Key × V) => SqT K (upd H8 dp (.dK kvs)) q [kV kv.1, kv.2]) ps kv2 := Paired.imp (fun _ _ z => sqT_unlock s z) h
end
theorem words_no {ls : List Lk} {es pls : List Str} (D : LW.Drawn pls ls es) : ("zzz" : Str) ∉ keysL ls ∧ ("zza" : Str) ∉ keysL ls ∧ ("zzb" : Str) ∉ keysL ls ∧ ("zzzzz" : Str) ∉ ends ls := by
  have a : ∀ x ∈ LW.menuN, x ≠ ("zzz" : Str) ∧ x ≠ ("zza" : Str) ∧ x ≠ ("zzb" : Str) := by decide +kernel
  have b1 : ("zzzzz" : Str) ∉ LW.menuA := by decide +kernel
  have b2 : ("zzzzz" : Str) ∉ LW.menuB := by decide +kernel
  refine ⟨fun h => (a _ (D.km _ h)).1 rfl, fun h => (a _ (D.km _ h)).2.1 rfl, fun h => (a _ (D.km _ h)).2.2 rfl, fun h => ?_⟩
  obtain ⟨l, hl, q⟩ := ends_mem.mp h
  have t := D.t3 l hl
  have m : ("zzzzz" : Str) ∈ pls := by
    rcases q with q | q
    · rw [q]; exact t.1
    · rw [q]; exact t.2
  rcases D.okw with z | z
  · exact b1 (z _ m)
  · exact b2 (z _ m)
theorem lks_off {K : PySem.W.Frag} {H : Hp} {m : Addr} {k1 k2 kv2 : List (Key × V)} {l2 : List Lk} (hm : H m = some (.dK k1)) (h : Lks K H kv2 l2) : Lks K (upd H m (.dK k2)) kv2 l2 := Paired.imp (fun _ _ z => ⟨z.1, z.2.imp fun t w => ⟨w.1, sqT_at w.2 (.inr ⟨_, hm, (by intro l z; cases z), by intro od l z; cases z⟩)⟩⟩) h
/-- pairs["zzz"] = pairs[way] -/
theorem put_twin {K : PySem.W.Frag} {H : Hp} {m : Addr} {kv2 : List (Key × V)} {ls : List Lk} {w : Str} (n : (keysL ls).Nodup) (hw : w ∈ keysL ls) (hz : ("zzz" : Str) ∉ keysL ls) (hm : H m = some (.dK kv2)) (lk : Lks K H kv2 ls) : ∃ t, DGet H m (.str w) (some (.ref t)) ∧ putK kv2 (Sum.inr "zzz" : Key) (V.ref t) = kv2 ++ [((Sum.inr "zzz" : Key), V.ref t)] ∧ Lks K (upd H m (.dK (kv2 ++ [((Sum.inr "zzz" : Key), V.ref t)]))) (kv2 ++ [((Sum.inr "zzz" : Key), V.ref t)]) (twinL ls w) := by
  obtain ⟨t, hv, ht⟩ := lks_val lk hw
  refine ⟨t, by rw [← hv]; exact .inl ⟨kv2, Sum.inr w, .inl hm, rfl, rfl⟩, putK_new _ (lks_none lk hz), ?_⟩
  exact paired_snoc (lks_off hm lk) ⟨rfl, t, rfl, sqT_at ht (.inr ⟨_, hm, (by intro l z; cases z), by intro od l z; cases z⟩)⟩
end TL


set_option Elab.async false
set_option linter.all false
set_option maxRecDepth 100000
set_option maxHeartbeats 8000000
/-! k47: the law -/
namespace TL
open PySem L2 PG OW CT EXC DCt DEq DTx DYx TZ TG
open LH hiding sm top
open LW (But But.refl But.trans But.of But.upd pool_step Drawn PrgAt PrgAt.same LT spMade spProgram get_waysL get_ways get_begin get_exits)
open LC (spSome spSetL CMs)
section
variable {K : PySem.W.Frag} {p q : Addr} {rs : List Int} {i : Int} {H H' : Hp}
theorem two_but {l : List V} {v : V} {x : Str × Str} (b : But p H H') (hp : H p = some (.lst l)) (h : TwoAt K H v x) : TwoAt K H' v x := by
  obtain ⟨t, e, h⟩ := h
  obtain ⟨t', e', h'⟩ := LC.tup_but (K := K) (v := .ref t) (c := [x.1, x.2]) b hp ⟨t, rfl, h⟩
  cases e'
  exact ⟨t, e, h'⟩
theorem prg_but {r dp ex : Addr} {ls : List Lk} {bg : Str} {es : List Str} (b : But p H H') (hP : PoolAt H p q rs i) (h : PrgAt K H r dp ex ls bg es) : PrgAt K H' r dp ex ls bg es := by
  obtain ⟨a, ⟨kvs, c, d⟩, e⟩ := h
  exact ⟨b _ _ (ne_of a hP.hp (by intro z; cases z)) a, ⟨kvs, b _ _ (ne_of c hP.hp (by intro z; cases z)) c, Paired.imp (fun _ _ q => ⟨q.1, two_but b hP.hp q.2⟩) d⟩, b _ _ (LW.strs_ne e hP) e⟩
theorem ra_but {aR : Addr} (b : But p H H') (hP : PoolAt H p q rs i) (h : RA K aR H) : RA K aR H' := by
  obtain ⟨t', e', h'⟩ := LC.tup_but (K := K) (v := .ref aR) (c := ["runs"]) b hP.hp ⟨aR, rfl, h⟩
  cases e'
  exact h'
theorem oa_but {aO : Addr} (b : But p H H') (hP : PoolAt H p q rs i) (h : OA K aO H) : OA K aO H' := by
  obtain ⟨t', e', h'⟩ := LC.tup_but (K := K) (v := .ref aO) (c := outside) b hP.hp ⟨aO, rfl, h⟩
  cases e'
  exact h'
end
theorem lnorm {i : Nat} {x : V} {σ σ' : L2.St} {H : Hp} {R : L2.St → Hp → Prop} (e : σ.set i (some x) = σ') (h : R σ' H) : gName i x σ H R := by
  unfold gName
  rw [e]
  exact h
theorem rd_filT {K : PySem.W.Frag} {H1 : Hp} {a D : Addr} {ws : List Str} {i : Nat} {σ : L2.St} {tt : TT} {Qd : Hp → Prop} (p : Str → Bool) (ha : H1 a = some (.lst (ws.map V.str))) (few : ws.length ≤ 1000) (nD : H1 D = none) (hw : ∀ v, wipe ((wipe σ [i]).set i (some v)) [i] = wipe σ [i]) (hg : ∀ v : V, ((wipe σ [i]).set i (some v))[i]? = some (some v))
    (he : ∀ (x : Str) (H2 : Hp) (Q : Bool → Hp → Prop), x ∈ ws → Same H1 H2 → (∀ H3, Same H2 H3 → Q (p x) H3) → tt ((wipe σ [i]).set i (some (.str x))) H2 Q)
    (k : ∀ H2, Same H1 H2 → H2 D = some (.lst ((ws.filter p).map V.str)) → Qd H2) :
    ∃ W : Nat → Nat → Hp → Prop, (∃ m, W 0 m (upd H1 D (.lst []))) ∧ ∀ jj m H, W jj m H →
      ((Itl K a).stop jj H ∧ Qd H) ∨ ((Itl K a).go jj H ∧ ∃ Nx : Hp → Prop, (∀ H', Nx H' → ∃ m', m' < m ∧ W (jj + 1) m' H') ∧ ∀ x H', (Itl K a).yld jj H x H' → gName i x (wipe σ [i]) H' fun σ2 H2 => wipe σ2 [i] = wipe σ [i] ∧ tt σ2 H2 fun b H3 =>
        if b = true then tVar i σ2 H3 fun y H4 => ∃ acc, H4 D = some (.lst acc) ∧ acc.length < sizeLine ∧ Nx (upd H4 D (.lst (acc ++ [y]))) else Nx H3) := by
  refine lc_it (walk_list (xs := ws.map V.str)) (fun jj H' => Same H1 H' ∧ H' D = some (.lst (((ws.take jj).filter p).map V.str))) ⟨sm nD, upd_same⟩ (fun jj H' _ q => SqL.of (q.1 _ _ ha)) ?_ ?_
  · rintro jj v H2 H3 hjj ⟨s2, hD⟩ ⟨rfl, hv⟩
    rw [List.getElem?_map] at hv
    obtain ⟨wy, hw', rfl⟩ : ∃ wy, ws[jj]? = some wy ∧ v = .str wy := by
      cases e : ws[jj]? with
      | none => rw [e] at hv; cases hv
      | some wy => rw [e] at hv; exact ⟨wy, rfl, (Option.some.inj hv).symm⟩
    have tk : (ws.take (jj + 1)).filter p = (ws.take jj).filter p ++ (if p wy then [wy] else []) := by
      rw [List.take_add_one, hw', List.filter_append]
      congr 1
      show List.filter p [wy] = _
      rw [List.filter_cons]
      rfl
    refine ⟨hw _, he wy H3 _ (List.mem_of_getElem? hw') s2 fun H4 s4 => ?_⟩
    refine iteB (fun c => ?_) (fun c => ?_)
    · refine ⟨_, hg _, _, s4 _ _ hD, ?_, fun c o z => ?_, ?_⟩
      · rw [List.length_map, sizeLine_eq]
        have h1 := List.length_filter_le p (ws.take jj)
        have := List.length_take_le' jj ws
        omega
      · rw [upd_ne (ne_of_none z nD)]
        exact s4 _ _ (s2 _ _ z)
      · rw [upd_same, tk, c, if_pos rfl, List.map_append]
        rfl
    · refine ⟨s2.trans s4, ?_⟩
      rw [tk, c, if_neg Bool.false_ne_true, List.append_nil]
      exact s4 _ _ hD
  · rintro H2 ⟨s2, hD⟩
    rw [List.length_map, List.take_length] at hD
    exact k H2 s2 hD
theorem seq_if {a u : TS} {D : Ends} {σ : L2.St} {H : Hp} (h : a { D with nx := u D } σ H) : tSeq a u D σ H := h
theorem ifc {tc : TT} {tt : TS} {D : Ends} {σ : L2.St} {H : Hp} (A : Prop) (J : L2.St → Hp → Prop) (hc : ∀ Q : Bool → Hp → Prop, (A → ∀ H', Same H H' → Q true H') → (∀ H', Same H H' → Q false H') → tc σ H Q)
    (h1 : A → ∀ H', Same H H' → ∀ D' : Ends, (∀ σ H, J σ H → D'.nx σ H) → tt D' σ H') (h2 : ∀ H', Same H H' → J σ H') (h3 : ∀ σ H, J σ H → D.nx σ H) : tIfS tc tt tNext D σ H := by
  show tc σ H fun b H1 => if b = true then tt D σ H1 else tNext D σ H1
  exact hc _ (fun a H' s => iteT (h1 a H' s D h3)) (fun H' s => iteF (h3 _ _ (h2 H' s)))
theorem U_few {d : PD} (g : PDg d) (cs : List (List Str)) : (U d cs).length ≤ 200 := by
  rw [U_filter]
  exact Nat.le_trans (List.length_filter_le _ _) g.few
theorem U_ok {d : PD} (g : PDg d) (cs : List (List Str)) : CsOk (U d cs) := fun c hc => g.cok c (U_sub hc)
/-- a set drawn from all counters tells as its list -/
theorem sel_cs {d : PD} (g : PDg d) {cs : List (List Str)} (ic : CsIn d cs) : U d (selC d cs) = U d cs := U_ext fun c => ⟨fun m => U_mono (fun x hx h => LC.selC_mem.mpr ⟨hx, h⟩) m, fun m => U_mono (fun x _ h => (LC.selC_mem.mp h).2) m⟩
abbrev sLaw : Stmt := LH.top 54
section
variable {P : Program} {w : World} {K : PySem.W.Frag} {mg : Str → Option Value} {base : Heap} {CP CC aR aO : Addr}
abbrev nsLaw : List Str := ["script", "k", "pool", "prog", "way", "counter", "some", "missing", "pairs", "twin", "doubled", "rest", "start", "end", "parts", "split", "halves", "is_missing", "one"]
theorem scLaw : FnScope nsLaw ["script"] (defScope sLaw) := ⟨rfl, rfl, rfl, by decide +kernel, rfl, by decide +kernel, by decide +kernel⟩
def spLaw (aR aO : Addr) (K : PySem.W.Frag) : Sp := fun vs H Q _ => ∃ (a : Addr) (ns : List Int), vs = [.ref a] ∧ RA K aR H ∧ OA K aO H ∧ SqL K H a (ns.map V.int) ∧ ns.length ≤ 63 ∧ ∀ H', Q (.bl true) H'
structure LD (P : Program) (w : World) (K : PySem.W.Frag) (mg : Str → Option Value) (base : Heap) (aR aO CP CC : Addr) : Prop where
  op : LC.Cl P w K mg base 3 "_law_opened" ["script", "k", "many"] (spOpen K)
  dr : LC.Cl P w K mg base 1 "_law_draw" ["pool", "many"] spDraw
  pk : LC.Cl P w K mg base 2 "_law_pick" ["pool", "some"] (LJ.spPick K)
  pr : LC.Cl P w K mg base 3 "_law_program" ["pool", "most", "more", "rings"] (spProgram K)
  so : LC.Cl P w K mg base 3 "_law_some" ["pool", "prog", "chance"] (spSome K)
  se : LC.Cl P w K mg base 7 "_law_set" ["prog", "some"] (spSetL aR K CP CC)
  un : LC.Cl P w K mg base 7 "untold" ["counters"] (spUN K CP CC aR aO)
theorem ok_law {f : Addr} {fd : FuncData} (Fn : Fun K "law" "law" sLaw f fd) (T : PT0 mg) (mInt : mg "int" = none) (TL : LT mg) (M : CMs P w K mg base aR CP CC) (N : LD P w K mg base aR aO CP CC) : FnOk P w K mg base CX0 8 f fd ["script"] (spLaw aR aO K) := by
  refine Fn.ok scLaw (fun vs H Q E h => ?_) (fun cdv A outer s H vs Q E hr h => ?_)
  · obtain ⟨a, ns, rfl, _⟩ := h
    rfl
  · obtain ⟨a, ns, rfl, ra, oa, hS, hlen, k⟩ := h
    have hu := hu_of hr
    have hun := Nat.lt_of_succ_lt (room66 hr)
    have hr1 : Room 1 _ := hr.mono (by decide)
    have hr2 : Room 2 _ := hr.mono (by decide)
    have hr3 : Room 3 _ := hr.mono (by decide)
    have hr5 : Room 5 _ := hr.mono (by decide)
    have hr6 : Room 6 _ := hr.mono (by decide)
    have hr7 : Room 7 _ := hr.mono (by decide)
    have nd := scLaw.nd
    obtain ⟨gO, fdO, mO, kO, bO, GO⟩ := N.op
    obtain ⟨gD, fdD, mD, kD, bD, GD⟩ := N.dr
    obtain ⟨gK, fdK, mK, kK, bK, GK⟩ := N.pk
    obtain ⟨gP, fdP, mP, kP, bP, GP⟩ := N.pr
    obtain ⟨gS, fdS, mS, kS, bS, GS⟩ := N.so
    obtain ⟨gT, fdT, mT, kT, bT, GT⟩ := N.se
    obtain ⟨gU, fdU, mU, kU, bU, GU⟩ := N.un
    refine ⟨_, pss_cons (ps_for PassesOwn.never rfl (pi_range1 (by rfl) TL.range (pa_cons (pe_callB (call_max2 rfl) (by rfl) TL.max PyProof.Rows.boot_max (pa_cons pe_int (pa_cons (pe_callB (call_min2 rfl) (by rfl) TL.min PyProof.Rows.boot_min (pa_cons (pe_callB call_len_seq (by rfl) TL.len PySem.boot_len (pa_cons (pv 0) pa_nil)) (pa_cons pe_int pa_nil))) pa_nil))) pa_nil)) (pg_name (i := 1) nd rfl (Or.inl rfl))
        (pss_cons (ps_set (i := 2) nd rfl (Or.inl rfl) (pe_call GO hr3 (by rfl) mO kO bO .nil pass0 (pa_cons (pv 0) (pa_cons (pv 1) (pa_cons pe_int pa_nil)))))
        (pss_cons (ps_set (i := 3) nd rfl (Or.inr rfl) (pe_call GP hr3 (by rfl) mP kP bP .nil pass0 (pa_cons (pv 2) (pa_cons pe_int (pa_cons pe_int (pa_cons pe_bl pa_nil))))))
        (pss_cons (ps_set (i := 4) nd rfl (Or.inr rfl) (pe_call GK hr2 (by rfl) mK kK bK .nil pass0 (pa_cons (pv 2) (pa_cons (pe_callB (call_sortedD rfl) (by rfl) T.sorted PyProof.Rows.boot_sorted (pa_cons (pe_dget hu (pv 3) pe_str (fun _ _ => rfl)) pa_nil)) pa_nil))))
        (pss_cons (ps_setLc (i := 6) (own := [("counter", 5)]) (g := gName 5) (tt := tTest (tOp (rEqTt K true) (tVar 5) (tTup (tCons (tC (V.str "way")) (tCons (tVar 4) tNil))))) rfl nd rfl rfl (sw_true rfl rfl rfl (by decide +kernel)) (pi_list (pe_call GS hr3 (by rfl) mS kS bS .nil pass0 (pa_cons (pv 2) (pa_cons (pv 3) (pa_cons pe_int pa_nil))))) (blkOk_by (own := [("counter", 5)]) (N := nsLaw) (sc := defScope sLaw) (by decide +kernel)) (fun _ _ _ _ _ => pg_name (i := 5) nd rfl (Or.inl rfl)) (fun _ _ _ _ _ => pts_one (pt_cmpR (op_neTt hr.units) (pv 5) (pe_tup (pa_cons pe_str (pa_cons (pv 4) pa_nil))) (nomark _))) (fun _ _ _ _ _ => pv 5))
        (pss_cons (ps_set (i := 7) nd rfl (Or.inr rfl) (pe_call GU hr7 (by rfl) mU kU bU .nil pass0 (pa_cons (pe_call GT hr7 (by rfl) mT kT bT .nil pass0 (pa_cons (pv 3) (pa_cons (pv 6) pa_nil))) pa_nil)))
        (pss_cons (ps_set (i := 8) nd rfl (Or.inl rfl) (pe_callTy (call_dictP rfl) (by rfl) T.dict (by decide +kernel) (pa_cons (pe_lock (pe_lc (own := [("one", 18)]) (g := gName 18) (tt := tYes) (te := tTup (tCons (tVar 18) (tCons (tDGet (tDGet (tVar 3) (tC (V.str "ways"))) (tVar 18)) tNil))) rfl nd (pi_keys (pe_dget hu (pv 3) pe_str (fun _ _ => rfl))) (blkOk_by (own := [("one", 18)]) (N := nsLaw) (sc := defScope sLaw) (by decide +kernel)) (fun _ _ _ _ _ => pg_name (i := 18) nd rfl (Or.inl rfl)) (fun _ _ _ _ _ => pts_nil) (fun _ _ _ _ _ => pe_tup (pa_cons (pv 18) (pa_cons (pe_dget hu (pe_dget hu (pv 3) pe_str (fun _ _ => rfl)) (pv 18) (fun _ _ => rfl)) pa_nil))))) pa_nil)))
        (pss_cons (ps_dput hu (pv 8) pe_str (pe_dget hu (pv 8) (pv 4) (fun _ _ => rfl)) rfl)
        (pss_cons (ps_set (i := 9) nd rfl (Or.inl rfl) (pe_disp (pps_cons pe_str (pv 8) (pps_cons pe_str (pe_dget hu (pv 3) pe_str (fun _ _ => rfl)) (pps_cons pe_str (pe_dget hu (pv 3) pe_str (fun _ _ => rfl)) pps_nil))) rfl rfl (by decide) (by decide)))
        (pss_cons (ps_set (i := 10) nd rfl (Or.inr rfl) (pe_call GU hr7 (by rfl) mU kU bU .nil pass0 (pa_cons (pe_call GT hr7 (by rfl) mT kT bT .nil pass0 (pa_cons (pv 9) (pa_cons (pv 6) pa_nil))) pa_nil)))
        (pss_cons (ps_if (PW.pt (pw_or (pt_cmpR (op_notInC hun) (pe_tup (pa_cons pe_str (pa_cons (pv 4) pa_nil))) (pv 10) rfl) (pw_or1 (pt_cmpR (op_notInC hun) (pe_tup (pa_cons pe_str (pa_cons pe_str pa_nil))) (pv 10) rfl)))) (pss_one (ps_ret pe_bl)) pss_nil)
        (pss_cons (ps_if (pt_cmpR (op_neC hr.units) (pe_lc (own := [("counter", 5)]) (g := gName 5) (tt := tTest (tOp (rInC K true) (tVar 5) (tVar 10))) rfl nd (pi_list (pv 7)) (blkOk_by (own := [("counter", 5)]) (N := nsLaw) (sc := defScope sLaw) (by decide +kernel)) (fun _ _ _ _ _ => pg_name (i := 5) nd rfl (Or.inl rfl)) (fun _ _ _ _ _ => pts_one (pt_cmpR (op_notInC hun) (pv 5) (pv 10) rfl)) (fun _ _ _ _ _ => pv 5)) (pe_lst pa_nil) (nomark _)) (pss_one (ps_ret pe_bl)) pss_nil)
        (pss_cons (ps_setLc (i := 11) (own := [("counter", 5)]) (g := gName 5) (tt := tAnd (tTest (tOp (rInC K true) (tVar 5) (tVar 7))) (tTest (tOp (rInC K true) (tSl (rSlA K) (tVar 5) (tPart (tC (.int 1))) tNoPart) (tLst (tCons (tTup (tCons (tVar 4) tNil)) (tCons (tTup (tCons (tC (V.str "zzz")) tNil)) tNil)))))) rfl nd rfl rfl (sw_true rfl rfl rfl (by decide +kernel)) (pi_list (pv 10)) (blkOk_by (own := [("counter", 5)]) (N := nsLaw) (sc := defScope sLaw) (by decide +kernel)) (fun _ _ _ _ _ => pg_name (i := 5) nd rfl (Or.inl rfl)) (fun _ _ _ _ _ => pts_one (PW.pt (pw_and (pt_cmpR (op_notInC hun) (pv 5) (pv 7) rfl) (pw_and1 (pt_cmpR (op_notInC hun) (pe_slice sl_tupA (pv 5) (po_some pe_int) po_none) (pe_lst (pa_cons (pe_tup (pa_cons (pv 4) pa_nil)) (pa_cons (pe_tup (pa_cons pe_str pa_nil)) pa_nil))) rfl))))) (fun _ _ _ _ _ => pv 5))
        (pss_cons (ps_if (PW.pt (pw_or (pt_cmpR (op_neC hr.units) (pv 11) (pe_lst pa_nil) (nomark _)) (pw_or1 (PW.pt (pw_and (pt_cmpR (op_inC hun) (pe_tup (pa_cons pe_str (pa_cons (pv 4) pa_nil))) (pv 7) rfl) (pw_and1 (pt_cmpR op_ne (pe_callB call_len_seq (by rfl) T.len PySem.boot_len (pa_cons (pv 10) pa_nil)) (pe_op op_add (pe_callB call_len_seq (by rfl) T.len PySem.boot_len (pa_cons (pv 7) pa_nil)) pe_int) (nomark _)))))))) (pss_one (ps_ret pe_bl)) pss_nil)
        (pss_cons (ps_asg (pe_dget hu (pe_dget hu (pv 3) pe_str (fun _ _ => rfl)) (pv 4) (fun _ _ => rfl)) (pg_tup rfl (pgs_cons (pg_name (i := 12) nd rfl (Or.inl rfl)) (pgs_cons (pg_name (i := 13) nd rfl (Or.inl rfl)) pgs_nil))))
        (pss_cons (ps_set (i := 14) nd rfl (Or.inl rfl) (pe_callTy (call_dictP rfl) (by rfl) T.dict (by decide +kernel) (pa_cons (pe_lock (pe_lc (own := [("one", 18)]) (g := gName 18) (tt := tTest (tOp rNe (tVar 18) (tVar 4))) (te := tTup (tCons (tVar 18) (tCons (tDGet (tDGet (tVar 3) (tC (V.str "ways"))) (tVar 18)) tNil))) rfl nd (pi_keys (pe_dget hu (pv 3) pe_str (fun _ _ => rfl))) (blkOk_by (own := [("one", 18)]) (N := nsLaw) (sc := defScope sLaw) (by decide +kernel)) (fun _ _ _ _ _ => pg_name (i := 18) nd rfl (Or.inl rfl)) (fun _ _ _ _ _ => pts_one (pt_cmpR op_ne (pv 18) (pv 4) (nomark _))) (fun _ _ _ _ _ => pe_tup (pa_cons (pv 18) (pa_cons (pe_dget hu (pe_dget hu (pv 3) pe_str (fun _ _ => rfl)) (pv 18) (fun _ _ => rfl)) pa_nil))))) pa_nil)))
        (pss_cons (ps_asg (pe_tup (pa_cons (pe_tup (pa_cons (pv 12) (pa_cons pe_str pa_nil))) (pa_cons (pe_tup (pa_cons pe_str (pa_cons (pv 13) pa_nil))) pa_nil))) (pg_tup rfl (pgs_cons (pg_sub (pv 14) pe_str (set_dict hu)) (pgs_cons (pg_sub (pv 14) pe_str (set_dict hu)) pgs_nil))))
        (pss_cons (ps_set (i := 15) nd rfl (Or.inl rfl) (pe_disp (pps_cons pe_str (pv 14) (pps_cons pe_str (pe_dget hu (pv 3) pe_str (fun _ _ => rfl)) (pps_cons pe_str (pe_dget hu (pv 3) pe_str (fun _ _ => rfl)) pps_nil))) rfl rfl (by decide) (by decide)))
        (pss_cons (ps_set (i := 16) nd rfl (Or.inr rfl) (pe_call GU hr7 (by rfl) mU kU bU .nil pass0 (pa_cons (pe_call GT hr7 (by rfl) mT kT bT .nil pass0 (pa_cons (pv 15) (pa_cons (pv 6) pa_nil))) pa_nil)))
        (pss_cons (ps_set (i := 17) nd rfl (Or.inl rfl) (pe_cmpR (op_inC hun) (pe_tup (pa_cons pe_str (pa_cons (pv 4) pa_nil))) (pv 7) rfl))
        (pss_cons (ps_for PassesOwn.never rfl (pi_list (pe_lst (pa_cons (pe_tup (pa_cons pe_str (pa_cons pe_str pa_nil))) (pa_cons (pe_tup (pa_cons pe_str (pa_cons pe_str pa_nil))) (pa_cons (pe_tup (pa_cons pe_str (pa_cons pe_str pa_nil))) pa_nil))))) (pg_name (i := 5) nd rfl (Or.inl rfl)) (pss_one (ps_if (pt_cmpR op_ne (pe_cmpR (op_inC hun) (pv 5) (pv 16) rfl) (pv 17) (nomark _)) (pss_one (ps_ret pe_bl)) pss_nil)))
        (pss_cons (ps_if (pt_cmpR (op_neC hr.units) (pe_lc (own := [("one", 18)]) (g := gName 18) (tt := tAnd (tTest (tOp (rEqTt K true) (tVar 18) (tTup (tCons (tC (V.str "way")) (tCons (tVar 4) tNil))))) (tTest (tOp (rInC K true) (tVar 18) (tVar 16)))) rfl nd (pi_list (pv 7)) (blkOk_by (own := [("one", 18)]) (N := nsLaw) (sc := defScope sLaw) (by decide +kernel)) (fun _ _ _ _ _ => pg_name (i := 18) nd rfl (Or.inl rfl)) (fun _ _ _ _ _ => pts_one (PW.pt (pw_and (pt_cmpR (op_neTt hr.units) (pv 18) (pe_tup (pa_cons pe_str (pa_cons (pv 4) pa_nil))) (nomark _)) (pw_and1 (pt_cmpR (op_notInC hun) (pv 18) (pv 16) rfl))))) (fun _ _ _ _ _ => pv 18)) (pe_lst pa_nil) (nomark _)) (pss_one (ps_ret pe_bl)) pss_nil)
        (pss_one (ps_if (pt_cmpR op_ne (pe_callB call_len_seq (by rfl) T.len PySem.boot_len (pa_cons (pv 16) pa_nil)) (pe_op op_add (pe_callB call_len_seq (by rfl) T.len PySem.boot_len (pa_cons (pv 7) pa_nil)) (pe_op op_mul pe_int (pe_callTy call_int1 (by rfl) mInt (by decide +kernel) (pa_cons (pv 17) pa_nil)))) (nomark _)) (pss_one (ps_ret pe_bl)) pss_nil))))))))))))))))))))))))
      (pss_one (ps_ret pe_bl)), ?_⟩
    refine ⟨_, rfl, a, _, rfl, .inl hS, _, _, rfl, _, _, rfl, ?_⟩
    rw [List.length_map]
    obtain ⟨mx, eM, hM4, hMn⟩ : ∃ M : Nat, (if (if (4 : Int) < ((ns.length : Nat) : Int) then (4 : Int) else ((ns.length : Nat) : Int)) > 1 then (if (4 : Int) < ((ns.length : Nat) : Int) then (4 : Int) else ((ns.length : Nat) : Int)) else 1) = (M : Int) ∧ M ≤ 4 ∧ (ns = [] ∨ M ≤ ns.length) := by
      cases ns with
      | nil => exact ⟨1, by simp, by decide, .inl rfl⟩
      | cons n ns =>
        by_cases h6 : (4 : Int) < (((n :: ns).length : Nat) : Int)
        · exact ⟨4, by rw [if_pos h6]; decide, Nat.le_refl _, .inr (by omega)⟩
        · by_cases h1 : (((n :: ns).length : Nat) : Int) > 1
          · exact ⟨(n :: ns).length, by rw [if_neg h6, if_pos h1], by omega, .inr (Nat.le_refl _)⟩
          · exact ⟨1, by rw [if_neg h6, if_neg h1]; rfl, by decide, .inr (by simp)⟩
    rw [eM]
    refine ⟨_, rfl, by omega, by omega, ?_⟩
    rw [Int.toNat_natCast]
    refine for_range (lo := 0) (n := mx) (fun i σ H' => ∃ (v1 v2 v3 v4 v5 v6 v7 v8 v9 v10 v11 v12 v13 v14 v15 v16 v17 : Option V), σ = [some (.ref a), v1, v2, v3, v4, v5, v6, v7, v8, v9, v10, v11, v12, v13, v14, v15, v16, v17, none] ∧ Same H H') ⟨_, _, _, _, _, _, _, _, _, _, _, _, _, _, _, _, _, rfl, Same.refl H⟩ ?_ ?_
    · rintro i σ H0 hi ⟨v1, v2, v3, v4, v5, v6, v7, v8, v9, v10, v11, v12, v13, v14, v15, v16, v17, rfl, s0⟩
      refine ⟨_, rfl, _, rfl, a, ns, i, 90, by rw [Int.zero_add]; rfl, s0.seq hS, ?_, by omega, by decide, fun p q rs H1 np nq s1 hP hl => ?_⟩
      · rcases hMn with e | e
        · exact .inl e
        · exact .inr (by omega)
      have npH : ∀ c o, H c = some o → c ≠ p := fun c o e z => by rw [z] at e; rw [s0 _ _ e] at np; cases np
      refine ⟨_, rfl, p, q, rs, 0, 4, 3, rfl, hP, by decide, by decide, by decide, fun r dp ex pls ls es b H2 i' nr ndp nex D hb l6 b12 hP2 h => ?_⟩
      have s02 : Same H H2 := fun c o e => b12 c o (npH c o e) (s1 _ _ (s0 _ _ e))
      have Gd := D.good hb
      have g := LC.pdg_of Gd
      have ra2 := ra.same s02
      have oa2 := oa.same s02
      refine lnorm (σ' := [some (.ref a), some (.int (0 + (i : Nat))), some (.ref p), some (.ref r), v4, v5, v6, v7, v8, v9, v10, v11, v12, v13, v14, v15, v16, v17, none]) rfl ?_
      -- way
      have l12 := D.l2
      obtain ⟨kvs, hd, lk⟩ := h.hw
      have kl : (keysL ls).length = ls.length := List.length_map _
      refine ⟨_, rfl, _, rfl, r, _, rfl, get_ways h, dp, kvs, keysL ls, rfl, .inl hd, lks_keys lk, by omega, fun ys p0 perm sr np0 => ?_⟩
      obtain rfl := srt_of perm sr
      have s23 := sm (o := .lst ((srt (keysL ls)).map V.str)) np0
      have hp0 : (upd H2 p0 (.lst ((srt (keysL ls)).map V.str))) p0 = some (.lst ((srt (keysL ls)).map V.str)) := upd_same
      have np : p0 ≠ p := fun z => by rw [z, hP2.hp] at np0; cases np0
      generalize upd H2 p0 (.lst ((srt (keysL ls)).map V.str)) = H3 at s23 hp0 ⊢
      have hP3 := hP2.same s23
      refine ⟨p, q, rs, i', p0, _, rfl, hP3, np, hp0, by rw [List.length_map, srt_len]; have := D.l1; omega, fun H4 i4 j v b34 hP4 hv => ?_⟩
      obtain ⟨w, hw, rfl⟩ : ∃ w, w ∈ keysL ls ∧ v = .str w := by
        rw [List.getElem?_map] at hv
        cases e : (srt (keysL ls))[j]? with
        | none => rw [e] at hv; cases hv
        | some x => rw [e] at hv; exact ⟨x, srt_mem.mp (List.mem_of_getElem? e), (Option.some.inj hv).symm⟩
      have h4 := prg_but b34 hP3 (h.same s23)
      have ra4 := ra_but b34 hP3 (ra2.same s23)
      have oa4 := oa_but b34 hP3 (oa2.same s23)
      have s04 : Same H H4 := fun c o e => b34 c o (npH c o e) (s23 _ _ (s02 _ _ e))
      have okw := g.cok [("way" : Str), w] (way_in.mpr hw)
      clear hd lk hp0 h ra2 oa2 s02 hP2 hP3 b34 s23 hv np np0 perm sr b12
      refine lnorm (σ' := [some (.ref a), some (.int (0 + (i : Nat))), some (.ref p), some (.ref r), some (.str w), v5, v6, v7, v8, v9, v10, v11, v12, v13, v14, v15, v16, v17, none]) rfl ?_
      -- some
      refine ⟨_, rfl, _, rfl, p, q, rs, i4, 3, r, dp, ex, pls, ls, b, es, rfl, hP4, h4, D, g.few, fun H5 oA u2 c2 i5 b45 noA hP5 hoA tuA subO => ⟨oA, rfl, ⟨_, SqL.of hoA⟩, fun B nB => rd_sel (fun c => !decide (c = [("way" : Str), w])) (SqL.of hoA) tuA (by have := (LC.sub_in g subO).few g; omega) nB (fun v => rfl) (fun v => rfl) (fun j e v Hx Qx sx he te qx => ?_) fun H6 us s56 hB6 tuB => ?_⟩⟩
      · obtain ⟨tv, rfl, htv⟩ := te
        refine ⟨_, rfl, _, rfl, by show 2 ≤ sizeLine; decide, fun t nt => ?_⟩
        exact ⟨tv, t, e, [("way" : Str), w], rfl, rfl, sqT_same htv (sm nt), SqT.of upd_same, (LC.sub_in g subO).ok g e (List.mem_of_getElem? he), okw, _, rfl, qx _ (sm nt)⟩
      have ic : CsIn (pdOf ls b es) (c2.filter fun c => !decide (c = [("way" : Str), w])) := LC.sub_in g (List.filter_sublist.trans subO)
      have nw : [("way" : Str), w] ∉ c2.filter fun c => !decide (c = [("way" : Str), w]) := fun z => by simpa using (List.mem_filter.mp z).2
      generalize c2.filter (fun c => !decide (c = [("way" : Str), w])) = cs at tuB ic nw
      have h6 := (prg_but b45 hP4 h4).same s56
      have ra6 := (ra_but b45 hP4 ra4).same s56
      have oa6 := (oa_but b45 hP4 oa4).same s56
      have s06 : Same H H6 := fun c o e => s56 _ _ (b45 c o (npH c o e) (s04 _ _ e))
      clear h4 ra4 oa4 s04 hP4 b45 hP5 hoA tuA subO noA nB s56 hP hl np nq
      refine lnorm (σ' := [some (.ref a), some (.int (0 + (i : Nat))), some (.ref p), some (.ref r), some (.str w), v5, some (.ref B), v7, v8, v9, v10, v11, v12, v13, v14, v15, v16, v17, none]) rfl ?_
      -- missing
      refine ⟨_, rfl, _, rfl, r, dp, ex, ls, b, es, B, us, cs, rfl, ra6, h6, Gd, SqL.of hB6, tuB, ic, fun H7 x1 dx1 y1 B1 s67 nx1 k1 => ⟨x1, dx1, y1, B1, _, _, rfl, ra6.same s67, oa6.same s67, k1, g, selC_in g _, fun H8 pm vm s78 npm hpm tpm => ?_⟩⟩
      replace tpm : TupLs K H8 vm (U (pdOf ls b es) (selC (pdOf ls b es) cs)) := tpm
      have s68 := s67.trans s78
      have h8 := h6.same s68
      have ra8 := ra6.same s68
      have oa8 := oa6.same s68
      have s08 := s06.trans s68
      have hB8 := s68 _ _ hB6
      have tu8 := TupLs.same tuB s68
      have okM := U_ok g (selC (pdOf ls b es) cs)
      clear h6 ra6 oa6 s06 hB6 tuB s67 s78 s68 k1 nx1 npm
      refine lnorm (σ' := [some (.ref a), some (.int (0 + (i : Nat))), some (.ref p), some (.ref r), some (.str w), v5, some (.ref B), some (.ref pm), v8, v9, v10, v11, v12, v13, v14, v15, v16, v17, none]) rfl ?_
      -- pairs
      obtain ⟨kvs, hd8, lk8⟩ := h8.hw
      refine ⟨dp, .dK kvs, hd8, trivial, fun od => ⟨_, rfl, r, _, rfl, get_waysL h8 (Same.refl _), dp, od, rfl, .inl ⟨kvs, upd_same, fun D1 nD1 => rd_links (fun _ => true) h8 hd8 lk8 D.kn l12 nD1 (fun v => rfl) (fun x H2 Q q => q) (fun x t H2 Q g1 g2 q => ⟨_, rfl, _, rfl, r, _, rfl, g1, _, rfl, dp, _, rfl, g2, by show 2 ≤ sizeLine; decide, fun q0 nq => q q0 nq⟩) fun H9 ps kv2 s9 hD1 pp l2 => ⟨s9 _ _ upd_same, D1, ps, kv2, rfl, ?_, pp_unlock s9 pp, fun m nm => ?_⟩⟩⟩⟩
      · refine SqL.of ?_
        rw [upd_ne (fun z => by rw [z, upd_same] at nD1; cases nD1)]
        exact hD1
      rw [List.filter_eq_self.mpr (fun _ _ => rfl)] at l2
      have s8a := same_unlock hd8 s9
      have l2a := lks_unlock s9 l2
      rw [merge_lks l2a D.kn]
      generalize upd H9 dp (.dK kvs) = Ha at s8a l2a nm ⊢
      have sab := sm (o := .dK kv2) nm
      have hmb : (upd Ha m (.dK kv2)) m = some (.dK kv2) := upd_same
      have l2b := l2a.same sab
      generalize upd Ha m (.dK kv2) = Hb at sab hmb l2b ⊢
      have s8b := s8a.trans sab
      have nm8 := RX.fr_of s8a nm
      clear pp hD1 s9 nD1 l2 l2a sab s8a
      refine lnorm (σ' := [some (.ref a), some (.int (0 + (i : Nat))), some (.ref p), some (.ref r), some (.str w), v5, some (.ref B), some (.ref pm), some (.ref m), v9, v10, v11, v12, v13, v14, v15, v16, v17, none]) rfl ?_
      -- pairs["zzz"] = pairs[way]
      obtain ⟨nz, na, nb, nz5⟩ := words_no D
      obtain ⟨t9, dg9, pk9, lkc⟩ := put_twin D.kn hw nz hmb l2b
      have lkv : kv2.length = ls.length := Paired.length l2b
      refine ⟨_, rfl, _, rfl, m, _, rfl, dg9, _, rfl, m, _, rfl, .inl ⟨kv2, Sum.inr "zzz", hmb, rfl, by rw [sizeLine_eq]; omega, rfl⟩, ?_⟩
      rw [pk9]
      have hmc : (upd Hb m (.dK (kv2 ++ [((Sum.inr "zzz" : Key), V.ref t9)]))) m = some (.dK (kv2 ++ [((Sum.inr "zzz" : Key), V.ref t9)])) := upd_same
      have s8c : Same H8 (upd Hb m (.dK (kv2 ++ [((Sum.inr "zzz" : Key), V.ref t9)]))) := fun c o e => by
        rw [upd_ne (ne_of_none e nm8)]
        exact s8b _ _ e
      generalize upd Hb m (.dK (kv2 ++ [((Sum.inr "zzz" : Key), V.ref t9)])) = Hc at hmc s8c lkc ⊢
      clear hmb l2b dg9 pk9 s8b
      -- twin
      refine fun tw ntw => ?_
      have scd := sm (o := .dK []) ntw
      have htd : (upd Hc tw (.dK [])) tw = some (.dK []) := upd_same
      generalize upd Hc tw (.dK []) = Hd at scd htd ⊢
      have hd := h8.same (s8c.trans scd)
      refine ⟨_, rfl, _, rfl, r, _, rfl, get_begin hd, _, rfl, r, _, rfl, get_exits hd, htd, [(Sum.inr "ways", .ref m), (Sum.inr "begin", .str b), (Sum.inr "exits", .ref ex)], rfl, by show 3 ≤ 15; decide, ?_⟩
      have sce : Same Hc (upd Hd tw (.dK (mergeK [] [(Sum.inr "ways", .ref m), (Sum.inr "begin", .str b), (Sum.inr "exits", .ref ex)]))) := fun c o e => by
        rw [upd_ne (ne_of_none e ntw)]
        exact scd _ _ e
      have hTe : PrgAt K (upd Hd tw (.dK (mergeK [] [(Sum.inr "ways", .ref m), (Sum.inr "begin", .str b), (Sum.inr "exits", .ref ex)]))) tw m ex (twinL ls w) b es := ⟨by rw [upd_same]; rfl, ⟨_, sce _ _ hmc, lkc.same sce⟩, (h8.same (s8c.trans sce)).he⟩
      generalize upd Hd tw (.dK (mergeK [] [(Sum.inr "ways", .ref m), (Sum.inr "begin", .str b), (Sum.inr "exits", .ref ex)])) = He at sce hTe ⊢
      have s8e := s8c.trans sce
      clear hmc lkc sce hd htd scd s8c ntw
      have Gt := twin_good Gd hw nz l12
      have gt := LC.pdg_of Gt
      have T := twin_T (b := b) (es := es) D.kn hw nz
      have nzc : [("way" : Str), "zzz"] ∉ cs := fun z => T.nz (ic.sub _ z)
      have ict : CsIn (pdOf (twinL ls w) b es) cs := ⟨fun c hc => (T.all c).mpr (.inl (ic.sub c hc)), ic.nd⟩
      refine lnorm (σ' := [some (.ref a), some (.int (0 + (i : Nat))), some (.ref p), some (.ref r), some (.str w), v5, some (.ref B), some (.ref pm), some (.ref m), some (.ref tw), v10, v11, v12, v13, v14, v15, v16, v17, none]) rfl ?_
      -- doubled
      refine ⟨_, rfl, _, rfl, tw, m, ex, twinL ls w, b, es, B, us, cs, rfl, ra8.same s8e, hTe, Gt, SqL.of (s8e _ _ hB8), TupLs.same tu8 s8e, ict, fun Hf x2 dx2 y2 B2 sef nx2 k2 => ⟨x2, dx2, y2, B2, _, _, rfl, ra8.same (s8e.trans sef), oa8.same (s8e.trans sef), k2, gt, selC_in gt _, fun Hg pt vt sfg npt hpt tpt => ?_⟩⟩
      have s8g := s8e.trans (sef.trans sfg)
      replace tpt : TupLs K Hg vt (U (pdOf (twinL ls w) b es) (selC (pdOf (twinL ls w) b es) cs)) := tpt
      rw [sel_cs gt ict] at tpt
      rw [sel_cs g ic] at tpm okM
      have okT := U_ok gt cs
      have tf := T.first nw nzc
      have ts := T.second nw nzc
      have okz := gt.cok _ (U_sub ts)
      clear k2 sef sfg npt nx2 hTe s8e
      refine lnorm (σ' := [some (.ref a), some (.int (0 + (i : Nat))), some (.ref p), some (.ref r), some (.str w), v5, some (.ref B), some (.ref pm), some (.ref m), some (.ref tw), some (.ref pt), v11, v12, v13, v14, v15, v16, v17, none]) rfl ?_
      -- both are in
      refine ⟨_, rfl, by show 2 ≤ sizeLine; decide, fun t1 nt1 => ?_⟩
      have sgh := sm (o := .tup [.str "way", .str w]) nt1
      have ht1 : (upd Hg t1 (.tup [.str "way", .str w])) t1 = some (.tup [.str "way", .str w]) := upd_same
      generalize upd Hg t1 (.tup [.str "way", .str w]) = Hh at sgh ht1 ⊢
      refine ⟨_, rfl, [("way" : Str), w], pt, vt, _, ⟨t1, rfl, SqT.of ht1⟩, rfl, SqL.of (sgh _ _ hpt), TupLs.same tpt sgh, okw, okT, _, rfl, ?_⟩
      rw [decide_eq_true tf]
      refine iteF ?_
      refine ⟨by show 2 ≤ sizeLine; decide, fun t2 nt2 => ?_⟩
      have shi := sm (o := .tup [.str "way", .str "zzz"]) nt2
      have ht2 : (upd Hh t2 (.tup [.str "way", .str "zzz"])) t2 = some (.tup [.str "way", .str "zzz"]) := upd_same
      generalize upd Hh t2 (.tup [.str "way", .str "zzz"]) = Hi at shi ht2 ⊢
      have sgi := sgh.trans shi
      refine ⟨_, rfl, [("way" : Str), "zzz"], pt, vt, _, ⟨t2, rfl, SqT.of ht2⟩, rfl, SqL.of (sgi _ _ hpt), TupLs.same tpt sgi, okz, okT, _, rfl, ?_⟩
      rw [decide_eq_true ts]
      refine iteF ?_
      have s8i := s8g.trans sgi
      clear ht1 ht2 sgh shi nt1 nt2
      -- missing are doubled
      refine ⟨_, rfl, pm, rfl, ⟨_, SqL.of (s8i _ _ hpm)⟩, fun Bc nB => rd_sel (fun c => !decide (c ∈ U (pdOf (twinL ls w) b es) cs)) (SqL.of (s8i _ _ hpm)) (TupLs.same tpm s8i) (by have := U_few g cs; omega) nB (fun v => rfl) (fun v => rfl) (fun j e v Hx Qx sx he te qx => ?_) fun Hj ts1 sij hBc hts => ?_⟩
      · exact ⟨_, rfl, _, rfl, e, pt, vt, _, te, rfl, SqL.of ((sgi.trans sx) _ _ hpt), TupLs.same tpt (sgi.trans sx), okM e (List.mem_of_getElem? he), okT, _, rfl, qx Hx (Same.refl _)⟩
      rw [show (U (pdOf ls b es) cs).filter (fun c => !decide (c ∈ U (pdOf (twinL ls w) b es) cs)) = [] from List.filter_eq_nil_iff.mpr fun c hc z => by
        have m : c ∈ U (pdOf (twinL ls w) b es) cs := by
          by_cases e1 : c = [("way" : Str), w]
          · rw [e1]; exact tf
          · exact (T.other nw e1 fun e2 => T.nz (e2 ▸ U_sub hc)).mpr hc
        rw [decide_eq_true m] at z
        cases z] at hts
      refine ⟨Nat.zero_le _, fun p7 np7 => ?_⟩
      have sjk := sm (o := .lst []) np7
      have hp7 : (upd Hj p7 (.lst [])) p7 = some (.lst []) := upd_same
      generalize upd Hj p7 (.lst []) = Hk at sjk hp7
      refine ⟨Bc, p7, ts1, [], [], [], rfl, rfl, SqL.of (sjk _ _ hBc), SqL.of hp7, TupLs.same hts sjk, .nil, fun _ z => (nomatch z), fun _ z => (nomatch z), _, rfl, ?_⟩
      rw [decide_eq_true rfl]
      refine iteF ?_
      have sgk := sgi.trans (sij.trans sjk)
      have s8k := s8g.trans sgk
      clear hBc hts hp7 np7 sij sjk sgi s8i nB
      -- rest
      have okwd : TxOkk [w] := fun y hy => okw y (List.mem_cons_of_mem _ hy)
      have okzd : TxOkk [("zzz" : Str)] := fun y hy => okz y (List.mem_cons_of_mem _ hy)
      refine ⟨_, rfl, pt, rfl, ⟨_, SqL.of (sgk _ _ hpt)⟩, fun Br nB => rd_sel (fun _ => false) (SqL.of (sgk _ _ hpt)) (TupLs.same tpt sgk) (by have := U_few gt cs; omega) nB (fun v => rfl) (fun v => rfl) (fun j e v Hx Qx sx he te qx => ?_) fun Hl tr skl hBr htr => ?_⟩
      · have sx8 := s8k.trans sx
        have me := List.mem_of_getElem? he
        refine ⟨_, rfl, _, rfl, e, pm, vm, _, te, rfl, SqL.of (sx8 _ _ hpm), TupLs.same tpm sx8, okT e me, okM, _, rfl, iteB (fun hs => ?_) (fun _ => qx Hx (Same.refl _))⟩
        have nin : e ∉ U (pdOf ls b es) cs := by simpa using hs
        obtain ⟨x, hx, rfl⟩ : ∃ x, (x = w ∨ x = "zzz") ∧ e = [("way" : Str), x] := by
          by_cases e1 : e = [("way" : Str), w]
          · exact ⟨w, .inl rfl, e1⟩
          · by_cases e2 : e = [("way" : Str), "zzz"]
            · exact ⟨_, .inr rfl, e2⟩
            · exact absurd ((T.other nw e1 e2).mp me) nin
        obtain ⟨tv, rfl, htv⟩ := te
        refine ⟨_, rfl, _, rfl, tv, [.str "way", .str x], rfl, htv, fun z => absurd (show HT.sIx 2 0 (some 1) = 0 from z.1) (by decide), fun _ p9 np9 => ?_⟩
        have sa := sm (o := .tup (cutV [.str "way", .str x] (some 1) none)) np9
        have hp9 : (upd Hx p9 (.tup (cutV [.str "way", .str x] (some 1) none))) p9 = some (.tup [.str x]) := upd_same
        generalize upd Hx p9 (.tup (cutV [.str "way", .str x] (some 1) none)) = Hx1 at sa hp9 ⊢
        refine ⟨_, rfl, by show 1 ≤ sizeLine; decide, fun t1 nt1 => ?_⟩
        have sb := sm (o := .tup [.str w]) nt1
        have ht1 : (upd Hx1 t1 (.tup [.str w])) t1 = some (.tup [.str w]) := upd_same
        generalize upd Hx1 t1 (.tup [.str w]) = Hx2 at sb ht1 ⊢
        refine ⟨by show 1 ≤ sizeLine; decide, fun t2 nt2 => ?_⟩
        have sc := sm (o := .tup [.str "zzz"]) nt2
        have ht2 : (upd Hx2 t2 (.tup [.str "zzz"])) t2 = some (.tup [.str "zzz"]) := upd_same
        generalize upd Hx2 t2 (.tup [.str "zzz"]) = Hx3 at sc ht2 ⊢
        refine ⟨by show 2 ≤ sizeLine; decide, fun l1 nl1 => ?_⟩
        have sd := sm (o := .lst [.ref t1, .ref t2]) nl1
        have hl1 : (upd Hx3 l1 (.lst [.ref t1, .ref t2])) l1 = some (.lst [.ref t1, .ref t2]) := upd_same
        generalize upd Hx3 l1 (.lst [.ref t1, .ref t2]) = Hx4 at sd hl1 ⊢
        have sbd := sb.trans (sc.trans sd)
        refine ⟨[x], l1, [.ref t1, .ref t2], [[w], [("zzz" : Str)]], ⟨p9, rfl, SqT.of (sbd _ _ hp9)⟩, rfl, SqL.of hl1, .cons ⟨t1, rfl, SqT.of ((sc.trans sd) _ _ ht1)⟩ (.cons ⟨t2, rfl, SqT.of (sd _ _ ht2)⟩ .nil), by rcases hx with rfl | rfl <;> assumption, fun c hc => by
          rcases List.mem_cons.mp hc with rfl | hc
          · exact okwd
          · rw [List.mem_singleton.mp hc]
            exact okzd, _, rfl, ?_⟩
        rw [decide_eq_true (show [x] ∈ [[w], [("zzz" : Str)]] by rcases hx with rfl | rfl <;> simp)]
        exact qx _ (sa.trans sbd)
      rw [show (U (pdOf (twinL ls w) b es) cs).filter (fun _ => false) = [] from List.filter_eq_nil_iff.mpr fun _ _ z => by cases z] at htr
      have sgl := sgk.trans skl
      have s8l := s8k.trans skl
      clear skl nB sgk s8k
      refine lnorm (σ' := [some (.ref a), some (.int (0 + (i : Nat))), some (.ref p), some (.ref r), some (.str w), v5, some (.ref B), some (.ref pm), some (.ref m), some (.ref tw), some (.ref pt), some (.ref Br), v12, v13, v14, v15, v16, v17, none]) rfl ?_
      -- rest != [] or ..
      dsimp only
      refine seq_if ?_
      refine ifc False (fun σ H' => σ = [some (.ref a), some (.int (0 + (i : Nat))), some (.ref p), some (.ref r), some (.str w), v5, some (.ref B), some (.ref pm), some (.ref m), some (.ref tw), some (.ref pt), some (.ref Br), v12, v13, v14, v15, v16, v17, none] ∧ Same Hl H') (fun Qc _ qf => ?_) (fun z => z.elim) (fun H' s => ⟨rfl, s⟩) ?_
      · refine ⟨_, rfl, Nat.zero_le _, fun p7 np7 => ?_⟩
        have slm := sm (o := .lst []) np7
        have hp7 : (upd Hl p7 (.lst [])) p7 = some (.lst []) := upd_same
        generalize upd Hl p7 (.lst []) = Hm at slm hp7
        refine ⟨Br, p7, tr, [], [], [], rfl, rfl, SqL.of (slm _ _ hBr), SqL.of hp7, TupLs.same htr slm, .nil, fun _ z => (nomatch z), fun _ z => (nomatch z), _, rfl, ?_⟩
        rw [decide_eq_true rfl]
        refine iteF ?_
        refine ⟨_, rfl, by show 2 ≤ sizeLine; decide, fun t1 nt1 => ?_⟩
        have smn := sm (o := .tup [.str "way", .str w]) nt1
        have ht1 : (upd Hm t1 (.tup [.str "way", .str w])) t1 = some (.tup [.str "way", .str w]) := upd_same
        generalize upd Hm t1 (.tup [.str "way", .str w]) = Hn at smn ht1 ⊢
        have sln := slm.trans smn
        have s8n := s8l.trans sln
        refine ⟨_, rfl, [("way" : Str), w], pm, vm, _, ⟨t1, rfl, SqT.of ht1⟩, rfl, SqL.of (s8n _ _ hpm), TupLs.same tpm s8n, okw, okM, _, rfl, iteB (fun hs => ?_) (fun _ => qf _ sln)⟩
        refine ⟨_, rfl, pt, vt, rfl, .inl (SqL.of ((sgl.trans sln) _ _ hpt)), _, rfl, pm, vm, rfl, .inl (SqL.of (s8n _ _ hpm)), _, _, rfl, rfl, rfl, _, rfl, ?_⟩
        have e1 := T.len g gt nw nzc (of_decide_eq_true hs)
        have e2 := Paired.length tpt
        have e3 := Paired.length tpm
        rw [decide_eq_true (show V.int ((vt.length : Nat) : Int) = V.int ((vm.length : Nat) + 1) by rw [e2, e3, e1]; rfl)]
        exact qf _ sln
      rintro _ Hm ⟨rfl, slm⟩
      have s8m := s8l.trans slm
      clear hBr htr sgl s8l slm
      -- start, end
      have hm := h8.same s8m
      obtain ⟨kvm, hdm, lkm⟩ := hm.hw
      obtain ⟨tq, hvq, htq⟩ := lks_val lkm hw
      refine ⟨_, rfl, r, _, rfl, get_ways hm, _, rfl, dp, .ref tq, rfl, by rw [← hvq]; exact .inl ⟨kvm, Sum.inr w, .inl hdm, rfl, rfl⟩, tq, _, rfl, htq, rfl, _, _, rfl, _, _, rfl, rfl, ?_⟩
      -- parts
      have fk : ls.filter (fun l => !decide (V.str l.1 = V.str w)) = ls.filter fun l => !decide (l.1 = w) := List.filter_congr fun l _ => by
        congr 1
        exact decide_eq_decide.mpr ⟨fun z => V.str.inj z, fun z => by rw [z]⟩
      have nf : (keysL (ls.filter fun l => !decide (l.1 = w))).Nodup := D.kn.sublist (List.filter_sublist.map _)
      refine ⟨dp, .dK kvm, hdm, trivial, fun od => ⟨_, rfl, r, _, rfl, get_waysL hm (Same.refl _), dp, od, rfl, .inl ⟨kvm, upd_same, fun D1 nD1 => rd_links (fun x => !decide (V.str x = V.str w)) hm hdm lkm D.kn l12 nD1 (fun v => rfl) (fun x H2 Q q => ⟨_, rfl, _, rfl, rfl, _, rfl, q⟩) (fun x t H2 Q g1 g2 q => ⟨_, rfl, _, rfl, r, _, rfl, g1, _, rfl, dp, _, rfl, g2, by show 2 ≤ sizeLine; decide, fun q0 nq => q q0 nq⟩) fun Hn ps kv2 s9 hD1 pp l2 => ⟨s9 _ _ upd_same, D1, ps, kv2, rfl, ?_, pp_unlock s9 pp, fun m2 nm2 => ?_⟩⟩⟩⟩
      · refine SqL.of ?_
        rw [upd_ne (fun z => by rw [z, upd_same] at nD1; cases nD1)]
        exact hD1
      rw [fk] at l2
      have sma := same_unlock hdm s9
      have l2a := lks_unlock s9 l2
      rw [merge_lks l2a nf]
      generalize upd Hn dp (.dK kvm) = Ho at sma l2a nm2 ⊢
      have sab := sm (o := .dK kv2) nm2
      have hmo : (upd Ho m2 (.dK kv2)) m2 = some (.dK kv2) := upd_same
      have l2b := l2a.same sab
      generalize upd Ho m2 (.dK kv2) = Hp at sab hmo l2b ⊢
      have smp := sma.trans sab
      have nmm := RX.fr_of sma nm2
      have lkv2 : kv2.length ≤ 12 := by
        rw [Paired.length l2b]
        exact Nat.le_trans (List.length_filter_le _ _) l12
      clear pp hD1 s9 nD1 l2 l2a sab sma fk
      refine lnorm (σ' := [some (.ref a), some (.int (0 + (i : Nat))), some (.ref p), some (.ref r), some (.str w), v5, some (.ref B), some (.ref pm), some (.ref m), some (.ref tw), some (.ref pt), some (.ref Br), some (.str (lkp ls w).1), some (.str (lkp ls w).2), some (.ref m2), v15, v16, v17, none]) rfl ?_
      -- the two halves
      refine ⟨_, rfl, by show 2 ≤ sizeLine; decide, fun t1 nt1 => ?_⟩
      have spq := sm (o := .tup [.str (lkp ls w).1, .str "zzzzz"]) nt1
      have ht1 : (upd Hp t1 (.tup [.str (lkp ls w).1, .str "zzzzz"])) t1 = some (.tup [.str (lkp ls w).1, .str "zzzzz"]) := upd_same
      generalize upd Hp t1 (.tup [.str (lkp ls w).1, .str "zzzzz"]) = Hq at spq ht1 ⊢
      refine ⟨_, rfl, by show 2 ≤ sizeLine; decide, fun t2 nt2 => ?_⟩
      have sqr := sm (o := .tup [.str "zzzzz", .str (lkp ls w).2]) nt2
      have ht2 : (upd Hq t2 (.tup [.str "zzzzz", .str (lkp ls w).2])) t2 = some (.tup [.str "zzzzz", .str (lkp ls w).2]) := upd_same
      generalize upd Hq t2 (.tup [.str "zzzzz", .str (lkp ls w).2]) = Hr at sqr ht2 ⊢
      refine ⟨by show 2 ≤ sizeLine; decide, fun t3 nt3 => ?_⟩
      have srs := sm (o := .tup [.ref t1, .ref t2]) nt3
      have ht3 : (upd Hr t3 (.tup [.ref t1, .ref t2])) t3 = some (.tup [.ref t1, .ref t2]) := upd_same
      generalize upd Hr t3 (.tup [.ref t1, .ref t2]) = Hs at srs ht3 ⊢
      have sps := spq.trans (sqr.trans srs)
      have hms := sps _ _ hmo
      have l2s := l2b.same sps
      have ka : ("zza" : Str) ∉ keysL (ls.filter fun l => !decide (l.1 = w)) := fun z => na ((List.filter_sublist.map _).subset z)
      have pa9 : putK kv2 (Sum.inr "zza" : Key) (V.ref t1) = kv2 ++ [((Sum.inr "zza" : Key), V.ref t1)] := putK_new _ (lks_none l2s ka)
      refine ⟨t3, _, rfl, SqT.of ht3, rfl, _, _, rfl, _, rfl, m2, _, rfl, .inl ⟨kv2, Sum.inr "zza", hms, rfl, by rw [sizeLine_eq]; omega, rfl⟩, ?_⟩
      rw [pa9]
      have l2t : Lks K (upd Hs m2 (.dK (kv2 ++ [((Sum.inr "zza" : Key), V.ref t1)]))) (kv2 ++ [((Sum.inr "zza" : Key), V.ref t1)]) (ls.filter (fun l => !decide (l.1 = w)) ++ [(("zza" : Str), (lkp ls w).1, ("zzzzz" : Str))]) :=
        paired_snoc (lks_off hms l2s) ⟨rfl, t1, rfl, sqT_at (SqT.of ((sqr.trans srs) _ _ ht1)) (.inr ⟨_, hms, (by intro l z; cases z), by intro od l z; cases z⟩)⟩
      have ht2t : SqT K (upd Hs m2 (.dK (kv2 ++ [((Sum.inr "zza" : Key), V.ref t1)]))) t2 [.str "zzzzz", .str (lkp ls w).2] := sqT_at (SqT.of (srs _ _ ht2)) (.inr ⟨_, hms, (by intro l z; cases z), by intro od l z; cases z⟩)
      have hmt : (upd Hs m2 (.dK (kv2 ++ [((Sum.inr "zza" : Key), V.ref t1)]))) m2 = some (.dK (kv2 ++ [((Sum.inr "zza" : Key), V.ref t1)])) := upd_same
      have smt : Same Hm (upd Hs m2 (.dK (kv2 ++ [((Sum.inr "zza" : Key), V.ref t1)]))) := fun c o e => by
        rw [upd_ne (ne_of_none e nmm)]
        exact sps _ _ (smp _ _ e)
      generalize upd Hs m2 (.dK (kv2 ++ [((Sum.inr "zza" : Key), V.ref t1)])) = Ht at l2t ht2t hmt smt ⊢
      have n3 : (keysL (ls.filter (fun l => !decide (l.1 = w)) ++ [(("zza" : Str), (lkp ls w).1, ("zzzzz" : Str))])).Nodup ∧ ("zzb" : Str) ∉ keysL (ls.filter (fun l => !decide (l.1 = w)) ++ [(("zza" : Str), (lkp ls w).1, ("zzzzz" : Str))]) := by
        have z := split_nd (w := w) D.kn na nb
        have e : keysL (splitL ls w) = keysL (ls.filter (fun l => !decide (l.1 = w)) ++ [(("zza" : Str), (lkp ls w).1, ("zzzzz" : Str))]) ++ [("zzb" : Str)] := by
          unfold splitL keysL
          rw [List.map_append, List.map_append, List.append_assoc]
          rfl
        rw [e] at z
        obtain ⟨z1, _, z3⟩ := List.nodup_append.mp z
        exact ⟨z1, fun h => z3 _ h _ (List.mem_singleton.mpr rfl) rfl⟩
      have pb9 : putK (kv2 ++ [((Sum.inr "zza" : Key), V.ref t1)]) (Sum.inr "zzb" : Key) (V.ref t2) = kv2 ++ [((Sum.inr "zza" : Key), V.ref t1)] ++ [((Sum.inr "zzb" : Key), V.ref t2)] := putK_new _ (lks_none l2t n3.2)
      refine ⟨_, _, rfl, _, rfl, m2, _, rfl, .inl ⟨_, Sum.inr "zzb", hmt, rfl, by rw [List.length_append, sizeLine_eq]; show _ + 1 < _; omega, rfl⟩, rfl, ?_⟩
      rw [pb9]
      have lku : Lks K (upd Ht m2 (.dK (kv2 ++ [((Sum.inr "zza" : Key), V.ref t1)] ++ [((Sum.inr "zzb" : Key), V.ref t2)]))) (kv2 ++ [((Sum.inr "zza" : Key), V.ref t1)] ++ [((Sum.inr "zzb" : Key), V.ref t2)]) (splitL ls w) := by
        have e : splitL ls w = ls.filter (fun l => !decide (l.1 = w)) ++ [(("zza" : Str), (lkp ls w).1, ("zzzzz" : Str))] ++ [(("zzb" : Str), ("zzzzz" : Str), (lkp ls w).2)] := by
          unfold splitL
          rw [List.append_assoc]
          rfl
        rw [e]
        exact paired_snoc (lks_off hmt l2t) ⟨rfl, t2, rfl, sqT_at ht2t (.inr ⟨_, hmt, (by intro l z; cases z), by intro od l z; cases z⟩)⟩
      have hmu : (upd Ht m2 (.dK (kv2 ++ [((Sum.inr "zza" : Key), V.ref t1)] ++ [((Sum.inr "zzb" : Key), V.ref t2)]))) m2 = some (.dK (kv2 ++ [((Sum.inr "zza" : Key), V.ref t1)] ++ [((Sum.inr "zzb" : Key), V.ref t2)])) := upd_same
      have smu : Same Hm (upd Ht m2 (.dK (kv2 ++ [((Sum.inr "zza" : Key), V.ref t1)] ++ [((Sum.inr "zzb" : Key), V.ref t2)]))) := fun c o e => by
        rw [upd_ne (ne_of_none e nmm)]
        exact smt _ _ e
      generalize upd Ht m2 (.dK (kv2 ++ [((Sum.inr "zza" : Key), V.ref t1)] ++ [((Sum.inr "zzb" : Key), V.ref t2)])) = Hu at lku hmu smu ⊢
      clear pb9 pa9 n3 ka l2t ht2t hmt smt hms l2s sps srs sqr spq ht1 ht2 ht3 nt1 nt2 nt3 hmo l2b smp nmm lkv2 nf nm2
      have s8u := s8m.trans smu
      -- split
      dsimp only
      refine fun sp nsp => ?_
      have suv := sm (o := .dK []) nsp
      have htv : (upd Hu sp (.dK [])) sp = some (.dK []) := upd_same
      generalize upd Hu sp (.dK []) = Hv at suv htv ⊢
      have hv := h8.same (s8u.trans suv)
      refine ⟨_, rfl, _, rfl, r, _, rfl, get_begin hv, _, rfl, r, _, rfl, get_exits hv, htv, [(Sum.inr "ways", .ref m2), (Sum.inr "begin", .str b), (Sum.inr "exits", .ref ex)], rfl, by show 3 ≤ 15; decide, ?_⟩
      have suw : Same Hu (upd Hv sp (.dK (mergeK [] [(Sum.inr "ways", .ref m2), (Sum.inr "begin", .str b), (Sum.inr "exits", .ref ex)]))) := fun c o e => by
        rw [upd_ne (ne_of_none e nsp)]
        exact suv _ _ e
      have hSw : PrgAt K (upd Hv sp (.dK (mergeK [] [(Sum.inr "ways", .ref m2), (Sum.inr "begin", .str b), (Sum.inr "exits", .ref ex)]))) sp m2 ex (splitL ls w) b es := ⟨by rw [upd_same]; rfl, ⟨_, suw _ _ hmu, lku.same suw⟩, (h8.same (s8u.trans suw)).he⟩
      generalize upd Hv sp (.dK (mergeK [] [(Sum.inr "ways", .ref m2), (Sum.inr "begin", .str b), (Sum.inr "exits", .ref ex)])) = Hw at suw hSw ⊢
      have s8w := s8u.trans suw
      clear hmu lku suw hv htv suv s8u smu nsp
      have Gs := split_good Gd hw na nb l12 D.plc
      have gs := LC.pdg_of Gs
      have Q2 := split_T (b := b) (es := es) Gd hw na nb nz5
      have nac : [("way" : Str), "zza"] ∉ cs := fun z => Q2.na (ic.sub _ z)
      have nbc : [("way" : Str), "zzb"] ∉ cs := fun z => Q2.nb (ic.sub _ z)
      have nmc : [("place" : Str), "zzzzz"] ∉ cs := fun z => Q2.nm (ic.sub _ z)
      have ics : CsIn (pdOf (splitL ls w) b es) cs := ⟨fun c hc => (Q2.all c).mpr (.inl ⟨ic.sub c hc, fun e => nw (e ▸ hc)⟩), ic.nd⟩
      refine lnorm (σ' := [some (.ref a), some (.int (0 + (i : Nat))), some (.ref p), some (.ref r), some (.str w), v5, some (.ref B), some (.ref pm), some (.ref m), some (.ref tw), some (.ref pt), some (.ref Br), some (.str (lkp ls w).1), some (.str (lkp ls w).2), some (.ref m2), some (.ref sp), v16, v17, none]) rfl ?_
      -- halves
      refine ⟨_, rfl, _, rfl, sp, m2, ex, splitL ls w, b, es, B, us, cs, rfl, ra8.same s8w, hSw, Gs, SqL.of (s8w _ _ hB8), TupLs.same tu8 s8w, ics, fun Hx x3 dx3 y3 B3 swx nx3 k3 => ⟨x3, dx3, y3, B3, _, _, rfl, ra8.same (s8w.trans swx), oa8.same (s8w.trans swx), k3, gs, selC_in gs _, fun Hy ph vh sxy nph hph tph => ?_⟩⟩
      have s8y := s8w.trans (swx.trans sxy)
      replace tph : TupLs K Hy vh (U (pdOf (splitL ls w) b es) (selC (pdOf (splitL ls w) b es) cs)) := tph
      rw [sel_cs gs ics] at tph
      have okH := U_ok gs cs
      obtain ⟨pcA, pcM, pcB⟩ := Q2.pieces nw nac nmc nbc
      have len := Q2.len g gs nw nac nmc nbc
      clear k3 swx sxy nph nx3 hSw s8w
      refine lnorm (σ' := [some (.ref a), some (.int (0 + (i : Nat))), some (.ref p), some (.ref r), some (.str w), v5, some (.ref B), some (.ref pm), some (.ref m), some (.ref tw), some (.ref pt), some (.ref Br), some (.str (lkp ls w).1), some (.str (lkp ls w).2), some (.ref m2), some (.ref sp), some (.ref ph), v17, none]) rfl ?_
      -- is_missing
      refine ⟨_, rfl, by show 2 ≤ sizeLine; decide, fun t1 nt1 => ?_⟩
      have syz := sm (o := .tup [.str "way", .str w]) nt1
      have ht1 : (upd Hy t1 (.tup [.str "way", .str w])) t1 = some (.tup [.str "way", .str w]) := upd_same
      generalize upd Hy t1 (.tup [.str "way", .str w]) = Hz at syz ht1 ⊢
      have s8z := s8y.trans syz
      refine ⟨_, rfl, [("way" : Str), w], pm, vm, _, ⟨t1, rfl, SqT.of ht1⟩, rfl, SqL.of (s8z _ _ hpm), TupLs.same tpm s8z, okw, okM, ?_⟩
      have hphz := syz _ _ hph
      have tphz := TupLs.same tph syz
      refine lnorm (σ' := [some (.ref a), some (.int (0 + (i : Nat))), some (.ref p), some (.ref r), some (.str w), v5, some (.ref B), some (.ref pm), some (.ref m), some (.ref tw), some (.ref pt), some (.ref Br), some (.str (lkp ls w).1), some (.str (lkp ls w).2), some (.ref m2), some (.ref sp), some (.ref ph), some (.bl (decide ([("way" : Str), w] ∈ U (pdOf ls b es) cs))), none]) rfl ?_
      clear ht1 nt1 hph tph syz s8y
      -- the three pieces
      refine ⟨by show 2 ≤ sizeLine; decide, fun t2 nt2 => ?_⟩
      have sa := sm (o := .tup [.str "way", .str "zza"]) nt2
      have h2 : (upd Hz t2 (.tup [.str "way", .str "zza"])) t2 = some (.tup [.str "way", .str "zza"]) := upd_same
      generalize upd Hz t2 (.tup [.str "way", .str "zza"]) = I1 at sa h2 ⊢
      refine ⟨by show 2 ≤ sizeLine; decide, fun t3 nt3 => ?_⟩
      have sb := sm (o := .tup [.str "way", .str "zzb"]) nt3
      have h3 : (upd I1 t3 (.tup [.str "way", .str "zzb"])) t3 = some (.tup [.str "way", .str "zzb"]) := upd_same
      generalize upd I1 t3 (.tup [.str "way", .str "zzb"]) = I2 at sb h3 ⊢
      refine ⟨by show 2 ≤ sizeLine; decide, fun t4 nt4 => ?_⟩
      have sc := sm (o := .tup [.str "place", .str "zzzzz"]) nt4
      have h4 : (upd I2 t4 (.tup [.str "place", .str "zzzzz"])) t4 = some (.tup [.str "place", .str "zzzzz"]) := upd_same
      generalize upd I2 t4 (.tup [.str "place", .str "zzzzz"]) = I3 at sc h4 ⊢
      refine ⟨by show 3 ≤ sizeLine; decide, fun l3 nl3 => ?_⟩
      have sd := sm (o := .lst [.ref t2, .ref t3, .ref t4]) nl3
      have hl3 : (upd I3 l3 (.lst [.ref t2, .ref t3, .ref t4])) l3 = some (.lst [.ref t2, .ref t3, .ref t4]) := upd_same
      generalize upd I3 l3 (.lst [.ref t2, .ref t3, .ref t4]) = I4 at sd hl3 ⊢
      have szd := sa.trans (sb.trans (sc.trans sd))
      have three : TupLs K I4 [.ref t2, .ref t3, .ref t4] [[("way" : Str), "zza"], [("way" : Str), "zzb"], [("place" : Str), "zzzzz"]] := .cons ⟨t2, rfl, SqT.of ((sb.trans (sc.trans sd)) _ _ h2)⟩ (.cons ⟨t3, rfl, SqT.of ((sc.trans sd) _ _ h3)⟩ (.cons ⟨t4, rfl, SqT.of (sd _ _ h4)⟩ .nil))
      have all3 : ∀ c ∈ [[("way" : Str), "zza"], [("way" : Str), "zzb"], [("place" : Str), "zzzzz"]], (c ∈ U (pdOf (splitL ls w) b es) cs ↔ [("way" : Str), w] ∈ U (pdOf ls b es) cs) ∧ c ∈ allC (pdOf (splitL ls w) b es) := fun c hc => by
        rcases List.mem_cons.mp hc with rfl | hc
        · exact ⟨pcA, (Q2.all _).mpr (.inr (.inl rfl))⟩
        rcases List.mem_cons.mp hc with rfl | hc
        · exact ⟨pcB, (Q2.all _).mpr (.inr (.inr (.inr rfl)))⟩
        · rw [List.mem_singleton.mp hc]
          exact ⟨pcM, (Q2.all _).mpr (.inr (.inr (.inl rfl)))⟩
      refine ⟨l3, rfl, ⟨_, SqL.of hl3⟩, for_it (walk_list (xs := [V.ref t2, .ref t3, .ref t4])) (fun j σ H' => ∃ (v5 : Option V), σ = [some (.ref a), some (.int (0 + (i : Nat))), some (.ref p), some (.ref r), some (.str w), v5, some (.ref B), some (.ref pm), some (.ref m), some (.ref tw), some (.ref pt), some (.ref Br), some (.str (lkp ls w).1), some (.str (lkp ls w).2), some (.ref m2), some (.ref sp), some (.ref ph), some (.bl (decide ([("way" : Str), w] ∈ U (pdOf ls b es) cs))), none] ∧ Same I4 H') ⟨_, rfl, Same.refl _⟩ (fun j σ H' _ ⟨_, _, z⟩ => SqL.of (z _ _ hl3)) ?_ ?_⟩
      · rintro j v σ J1 J2 hj ⟨v5, rfl, sj⟩ ⟨rfl, hv⟩
        obtain ⟨c, hc, tc⟩ := paired_at three hv
        obtain ⟨c1, c2⟩ := all3 c (List.mem_of_getElem? hc)
        have szj := szd.trans sj
        refine ⟨_, rfl, _, rfl, c, ph, vh, _, tc.same sj, rfl, SqL.of (szj _ _ hphz), TupLs.same tphz szj, gs.cok c c2, okH, _, rfl, rfl, _, rfl, ?_⟩
        rw [if_neg (by decide), decide_eq_true (show V.bl (decide (c ∈ U (pdOf (splitL ls w) b es) cs)) = V.bl (decide ([("way" : Str), w] ∈ U (pdOf ls b es) cs)) by rw [decide_eq_decide.mpr c1])]
        exact iteF ⟨_, rfl, sj⟩
      rintro σ J1 ⟨v5', rfl, sj⟩
      have s8j := s8z.trans (szd.trans sj)
      have szj := szd.trans sj
      -- [one for one in missing ..]
      refine ⟨_, rfl, pm, rfl, ⟨_, SqL.of (s8j _ _ hpm)⟩, fun Bc nB => rd_sel (fun _ => false) (SqL.of (s8j _ _ hpm)) (TupLs.same tpm s8j) (by have := U_few g cs; omega) nB (fun v => rfl) (fun v => rfl) (fun j e v Hx Qx sx he te qx => ?_) fun J2 ts2 sjk hBc hts => ?_⟩
      · have me := List.mem_of_getElem? he
        obtain ⟨tv, rfl, htv⟩ := te
        refine ⟨_, rfl, _, rfl, by show 2 ≤ sizeLine; decide, fun t5 nt5 => ?_⟩
        have s5 := sm (o := .tup [.str "way", .str w]) nt5
        have h5 : (upd Hx t5 (.tup [.str "way", .str w])) t5 = some (.tup [.str "way", .str w]) := upd_same
        generalize upd Hx t5 (.tup [.str "way", .str w]) = Hx1 at s5 h5 ⊢
        refine ⟨tv, t5, e, [("way" : Str), w], rfl, rfl, sqT_same htv s5, SqT.of h5, okM e me, okw, _, rfl, iteB (fun hs => ?_) (fun _ => qx _ s5)⟩
        have ne : e ≠ [("way" : Str), w] := by simpa using hs
        have sx5 := szj.trans (sx.trans s5)
        refine ⟨_, rfl, _, rfl, e, ph, vh, _, ⟨tv, rfl, sqT_same htv s5⟩, rfl, SqL.of (sx5 _ _ hphz), TupLs.same tphz sx5, okM e me, okH, _, rfl, ?_⟩
        rw [decide_eq_true ((Q2.other nw nac nmc nbc (U_sub me) ne).mpr me)]
        exact qx _ s5
      rw [show (U (pdOf ls b es) cs).filter (fun _ => false) = [] from List.filter_eq_nil_iff.mpr fun _ _ z => by cases z] at hts
      refine ⟨Nat.zero_le _, fun p7 np7 => ?_⟩
      have skl := sm (o := .lst []) np7
      have hp7 : (upd J2 p7 (.lst [])) p7 = some (.lst []) := upd_same
      generalize upd J2 p7 (.lst []) = J3 at skl hp7
      refine ⟨Bc, p7, ts2, [], [], [], rfl, rfl, SqL.of (skl _ _ hBc), SqL.of hp7, TupLs.same hts skl, .nil, fun _ z => (nomatch z), fun _ z => (nomatch z), _, rfl, ?_⟩
      rw [decide_eq_true rfl]
      refine iteF ?_
      have sjl := sjk.trans skl
      -- len
      refine ⟨_, rfl, ph, vh, rfl, .inl (SqL.of ((szj.trans sjl) _ _ hphz)), _, rfl, pm, vm, rfl, .inl (SqL.of ((s8j.trans sjl) _ _ hpm)), _, rfl, .inr ⟨_, rfl, _, _, rfl, rfl, .inl ⟨by decide, by decide⟩, _, _, rfl, rfl, rfl, _, rfl, ?_⟩⟩
      have e2 := Paired.length tphz
      have e3 := Paired.length tpm
      rw [decide_eq_true (show V.int ((vh.length : Nat) : Int) = V.int ((vm.length : Nat) + 2 * (if decide ([("way" : Str), w] ∈ U (pdOf ls b es) cs) = true then 1 else 0)) by
        rw [e2, e3, len]
        by_cases hq : [("way" : Str), w] ∈ U (pdOf ls b es) cs
        · rw [if_pos hq, if_pos (decide_eq_true hq)]; rfl
        · rw [if_neg hq, if_neg (by simpa using hq)]; rfl)]
      refine iteF ?_
      exact ⟨_, _, _, _, _, _, _, _, _, _, _, _, _, _, _, _, _, rfl, s08.trans (s8j.trans sjl)⟩
    · rintro σ H1 ⟨v1, v2, v3, v4, v5, v6, v7, v8, v9, v10, v11, v12, v13, v14, v15, v16, v17, rfl, s1⟩
      exact k H1
end
end TL


set_option Elab.async false
set_option linter.all false
set_option maxRecDepth 100000
set_option maxHeartbeats 4000000
/-! a law's end where its promise wants that no repr is under way. -/
namespace RP
open PySem PySem.Spec PyProof.Rows L2
section
variable {P : Program} {w : World} {K : PySem.W.Frag} {mg mb : Str → Option Value} {s : Shared}
/-- the place of a law's call, the things of H set apart -/
theorem env_at {H : Hp} (KX : K.In s.heap) (hns : s.heap.Ns mainGlobals mg) (hb : s.heap.Ns builtinsNs mb) (hbb : ∀ x : Str, x ≠ "__name__" → mb x = bootBuiltins x) (hlim : s.heap.NoLimit) (hg : s.gens = #[])
    (apart : ∀ (b : Addr) (o : Obj), H b ≠ none → s.heap.get? b = some o → K.lookup b = none ∧ ∀ (es : Array DictEntry) (ep : Nat), o.data ≠ .dict es ep) (hok : HOk P w H s.heap) :
    K.In (hidT s.heap H) ∧ (hidT s.heap H).Ns mainGlobals mg ∧ Env0 P w K mg (hidT s.heap H) callerA [] s H := by
  have free : ∀ (b : Addr) (o : Obj), s.heap.get? b = some o → (H b ≠ none → False) → (hidT s.heap H).get? b = some o := fun b o e n => hidT_get e (Classical.not_not.mp n)
  have ns : ∀ {b : Addr} {m : Str → Option Value}, s.heap.Ns b m → (hidT s.heap H).Ns b m := by
    rintro b m ⟨o, es, ep, e, d, r⟩
    exact ⟨o, es, ep, free b o e fun z => (apart b o z e).2 es ep d, d, r⟩
  have kb : K.In (hidT s.heap H) := fun b o e => free b o (KX b o e) fun z => by
    have q := (apart b o z (KX b o e)).1
    rw [e] at q
    cases q
  obtain ⟨mc, l1, l2⟩ := hlim
  refine ⟨kb, ns hns, rfl, ⟨kb, ns hns, ⟨mb, ns hb, hbb⟩, ⟨mc, ns l1, l2⟩⟩, fun b o e => of_hidT e, Nat.le_of_eq (hidT_size _ _), trivial, fun b z => ?_, hok, .of_eq hg⟩
  exact absurd (show b ∈ ([] : List Addr) from z) List.not_mem_nil
/-- nothing but one frozen list is held -/
theorem call_G {k : Nat} {fa a : Addr} {fd : FuncData} {x : Str} {sp : Sp} {vs : List Value} {ns : List Int} (KX : K.In s.heap) (hns : s.heap.Ns mainGlobals mg) (hb : s.heap.Ns builtinsNs mb) (hbb : ∀ x : Str, x ≠ "__name__" → mb x = bootBuiltins x) (hlim : s.heap.NoLimit) (hg : s.gens = #[])
    (ha : s.heap.get? a = some { cls := .type "list", data := .seq vs.toArray }) (hi : IntsAre vs ns) (hl : ns.length ≤ sizeLine) (hr : Room k callerA)
    (F : ∀ base : Heap, K.In base → base.Ns mainGlobals mg → FnG P w K mg base CX0 k fa fd [x] sp) (hbind : ∀ (s : Shared) (u : Value), BindsTo s fd ⟨[u], []⟩ [(x, u)])
    (hsp : ∀ H : Hp, SqL K H a (ns.map V.int) → sp [.ref a] H (fun v _ => v = .bl true) fun _ _ _ => False) :
    codeAny (model P w) callerA (.call (.ref fa) ⟨[.ref a], []⟩) (fun r s' => r = .ok (.ret (.bool true)) ∧ OldK s.heap s'.heap ∧ s'.os = s.os ∧ AllBare s'.gens) s := by
  have rv := vals_ints hi
  have lenV := hi.length
  have pick : ∃ H : Hp, SqL K H a (ns.map V.int) ∧ HOk P w H s.heap ∧ (∀ (b : Addr) (o : Obj), H b ≠ none → s.heap.get? b = some o → K.lookup b = none ∧ ∀ (es : Array DictEntry) (ep : Nat), o.data ≠ .dict es ep) ∧ ∀ b u, H b = some u → ∃ ob xs, u = .frz ob (.lst xs) := by
    cases hk : K.lookup a with
    | some o =>
      have e := (KX a o hk).symm.trans ha
      injection e with e
      subst e
      exact ⟨fun _ => none, .inr ⟨_, vs.toArray, _, hk, rfl, rfl, rfl, by rw [List.size_toArray, lenV]; exact hl, by simpa using rv⟩, (fun b u z => nomatch z), fun b o z => absurd rfl z, fun b u z => nomatch z⟩
    | none =>
      let fz : HO := .frz { cls := .type "list", data := .seq vs.toArray } (.lst (ns.map V.int))
      have at_a : ∀ (b : Addr) (u : HO), (if b = a then some fz else none) = some u → b = a ∧ u = fz := fun b u z => by
        by_cases q : b = a
        · rw [if_pos q] at z
          exact ⟨q, (Option.some.inj z).symm⟩
        · rw [if_neg q] at z
          cases z
      refine ⟨fun b => if b = a then some fz else none, .inl (.inr ⟨_, if_pos rfl⟩), fun b u z => ?_, fun b o z e => ?_, fun b u z => ⟨_, _, (at_a b u z).2⟩⟩
      · obtain ⟨rfl, rfl⟩ := at_a b u z
        exact ⟨ha, by rw [List.length_map]; exact hl, vs, _, rv, ha⟩
      · have q : b = a := Classical.byContradiction fun q => z (if_neg q)
        subst q
        rw [ha] at e
        injection e with e
        subst e
        exact ⟨hk, fun es ep z => by cases z⟩
  obtain ⟨H, hS, hok, apart, frz⟩ := pick
  obtain ⟨kb, nb, e0⟩ := env_at (P := P) (w := w) KX hns hb hbb hlim hg apart hok
  refine codeAny_mono ((F _ kb nb).run callerA [] s H ⟨[.ref a], []⟩ [.ref a] [.ref a] _ _ rfl hr e0 (hbind s (.ref a)) (.cons rfl .nil) (hsp H hS)) ?_
  rintro (e | fl) s' h
  · exact False.elim h
  · cases fl with
    | next => exact False.elim h
    | brk => exact False.elim h
    | cont => exact False.elim h
    | ret u =>
      obtain ⟨v, H', os, bare, un, hok', r', q⟩ := h
      cases (show v = .bl true from q)
      cases (show u = Value.bool true from r')
      refine ⟨rfl, OldK.of_keep fun b o e => ?_, os, bare⟩
      cases hb' : H b with
      | none => exact un.keep b o e hb' (fun z => absurd (show b ∈ ([] : List Addr) from z) List.not_mem_nil) (by simp)
      | some u =>
        obtain ⟨ob, xs, rfl⟩ := frz b u hb'
        obtain ⟨e1, _⟩ := hok b _ hb'
        obtain ⟨e2, _⟩ := hok' b _ (un.frzs b ob _ hb')
        rw [e] at e1
        cases e1
        exact e2
end
theorem walk_G {l : PySem.W.OpenLaw} {n k : Nat} {q : Program} {loose : List Str} {XP : (Str → Option Value) → Heap → Prop} {YP : World → Heap → Prop} {d : DefRec} {K : Params → PySem.W.Frag} {sp : World → Sp} {x : Str} (hn : l.most = some n) (hn2 : n ≤ sizeLine) (hdf : d.params.defaults = []) (hr : Room k callerA)
    (hY : ∀ (w : World) (h : Heap), YP w h → (K w.params).In h)
    (F : ∀ (w : World) (mg : Str → Option Value) (fa : Addr) (h : Heap), (K w.params).In h → h.Ns mainGlobals mg → mg d.name = some (.ref fa) → ∃ fd : FuncData, (∀ (s : Shared) (u : Value), BindsTo s fd ⟨[u], []⟩ [(x, u)]) ∧ ∀ base : Heap, (K w.params).In base → base.Ns mainGlobals mg → FnG l.prog w (K w.params) mg base CX0 k fa fd [x] (sp w))
    (hsp : ∀ (w : World) (H : Hp) (a : Addr) (ns : List Int), ns.length ≤ n → SqL (K w.params) H a (ns.map V.int) → sp w [.ref a] H (fun v _ => v = .bl true) fun _ _ _ => False) : PySem.W.WalkO q loose XP YP l.row.toRowW d [] (fun f vs => PySem.call f vs) :=
  Att.attach_call hn hdf fun w _ _ mg _ fa _ _ _ _ a _ ns G Y _ _ _ hmg hobj hints hlen hg => by
    obtain ⟨fd, hb, hF⟩ := F w mg fa _ (hY w _ Y) G.T.g hmg
    exact call_G (hY w _ Y) G.T.g G.T.b G.T.builtins G.T.nolimit hg hobj hints (Nat.le_trans hlen hn2) hr hF hb fun H hS => hsp w H a ns hlen hS
end RP


set_option Elab.async false
set_option linter.all false
set_option maxRecDepth 100000
set_option maxHeartbeats 4000000
/-! heads whose compiled file does not grow with the program: facts of one's own, looked at behind one kernel run. -/
namespace HD
open PySem PySem.Spec PyProof.Rows L2
instance decCF : DecidableEq PySem.W.CFound
  | .val v, .val u => decidable_of_iff (v = u) ⟨fun h => by rw [h], fun h => by injection h⟩
  | .get a b c d, .get a' b' c' d' => decidable_of_iff (a = a' ∧ b = b' ∧ c = c' ∧ d = d') ⟨fun ⟨h1, h2, h3, h4⟩ => by rw [h1, h2, h3, h4], fun h => by injection h with h1 h2 h3 h4; exact ⟨h1, h2, h3, h4⟩⟩
  | .val _, .get _ _ _ _ => isFalse fun h => by cases h
  | .get _ _ _ _, .val _ => isFalse fun h => by cases h
abbrev Fact : Type := PySem.W.Frag → Bool
abbrev FnV : Type := Option (Str × Str × Arguments × FuncBody × Scope × Addr × List (Str × Addr) × Value × Addr)
structure FD where
  at_ : PySem.W.Frag → Addr
  name : Str
  qual : Str
  params : Arguments
  body : List Stmt
  scope : Scope
def FD.val (d : FD) : FnV := some (d.name, d.qual, d.params, .stmts d.body, d.scope, mainGlobals, [], .none, builtinsNs)
def fnAt (K : PySem.W.Frag) (a : Addr) : FnV := match K.lookup a with
  | some ⟨_, _, .func fd, _⟩ => some (fd.name, fd.qualname, fd.params, fd.body, fd.scope, fd.globals, fd.closure, fd.defaults, fd.builtins)
  | _ => none
def FD.ok (K : PySem.W.Frag) (d : FD) : Bool := match K.lookup (d.at_ K) with
  | some ⟨_, _, .func fd, _⟩ => PySem.W.codeIn K fd.code d.qual
  | _ => false
theorem fn_ok {K : PySem.W.Frag} {d : FD} (e : fnAt K (d.at_ K) = d.val) (c : d.ok K = true) :
    ∃ oc od osl kV doc pm an cdv ct, K.lookup (d.at_ K) = some ⟨oc, od, .func (PySem.W.fnOf d.name d.qual d.params d.body d.scope .none kV doc pm an cdv ct), osl⟩ ∧ PySem.W.codeIn K cdv d.qual = true := by
  have c2 : (match K.lookup (d.at_ K) with
    | some ⟨_, _, .func fd, _⟩ => PySem.W.codeIn K fd.code d.qual
    | _ => false) = true := c
  unfold fnAt at e
  cases q : K.lookup (d.at_ K) with
  | none =>
    rw [q] at c2
    cases c2
  | some o =>
    obtain ⟨oc, od, dt, osl⟩ := o
    rw [q] at c2 e
    cases dt with
    | func fd =>
      obtain ⟨n1, n2, n3, n4, n5, n6, n7, n8, n9, n10, n11, n12, n13, n14, n15⟩ := fd
      have e2 : (some (n1, n2, n3, n4, n5, n6, n7, n8, n15) : FnV) = some (d.name, d.qual, d.params, .stmts d.body, d.scope, mainGlobals, [], .none, builtinsNs) := e
      simp only [Option.some.injEq, Prod.mk.injEq] at e2
      obtain ⟨h1, h2, h3, h4, h5, h6, h7, h8, h9⟩ := e2
      subst h1 h2 h3 h4 h5 h6 h7 h8 h9
      exact ⟨oc, od, osl, n9, n10, n11, n12, n13, n14, rfl, c2⟩
    | _ => cases c2
/-- the first thing a descriptor holds, and the rest -/
def rec0 (K : PySem.W.Frag) (p : Addr) (T : String) : Addr := match PySem.W.recIn K p T with
  | some (.ref a :: _) => a
  | _ => 0
def recR (K : PySem.W.Frag) (p : Addr) (T : String) : List Value := match PySem.W.recIn K p T with
  | some (_ :: r) => r
  | _ => []
/-- a text, a number of the module -/
def strT (K : PySem.W.Frag) (x : Str) : Tok := match PySem.W.nsIn K mainGlobals x with
  | some (some (.str _ t)) => t
  | _ => default
def intT (K : PySem.W.Frag) (x : Str) : Tok := match PySem.W.nsIn K mainGlobals x with
  | some (some (.int _ t)) => t
  | _ => default
theorem tup1 {K : PySem.W.Frag} {x z : Str} (h : He.tupB K x [.str z] = true) : ∃ od t n sl, K.lookup (He.ga K x) = some ⟨.type "tuple", od, .seq #[.str z t] n, sl⟩ := by
  unfold He.tupB at h
  cases q : K.lookup (He.ga K x) with
  | none =>
    rw [q] at h
    cases h
  | some o =>
    obtain ⟨oc, od, dt, osl⟩ := o
    rw [q] at h
    cases oc with
    | type c =>
      cases dt with
      | seq its n =>
        obtain ⟨h1, h2⟩ := He.ba (show (decide (c = "tuple") && (decide (its.size ≤ sizeLine) && He.relAll ([He.Dv.str z].map (He.Dv.v K)) its.toList)) = true from h)
        obtain ⟨h3, h4⟩ := He.ba h2
        have e1 : c = "tuple" := of_decide_eq_true h1
        subst e1
        obtain ⟨l⟩ := its
        have h5 : He.relAll [V.str z] l = true := h4
        match l, h5 with
        | [u], h5 =>
          obtain ⟨h6, _⟩ := He.ba (show (He.relB (.str z) u && He.relAll [] []) = true from h5)
          obtain ⟨t, rfl⟩ := He.relB_ok h6
          exact ⟨od, t, n, osl, rfl⟩
        | [], h5 => cases h5
        | u :: u' :: r, h5 =>
          obtain ⟨_, h7⟩ := He.ba (show (He.relB (.str z) u && He.relAll [] (u' :: r)) = true from h5)
          cases h7
      | _ => cases h
    | _ => cases dt <;> cases h
/-- the object of a static method -/
def stO (K : PySem.W.Frag) (C : Addr) (x : Str) : Addr := match PySem.W.findCls K (.ref C) (.type "type") x with
  | some (.get _ (.ref p) _ _) => p
  | _ => 0
/-- a list gone through once -/
def frcL {α β : Type} : List α → (List α → β) → β
  | [], k => k []
  | a :: r, k => frcL r fun r' => k (a :: r')
theorem frcL_eq {α β : Type} : ∀ (l : List α) (k : List α → β), frcL l k = k l
  | [], _ => rfl
  | a :: r, k => by
    show frcL r (fun r' => k (a :: r')) = _
    rw [frcL_eq r]
abbrev Al : Type := Bool × List FnV
def obs (fa : List Fact) (fn : List FD) (K : PySem.W.Frag) : Al := ((fa.all fun f => f K) && fn.all fun d => d.ok K, fn.map fun d => fnAt K (d.at_ K))
def val (fn : List FD) : Al := (true, fn.map FD.val)
def Says (fa : List Fact) (fn : List FD) (K : PySem.W.Frag) : Prop := obs fa fn K = val fn
/-- all objects -/
def asH (n : Nat) : List Addr := mainGlobals :: PySem.cStatics :: List.range n
def obsG (fa : List Fact) (fn : List FD) (n : Nat) (g : Addr → Option Obj) : Al := frcL (He.frG g (asH n)) fun K => obs fa fn K
def hook (fa : List Fact) (fn : List FD) : PySem.W.Hook where
  α := Al
  obs := fun s => obsG fa fn s.heap.objs.size s.heap.get?
  val := fun _ => val fn
  says := fun _ h => ∃ K : PySem.W.Frag, K.In h ∧ Says fa fn K
  of := fun _ _ e => ⟨_, He.frG_in, (frcL_eq _ _).symm.trans e⟩
  keeps := fun _ _ _ ⟨K, hK, c⟩ k => ⟨K, PySem.W.Frag.In.keeps hK k, c⟩
def obT (fa : List Fact) (fn : List FD) (s : PySem.W.SharedT) : Al := obsG fa fn s.n (HandSHeadRun.getT s)
theorem obT_eq (fa : List Fact) (fn : List FD) (s : PySem.W.SharedT) : obT fa fn s = (hook fa fn).obs s.abs := by
  have e : HandSHeadRun.getT s = s.abs.heap.get? := funext (HandSHeadRun.getT_eq s)
  have z : s.abs.heap.objs.size = s.n := PySem.W.absHeap_size _ _ _
  show obsG fa fn s.n (HandSHeadRun.getT s) = obsG fa fn s.abs.heap.objs.size s.abs.heap.get?
  rw [e, z]
theorem obs_app {fa fa' : List Fact} {fn fn' : List FD} {K : PySem.W.Frag} (h : obs fa fn K = val fn) (h' : obs fa' fn' K = val fn') : obs (fa ++ fa') (fn ++ fn') K = val (fn ++ fn') := by
  have a1 := congrArg (fun z : Al => z.1) h
  have a2 := congrArg (fun z : Al => z.2) h
  have b1 := congrArg (fun z : Al => z.1) h'
  have b2 := congrArg (fun z : Al => z.2) h'
  dsimp only [obs, val] at a1 a2 b1 b2
  rw [Bool.and_eq_true] at a1 b1
  unfold obs val
  rw [List.all_append, List.all_append, List.map_append, List.map_append, a1.1, a1.2, b1.1, b1.2, a2, b2]
  rfl
theorem obT_app {fa fa' : List Fact} {fn fn' : List FD} {s : PySem.W.SharedT} (h : obT fa fn s = val fn) (h' : obT fa' fn' s = val fn') : obT (fa ++ fa') (fn ++ fn') s = val (fn ++ fn') := by
  unfold obT obsG at h h' ⊢
  rw [frcL_eq] at h h' ⊢
  exact obs_app h h'
/-- what is seen of the top behind its run, alone -/
def Seen (r : PySem.W.OpenRow) (fa : List Fact) (fn : List FD) (M : Nat) (w : World) : Prop := ∀ os : OsState, (HandSHeadRun.endF (HandSHeadRun.stepQ (HandSHeadRun.denQ HandSHeadRun.tabQ) r.prog w) M r.prog w os).map (obT fa fn) = some (val fn)
theorem Seen.app {r : PySem.W.OpenRow} {fa fa' : List Fact} {fn fn' : List FD} {M : Nat} {w : World} (h : Seen r fa fn M w) (h' : Seen r fa' fn' M w) : Seen r (fa ++ fa') (fn ++ fn') M w := fun os => by
  obtain ⟨s, hs, hv⟩ := Option.map_eq_some_iff.mp (h os)
  obtain ⟨s', hs', hv'⟩ := Option.map_eq_some_iff.mp (h' os)
  rw [hs] at hs'
  cases hs'
  rw [hs]
  exact congrArg some (obT_app hv hv')
theorem run_app {r : PySem.W.OpenRow} {q : Program} {fa fa' : List Fact} {fn fn' : List FD} {M : Nat} {loose : List PySem.Str} {w : World} (h : HandSHeadRun.RunEq r q (hook fa fn) (obT fa fn) M loose w) (h' : Seen r fa' fn' M w) : HandSHeadRun.RunEq r q (hook (fa ++ fa') (fn ++ fn')) (obT (fa ++ fa') (fn ++ fn')) M loose w := fun os => by
  obtain ⟨s, hs, hv⟩ := Option.map_eq_some_iff.mp (h os)
  obtain ⟨s', hs', hv'⟩ := Option.map_eq_some_iff.mp (h' os)
  rw [hs] at hs'
  cases hs'
  obtain ⟨v1, hv2⟩ := Prod.mk.inj hv
  obtain ⟨v2, v3⟩ := Prod.mk.inj hv2
  rw [hs]
  exact congrArg some (Prod.ext v1 (Prod.ext v2 (obT_app v3 hv')))
section
variable {fa : List Fact} {fn : List FD} {K : PySem.W.Frag}
theorem Says.fact (c : Says fa fn K) (i : Nat) {f : Fact} (h : fa[i]? = some f) : f K = true := by
  have c1 := (He.ba (show ((fa.all fun f => f K) && fn.all fun d => d.ok K) = true from congrArg (fun z : Al => z.1) c)).1
  exact List.all_eq_true.mp c1 f (List.mem_of_getElem? h)
theorem Says.def_ (c : Says fa fn K) (i : Nat) {d : FD} (h : fn[i]? = some d) :
    ∃ oc od osl kV doc pm an cdv ct, K.lookup (d.at_ K) = some ⟨oc, od, .func (PySem.W.fnOf d.name d.qual d.params d.body d.scope .none kV doc pm an cdv ct), osl⟩ ∧ PySem.W.codeIn K cdv d.qual = true := by
  have c2 := (He.ba (show ((fa.all fun f => f K) && fn.all fun d => d.ok K) = true from congrArg (fun z : Al => z.1) c)).2
  have e : fn.map (fun d => fnAt K (d.at_ K)) = fn.map FD.val := congrArg (fun z : Al => z.2) c
  have e2 : (fn.map fun d => fnAt K (d.at_ K))[i]? = (fn.map FD.val)[i]? := by rw [e]
  rw [List.getElem?_map, List.getElem?_map, h] at e2
  exact fn_ok (Option.some.inj e2) (List.all_eq_true.mp c2 d (List.mem_of_getElem? h))
end
end HD
namespace RP
open PySem PySem.Spec PyProof.Rows L2
theorem walk_GE {l : PySem.W.OpenLaw} {n k : Nat} {q : Program} {loose : List Str} {XP : (Str → Option Value) → Heap → Prop} {YP : World → Heap → Prop} {d : DefRec} {x : Str} (hn : l.most = some n) (hn2 : n ≤ sizeLine) (hdf : d.params.defaults = []) (hr : Room k callerA)
    (F : ∀ (w : World) (mg : Str → Option Value) (fa : Addr) (h : Heap), YP w h → h.Ns mainGlobals mg → mg d.name = some (.ref fa) → ∃ (K : PySem.W.Frag) (fd : FuncData) (sp : Sp), K.In h ∧ (∀ (s : Shared) (u : Value), BindsTo s fd ⟨[u], []⟩ [(x, u)]) ∧
      (∀ (H : Hp) (a : Addr) (ns : List Int), ns.length ≤ n → SqL K H a (ns.map V.int) → sp [.ref a] H (fun v _ => v = .bl true) fun _ _ _ => False) ∧ ∀ base : Heap, K.In base → base.Ns mainGlobals mg → FnG l.prog w K mg base CX0 k fa fd [x] sp) :
    PySem.W.WalkO q loose XP YP l.row.toRowW d [] (fun f vs => PySem.call f vs) :=
  Att.attach_call hn hdf fun w _ _ mg _ fa _ _ _ _ a _ ns G Y _ _ _ hmg hobj hints hlen hg => by
    obtain ⟨K, fd, sp, KX, hb, hsp, hF⟩ := F w mg fa _ Y G.T.g hmg
    exact call_G KX G.T.g G.T.b G.T.builtins G.T.nolimit hg hobj hints (Nat.le_trans hlen hn2) hr hF hb fun H hS => hsp H a ns hlen hS
end RP


set_option Elab.async false
set_option linter.all false
set_option maxRecDepth 100000
set_option maxHeartbeats 4000000
namespace K47
open PySem L2 EXC

theorem up {P : Program} {w : World} {K : PySem.W.Frag} {mg : Str → Option Value} {base : Heap} {CX : CXT} {j k : Nat} {f : Addr} {fd : FuncData} {ps : List Str} {sp : Sp} (F : FnOk P w K mg base CX j f fd ps sp) (h : j ≤ k) : FnOk P w K mg base CX k f fd ps sp :=
  ⟨F.len, fun A outer s H args us vs Q E hr e0 hb r q => F.run A outer s H args us vs Q E (hr.mono h) e0 hb r q⟩
def spLaw0 (K : PySem.W.Frag) : Sp := fun vs H Q _ => ∃ (a : Addr) (ns : List Int), vs = [.ref a] ∧ SqL K H a (ns.map V.int) ∧ ns.length ≤ 63 ∧ ∀ H', Q (.bl true) H'
theorem law0 {P : Program} {w : World} {K : PySem.W.Frag} {mg : Str → Option Value} {base : Heap} {aR aO f : Addr} {fd : FuncData} (F : FnOk P w K mg base CX0 8 f fd ["script"] (_root_.TL.spLaw aR aO K)) (r : ∀ H, CT.RA K aR H) (r2 : ∀ H, TG.OA K aO H) : FnOk P w K mg base CX0 8 f fd ["script"] (spLaw0 K) := by
  have to : ∀ vs H Q E, spLaw0 K vs H Q E → _root_.TL.spLaw aR aO K vs H Q E := fun vs H Q E ⟨a, ns, e, h⟩ => ⟨a, ns, e, r H, r2 H, h⟩
  exact ⟨fun vs H Q E h => F.len vs H Q E (to _ _ _ _ h), fun A outer s H args us vs Q E hr e0 hb rv h => F.run A outer s H args us vs Q E hr e0 hb rv (to _ _ _ _ h)⟩
theorem all_mk {l : PySem.W.OpenLaw} {w : World} {K : PySem.W.Frag} {h : Heap} {mg : Str → Option Value} {fa C D pB pN aR aO fwo fam fli fwa fex fre fna fpf frq fac fto fkn frp frc fil fol feo fes few fpb fco fun_ fNu fPo fDr fPk fOp fWo fNa fPr fMa fPl fAl fSo fSe fLA fmI fmW fmP fmE fmH fmQ fmG fnI fnL fnA fmB fnP : Addr} {tL tM tW tRu tOu : Tok} {odR odO : Option Addr} {slR slO : Array (Option Value)} {nR nO : Nat} {restpB restpN : List Value} (X : K.In h) (G : h.Ns mainGlobals mg) (hfa : mg "law" = some (.ref fa))
    {odwo anwo odam anam odli anli odwa anwa odex anex odre anre odna anna odpf anpf odrq anrq odac anac odto anto odkn ankn odrp anrp odrc anrc odil anil odol anol odeo aneo odes anes odew anew odpb anpb odco anco odun_ anun_ odNu anNu odPo anPo odDr anDr odPk anPk odOp anOp odWo anWo odNa anNa odPr anPr odMa anMa odPl anPl odAl anAl odSo anSo odSe anSe odLA anLA odmI anmI odmW anmW odmP anmP odmE anmE odmH anmH odmQ anmQ odmG anmG odnI annI odnL annL odnA annA odmB anmB odnP annP : Option Addr} {slwo slam slli slwa slex slre slna slpf slrq slac slto slkn slrp slrc slil slol sleo sles slew slpb slco slun_ slNu slPo slDr slPk slOp slWo slNa slPr slMa slPl slAl slSo slSe slLA slmI slmW slmP slmE slmH slmQ slmG slnI slnL slnA slmB slnP : Array (Option Value)} {ocwo kVwo dcwo pmwo cdwo ctwo ocam kVam dcam pmam cdam ctam ocli kVli dcli pmli cdli ctli ocwa kVwa dcwa pmwa cdwa ctwa ocex kVex dcex pmex cdex ctex ocre kVre dcre pmre cdre ctre ocna kVna dcna pmna cdna ctna ocpf kVpf dcpf pmpf cdpf ctpf ocrq kVrq dcrq pmrq cdrq ctrq ocac kVac dcac pmac cdac ctac octo kVto dcto pmto cdto ctto ockn kVkn dckn pmkn cdkn ctkn ocrp kVrp dcrp pmrp cdrp ctrp ocrc kVrc dcrc pmrc cdrc ctrc ocil kVil dcil pmil cdil ctil ocol kVol dcol pmol cdol ctol oceo kVeo dceo pmeo cdeo cteo oces kVes dces pmes cdes ctes ocew kVew dcew pmew cdew ctew ocpb kVpb dcpb pmpb cdpb ctpb occo kVco dcco pmco cdco ctco ocun_ kVun_ dcun_ pmun_ cdun_ ctun_ ocNu kVNu dcNu pmNu cdNu ctNu ocPo kVPo dcPo pmPo cdPo ctPo ocDr kVDr dcDr pmDr cdDr ctDr ocPk kVPk dcPk pmPk cdPk ctPk ocOp kVOp dcOp pmOp cdOp ctOp ocWo kVWo dcWo pmWo cdWo ctWo ocNa kVNa dcNa pmNa cdNa ctNa ocPr kVPr dcPr pmPr cdPr ctPr ocMa kVMa dcMa pmMa cdMa ctMa ocPl kVPl dcPl pmPl cdPl ctPl ocAl kVAl dcAl pmAl cdAl ctAl ocSo kVSo dcSo pmSo cdSo ctSo ocSe kVSe dcSe pmSe cdSe ctSe ocLA kVLA dcLA pmLA cdLA ctLA ocmI kVmI dcmI pmmI cdmI ctmI ocmW kVmW dcmW pmmW cdmW ctmW ocmP kVmP dcmP pmmP cdmP ctmP ocmE kVmE dcmE pmmE cdmE ctmE ocmH kVmH dcmH pmmH cdmH ctmH ocmQ kVmQ dcmQ pmmQ cdmQ ctmQ ocmG kVmG dcmG pmmG cdmG ctmG ocnI kVnI dcnI pmnI cdnI ctnI ocnL kVnL dcnL pmnL cdnL ctnL ocnA kVnA dcnA pmnA cdnA ctnA ocmB kVmB dcmB pmmB cdmB ctmB ocnP kVnP dcnP pmnP cdnP ctnP : Value}
    (aC : PySem.W.nsIn K mainGlobals "Program" = some (some (.ref C)))
    (aD : PySem.W.nsIn K mainGlobals "Counters" = some (some (.ref D)))
    (awo : PySem.W.nsIn K mainGlobals "is_word" = some (some (.ref fwo)))
    (lwo : K.lookup fwo = some ⟨ocwo, odwo, .func (PySem.W.fnOf "is_word" "is_word" (defArgs PG.sWord) (defBody PG.sWord) (defScope PG.sWord) .none kVwo dcwo pmwo anwo cdwo ctwo), slwo⟩)
    (cwo : PySem.W.codeIn K cdwo "is_word" = true)
    (kwo : PySem.W.keepIn K (.ref fwo) = true)
    (aam : PySem.W.nsIn K mainGlobals "is_among" = some (some (.ref fam)))
    (lam : K.lookup fam = some ⟨ocam, odam, .func (PySem.W.fnOf "is_among" "is_among" (defArgs PG.sAmong) (defBody PG.sAmong) (defScope PG.sAmong) .none kVam dcam pmam anam cdam ctam), slam⟩)
    (cam : PySem.W.codeIn K cdam "is_among" = true)
    (kam : PySem.W.keepIn K (.ref fam) = true)
    (ali : PySem.W.nsIn K mainGlobals "is_link" = some (some (.ref fli)))
    (lli : K.lookup fli = some ⟨ocli, odli, .func (PySem.W.fnOf "is_link" "is_link" (defArgs PG.sLink) (defBody PG.sLink) (defScope PG.sLink) .none kVli dcli pmli anli cdli ctli), slli⟩)
    (cli : PySem.W.codeIn K cdli "is_link" = true)
    (kli : PySem.W.keepIn K (.ref fli) = true)
    (awa : PySem.W.nsIn K mainGlobals "are_ways" = some (some (.ref fwa)))
    (lwa : K.lookup fwa = some ⟨ocwa, odwa, .func (PySem.W.fnOf "are_ways" "are_ways" (defArgs PG.sWays) (defBody PG.sWays) (defScope PG.sWays) .none kVwa dcwa pmwa anwa cdwa ctwa), slwa⟩)
    (cwa : PySem.W.codeIn K cdwa "are_ways" = true)
    (kwa : PySem.W.keepIn K (.ref fwa) = true)
    (aex : PySem.W.nsIn K mainGlobals "are_exits" = some (some (.ref fex)))
    (lex : K.lookup fex = some ⟨ocex, odex, .func (PySem.W.fnOf "are_exits" "are_exits" (defArgs PG.sExits) (defBody PG.sExits) (defScope PG.sExits) .none kVex dcex pmex anex cdex ctex), slex⟩)
    (cex : PySem.W.codeIn K cdex "are_exits" = true)
    (kex : PySem.W.keepIn K (.ref fex) = true)
    (are : PySem.W.nsIn K mainGlobals "reached_from" = some (some (.ref fre)))
    (lre : K.lookup fre = some ⟨ocre, odre, .func (PySem.W.fnOf "reached_from" "reached_from" (defArgs PG.sReach) (defBody PG.sReach) (defScope PG.sReach) .none kVre dcre pmre anre cdre ctre), slre⟩)
    (cre : PySem.W.codeIn K cdre "reached_from" = true)
    (kre : PySem.W.keepIn K (.ref fre) = true)
    (ana : PySem.W.nsIn K mainGlobals "names_at" = some (some (.ref fna)))
    (lna : K.lookup fna = some ⟨ocna, odna, .func (PySem.W.fnOf "names_at" "names_at" (defArgs TG.sNamesAt) (defBody TG.sNamesAt) (defScope TG.sNamesAt) .none kVna dcna pmna anna cdna ctna), slna⟩)
    (cna : PySem.W.codeIn K cdna "names_at" = true)
    (kna : PySem.W.keepIn K (.ref fna) = true)
    (apf : PySem.W.nsIn K mainGlobals "paths_from" = some (some (.ref fpf)))
    (lpf : K.lookup fpf = some ⟨ocpf, odpf, .func (PySem.W.fnOf "paths_from" "paths_from" (defArgs TG.sPathsF) (defBody TG.sPathsF) (defScope TG.sPathsF) .none kVpf dcpf pmpf anpf cdpf ctpf), slpf⟩)
    (cpf : PySem.W.codeIn K cdpf "paths_from" = true)
    (kpf : PySem.W.keepIn K (.ref fpf) = true)
    (arq : PySem.W.nsIn K mainGlobals "require_program" = some (some (.ref frq)))
    (lrq : K.lookup frq = some ⟨ocrq, odrq, .func (PySem.W.fnOf "require_program" "require_program" (defArgs CT.sReq) (defBody CT.sReq) (defScope CT.sReq) .none kVrq dcrq pmrq anrq cdrq ctrq), slrq⟩)
    (crq : PySem.W.codeIn K cdrq "require_program" = true)
    (krq : PySem.W.keepIn K (.ref frq) = true)
    (aac : PySem.W.nsIn K mainGlobals "all_counters" = some (some (.ref fac)))
    (lac : K.lookup fac = some ⟨ocac, odac, .func (PySem.W.fnOf "all_counters" "all_counters" (defArgs CT.sAll) (defBody CT.sAll) (defScope CT.sAll) .none kVac dcac pmac anac cdac ctac), slac⟩)
    (cac : PySem.W.codeIn K cdac "all_counters" = true)
    (kac : PySem.W.keepIn K (.ref fac) = true)
    (ato : PySem.W.nsIn K mainGlobals "is_tuple_of_texts" = some (some (.ref fto)))
    (lto : K.lookup fto = some ⟨octo, odto, .func (PySem.W.fnOf "is_tuple_of_texts" "is_tuple_of_texts" (defArgs CT.sTot) (defBody CT.sTot) (defScope CT.sTot) .none kVto dcto pmto anto cdto ctto), slto⟩)
    (cto : PySem.W.codeIn K cdto "is_tuple_of_texts" = true)
    (kto : PySem.W.keepIn K (.ref fto) = true)
    (akn : PySem.W.nsIn K mainGlobals "is_known" = some (some (.ref fkn)))
    (lkn : K.lookup fkn = some ⟨ockn, odkn, .func (PySem.W.fnOf "is_known" "is_known" (defArgs CT.sKnown) (defBody CT.sKnown) (defScope CT.sKnown) .none kVkn dckn pmkn ankn cdkn ctkn), slkn⟩)
    (ckn : PySem.W.codeIn K cdkn "is_known" = true)
    (kkn : PySem.W.keepIn K (.ref fkn) = true)
    (arp : PySem.W.nsIn K mainGlobals "require_partner" = some (some (.ref frp)))
    (lrp : K.lookup frp = some ⟨ocrp, odrp, .func (PySem.W.fnOf "require_partner" "require_partner" (defArgs CT.sPart) (defBody CT.sPart) (defScope CT.sPart) .none kVrp dcrp pmrp anrp cdrp ctrp), slrp⟩)
    (crp : PySem.W.codeIn K cdrp "require_partner" = true)
    (krp : PySem.W.keepIn K (.ref frp) = true)
    (arc : PySem.W.nsIn K mainGlobals "require_counters" = some (some (.ref frc)))
    (lrc : K.lookup frc = some ⟨ocrc, odrc, .func (PySem.W.fnOf "require_counters" "require_counters" (defArgs TG.sReqC) (defBody TG.sReqC) (defScope TG.sReqC) .none kVrc dcrc pmrc anrc cdrc ctrc), slrc⟩)
    (crc : PySem.W.codeIn K cdrc "require_counters" = true)
    (krc : PySem.W.keepIn K (.ref frc) = true)
    (ail : PySem.W.nsIn K mainGlobals "inlet_of" = some (some (.ref fil)))
    (lil : K.lookup fil = some ⟨ocil, odil, .func (PySem.W.fnOf "inlet_of" "inlet_of" (defArgs TG.sInlet) (defBody TG.sInlet) (defScope TG.sInlet) .none kVil dcil pmil anil cdil ctil), slil⟩)
    (cil : PySem.W.codeIn K cdil "inlet_of" = true)
    (kil : PySem.W.keepIn K (.ref fil) = true)
    (aol : PySem.W.nsIn K mainGlobals "outlet_of" = some (some (.ref fol)))
    (lol : K.lookup fol = some ⟨ocol, odol, .func (PySem.W.fnOf "outlet_of" "outlet_of" (defArgs TG.sOutlet) (defBody TG.sOutlet) (defScope TG.sOutlet) .none kVol dcol pmol anol cdol ctol), slol⟩)
    (col : PySem.W.codeIn K cdol "outlet_of" = true)
    (kol : PySem.W.keepIn K (.ref fol) = true)
    (aeo : PySem.W.nsIn K mainGlobals "edge_of" = some (some (.ref feo)))
    (leo : K.lookup feo = some ⟨oceo, odeo, .func (PySem.W.fnOf "edge_of" "edge_of" (defArgs TG.sEdgeOf) (defBody TG.sEdgeOf) (defScope TG.sEdgeOf) .none kVeo dceo pmeo aneo cdeo cteo), sleo⟩)
    (ceo : PySem.W.codeIn K cdeo "edge_of" = true)
    (keo : PySem.W.keepIn K (.ref feo) = true)
    (aes : PySem.W.nsIn K mainGlobals "edges_of" = some (some (.ref fes)))
    (les : K.lookup fes = some ⟨oces, odes, .func (PySem.W.fnOf "edges_of" "edges_of" (defArgs TG.sEdgesOf) (defBody TG.sEdgesOf) (defScope TG.sEdgesOf) .none kVes dces pmes anes cdes ctes), sles⟩)
    (ces : PySem.W.codeIn K cdes "edges_of" = true)
    (kes : PySem.W.keepIn K (.ref fes) = true)
    (aew : PySem.W.nsIn K mainGlobals "edges_without" = some (some (.ref few)))
    (lew : K.lookup few = some ⟨ocew, odew, .func (PySem.W.fnOf "edges_without" "edges_without" (defArgs TG.sEdgesW) (defBody TG.sEdgesW) (defScope TG.sEdgesW) .none kVew dcew pmew anew cdew ctew), slew⟩)
    (cew : PySem.W.codeIn K cdew "edges_without" = true)
    (kew : PySem.W.keepIn K (.ref few) = true)
    (apb : PySem.W.nsIn K mainGlobals "paths_beside" = some (some (.ref fpb)))
    (lpb : K.lookup fpb = some ⟨ocpb, odpb, .func (PySem.W.fnOf "paths_beside" "paths_beside" (defArgs TG.sBeside) (defBody TG.sBeside) (defScope TG.sBeside) .none kVpb dcpb pmpb anpb cdpb ctpb), slpb⟩)
    (cpb : PySem.W.codeIn K cdpb "paths_beside" = true)
    (kpb : PySem.W.keepIn K (.ref fpb) = true)
    (aco : PySem.W.nsIn K mainGlobals "circle_of" = some (some (.ref fco)))
    (lco : K.lookup fco = some ⟨occo, odco, .func (PySem.W.fnOf "circle_of" "circle_of" (defArgs TG.sCircle) (defBody TG.sCircle) (defScope TG.sCircle) .none kVco dcco pmco anco cdco ctco), slco⟩)
    (cco : PySem.W.codeIn K cdco "circle_of" = true)
    (kco : PySem.W.keepIn K (.ref fco) = true)
    (aun_ : PySem.W.nsIn K mainGlobals "untold" = some (some (.ref fun_)))
    (lun_ : K.lookup fun_ = some ⟨ocun_, odun_, .func (PySem.W.fnOf "untold" "untold" (defArgs TG.sUntold) (defBody TG.sUntold) (defScope TG.sUntold) .none kVun_ dcun_ pmun_ anun_ cdun_ ctun_), slun_⟩)
    (cun_ : PySem.W.codeIn K cdun_ "untold" = true)
    (kun_ : PySem.W.keepIn K (.ref fun_) = true)
    (aNu : PySem.W.nsIn K mainGlobals "_law_numbers" = some (some (.ref fNu)))
    (lNu : K.lookup fNu = some ⟨ocNu, odNu, .func (PySem.W.fnOf "_law_numbers" "_law_numbers" (defArgs LH.sNum) (defBody LH.sNum) (defScope LH.sNum) .none kVNu dcNu pmNu anNu cdNu ctNu), slNu⟩)
    (cNu : PySem.W.codeIn K cdNu "_law_numbers" = true)
    (kNu : PySem.W.keepIn K (.ref fNu) = true)
    (aPo : PySem.W.nsIn K mainGlobals "_law_pool" = some (some (.ref fPo)))
    (lPo : K.lookup fPo = some ⟨ocPo, odPo, .func (PySem.W.fnOf "_law_pool" "_law_pool" (defArgs LH.sPool) (defBody LH.sPool) (defScope LH.sPool) .none kVPo dcPo pmPo anPo cdPo ctPo), slPo⟩)
    (cPo : PySem.W.codeIn K cdPo "_law_pool" = true)
    (kPo : PySem.W.keepIn K (.ref fPo) = true)
    (aDr : PySem.W.nsIn K mainGlobals "_law_draw" = some (some (.ref fDr)))
    (lDr : K.lookup fDr = some ⟨ocDr, odDr, .func (PySem.W.fnOf "_law_draw" "_law_draw" (defArgs LH.sDraw) (defBody LH.sDraw) (defScope LH.sDraw) .none kVDr dcDr pmDr anDr cdDr ctDr), slDr⟩)
    (cDr : PySem.W.codeIn K cdDr "_law_draw" = true)
    (kDr : PySem.W.keepIn K (.ref fDr) = true)
    (aPk : PySem.W.nsIn K mainGlobals "_law_pick" = some (some (.ref fPk)))
    (lPk : K.lookup fPk = some ⟨ocPk, odPk, .func (PySem.W.fnOf "_law_pick" "_law_pick" (defArgs LJ.sPick) (defBody LJ.sPick) (defScope LJ.sPick) .none kVPk dcPk pmPk anPk cdPk ctPk), slPk⟩)
    (cPk : PySem.W.codeIn K cdPk "_law_pick" = true)
    (kPk : PySem.W.keepIn K (.ref fPk) = true)
    (aOp : PySem.W.nsIn K mainGlobals "_law_opened" = some (some (.ref fOp)))
    (lOp : K.lookup fOp = some ⟨ocOp, odOp, .func (PySem.W.fnOf "_law_opened" "_law_opened" (defArgs LH.sOpen) (defBody LH.sOpen) (defScope LH.sOpen) .none kVOp dcOp pmOp anOp cdOp ctOp), slOp⟩)
    (cOp : PySem.W.codeIn K cdOp "_law_opened" = true)
    (kOp : PySem.W.keepIn K (.ref fOp) = true)
    (aWo : PySem.W.nsIn K mainGlobals "_law_words" = some (some (.ref fWo)))
    (lWo : K.lookup fWo = some ⟨ocWo, odWo, .func (PySem.W.fnOf "_law_words" "_law_words" (defArgs LW.sWords) (defBody LW.sWords) (defScope LW.sWords) .none kVWo dcWo pmWo anWo cdWo ctWo), slWo⟩)
    (cWo : PySem.W.codeIn K cdWo "_law_words" = true)
    (kWo : PySem.W.keepIn K (.ref fWo) = true)
    (aNa : PySem.W.nsIn K mainGlobals "_law_names" = some (some (.ref fNa)))
    (lNa : K.lookup fNa = some ⟨ocNa, odNa, .func (PySem.W.fnOf "_law_names" "_law_names" (defArgs LW.sNames) (defBody LW.sNames) (defScope LW.sNames) .none kVNa dcNa pmNa anNa cdNa ctNa), slNa⟩)
    (cNa : PySem.W.codeIn K cdNa "_law_names" = true)
    (kNa : PySem.W.keepIn K (.ref fNa) = true)
    (aPr : PySem.W.nsIn K mainGlobals "_law_program" = some (some (.ref fPr)))
    (lPr : K.lookup fPr = some ⟨ocPr, odPr, .func (PySem.W.fnOf "_law_program" "_law_program" (defArgs LW.sProgram) (defBody LW.sProgram) (defScope LW.sProgram) .none kVPr dcPr pmPr anPr cdPr ctPr), slPr⟩)
    (cPr : PySem.W.codeIn K cdPr "_law_program" = true)
    (kPr : PySem.W.keepIn K (.ref fPr) = true)
    (aMa : PySem.W.nsIn K mainGlobals "_law_made" = some (some (.ref fMa)))
    (lMa : K.lookup fMa = some ⟨ocMa, odMa, .func (PySem.W.fnOf "_law_made" "_law_made" (defArgs LW.sMade) (defBody LW.sMade) (defScope LW.sMade) .none kVMa dcMa pmMa anMa cdMa ctMa), slMa⟩)
    (cMa : PySem.W.codeIn K cdMa "_law_made" = true)
    (kMa : PySem.W.keepIn K (.ref fMa) = true)
    (aPl : PySem.W.nsIn K mainGlobals "_law_places" = some (some (.ref fPl)))
    (lPl : K.lookup fPl = some ⟨ocPl, odPl, .func (PySem.W.fnOf "_law_places" "_law_places" (defArgs LW.sLPlaces) (defBody LW.sLPlaces) (defScope LW.sLPlaces) .none kVPl dcPl pmPl anPl cdPl ctPl), slPl⟩)
    (cPl : PySem.W.codeIn K cdPl "_law_places" = true)
    (kPl : PySem.W.keepIn K (.ref fPl) = true)
    (aAl : PySem.W.nsIn K mainGlobals "_law_all" = some (some (.ref fAl)))
    (lAl : K.lookup fAl = some ⟨ocAl, odAl, .func (PySem.W.fnOf "_law_all" "_law_all" (defArgs LC.sLAll) (defBody LC.sLAll) (defScope LC.sLAll) .none kVAl dcAl pmAl anAl cdAl ctAl), slAl⟩)
    (cAl : PySem.W.codeIn K cdAl "_law_all" = true)
    (kAl : PySem.W.keepIn K (.ref fAl) = true)
    (aSo : PySem.W.nsIn K mainGlobals "_law_some" = some (some (.ref fSo)))
    (lSo : K.lookup fSo = some ⟨ocSo, odSo, .func (PySem.W.fnOf "_law_some" "_law_some" (defArgs LC.sSome) (defBody LC.sSome) (defScope LC.sSome) .none kVSo dcSo pmSo anSo cdSo ctSo), slSo⟩)
    (cSo : PySem.W.codeIn K cdSo "_law_some" = true)
    (kSo : PySem.W.keepIn K (.ref fSo) = true)
    (aSe : PySem.W.nsIn K mainGlobals "_law_set" = some (some (.ref fSe)))
    (lSe : K.lookup fSe = some ⟨ocSe, odSe, .func (PySem.W.fnOf "_law_set" "_law_set" (defArgs LC.sSet) (defBody LC.sSet) (defScope LC.sSet) .none kVSe dcSe pmSe anSe cdSe ctSe), slSe⟩)
    (cSe : PySem.W.codeIn K cdSe "_law_set" = true)
    (kSe : PySem.W.keepIn K (.ref fSe) = true)
    (aLA : PySem.W.nsIn K mainGlobals "law" = some (some (.ref fLA)))
    (lLA : K.lookup fLA = some ⟨ocLA, odLA, .func (PySem.W.fnOf "law" "law" (defArgs _root_.TL.sLaw) (defBody _root_.TL.sLaw) (defScope _root_.TL.sLaw) .none kVLA dcLA pmLA anLA cdLA ctLA), slLA⟩)
    (cLA : PySem.W.codeIn K cdLA "law" = true)
    (kLA : PySem.W.keepIn K (.ref fLA) = true)
    (amI : PySem.W.findIn K (.ref C) "__init__" = some (some (.ref fmI)))
    (imI : PySem.W.isFn K (.ref fmI) = true)
    (lmI : K.lookup fmI = some ⟨ocmI, odmI, .func (PySem.W.fnOf "__init__" "Program.__init__" (defArgs PG.sInit) (defBody PG.sInit) (defScope PG.sInit) .none kVmI dcmI pmmI anmI cdmI ctmI), slmI⟩)
    (cmI : PySem.W.codeIn K cdmI "Program.__init__" = true)
    (kmI : PySem.W.keepIn K (.ref fmI) = true)
    (amW : PySem.W.findIn K (.ref C) "ways" = some (some (.ref fmW)))
    (imW : PySem.W.isFn K (.ref fmW) = true)
    (lmW : K.lookup fmW = some ⟨ocmW, odmW, .func (PySem.W.fnOf "ways" "Program.ways" (defArgs PG.sMWays) (defBody PG.sMWays) (defScope PG.sMWays) .none kVmW dcmW pmmW anmW cdmW ctmW), slmW⟩)
    (cmW : PySem.W.codeIn K cdmW "Program.ways" = true)
    (kmW : PySem.W.keepIn K (.ref fmW) = true)
    (amP : PySem.W.findIn K (.ref C) "places" = some (some (.ref fmP)))
    (imP : PySem.W.isFn K (.ref fmP) = true)
    (lmP : K.lookup fmP = some ⟨ocmP, odmP, .func (PySem.W.fnOf "places" "Program.places" (defArgs PG.sMPlaces) (defBody PG.sMPlaces) (defScope PG.sMPlaces) .none kVmP dcmP pmmP anmP cdmP ctmP), slmP⟩)
    (cmP : PySem.W.codeIn K cdmP "Program.places" = true)
    (kmP : PySem.W.keepIn K (.ref fmP) = true)
    (amE : PySem.W.findIn K (.ref C) "exits" = some (some (.ref fmE)))
    (imE : PySem.W.isFn K (.ref fmE) = true)
    (lmE : K.lookup fmE = some ⟨ocmE, odmE, .func (PySem.W.fnOf "exits" "Program.exits" (defArgs PG.sMExits) (defBody PG.sMExits) (defScope PG.sMExits) .none kVmE dcmE pmmE anmE cdmE ctmE), slmE⟩)
    (cmE : PySem.W.codeIn K cdmE "Program.exits" = true)
    (kmE : PySem.W.keepIn K (.ref fmE) = true)
    (amH : PySem.W.findIn K (.ref C) "__contains__" = some (some (.ref fmH)))
    (imH : PySem.W.isFn K (.ref fmH) = true)
    (lmH : K.lookup fmH = some ⟨ocmH, odmH, .func (PySem.W.fnOf "__contains__" "Program.__contains__" (defArgs PG.sHas) (defBody PG.sHas) (defScope PG.sHas) .none kVmH dcmH pmmH anmH cdmH ctmH), slmH⟩)
    (cmH : PySem.W.codeIn K cdmH "Program.__contains__" = true)
    (kmH : PySem.W.keepIn K (.ref fmH) = true)
    (amQ : PySem.W.findIn K (.ref C) "__eq__" = some (some (.ref fmQ)))
    (imQ : PySem.W.isFn K (.ref fmQ) = true)
    (lmQ : K.lookup fmQ = some ⟨ocmQ, odmQ, .func (PySem.W.fnOf "__eq__" "Program.__eq__" (defArgs PG.sEq) (defBody PG.sEq) (defScope PG.sEq) .none kVmQ dcmQ pmmQ anmQ cdmQ ctmQ), slmQ⟩)
    (cmQ : PySem.W.codeIn K cdmQ "Program.__eq__" = true)
    (kmQ : PySem.W.keepIn K (.ref fmQ) = true)
    (amG : PySem.W.findIn K (.ref C) "__getitem__" = some (some (.ref fmG)))
    (imG : PySem.W.isFn K (.ref fmG) = true)
    (lmG : K.lookup fmG = some ⟨ocmG, odmG, .func (PySem.W.fnOf "__getitem__" "Program.__getitem__" (defArgs PG.sGet) (defBody PG.sGet) (defScope PG.sGet) .none kVmG dcmG pmmG anmG cdmG ctmG), slmG⟩)
    (cmG : PySem.W.codeIn K cdmG "Program.__getitem__" = true)
    (kmG : PySem.W.keepIn K (.ref fmG) = true)
    (anI : PySem.W.findIn K (.ref D) "__init__" = some (some (.ref fnI)))
    (inI : PySem.W.isFn K (.ref fnI) = true)
    (lnI : K.lookup fnI = some ⟨ocnI, odnI, .func (PySem.W.fnOf "__init__" "Counters.__init__" (defArgs CT.sInitC) (defBody CT.sInitC) (defScope CT.sInitC) .none kVnI dcnI pmnI annI cdnI ctnI), slnI⟩)
    (cnI : PySem.W.codeIn K cdnI "Counters.__init__" = true)
    (knI : PySem.W.keepIn K (.ref fnI) = true)
    (anL : PySem.W.findIn K (.ref D) "listed" = some (some (.ref fnL)))
    (inL : PySem.W.isFn K (.ref fnL) = true)
    (lnL : K.lookup fnL = some ⟨ocnL, odnL, .func (PySem.W.fnOf "listed" "Counters.listed" (defArgs CT.sListed) (defBody CT.sListed) (defScope CT.sListed) .none kVnL dcnL pmnL annL cdnL ctnL), slnL⟩)
    (cnL : PySem.W.codeIn K cdnL "Counters.listed" = true)
    (knL : PySem.W.keepIn K (.ref fnL) = true)
    (anA : PySem.W.findIn K (.ref D) "__add__" = some (some (.ref fnA)))
    (inA : PySem.W.isFn K (.ref fnA) = true)
    (lnA : K.lookup fnA = some ⟨ocnA, odnA, .func (PySem.W.fnOf "__add__" "Counters.__add__" (defArgs CT.sAdd) (defBody CT.sAdd) (defScope CT.sAdd) .none kVnA dcnA pmnA annA cdnA ctnA), slnA⟩)
    (cnA : PySem.W.codeIn K cdnA "Counters.__add__" = true)
    (knA : PySem.W.keepIn K (.ref fnA) = true)
    (ngC : PySem.W.fnIn K fmG = true)
    (apB : PySem.W.findIn K (.ref C) "begin" = some (some (.ref pB)))
    (gpB : PySem.W.specialIn K (.ref pB) "__get__" = some (some (.builtin "property.__get__")))
    (tpB : PySem.W.takesIn K (.ref pB) = some true)
    (rpB : PySem.W.recIn K pB "property" = some (.ref fmB :: restpB))
    (lmB : K.lookup fmB = some ⟨ocmB, odmB, .func (PySem.W.fnOf "begin" "Program.begin" (defArgs PG.sBegin) (defBody PG.sBegin) (defScope PG.sBegin) .none kVmB dcmB pmmB anmB cdmB ctmB), slmB⟩)
    (cmB : PySem.W.codeIn K cdmB "Program.begin" = true)
    (kmB : PySem.W.keepIn K (.ref fmB) = true)
    (apN : PySem.W.findIn K (.ref D) "program" = some (some (.ref pN)))
    (gpN : PySem.W.specialIn K (.ref pN) "__get__" = some (some (.builtin "property.__get__")))
    (tpN : PySem.W.takesIn K (.ref pN) = some true)
    (rpN : PySem.W.recIn K pN "property" = some (.ref fnP :: restpN))
    (lnP : K.lookup fnP = some ⟨ocnP, odnP, .func (PySem.W.fnOf "program" "Counters.program" (defArgs CT.sCProg) (defBody CT.sCProg) (defScope CT.sCProg) .none kVnP dcnP pmnP annP cdnP ctnP), slnP⟩)
    (cnP : PySem.W.codeIn K cdnP "Counters.program" = true)
    (knP : PySem.W.keepIn K (.ref fnP) = true)
    (pg : PySem.W.plainGet K C Str.empty = true)
    (hd : PySem.W.hasDictIn K C = true)
    (po : PySem.W.plainOver K C = true)
    (sa : PySem.W.findIn K (.ref C) "__setattr__" = some (some (.builtin "object.__setattr__")))
    (mk : PySem.W.makesIn K C = true)
    (kc : PySem.W.keepIn K (.ref C) = true)
    (pgD : PySem.W.plainGet K D Str.empty = true)
    (hdD : PySem.W.hasDictIn K D = true)
    (poD : PySem.W.plainOver K D = true)
    (saD : PySem.W.findIn K (.ref D) "__setattr__" = some (some (.builtin "object.__setattr__")))
    (mkD : PySem.W.makesIn K D = true)
    (kcD : PySem.W.keepIn K (.ref D) = true)
    (n1 : PySem.W.findIn K (.ref C) "links" = some none)
    (n2 : PySem.W.findIn K (.ref C) "spots" = some none)
    (n3 : PySem.W.findIn K (.ref C) "origin" = some none)
    (n4 : PySem.W.findIn K (.ref C) "finals" = some none)
    (d1 : PySem.W.findIn K (.ref D) "base" = some none)
    (d2 : PySem.W.findIn K (.ref D) "chosen" = some none)
    (t1 : PySem.W.findIn K (.ref C) "__class__" = some (some (.builtin "object.__class__")))
    (t2 : PySem.W.specialIn K (.builtin "object.__class__") "__get__" = some (some (.builtin "getset_descriptor.__get__")))
    (t3 : PySem.W.takesIn K (.builtin "object.__class__") = some true)
    (t4 : PySem.W.mroIn K C (.type "object") = some true)
    (t5 : PySem.W.findIn K (.ref D) "__class__" = some (some (.builtin "object.__class__")))
    (t6 : PySem.W.mroIn K D (.type "object") = some true)
    (u1 : PySem.W.notFirst K C (.ref C) = true)
    (u2 : PySem.W.findIn K (.ref C) "__ne__" = some (some (.builtin "object.__ne__")))
    (u7 : PySem.W.notFirst K D (.ref D) = true)
    (u8 : PySem.W.selfFirst K D = true)
    (aRn : PySem.W.nsIn K mainGlobals "RUNS" = some (some (.ref aR)))
    (lRn : K.lookup aR = some ⟨.type "tuple", odR, .seq #[.str "runs" tRu] nR, slR⟩)
    (aOn : PySem.W.nsIn K mainGlobals "OUTSIDE" = some (some (.ref aO)))
    (lOn : K.lookup aO = some ⟨.type "tuple", odO, .seq #[.str "outside" tOu] nO, slO⟩)
    (vL : PySem.W.nsIn K mainGlobals "LETTERS" = some (some (.str "abcdefghijklmnopqrstuvwxyz" tL)))
    (vM : PySem.W.nsIn K mainGlobals "MOST_LETTERS" = some (some (.int 8 tM)))
    (vW : PySem.W.nsIn K mainGlobals "MOST_WAYS" = some (some (.int 40 tW)))
    (z_isinstance : PySem.W.nsIn K mainGlobals "isinstance" = some none)
    (z_str : PySem.W.nsIn K mainGlobals "str" = some none)
    (z_len : PySem.W.nsIn K mainGlobals "len" = some none)
    (z_all : PySem.W.nsIn K mainGlobals "all" = some none)
    (z_tuple : PySem.W.nsIn K mainGlobals "tuple" = some none)
    (z_dict : PySem.W.nsIn K mainGlobals "dict" = some none)
    (z_list : PySem.W.nsIn K mainGlobals "list" = some none)
    (z_set : PySem.W.nsIn K mainGlobals "set" = some none)
    (z_sorted : PySem.W.nsIn K mainGlobals "sorted" = some none)
    (z_range : PySem.W.nsIn K mainGlobals "range" = some none)
    (z_min : PySem.W.nsIn K mainGlobals "min" = some none)
    (z_max : PySem.W.nsIn K mainGlobals "max" = some none)
    (z_int : PySem.W.nsIn K mainGlobals "int" = some none)
    (z_enumerate : PySem.W.nsIn K mainGlobals "enumerate" = some none)
    : ∃ fd : FuncData, (∀ (s : Shared) (v : Value), BindsTo s fd ⟨[v], []⟩ [("script", v)]) ∧ ∀ base : Heap, K.In base → base.Ns mainGlobals mg → FnOk l.prog w K mg base CX0 8 fa fd ["script"] (spLaw0 K) := by
  have e := hfa.symm.trans (PySem.W.mg_of X G aLA)
  cases e
  have T : PG.PT0 mg := ⟨PySem.W.mg_none_of X G z_isinstance, PySem.W.mg_none_of X G z_str, PySem.W.mg_none_of X G z_len, PySem.W.mg_none_of X G z_all, PySem.W.mg_none_of X G z_tuple, PySem.W.mg_none_of X G z_dict, PySem.W.mg_none_of X G z_list, PySem.W.mg_none_of X G z_set, PySem.W.mg_none_of X G z_sorted, ⟨_, PySem.W.mg_of X G vL⟩, ⟨_, PySem.W.mg_of X G vM⟩, ⟨_, PySem.W.mg_of X G vW⟩⟩
  have gRn := PySem.W.mg_of X G aRn
  have RT : ∀ H, CT.RA K aR H := fun H => .inr ⟨_, _, _, lRn, rfl, rfl, (by show 1 ≤ sizeLine; decide), .cons ⟨_, rfl⟩ .nil⟩
  have gOn := PySem.W.mg_of X G aOn
  have OT : ∀ H, TG.OA K aO H := fun H => .inr ⟨_, _, _, lOn, rfl, rfl, (by show 1 ≤ sizeLine; decide), .cons ⟨_, rfl⟩ .nil⟩
  have HT0 : LH.HT mg := ⟨PySem.W.mg_none_of X G z_max, PySem.W.mg_none_of X G z_min, PySem.W.mg_none_of X G z_int, PySem.W.mg_none_of X G z_range, PySem.W.mg_none_of X G z_len⟩
  have TL : LW.LT mg := ⟨PySem.W.mg_none_of X G z_range, PySem.W.mg_none_of X G z_len, PySem.W.mg_none_of X G z_min, PySem.W.mg_none_of X G z_max⟩
  have m_enumerate := PySem.W.mg_none_of X G z_enumerate
  have m_int := PySem.W.mg_none_of X G z_int
  have Fwo := fun_mk (st := PG.sWord) lwo cwo kwo
  have bwo := Fwo.binds (ps := ["value"]) fun _ _ _ _ _ _ us hl => match us, hl with | [_], _ => rfl
  have Fam := fun_mk (st := PG.sAmong) lam cam kam
  have bam := Fam.binds (ps := ["value", "words"]) fun _ _ _ _ _ _ us hl => match us, hl with | [_, _], _ => rfl
  have Fli := fun_mk (st := PG.sLink) lli cli kli
  have bli := Fli.binds (ps := ["value"]) fun _ _ _ _ _ _ us hl => match us, hl with | [_], _ => rfl
  have Fwa := fun_mk (st := PG.sWays) lwa cwa kwa
  have bwa := Fwa.binds (ps := ["value"]) fun _ _ _ _ _ _ us hl => match us, hl with | [_], _ => rfl
  have Fex := fun_mk (st := PG.sExits) lex cex kex
  have bex := Fex.binds (ps := ["value", "places"]) fun _ _ _ _ _ _ us hl => match us, hl with | [_, _], _ => rfl
  have Fre := fun_mk (st := PG.sReach) lre cre kre
  have bre := Fre.binds (ps := ["places", "pairs"]) fun _ _ _ _ _ _ us hl => match us, hl with | [_, _], _ => rfl
  have Fna := fun_mk (st := TG.sNamesAt) lna cna kna
  have bna := Fna.binds (ps := ["links"]) fun _ _ _ _ _ _ us hl => match us, hl with | [_], _ => rfl
  have Fpf := fun_mk (st := TG.sPathsF) lpf cpf kpf
  have bpf := Fpf.binds (ps := ["links", "start"]) fun _ _ _ _ _ _ us hl => match us, hl with | [_, _], _ => rfl
  have Frq := fun_mk (st := CT.sReq) lrq crq krq
  have brq := Frq.binds (ps := ["program"]) fun _ _ _ _ _ _ us hl => match us, hl with | [_], _ => rfl
  have Fac := fun_mk (st := CT.sAll) lac cac kac
  have bac := Fac.binds (ps := ["program"]) fun _ _ _ _ _ _ us hl => match us, hl with | [_], _ => rfl
  have Fto := fun_mk (st := CT.sTot) lto cto kto
  have bto := Fto.binds (ps := ["value"]) fun _ _ _ _ _ _ us hl => match us, hl with | [_], _ => rfl
  have Fkn := fun_mk (st := CT.sKnown) lkn ckn kkn
  have bkn := Fkn.binds (ps := ["value", "known"]) fun _ _ _ _ _ _ us hl => match us, hl with | [_, _], _ => rfl
  have Frp := fun_mk (st := CT.sPart) lrp crp krp
  have brp := Frp.binds (ps := ["one", "other"]) fun _ _ _ _ _ _ us hl => match us, hl with | [_, _], _ => rfl
  have Frc := fun_mk (st := TG.sReqC) lrc crc krc
  have brc := Frc.binds (ps := ["counters"]) fun _ _ _ _ _ _ us hl => match us, hl with | [_], _ => rfl
  have Fil := fun_mk (st := TG.sInlet) lil cil kil
  have bil := Fil.binds (ps := ["place"]) fun _ _ _ _ _ _ us hl => match us, hl with | [_], _ => rfl
  have Fol := fun_mk (st := TG.sOutlet) lol col kol
  have bol := Fol.binds (ps := ["place"]) fun _ _ _ _ _ _ us hl => match us, hl with | [_], _ => rfl
  have Feo := fun_mk (st := TG.sEdgeOf) leo ceo keo
  have beo := Feo.binds (ps := ["program", "counter"]) fun _ _ _ _ _ _ us hl => match us, hl with | [_, _], _ => rfl
  have Fes := fun_mk (st := TG.sEdgesOf) les ces kes
  have bes := Fes.binds (ps := ["program"]) fun _ _ _ _ _ _ us hl => match us, hl with | [_], _ => rfl
  have Few := fun_mk (st := TG.sEdgesW) lew cew kew
  have bew := Few.binds (ps := ["counters"]) fun _ _ _ _ _ _ us hl => match us, hl with | [_], _ => rfl
  have Fpb := fun_mk (st := TG.sBeside) lpb cpb kpb
  have bpb := Fpb.binds (ps := ["free", "target"]) fun _ _ _ _ _ _ us hl => match us, hl with | [_, _], _ => rfl
  have Fco := fun_mk (st := TG.sCircle) lco cco kco
  have bco := Fco.binds (ps := ["free", "target"]) fun _ _ _ _ _ _ us hl => match us, hl with | [_, _], _ => rfl
  have Fun_ := fun_mk (st := TG.sUntold) lun_ cun_ kun_
  have bun_ := Fun_.binds (ps := ["counters"]) fun _ _ _ _ _ _ us hl => match us, hl with | [_], _ => rfl
  have FNu := fun_mk (st := LH.sNum) lNu cNu kNu
  have bNu := FNu.binds (ps := ["cell", "salt", "sizes"]) fun _ _ _ _ _ _ us hl => match us, hl with | [_, _, _], _ => rfl
  have FPo := fun_mk (st := LH.sPool) lPo cPo kPo
  have bPo := FPo.binds (ps := ["cell", "salt", "many"]) fun _ _ _ _ _ _ us hl => match us, hl with | [_, _, _], _ => rfl
  have FDr := fun_mk (st := LH.sDraw) lDr cDr kDr
  have bDr := FDr.binds (ps := ["pool", "many"]) fun _ _ _ _ _ _ us hl => match us, hl with | [_, _], _ => rfl
  have FPk := fun_mk (st := LJ.sPick) lPk cPk kPk
  have bPk := FPk.binds (ps := ["pool", "some"]) fun _ _ _ _ _ _ us hl => match us, hl with | [_, _], _ => rfl
  have FOp := fun_mk (st := LH.sOpen) lOp cOp kOp
  have bOp := FOp.binds (ps := ["script", "k", "many"]) fun _ _ _ _ _ _ us hl => match us, hl with | [_, _, _], _ => rfl
  have FWo := fun_mk (st := LW.sWords) lWo cWo kWo
  have bWo := FWo.binds (ps := ["pool", "many"]) fun _ _ _ _ _ _ us hl => match us, hl with | [_, _], _ => rfl
  have FNa := fun_mk (st := LW.sNames) lNa cNa kNa
  have bNa := FNa.binds (ps := ["pool", "many"]) fun _ _ _ _ _ _ us hl => match us, hl with | [_, _], _ => rfl
  have FPr := fun_mk (st := LW.sProgram) lPr cPr kPr
  have bPr := FPr.binds (ps := ["pool", "most", "more", "rings"]) fun _ _ _ _ _ _ us hl => match us, hl with | [_, _, _, _], _ => rfl
  have FMa := fun_mk (st := LW.sMade) lMa cMa kMa
  have bMa := FMa.binds (ps := ["prog"]) fun _ _ _ _ _ _ us hl => match us, hl with | [_], _ => rfl
  have FPl := fun_mk (st := LW.sLPlaces) lPl cPl kPl
  have bPl := FPl.binds (ps := ["prog"]) fun _ _ _ _ _ _ us hl => match us, hl with | [_], _ => rfl
  have FAl := fun_mk (st := LC.sLAll) lAl cAl kAl
  have bAl := FAl.binds (ps := ["prog"]) fun _ _ _ _ _ _ us hl => match us, hl with | [_], _ => rfl
  have FSo := fun_mk (st := LC.sSome) lSo cSo kSo
  have bSo := FSo.binds (ps := ["pool", "prog", "chance"]) fun _ _ _ _ _ _ us hl => match us, hl with | [_, _, _], _ => rfl
  have FSe := fun_mk (st := LC.sSet) lSe cSe kSe
  have bSe := FSe.binds (ps := ["prog", "some"]) fun _ _ _ _ _ _ us hl => match us, hl with | [_, _], _ => rfl
  have FLA := fun_mk (st := _root_.TL.sLaw) lLA cLA kLA
  have bLA := FLA.binds (ps := ["script"]) fun _ _ _ _ _ _ us hl => match us, hl with | [_], _ => rfl
  have FmI := fun_mk (st := PG.sInit) lmI cmI kmI
  have bmI := FmI.binds (ps := ["self", "ways", "begin", "exits"]) fun _ _ _ _ _ _ us hl => match us, hl with | [_, _, _, _], _ => rfl
  have FmW := fun_mk (st := PG.sMWays) lmW cmW kmW
  have bmW := FmW.binds (ps := ["self"]) fun _ _ _ _ _ _ us hl => match us, hl with | [_], _ => rfl
  have FmP := fun_mk (st := PG.sMPlaces) lmP cmP kmP
  have bmP := FmP.binds (ps := ["self"]) fun _ _ _ _ _ _ us hl => match us, hl with | [_], _ => rfl
  have FmE := fun_mk (st := PG.sMExits) lmE cmE kmE
  have bmE := FmE.binds (ps := ["self"]) fun _ _ _ _ _ _ us hl => match us, hl with | [_], _ => rfl
  have FmH := fun_mk (st := PG.sHas) lmH cmH kmH
  have bmH := FmH.binds (ps := ["self", "x"]) fun _ _ _ _ _ _ us hl => match us, hl with | [_, _], _ => rfl
  have FmQ := fun_mk (st := PG.sEq) lmQ cmQ kmQ
  have bmQ := FmQ.binds (ps := ["self", "other"]) fun _ _ _ _ _ _ us hl => match us, hl with | [_, _], _ => rfl
  have FmG := fun_mk (st := PG.sGet) lmG cmG kmG
  have bmG := FmG.binds (ps := ["self", "at"]) fun _ _ _ _ _ _ us hl => match us, hl with | [_, _], _ => rfl
  have FnI := fun_mk (st := CT.sInitC) lnI cnI knI
  have FnL := fun_mk (st := CT.sListed) lnL cnL knL
  have bnL := FnL.binds (ps := ["self"]) fun _ _ _ _ _ _ us hl => match us, hl with | [_], _ => rfl
  have FnA := fun_mk (st := CT.sAdd) lnA cnA knA
  have bnA := FnA.binds (ps := ["self", "other"]) fun _ _ _ _ _ _ us hl => match us, hl with | [_, _], _ => rfl
  have FmB := fun_mk (st := PG.sBegin) lmB cmB kmB
  have bmB := FmB.binds (ps := ["self"]) fun _ _ _ _ _ _ us hl => match us, hl with | [_], _ => rfl
  have FnP := fun_mk (st := CT.sCProg) lnP cnP knP
  have bnP := FnP.binds (ps := ["self"]) fun _ _ _ _ _ _ us hl => match us, hl with | [_], _ => rfl
  have Tc : PG.PTc K mg C := ⟨⟨pg, hd, po, sa⟩, n1, n2, n3, n4, PySem.W.mg_of X G aC⟩
  have Tk : CT.CTc K mg D := ⟨⟨pgD, hdD, poD, saD⟩, d1, d2, PySem.W.mg_of X G aD⟩
  have Tt : PG.PTt K C := ⟨t1, t2, t3, t4⟩
  have Ct : CT.CTt K C D := ⟨t5, t6, u1, u2⟩
  have gwo := PySem.W.mg_of X G awo
  have gam := PySem.W.mg_of X G aam
  have gli := PySem.W.mg_of X G ali
  have gwa := PySem.W.mg_of X G awa
  have gex := PySem.W.mg_of X G aex
  have gre := PySem.W.mg_of X G are
  have gna := PySem.W.mg_of X G ana
  have gpf := PySem.W.mg_of X G apf
  have grq := PySem.W.mg_of X G arq
  have gac := PySem.W.mg_of X G aac
  have gto := PySem.W.mg_of X G ato
  have gkn := PySem.W.mg_of X G akn
  have grp := PySem.W.mg_of X G arp
  have grc := PySem.W.mg_of X G arc
  have gil := PySem.W.mg_of X G ail
  have gol := PySem.W.mg_of X G aol
  have geo := PySem.W.mg_of X G aeo
  have ges := PySem.W.mg_of X G aes
  have gew := PySem.W.mg_of X G aew
  have gpb := PySem.W.mg_of X G apb
  have gco := PySem.W.mg_of X G aco
  have gun_ := PySem.W.mg_of X G aun_
  have gNu := PySem.W.mg_of X G aNu
  have gPo := PySem.W.mg_of X G aPo
  have gDr := PySem.W.mg_of X G aDr
  have gPk := PySem.W.mg_of X G aPk
  have gOp := PySem.W.mg_of X G aOp
  have gWo := PySem.W.mg_of X G aWo
  have gNa := PySem.W.mg_of X G aNa
  have gPr := PySem.W.mg_of X G aPr
  have gMa := PySem.W.mg_of X G aMa
  have gPl := PySem.W.mg_of X G aPl
  have gAl := PySem.W.mg_of X G aAl
  have gSo := PySem.W.mg_of X G aSo
  have gSe := PySem.W.mg_of X G aSe
  have gLA := PySem.W.mg_of X G aLA
  refine ⟨PySem.W.fnOf "law" "law" (defArgs _root_.TL.sLaw) (defBody _root_.TL.sLaw) (defScope _root_.TL.sLaw) .none kVLA dcLA pmLA anLA cdLA ctLA, fun s v => .of_eq rfl, fun base _ _ => ?_⟩
  have Gwo : FnOk l.prog w K mg base CX0 1 fwo _ ["value"] (PG.spWord K) := PG.ok_word Fwo T
  have Gam : FnOk l.prog w K mg base CX0 1 fam _ ["value", "words"] (PG.spAmong K) := PG.ok_among Fam T
  have Gwa : FnOk l.prog w K mg base CX0 3 fwa _ ["value"] (PG.spWays K) := PG.ok_ways Fwa T Fwo bwo gwo Fli bli gli
  have Gex : FnOk l.prog w K mg base CX0 2 fex _ ["value", "places"] (PG.spExits K) := PG.ok_exits Fex T Fam bam gam
  have Gre : FnOk l.prog w K mg base CX0 1 fre _ ["places", "pairs"] (PG.spReach K) := PG.ok_reach Fre T
  have Td : PG.PTd K mg fam fwa fex fre _ _ _ _ := ⟨gam, bam, gwa, bwa, gex, bex, gre, bre⟩
  have GI : FnOk l.prog w K mg base CX0 4 fmI _ ["self", "ways", "begin", "exits"] (PG.spInit K C) := PG.ok_init FmI T Tc Td Fam Fwa Fex Fre Gam Gwa Gex Gre
  have MkC : Mk K C fmI := ⟨mk, amI, imI, kc⟩
  have GWs : FnOk l.prog w K mg base CX0 1 fmW _ ["self"] (PG.spList K C fun d => PG.keysL d.ls) := PG.ok_mways FmW T Tc
  have GPs : FnOk l.prog w K mg base CX0 1 fmP _ ["self"] (PG.spList K C fun d => d.ps) := PG.ok_mplaces FmP T Tc
  have GEs : FnOk l.prog w K mg base CX0 1 fmE _ ["self"] (PG.spList K C fun d => d.fs) := PG.ok_mexits FmE T Tc
  have Grq : FnOk l.prog w K mg base CX0 1 frq _ ["program"] (CT.spReq K C) := CT.ok_req Frq T Tc Tt
  have mWs : Meth K C "ways" fmW := ⟨amW, imW, kmW⟩
  have mPs : Meth K C "places" fmP := ⟨amP, imP, kmP⟩
  have mEs : Meth K C "exits" fmE := ⟨amE, imE, kmE⟩
  have Gac : FnOk l.prog w K mg base CX0 2 fac _ ["program"] (CT.spAllC aR K C) := CT.ok_all Fac gRn T Tc Frq brq grq Grq mWs bmW GWs mPs bmP GPs mEs bmE GEs
  have Gkn : FnOk l.prog w K mg base CX0 2 fkn _ ["value", "known"] (CT.spKnown K) := CT.ok_known Fkn kto bto gto (CT.ok_tot Fto T)
  have RI : FnR l.prog w K mg base CX0 3 fnI (CT.spStar 2 (CT.spInitC aR K C D)) := CT.ok_initC FnI Tk m_enumerate Fkn bkn gkn Gkn Fac bac gac Gac
  have MkD : Mk K D fnI := ⟨mkD, anI, inI, kcD⟩
  have GQ : FnOk l.prog w K mg base CX0 1 fmQ _ ["self", "other"] (PG.spEqP K C) := PG.ok_eqP FmQ T Tc Tt
  have GB : FnOk l.prog w K mg base CX0 1 fmB _ ["self"] (PG.spBegin K C) := PG.ok_begin FmB Tc
  have GG : FnOk l.prog w K mg base CX0 2 fmG _ ["self", "at"] (PG.spGet K C) := PG.ok_get FmG Tc Fam bam gam Gam
  have oB : PropOf K C "begin" pB fmB := ⟨apB, gpB, tpB, ⟨restpB, rpB⟩⟩
  have Grp : FnOk l.prog w K mg base CX0 3 frp _ ["one", "other"] (CT.spPart K C D) := CT.ok_part Frp T Tk Tc.cl Tt Ct amQ imQ bmQ GQ
  have GnA : FnOk l.prog w K mg base CX0 5 fnA _ ["self", "other"] (CT.spBin aR K C D CT.addL) := CT.ok_add FnA Tk MkD RI Frp brp grp Grp
  have GnP : FnOk l.prog w K mg base CX0 1 fnP _ ["self"] (CT.spCProg K C D) := CT.ok_cprog FnP Tk
  have GnL : FnOk l.prog w K mg base CX0 1 fnL _ ["self"] (CT.spListed K C D) := CT.ok_listed FnL T Tk
  have oN : PropOf K D "program" pN fnP := ⟨apN, gpN, tpN, ⟨restpN, rpN⟩⟩
  have mLi : Meth K D "listed" fnL := ⟨anL, inL, knL⟩
  have MM : LC.CMs l.prog w K mg base aR C D := {
    cl := Tk, clP := Tc, tt := Tt, ct := Ct, sf := u8, nfC := u7
    make := ⟨fnI, MkD, RI⟩
    prog := ⟨pN, fnP, _, oN, bnP, GnP⟩
    listed := ⟨fnL, _, mLi, bnL, GnL⟩
    add := ⟨fnA, _, anA, inA, bnA, GnA⟩
    eqP := ⟨fmQ, _, amQ, imQ, bmQ, GQ⟩
    getP := ⟨fmG, _, amG, imG, ngC, bmG, GG⟩
    waysP := ⟨fmW, _, mWs, bmW, GWs⟩
    exitsP := ⟨fmE, _, mEs, bmE, GEs⟩
    beginP := ⟨pB, fmB, _, oB, bmB, GB⟩
    makeP := ⟨fmI, _, MkC, bmI, GI⟩ }
  have Gil : FnOk l.prog w K mg base CX0 1 fil _ ["place"] (TG.spPoint "in") := TG.ok_inlet Fil
  have Gol : FnOk l.prog w K mg base CX0 1 fol _ ["place"] (TG.spPoint "out") := TG.ok_outlet Fol
  have Geo : FnOk l.prog w K mg base CX0 4 feo _ ["program", "counter"] (TG.spEO K C aO) := TG.ok_eo Feo Tc gOn amG imG ngC bmG GG oB bmB GB kil bil gil Gil kol bol gol Gol
  have Ges : FnOk l.prog w K mg base CX0 5 fes _ ["program"] (TG.spES l.prog w K C aR aO) := TG.ok_es Fes kac bac gac Gac keo beo geo Geo
  have Gew : FnOk l.prog w K mg base CX0 6 few _ ["counters"] (TG.spEW l.prog w K C D aR aO) := TG.ok_ew Few Tk mLi bnL GnL oN bnP GnP kes bes ges Ges
  have Gna : FnOk l.prog w K mg base CX0 1 fna _ ["links"] (TG.spNA l.prog w K) := TG.ok_na Fna
  have Gpf : FnOk l.prog w K mg base CX0 2 fpf _ ["links", "start"] (TG.spPF l.prog w K) := TG.ok_pf Fpf kna bna gna Gna
  have Gpb : FnOk l.prog w K mg base CX0 3 fpb _ ["free", "target"] (TG.spPB l.prog w K) := TG.ok_pb Fpb kpf bpf gpf Gpf
  have Gco : FnOk l.prog w K mg base CX0 4 fco _ ["free", "target"] (TG.spCO l.prog w K) := TG.ok_co Fco kpb bpb gpb Gpb
  have Grc : FnOk l.prog w K mg base CX0 1 frc _ ["counters"] (TG.spRC K C D) := TG.ok_rc Frc T Tk Tt Ct
  have Gun : FnOk l.prog w K mg base CX0 7 fun_ _ ["counters"] (TG.spUN K C D aR aO) := TG.ok_un Fun_ krc brc grc Grc kew bew gew Gew kco bco gco Gco
  have GD : FnOk l.prog w K mg base CX0 1 fDr _ ["pool", "many"] LH.spDraw := LH.ok_draw FDr HT0
  have GO : FnOk l.prog w K mg base CX0 3 fOp _ ["script", "k", "many"] (LH.spOpen K) := LH.ok_open FOp HT0 FPo bPo gPo FNu bNu gNu
  have GW := LW.ok_words (P := l.prog) (w := w) (base := base) FWo FDr bDr gDr GD
  have GN := LW.ok_names (P := l.prog) (w := w) (base := base) FNa FDr bDr gDr GD
  have GP := LW.ok_program FPr TL FDr bDr gDr GD FWo bWo gWo GW FNa bNa gNa GN
  have GM : FnOk l.prog w K mg base CX0 6 fMa _ ["prog"] (LW.spMade K C) := LW.ok_made FMa T Tc MkC bmI GI
  have GPl : FnOk l.prog w K mg base CX0 1 fPl _ ["prog"] (LW.spLP K) := LW.ok_lplaces FPl T
  have GAl : FnOk l.prog w K mg base CX0 2 fAl _ ["prog"] (LC.spLAll K) := LC.ok_lall FAl T FPl bPl gPl GPl
  have GSo : FnOk l.prog w K mg base CX0 3 fSo _ ["pool", "prog", "chance"] (LC.spSome K) := LC.ok_some FSo FAl bAl gAl GAl FDr bDr gDr GD
  have GSe : FnOk l.prog w K mg base CX0 7 fSe _ ["prog", "some"] (LC.spSetL aR K C D) := LC.ok_set FSe MM ⟨fMa, _, gMa, kMa, bMa, GM⟩
  have GPk : FnOk l.prog w K mg base CX0 2 fPk _ ["pool", "some"] (LJ.spPick K) := LJ.ok_pick FPk T kDr bDr gDr GD
  refine law0 (_root_.TL.ok_law FLA T m_int TL MM ⟨⟨fOp, _, gOp, kOp, bOp, GO⟩, ⟨fDr, _, gDr, kDr, bDr, GD⟩, ⟨fPk, _, gPk, kPk, bPk, GPk⟩, ⟨fPr, _, gPr, kPr, bPr, GP⟩, ⟨fSo, _, gSo, kSo, bSo, GSo⟩, ⟨fSe, _, gSe, kSe, bSe, GSe⟩, ⟨fun_, _, gun_, kun_, bun_, Gun⟩⟩) RT OT
/-! ### the head -/
open PySem.W in
def fa0_0 : List HD.Fact := [
]
def fa0_1 : List HD.Fact := [
  fun K => decide (PySem.W.nsIn K mainGlobals "Program" = some (some (.ref (He.ga K "Program")))),
  fun K => decide (PySem.W.nsIn K mainGlobals "Counters" = some (some (.ref (He.ga K "Counters")))),
  fun K => decide (PySem.W.nsIn K mainGlobals "is_word" = some (some (.ref (He.ga K "is_word")))),
  fun K => decide (PySem.W.keepIn K (.ref (He.ga K "is_word")) = true),
  fun K => decide (PySem.W.nsIn K mainGlobals "is_among" = some (some (.ref (He.ga K "is_among")))),
  fun K => decide (PySem.W.keepIn K (.ref (He.ga K "is_among")) = true),
  fun K => decide (PySem.W.nsIn K mainGlobals "is_link" = some (some (.ref (He.ga K "is_link")))),
  fun K => decide (PySem.W.keepIn K (.ref (He.ga K "is_link")) = true),
  fun K => decide (PySem.W.nsIn K mainGlobals "are_ways" = some (some (.ref (He.ga K "are_ways")))),
  fun K => decide (PySem.W.keepIn K (.ref (He.ga K "are_ways")) = true),
  fun K => decide (PySem.W.nsIn K mainGlobals "are_exits" = some (some (.ref (He.ga K "are_exits")))),
  fun K => decide (PySem.W.keepIn K (.ref (He.ga K "are_exits")) = true),
  fun K => decide (PySem.W.nsIn K mainGlobals "reached_from" = some (some (.ref (He.ga K "reached_from")))),
  fun K => decide (PySem.W.keepIn K (.ref (He.ga K "reached_from")) = true),
  fun K => decide (PySem.W.nsIn K mainGlobals "names_at" = some (some (.ref (He.ga K "names_at")))),
  fun K => decide (PySem.W.keepIn K (.ref (He.ga K "names_at")) = true),
  fun K => decide (PySem.W.nsIn K mainGlobals "paths_from" = some (some (.ref (He.ga K "paths_from")))),
  fun K => decide (PySem.W.keepIn K (.ref (He.ga K "paths_from")) = true),
  fun K => decide (PySem.W.nsIn K mainGlobals "require_program" = some (some (.ref (He.ga K "require_program")))),
  fun K => decide (PySem.W.keepIn K (.ref (He.ga K "require_program")) = true),
  fun K => decide (PySem.W.nsIn K mainGlobals "all_counters" = some (some (.ref (He.ga K "all_counters")))),
  fun K => decide (PySem.W.keepIn K (.ref (He.ga K "all_counters")) = true),
  fun K => decide (PySem.W.nsIn K mainGlobals "is_tuple_of_texts" = some (some (.ref (He.ga K "is_tuple_of_texts")))),
  fun K => decide (PySem.W.keepIn K (.ref (He.ga K "is_tuple_of_texts")) = true),
  fun K => decide (PySem.W.nsIn K mainGlobals "is_known" = some (some (.ref (He.ga K "is_known")))),
  fun K => decide (PySem.W.keepIn K (.ref (He.ga K "is_known")) = true),
  fun K => decide (PySem.W.nsIn K mainGlobals "require_partner" = some (some (.ref (He.ga K "require_partner")))),
  fun K => decide (PySem.W.keepIn K (.ref (He.ga K "require_partner")) = true),
  fun K => decide (PySem.W.nsIn K mainGlobals "require_counters" = some (some (.ref (He.ga K "require_counters")))),
  fun K => decide (PySem.W.keepIn K (.ref (He.ga K "require_counters")) = true),
  fun K => decide (PySem.W.nsIn K mainGlobals "inlet_of" = some (some (.ref (He.ga K "inlet_of")))),
  fun K => decide (PySem.W.keepIn K (.ref (He.ga K "inlet_of")) = true),
  fun K => decide (PySem.W.nsIn K mainGlobals "outlet_of" = some (some (.ref (He.ga K "outlet_of")))),
  fun K => decide (PySem.W.keepIn K (.ref (He.ga K "outlet_of")) = true),
  fun K => decide (PySem.W.nsIn K mainGlobals "edge_of" = some (some (.ref (He.ga K "edge_of")))),
  fun K => decide (PySem.W.keepIn K (.ref (He.ga K "edge_of")) = true),
  fun K => decide (PySem.W.nsIn K mainGlobals "edges_of" = some (some (.ref (He.ga K "edges_of")))),
  fun K => decide (PySem.W.keepIn K (.ref (He.ga K "edges_of")) = true),
  fun K => decide (PySem.W.nsIn K mainGlobals "edges_without" = some (some (.ref (He.ga K "edges_without")))),
  fun K => decide (PySem.W.keepIn K (.ref (He.ga K "edges_without")) = true),
  fun K => decide (PySem.W.nsIn K mainGlobals "paths_beside" = some (some (.ref (He.ga K "paths_beside")))),
  fun K => decide (PySem.W.keepIn K (.ref (He.ga K "paths_beside")) = true),
  fun K => decide (PySem.W.nsIn K mainGlobals "circle_of" = some (some (.ref (He.ga K "circle_of")))),
  fun K => decide (PySem.W.keepIn K (.ref (He.ga K "circle_of")) = true),
  fun K => decide (PySem.W.nsIn K mainGlobals "untold" = some (some (.ref (He.ga K "untold")))),
  fun K => decide (PySem.W.keepIn K (.ref (He.ga K "untold")) = true),
  fun K => decide (PySem.W.nsIn K mainGlobals "_law_numbers" = some (some (.ref (He.ga K "_law_numbers")))),
  fun K => decide (PySem.W.keepIn K (.ref (He.ga K "_law_numbers")) = true),
  fun K => decide (PySem.W.nsIn K mainGlobals "_law_pool" = some (some (.ref (He.ga K "_law_pool")))),
  fun K => decide (PySem.W.keepIn K (.ref (He.ga K "_law_pool")) = true),
  fun K => decide (PySem.W.nsIn K mainGlobals "_law_draw" = some (some (.ref (He.ga K "_law_draw")))),
  fun K => decide (PySem.W.keepIn K (.ref (He.ga K "_law_draw")) = true),
  fun K => decide (PySem.W.nsIn K mainGlobals "_law_pick" = some (some (.ref (He.ga K "_law_pick")))),
  fun K => decide (PySem.W.keepIn K (.ref (He.ga K "_law_pick")) = true),
  fun K => decide (PySem.W.nsIn K mainGlobals "_law_opened" = some (some (.ref (He.ga K "_law_opened")))),
  fun K => decide (PySem.W.keepIn K (.ref (He.ga K "_law_opened")) = true),
  fun K => decide (PySem.W.nsIn K mainGlobals "_law_words" = some (some (.ref (He.ga K "_law_words")))),
  fun K => decide (PySem.W.keepIn K (.ref (He.ga K "_law_words")) = true),
  fun K => decide (PySem.W.nsIn K mainGlobals "_law_names" = some (some (.ref (He.ga K "_law_names")))),
  fun K => decide (PySem.W.keepIn K (.ref (He.ga K "_law_names")) = true),
  fun K => decide (PySem.W.nsIn K mainGlobals "_law_program" = some (some (.ref (He.ga K "_law_program")))),
  fun K => decide (PySem.W.keepIn K (.ref (He.ga K "_law_program")) = true),
  fun K => decide (PySem.W.nsIn K mainGlobals "_law_made" = some (some (.ref (He.ga K "_law_made")))),
  fun K => decide (PySem.W.keepIn K (.ref (He.ga K "_law_made")) = true),
  fun K => decide (PySem.W.nsIn K mainGlobals "_law_places" = some (some (.ref (He.ga K "_law_places")))),
  fun K => decide (PySem.W.keepIn K (.ref (He.ga K "_law_places")) = true),
  fun K => decide (PySem.W.nsIn K mainGlobals "_law_all" = some (some (.ref (He.ga K "_law_all")))),
  fun K => decide (PySem.W.keepIn K (.ref (He.ga K "_law_all")) = true),
  fun K => decide (PySem.W.nsIn K mainGlobals "_law_some" = some (some (.ref (He.ga K "_law_some")))),
  fun K => decide (PySem.W.keepIn K (.ref (He.ga K "_law_some")) = true),
  fun K => decide (PySem.W.nsIn K mainGlobals "_law_set" = some (some (.ref (He.ga K "_law_set")))),
  fun K => decide (PySem.W.keepIn K (.ref (He.ga K "_law_set")) = true),
  fun K => decide (PySem.W.nsIn K mainGlobals "law" = some (some (.ref (He.ga K "law")))),
  fun K => decide (PySem.W.keepIn K (.ref (He.ga K "law")) = true),
  fun K => decide (PySem.W.findIn K (.ref (He.ga K "Program")) "__init__" = some (some (.ref (He.ma K (He.ga K "Program") "__init__")))),
  fun K => decide (PySem.W.isFn K (.ref (He.ma K (He.ga K "Program") "__init__")) = true),
  fun K => decide (PySem.W.keepIn K (.ref (He.ma K (He.ga K "Program") "__init__")) = true),
  fun K => decide (PySem.W.findIn K (.ref (He.ga K "Program")) "ways" = some (some (.ref (He.ma K (He.ga K "Program") "ways")))),
  fun K => decide (PySem.W.isFn K (.ref (He.ma K (He.ga K "Program") "ways")) = true),
  fun K => decide (PySem.W.keepIn K (.ref (He.ma K (He.ga K "Program") "ways")) = true),
  fun K => decide (PySem.W.findIn K (.ref (He.ga K "Program")) "places" = some (some (.ref (He.ma K (He.ga K "Program") "places")))),
  fun K => decide (PySem.W.isFn K (.ref (He.ma K (He.ga K "Program") "places")) = true)]
def fa0_2 : List HD.Fact := [
  fun K => decide (PySem.W.keepIn K (.ref (He.ma K (He.ga K "Program") "places")) = true),
  fun K => decide (PySem.W.findIn K (.ref (He.ga K "Program")) "exits" = some (some (.ref (He.ma K (He.ga K "Program") "exits")))),
  fun K => decide (PySem.W.isFn K (.ref (He.ma K (He.ga K "Program") "exits")) = true),
  fun K => decide (PySem.W.keepIn K (.ref (He.ma K (He.ga K "Program") "exits")) = true),
  fun K => decide (PySem.W.findIn K (.ref (He.ga K "Program")) "__contains__" = some (some (.ref (He.ma K (He.ga K "Program") "__contains__")))),
  fun K => decide (PySem.W.isFn K (.ref (He.ma K (He.ga K "Program") "__contains__")) = true),
  fun K => decide (PySem.W.keepIn K (.ref (He.ma K (He.ga K "Program") "__contains__")) = true),
  fun K => decide (PySem.W.findIn K (.ref (He.ga K "Program")) "__eq__" = some (some (.ref (He.ma K (He.ga K "Program") "__eq__")))),
  fun K => decide (PySem.W.isFn K (.ref (He.ma K (He.ga K "Program") "__eq__")) = true),
  fun K => decide (PySem.W.keepIn K (.ref (He.ma K (He.ga K "Program") "__eq__")) = true),
  fun K => decide (PySem.W.findIn K (.ref (He.ga K "Program")) "__getitem__" = some (some (.ref (He.ma K (He.ga K "Program") "__getitem__")))),
  fun K => decide (PySem.W.isFn K (.ref (He.ma K (He.ga K "Program") "__getitem__")) = true),
  fun K => decide (PySem.W.keepIn K (.ref (He.ma K (He.ga K "Program") "__getitem__")) = true),
  fun K => decide (PySem.W.findIn K (.ref (He.ga K "Counters")) "__init__" = some (some (.ref (He.ma K (He.ga K "Counters") "__init__")))),
  fun K => decide (PySem.W.isFn K (.ref (He.ma K (He.ga K "Counters") "__init__")) = true),
  fun K => decide (PySem.W.keepIn K (.ref (He.ma K (He.ga K "Counters") "__init__")) = true),
  fun K => decide (PySem.W.findIn K (.ref (He.ga K "Counters")) "listed" = some (some (.ref (He.ma K (He.ga K "Counters") "listed")))),
  fun K => decide (PySem.W.isFn K (.ref (He.ma K (He.ga K "Counters") "listed")) = true),
  fun K => decide (PySem.W.keepIn K (.ref (He.ma K (He.ga K "Counters") "listed")) = true),
  fun K => decide (PySem.W.findIn K (.ref (He.ga K "Counters")) "__add__" = some (some (.ref (He.ma K (He.ga K "Counters") "__add__")))),
  fun K => decide (PySem.W.isFn K (.ref (He.ma K (He.ga K "Counters") "__add__")) = true),
  fun K => decide (PySem.W.keepIn K (.ref (He.ma K (He.ga K "Counters") "__add__")) = true),
  fun K => decide (PySem.W.fnIn K (He.ma K (He.ga K "Program") "__getitem__") = true),
  fun K => decide (PySem.W.findIn K (.ref (He.ga K "Program")) "begin" = some (some (.ref (He.ma K (He.ga K "Program") "begin")))),
  fun K => decide (PySem.W.specialIn K (.ref (He.ma K (He.ga K "Program") "begin")) "__get__" = some (some (.builtin "property.__get__"))),
  fun K => decide (PySem.W.takesIn K (.ref (He.ma K (He.ga K "Program") "begin")) = some true),
  fun K => decide (PySem.W.recIn K (He.ma K (He.ga K "Program") "begin") "property" = some (.ref (HD.rec0 K (He.ma K (He.ga K "Program") "begin") "property") :: (HD.recR K (He.ma K (He.ga K "Program") "begin") "property"))),
  fun K => decide (PySem.W.keepIn K (.ref (HD.rec0 K (He.ma K (He.ga K "Program") "begin") "property")) = true),
  fun K => decide (PySem.W.findIn K (.ref (He.ga K "Counters")) "program" = some (some (.ref (He.ma K (He.ga K "Counters") "program")))),
  fun K => decide (PySem.W.specialIn K (.ref (He.ma K (He.ga K "Counters") "program")) "__get__" = some (some (.builtin "property.__get__"))),
  fun K => decide (PySem.W.takesIn K (.ref (He.ma K (He.ga K "Counters") "program")) = some true),
  fun K => decide (PySem.W.recIn K (He.ma K (He.ga K "Counters") "program") "property" = some (.ref (HD.rec0 K (He.ma K (He.ga K "Counters") "program") "property") :: (HD.recR K (He.ma K (He.ga K "Counters") "program") "property"))),
  fun K => decide (PySem.W.keepIn K (.ref (HD.rec0 K (He.ma K (He.ga K "Counters") "program") "property")) = true),
  fun K => decide (PySem.W.plainGet K (He.ga K "Program") Str.empty = true),
  fun K => decide (PySem.W.hasDictIn K (He.ga K "Program") = true),
  fun K => decide (PySem.W.plainOver K (He.ga K "Program") = true),
  fun K => decide (PySem.W.findIn K (.ref (He.ga K "Program")) "__setattr__" = some (some (.builtin "object.__setattr__"))),
  fun K => decide (PySem.W.makesIn K (He.ga K "Program") = true),
  fun K => decide (PySem.W.keepIn K (.ref (He.ga K "Program")) = true),
  fun K => decide (PySem.W.plainGet K (He.ga K "Counters") Str.empty = true),
  fun K => decide (PySem.W.hasDictIn K (He.ga K "Counters") = true),
  fun K => decide (PySem.W.plainOver K (He.ga K "Counters") = true),
  fun K => decide (PySem.W.findIn K (.ref (He.ga K "Counters")) "__setattr__" = some (some (.builtin "object.__setattr__"))),
  fun K => decide (PySem.W.makesIn K (He.ga K "Counters") = true),
  fun K => decide (PySem.W.keepIn K (.ref (He.ga K "Counters")) = true),
  fun K => decide (PySem.W.findIn K (.ref (He.ga K "Program")) "links" = some none),
  fun K => decide (PySem.W.findIn K (.ref (He.ga K "Program")) "spots" = some none),
  fun K => decide (PySem.W.findIn K (.ref (He.ga K "Program")) "origin" = some none),
  fun K => decide (PySem.W.findIn K (.ref (He.ga K "Program")) "finals" = some none),
  fun K => decide (PySem.W.findIn K (.ref (He.ga K "Counters")) "base" = some none),
  fun K => decide (PySem.W.findIn K (.ref (He.ga K "Counters")) "chosen" = some none),
  fun K => decide (PySem.W.findIn K (.ref (He.ga K "Program")) "__class__" = some (some (.builtin "object.__class__"))),
  fun K => decide (PySem.W.specialIn K (.builtin "object.__class__") "__get__" = some (some (.builtin "getset_descriptor.__get__"))),
  fun K => decide (PySem.W.takesIn K (.builtin "object.__class__") = some true),
  fun K => decide (PySem.W.mroIn K (He.ga K "Program") (.type "object") = some true),
  fun K => decide (PySem.W.findIn K (.ref (He.ga K "Counters")) "__class__" = some (some (.builtin "object.__class__"))),
  fun K => decide (PySem.W.mroIn K (He.ga K "Counters") (.type "object") = some true),
  fun K => decide (PySem.W.notFirst K (He.ga K "Program") (.ref (He.ga K "Program")) = true),
  fun K => decide (PySem.W.findIn K (.ref (He.ga K "Program")) "__ne__" = some (some (.builtin "object.__ne__"))),
  fun K => decide (PySem.W.notFirst K (He.ga K "Counters") (.ref (He.ga K "Counters")) = true),
  fun K => decide (PySem.W.selfFirst K (He.ga K "Counters") = true),
  fun K => decide (PySem.W.nsIn K mainGlobals "RUNS" = some (some (.ref (He.ga K "RUNS")))),
  fun K => He.tupB K "RUNS" [.str "runs"],
  fun K => decide (PySem.W.nsIn K mainGlobals "OUTSIDE" = some (some (.ref (He.ga K "OUTSIDE")))),
  fun K => He.tupB K "OUTSIDE" [.str "outside"],
  fun K => decide (PySem.W.nsIn K mainGlobals "LETTERS" = some (some (.str "abcdefghijklmnopqrstuvwxyz" (HD.strT K "LETTERS")))),
  fun K => decide (PySem.W.nsIn K mainGlobals "MOST_LETTERS" = some (some (.int 8 (HD.intT K "MOST_LETTERS")))),
  fun K => decide (PySem.W.nsIn K mainGlobals "MOST_WAYS" = some (some (.int 40 (HD.intT K "MOST_WAYS")))),
  fun K => decide (PySem.W.nsIn K mainGlobals "isinstance" = some none),
  fun K => decide (PySem.W.nsIn K mainGlobals "str" = some none),
  fun K => decide (PySem.W.nsIn K mainGlobals "len" = some none),
  fun K => decide (PySem.W.nsIn K mainGlobals "all" = some none),
  fun K => decide (PySem.W.nsIn K mainGlobals "tuple" = some none),
  fun K => decide (PySem.W.nsIn K mainGlobals "dict" = some none),
  fun K => decide (PySem.W.nsIn K mainGlobals "list" = some none),
  fun K => decide (PySem.W.nsIn K mainGlobals "set" = some none),
  fun K => decide (PySem.W.nsIn K mainGlobals "sorted" = some none),
  fun K => decide (PySem.W.nsIn K mainGlobals "range" = some none),
  fun K => decide (PySem.W.nsIn K mainGlobals "min" = some none),
  fun K => decide (PySem.W.nsIn K mainGlobals "max" = some none),
  fun K => decide (PySem.W.nsIn K mainGlobals "int" = some none),
  fun K => decide (PySem.W.nsIn K mainGlobals "enumerate" = some none)]
def fa0 : List HD.Fact := fa0_0 ++ (fa0_1 ++ (fa0_2))
def dwo_ : HD.FD := ⟨fun K => (He.ga K "is_word"), "is_word", "is_word", defArgs PG.sWord, defBody PG.sWord, defScope PG.sWord⟩
def dam_ : HD.FD := ⟨fun K => (He.ga K "is_among"), "is_among", "is_among", defArgs PG.sAmong, defBody PG.sAmong, defScope PG.sAmong⟩
def dli_ : HD.FD := ⟨fun K => (He.ga K "is_link"), "is_link", "is_link", defArgs PG.sLink, defBody PG.sLink, defScope PG.sLink⟩
def dwa_ : HD.FD := ⟨fun K => (He.ga K "are_ways"), "are_ways", "are_ways", defArgs PG.sWays, defBody PG.sWays, defScope PG.sWays⟩
def dex_ : HD.FD := ⟨fun K => (He.ga K "are_exits"), "are_exits", "are_exits", defArgs PG.sExits, defBody PG.sExits, defScope PG.sExits⟩
def dre_ : HD.FD := ⟨fun K => (He.ga K "reached_from"), "reached_from", "reached_from", defArgs PG.sReach, defBody PG.sReach, defScope PG.sReach⟩
def dna_ : HD.FD := ⟨fun K => (He.ga K "names_at"), "names_at", "names_at", defArgs TG.sNamesAt, defBody TG.sNamesAt, defScope TG.sNamesAt⟩
def dpf_ : HD.FD := ⟨fun K => (He.ga K "paths_from"), "paths_from", "paths_from", defArgs TG.sPathsF, defBody TG.sPathsF, defScope TG.sPathsF⟩
def drq_ : HD.FD := ⟨fun K => (He.ga K "require_program"), "require_program", "require_program", defArgs CT.sReq, defBody CT.sReq, defScope CT.sReq⟩
def dac_ : HD.FD := ⟨fun K => (He.ga K "all_counters"), "all_counters", "all_counters", defArgs CT.sAll, defBody CT.sAll, defScope CT.sAll⟩
def dto_ : HD.FD := ⟨fun K => (He.ga K "is_tuple_of_texts"), "is_tuple_of_texts", "is_tuple_of_texts", defArgs CT.sTot, defBody CT.sTot, defScope CT.sTot⟩
def dkn_ : HD.FD := ⟨fun K => (He.ga K "is_known"), "is_known", "is_known", defArgs CT.sKnown, defBody CT.sKnown, defScope CT.sKnown⟩
def drp_ : HD.FD := ⟨fun K => (He.ga K "require_partner"), "require_partner", "require_partner", defArgs CT.sPart, defBody CT.sPart, defScope CT.sPart⟩
def drc_ : HD.FD := ⟨fun K => (He.ga K "require_counters"), "require_counters", "require_counters", defArgs TG.sReqC, defBody TG.sReqC, defScope TG.sReqC⟩
def dil_ : HD.FD := ⟨fun K => (He.ga K "inlet_of"), "inlet_of", "inlet_of", defArgs TG.sInlet, defBody TG.sInlet, defScope TG.sInlet⟩
def dol_ : HD.FD := ⟨fun K => (He.ga K "outlet_of"), "outlet_of", "outlet_of", defArgs TG.sOutlet, defBody TG.sOutlet, defScope TG.sOutlet⟩
def deo_ : HD.FD := ⟨fun K => (He.ga K "edge_of"), "edge_of", "edge_of", defArgs TG.sEdgeOf, defBody TG.sEdgeOf, defScope TG.sEdgeOf⟩
def des_ : HD.FD := ⟨fun K => (He.ga K "edges_of"), "edges_of", "edges_of", defArgs TG.sEdgesOf, defBody TG.sEdgesOf, defScope TG.sEdgesOf⟩
def dew_ : HD.FD := ⟨fun K => (He.ga K "edges_without"), "edges_without", "edges_without", defArgs TG.sEdgesW, defBody TG.sEdgesW, defScope TG.sEdgesW⟩
def dpb_ : HD.FD := ⟨fun K => (He.ga K "paths_beside"), "paths_beside", "paths_beside", defArgs TG.sBeside, defBody TG.sBeside, defScope TG.sBeside⟩
def dco_ : HD.FD := ⟨fun K => (He.ga K "circle_of"), "circle_of", "circle_of", defArgs TG.sCircle, defBody TG.sCircle, defScope TG.sCircle⟩
def dun__ : HD.FD := ⟨fun K => (He.ga K "untold"), "untold", "untold", defArgs TG.sUntold, defBody TG.sUntold, defScope TG.sUntold⟩
def dNu_ : HD.FD := ⟨fun K => (He.ga K "_law_numbers"), "_law_numbers", "_law_numbers", defArgs LH.sNum, defBody LH.sNum, defScope LH.sNum⟩
def dPo_ : HD.FD := ⟨fun K => (He.ga K "_law_pool"), "_law_pool", "_law_pool", defArgs LH.sPool, defBody LH.sPool, defScope LH.sPool⟩
def dDr_ : HD.FD := ⟨fun K => (He.ga K "_law_draw"), "_law_draw", "_law_draw", defArgs LH.sDraw, defBody LH.sDraw, defScope LH.sDraw⟩
def dPk_ : HD.FD := ⟨fun K => (He.ga K "_law_pick"), "_law_pick", "_law_pick", defArgs LJ.sPick, defBody LJ.sPick, defScope LJ.sPick⟩
def dOp_ : HD.FD := ⟨fun K => (He.ga K "_law_opened"), "_law_opened", "_law_opened", defArgs LH.sOpen, defBody LH.sOpen, defScope LH.sOpen⟩
def dWo_ : HD.FD := ⟨fun K => (He.ga K "_law_words"), "_law_words", "_law_words", defArgs LW.sWords, defBody LW.sWords, defScope LW.sWords⟩
def dNa_ : HD.FD := ⟨fun K => (He.ga K "_law_names"), "_law_names", "_law_names", defArgs LW.sNames, defBody LW.sNames, defScope LW.sNames⟩
def dPr_ : HD.FD := ⟨fun K => (He.ga K "_law_program"), "_law_program", "_law_program", defArgs LW.sProgram, defBody LW.sProgram, defScope LW.sProgram⟩
def dMa_ : HD.FD := ⟨fun K => (He.ga K "_law_made"), "_law_made", "_law_made", defArgs LW.sMade, defBody LW.sMade, defScope LW.sMade⟩
def dPl_ : HD.FD := ⟨fun K => (He.ga K "_law_places"), "_law_places", "_law_places", defArgs LW.sLPlaces, defBody LW.sLPlaces, defScope LW.sLPlaces⟩
def dAl_ : HD.FD := ⟨fun K => (He.ga K "_law_all"), "_law_all", "_law_all", defArgs LC.sLAll, defBody LC.sLAll, defScope LC.sLAll⟩
def dSo_ : HD.FD := ⟨fun K => (He.ga K "_law_some"), "_law_some", "_law_some", defArgs LC.sSome, defBody LC.sSome, defScope LC.sSome⟩
def dSe_ : HD.FD := ⟨fun K => (He.ga K "_law_set"), "_law_set", "_law_set", defArgs LC.sSet, defBody LC.sSet, defScope LC.sSet⟩
def dLA_ : HD.FD := ⟨fun K => (He.ga K "law"), "law", "law", defArgs _root_.TL.sLaw, defBody _root_.TL.sLaw, defScope _root_.TL.sLaw⟩
def dmI_ : HD.FD := ⟨fun K => (He.ma K (He.ga K "Program") "__init__"), "__init__", "Program.__init__", defArgs PG.sInit, defBody PG.sInit, defScope PG.sInit⟩
def dmW_ : HD.FD := ⟨fun K => (He.ma K (He.ga K "Program") "ways"), "ways", "Program.ways", defArgs PG.sMWays, defBody PG.sMWays, defScope PG.sMWays⟩
def dmP_ : HD.FD := ⟨fun K => (He.ma K (He.ga K "Program") "places"), "places", "Program.places", defArgs PG.sMPlaces, defBody PG.sMPlaces, defScope PG.sMPlaces⟩
def dmE_ : HD.FD := ⟨fun K => (He.ma K (He.ga K "Program") "exits"), "exits", "Program.exits", defArgs PG.sMExits, defBody PG.sMExits, defScope PG.sMExits⟩
def dmH_ : HD.FD := ⟨fun K => (He.ma K (He.ga K "Program") "__contains__"), "__contains__", "Program.__contains__", defArgs PG.sHas, defBody PG.sHas, defScope PG.sHas⟩
def dmQ_ : HD.FD := ⟨fun K => (He.ma K (He.ga K "Program") "__eq__"), "__eq__", "Program.__eq__", defArgs PG.sEq, defBody PG.sEq, defScope PG.sEq⟩
def dmG_ : HD.FD := ⟨fun K => (He.ma K (He.ga K "Program") "__getitem__"), "__getitem__", "Program.__getitem__", defArgs PG.sGet, defBody PG.sGet, defScope PG.sGet⟩
def dnI_ : HD.FD := ⟨fun K => (He.ma K (He.ga K "Counters") "__init__"), "__init__", "Counters.__init__", defArgs CT.sInitC, defBody CT.sInitC, defScope CT.sInitC⟩
def dnL_ : HD.FD := ⟨fun K => (He.ma K (He.ga K "Counters") "listed"), "listed", "Counters.listed", defArgs CT.sListed, defBody CT.sListed, defScope CT.sListed⟩
def dnA_ : HD.FD := ⟨fun K => (He.ma K (He.ga K "Counters") "__add__"), "__add__", "Counters.__add__", defArgs CT.sAdd, defBody CT.sAdd, defScope CT.sAdd⟩
def dmB_ : HD.FD := ⟨fun K => (HD.rec0 K (He.ma K (He.ga K "Program") "begin") "property"), "begin", "Program.begin", defArgs PG.sBegin, defBody PG.sBegin, defScope PG.sBegin⟩
def dnP_ : HD.FD := ⟨fun K => (HD.rec0 K (He.ma K (He.ga K "Counters") "program") "property"), "program", "Counters.program", defArgs CT.sCProg, defBody CT.sCProg, defScope CT.sCProg⟩
def fn0_0 : List HD.FD := []
def fn0_1 : List HD.FD := [dwo_, dam_, dli_, dwa_, dex_, dre_, dna_, dpf_, drq_, dac_, dto_, dkn_, drp_, drc_, dil_, dol_, deo_, des_, dew_, dpb_, dco_, dun__, dNu_, dPo_]
def fn0_2 : List HD.FD := [dDr_, dPk_, dOp_, dWo_, dNa_, dPr_, dMa_, dPl_, dAl_, dSo_, dSe_, dLA_, dmI_, dmW_, dmP_, dmE_, dmH_, dmQ_, dmG_, dnI_, dnL_, dnA_, dmB_, dnP_]
def fn0 : List HD.FD := fn0_0 ++ (fn0_1 ++ (fn0_2))
abbrev R0 : PySem.W.OpenRow := PySem.W.OpenLaw.row PySem.Challenge.rw_countededges_k47_whole_ways_doubled_and
abbrev hk0 : PySem.W.Hook := HD.hook fa0 fn0
def ob0 (s : PySem.W.SharedT) : HD.Al := HD.obT fa0 fn0 s
theorem ob_eq0 (s : PySem.W.SharedT) : ob0 s = hk0.obs s.abs := HD.obT_eq fa0 fn0 s
def loose0 : List PySem.Str := ["_wall", "CountError", "BadArgument", "BadProgram", "BadWay", "BadCounter", "LETTERS", "MOST_LETTERS", "MOST_WAYS", "is_word", "is_among", "is_link", "are_ways", "are_exits", "reached_from", "names_at", "paths_from", "Program", "require_program", "RUNS", "all_counters", "is_tuple_of_texts", "is_known", "Counters", "require_partner", "require_counters", "OUTSIDE", "inlet_of", "outlet_of", "edge_of"]
def loose1 : List PySem.Str := ["edges_of", "edges_without", "paths_beside", "circle_of", "untold", "_law_numbers", "_law_pool", "_law_draw", "_law_pick", "_law_opened", "_law_words", "_law_names", "_law_program", "_law_made", "_law_places", "_law_all", "_law_some", "_law_set"]
def loose_ : List PySem.Str := loose0 ++ loose1
theorem run0_0 (w : World) : HandSHeadRun.RunEq R0 (PySem.W.view R0.prog [54]) (HD.hook fa0_0 fn0_0) (HD.obT fa0_0 fn0_0) 20000 loose_ w := by
  intro os
  kernel_rfl
theorem run0_1 (w : World) : HD.Seen R0 fa0_1 fn0_1 20000 w := by
  intro os
  kernel_rfl
theorem run0_2 (w : World) : HD.Seen R0 fa0_2 fn0_2 20000 w := by
  intro os
  kernel_rfl
theorem run0 (w : World) : HandSHeadRun.RunEq R0 (PySem.W.view R0.prog [54]) hk0 ob0 20000 loose_ w := HD.run_app (run0_0 w) (HD.Seen.app (run0_1 w) (run0_2 w))
theorem facts0 {P : PySem.W.OpenLaw} {w : World} {K : PySem.W.Frag} {h : Heap} {mg : Str → Option Value} {fa : Addr} (X : K.In h) (G : h.Ns mainGlobals mg) (hfa : mg "law" = some (.ref fa)) (c : HD.Says fa0 fn0 K) :
    ∃ fd : FuncData, (∀ (s : Shared) (v : Value), BindsTo s fd ⟨[v], []⟩ [("script", v)]) ∧ ∀ base : Heap, K.In base → base.Ns mainGlobals mg → FnOk P.prog w K mg base CX0 8 fa fd ["script"] (spLaw0 K) := by
  obtain ⟨_, _, _, _, _, _, _, _, _, lwo, cwo⟩ := c.def_ 0 (d := dwo_) rfl
  obtain ⟨_, _, _, _, _, _, _, _, _, lam, cam⟩ := c.def_ 1 (d := dam_) rfl
  obtain ⟨_, _, _, _, _, _, _, _, _, lli, cli⟩ := c.def_ 2 (d := dli_) rfl
  obtain ⟨_, _, _, _, _, _, _, _, _, lwa, cwa⟩ := c.def_ 3 (d := dwa_) rfl
  obtain ⟨_, _, _, _, _, _, _, _, _, lex, cex⟩ := c.def_ 4 (d := dex_) rfl
  obtain ⟨_, _, _, _, _, _, _, _, _, lre, cre⟩ := c.def_ 5 (d := dre_) rfl
  obtain ⟨_, _, _, _, _, _, _, _, _, lna, cna⟩ := c.def_ 6 (d := dna_) rfl
  obtain ⟨_, _, _, _, _, _, _, _, _, lpf, cpf⟩ := c.def_ 7 (d := dpf_) rfl
  obtain ⟨_, _, _, _, _, _, _, _, _, lrq, crq⟩ := c.def_ 8 (d := drq_) rfl
  obtain ⟨_, _, _, _, _, _, _, _, _, lac, cac⟩ := c.def_ 9 (d := dac_) rfl
  obtain ⟨_, _, _, _, _, _, _, _, _, lto, cto⟩ := c.def_ 10 (d := dto_) rfl
  obtain ⟨_, _, _, _, _, _, _, _, _, lkn, ckn⟩ := c.def_ 11 (d := dkn_) rfl
  obtain ⟨_, _, _, _, _, _, _, _, _, lrp, crp⟩ := c.def_ 12 (d := drp_) rfl
  obtain ⟨_, _, _, _, _, _, _, _, _, lrc, crc⟩ := c.def_ 13 (d := drc_) rfl
  obtain ⟨_, _, _, _, _, _, _, _, _, lil, cil⟩ := c.def_ 14 (d := dil_) rfl
  obtain ⟨_, _, _, _, _, _, _, _, _, lol, col⟩ := c.def_ 15 (d := dol_) rfl
  obtain ⟨_, _, _, _, _, _, _, _, _, leo, ceo⟩ := c.def_ 16 (d := deo_) rfl
  obtain ⟨_, _, _, _, _, _, _, _, _, les, ces⟩ := c.def_ 17 (d := des_) rfl
  obtain ⟨_, _, _, _, _, _, _, _, _, lew, cew⟩ := c.def_ 18 (d := dew_) rfl
  obtain ⟨_, _, _, _, _, _, _, _, _, lpb, cpb⟩ := c.def_ 19 (d := dpb_) rfl
  obtain ⟨_, _, _, _, _, _, _, _, _, lco, cco⟩ := c.def_ 20 (d := dco_) rfl
  obtain ⟨_, _, _, _, _, _, _, _, _, lun_, cun_⟩ := c.def_ 21 (d := dun__) rfl
  obtain ⟨_, _, _, _, _, _, _, _, _, lNu, cNu⟩ := c.def_ 22 (d := dNu_) rfl
  obtain ⟨_, _, _, _, _, _, _, _, _, lPo, cPo⟩ := c.def_ 23 (d := dPo_) rfl
  obtain ⟨_, _, _, _, _, _, _, _, _, lDr, cDr⟩ := c.def_ 24 (d := dDr_) rfl
  obtain ⟨_, _, _, _, _, _, _, _, _, lPk, cPk⟩ := c.def_ 25 (d := dPk_) rfl
  obtain ⟨_, _, _, _, _, _, _, _, _, lOp, cOp⟩ := c.def_ 26 (d := dOp_) rfl
  obtain ⟨_, _, _, _, _, _, _, _, _, lWo, cWo⟩ := c.def_ 27 (d := dWo_) rfl
  obtain ⟨_, _, _, _, _, _, _, _, _, lNa, cNa⟩ := c.def_ 28 (d := dNa_) rfl
  obtain ⟨_, _, _, _, _, _, _, _, _, lPr, cPr⟩ := c.def_ 29 (d := dPr_) rfl
  obtain ⟨_, _, _, _, _, _, _, _, _, lMa, cMa⟩ := c.def_ 30 (d := dMa_) rfl
  obtain ⟨_, _, _, _, _, _, _, _, _, lPl, cPl⟩ := c.def_ 31 (d := dPl_) rfl
  obtain ⟨_, _, _, _, _, _, _, _, _, lAl, cAl⟩ := c.def_ 32 (d := dAl_) rfl
  obtain ⟨_, _, _, _, _, _, _, _, _, lSo, cSo⟩ := c.def_ 33 (d := dSo_) rfl
  obtain ⟨_, _, _, _, _, _, _, _, _, lSe, cSe⟩ := c.def_ 34 (d := dSe_) rfl
  obtain ⟨_, _, _, _, _, _, _, _, _, lLA, cLA⟩ := c.def_ 35 (d := dLA_) rfl
  obtain ⟨_, _, _, _, _, _, _, _, _, lmI, cmI⟩ := c.def_ 36 (d := dmI_) rfl
  obtain ⟨_, _, _, _, _, _, _, _, _, lmW, cmW⟩ := c.def_ 37 (d := dmW_) rfl
  obtain ⟨_, _, _, _, _, _, _, _, _, lmP, cmP⟩ := c.def_ 38 (d := dmP_) rfl
  obtain ⟨_, _, _, _, _, _, _, _, _, lmE, cmE⟩ := c.def_ 39 (d := dmE_) rfl
  obtain ⟨_, _, _, _, _, _, _, _, _, lmH, cmH⟩ := c.def_ 40 (d := dmH_) rfl
  obtain ⟨_, _, _, _, _, _, _, _, _, lmQ, cmQ⟩ := c.def_ 41 (d := dmQ_) rfl
  obtain ⟨_, _, _, _, _, _, _, _, _, lmG, cmG⟩ := c.def_ 42 (d := dmG_) rfl
  obtain ⟨_, _, _, _, _, _, _, _, _, lnI, cnI⟩ := c.def_ 43 (d := dnI_) rfl
  obtain ⟨_, _, _, _, _, _, _, _, _, lnL, cnL⟩ := c.def_ 44 (d := dnL_) rfl
  obtain ⟨_, _, _, _, _, _, _, _, _, lnA, cnA⟩ := c.def_ 45 (d := dnA_) rfl
  obtain ⟨_, _, _, _, _, _, _, _, _, lmB, cmB⟩ := c.def_ 46 (d := dmB_) rfl
  obtain ⟨_, _, _, _, _, _, _, _, _, lnP, cnP⟩ := c.def_ 47 (d := dnP_) rfl
  have aC : PySem.W.nsIn K mainGlobals "Program" = some (some (.ref (He.ga K "Program"))) := of_decide_eq_true (c.fact 0 rfl)
  have aD : PySem.W.nsIn K mainGlobals "Counters" = some (some (.ref (He.ga K "Counters"))) := of_decide_eq_true (c.fact 1 rfl)
  have awo : PySem.W.nsIn K mainGlobals "is_word" = some (some (.ref (He.ga K "is_word"))) := of_decide_eq_true (c.fact 2 rfl)
  have kwo : PySem.W.keepIn K (.ref (He.ga K "is_word")) = true := of_decide_eq_true (c.fact 3 rfl)
  have aam : PySem.W.nsIn K mainGlobals "is_among" = some (some (.ref (He.ga K "is_among"))) := of_decide_eq_true (c.fact 4 rfl)
  have kam : PySem.W.keepIn K (.ref (He.ga K "is_among")) = true := of_decide_eq_true (c.fact 5 rfl)
  have ali : PySem.W.nsIn K mainGlobals "is_link" = some (some (.ref (He.ga K "is_link"))) := of_decide_eq_true (c.fact 6 rfl)
  have kli : PySem.W.keepIn K (.ref (He.ga K "is_link")) = true := of_decide_eq_true (c.fact 7 rfl)
  have awa : PySem.W.nsIn K mainGlobals "are_ways" = some (some (.ref (He.ga K "are_ways"))) := of_decide_eq_true (c.fact 8 rfl)
  have kwa : PySem.W.keepIn K (.ref (He.ga K "are_ways")) = true := of_decide_eq_true (c.fact 9 rfl)
  have aex : PySem.W.nsIn K mainGlobals "are_exits" = some (some (.ref (He.ga K "are_exits"))) := of_decide_eq_true (c.fact 10 rfl)
  have kex : PySem.W.keepIn K (.ref (He.ga K "are_exits")) = true := of_decide_eq_true (c.fact 11 rfl)
  have are : PySem.W.nsIn K mainGlobals "reached_from" = some (some (.ref (He.ga K "reached_from"))) := of_decide_eq_true (c.fact 12 rfl)
  have kre : PySem.W.keepIn K (.ref (He.ga K "reached_from")) = true := of_decide_eq_true (c.fact 13 rfl)
  have ana : PySem.W.nsIn K mainGlobals "names_at" = some (some (.ref (He.ga K "names_at"))) := of_decide_eq_true (c.fact 14 rfl)
  have kna : PySem.W.keepIn K (.ref (He.ga K "names_at")) = true := of_decide_eq_true (c.fact 15 rfl)
  have apf : PySem.W.nsIn K mainGlobals "paths_from" = some (some (.ref (He.ga K "paths_from"))) := of_decide_eq_true (c.fact 16 rfl)
  have kpf : PySem.W.keepIn K (.ref (He.ga K "paths_from")) = true := of_decide_eq_true (c.fact 17 rfl)
  have arq : PySem.W.nsIn K mainGlobals "require_program" = some (some (.ref (He.ga K "require_program"))) := of_decide_eq_true (c.fact 18 rfl)
  have krq : PySem.W.keepIn K (.ref (He.ga K "require_program")) = true := of_decide_eq_true (c.fact 19 rfl)
  have aac : PySem.W.nsIn K mainGlobals "all_counters" = some (some (.ref (He.ga K "all_counters"))) := of_decide_eq_true (c.fact 20 rfl)
  have kac : PySem.W.keepIn K (.ref (He.ga K "all_counters")) = true := of_decide_eq_true (c.fact 21 rfl)
  have ato : PySem.W.nsIn K mainGlobals "is_tuple_of_texts" = some (some (.ref (He.ga K "is_tuple_of_texts"))) := of_decide_eq_true (c.fact 22 rfl)
  have kto : PySem.W.keepIn K (.ref (He.ga K "is_tuple_of_texts")) = true := of_decide_eq_true (c.fact 23 rfl)
  have akn : PySem.W.nsIn K mainGlobals "is_known" = some (some (.ref (He.ga K "is_known"))) := of_decide_eq_true (c.fact 24 rfl)
  have kkn : PySem.W.keepIn K (.ref (He.ga K "is_known")) = true := of_decide_eq_true (c.fact 25 rfl)
  have arp : PySem.W.nsIn K mainGlobals "require_partner" = some (some (.ref (He.ga K "require_partner"))) := of_decide_eq_true (c.fact 26 rfl)
  have krp : PySem.W.keepIn K (.ref (He.ga K "require_partner")) = true := of_decide_eq_true (c.fact 27 rfl)
  have arc : PySem.W.nsIn K mainGlobals "require_counters" = some (some (.ref (He.ga K "require_counters"))) := of_decide_eq_true (c.fact 28 rfl)
  have krc : PySem.W.keepIn K (.ref (He.ga K "require_counters")) = true := of_decide_eq_true (c.fact 29 rfl)
  have ail : PySem.W.nsIn K mainGlobals "inlet_of" = some (some (.ref (He.ga K "inlet_of"))) := of_decide_eq_true (c.fact 30 rfl)
  have kil : PySem.W.keepIn K (.ref (He.ga K "inlet_of")) = true := of_decide_eq_true (c.fact 31 rfl)
  have aol : PySem.W.nsIn K mainGlobals "outlet_of" = some (some (.ref (He.ga K "outlet_of"))) := of_decide_eq_true (c.fact 32 rfl)
  have kol : PySem.W.keepIn K (.ref (He.ga K "outlet_of")) = true := of_decide_eq_true (c.fact 33 rfl)
  have aeo : PySem.W.nsIn K mainGlobals "edge_of" = some (some (.ref (He.ga K "edge_of"))) := of_decide_eq_true (c.fact 34 rfl)
  have keo : PySem.W.keepIn K (.ref (He.ga K "edge_of")) = true := of_decide_eq_true (c.fact 35 rfl)
  have aes : PySem.W.nsIn K mainGlobals "edges_of" = some (some (.ref (He.ga K "edges_of"))) := of_decide_eq_true (c.fact 36 rfl)
  have kes : PySem.W.keepIn K (.ref (He.ga K "edges_of")) = true := of_decide_eq_true (c.fact 37 rfl)
  have aew : PySem.W.nsIn K mainGlobals "edges_without" = some (some (.ref (He.ga K "edges_without"))) := of_decide_eq_true (c.fact 38 rfl)
  have kew : PySem.W.keepIn K (.ref (He.ga K "edges_without")) = true := of_decide_eq_true (c.fact 39 rfl)
  have apb : PySem.W.nsIn K mainGlobals "paths_beside" = some (some (.ref (He.ga K "paths_beside"))) := of_decide_eq_true (c.fact 40 rfl)
  have kpb : PySem.W.keepIn K (.ref (He.ga K "paths_beside")) = true := of_decide_eq_true (c.fact 41 rfl)
  have aco : PySem.W.nsIn K mainGlobals "circle_of" = some (some (.ref (He.ga K "circle_of"))) := of_decide_eq_true (c.fact 42 rfl)
  have kco : PySem.W.keepIn K (.ref (He.ga K "circle_of")) = true := of_decide_eq_true (c.fact 43 rfl)
  have aun_ : PySem.W.nsIn K mainGlobals "untold" = some (some (.ref (He.ga K "untold"))) := of_decide_eq_true (c.fact 44 rfl)
  have kun_ : PySem.W.keepIn K (.ref (He.ga K "untold")) = true := of_decide_eq_true (c.fact 45 rfl)
  have aNu : PySem.W.nsIn K mainGlobals "_law_numbers" = some (some (.ref (He.ga K "_law_numbers"))) := of_decide_eq_true (c.fact 46 rfl)
  have kNu : PySem.W.keepIn K (.ref (He.ga K "_law_numbers")) = true := of_decide_eq_true (c.fact 47 rfl)
  have aPo : PySem.W.nsIn K mainGlobals "_law_pool" = some (some (.ref (He.ga K "_law_pool"))) := of_decide_eq_true (c.fact 48 rfl)
  have kPo : PySem.W.keepIn K (.ref (He.ga K "_law_pool")) = true := of_decide_eq_true (c.fact 49 rfl)
  have aDr : PySem.W.nsIn K mainGlobals "_law_draw" = some (some (.ref (He.ga K "_law_draw"))) := of_decide_eq_true (c.fact 50 rfl)
  have kDr : PySem.W.keepIn K (.ref (He.ga K "_law_draw")) = true := of_decide_eq_true (c.fact 51 rfl)
  have aPk : PySem.W.nsIn K mainGlobals "_law_pick" = some (some (.ref (He.ga K "_law_pick"))) := of_decide_eq_true (c.fact 52 rfl)
  have kPk : PySem.W.keepIn K (.ref (He.ga K "_law_pick")) = true := of_decide_eq_true (c.fact 53 rfl)
  have aOp : PySem.W.nsIn K mainGlobals "_law_opened" = some (some (.ref (He.ga K "_law_opened"))) := of_decide_eq_true (c.fact 54 rfl)
  have kOp : PySem.W.keepIn K (.ref (He.ga K "_law_opened")) = true := of_decide_eq_true (c.fact 55 rfl)
  have aWo : PySem.W.nsIn K mainGlobals "_law_words" = some (some (.ref (He.ga K "_law_words"))) := of_decide_eq_true (c.fact 56 rfl)
  have kWo : PySem.W.keepIn K (.ref (He.ga K "_law_words")) = true := of_decide_eq_true (c.fact 57 rfl)
  have aNa : PySem.W.nsIn K mainGlobals "_law_names" = some (some (.ref (He.ga K "_law_names"))) := of_decide_eq_true (c.fact 58 rfl)
  have kNa : PySem.W.keepIn K (.ref (He.ga K "_law_names")) = true := of_decide_eq_true (c.fact 59 rfl)
  have aPr : PySem.W.nsIn K mainGlobals "_law_program" = some (some (.ref (He.ga K "_law_program"))) := of_decide_eq_true (c.fact 60 rfl)
  have kPr : PySem.W.keepIn K (.ref (He.ga K "_law_program")) = true := of_decide_eq_true (c.fact 61 rfl)
  have aMa : PySem.W.nsIn K mainGlobals "_law_made" = some (some (.ref (He.ga K "_law_made"))) := of_decide_eq_true (c.fact 62 rfl)
  have kMa : PySem.W.keepIn K (.ref (He.ga K "_law_made")) = true := of_decide_eq_true (c.fact 63 rfl)
  have aPl : PySem.W.nsIn K mainGlobals "_law_places" = some (some (.ref (He.ga K "_law_places"))) := of_decide_eq_true (c.fact 64 rfl)
  have kPl : PySem.W.keepIn K (.ref (He.ga K "_law_places")) = true := of_decide_eq_true (c.fact 65 rfl)
  have aAl : PySem.W.nsIn K mainGlobals "_law_all" = some (some (.ref (He.ga K "_law_all"))) := of_decide_eq_true (c.fact 66 rfl)
  have kAl : PySem.W.keepIn K (.ref (He.ga K "_law_all")) = true := of_decide_eq_true (c.fact 67 rfl)
  have aSo : PySem.W.nsIn K mainGlobals "_law_some" = some (some (.ref (He.ga K "_law_some"))) := of_decide_eq_true (c.fact 68 rfl)
  have kSo : PySem.W.keepIn K (.ref (He.ga K "_law_some")) = true := of_decide_eq_true (c.fact 69 rfl)
  have aSe : PySem.W.nsIn K mainGlobals "_law_set" = some (some (.ref (He.ga K "_law_set"))) := of_decide_eq_true (c.fact 70 rfl)
  have kSe : PySem.W.keepIn K (.ref (He.ga K "_law_set")) = true := of_decide_eq_true (c.fact 71 rfl)
  have aLA : PySem.W.nsIn K mainGlobals "law" = some (some (.ref (He.ga K "law"))) := of_decide_eq_true (c.fact 72 rfl)
  have kLA : PySem.W.keepIn K (.ref (He.ga K "law")) = true := of_decide_eq_true (c.fact 73 rfl)
  have amI : PySem.W.findIn K (.ref (He.ga K "Program")) "__init__" = some (some (.ref (He.ma K (He.ga K "Program") "__init__"))) := of_decide_eq_true (c.fact 74 rfl)
  have imI : PySem.W.isFn K (.ref (He.ma K (He.ga K "Program") "__init__")) = true := of_decide_eq_true (c.fact 75 rfl)
  have kmI : PySem.W.keepIn K (.ref (He.ma K (He.ga K "Program") "__init__")) = true := of_decide_eq_true (c.fact 76 rfl)
  have amW : PySem.W.findIn K (.ref (He.ga K "Program")) "ways" = some (some (.ref (He.ma K (He.ga K "Program") "ways"))) := of_decide_eq_true (c.fact 77 rfl)
  have imW : PySem.W.isFn K (.ref (He.ma K (He.ga K "Program") "ways")) = true := of_decide_eq_true (c.fact 78 rfl)
  have kmW : PySem.W.keepIn K (.ref (He.ma K (He.ga K "Program") "ways")) = true := of_decide_eq_true (c.fact 79 rfl)
  have amP : PySem.W.findIn K (.ref (He.ga K "Program")) "places" = some (some (.ref (He.ma K (He.ga K "Program") "places"))) := of_decide_eq_true (c.fact 80 rfl)
  have imP : PySem.W.isFn K (.ref (He.ma K (He.ga K "Program") "places")) = true := of_decide_eq_true (c.fact 81 rfl)
  have kmP : PySem.W.keepIn K (.ref (He.ma K (He.ga K "Program") "places")) = true := of_decide_eq_true (c.fact 82 rfl)
  have amE : PySem.W.findIn K (.ref (He.ga K "Program")) "exits" = some (some (.ref (He.ma K (He.ga K "Program") "exits"))) := of_decide_eq_true (c.fact 83 rfl)
  have imE : PySem.W.isFn K (.ref (He.ma K (He.ga K "Program") "exits")) = true := of_decide_eq_true (c.fact 84 rfl)
  have kmE : PySem.W.keepIn K (.ref (He.ma K (He.ga K "Program") "exits")) = true := of_decide_eq_true (c.fact 85 rfl)
  have amH : PySem.W.findIn K (.ref (He.ga K "Program")) "__contains__" = some (some (.ref (He.ma K (He.ga K "Program") "__contains__"))) := of_decide_eq_true (c.fact 86 rfl)
  have imH : PySem.W.isFn K (.ref (He.ma K (He.ga K "Program") "__contains__")) = true := of_decide_eq_true (c.fact 87 rfl)
  have kmH : PySem.W.keepIn K (.ref (He.ma K (He.ga K "Program") "__contains__")) = true := of_decide_eq_true (c.fact 88 rfl)
  have amQ : PySem.W.findIn K (.ref (He.ga K "Program")) "__eq__" = some (some (.ref (He.ma K (He.ga K "Program") "__eq__"))) := of_decide_eq_true (c.fact 89 rfl)
  have imQ : PySem.W.isFn K (.ref (He.ma K (He.ga K "Program") "__eq__")) = true := of_decide_eq_true (c.fact 90 rfl)
  have kmQ : PySem.W.keepIn K (.ref (He.ma K (He.ga K "Program") "__eq__")) = true := of_decide_eq_true (c.fact 91 rfl)
  have amG : PySem.W.findIn K (.ref (He.ga K "Program")) "__getitem__" = some (some (.ref (He.ma K (He.ga K "Program") "__getitem__"))) := of_decide_eq_true (c.fact 92 rfl)
  have imG : PySem.W.isFn K (.ref (He.ma K (He.ga K "Program") "__getitem__")) = true := of_decide_eq_true (c.fact 93 rfl)
  have kmG : PySem.W.keepIn K (.ref (He.ma K (He.ga K "Program") "__getitem__")) = true := of_decide_eq_true (c.fact 94 rfl)
  have anI : PySem.W.findIn K (.ref (He.ga K "Counters")) "__init__" = some (some (.ref (He.ma K (He.ga K "Counters") "__init__"))) := of_decide_eq_true (c.fact 95 rfl)
  have inI : PySem.W.isFn K (.ref (He.ma K (He.ga K "Counters") "__init__")) = true := of_decide_eq_true (c.fact 96 rfl)
  have knI : PySem.W.keepIn K (.ref (He.ma K (He.ga K "Counters") "__init__")) = true := of_decide_eq_true (c.fact 97 rfl)
  have anL : PySem.W.findIn K (.ref (He.ga K "Counters")) "listed" = some (some (.ref (He.ma K (He.ga K "Counters") "listed"))) := of_decide_eq_true (c.fact 98 rfl)
  have inL : PySem.W.isFn K (.ref (He.ma K (He.ga K "Counters") "listed")) = true := of_decide_eq_true (c.fact 99 rfl)
  have knL : PySem.W.keepIn K (.ref (He.ma K (He.ga K "Counters") "listed")) = true := of_decide_eq_true (c.fact 100 rfl)
  have anA : PySem.W.findIn K (.ref (He.ga K "Counters")) "__add__" = some (some (.ref (He.ma K (He.ga K "Counters") "__add__"))) := of_decide_eq_true (c.fact 101 rfl)
  have inA : PySem.W.isFn K (.ref (He.ma K (He.ga K "Counters") "__add__")) = true := of_decide_eq_true (c.fact 102 rfl)
  have knA : PySem.W.keepIn K (.ref (He.ma K (He.ga K "Counters") "__add__")) = true := of_decide_eq_true (c.fact 103 rfl)
  have ngC : PySem.W.fnIn K (He.ma K (He.ga K "Program") "__getitem__") = true := of_decide_eq_true (c.fact 104 rfl)
  have apB : PySem.W.findIn K (.ref (He.ga K "Program")) "begin" = some (some (.ref (He.ma K (He.ga K "Program") "begin"))) := of_decide_eq_true (c.fact 105 rfl)
  have gpB : PySem.W.specialIn K (.ref (He.ma K (He.ga K "Program") "begin")) "__get__" = some (some (.builtin "property.__get__")) := of_decide_eq_true (c.fact 106 rfl)
  have tpB : PySem.W.takesIn K (.ref (He.ma K (He.ga K "Program") "begin")) = some true := of_decide_eq_true (c.fact 107 rfl)
  have rpB : PySem.W.recIn K (He.ma K (He.ga K "Program") "begin") "property" = some (.ref (HD.rec0 K (He.ma K (He.ga K "Program") "begin") "property") :: (HD.recR K (He.ma K (He.ga K "Program") "begin") "property")) := of_decide_eq_true (c.fact 108 rfl)
  have kmB : PySem.W.keepIn K (.ref (HD.rec0 K (He.ma K (He.ga K "Program") "begin") "property")) = true := of_decide_eq_true (c.fact 109 rfl)
  have apN : PySem.W.findIn K (.ref (He.ga K "Counters")) "program" = some (some (.ref (He.ma K (He.ga K "Counters") "program"))) := of_decide_eq_true (c.fact 110 rfl)
  have gpN : PySem.W.specialIn K (.ref (He.ma K (He.ga K "Counters") "program")) "__get__" = some (some (.builtin "property.__get__")) := of_decide_eq_true (c.fact 111 rfl)
  have tpN : PySem.W.takesIn K (.ref (He.ma K (He.ga K "Counters") "program")) = some true := of_decide_eq_true (c.fact 112 rfl)
  have rpN : PySem.W.recIn K (He.ma K (He.ga K "Counters") "program") "property" = some (.ref (HD.rec0 K (He.ma K (He.ga K "Counters") "program") "property") :: (HD.recR K (He.ma K (He.ga K "Counters") "program") "property")) := of_decide_eq_true (c.fact 113 rfl)
  have knP : PySem.W.keepIn K (.ref (HD.rec0 K (He.ma K (He.ga K "Counters") "program") "property")) = true := of_decide_eq_true (c.fact 114 rfl)
  have pg : PySem.W.plainGet K (He.ga K "Program") Str.empty = true := of_decide_eq_true (c.fact 115 rfl)
  have hd : PySem.W.hasDictIn K (He.ga K "Program") = true := of_decide_eq_true (c.fact 116 rfl)
  have po : PySem.W.plainOver K (He.ga K "Program") = true := of_decide_eq_true (c.fact 117 rfl)
  have sa : PySem.W.findIn K (.ref (He.ga K "Program")) "__setattr__" = some (some (.builtin "object.__setattr__")) := of_decide_eq_true (c.fact 118 rfl)
  have mk : PySem.W.makesIn K (He.ga K "Program") = true := of_decide_eq_true (c.fact 119 rfl)
  have kc : PySem.W.keepIn K (.ref (He.ga K "Program")) = true := of_decide_eq_true (c.fact 120 rfl)
  have pgD : PySem.W.plainGet K (He.ga K "Counters") Str.empty = true := of_decide_eq_true (c.fact 121 rfl)
  have hdD : PySem.W.hasDictIn K (He.ga K "Counters") = true := of_decide_eq_true (c.fact 122 rfl)
  have poD : PySem.W.plainOver K (He.ga K "Counters") = true := of_decide_eq_true (c.fact 123 rfl)
  have saD : PySem.W.findIn K (.ref (He.ga K "Counters")) "__setattr__" = some (some (.builtin "object.__setattr__")) := of_decide_eq_true (c.fact 124 rfl)
  have mkD : PySem.W.makesIn K (He.ga K "Counters") = true := of_decide_eq_true (c.fact 125 rfl)
  have kcD : PySem.W.keepIn K (.ref (He.ga K "Counters")) = true := of_decide_eq_true (c.fact 126 rfl)
  have n1 : PySem.W.findIn K (.ref (He.ga K "Program")) "links" = some none := of_decide_eq_true (c.fact 127 rfl)
  have n2 : PySem.W.findIn K (.ref (He.ga K "Program")) "spots" = some none := of_decide_eq_true (c.fact 128 rfl)
  have n3 : PySem.W.findIn K (.ref (He.ga K "Program")) "origin" = some none := of_decide_eq_true (c.fact 129 rfl)
  have n4 : PySem.W.findIn K (.ref (He.ga K "Program")) "finals" = some none := of_decide_eq_true (c.fact 130 rfl)
  have d1 : PySem.W.findIn K (.ref (He.ga K "Counters")) "base" = some none := of_decide_eq_true (c.fact 131 rfl)
  have d2 : PySem.W.findIn K (.ref (He.ga K "Counters")) "chosen" = some none := of_decide_eq_true (c.fact 132 rfl)
  have t1 : PySem.W.findIn K (.ref (He.ga K "Program")) "__class__" = some (some (.builtin "object.__class__")) := of_decide_eq_true (c.fact 133 rfl)
  have t2 : PySem.W.specialIn K (.builtin "object.__class__") "__get__" = some (some (.builtin "getset_descriptor.__get__")) := of_decide_eq_true (c.fact 134 rfl)
  have t3 : PySem.W.takesIn K (.builtin "object.__class__") = some true := of_decide_eq_true (c.fact 135 rfl)
  have t4 : PySem.W.mroIn K (He.ga K "Program") (.type "object") = some true := of_decide_eq_true (c.fact 136 rfl)
  have t5 : PySem.W.findIn K (.ref (He.ga K "Counters")) "__class__" = some (some (.builtin "object.__class__")) := of_decide_eq_true (c.fact 137 rfl)
  have t6 : PySem.W.mroIn K (He.ga K "Counters") (.type "object") = some true := of_decide_eq_true (c.fact 138 rfl)
  have u1 : PySem.W.notFirst K (He.ga K "Program") (.ref (He.ga K "Program")) = true := of_decide_eq_true (c.fact 139 rfl)
  have u2 : PySem.W.findIn K (.ref (He.ga K "Program")) "__ne__" = some (some (.builtin "object.__ne__")) := of_decide_eq_true (c.fact 140 rfl)
  have u7 : PySem.W.notFirst K (He.ga K "Counters") (.ref (He.ga K "Counters")) = true := of_decide_eq_true (c.fact 141 rfl)
  have u8 : PySem.W.selfFirst K (He.ga K "Counters") = true := of_decide_eq_true (c.fact 142 rfl)
  have aRn : PySem.W.nsIn K mainGlobals "RUNS" = some (some (.ref (He.ga K "RUNS"))) := of_decide_eq_true (c.fact 143 rfl)
  obtain ⟨odR, tRu, nR, slR, lRn⟩ := HD.tup1 (c.fact 144 rfl)
  have aOn : PySem.W.nsIn K mainGlobals "OUTSIDE" = some (some (.ref (He.ga K "OUTSIDE"))) := of_decide_eq_true (c.fact 145 rfl)
  obtain ⟨odO, tOu, nO, slO, lOn⟩ := HD.tup1 (c.fact 146 rfl)
  have vL : PySem.W.nsIn K mainGlobals "LETTERS" = some (some (.str "abcdefghijklmnopqrstuvwxyz" (HD.strT K "LETTERS"))) := of_decide_eq_true (c.fact 147 rfl)
  have vM : PySem.W.nsIn K mainGlobals "MOST_LETTERS" = some (some (.int 8 (HD.intT K "MOST_LETTERS"))) := of_decide_eq_true (c.fact 148 rfl)
  have vW : PySem.W.nsIn K mainGlobals "MOST_WAYS" = some (some (.int 40 (HD.intT K "MOST_WAYS"))) := of_decide_eq_true (c.fact 149 rfl)
  have z_isinstance : PySem.W.nsIn K mainGlobals "isinstance" = some none := of_decide_eq_true (c.fact 150 rfl)
  have z_str : PySem.W.nsIn K mainGlobals "str" = some none := of_decide_eq_true (c.fact 151 rfl)
  have z_len : PySem.W.nsIn K mainGlobals "len" = some none := of_decide_eq_true (c.fact 152 rfl)
  have z_all : PySem.W.nsIn K mainGlobals "all" = some none := of_decide_eq_true (c.fact 153 rfl)
  have z_tuple : PySem.W.nsIn K mainGlobals "tuple" = some none := of_decide_eq_true (c.fact 154 rfl)
  have z_dict : PySem.W.nsIn K mainGlobals "dict" = some none := of_decide_eq_true (c.fact 155 rfl)
  have z_list : PySem.W.nsIn K mainGlobals "list" = some none := of_decide_eq_true (c.fact 156 rfl)
  have z_set : PySem.W.nsIn K mainGlobals "set" = some none := of_decide_eq_true (c.fact 157 rfl)
  have z_sorted : PySem.W.nsIn K mainGlobals "sorted" = some none := of_decide_eq_true (c.fact 158 rfl)
  have z_range : PySem.W.nsIn K mainGlobals "range" = some none := of_decide_eq_true (c.fact 159 rfl)
  have z_min : PySem.W.nsIn K mainGlobals "min" = some none := of_decide_eq_true (c.fact 160 rfl)
  have z_max : PySem.W.nsIn K mainGlobals "max" = some none := of_decide_eq_true (c.fact 161 rfl)
  have z_int : PySem.W.nsIn K mainGlobals "int" = some none := of_decide_eq_true (c.fact 162 rfl)
  have z_enumerate : PySem.W.nsIn K mainGlobals "enumerate" = some none := of_decide_eq_true (c.fact 163 rfl)
  exact all_mk (l := P) X G hfa aC aD awo lwo cwo kwo aam lam cam kam ali lli cli kli awa lwa cwa kwa aex lex cex kex are lre cre kre ana lna cna kna apf lpf cpf kpf arq lrq crq krq aac lac cac kac ato lto cto kto akn lkn ckn kkn arp lrp crp krp arc lrc crc krc ail lil cil kil aol lol col kol aeo leo ceo keo aes les ces kes aew lew cew kew apb lpb cpb kpb aco lco cco kco aun_ lun_ cun_ kun_ aNu lNu cNu kNu aPo lPo cPo kPo aDr lDr cDr kDr aPk lPk cPk kPk aOp lOp cOp kOp aWo lWo cWo kWo aNa lNa cNa kNa aPr lPr cPr kPr aMa lMa cMa kMa aPl lPl cPl kPl aAl lAl cAl kAl aSo lSo cSo kSo aSe lSe cSe kSe aLA lLA cLA kLA amI imI lmI cmI kmI amW imW lmW cmW kmW amP imP lmP cmP kmP amE imE lmE cmE kmE amH imH lmH cmH kmH amQ imQ lmQ cmQ kmQ amG imG lmG cmG kmG anI inI lnI cnI knI anL inL lnL cnL knL anA inA lnA cnA knA ngC apB gpB tpB rpB lmB cmB kmB apN gpN tpN rpN lnP cnP knP pg hd po sa mk kc pgD hdD poD saD mkD kcD n1 n2 n3 n4 d1 d2 t1 t2 t3 t4 t5 t6 u1 u2 u7 u8 aRn lRn aOn lOn vL vM vW z_isinstance z_str z_len z_all z_tuple z_dict z_list z_set z_sorted z_range z_min z_max z_int z_enumerate
end K47
open PySem PySem.W PySem.Calls PyProof.Rows
set_option maxRecDepth 100000 in
set_option maxHeartbeats 0 in
theorem PySem.Challenge.cw_countededges_k47_whole_ways_doubled_and_holds : PySem.Challenge.rw_countededges_k47_whole_ways_doubled_and.Holds := by
  w_on; o_law
  refine HandSHeadRun.head_any (r := OpenLaw.row PySem.Challenge.rw_countededges_k47_whole_ways_doubled_and) (q := view (OpenLaw.row PySem.Challenge.rw_countededges_k47_whole_ways_doubled_and).prog [54]) (H := K47.hk0) (ob := K47.ob0) (M := 20000) (loose := K47.loose_) (d := HandSHeadRun.topDef (OpenLaw.row PySem.Challenge.rw_countededges_k47_whole_ways_doubled_and).prog 54) (kwd := []) K47.ob_eq0
    (by kernel_rfl) (fun s => by kernel_rfl) K47.run0 (by kernel_rfl) (by kernel_rfl) (by kernel_rfl) (by rfl) (by first | assumption | decide +kernel) (by decide +kernel) ⟨rfl, rfl, rfl, rfl, rfl, by decide +kernel⟩ ?hw ?hc
  case hw => w_witness2
  case hc =>
    refine L2.walk_ofE (l := PySem.Challenge.rw_countededges_k47_whole_ways_doubled_and) (n := 63) (k := 8) (x := "script") (CX := L2.CX0) rfl (by decide) (by kernel_rfl) ⟨rfl, by decide, by decide⟩ ?F (fun _ _ _ _ z => z)
    intro w mg fa h Y G hmg0
    obtain ⟨K, KX, c⟩ := Y
    have hmg : mg ("law" : PySem.Str) = some (.ref fa) := by
      have e : (HandSHeadRun.topDef (OpenLaw.row PySem.Challenge.rw_countededges_k47_whole_ways_doubled_and).prog 54).name = ("law" : PySem.Str) := by kernel_rfl
      rw [← e]
      exact hmg0
    obtain ⟨fd, hb, hF⟩ := K47.facts0 (P := PySem.Challenge.rw_countededges_k47_whole_ways_doubled_and) (w := w) KX G hmg c
    exact ⟨K, fd, K47.spLaw0 K, KX, hb, fun H a ns hl _ hS => ⟨a, ns, rfl, hS, hl, fun _ => rfl⟩, hF⟩
#print axioms PySem.Challenge.cw_countededges_k47_whole_ways_doubled_and_holds

