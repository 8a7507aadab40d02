import PyProof.Rows.All
import Wide.All
import OpenK.AllK
import Wide.FinOn
import HandS.ForMost
import HandS.Set
import HandS.SetTxt0
import HandS.SetBool
import HandS.SetFor
import HandS.Strs
import HandS.Walk
import HandS.More
import HandS.DictComp
import HandS.Style
import HandS.OwnEq
import HandS.IsInst
import HandS.DeepEq
import HandS.Property
import KE.KEqSeq
import HandS.Small
import PySem.Challenge.RW_countededges_k01_words_and_programs_made
set_option Elab.async false
set_option linter.all false
set_option maxRecDepth 100000
set_option maxHeartbeats 4000000
/-! Sets of texts, with what a walk over them needs: add, sorted. -/
namespace STX
open PySem PySem.Spec PyProof.Rows L2 PySem.Froz
/-- the set at a holds just the texts l, each once; its table can be walked -/
def TxSet (P : Program) (w : World) (h : Heap) (a : Addr) (l : List Str) : Prop :=
  ∃ D : SD, h.get? a = some (sObj "set" D) ∧ TxOk P w D l ∧ l.Nodup ∧ Ris D.2.2.place.toList ∧ (w.params.followText "set-order" = true ∨ D.2.2.led = true)
def ins (k : Str) (l : List Str) : List Str := if k ∈ l then l else k :: l
section
variable {P : Program} {w : World} {A : Around} {E : Value → Shared → Prop} {s : Shared}
theorem tail_walk {ep : Nat} {es : Array (Int × Value)} {t : SetTable} {b : Bool} (r : Ris t.place.toList) (l : w.params.followText "set-order" = true ∨ t.led = true) :
    Ris (tailTx ep es t b).2.2.place.toList ∧ (w.params.followText "set-order" = true ∨ (tailTx ep es t b).2.2.led = true) := by
  unfold tailTx
  split
  · refine ⟨relayAll_ris t es _, l.imp id fun z => ?_⟩
    show (relayAll t es _).2.1.led = true
    rw [relayAll_led]
    exact z
  · exact ⟨r, l⟩
theorem add_walk {h : Int} {v : Value} {D : SD} (r : Ris D.2.2.place.toList) (l : w.params.followText "set-order" = true ∨ D.2.2.led = true) :
    Ris (addTx h v D).2.2.place.toList ∧ (w.params.followText "set-order" = true ∨ (addTx h v D).2.2.led = true) := by
  have r1 := layNew_ris D.2.2 D.1 h v r
  have l1 := layNew_led D.2.2 D.1 h v
  unfold addTx
  refine tail_walk ?_ ?_
  · split
    · exact r1
    · exact r1
  · refine l.imp id fun z => ?_
    split
    · show (layNew D.2.2 D.1 h v).2.1.led = true
      rw [l1]
      exact z
    · rw [l1]
      exact z
/-- a text that is there already -/
theorem add_there {a : Addr} {T : String} {D : SD} {l : List Str} {k : Str} {u : Tok} {Q : Bool → Shared → Prop} (ho : s.heap.get? a = some (sObj T D)) (F : TxOk P w D l) (hk : k ∈ l) (hb : l.length < scanBound)
    (go : Q false s) : wpAny (model P w) A (setAddHashed a (.str k u) (hashStr w k)) Q E s := by
  obtain ⟨es, ep, t⟩ := D
  have fit : t.fits es.size = true := F.fit
  have el : ElemsOf (strKind P w) es.toList := F.el
  have sz : es.size = l.length := F.sz
  obtain ⟨e0, m0, i0⟩ := (F.mem k).mp hk
  unfold setAddHashed setAddHashedIn
  refine wpAny_holding (wpAny_bind (wpAny_setState_of ho (show (sObj T (es, ep, t)).data = .set es ep t from rfl) fit ?_))
  dsimp only
  rw [byScan_of rfl (by omega) el]
  simp only [↓reduceIte]
  unfold setAddByScan
  refine wpAny_bind (wpAny_bind (wpAny_rule (wpAny_bind (wpAny_setScan_of (knd := strKind P w) (k := k) (is_str k u) ho rfl fit el ?_))))
  cases fi : List.findIdx? (fun e => (strKind P w).is k e.2) es.toList with
  | none =>
    have z := List.findIdx?_eq_none_iff.mp fi e0 m0
    rw [i0] at z
    cases z
  | some j =>
    dsimp only
    exact wpAny_pure (wpAny_pure go)
theorem TxSet.setOf {a : Addr} {l : List Str} {h : Heap} (R : TxSet P w h a l) (hb : l.length < scanBound) : h.SetOf (strKind P w) a (fun k => decide (k ∈ l)) l.length := by
  obtain ⟨⟨es, ep, t⟩, ho, F, _⟩ := R
  refine ⟨_, es, ep, t, ho, ⟨rfl, rfl, rfl⟩, rfl, F.el, fun k => ?_, ?_, F.fit, F.sz⟩
  · rw [decide_eq_true_eq]
    exact F.mem k
  · have z : es.size = l.length := F.sz
    omega
/-- found.add(k) -/
theorem tx_add {a : Addr} {l : List Str} {k : Str} {u : Tok} {Q : Value → Shared → Prop} (R : TxSet P w s.heap a l) (room : l.length + 1 < scanBound)
    (go : ∀ h', Heap.SameBut a s.heap h' → TxSet P w h' a (ins k l) → Q .none { s with heap := h', toks := s.toks + 1 }) : wpAny (model P w) A (call (.builtin "set.add") [.ref a, .str k u]) Q E s := by
  have so := R.setOf (by omega)
  obtain ⟨D, ho, F, nd, ri, le⟩ := id R
  refine wpAny_call_entry PySem.F.slot_set_add so.typeIs PySem.F.entry_set_add ?_ (PySem.F.args_set_add_2 (.ref a) (.str k u))
  unfold Builtin.«set.add» Builtin.Frozenset.oneOther
  simp only [List.isEmpty_nil, bind_assoc]
  unfold Builtin.Frozenset.addrOf setAdd
  refine wpAny_bind (wpAny_pure ?_)
  try dsimp only
  refine wpAny_bind (wpAny_pure ?_)
  try dsimp only
  refine wpAny_bind (wpAny_holding (wpAny_bind ((strKind P w).pyHash (is_str k u) ?_)))
  by_cases hk : k ∈ l
  · refine add_there (s := { s with toks := s.toks + 1 }) ho F hk (by omega) ?_
    show wpAny _ _ (ret Value.none) _ _ _
    refine wpAny_pure ⟨_, rfl, go s.heap (Heap.SameBut.refl a s.heap) ?_⟩
    unfold ins
    rw [if_pos hk]
    exact R
  · refine add_x (s := { s with toks := s.toks + 1 }) ho F hk room ?_
    show wpAny _ _ (ret Value.none) _ _ _
    obtain ⟨r2, l2⟩ := add_walk (w := w) (h := hashStr w k) (v := .str k u) ri le
    refine wpAny_pure ⟨_, rfl, go _ (Heap.SameBut.update s.heap a _) ?_⟩
    unfold ins
    rw [if_neg hk]
    exact ⟨_, Froz.get_upd _ ho rfl, add_ok u F, List.nodup_cons.mpr ⟨hk, nd⟩, r2, l2⟩
theorem tx_fresh {h : Heap} : TxSet P w (h.push { cls := .type "set", dict := none, data := .set #[] 0 (.fresh 0 0 (!w.params.followText "set-order")) }) h.objs.size [] := by
  refine ⟨(#[], 0, .fresh 0 0 (!w.params.followText "set-order")), Heap.get?_push_size _ rfl, TxOk.nil rfl, List.nodup_nil, List.Pairwise.nil, ?_⟩
  show _ ∨ (!w.params.followText "set-order") = true
  cases w.params.followText "set-order"
  · exact .inr rfl
  · exact .inl rfl
theorem strs_vals {es : List (Int × Value)} (el : ElemsOf (strKind P w) es) : ∀ {vs : List Value}, (∀ v ∈ vs, ∃ e ∈ es, v = e.2) → ∃ ks : List Str, StrsAre vs ks
  | [], _ => ⟨[], .nil⟩
  | v :: vs, h => by
    obtain ⟨e, he, rfl⟩ := h v List.mem_cons_self
    obtain ⟨⟨k, hk, _⟩, _⟩ := el e he
    obtain ⟨t, ht⟩ := Value.isStrOf_shape (show Value.isStrOf k e.2 = true from hk)
    obtain ⟨ks, hks⟩ := strs_vals el (vs := vs) fun u hu => h u (List.mem_cons_of_mem _ hu)
    rw [ht]
    exact ⟨k :: ks, .cons k t hks⟩
theorem perm_of_nodup : ∀ {l K : List Str}, l.Nodup → (∀ x ∈ l, x ∈ K) → K.length = l.length → K.Perm l
  | [], K, _, _, h => by
    have e : K = [] := List.length_eq_zero_iff.mp h
    rw [e]
  | a :: l, K, n, m, h => by
    obtain ⟨n1, n2⟩ := List.nodup_cons.mp n
    have ha : a ∈ K := m a List.mem_cons_self
    have pe := List.perm_cons_erase ha
    refine pe.trans (List.Perm.cons a (perm_of_nodup n2 (fun x hx => ?_) ?_))
    · have hne : x ≠ a := fun z => n1 (z ▸ hx)
      exact (List.mem_erase_of_ne hne).mpr (m x (List.mem_cons_of_mem _ hx))
    · have z := List.length_erase_of_mem ha
      rw [List.length_cons] at h
      omega
theorem strs_mem {x : Str} {t : Tok} : ∀ {vs : List Value} {ks : List Str}, StrsAre vs ks → Value.str x t ∈ vs → x ∈ ks
  | _, _, .nil, h => nomatch h
  | _, _, .cons k u r, h => by
    rcases List.mem_cons.mp h with e | h
    · injection e with e1 _
      rw [e1]
      exact List.mem_cons_self
    · exact List.mem_cons_of_mem _ (strs_mem r h)
theorem strs_len : ∀ {vs : List Value} {ks : List Str}, StrsAre vs ks → ks.length = vs.length
  | _, _, .nil => rfl
  | _, _, .cons _ _ r => congrArg Nat.succ (strs_len r)
/-- sorted(the set) -/
theorem tx_sorted {a : Addr} {l : List Str} {Q : Value → Shared → Prop} (R : TxSet P w s.heap a l) (hh : A.handled = none) (hb : l.length < 64)
    (go : ∀ s' p (out : Array Value) (c : Nat) (ks : List Str), (∀ b o, s.heap.get? b = some o → s'.heap.get? b = some o) → s'.gens = s.gens → s'.os = s.os → s.heap.objs.size ≤ p →
      s'.heap.get? p = some (seqObj "list" out c) → StrsAre out.toList ks → sortedS ks = true → ks.Perm l → Q (.ref p) s') : wpAny (model P w) A (call (.builtin "sorted") [.ref a]) Q E s := by
  obtain ⟨⟨es, ep, t⟩, ho, F, nd, ri, le⟩ := R
  have sz : es.size = l.length := F.sz
  refine Calls.call_function_entry kind_sorted plain_sorted entry_sorted (args_sorted1 _) ?_
  unfold Builtin.«sorted»
  refine wpAny_bind (m := checkCount "sorted" 1 1 _) (wpAny_pure ?_)
  refine wpAny_bind (collect_set (A := A.in1) hh ⟨_, ho, rfl, rfl⟩ F.fit (by rw [sz]; exact Nat.lt_trans hb (by decide)) ri le fun s1 vs k1 hz g1 o1 pm => ?_)
  obtain ⟨ks0, hks⟩ := strs_vals F.el (vs := vs) fun v hv => by
    obtain ⟨e, he, q⟩ := List.mem_map.mp (pm.mem_iff.mp hv)
    exact ⟨e, he, q.symm⟩
  have vl : vs.length = l.length := by rw [pm.length_eq, List.length_map, Array.length_toList, sz]
  have pk : ks0.Perm l := by
    refine perm_of_nodup nd (fun x hx => ?_) ((strs_len hks).trans vl)
    obtain ⟨e, he, q⟩ := (F.mem x).mp hx
    obtain ⟨u, hu⟩ := Value.isStrOf_shape (show Value.isStrOf x e.2 = true from q)
    exact strs_mem (t := u) hks (pm.mem_iff.mpr (List.mem_map.mpr ⟨e, he, hu⟩))
  refine wpAny_bind (wpAny_newList ?_ (by rw [vl, sizeLine_eq]; omega))
  have hoL : (s1.heap.push (seqObj "list" vs.toArray 0)).get? s1.heap.objs.size = some (seqObj "list" vs.toArray 0) := Heap.get?_push_size _ rfl
  refine wpAny_bind (wpAny_holding (wpAny_call_entry slot_list_sort ⟨_, hoL, rfl⟩ entry_list_sort (list_sort_treeK strKind_oneLt hoL hks.keysOf (fun v1 v2 rest e => keyKind_strs (by rw [← e]; exact hks)) (by rw [vl]; exact hb) fun st' a1 a2 => ⟨_, rfl, ?_⟩) (args_list_sort _)))
  obtain ⟨ss, h1, h2, h3⟩ := sorted_out_str hks a1 a2
  obtain ⟨c, hc⟩ := sortedHeap_at (vs := vs) (out := (arrOf st').map (·.2)) hoL
  refine wpAny_pure ⟨_, rfl, go _ s1.heap.objs.size _ c ss (fun b u e => ?_) g1 o1 hz hc h1 h3 (h2.trans pk)⟩
  have q := k1 b u e
  have hlt := Heap.lt_size q
  rw [sortedHeap_old (Nat.ne_of_lt hlt) (by rw [size_push']; exact Nat.lt_succ_of_lt hlt)]
  exact Heap.get?_push_of_some _ q
end
end STX


set_option Elab.async false
set_option linter.all false
set_option maxRecDepth 100000
set_option maxHeartbeats 4000000
namespace STX
open PySem PySem.Spec PyProof.Rows L2
/-! ### as tracked things -/
def TxO (P : Program) (w : World) (a : Addr) (l : List Str) : HO := .ext fun h => TxSet P w h a l
theorem TxSet.at {P : Program} {w : World} {h h' : Heap} {a : Addr} {l : List Str} (R : TxSet P w h a l) (k : ∀ o, h.get? a = some o → h'.get? a = some o) : TxSet P w h' a l := by
  obtain ⟨D, ho, r⟩ := R
  exact ⟨D, k _ ho, r⟩
theorem txo_new {P : Program} {w : World} {H : Hp} {h : Heap} {a : Addr} {l : List Str} (R : TxSet P w h a l) : ObjOk P w H h a (TxO P w a l) := by
  have ⟨D, ho, _⟩ := R
  exact ⟨R, ⟨_, ho⟩, fun h1 h2 p k => TxSet.at p k⟩
section
variable {X : Cx}
theorem txo_get {pins : List (Addr × Obj)} {σ : L2.St} {H : Hp} {s : Shared} {a : Addr} {l : List Str} (I : Inv X pins σ H s) (ha : H a = some (TxO X.prog X.w a l)) : TxSet X.prog X.w s.heap a l := (I.hok a _ ha).1
theorem txo_add {pins : List (Addr × Obj)} {σ : L2.St} {H : Hp} {s : Shared} {E : Value → Shared → Prop} {D : Addr} {l : List Str} {k : Str} {u : Value} {Q : Value → Shared → Prop} (I : Inv X pins σ H s) (hD : H D = some (TxO X.prog X.w D l)) (room : l.length + 1 < scanBound) (ru : RelV (.str k) u)
    (go : ∀ s', Inv X pins σ (upd H D (TxO X.prog X.w D (ins k l))) s' → Q .none s') : wpAny (model X.prog X.w) X.A (call (.builtin "set.add") [.ref D, u]) Q E s := by
  obtain ⟨t, rfl⟩ : ∃ t, u = Value.str k t := ru
  refine tx_add (txo_get I hD) room fun h' sb new => go _ ?_
  have he : ∃ u, h'.get? D = some u := by
    have ⟨_, ho, _⟩ := new
    exact ⟨_, ho⟩
  exact I.write (e := D) (t' := s.toks + 1) (by rw [hD]; trivial) (.inl rfl) (fun b u hb hu => (sb.2 b hb).trans hu) he (txo_new new)
/-- sorted(a set of texts) -/
def rSortedTx (P : Program) (w : World) : List V → Hp → VK → Prop := fun vs H Q => ∃ (a : Addr) (l : List Str), vs = [V.ref a] ∧ H a = some (TxO P w a l) ∧ l.length < 64 ∧
  ∀ (ys : List Str) (p : Addr), ys.Perm l → sortedS ys = true → H p = none → Q (.ref p) (upd H p (.lst (ys.map V.str)))
theorem cr_sortedTx (hc : X.calm = true) : CallR X (.builtin "sorted") (rSortedTx X.prog X.w) := by
  intro pins s σ H vs us Q I r h
  obtain ⟨a, l, rfl, ha, h64, q⟩ := h
  rw [Vals.ref1 r]
  refine tx_sorted (txo_get I ha) (I.ok.hd hc) h64 fun s' p out c ks k g o hp hg hi hs hm => ?_
  have hlen : (ks.map V.str).length ≤ sizeLine := by
    rw [List.length_map, hm.length_eq]
    exact small64 h64
  have hn : H p = none := I.hok.fresh hp
  exact ⟨.ref p, upd H p (.lst (ks.map V.str)), I.call' (ch := []) o (Un.laid k hp hn) (I.hok.laid k hp ⟨hlen, out.toList, c, vals_of_strs hi, hg⟩) (by rw [g]; exact I.bare) (fun _ z => nomatch z), rfl, q ks p hm hs hn⟩
end
/-! ### {elt for t0 in i0 for t1 in i1} -/
section
variable {prog : Program} {w : World} {A : Around} {R : Result → Shared → Prop} {s : Shared} {elt t0 i0 t1 i1 : Expr} {ifs0 ifs1 : List Expr} {scope : Scope} {pos : Pos} {it acc : Value} {env : Env}
abbrev sc2 (elt t0 i0 : Expr) (ifs0 : List Expr) (t1 i1 : Expr) (ifs1 : List Expr) (scope : Scope) (pos : Pos) : Expr := .SetComp elt [⟨t0, i0, ifs0, 0⟩, ⟨t1, i1, ifs1, 0⟩] scope pos
theorem turn_out : compTurn (sc2 elt t0 i0 ifs0 t1 i1 ifs1 scope pos) 0 it acc env = (do
      standAt i0.pos
      match ← pyNext it with
      | none => pure (.done .next)
      | some v =>
        letOwnedTupleGo t0 it v
        assign t0 env v
        let mut ok := true
        for c in ifs0 do
          if ok then ok ← isTrue c env (eval c env)
        if ok then
          let x ← eval i1 env
          standAt i1.pos
          let x ← foldedSetIterable i1 env x
          let _ ← runOwn (.compStart (sc2 elt t0 i0 ifs0 t1 i1 ifs1 scope pos) 1 (← holding [x] (pyIter x)) acc env) env
        again (.compLoop (sc2 elt t0 i0 ifs0 t1 i1 ifs1 scope pos) 0 it acc env)) := by rfl
theorem turn_in : compTurn (sc2 elt t0 i0 ifs0 t1 i1 ifs1 scope pos) 1 it acc env = (do
      standAt i1.pos
      match ← pyNext it with
      | none => pure (.done .next)
      | some v =>
        letOwnedTupleGo t1 it v
        assign t1 env v
        let mut ok := true
        for c in ifs1 do
          if ok then ok ← isTrue c env (eval c env)
        if ok then
          (do let v ← eval elt env; standAt elt.pos; let _ ← call (.builtin "set.add") [acc, v])
        again (.compLoop (sc2 elt t0 i0 ifs0 t1 i1 ifs1 scope pos) 1 it acc env)) := by rfl
abbrev tests (ifs : List Expr) (env : Env) : Sem Bool := forIn ifs true fun c r => if r = true then do let ok ← isTrue c env (eval c env); pure (ForInStep.yield ok) else pure (ForInStep.yield r)
abbrev nb (prog : Program) (w : World) (A : Around) (env : Env) (R : Result → Shared → Prop) : Value → Shared → Prop := notedBy (model prog w) A env fun e s' => R (.error e) s'
theorem loop_out (hs : ∀ x, foldedSetIterable i1 env x = pure x) (G : Nat → Shared → Prop)
    (turn : ∀ n s, G n s → wpAny (model prog w) A (pyNext it) (fun r s1 => match r with
      | none => R (.ok .next) s1
      | some v => wpAny (model prog w) A (letOwnedTupleGo t0 it v) (fun _ s2 => wpAny (model prog w) A (assign t0 env v) (fun _ s3 =>
          wpAny (model prog w) A (tests ifs0 env) (fun ok s4 =>
            if ok = true then wpAny (model prog w) A (eval i1 env) (fun x s5 => wpAny (model prog w) A (pyIter x) (fun it1 s6 =>
              codeAny (model prog w) A (.compStart (sc2 elt t0 i0 ifs0 t1 i1 ifs1 scope pos) 1 it1 acc env) (fun r s' => match r with
                | .ok _ => ∃ m, m < n ∧ G m s'
                | .error _ => False) s6) (nb prog w A env R) s5) (nb prog w A env R) s4
            else ∃ m, m < n ∧ G m s4) (nb prog w A env R) s3) (nb prog w A env R) s2) (nb prog w A env R) s1) (nb prog w A env R) s)
    (n : Nat) (h : G n s) : codeAny (model prog w) A (.compLoop (sc2 elt t0 i0 ifs0 t1 i1 ifs1 scope pos) 0 it acc env) R s := by
  refine codeAny_loop rfl G (fun n s hG => ?_) n h
  show wpAny _ A ((compTurn (sc2 elt t0 i0 ifs0 t1 i1 ifs1 scope pos) 0 it acc env).onRaise (fun x => do noteFrame x env; theTreesLotGoes x)) _ _ s
  refine wpAny_noted ?_
  rw [turn_out]
  refine wpAny_bind (wpAny_standAt (wpAny_bind (wpAny_mono (turn n s hG) (fun r s1 h1 => ?_) fun _ _ z => z)))
  cases r with
  | none => exact wpAny_pure h1
  | some v =>
    refine wpAny_bind (wpAny_mono h1 (fun _ s2 h2 => wpAny_bind (wpAny_mono h2 (fun _ s3 h3 => wpAny_bind (wpAny_mono h3 (fun ok s4 h4 => ?_) fun _ _ z => z)) fun _ _ z => z)) fun _ _ z => z)
    cases ok with
    | false => exact wpAny_pure ⟨rfl, h4⟩
    | true =>
      refine wpAny_bind (wpAny_mono h4 (fun x s5 h5 => ?_) fun _ _ z => z)
      refine wpAny_bind (wpAny_standAt (wpAny_bind (wpAny_of_eq (hs x) (wpAny_bind (wpAny_holding (wpAny_mono h5 (fun it1 s6 h6 => ?_) fun _ _ z => z))))))
      refine wpAny_bind (wpAny_runOwn ?_)
      rw [Around.mark_none]
      refine codeAny_mono h6 fun r s' hr => ?_
      cases r with
      | ok f =>
        first
          | exact wpAny_pure ⟨rfl, hr⟩
          | exact wpAny_bind (wpAny_pure (wpAny_pure ⟨rfl, hr⟩))
      | error e => exact hr.elim
theorem loop_in (G : Nat → Shared → Prop)
    (turn : ∀ n s, G n s → wpAny (model prog w) A (pyNext it) (fun r s1 => match r with
      | none => R (.ok .next) s1
      | some v => wpAny (model prog w) A (letOwnedTupleGo t1 it v) (fun _ s2 => wpAny (model prog w) A (assign t1 env v) (fun _ s3 =>
          wpAny (model prog w) A (tests ifs1 env) (fun ok s4 =>
            if ok = true then wpAny (model prog w) A (eval elt env) (fun x s5 => wpAny (model prog w) A (call (.builtin "set.add") [acc, x]) (fun _ s6 => ∃ m, m < n ∧ G m s6) (nb prog w A env R) s5) (nb prog w A env R) s4
            else ∃ m, m < n ∧ G m s4) (nb prog w A env R) s3) (nb prog w A env R) s2) (nb prog w A env R) s1) (nb prog w A env R) s)
    (n : Nat) (h : G n s) : codeAny (model prog w) A (.compLoop (sc2 elt t0 i0 ifs0 t1 i1 ifs1 scope pos) 1 it acc env) R s := by
  refine codeAny_loop rfl G (fun n s hG => ?_) n h
  show wpAny _ A ((compTurn (sc2 elt t0 i0 ifs0 t1 i1 ifs1 scope pos) 1 it acc env).onRaise (fun x => do noteFrame x env; theTreesLotGoes x)) _ _ s
  refine wpAny_noted ?_
  rw [turn_in]
  refine wpAny_bind (wpAny_standAt (wpAny_bind (wpAny_mono (turn n s hG) (fun r s1 h1 => ?_) fun _ _ z => z)))
  cases r with
  | none => exact wpAny_pure h1
  | some v =>
    refine wpAny_bind (wpAny_mono h1 (fun _ s2 h2 => wpAny_bind (wpAny_mono h2 (fun _ s3 h3 => wpAny_bind (wpAny_mono h3 (fun ok s4 h4 => ?_) fun _ _ z => z)) fun _ _ z => z)) fun _ _ z => z)
    cases ok with
    | false => exact wpAny_pure ⟨rfl, h4⟩
    | true => exact wpAny_bind (wpAny_bind (wpAny_mono h4 (fun x s5 h5 => wpAny_bind (wpAny_standAt (wpAny_bind (wpAny_mono h5 (fun _ s6 h6 => wpAny_pure (wpAny_pure ⟨rfl, h6⟩)) fun _ _ z => z)))) fun _ _ z => z))
theorem start_in (h0 : codeAny (model prog w) A (.compLoop (sc2 elt t0 i0 ifs0 t1 i1 ifs1 scope pos) 1 it acc env) R s)
    (h : wpAny (model prog w) A (pyIter it) (fun it' s' => codeAny (model prog w) A (.compLoop (sc2 elt t0 i0 ifs0 t1 i1 ifs1 scope pos) 1 it' acc env) R s') (nb prog w A env R) s) :
    codeAny (model prog w) A (.compStart (sc2 elt t0 i0 ifs0 t1 i1 ifs1 scope pos) 1 it acc env) R s := by
  refine codeAny_of_tree ?_
  show wpAny _ _ ((compStart (sc2 elt t0 i0 ifs0 t1 i1 ifs1 scope pos) 1 it acc env).onRaise (fun x => do noteFrame x env; standAt theWindowsPlace)) _ _ s
  refine wpAny_notedAt ?_
  unfold compStart
  show wpAny _ _ (ask >>= _) _ _ s
  refine wpAny_bind (wpAny_askSetting (wpAny_ite ?_))
  split
  · first
      | exact wpAny_bind (wpAny_pure (wpAny_pure (And.intro rfl h0)))
      | exact wpAny_pure (And.intro rfl h0)
  · first
      | exact wpAny_bind (wpAny_rule (wpAny_bind (wpAny_standAt (wpAny_bind (wpAny_mono h (fun it' s' z => wpAny_pure (And.intro rfl z)) fun _ _ x => x)))))
      | (refine wpAny_bind (wpAny_rule ?_); show wpAny _ _ (standAt i1.pos >>= _) _ _ s; exact wpAny_bind (wpAny_standAt (wpAny_bind (wpAny_mono h (fun it' s' z => wpAny_pure (And.intro rfl z)) fun _ _ x => x))))
end
section
variable {X : Cx}
/-- its reading: D the new set; behind the first clause's store the second source's own loop, from which Nx is reached -/
def tSc2 (P : Program) (w : World) (wi : TI) (g : TG) (tt : TT) (wi1 : TI) (g1 : TG) (tt1 : TT) (te : TE) (vs vs1 : List Nat) : TE := fun σ H Q => wi σ H fun J H1 => ∀ D, H1 D = none → ∃ W : Nat → Nat → Hp → Prop, (∃ m, W 0 m (upd H1 D (TxO P w D []))) ∧ ∀ i m H, W i m H →
  (J.stop i H ∧ Q (.ref D) H) ∨ (J.go i H ∧ ∃ Nx : Hp → Prop, (∀ H', Nx H' → ∃ m', m' < m ∧ W (i + 1) m' H') ∧ ∀ x H', J.yld i H x H' → g x (wipe σ vs) H' fun σ2 H2 => wipe σ2 vs = wipe σ vs ∧ tt σ2 H2 fun b H3 =>
    if b = true then wi1 σ2 H3 fun J1 H4 => ∃ W1 : Nat → Nat → Hp → Prop, (∃ m, W1 0 m H4) ∧ ∀ j k H, W1 j k H →
      (J1.stop j H ∧ Nx H) ∨ (J1.go j H ∧ ∃ Nx1 : Hp → Prop, (∀ H', Nx1 H' → ∃ k', k' < k ∧ W1 (j + 1) k' H') ∧ ∀ x H', J1.yld j H x H' → g1 x (wipe σ2 vs1) H' fun σ3 H5 => wipe σ3 vs1 = wipe σ2 vs1 ∧ tt1 σ3 H5 fun b H6 =>
        if b = true then te σ3 H6 fun y H7 => ∃ (k : Str) (l : List Str), y = .str k ∧ H7 D = some (TxO P w D l) ∧ l.length + 1 < scanBound ∧ Nx1 (upd H7 D (TxO P w D (ins k l))) else Nx1 H6)
    else Nx H3)
abbrev AllB (X : Cx) (scope : Scope) (F : Cx → Prop) : Prop := ∀ (s : Shared) (H : Hp) (C : Addr) (cl : List (Str × Addr)) (fp : List Addr), F (X.blk s H scope (compEnvC scope cl C X.env) fp)
theorem pe_sc2 {elt tg iter tg1 iter1 : Expr} {ifs ifs1 : List Expr} {scope : Scope} {own : List (Str × Nat)} {vs1 : List Nat} {pos : Pos} {wi wi1 : TI} {g g1 : TG} {tt tt1 : TT} {te : TE}
    (hc : X.calm = true) (hN : X.N.Nodup) (hi : PI X tg iter wi) (ok : BlkOk X.N X.env.scope scope own) (hv : ∀ i ∈ vs1, i ∈ own.map (·.2))
    (hg : AllB X scope fun Y => PG Y tg g) (ht : AllB X scope fun Y => PTs Y ifs tt) (hi1 : AllB X scope fun Y => PI Y tg1 iter1 wi1) (hg1 : AllB X scope fun Y => PG Y tg1 g1) (ht1 : AllB X scope fun Y => PTs Y ifs1 tt1) (he : AllB X scope fun Y => PE Y elt te)
    (hs : ∀ x, foldedSetIterable iter X.env x = pure x := by intro _; rfl) (hs1 : ∀ env x, foldedSetIterable iter1 env x = pure x := by intro _ _; rfl) :
    PE X (sc2 elt tg iter ifs tg1 iter1 ifs1 scope pos) (tSc2 X.prog X.w wi g tt wi1 g1 tt1 te (own.map (·.2)) vs1) := by
  refine ⟨fun pins s σ H Q I h => ?_⟩
  rw [PpSet.eval_SetComp]
  have cells : ∀ y ∈ scope.names, y.2 = .free → ∃ c, X.env.cells.lookup y.1 = some c := fun y hy e => (ok.free y hy e).elim (fun k => I.ok.has _ (.inl k)) fun k => I.ok.has _ (.inr k)
  refine wpAny_comprehension_free (use := none) rfl hs (closure_ok cells) ok.kind (fun y hy e => by rw [ok.uniq y hy, e]) (thn (hi.run pins s σ H _ I h) fun xv s1 hx => thn hx fun itv s2 z2 => ?_)
  obtain ⟨it, fp, tn, J, H2, e, I2, T, st2, f2, q⟩ := z2
  subst e
  refine PpSet.newSet_ok (newEnv_comp ?_)
  generalize eD : s2.heap.objs.size = D
  have nD : H2 D = none := I2.hok.fresh (Nat.le_of_eq eD)
  obtain ⟨W, ⟨m0, w0⟩, turn⟩ := q D nD
  generalize e3 : ({ s2 with heap := s2.heap.push { cls := .type "set", dict := none, data := .set #[] 0 (.fresh 0 0 (!X.w.params.followText "set-order")) } } : Shared) = s3
  have p3 : s3.heap = s2.heap.push { cls := .type "set", dict := none, data := .set #[] 0 (.fresh 0 0 (!X.w.params.followText "set-order")) } := by rw [← e3]
  have I3 : Inv X pins σ (upd H2 D (TxO X.prog X.w D [])) s3 := by
    rw [← e3]
    refine I2.laid (t' := s2.toks) (fun b o z => Heap.get?_push_of_some _ z) (Nat.le_of_eq eD) ?_
    rw [← eD]
    exact txo_new tx_fresh
  have f3 : ∀ b ∈ fp, FpOk X pins (upd H2 D (TxO X.prog X.w D [])) b ∧ b < s3.heap.objs.size := fun b hb => by
    obtain ⟨o, ho, _⟩ := T.obj _ _ st2 b hb
    have lt := Heap.lt_size ho
    refine ⟨⟨?_, (f2 b hb).2⟩, by rw [p3, Heap.size_push]; exact Nat.lt_succ_of_lt lt⟩
    rw [upd_ne (by rw [← eD]; exact Nat.ne_of_lt lt)]
    exact (f2 b hb).1
  have st3 : tn 0 s3.heap := T.keep _ _ _ st2 fun b _ o z => by rw [p3]; exact Heap.get?_push_of_some _ z
  have I4 := block_start I3 ok hN f3
  have a1 := hg s3 (upd H2 D (TxO X.prog X.w D [])) s3.heap.objs.size (cellsFrom (s3.heap.objs.size + 1) scope.names (cloFrom X.env.cells scope.names [])) fp
  have a2 := ht s3 (upd H2 D (TxO X.prog X.w D [])) s3.heap.objs.size (cellsFrom (s3.heap.objs.size + 1) scope.names (cloFrom X.env.cells scope.names [])) fp
  have a3 := he s3 (upd H2 D (TxO X.prog X.w D [])) s3.heap.objs.size (cellsFrom (s3.heap.objs.size + 1) scope.names (cloFrom X.env.cells scope.names [])) fp
  have a4 := hi1 s3 (upd H2 D (TxO X.prog X.w D [])) s3.heap.objs.size (cellsFrom (s3.heap.objs.size + 1) scope.names (cloFrom X.env.cells scope.names [])) fp
  have a5 := hg1 s3 (upd H2 D (TxO X.prog X.w D [])) s3.heap.objs.size (cellsFrom (s3.heap.objs.size + 1) scope.names (cloFrom X.env.cells scope.names [])) fp
  have a6 := ht1 s3 (upd H2 D (TxO X.prog X.w D [])) s3.heap.objs.size (cellsFrom (s3.heap.objs.size + 1) scope.names (cloFrom X.env.cells scope.names [])) fp
  have nfp : ∀ b ∈ fp, (upd H2 D (TxO X.prog X.w D [])) b = none := fun b hb => (f3 b hb).1.1
  show codeAny _ _ (.compStart (sc2 elt tg iter ifs tg1 iter1 ifs1 scope pos) 0 (.ref it) (.ref D) (compEnvC scope (cellsFrom (s3.heap.objs.size + 1) scope.names (cloFrom X.env.cells scope.names [])) s3.heap.objs.size X.env)) (compPost (model X.prog X.w) X.A X.xe none (EP X pins σ Q) (.ref D) s3.heap.objs.size) { s3 with heap := pushCells (s3.heap.push { cls := .type "dict", data := .dict #[] }) scope.names }
  generalize ece : compEnvC scope (cellsFrom (s3.heap.objs.size + 1) scope.names (cloFrom X.env.cells scope.names [])) s3.heap.objs.size X.env = ce at I4 a1 a2 a3 a4 a5 a6 ⊢
  have cL : ce.locals = s3.heap.objs.size := by
    subst ece
    rfl
  generalize upd H2 D (TxO X.prog X.w D []) = H3 at I3 I4 a1 a2 a3 a4 a5 a6 w0 nfp f3
  generalize e4 : ({ s3 with heap := pushCells (s3.heap.push { cls := .type "dict", data := .dict #[] }) scope.names } : Shared) = s4 at I4 ⊢
  have st4 : tn 0 s4.heap := T.keep _ _ _ st3 fun b _ o z => by rw [← e4]; exact pushCells_keeps _ _ _ _ (Heap.get?_push_of_some _ z)
  have hold : ∀ {σ' : L2.St} {H' : Hp} {s' : Shared}, Inv (X.blk s3 H3 scope ce fp) [] σ' H' s' → (∀ b ∈ fp, H' b = none) → ∀ b ∈ fp, FpOk (X.blk s3 H3 scope ce fp) [] H' b := fun {σ' H' s'} I' hn b hb =>
    ⟨hn b hb, (I'.ok.exf b hb).1, I'.ok.exfs b hb, .inl hb, fun x c z => (I'.ok.exf b hb).2 x c z, fun p hp => absurd (show p ∈ ([] : List (Addr × Obj)) ++ [] from hp) (by simp)⟩
  have main : codeAny (model X.prog X.w) X.A (.compLoop (sc2 elt tg iter ifs tg1 iter1 ifs1 scope pos) 0 (.ref it) (.ref D) ce) (compPost (model X.prog X.w) X.A X.xe none (EP X pins σ Q) (.ref D) s3.heap.objs.size) s4 := by
    refine loop_out (hs1 ce) (fun n s' => ∃ i H', Inv (X.blk s3 H3 scope ce fp) [] (wipe σ (own.map (·.2))) H' s' ∧ tn i s'.heap ∧ (∀ b ∈ fp, H' b = none) ∧ W i n H') ?_ m0 ⟨0, H3, I4, st4, nfp, w0⟩
    rintro n s5 ⟨i, H5, I5, st5, n5, w5⟩
    rcases turn i n H5 w5 with ⟨stop, qq⟩ | ⟨go, Nx, hNx, step⟩
    · refine thnF (T.done (X.blk s3 H3 scope ce fp) rfl rfl rfl hc i [] s5 _ H5 (fun _ _ => False) I5 (hold I5 n5) st5 stop) fun r s6 ⟨hr, I6⟩ => ?_
      subst hr
      have I7 : Inv X pins σ H5 s6 := I3.call' (ch := fp) I6.os I6.base I6.hok I6.bare fun b hb => ⟨(f3 b hb).1.2.2.2.1, (f3 b hb).1.2.1, (f3 b hb).1.2.2.2.2.1, (f3 b hb).1.2.2.2.2.2⟩
      have nC : H5 s3.heap.objs.size = none := by
        have z : H5 ce.locals = none := I6.free
        rw [cL] at z
        exact z
      obtain ⟨m, hn, _⟩ := I6.loc
      have hn : s6.heap.Ns ce.locals m := hn
      rw [cL] at hn
      obtain ⟨g0, g1', g2, g3, g4, g5⟩ := I3.fpOk (Nat.le_refl _) nC
      exact ⟨m, hn, fun h'' sb => ⟨.ref D, H5, I7.turned (t' := s6.toks) (fun b o hb z => (sb.2 b hb).trans z) g0 g1' g3 g4 g5, rfl, qq⟩⟩
    · refine thnF (T.item (X.blk s3 H3 scope ce fp) rfl rfl rfl hc i [] s5 _ H5 (fun _ _ => False) I5 (hold I5 n5) st5 go) fun r s6 ⟨u, hr, h6⟩ => ?_
      subst hr
      refine thnF h6 fun _ s7 ⟨x, H7, I7, r7, y7, st7, n7⟩ => ?_
      refine thnF (a1.run _ s7 _ H7 x u _ (I7.pinned (hold I7 n7) (T.obj _ _ st7)) r7 (step x H7 y7)) fun _ s8 ⟨σ8, H8, I8, hw8, q8⟩ => ?_
      refine thnF (a2.run _ s8 σ8 H8 _ I8 q8) fun b s9 ⟨H9, I9, q9⟩ => ?_
      have back : ∀ {σ9 : L2.St} {s' : Shared} {H' : Hp}, Inv (X.blk s3 H3 scope ce fp) ([] ++ pinsAt fp s7.heap) σ9 H' s' → (wipe σ (own.map (·.2))).length = σ9.length → (∀ (j : Nat) v, (wipe σ (own.map (·.2)))[j]? = some (some v) → σ9[j]? = some (some v)) → Nx H' →
          ∃ m, m < n ∧ ∃ i H', Inv (X.blk s3 H3 scope ce fp) [] (wipe σ (own.map (·.2))) H' s' ∧ tn i s'.heap ∧ (∀ b ∈ fp, H' b = none) ∧ W i m H' := fun {σ9 s' H'} I' hl hk nx => by
        obtain ⟨m', hm, w'⟩ := hNx H' nx
        have pin' : ∀ b ∈ fp, ∀ o, s7.heap.get? b = some o → s'.heap.get? b = some o ∧ H' b = none := fun b hb o z =>
          ⟨(I'.pin (b, o) (List.mem_append_right _ (List.mem_append_right _ (mem_pinsAt hb z)))).1, (I'.pin (b, o) (List.mem_append_right _ (List.mem_append_right _ (mem_pinsAt hb z)))).2.1⟩
        refine ⟨m', hm, i + 1, H', (I'.unpinned (pins := [])).weak hl hk, T.keep _ _ _ st7 fun b hb o z => (pin' b hb o z).1, fun b hb => ?_, w'⟩
        obtain ⟨o, z, _⟩ := T.obj _ _ st7 b hb
        exact (pin' b hb o z).2
      have l8 : (wipe σ (own.map (·.2))).length = σ8.length := by rw [← hw8, wipe_length]
      have k8 : ∀ (j : Nat) v, (wipe σ (own.map (·.2)))[j]? = some (some v) → σ8[j]? = some (some v) ∧ j ∉ own.map (·.2) := fun j v z => by
        rw [← hw8] at z
        exact wipe_some z
      cases b with
      | false =>
        simp only [Bool.false_eq_true, if_false] at q9 ⊢
        exact back I9 l8 (fun j v z => (k8 j v z).1) q9
      | true =>
        simp only [if_true] at q9 ⊢
        refine thnF (a4.run _ s9 σ8 H9 _ I9 q9) fun xv s10 hx => thnF hx fun itv s11 z11 => ?_
        obtain ⟨it1, fp1, tn1, J1, H11, e11, I11, T1, st11, f11, W1, ⟨m1, w1⟩, turn1⟩ := z11
        subst e11
        have hold1 : ∀ {H' : Hp}, (∀ b ∈ fp1, H' b = none) → ∀ b ∈ fp1, FpOk (X.blk s3 H3 scope ce fp) ([] ++ pinsAt fp s7.heap) H' b := fun hn b hb => ⟨hn b hb, (f11 b hb).2⟩
        have inner : codeAny (model X.prog X.w) X.A (.compLoop (sc2 elt tg iter ifs tg1 iter1 ifs1 scope pos) 1 (.ref it1) (.ref D) ce)
            (fun r s' => match r with
              | .ok _ => ∃ m, m < n ∧ ∃ i H', Inv (X.blk s3 H3 scope ce fp) [] (wipe σ (own.map (·.2))) H' s' ∧ tn i s'.heap ∧ (∀ b ∈ fp, H' b = none) ∧ W i m H'
              | .error _ => False) s11 := by
          refine loop_in (fun k s' => ∃ j H', Inv (X.blk s3 H3 scope ce fp) ([] ++ pinsAt fp s7.heap) (wipe σ8 vs1) H' s' ∧ tn1 j s'.heap ∧ (∀ b ∈ fp1, H' b = none) ∧ W1 j k H') ?_ m1 ⟨0, H11, I11.weak (wipe_length _ _) (fun j v z => (wipe_some z).1), st11, fun b hb => (f11 b hb).1, w1⟩
          rintro k s12 ⟨j, H12, I12, st12, n12, w12⟩
          rcases turn1 j k H12 w12 with ⟨stop1, nx1⟩ | ⟨go1, Nx1, hNx1, step1⟩
          · refine thnF (T1.done (X.blk s3 H3 scope ce fp) rfl rfl rfl hc j _ s12 (wipe σ8 vs1) H12 (fun _ _ => False) I12 (hold1 n12) st12 stop1) fun r s13 ⟨hr, I13⟩ => ?_
            subst hr
            refine back I13 (l8.trans (wipe_length σ8 vs1).symm) (fun j v z => ?_) nx1
            rw [wipe_out fun y => (k8 j v z).2 (hv j y)]
            exact (k8 j v z).1
          · refine thnF (T1.item (X.blk s3 H3 scope ce fp) rfl rfl rfl hc j _ s12 (wipe σ8 vs1) H12 (fun _ _ => False) I12 (hold1 n12) st12 go1) fun r s13 ⟨u1, hr, h13⟩ => ?_
            subst hr
            refine thnF h13 fun _ s14 ⟨x1, H14, I14, r14, y14, st14, n14⟩ => ?_
            refine thnF (a5.run _ s14 (wipe σ8 vs1) H14 x1 u1 _ (I14.pinned (hold1 n14) (T1.obj _ _ st14)) r14 (step1 x1 H14 y14)) fun _ s15 ⟨σ15, H15, I15, hw15, q15⟩ => ?_
            refine thnF (a6.run _ s15 σ15 H15 _ I15 q15) fun b1 s16 ⟨H16, I16, q16⟩ => ?_
            have back1 : ∀ {s' : Shared} {H' : Hp}, Inv (X.blk s3 H3 scope ce fp) (([] ++ pinsAt fp s7.heap) ++ pinsAt fp1 s14.heap) σ15 H' s' → Nx1 H' → ∃ m, m < k ∧ ∃ j H', Inv (X.blk s3 H3 scope ce fp) ([] ++ pinsAt fp s7.heap) (wipe σ8 vs1) H' s' ∧ tn1 j s'.heap ∧ (∀ b ∈ fp1, H' b = none) ∧ W1 j m H' := fun {s' H'} I' nx => by
              obtain ⟨m', hm, w'⟩ := hNx1 H' nx
              have pin' : ∀ b ∈ fp1, ∀ o, s14.heap.get? b = some o → s'.heap.get? b = some o ∧ H' b = none := fun b hb o z =>
                ⟨(I'.pin (b, o) (List.mem_append_right _ (List.mem_append_right _ (mem_pinsAt hb z)))).1, (I'.pin (b, o) (List.mem_append_right _ (List.mem_append_right _ (mem_pinsAt hb z)))).2.1⟩
              refine ⟨m', hm, j + 1, H', I'.unpinned.weak (by rw [← hw15, wipe_length]) (fun j v z => by rw [← hw15] at z; exact (wipe_some z).1), T1.keep _ _ _ st14 fun b hb o z => (pin' b hb o z).1, fun b hb => ?_, w'⟩
              obtain ⟨o, z, _⟩ := T1.obj _ _ st14 b hb
              exact (pin' b hb o z).2
            cases b1 with
            | false =>
              simp only [Bool.false_eq_true, if_false] at q16 ⊢
              exact back1 I16 q16
            | true =>
              simp only [if_true] at q16 ⊢
              refine thnF (a3.run _ s16 σ15 H16 _ I16 q16) fun z s17 ⟨yv, H17, I17, r17, kk, ll, ey, hD17, hz17, nx⟩ => ?_
              subst ey
              exact txo_add (X := X.blk s3 H3 scope ce fp) I17 hD17 hz17 r17 fun s18 I18 => back1 I18 nx
        exact start_in inner (T1.self X.A 0 _ _ _ st11 inner)
  exact PpSet.codeAny_compStart_set main (T.self X.A 0 _ _ _ st4 main)
end
end STX


set_option Elab.async false
set_option linter.all false
set_option maxRecDepth 100000
set_option maxHeartbeats 4000000
/-! set(a list of texts), and its len. -/
namespace STX
open PySem PySem.Spec PyProof.Rows L2 PySem.Froz
def insAll : List Str → List Str → List Str
  | [], l => l
  | k :: ws, l => insAll ws (ins k l)
theorem insAll_snoc : ∀ (ws : List Str) (k : Str) (l : List Str), insAll (ws ++ [k]) l = ins k (insAll ws l)
  | [], _, _ => rfl
  | _ :: ws, k, l => insAll_snoc ws k _
theorem ins_len (k : Str) (l : List Str) : (ins k l).length ≤ l.length + 1 := by
  unfold ins
  split
  · omega
  · exact Nat.le_refl _
theorem insAll_len : ∀ (ws l : List Str), (insAll ws l).length ≤ l.length + ws.length
  | [], l => Nat.le_refl _
  | k :: ws, l => by
    have z := insAll_len ws (ins k l)
    have y := ins_len k l
    show (insAll ws (ins k l)).length ≤ l.length + (ws.length + 1)
    omega
theorem ins_mem {k x : Str} {l : List Str} : x ∈ ins k l ↔ x = k ∨ x ∈ l := by
  unfold ins
  split
  · rename_i h
    exact ⟨.inr, fun z => z.elim (fun e => e ▸ h) id⟩
  · exact List.mem_cons
theorem insAll_mem : ∀ {ws l : List Str} {x : Str}, x ∈ insAll ws l ↔ x ∈ ws ∨ x ∈ l
  | [], l, x => ⟨.inr, fun z => z.elim (fun e => nomatch e) id⟩
  | k :: ws, l, x => by
    show x ∈ insAll ws (ins k l) ↔ _
    rw [insAll_mem, ins_mem, List.mem_cons]
    constructor
    · rintro (h | h | h)
      · exact .inl (.inr h)
      · exact .inl (.inl h)
      · exact .inr h
    · rintro ((h | h) | h)
      · exact .inr (.inl h)
      · exact .inl h
      · exact .inr (.inr h)
theorem insAll_full : ∀ {ws l : List Str}, (insAll ws l).length = l.length + ws.length → ws.Nodup ∧ ∀ x ∈ ws, x ∉ l
  | [], l, _ => ⟨List.nodup_nil, fun x z => nomatch z⟩
  | k :: ws, l, h => by
    have h2 : (insAll ws (ins k l)).length = l.length + (ws.length + 1) := h
    have z := insAll_len ws (ins k l)
    have y := ins_len k l
    have e : (ins k l).length = l.length + 1 := by omega
    have nk : k ∉ l := fun m => by
      unfold ins at e
      rw [if_pos m] at e
      omega
    obtain ⟨a, b⟩ := insAll_full (ws := ws) (l := ins k l) (by omega)
    refine ⟨List.nodup_cons.mpr ⟨fun m => b k m (ins_mem.mpr (.inl rfl)), a⟩, fun x hx => ?_⟩
    rcases List.mem_cons.mp hx with e | hx
    · rw [e]; exact nk
    · exact fun m => b x hx (ins_mem.mpr (.inr m))
theorem insAll_nodup : ∀ {ws l : List Str}, ws.Nodup → (∀ x ∈ ws, x ∉ l) → (insAll ws l).length = l.length + ws.length
  | [], l, _, _ => rfl
  | k :: ws, l, n, d => by
    obtain ⟨n1, n2⟩ := List.nodup_cons.mp n
    have e : ins k l = k :: l := by unfold ins; rw [if_neg (d k List.mem_cons_self)]
    have z := insAll_nodup (ws := ws) (l := k :: l) n2 fun x hx m => by
      rcases List.mem_cons.mp m with e | m
      · exact n1 (e ▸ hx)
      · exact d x (List.mem_cons_of_mem _ hx) m
    show (insAll ws (ins k l)).length = l.length + (ws.length + 1)
    rw [e, z, List.length_cons]
    omega
theorem insAll_eq (ws : List Str) : decide (((insAll ws []).length : Int) = (ws.length : Int)) = decide ws.Nodup := by
  by_cases h : ws.Nodup
  · have z := insAll_nodup (l := []) h (fun _ _ m => nomatch m)
    rw [List.length_nil, Nat.zero_add] at z
    rw [decide_eq_true h, z, decide_eq_true rfl]
  · rw [decide_eq_false h, decide_eq_false fun z => h (insAll_full (l := []) (by rw [List.length_nil, Nat.zero_add]; omega)).1]
section
variable {P : Program} {w : World} {A : Around} {E : Value → Shared → Prop} {s : Shared}
theorem tx_hashed {a : Addr} {l : List Str} {k : Str} {u : Tok} {Q : Bool → Shared → Prop} (R : TxSet P w s.heap a l) (room : l.length + 1 < scanBound)
    (go : ∀ b h', Heap.SameBut a s.heap h' → TxSet P w h' a (ins k l) → Q b { s with heap := h' }) : wpAny (model P w) A (setAddHashed a (.str k u) (hashStr w k)) Q E s := by
  obtain ⟨D, ho, F, nd, ri, le⟩ := id R
  by_cases hk : k ∈ l
  · refine add_there ho F hk (by omega) (go _ s.heap (Heap.SameBut.refl a s.heap) ?_)
    unfold ins
    rw [if_pos hk]
    exact R
  · obtain ⟨r2, l2⟩ := add_walk (w := w) (h := hashStr w k) (v := .str k u) ri le
    refine add_x ho F hk room (go _ _ (Heap.SameBut.update s.heap a _) ?_)
    unfold ins
    rw [if_neg hk]
    exact ⟨_, Froz.get_upd _ ho rfl, add_ok u F, List.nodup_cons.mpr ⟨hk, nd⟩, r2, l2⟩
theorem tx_loop {J : Addr} {fp wr : List Addr} {G : Array GenState → Array GenState → Prop} {n : Nat} {Pv : Nat → Value → Prop} {St : Nat → Shared → Prop} {R : Result → Shared → Prop} (W : WalksS P w A.in1 J fp wr G n Pv St) (T : Addr) (hT : T ∉ fp) (ws : List Str)
    (hn : n = ws.length) (hb : ws.length + 1 < scanBound) (hv : ∀ i v, Pv i v → ∃ k t, ws[i]? = some k ∧ v = .str k t) : ∀ (m i : Nat) (s : Shared), n - i = m → i ≤ n → St i s → TxSet P w s.heap T (insAll (ws.take i) []) →
      (∀ s', Moved (T :: wr) G s s' → TxSet P w s'.heap T (insAll ws []) → R (.ok (.ret .none)) s') → codeAny (model P w) A (.builtin "set.update.loop" ⟨[.ref T, .ref J], []⟩) R s := by
  have out : T ∉ wr := fun z => hT (W.sub _ z)
  have more : ∀ b ∈ wr, b ∈ T :: wr := fun b z => List.mem_cons_of_mem _ z
  intro m
  induction m with
  | zero =>
    intro i s hm hi st hS go
    have e : i = n := by omega
    subst e
    refine codeAny_builtin F.entry_set_update_loop ?_
    rw [Around.under_plainId F.plain_set_update_loop _]
    show wpAny _ A.in1 (pyNext (.ref J) >>= _) _ _ s
    refine wpAny_bind (W.done s _ _ st fun s' mv => ?_)
    show wpAny _ A.in1 (ret Value.none) _ _ s'
    rw [List.take_of_length_le (by omega)] at hS
    exact wpAny_pure (go s' (mv.mono more) (hS.at fun o e => mv.heap T o out e))
  | succ m ih =>
    intro i s hm hi st hS go
    have lt : i < n := by omega
    refine codeAny_builtin F.entry_set_update_loop ?_
    rw [Around.under_plainId F.plain_set_update_loop _]
    show wpAny _ A.in1 (pyNext (.ref J) >>= _) _ _ s
    refine wpAny_bind (W.item i s _ _ lt st fun v s' hP st' mv => ?_)
    obtain ⟨z, t, hz, rfl⟩ := hv i v hP
    have hS' : TxSet P w s'.heap T (insAll (ws.take i) []) := hS.at fun o e => mv.heap T o out e
    show wpAny _ A.in1 (holding [Value.str z t] (setAdd T (.str z t)) >>= _) _ _ s'
    refine wpAny_bind (wpAny_holding ?_)
    unfold setAdd
    refine wpAny_holding (wpAny_bind ((strKind P w).pyHash (k := z) (is_str z t) ?_))
    have lz : (insAll (ws.take i) []).length ≤ ws.length := by
      have z1 := insAll_len (ws.take i) []
      have z2 := List.length_take_le i ws
      have z3 : (ws.take i).length ≤ ws.length := List.length_take_le' i ws
      rw [List.length_nil] at z1
      omega
    refine tx_hashed (s := { s' with toks := s'.toks + 1 }) hS' (by omega) fun b h' sb hS2 => ?_
    have e3 : ins z (insAll (ws.take i) []) = insAll (ws.take (i + 1)) [] := by rw [List.take_add_one, hz]; exact (insAll_snoc _ _ _).symm
    rw [e3] at hS2
    refine wpAny_pure ⟨plainId_quiet F.plain_set_update_loop _, ih (i + 1) _ (by omega) lt (W.frame _ s' _ _ st' (Nat.le_succ _) fun b hb o e => ?_) hS2 fun s'' mv2 hS3 => ?_⟩
    · rw [sb.2 b (fun z : b = T => hT (by rw [← z]; exact hb))]; exact e
    · refine go s'' (Moved.trans W.gtrans ((mv.mono more).then_heap (Nat.le_succ _) fun b o nb e => ?_) mv2) hS3
      rw [sb.2 b (fun z : b = T => nb (by rw [z]; exact List.mem_cons_self))]; exact e
abbrev eSet (w : World) : Obj := { cls := .type "set", dict := none, data := .set #[] 0 (.fresh 0 0 (!w.params.followText "set-order")) }
theorem tx_new_at {h : Heap} {a : Addr} (ho : h.get? a = some (eSet w)) : TxSet P w h a [] := by
  refine ⟨(#[], 0, .fresh 0 0 (!w.params.followText "set-order")), ho, TxOk.nil rfl, List.nodup_nil, List.Pairwise.nil, ?_⟩
  show _ ∨ (!w.params.followText "set-order") = true
  cases w.params.followText "set-order"
  · exact .inr rfl
  · exact .inl rfl
theorem strs_get {vs : List Value} {ws : List Str} (h : StrsAre vs ws) : ∀ {i : Nat} {v : Value}, vs[i]? = some v → ∃ k t, ws[i]? = some k ∧ v = .str k t := by
  induction h with
  | nil => intro i v e; simp at e
  | cons k t r ih =>
    intro i v e
    cases i with
    | zero => exact ⟨k, t, rfl, (Option.some.inj e).symm⟩
    | succ i => exact ih (i := i) (v := v) (by simpa using e)
theorem tx_of_list {l : Addr} {its : Array Value} (ws : List Str) {Q : Value → Shared → Prop} (hh : A.handled = none) (hl : s.heap.IsList l its) (hi : StrsAre its.toList ws) (hb : ws.length + 1 < scanBound)
    (go : ∀ (h' : Heap) (tk : Nat), TxSet P w h' s.heap.objs.size (insAll ws []) → (∀ b o, s.heap.get? b = some o → h'.get? b = some o) → Q (.ref s.heap.objs.size) { s with heap := h', toks := tk }) : wpAny (model P w) A (call (.type "set") [.ref l]) Q E s := by
  have sz : its.size = ws.length := by rw [← Array.length_toList, strs_len hi]
  obtain ⟨c, tl, k1⟩ := F.called_set.mro
  have k2 := F.called_set.made
  have k3 := F.called_set.sub
  refine wpAny_call (codeAny_of_tree ?_)
  show wpAny _ _ (callAny (.type "set") _) _ _ _
  refine wpAny_pure ⟨Code.quiet_builtin _ (by decide +kernel), codeAny_builtin F.entry_type_call ?_⟩
  rw [Around.under_plain (weight_type_call_type "set" [.ref l] []) rfl]
  have k4 := F.called_set.notType
  have k5 := F.called_set.canCreate
  have k6 := F.typeCall_set_1 (.ref l)
  repeat (any_goals (first | assumption | wp_step))
  refine codeAny_mono (code_set_led1 (.ref l) (E := E) (Q₁ := fun x s₁ => x = .ref s.heap.objs.size ∧ s₁ = { s with heap := s.heap.push (eSet w) }) ⟨rfl, rfl⟩) fun r s₁ hr => ?_
  cases r with
  | error e => exact hr
  | ok fl =>
    cases fl with
    | ret obj =>
      obtain ⟨rfl, rfl⟩ := hr
      have at0 : (s.heap.push (eSet w)).get? s.heap.objs.size = some (eSet w) := Heap.get?_push_size _ rfl
      have ty0 : Shared.TypeIs { s with heap := s.heap.push (eSet w) } (.ref s.heap.objs.size) "set" := ⟨_, at0, rfl⟩
      have k7 := F.called_set.init.lookup
      have k8 := F.called_set.init.bind (.ref s.heap.objs.size)
      repeat (any_goals (first | assumption | wp_step))
      refine codeAny_mono (codeAny_call_builtin (R := wants (fun r s₂ => r = .none ∧ ∃ h' tk, s₂ = { s with heap := h', toks := tk } ∧ TxSet P w h' s.heap.objs.size (insAll ws []) ∧ (∀ b o, s.heap.get? b = some o → h'.get? b = some o)) E) F.called_set.init.plain F.entry_set_init (check_set_init_1 ty0 ?_)) fun r₂ s₂ hr₂ => ?_
      · obtain ⟨ol, hol, hcl, nl, hdl⟩ := hl
        obtain ⟨c0, d0, x0, sl0⟩ := ol
        simp only at hcl hdl
        subst hcl
        subst hdl
        have at1 : (s.heap.push (eSet w)).get? l = some { cls := .type "list", dict := d0, data := .seq its nl, slots := sl0 } := Heap.get?_push_of_some _ hol
        have k9 := PySem.F.sub_list_set
        have k10 := PySem.F.sub_list_frozenset
        have k11 : (Value.type "list" == Value.type "dict") = false := by decide
        have hl1 : (s.heap.push (eSet w)).IsList l its := ⟨_, at1, rfl, nl, rfl⟩
        unfold Builtin.«set.__init__» noKeywords Builtin.Frozenset.updateFrom
        generalize gen : pyIter = PI
        wp_walk
        subst gen
        refine wpAny_pyIter_list hl1 (wpAny_bind (wpAny_runValue ?_))
        have ll : l < s.heap.objs.size := Heap.lt_size hol
        have h3 : A.in1.in1.in1.handled = none := by simp [hh]
        have nz : l ≠ (s.heap.push (eSet w)).objs.size := by rw [Heap.size_push]; exact Nat.ne_of_lt (Nat.lt_succ_of_lt ll)
        have nS : s.heap.objs.size ∉ [(s.heap.push (eSet w)).objs.size, l] := by
          rw [Heap.size_push]
          simp only [List.mem_cons, List.mem_singleton, List.not_mem_nil, or_false, not_or]
          exact ⟨Nat.ne_of_lt (Nat.lt_succ_self _), Nat.ne_of_gt ll⟩
        refine tx_loop ((Walks.list h3 _ l nz its).toS) s.heap.objs.size nS ws sz hb (fun i v hv => strs_get hi (by rw [Array.getElem?_toList]; exact hv)) (its.size - 0) 0 _ (by omega) (Nat.zero_le _) ⟨⟨_, Heap.get?_push_size _ rfl, rfl, rfl⟩, (hl1.push _)⟩ ?_ ?_
        · exact tx_new_at (Heap.get?_push_of_some _ at0)
        · intro s' mv hS'
          obtain ⟨h', g2, d', tk', os'⟩ := s'
          have eg : g2 = s.gens := mv.gens
          have ed : d' = s.drawn := mv.drawn
          have eo : os' = s.os := mv.os
          subst eg; subst ed; subst eo
          show wpAny _ _ _ _ _ _
          refine wpAny_pure ?_
          show wpAny _ _ (ret Value.none) _ _ _
          refine wpAny_pure ⟨rfl, h', tk', rfl, hS', fun b o e => ?_⟩
          have b0 : b < s.heap.objs.size := Heap.lt_size e
          refine mv.heap b o ?_ (Heap.get?_push_of_some _ (Heap.get?_push_of_some _ e))
          rw [Heap.size_push]
          simp only [List.mem_cons, List.mem_singleton, List.not_mem_nil, or_false, not_or]
          exact ⟨Nat.ne_of_lt b0, Nat.ne_of_lt (Nat.lt_succ_of_lt b0)⟩
      · cases r₂ with
        | error e => exact hr₂
        | ok fl₂ =>
          cases fl₂ with
          | ret r =>
            obtain ⟨rfl, h', tk, rfl, hS', hk'⟩ := hr₂
            repeat (any_goals (first | assumption | wp_step))
            exact go _ _ hS' hk'
          | _ => exact hr₂.elim
    | _ => exact hr.elim
end
section
variable {X : Cx}
/-- len(set(e)), e a list of texts -/
def tLenTx (K : PySem.W.Frag) (ta : TE) : TE := fun σ H Q => ta σ H fun x H1 => ∃ (l : Addr) (xs : List Str), x = .ref l ∧ SqL K H1 l (xs.map V.str) ∧ xs.length < 1000 ∧ Q (.int (insAll xs []).length) H1
theorem pe_lenTx {a : Expr} {ta : TE} {p p2 q pos : Pos} (hc : X.calm = true) (hg : Gl X "len") (hm : X.mg "len" = none) (hg2 : Gl X "set") (hm2 : X.mg "set" = none) (ha : PE X a ta)
    (na : starEach [a] X.env = (false, eval a X.env) :: starEach [] X.env := by rfl) : PE X (.Call (.Name "len" p) [.Call (.Name "set" p2) [a] [] q] [] pos) (tLenTx X.K ta) := by
  refine ⟨fun pins s σ H Q I h => Call_ (ld_blt I hg hm boot_len (PyProof.Rows.callWith_builtin1 (PyProof.Rows.args_cons ?_ rfl) rfl rfl))⟩
  refine Call_ (ld_blt I hg2 hm2 boot_set (PyProof.Rows.callWith_type1 (PyProof.Rows.args_cons (thn (ha.run pins s σ H _ I h) fun v s1 ⟨x, H1, I1, r1, q1⟩ => PyProof.Rows.args_nil ?_) na) na rfl))
  obtain ⟨l, xs, rfl, hq, h1, q1⟩ := q1
  cases r1
  obtain ⟨its, r, pl, hz⟩ := I1.list hq
  refine tx_of_list xs (I1.ok.hd hc) pl.isList (by simpa using strsAre_of r) (by unfold scanBound; omega) fun h' tk hS hk => PyProof.Rows.args_nil ?_
  obtain ⟨⟨es, ep, t⟩, ho, F, _⟩ := hS
  have I2 : Inv X pins σ H1 { s1 with heap := h', toks := tk } := I1.kept hk
  have sz : es.size = (insAll xs []).length := F.sz
  have le := insAll_len xs []
  rw [List.length_nil] at le
  have sz2 : ((es, ep, t).1.size : Int) < 2 ^ 63 := by show (es.size : Int) < 2 ^ 63; omega
  exact call_len_set ho ⟨rfl, rfl, rfl⟩ rfl F.fit sz2 ⟨.int (insAll xs []).length, H1, I2.tok _, ⟨_, by rw [sz]⟩, q1⟩
end
end STX


set_option Elab.async false
set_option linter.all false
set_option maxRecDepth 100000
set_option maxHeartbeats 4000000
namespace PG
open PySem L2
def top (i : Nat) : Stmt := PySem.Challenge.pw_countededges_k01_words_and_programs_made.main.body.getD i (.Pass ⟨0, 0, 0, 0⟩)
abbrev sWord : Stmt := top 10
abbrev sAmong : Stmt := top 11
abbrev sLink : Stmt := top 12
abbrev sWays : Stmt := top 13
abbrev sExits : Stmt := top 14
abbrev sReach : Stmt := top 15
/-- the module's and built-in names that these defs read -/
structure PT0 (mg : Str → Option Value) : Prop where
  isi : mg "isinstance" = none
  str : mg "str" = none
  len : mg "len" = none
  all : mg "all" = none
  tuple : mg "tuple" = none
  dict : mg "dict" = none
  list : mg "list" = none
  set : mg "set" = none
  sorted : mg "sorted" = none
  letters : ∃ t, mg "LETTERS" = some (.str "abcdefghijklmnopqrstuvwxyz" t)
  mostL : ∃ t, mg "MOST_LETTERS" = some (.int 8 t)
  mostW : ∃ t, mg "MOST_WAYS" = some (.int 40 t)
theorem PE.or {X : Cx} {e : Expr} {t1 t2 : TE} (h1 : PE X e t1) (h2 : PE X e t2) : PE X e (fun σ H Q => t1 σ H Q ∨ t2 σ H Q) := ⟨fun pins s σ H Q I h => h.elim (h1.run pins s σ H Q I) (h2.run pins s σ H Q I)⟩
theorem sm {H : Hp} {p : Addr} {o : HO} (np : H p = none) : Same H (upd H p o) := fun b u e => by
  rw [upd_ne (ne_of_none e np)]
  exact e
theorem iteB {b : Bool} {A B : Prop} (h1 : b = true → A) (h2 : b = false → B) : if b = true then A else B := by
  cases b with
  | true => rw [if_pos rfl]; exact h1 rfl
  | false => rw [if_neg Bool.false_ne_true]; exact h2 rfl
/-! ### words -/
def alpha : Str := "abcdefghijklmnopqrstuvwxyz"
def isWord (x : Str) : Bool := decide (1 ≤ x.length) && (decide (x.length ≤ 8) && x.cps.toList.all fun c => decide (c ∈ alpha.cps.toList))
def wordV : V → Bool
  | .str x => isWord x
  | _ => false
/-- a text of a known size, or what is no text -/
inductive TxtOr (K : PySem.W.Frag) (H : Hp) : V → Prop where
  | str {x : Str} (h : x.length ≤ 1000) : TxtOr K H (.str x)
  | no {v : V} {t : Value} (h : TyX K H v t) (k : PySem.W.kitOne K t (.type "str") = some false) (n : ∀ x, v ≠ .str x) : TxtOr K H v
section
variable {P : Program} {w : World} {K : PySem.W.Frag} {mg : Str → Option Value} {base : Heap}
theorem scWord : FnScope ["value", "letter"] ["value"] (defScope sWord) := ⟨rfl, rfl, rfl, by decide +kernel, rfl, by decide +kernel, by decide +kernel⟩
def spWord (K : PySem.W.Frag) : Sp := fun vs H Q _ => ∃ v, vs = [v] ∧ TxtOr K H v ∧ ∀ H', Same H H' → Q (.bl (wordV v)) H'
theorem ok_word {f : Addr} {fd : FuncData} (F : Fun K "is_word" "is_word" sWord f fd) (T : PT0 mg) : FnOk P w K mg base CX0 1 f fd ["value"] (spWord K) := by
  refine F.ok scWord (fun vs H Q E h => ?_) (fun cdv A outer s H vs Q E hr h => ?_)
  · obtain ⟨v, rfl, _⟩ := h
    rfl
  · obtain ⟨v, rfl, hT, k⟩ := h
    obtain ⟨tl, gl⟩ := T.letters
    obtain ⟨tm, gm⟩ := T.mostL
    refine ⟨_, pss_cons (ps_if (PW.pt (pw_or (pt_not (pt_val (pe_callB call_isi (by rfl) T.isi PyProof.Rows.boot_isinstance (pa_cons (pv 0) (pa_cons (pe_bltn (v := .ty "str") rfl T.str (by decide +kernel) rfl) pa_nil)))))
        (pw_or1 (pt_not (pt_chain op_le op_le pe_int (pe_callB call_len_str (by rfl) T.len PySem.boot_len (pa_cons (pv 0) pa_nil)) (pe_glob (v := .int 8) rfl gm ⟨_, rfl⟩)))))) (pss_one (ps_ret pe_bl)) pss_nil)
      (pss_one (ps_ret (pe_callB (cr_all rfl) (by rfl) T.all PyProof.Rows.boot_all (pa_cons (pe_lc (own := [("letter", 1)]) (g := gName 1) (tt := tYes) rfl scWord.nd (pi_str (pv 0)) (blkOk_by (own := [("letter", 1)]) (N := ["value", "letter"]) (sc := defScope sWord) (by decide +kernel)) (fun _ _ _ _ _ => pg_name (i := 1) scWord.nd rfl (Or.inl rfl)) (fun _ _ _ _ _ => pts_nil)
        (fun _ _ _ _ _ => pe_cmpR op_in_sign (pv 1) (pe_glob (v := .str "abcdefghijklmnopqrstuvwxyz") rfl gl ⟨_, rfl⟩) rfl)) pa_nil)))), ?_⟩
    cases hT with
    | no ht hk hn =>
      refine ⟨_, rfl, v, .ty "str", _, _, false, rfl, .ty "str", ht, hk, _, rfl, iteT (iteT ?_)⟩
      have e : wordV v = false := by
        cases v with
        | str x => exact absurd rfl (hn x)
        | _ => rfl
      rw [← e]
      exact k H (Same.refl H)
    | @str x hx =>
      refine ⟨_, rfl, .str x, .ty "str", _, _, true, rfl, .ty "str", .base (.str x), kit_ty (by decide +kernel), _, rfl, iteF ?_⟩
      have sz : x.length ≤ sizeLine := Nat.le_trans hx (by decide)
      refine ⟨_, rfl, x, rfl, sz, _, _, rfl, rfl, _, rfl, ?_⟩
      have ew : wordV (.str x) = isWord x := rfl
      rw [ew] at k
      refine ite2 (fun h1 => ?_) (fun h1 => ?_)
      · have h1' : 1 ≤ x.length := by have := of_decide_eq_true h1; omega
        refine ⟨_, _, rfl, rfl, _, rfl, iteB (fun h8 => ?_) (fun h8 => ?_)⟩
        · have h8' : ¬ x.length ≤ 8 := by
            have z : (!decide ((x.length : Int) ≤ 8)) = true := h8
            simp only [Bool.not_eq_true', decide_eq_false_iff_not] at z
            omega
          have e : isWord x = false := by unfold isWord; rw [decide_eq_false h8', Bool.false_and, Bool.and_false]
          rw [← e]
          exact k H (Same.refl H)
        · have h8' : x.length ≤ 8 := by
            have z : (!decide ((x.length : Int) ≤ 8)) = false := h8
            simp only [Bool.not_eq_false', decide_eq_true_eq] at z
            omega
          refine ⟨_, rfl, x, rfl, fun D nD => lc_it walk_str (fun i H' => H' = upd H D (.lst (((x.cps.toList.take i).map fun c => decide (c ∈ alpha.cps.toList)).map V.bl))) rfl (fun _ _ _ _ => trivial) ?_ ?_⟩
          · rintro i y H1 H2 hi rfl ⟨rfl, c, hc, rfl⟩
            refine ⟨rfl, ?_⟩
            unfold tYes
            dsimp only
            rw [if_pos rfl]
            refine ⟨_, rfl, c, _, rfl, rfl, _, upd_same, ?_, ?_⟩
            · rw [List.length_map, List.length_map]
              refine small1000 (Nat.le_trans (List.length_take_le _ _) ?_)
              have : i < x.length := hi
              omega
            · rw [upd_upd]
              have ec : x.cps.toList[i]? = some c := by rw [Array.getElem?_toList]; exact hc
              rw [List.take_add_one, ec, List.map_append, List.map_append]
              rfl
          · rintro H1 rfl
            have et : x.cps.toList.take x.cps.size = x.cps.toList := by rw [← Array.length_toList, List.take_length]
            rw [et]
            refine ⟨D, _, rfl, SqL.of upd_same, ?_⟩
            have e : isWord x = ((x.cps.toList.map fun c => decide (c ∈ alpha.cps.toList)).all id) := by
              unfold isWord
              rw [decide_eq_true h1', decide_eq_true h8', List.all_map]
              rfl
            rw [← e]
            exact k _ (sm nD)
      · have h1' : ¬ 1 ≤ x.length := fun z => h1 (decide_eq_true (by omega))
        have e : isWord x = false := by unfold isWord; rw [decide_eq_false h1', Bool.false_and]
        refine ⟨_, rfl, iteT ?_⟩
        rw [← e]
        exact k H (Same.refl H)
end
end PG


set_option Elab.async false
set_option linter.all false
set_option maxRecDepth 100000
set_option maxHeartbeats 4000000
namespace PG
open PySem L2
theorem TyX.same {K : PySem.W.Frag} {H H' : Hp} {v : V} {t : Value} (h : TyX K H v t) (s : Same H H') : TyX K H' v t := by
  cases h with
  | base b =>
    refine .base ?_
    cases b with
    | non => exact .non
    | bl x => exact .bl x
    | int i => exact .int i
    | str x => exact .str x
    | flt x => exact .flt x
    | lst e => exact .lst (s _ _ e)
    | frz e => exact .frz (s _ _ e)
    | tup e => exact .tup (s _ _ e)
    | dK e => exact .dK (s _ _ e)
    | dT e => exact .dT (s _ _ e)
    | ins e a b c d f => exact .ins (s _ _ e) a b c d f
  | byt b => exact .byt b
  | set e => exact .set (s _ _ e)
  | kList e c => exact .kList e c
  | kTuple e c => exact .kTuple e c
  | kDict e c => exact .kDict e c
  | fTuple e => exact .fTuple (s _ _ e)
  | fDict e => exact .fDict (s _ _ e)
theorem TxtOr.same {K : PySem.W.Frag} {H H' : Hp} {v : V} (h : TxtOr K H v) (s : Same H H') : TxtOr K H' v := by
  cases h with
  | str h => exact .str h
  | no h k n => exact .no (TyX.same h s) k n
theorem sqT_same {K : PySem.W.Frag} {H H' : Hp} {a : Addr} {xs : List V} (h : SqT K H a xs) (s : Same H H') : SqT K H' a xs := by
  rcases h with (h | ⟨o, h⟩) | h
  · exact .inl (.inl (s _ _ h))
  · exact .inl (.inr ⟨o, s _ _ h⟩)
  · exact .inr h
theorem inV_strs (x : Str) : ∀ ws : List Str, inV (.str x) (ws.map V.str) = decide (x ∈ ws)
  | [] => rfl
  | y :: ws => by
    show (eqV (.str y) (.str x) || inV (.str x) (ws.map V.str)) = _
    rw [inV_strs x ws]
    show (y == x || _) = _
    by_cases h : x = y
    · subst h
      rw [beq_self_eq_true, Bool.true_or, decide_eq_true List.mem_cons_self]
    · have h2 : (y == x) = false := beq_eq_false_iff_ne.mpr fun z => h z.symm
      rw [h2, Bool.false_or]
      by_cases hm : x ∈ ws
      · rw [decide_eq_true hm, decide_eq_true (List.mem_cons_of_mem _ hm)]
      · rw [decide_eq_false hm, decide_eq_false fun z => (List.mem_cons.mp z).elim h hm]
theorem flat_strs : ∀ ws : List Str, (ws.map V.str).all flatV = true
  | [] => rfl
  | _ :: ws => flat_strs ws
section
variable {P : Program} {w : World} {K : PySem.W.Frag} {mg : Str → Option Value} {base : Heap}
theorem scAmong : FnScope ["value", "words"] ["value", "words"] (defScope sAmong) := ⟨rfl, rfl, rfl, by decide +kernel, rfl, by decide +kernel, by decide +kernel⟩
/-- is_among: of a list of texts, of a dict, or of what is no text -/
def spAmong (K : PySem.W.Frag) : Sp := fun vs H Q _ => ∃ (v : V) (a : Addr), vs = [v, .ref a] ∧
  ((∃ (x : Str) (ws : List Str), v = .str x ∧ SqL K H a (ws.map V.str) ∧ Q (.bl (decide (x ∈ ws))) H) ∨
   (∃ (x : Str) (kvs : List (Key × V)), v = .str x ∧ Rd H a (.dK kvs) ∧ Q (.bl (valV kvs (Sum.inr x : Key)).isSome) H) ∨
   (∃ t, TyX K H v t ∧ PySem.W.kitOne K t (.type "str") = some false ∧ Q (.bl false) H))
theorem ok_among {f : Addr} {fd : FuncData} (F : Fun K "is_among" "is_among" sAmong f fd) (T : PT0 mg) : FnOk P w K mg base CX0 1 f fd ["value", "words"] (spAmong K) := by
  refine F.ok scAmong (fun vs H Q E h => ?_) (fun cdv A outer s H vs Q E hr h => ?_)
  · obtain ⟨v, a, rfl, _⟩ := h
    rfl
  · obtain ⟨v, a, rfl, h⟩ := h
    refine ⟨_, pss_one (ps_ret (pe_and (pe_callB call_isi (by rfl) T.isi PyProof.Rows.boot_isinstance (pa_cons (pv 0) (pa_cons (pe_bltn (v := .ty "str") rfl T.str (by decide +kernel) rfl) pa_nil)))
      (pe_one (PE.or (pe_cmpR op_in_seq (pv 0) (pv 1) rfl) (pe_cmp (pc_din (hu_of hr) (pv 0) (pv 1)) rfl))))), ?_⟩
    rcases h with ⟨x, ws, rfl, hS, q⟩ | ⟨x, kvs, rfl, hd, q⟩ | ⟨t, ht, hk, q⟩
    · refine ⟨_, rfl, .str x, .ty "str", _, _, true, rfl, .ty "str", .base (.str x), kit_ty (by decide +kernel), true, rfl, iteT (.inl ⟨_, rfl, _, rfl, a, _, rfl, .inl hS, rfl, flat_strs ws, ?_⟩)⟩
      rw [inV_strs]
      exact q
    · refine ⟨_, rfl, .str x, .ty "str", _, _, true, rfl, .ty "str", .base (.str x), kit_ty (by decide +kernel), true, rfl, iteT (.inr ⟨_, rfl, _, rfl, a, _, rfl, .inl ⟨kvs, Sum.inr x, hd, rfl, rfl⟩, q⟩)⟩
    · exact ⟨_, rfl, v, .ty "str", _, _, false, rfl, .ty "str", ht, hk, false, rfl, iteF q⟩
/-! ### links -/
/-- what is_link says of a value -/
inductive LinkIs (K : PySem.W.Frag) (H : Hp) : V → Bool → Prop where
  | two {t : Addr} {y z : V} (h : SqT K H t [y, z]) (hy : TxtOr K H y) (hz : TxtOr K H z) : LinkIs K H (.ref t) (wordV y && wordV z)
  | size {t : Addr} {xs : List V} (h : SqT K H t xs) (n : xs.length ≠ 2) : LinkIs K H (.ref t) false
  | no {v : V} {t : Value} (h : TyX K H v t) (k : PySem.W.kitOne K t (.type "tuple") = some false) : LinkIs K H v false
theorem LinkIs.same {K : PySem.W.Frag} {H H' : Hp} {v : V} {b : Bool} (h : LinkIs K H v b) (s : Same H H') : LinkIs K H' v b := by
  cases h with
  | two h hy hz => exact .two (sqT_same h s) (hy.same s) (hz.same s)
  | size h n => exact .size (sqT_same h s) n
  | no h k => exact .no (TyX.same h s) k
theorem tyx_tup {H : Hp} {t : Addr} {xs : List V} (h : SqT K H t xs) : TyX K H (.ref t) (.type "tuple") := by
  rcases h with (h | ⟨o, h⟩) | ⟨o, its, n, e, c, _⟩
  · exact .base (.tup h)
  · exact .fTuple h
  · exact .kTuple e c
theorem scLink : FnScope ["value"] ["value"] (defScope sLink) := ⟨rfl, rfl, rfl, by decide +kernel, rfl, by decide +kernel, by decide +kernel⟩
def spLink (K : PySem.W.Frag) : Sp := fun vs H Q _ => ∃ v b, vs = [v] ∧ LinkIs K H v b ∧ ∀ H', Same H H' → Q (.bl b) H'
theorem ok_link {f fW : Addr} {fd fdW : FuncData} (F : Fun K "is_link" "is_link" sLink f fd) (T : PT0 mg) (FW : Fun K "is_word" "is_word" sWord fW fdW) (bW : Binds K fdW ["value"] []) (gW : mg "is_word" = some (.ref fW)) : FnOk P w K mg base CX0 2 f fd ["value"] (spLink K) := by
  have GW : FnOk P w K mg base CX0 1 fW fdW ["value"] (spWord K) := ok_word FW T
  refine F.ok scLink (fun vs H Q E h => ?_) (fun cdv A outer s H vs Q E hr h => ?_)
  · obtain ⟨v, b, rfl, _⟩ := h
    rfl
  · obtain ⟨v, b, rfl, hL, k⟩ := h
    refine ⟨_, pss_one (ps_ret (pe_and (pe_callB call_isi (by rfl) T.isi PyProof.Rows.boot_isinstance (pa_cons (pv 0) (pa_cons (pe_bltn (v := .ty "tuple") rfl T.tuple (by decide +kernel) rfl) pa_nil)))
      (pe_and (pe_cmpR op_eq (pe_callB call_len_seq (by rfl) T.len PySem.boot_len (pa_cons (pv 0) pa_nil)) pe_int (nomark _))
      (pe_and (pe_call GW hr (by rfl) gW FW.kp bW .nil pass0 (pa_cons (pe_ix ix_tup (pv 0) pe_int (fun _ _ => rfl)) pa_nil))
      (pe_one (pe_call GW hr (by rfl) gW FW.kp bW .nil pass0 (pa_cons (pe_ix ix_tup (pv 0) pe_int (fun _ _ => rfl)) pa_nil))))))), ?_⟩
    cases hL with
    | no ht hk => exact ⟨_, rfl, v, .ty "tuple", _, _, false, rfl, .ty "tuple", ht, hk, false, rfl, iteF (k H (Same.refl H))⟩
    | @size t xs h n =>
      refine ⟨_, rfl, .ref t, .ty "tuple", _, _, true, rfl, .ty "tuple", tyx_tup h, kit_ty (by decide +kernel), true, rfl, iteT ⟨_, rfl, t, _, rfl, .inr h, rfl, _, rfl, iteB (fun z => ?_) (fun _ => k H (Same.refl H))⟩⟩
      have z2 := of_decide_eq_true z
      injection z2 with z3
      exact absurd (by omega) n
    | @two t y z h hy hz =>
      refine ⟨_, rfl, .ref t, .ty "tuple", _, _, true, rfl, .ty "tuple", tyx_tup h, kit_ty (by decide +kernel), true, rfl, iteT ⟨_, rfl, t, _, rfl, .inr h, rfl, true, rfl, iteT ?_⟩⟩
      refine ⟨_, rfl, t, _, _, _, rfl, rfl, h, atI_nat (j := 0) rfl, y, rfl, hy, fun H1 s1 => ⟨_, rfl, iteB (fun w1 => ?_) (fun w1 => ?_)⟩⟩
      · refine ⟨_, rfl, t, _, _, _, rfl, rfl, sqT_same h s1, atI_nat (j := 1) rfl, z, rfl, hz.same s1, fun H2 s2 => ?_⟩
        have q := k H2 (s1.trans s2)
        rw [w1, Bool.true_and] at q
        exact q
      · have q := k H1 s1
        rw [w1, Bool.false_and] at q
        exact q
end
end PG


set_option Elab.async false
set_option linter.all false
set_option maxRecDepth 100000
set_option maxHeartbeats 4000000
namespace PG
open PySem L2
/-! ### a dict that is walked is locked -/
section
variable {K : PySem.W.Frag} {H : Hp} {a : Addr} {kvs : List (Key × V)} {od : Obj}
theorem lk_ne {b : Addr} {o : HO} (ha : H a = some (.dK kvs)) (hb : H b = some o) (d : ∀ l, o ≠ .dK l) : upd H a (.frz od (.dK kvs)) b = some o := by
  rw [upd_ne (fun z => d kvs (by rw [z, ha] at hb; exact (Option.some.inj hb).symm))]
  exact hb
theorem TyX.lock {v : V} {t : Value} (h : TyX K H v t) (ha : H a = some (.dK kvs)) : TyX K (upd H a (.frz od (.dK kvs))) v t := by
  cases h with
  | base b =>
    cases b with
    | non => exact .base .non
    | bl x => exact .base (.bl x)
    | int i => exact .base (.int i)
    | str x => exact .base (.str x)
    | flt x => exact .base (.flt x)
    | lst e => exact .base (.lst (lk_ne ha e (by intro l z; cases z)))
    | frz e => exact .base (.frz (lk_ne ha e (by intro l z; cases z)))
    | tup e => exact .base (.tup (lk_ne ha e (by intro l z; cases z)))
    | @dK c l e =>
      by_cases z : c = a
      · subst z
        rw [ha] at e
        cases e
        exact .fDict upd_same
      · exact .base (.dK (by rw [upd_ne z]; exact e))
    | dT e => exact .base (.dT (lk_ne ha e (by intro l z; cases z)))
    | ins e a b c d f => exact .base (.ins (lk_ne ha e (by intro l z; cases z)) a b c d f)
  | byt b => exact .byt b
  | set e => exact .set (lk_ne ha e (by intro l z; cases z))
  | kList e c => exact .kList e c
  | kTuple e c => exact .kTuple e c
  | kDict e c => exact .kDict e c
  | fTuple e => exact .fTuple (lk_ne ha e (by intro l z; cases z))
  | fDict e => exact .fDict (lk_ne ha e (by intro l z; cases z))
theorem TxtOr.lock {v : V} (h : TxtOr K H v) (ha : H a = some (.dK kvs)) : TxtOr K (upd H a (.frz od (.dK kvs))) v := by
  cases h with
  | str h => exact .str h
  | no h k n => exact .no (TyX.lock h ha) k n
theorem sqT_lock {t : Addr} {xs : List V} (h : SqT K H t xs) (ha : H a = some (.dK kvs)) : SqT K (upd H a (.frz od (.dK kvs))) t xs := by
  rcases h with (h | ⟨o, h⟩) | h
  · exact .inl (.inl (lk_ne ha h (by intro l z; cases z)))
  · exact .inl (.inr ⟨o, lk_ne ha h (by intro l z; cases z)⟩)
  · exact .inr h
theorem LinkIs.lock {v : V} {b : Bool} (h : LinkIs K H v b) (ha : H a = some (.dK kvs)) : LinkIs K (upd H a (.frz od (.dK kvs))) v b := by
  cases h with
  | two h hy hz => exact .two (sqT_lock h ha) (hy.lock ha) (hz.lock ha)
  | size h n => exact .size (sqT_lock h ha) n
  | no h k => exact .no (TyX.lock h ha) k
/-- behind a walk: the lock is gone, all else as it was -/
theorem unlock {H' : Hp} (ha : H a = some (.dK kvs)) (s : Same (upd H a (.frz od (.dK kvs))) H') : Same H (upd H' a (.dK kvs)) := fun b o e => by
  by_cases z : b = a
  · subst z
    rw [ha] at e
    cases e
    exact upd_same
  · rw [upd_ne z]
    exact s b o (by rw [upd_ne z]; exact e)
end
/-- what are_ways says of an item -/
def ItemIs (K : PySem.W.Frag) (H : Hp) (kv : Key × V) (b : Bool) : Prop := ∃ c, TxtOr K H (kV kv.1) ∧ LinkIs K H kv.2 c ∧ b = (wordV (kV kv.1) && c)
theorem paired_at {α β : Type} {R : α → β → Prop} : ∀ {xs : List α} {ys : List β} {i : Nat} {x : α}, Paired R xs ys → xs[i]? = some x → ∃ y, ys[i]? = some y ∧ R x y
  | _, _, i, _, .nil, h => by simp at h
  | _, _, 0, _, .cons (b := y) r _, h => ⟨y, rfl, (Option.some.inj h) ▸ r⟩
  | _, _, i + 1, _, .cons _ r, h => paired_at (i := i) r (by simpa using h)
section
variable {P : Program} {w : World} {K : PySem.W.Frag} {mg : Str → Option Value} {base : Heap}
abbrev nsWays : List Str := ["value", "way", "link"]
theorem scWays : FnScope nsWays ["value"] (defScope sWays) := ⟨rfl, rfl, rfl, by decide +kernel, rfl, by decide +kernel, by decide +kernel⟩
def spWays (K : PySem.W.Frag) : Sp := fun vs H Q _ => ∃ v, vs = [v] ∧
  ((∃ (a : Addr) (kvs : List (Key × V)) (bs : List Bool), v = .ref a ∧ H a = some (.dK kvs) ∧ kvs.length ≤ 1000 ∧ Paired (ItemIs K H) kvs bs ∧ ∀ H', Same H H' → Q (.bl (decide (1 ≤ kvs.length) && (decide (kvs.length ≤ 40) && bs.all id))) H') ∨
   (∃ t, TyX K H v t ∧ PySem.W.kitOne K t (.type "dict") = some false ∧ Q (.bl false) H))
theorem ok_ways {f fW fL : Addr} {fd fdW fdL : FuncData} (F : Fun K "are_ways" "are_ways" sWays f fd) (T : PT0 mg) (FW : Fun K "is_word" "is_word" sWord fW fdW) (bW : Binds K fdW ["value"] []) (gW : mg "is_word" = some (.ref fW))
    (FL : Fun K "is_link" "is_link" sLink fL fdL) (bL : Binds K fdL ["value"] []) (gL : mg "is_link" = some (.ref fL)) : FnOk P w K mg base CX0 3 f fd ["value"] (spWays K) := by
  have GW : FnOk P w K mg base CX0 1 fW fdW ["value"] (spWord K) := ok_word FW T
  have GL : FnOk P w K mg base CX0 2 fL fdL ["value"] (spLink K) := ok_link FL T FW bW gW
  refine F.ok scWays (fun vs H Q E h => ?_) (fun cdv A outer s H vs Q E hr h => ?_)
  · obtain ⟨v, rfl, _⟩ := h
    rfl
  · obtain ⟨v, rfl, h⟩ := h
    have hr1 : Room 1 _ := hr.mono (by decide)
    obtain ⟨tm, gm⟩ := T.mostW
    refine ⟨_, pss_cons (ps_if (PW.pt (pw_or (pt_not (pt_val (pe_callB call_isi (by rfl) T.isi PyProof.Rows.boot_isinstance (pa_cons (pv 0) (pa_cons (pe_bltn (v := .ty "dict") rfl T.dict (by decide +kernel) rfl) pa_nil)))))
        (pw_or1 (pt_not (pt_chain op_le op_le pe_int (pe_callB call_lenD (by rfl) T.len PySem.boot_len (pa_cons (pv 0) pa_nil)) (pe_glob (v := .int 40) rfl gm ⟨_, rfl⟩)))))) (pss_one (ps_ret pe_bl)) pss_nil)
      (pss_one (ps_ret (pe_callB (cr_all rfl) (by rfl) T.all PyProof.Rows.boot_all (pa_cons (pe_lock (pe_lc (own := [("way", 1), ("link", 2)]) (g := gTup K 2 (gCons (gName 1) (gCons (gName 2) gNil))) (tt := tYes) rfl scWays.nd (pi_items (pv 0)) (blkOk_by (own := [("way", 1), ("link", 2)]) (N := nsWays) (sc := defScope sWays) (by decide +kernel))
        (fun _ _ _ _ _ => pg_tup rfl (pgs_cons (pg_name (i := 1) scWays.nd rfl (Or.inl rfl)) (pgs_cons (pg_name (i := 2) scWays.nd rfl (Or.inl rfl)) pgs_nil))) (fun _ _ _ _ _ => pts_nil)
        (fun _ _ _ _ _ => pe_and (pe_call GW hr1 (by rfl) gW FW.kp bW .nil pass0 (pa_cons (pv 1) pa_nil)) (pe_one (pe_call GL hr (by rfl) gL FL.kp bL .nil pass0 (pa_cons (pv 2) pa_nil)))))) pa_nil)))), ?_⟩
    rcases h with ⟨a, kvs, bs, rfl, ha, hz, hI, k⟩ | ⟨t, ht, hk, q⟩
    · refine ⟨_, rfl, .ref a, .ty "dict", _, _, true, rfl, .ty "dict", .base (.dK ha), kit_ty (by decide +kernel), _, rfl, iteF ?_⟩
      refine ⟨_, rfl, a, kvs, rfl, ha, _, _, rfl, rfl, _, rfl, ?_⟩
      have lb : bs.length = kvs.length := (Paired.length hI).symm
      refine ite2 (fun h1 => ?_) (fun h1 => ?_)
      · have h1' : 1 ≤ kvs.length := by have := of_decide_eq_true h1; omega
        refine ⟨_, _, rfl, rfl, _, rfl, iteB (fun h8 => ?_) (fun h8 => ?_)⟩
        · have h8' : ¬ kvs.length ≤ 40 := by
            have z : (!decide ((kvs.length : Int) ≤ 40)) = true := h8
            simp only [Bool.not_eq_true', decide_eq_false_iff_not] at z
            omega
          have q := k H (Same.refl H)
          rw [decide_eq_false h8', Bool.false_and, Bool.and_false] at q
          exact q
        · have h8' : kvs.length ≤ 40 := by
            have z : (!decide ((kvs.length : Int) ≤ 40)) = false := h8
            simp only [Bool.not_eq_false', decide_eq_true_eq] at z
            omega
          refine ⟨a, .dK kvs, ha, trivial, fun od => ⟨_, rfl, a, od, kvs, rfl, upd_same, fun D nD => ?_⟩⟩
          refine lc_it walk_items (fun i H' => Same (upd H a (.frz od (.dK kvs))) H' ∧ H' D = some (.lst ((bs.take i).map V.bl))) ⟨sm nD, upd_same⟩ (fun i H' _ p => p.1 _ _ upd_same) ?_ ?_
          · rintro i y H1 H2 hi ⟨s1, hD1⟩ ⟨Tp, x0, y0, rfl, nT, rfl, ex0, ey0⟩
            obtain ⟨kv, hkv⟩ : ∃ kv, kvs[i]? = some kv := ⟨kvs[i], List.getElem?_eq_getElem hi⟩
            replace ex0 : (kvs[i]?.map fun kv => kV kv.1) = some x0 := ex0
            replace ey0 : (kvs[i]?.map Prod.snd) = some y0 := ey0
            rw [hkv] at ex0 ey0
            cases ex0
            cases ey0
            obtain ⟨b, hb, c, i1, i2, rfl⟩ := paired_at hI hkv
            have s2 := s1.trans (sm (o := .tup [kV kv.1, kv.2]) nT)
            have hD2 : (upd H1 Tp (.tup [kV kv.1, kv.2])) D = some (.lst ((bs.take i).map V.bl)) := (sm nT) _ _ hD1
            have step : ∀ H4, Same (upd H1 Tp (.tup [kV kv.1, kv.2])) H4 → ∃ acc, H4 D = some (.lst acc) ∧ acc.length < sizeLine ∧ (Same (upd H a (.frz od (.dK kvs))) (upd H4 D (.lst (acc ++ [V.bl (wordV (kV kv.1) && c)]))) ∧ (upd H4 D (.lst (acc ++ [V.bl (wordV (kV kv.1) && c)]))) D = some (.lst ((bs.take (i + 1)).map V.bl))) := fun H4 s4 => by
              refine ⟨_, s4 _ _ hD2, ?_, fun b o e => ?_, ?_⟩
              · rw [List.length_map]
                refine small1000 (Nat.le_trans (List.length_take_le _ _) (by omega))
              · have e2 := (s2.trans s4) b o e
                rw [upd_ne (ne_of_none e nD)]
                exact e2
              · rw [upd_same, List.take_add_one, hb, List.map_append]
                rfl
            refine ⟨Tp, _, rfl, SqT.of upd_same, rfl, _, _, rfl, _, _, rfl, rfl, rfl, ?_⟩
            unfold tYes
            dsimp only
            rw [if_pos rfl]
            refine ⟨_, rfl, kV kv.1, rfl, (i1.lock ha).same s2, fun H3 s3 => ⟨_, rfl, iteB (fun w1 => ?_) (fun w1 => ?_)⟩⟩
            · refine ⟨_, rfl, kv.2, c, rfl, (i2.lock ha).same (s2.trans s3), fun H4 s4 => ?_⟩
              have q := step H4 (s3.trans s4)
              rw [w1, Bool.true_and] at q
              exact q
            · have q := step H3 s3
              rw [w1, Bool.false_and] at q
              exact q
          · rintro H1 ⟨s1, hD1⟩
            have nDa : D ≠ a := fun z => by
              rw [z, upd_same] at nD
              cases nD
            refine ⟨s1 _ _ upd_same, D, _, rfl, SqL.of (xs := bs.map V.bl) ?_, ?_⟩
            · rw [upd_ne nDa, hD1, ← lb, List.take_length]
            · have q := k _ (unlock ha s1)
              rw [decide_eq_true h1', decide_eq_true h8', Bool.true_and, Bool.true_and] at q
              exact q
      · have h1' : ¬ 1 ≤ kvs.length := fun z => h1 (decide_eq_true (by omega))
        refine ⟨_, rfl, iteT ?_⟩
        have q := k H (Same.refl H)
        rw [decide_eq_false h1', Bool.false_and] at q
        exact q
    · exact ⟨_, rfl, v, .ty "dict", _, _, false, rfl, .ty "dict", ht, hk, _, rfl, iteT (iteT q)⟩
end
end PG


set_option Elab.async false
set_option linter.all false
set_option maxRecDepth 100000
set_option maxHeartbeats 4000000
/-! Sorted texts, links, places: plain mathematics. -/
namespace PG
open PySem PySem.Spec PyProof.Rows
theorem lt_irr : ∀ a : List Nat, ltCps a a = false
  | [] => rfl
  | a :: r => by
    show (decide (a < a) || (a == a && ltCps r r)) = false
    rw [lt_irr r, Bool.and_false, Bool.or_false]
    exact decide_eq_false (Nat.lt_irrefl a)
theorem lt_cons {a b : Nat} {r t : List Nat} : ltCps (a :: r) (b :: t) = true ↔ a < b ∨ (a = b ∧ ltCps r t = true) := by
  show (decide (a < b) || (a == b && ltCps r t)) = true ↔ _
  rw [Bool.or_eq_true, Bool.and_eq_true, decide_eq_true_eq, beq_iff_eq]
theorem lt_trans : ∀ {a b c : List Nat}, ltCps a b = true → ltCps b c = true → ltCps a c = true
  | [], [], _, h, _ => nomatch h
  | [], _ :: _, [], _, h => nomatch h
  | [], _ :: _, _ :: _, _, _ => rfl
  | _ :: _, [], _, h, _ => nomatch h
  | _ :: _, _ :: _, [], _, h => nomatch h
  | x :: a, y :: b, z :: c, h1, h2 => by
    rw [lt_cons] at h1 h2 ⊢
    rcases h1 with h1 | ⟨rfl, h1⟩
    · rcases h2 with h2 | ⟨rfl, h2⟩
      · exact .inl (Nat.lt_trans h1 h2)
      · exact .inl h1
    · rcases h2 with h2 | ⟨rfl, h2⟩
      · exact .inl h2
      · exact .inr ⟨rfl, lt_trans h1 h2⟩
theorem lt_tri : ∀ {a b : List Nat}, ltCps a b = false → ltCps b a = false → a = b
  | [], [], _, _ => rfl
  | [], _ :: _, h, _ => nomatch h
  | _ :: _, [], _, h => nomatch h
  | x :: a, y :: b, h1, h2 => by
    have n1 : ¬ (x < y ∨ (x = y ∧ ltCps a b = true)) := fun z => by rw [lt_cons.mpr z] at h1; cases h1
    have n2 : ¬ (y < x ∨ (y = x ∧ ltCps b a = true)) := fun z => by rw [lt_cons.mpr z] at h2; cases h2
    have e : x = y := by
      rcases Nat.lt_trichotomy x y with z | z | z
      · exact absurd (.inl z) n1
      · exact z
      · exact absurd (.inl z) n2
    subst e
    have q1 : ltCps a b = false := by
      cases z : ltCps a b with
      | false => rfl
      | true => exact absurd (.inr ⟨rfl, z⟩) n1
    have q2 : ltCps b a = false := by
      cases z : ltCps b a with
      | false => rfl
      | true => exact absurd (.inr ⟨rfl, z⟩) n2
    rw [lt_tri q1 q2]
/-- not behind -/
def leS (a b : Str) : Prop := ltCps b.cps.toList a.cps.toList = false
instance (a b : Str) : Decidable (leS a b) := inferInstanceAs (Decidable (_ = _))
theorem str_ext {a b : Str} (h : a.cps.toList = b.cps.toList) : a = b := by
  obtain ⟨⟨a⟩⟩ := a
  obtain ⟨⟨b⟩⟩ := b
  cases h
  rfl
theorem leS_refl (a : Str) : leS a a := lt_irr _
theorem leS_anti {a b : Str} (h1 : leS a b) (h2 : leS b a) : a = b := str_ext (lt_tri h2 h1)
theorem leS_trans {a b c : Str} (h1 : leS a b) (h2 : leS b c) : leS a c := by
  unfold leS at *
  cases h : ltCps c.cps.toList a.cps.toList with
  | false => rfl
  | true =>
    cases h3 : ltCps a.cps.toList b.cps.toList with
    | true =>
      rw [lt_trans h h3] at h2
      cases h2
    | false =>
      have e := lt_tri h3 h1
      rw [← e, h] at h2
      cases h2
theorem leS_total {a b : Str} (h : ¬ leS a b) : leS b a := by
  unfold leS at *
  cases h3 : ltCps a.cps.toList b.cps.toList with
  | false => rfl
  | true =>
    cases h4 : ltCps b.cps.toList a.cps.toList with
    | false => exact absurd h4 h
    | true =>
      have z := lt_trans h3 h4
      rw [lt_irr] at z
      cases z
theorem rising_pw : ∀ {l : List Str} {p : Str}, risingS p l = true → (p :: l).Pairwise leS
  | [], p, _ => List.Pairwise.cons (fun _ z => nomatch z) .nil
  | x :: r, p, h => by
    have h' : (!ltCps x.cps.toList p.cps.toList && risingS x r) = true := h
    rw [Bool.and_eq_true] at h'
    have ih := rising_pw h'.2
    have px : leS p x := by
      unfold leS
      have z := h'.1
      cases e : ltCps x.cps.toList p.cps.toList with
      | false => rfl
      | true => rw [e] at z; cases z
    refine List.Pairwise.cons (fun y hy => ?_) ih
    rcases List.mem_cons.mp hy with e | hy
    · rw [e]; exact px
    · exact leS_trans px ((List.pairwise_cons.mp ih).1 y hy)
theorem sorted_pw : ∀ {l : List Str}, sortedS l = true → l.Pairwise leS
  | [], _ => .nil
  | _ :: _, h => rising_pw h
theorem pw_unique : ∀ {xs ys : List Str}, xs.Pairwise leS → ys.Pairwise leS → xs.Perm ys → xs = ys
  | [], ys, _, _, p => (List.Perm.eq_nil p.symm).symm
  | x :: xs, [], _, _, p => absurd (List.Perm.eq_nil p) (by simp)
  | x :: xs, y :: ys, hx, hy, p => by
    have e : x = y := by
      obtain ⟨h1, _⟩ := List.pairwise_cons.mp hx
      obtain ⟨h2, _⟩ := List.pairwise_cons.mp hy
      rcases List.mem_cons.mp (p.mem_iff.mp List.mem_cons_self) with z | z
      · exact z
      · rcases List.mem_cons.mp (p.mem_iff.mpr (List.mem_cons_self (a := y) (l := ys))) with z2 | z2
        · exact z2.symm
        · exact leS_anti (h1 y z2) (h2 x z)
    subst e
    rw [pw_unique (List.pairwise_cons.mp hx).2 (List.pairwise_cons.mp hy).2 ((List.perm_cons x).mp p)]
def put1 (x : Str) : List Str → List Str
  | [] => [x]
  | y :: r => if leS x y then x :: y :: r else y :: put1 x r
def srt : List Str → List Str
  | [] => []
  | x :: r => put1 x (srt r)
theorem put1_perm (x : Str) : ∀ l : List Str, (put1 x l).Perm (x :: l)
  | [] => .refl _
  | y :: r => by
    unfold put1
    split
    · exact .refl _
    · exact ((put1_perm x r).cons y).trans (.swap x y r)
theorem srt_perm : ∀ l : List Str, (srt l).Perm l
  | [] => .nil
  | x :: r => (put1_perm x (srt r)).trans ((srt_perm r).cons x)
theorem put1_pw {x : Str} : ∀ {l : List Str}, l.Pairwise leS → (put1 x l).Pairwise leS
  | [], _ => List.Pairwise.cons (fun _ z => nomatch z) .nil
  | y :: r, h => by
    unfold put1
    obtain ⟨h1, h2⟩ := List.pairwise_cons.mp h
    split
    · rename_i hxy
      refine List.Pairwise.cons (fun z hz => ?_) h
      rcases List.mem_cons.mp hz with e | hz
      · rw [e]; exact hxy
      · exact leS_trans hxy (h1 z hz)
    · rename_i hxy
      refine List.Pairwise.cons (fun z hz => ?_) (put1_pw h2)
      rcases List.mem_cons.mp ((put1_perm x r).mem_iff.mp hz) with e | hz
      · rw [e]; exact leS_total hxy
      · exact h1 z hz
theorem srt_pw : ∀ l : List Str, (srt l).Pairwise leS
  | [] => .nil
  | _ :: r => put1_pw (srt_pw r)
theorem srt_of {ys xs : List Str} (p : ys.Perm xs) (s : sortedS ys = true) : ys = srt xs := pw_unique (sorted_pw s) (srt_pw xs) (p.trans (srt_perm xs).symm)
theorem srt_congr {xs ys : List Str} (p : xs.Perm ys) : srt xs = srt ys := pw_unique (srt_pw xs) (srt_pw ys) ((srt_perm xs).trans (p.trans (srt_perm ys).symm))
theorem srt_mem {x : Str} {l : List Str} : x ∈ srt l ↔ x ∈ l := (srt_perm l).mem_iff
theorem srt_len (l : List Str) : (srt l).length = l.length := (srt_perm l).length_eq
theorem srt_nodup {l : List Str} (h : l.Nodup) : (srt l).Nodup := (srt_perm l).nodup_iff.mpr h
theorem nodup_le : ∀ {xs ys : List Str}, xs.Nodup → (∀ x ∈ xs, x ∈ ys) → xs.length ≤ ys.length
  | [], _, _, _ => Nat.zero_le _
  | a :: xs, ys, n, m => by
    obtain ⟨n1, n2⟩ := List.nodup_cons.mp n
    have ha : a ∈ ys := m a List.mem_cons_self
    have z := nodup_le (xs := xs) (ys := ys.erase a) n2 fun x hx => (List.mem_erase_of_ne (fun e : x = a => n1 (e ▸ hx))).mpr (m x (List.mem_cons_of_mem _ hx))
    rw [List.length_erase_of_mem ha] at z
    have p : 0 < ys.length := List.length_pos_of_mem ha
    rw [List.length_cons]
    omega
theorem srt_same {xs ys : List Str} (h1 : xs.Nodup) (h2 : ys.Nodup) (h : ∀ x, x ∈ xs ↔ x ∈ ys) : srt xs = srt ys := by
  refine srt_congr (STX.perm_of_nodup h2 (fun x hx => (h x).mpr hx) ?_)
  refine Nat.le_antisymm ?_ ?_
  · exact nodup_le h1 fun x hx => (h x).mp hx
  · exact nodup_le h2 fun x hx => (h x).mpr hx
end PG


set_option Elab.async false
set_option linter.all false
set_option maxRecDepth 100000
set_option maxHeartbeats 4000000
namespace PG
open PySem L2
def txs : List V → List Str
  | .str x :: r => x :: txs r
  | _ :: r => txs r
  | [] => []
theorem txs_map : ∀ ws : List Str, txs (ws.map V.str) = ws
  | [] => rfl
  | w :: ws => congrArg (w :: ·) (txs_map ws)
/-- what is_among says of an item -/
def AmIs (K : PySem.W.Frag) (H : Hp) (ws : List Str) (v : V) (b : Bool) : Prop :=
  (∃ x, v = .str x ∧ b = decide (x ∈ ws)) ∨ (∃ t, TyX K H v t ∧ PySem.W.kitOne K t (.type "str") = some false ∧ b = false)
theorem AmIs.same {K : PySem.W.Frag} {H H' : Hp} {ws : List Str} {v : V} {b : Bool} (h : AmIs K H ws v b) (s : Same H H') : AmIs K H' ws v b := by
  rcases h with h | ⟨t, h, k, e⟩
  · exact .inl h
  · exact .inr ⟨t, TyX.same h s, k, e⟩
theorem sqL_same {K : PySem.W.Frag} {H H' : Hp} {a : Addr} {xs : List V} (h : SqL K H a xs) (s : Same H H') : SqL K H' a xs := by
  rcases h with (h | ⟨o, h⟩) | h
  · exact .inl (.inl (s _ _ h))
  · exact .inl (.inr ⟨o, s _ _ h⟩)
  · exact .inr h
theorem am_texts {K : PySem.W.Frag} {H : Hp} {ws : List Str} : ∀ {xs : List V} {bs : List Bool}, Paired (AmIs K H ws) xs bs → bs.all id = true → xs = (txs xs).map V.str
  | _, _, .nil, _ => rfl
  | _, _, .cons (a := v) (b := b) r rs, h => by
    rw [List.all_cons, Bool.and_eq_true] at h
    rcases r with ⟨x, rfl, e⟩ | ⟨t, _, _, e⟩
    · show V.str x :: _ = V.str x :: _
      exact congrArg _ (am_texts rs h.2)
    · rw [e] at h
      exact absurd h.1 (by decide)
section
variable {P : Program} {w : World} {K : PySem.W.Frag} {mg : Str → Option Value} {base : Heap}
abbrev nsExits : List Str := ["value", "places", "place"]
theorem scExits : FnScope nsExits ["value", "places"] (defScope sExits) := ⟨rfl, rfl, rfl, by decide +kernel, rfl, by decide +kernel, by decide +kernel⟩
def spExits (K : PySem.W.Frag) : Sp := fun vs H Q _ => ∃ (v : V) (a : Addr) (ws : List Str), vs = [v, .ref a] ∧ SqL K H a (ws.map V.str) ∧
  ((∃ (l : Addr) (xs : List V) (bs : List Bool), v = .ref l ∧ H l = some (.lst xs) ∧ xs.length < 1000 ∧ Paired (AmIs K H ws) xs bs ∧ ∀ H', Same H H' → Q (.bl (!xs.isEmpty && (bs.all id && decide (txs xs).Nodup))) H') ∨
   (∃ t, TyX K H v t ∧ PySem.W.kitOne K t (.type "list") = some false ∧ Q (.bl false) H))
theorem ok_exits {f fA : Addr} {fd fdA : FuncData} (F : Fun K "are_exits" "are_exits" sExits f fd) (T : PT0 mg) (FA : Fun K "is_among" "is_among" sAmong fA fdA) (bA : Binds K fdA ["value", "words"] []) (gA : mg "is_among" = some (.ref fA)) : FnOk P w K mg base CX0 2 f fd ["value", "places"] (spExits K) := by
  have GA : FnOk P w K mg base CX0 1 fA fdA ["value", "words"] (spAmong K) := ok_among FA T
  refine F.ok scExits (fun vs H Q E h => ?_) (fun cdv A outer s H vs Q E hr h => ?_)
  · obtain ⟨v, a, ws, rfl, _⟩ := h
    rfl
  · obtain ⟨v, a, ws, rfl, hS, h⟩ := h
    refine ⟨_, pss_cons (ps_if (PW.pt (pw_or (pt_not (pt_val (pe_callB call_isi (by rfl) T.isi PyProof.Rows.boot_isinstance (pa_cons (pv 0) (pa_cons (pe_bltn (v := .ty "list") rfl T.list (by decide +kernel) rfl) pa_nil)))))
        (pw_or1 (pt_not (pt_truth (pv 0) (fun _ => rfl)))))) (pss_one (ps_ret pe_bl)) pss_nil)
      (pss_one (ps_ret (pe_and (pe_callB (cr_all rfl) (by rfl) T.all PyProof.Rows.boot_all (pa_cons (pe_lc (own := [("place", 2)]) (g := gName 2) (tt := tYes) rfl scExits.nd (pi_list (pv 0)) (blkOk_by (own := [("place", 2)]) (N := nsExits) (sc := defScope sExits) (by decide +kernel)) (fun _ _ _ _ _ => pg_name (i := 2) scExits.nd rfl (Or.inl rfl)) (fun _ _ _ _ _ => pts_nil)
        (fun _ _ _ _ _ => pe_call GA hr (by rfl) gA FA.kp bA .nil pass0 (pa_cons (pv 2) (pa_cons (pv 1) pa_nil)))) pa_nil))
        (pe_one (pe_cmpR op_eq (STX.pe_lenTx rfl (by rfl) T.len (by rfl) T.set (pv 0)) (pe_callB call_len_seq (by rfl) T.len PySem.boot_len (pa_cons (pv 0) pa_nil)) (nomark _)))))), ?_⟩
    rcases h with ⟨l, xs, bs, rfl, hl, hz, hI, k⟩ | ⟨t, ht, hk, q⟩
    · refine ⟨_, rfl, .ref l, .ty "list", _, _, true, rfl, .ty "list", .base (.lst hl), kit_ty (by decide +kernel), _, rfl, iteF ?_⟩
      have lb : bs.length = xs.length := (Paired.length hI).symm
      refine ⟨_, rfl, !xs.isEmpty, .inl ⟨xs, SqL.of hl, rfl⟩, iteB (fun h0 => ?_) (fun h0 => ?_)⟩
      · have e0 : xs.isEmpty = true := by simpa using h0
        have q := k H (Same.refl H)
        rw [e0] at q
        exact q
      · have e0 : xs.isEmpty = false := by simpa using h0
        refine ⟨_, rfl, l, rfl, ⟨xs, SqL.of hl⟩, fun D nD => lc_it walk_list (fun i H' => Same H H' ∧ H' D = some (.lst ((bs.take i).map V.bl))) ⟨sm nD, upd_same⟩ (fun i H' _ p => SqL.of (p.1 _ _ hl)) ?_ ?_⟩
        · rintro i y H1 H2 hi ⟨s1, hD1⟩ ⟨rfl, hy⟩
          obtain ⟨b, hb, hA⟩ := paired_at hI hy
          refine ⟨rfl, ?_⟩
          unfold tYes
          dsimp only
          rw [if_pos rfl]
          refine ⟨_, rfl, _, rfl, y, a, rfl, ?_⟩
          have fin : ∃ acc, H2 D = some (.lst acc) ∧ acc.length < sizeLine ∧ Same H (upd H2 D (.lst (acc ++ [V.bl b]))) ∧ (upd H2 D (.lst (acc ++ [V.bl b]))) D = some (.lst ((bs.take (i + 1)).map V.bl)) := by
            refine ⟨_, hD1, ?_, fun c o e => ?_, ?_⟩
            · rw [List.length_map]
              have := List.length_take_le i bs
              refine small1000 (Nat.le_trans (List.length_take_le' i bs) (by omega))
            · rw [upd_ne (ne_of_none e nD)]
              exact s1 c o e
            · rw [upd_same, List.take_add_one, hb, List.map_append]
              rfl
          rcases hA with ⟨x, rfl, eb⟩ | ⟨t, ht, hk, eb⟩
          · refine .inl ⟨x, ws, rfl, sqL_same hS s1, ?_⟩
            rw [eb] at fin
            exact fin
          · refine .inr (.inr ⟨t, TyX.same ht s1, hk, ?_⟩)
            rw [eb] at fin
            exact fin
        · rintro H1 ⟨s1, hD1⟩
          refine ⟨D, _, rfl, SqL.of (xs := bs.map V.bl) (by rw [hD1, ← lb, List.take_length]), _, rfl, ?_⟩
          have q := k H1 s1
          rw [e0] at q
          refine iteB (fun hb => ?_) (fun hb => ?_)
          · rw [hb] at q
            have ex := am_texts hI hb
            have hl1 : SqL K H1 l ((txs xs).map V.str) := by rw [← ex]; exact SqL.of (s1 _ _ hl)
            have lx : (txs xs).length = xs.length := by have z := congrArg List.length ex; rw [List.length_map] at z; exact z.symm
            refine ⟨_, rfl, l, txs xs, rfl, hl1, by omega, _, rfl, l, _, rfl, .inl hl1, ?_⟩
            have e1 := STX.insAll_eq (txs xs)
            rw [← e1] at q
            have q2 : Q (.bl (decide (((STX.insAll (txs xs) []).length : Int) = ((txs xs).length : Int)))) H1 := q
            refine ⟨rfl, ?_⟩
            rw [List.length_map]
            have e3 : decide (V.int ((STX.insAll (txs xs) []).length : Int) = V.int ((txs xs).length : Int)) = decide (((STX.insAll (txs xs) []).length : Int) = ((txs xs).length : Int)) := by
              rw [decide_eq_decide]
              exact ⟨fun z => by injection z, fun z => by rw [z]⟩
            rw [e3]
            exact q2
          · rw [hb] at q
            exact q
    · exact ⟨_, rfl, v, .ty "list", _, _, false, rfl, .ty "list", ht, hk, _, rfl, iteT (iteT q)⟩
end
end PG


set_option Elab.async false
set_option linter.all false
set_option maxRecDepth 100000
set_option maxHeartbeats 4000000
namespace PG
open PySem L2
/-! ### what can be come to -/
inductive Rch (ps : List Str) (prs : List (Str × Str)) : Str → Prop where
  | base {x : Str} (h : x ∈ ps) : Rch ps prs x
  | step {x y : Str} (h : Rch ps prs x) (m : (x, y) ∈ prs) : Rch ps prs y
structure RI (ps : List Str) (prs : List (Str × Str)) (fs : List Str) (i : Nat) : Prop where
  nd : fs.Nodup
  sub : ∀ x ∈ ps, x ∈ fs
  rch : ∀ x ∈ fs, Rch ps prs x
  done : ∀ j, j < i → ∀ x, fs[j]? = some x → ∀ y, (x, y) ∈ prs → y ∈ fs
theorem Rch.mem {ps : List Str} {prs : List (Str × Str)} {x : Str} (h : Rch ps prs x) : x ∈ ps ++ prs.map Prod.snd := by
  cases h with
  | base h => exact List.mem_append_left _ h
  | step _ m => exact List.mem_append_right _ (List.mem_map.mpr ⟨_, m, rfl⟩)
theorem RI.len {ps : List Str} {prs : List (Str × Str)} {fs : List Str} {i : Nat} (h : RI ps prs fs i) : fs.length ≤ ps.length + prs.length := by
  have z := nodup_le h.nd fun x hx => (h.rch x hx).mem
  rwa [List.length_append, List.length_map] at z
theorem RI.add {ps : List Str} {prs : List (Str × Str)} {fs : List Str} {i : Nat} {y : Str} (h : RI ps prs fs i) (hi : i ≤ fs.length) (n : y ∉ fs) (r : Rch ps prs y) : RI ps prs (fs ++ [y]) i where
  nd := List.nodup_append.mpr ⟨h.nd, List.nodup_cons.mpr ⟨List.not_mem_nil, List.nodup_nil⟩, fun a ha b hb e => by rw [List.mem_singleton.mp hb] at e; exact n (e ▸ ha)⟩
  sub := fun x hx => List.mem_append_left _ (h.sub x hx)
  rch := fun x hx => by
    rcases List.mem_append.mp hx with z | z
    · exact h.rch x z
    · rw [List.mem_singleton.mp z]; exact r
  done := fun j hj x hx z hz => by
    rw [List.getElem?_append_left (by omega)] at hx
    exact List.mem_append_left _ (h.done j hj x hx z hz)
theorem RI.start {ps : List Str} {prs : List (Str × Str)} (h : ps.Nodup) : RI ps prs ps 0 := ⟨h, fun _ z => z, fun _ z => .base z, fun j z => absurd z (Nat.not_lt_zero j)⟩
/-- the end: all that can be come to, each once -/
theorem RI.fin {ps : List Str} {prs : List (Str × Str)} {fs : List Str} {i : Nat} (h : RI ps prs fs i) (hi : fs.length ≤ i) (x : Str) : x ∈ fs ↔ Rch ps prs x := by
  refine ⟨h.rch x, fun r => ?_⟩
  induction r with
  | base m => exact h.sub _ m
  | @step a b _ m ih =>
    obtain ⟨j, hj, e⟩ := List.getElem_of_mem ih
    exact h.done j (by omega) a (by rw [List.getElem?_eq_getElem hj, e]) b m
section
variable {P : Program} {w : World} {K : PySem.W.Frag} {mg : Str → Option Value} {base : Heap}
abbrev nsReach : List Str := ["places", "pairs", "found", "looked_at", "source", "goal"]
theorem scReach : FnScope nsReach ["places", "pairs"] (defScope sReach) := ⟨rfl, rfl, rfl, by decide +kernel, rfl, by decide +kernel, by decide +kernel⟩
def TwoAt (K : PySem.W.Frag) (H : Hp) (v : V) (pr : Str × Str) : Prop := ∃ t, v = .ref t ∧ SqT K H t [.str pr.1, .str pr.2]
def spReach (K : PySem.W.Frag) : Sp := fun vs H Q _ => ∃ (a b : Addr) (ps : List Str) (ts : List V) (prs : List (Str × Str)), vs = [.ref a, .ref b] ∧ SqL K H a (ps.map V.str) ∧ SqL K H b ts ∧ Paired (TwoAt K H) ts prs ∧ ps.Nodup ∧ ps.length + prs.length ≤ 500 ∧
  ∀ (p : Addr) (fs : List Str) (H' : Hp), H p = none → fs.Nodup → (∀ x, x ∈ fs ↔ Rch ps prs x) → Same H H' → H' p = some (.lst (fs.map V.str)) → Q (.ref p) H'
def looked (σ : L2.St) : Nat := match σ[3]? with
  | some (some (V.int i)) => i.toNat
  | _ => 0
def ReW (H : Hp) (a b p : Addr) (ps : List Str) (prs : List (Str × Str)) (σ : L2.St) (H' : Hp) (i : Nat) (fs : List Str) : Prop :=
  (∃ s4 s5, σ = [some (.ref a), some (.ref b), some (.ref p), some (.int (i : Nat)), s4, s5]) ∧ Same H H' ∧ H' p = some (.lst (fs.map V.str)) ∧ RI ps prs fs i ∧ i ≤ fs.length
theorem ok_reach {f : Addr} {fd : FuncData} (F : Fun K "reached_from" "reached_from" sReach f fd) (T : PT0 mg) : FnOk P w K mg base CX0 1 f fd ["places", "pairs"] (spReach K) := by
  refine F.ok scReach (fun vs H Q E h => ?_) (fun cdv A outer s H vs Q E hr h => ?_)
  · obtain ⟨a, b, ps, ts, prs, rfl, _⟩ := h
    rfl
  · obtain ⟨a, b, ps, ts, prs, rfl, hA, hB, hP, hN, hz, k⟩ := h
    have nd := scReach.nd
    refine ⟨_, pss_cons (ps_set (i := 2) nd rfl (Or.inl rfl) (pe_callTy call_list_of (by rfl) T.list PyProof.Rows.boot_list (pa_cons (pv 0) pa_nil)))
      (pss_cons (ps_set (i := 3) nd rfl (Or.inl rfl) pe_int)
      (pss_cons (ps_while PassesOwn.never (pt_cmpR op_lt (pv 3) (pe_callB call_len_seq (by rfl) T.len PySem.boot_len (pa_cons (pv 2) pa_nil)) (nomark _))
        (pss_cons (ps_for PassesOwn.never rfl (pi_list (pv 1)) (pg_tup rfl (pgs_cons (pg_name (i := 4) nd rfl (Or.inl rfl)) (pgs_cons (pg_name (i := 5) nd rfl (Or.inl rfl)) pgs_nil)))
          (pss_one (ps_if (PW.pt (pw_and (pt_cmpR op_eq (pv 4) (pe_ix ix_list (pv 2) (pv 3) (fun _ _ => rfl)) (nomark _)) (pw_and1 (pt_cmpR op_notIn_seq (pv 5) (pv 2) rfl))))
            (pss_one (ps_expr (pe_bm PySem.F.plainAttrs_list PySem.F.slot_list_append PySem.F.type_list_append mt_append (pv 2) (pa_cons (pv 5) pa_nil)))) pss_nil)))
        (pss_one (ps_aug (i := 3) nd rfl (Or.inl rfl) pe_int ip_add))))
      (pss_one (ps_ret (pv 2))))), ?_⟩
    refine ⟨_, rfl, a, _, rfl, .inl hA, fun p np => ?_⟩
    refine while_by (fun σ H' => ∃ i fs, ReW H a b p ps prs σ H' i fs) (fun σ H' => 600 - looked σ) ?_ ?_ ?_
    · exact ⟨0, ps, ⟨none, none, rfl⟩, sm np, upd_same, RI.start hN, Nat.zero_le _⟩
    · rintro σ H1 ⟨i, fs, ⟨s4, s5, rfl⟩, s1, h1, R, hi⟩
      have lf := R.len
      refine ⟨_, rfl, _, rfl, p, _, rfl, .inl (SqL.of h1), _, _, rfl, rfl, _, rfl, ite2 (fun hlt => ?_) (fun hlt => ?_)⟩
      · have lt : i < fs.length := by
          have z := of_decide_eq_true hlt
          rw [List.length_map] at z
          omega
        obtain ⟨c, hc⟩ : ∃ c, fs[i]? = some c := ⟨_, List.getElem?_eq_getElem lt⟩
        refine ⟨_, rfl, b, rfl, ⟨ts, sqL_same hB s1⟩, for_it walk_list (fun j σ' H' => ∃ fs', ReW H a b p ps prs σ' H' i fs' ∧ i < fs'.length ∧ fs'[i]? = some c ∧ ∀ x y, (x, y) ∈ prs.take j → x = c → y ∈ fs') ⟨fs, ⟨⟨s4, s5, rfl⟩, s1, h1, R, hi⟩, lt, hc, fun x y z => by simp at z⟩ (fun j σ' H' _ ⟨fs', q, _⟩ => sqL_same hB q.2.1) ?_ ?_⟩
        · rintro j v σ2 H2 H3 hj ⟨fs2, ⟨⟨t4, t5, rfl⟩, s2, h2, R2, hi2⟩, lt2, hc2, hd2⟩ ⟨rfl, hv⟩
          obtain ⟨⟨x, y⟩, hxy, t, rfl, ht⟩ := paired_at hP hv
          have l2 := R2.len
          have mx : (x, y) ∈ prs := List.mem_of_getElem? hxy
          have tk : ∀ {fs3 : List Str}, (∀ x y, (x, y) ∈ prs.take j → x = c → y ∈ fs3) → (x = c → y ∈ fs3) → ∀ x y, (x, y) ∈ prs.take (j + 1) → x = c → y ∈ fs3 := fun g1 g2 u v m e => by
            rw [List.take_add_one, hxy] at m
            rcases List.mem_append.mp m with m | m
            · exact g1 u v m e
            · obtain ⟨rfl, rfl⟩ := Prod.mk.inj (List.mem_singleton.mp m)
              exact g2 e
          refine ⟨t, _, rfl, sqT_same ht s2, rfl, _, _, rfl, _, _, rfl, rfl, ?_⟩
          refine ⟨_, rfl, _, rfl, _, rfl, p, _, _, _, rfl, rfl, SqL.of h2, atI_nat (j := i) (by rw [List.getElem?_map, hc2]; rfl), rfl, _, rfl, ?_⟩
          refine ite2 (fun he => ?_) (fun he => ?_)
          · have exc : x = c := by
              have z := of_decide_eq_true he
              injection z
            refine ⟨_, rfl, _, rfl, p, _, rfl, .inl (SqL.of h2), rfl, flat_strs _, _, rfl, ?_⟩
            rw [if_pos rfl, inV_strs]
            refine iteB (fun hn => ?_) (fun hn => ?_)
            · have ny : y ∉ fs2 := by simpa using hn
              refine ⟨_, rfl, .inl ⟨rfl, _, SqL.of h2⟩, _, rfl, p, _, _, rfl, rfl, h2, ?_, ?_⟩
              · rw [List.length_map]; exact small1000 (by omega)
              · refine ⟨fs2 ++ [y], ⟨⟨_, _, rfl⟩, ?_, ?_, R2.add hi2 ny (.step (R2.rch c (List.mem_of_getElem? hc2)) (exc ▸ mx)), by rw [List.length_append]; omega⟩, by rw [List.length_append]; omega, by rw [List.getElem?_append_left lt2]; exact hc2, ?_⟩
                · intro q o e
                  rw [upd_ne (ne_of_none e np)]
                  exact s2 q o e
                · rw [upd_same, List.map_append]
                  rfl
                · exact tk (fun u v m e => List.mem_append_left _ (hd2 u v m e)) (fun _ => List.mem_append_right _ List.mem_cons_self)
            · have yy : y ∈ fs2 := by simpa using hn
              exact ⟨fs2, ⟨⟨_, _, rfl⟩, s2, h2, R2, hi2⟩, lt2, hc2, tk hd2 (fun _ => yy)⟩
          · have nxc : x ≠ c := fun z => he (decide_eq_true (by rw [z]))
            exact ⟨fs2, ⟨⟨_, _, rfl⟩, s2, h2, R2, hi2⟩, lt2, hc2, tk hd2 (fun z => absurd z nxc)⟩
        · rintro σ2 H2 ⟨fs2, ⟨⟨t4, t5, rfl⟩, s2, h2, R2, hi2⟩, lt2, hc2, hd2⟩
          have e : prs.take ts.length = prs := by rw [Paired.length hP, List.take_length]
          rw [e] at hd2
          refine ⟨_, rfl, _, _, rfl, rfl, ⟨i + 1, fs2, ⟨⟨_, _, rfl⟩, s2, h2, ⟨R2.nd, R2.sub, R2.rch, fun j hj x hx y m => ?_⟩, lt2⟩⟩, ?_⟩
          · by_cases z : j < i
            · exact R2.done j z x hx y m
            · have ej : j = i := by omega
              subst ej
              rw [hc2] at hx
              exact hd2 x y m (Option.some.inj hx).symm
          · have l2 := R2.len
            show 600 - ((i : Int) + 1).toNat < 600 - (i : Int).toNat
            omega
      · refine ⟨_, rfl, ?_⟩
        have ge : fs.length ≤ i := by
          have z : ¬ ((i : Int) < ((fs.map V.str).length : Int)) := fun z => hlt (decide_eq_true z)
          rw [List.length_map] at z
          omega
        exact k p fs H1 np R.nd (R.fin ge) s1 h1
    · intro σ H1 Q1 Q2 hq h
      obtain ⟨v, e, v2, e2, p2, xs, e3, hp, i, j, ei, ej, b, eb, h⟩ := h
      exact ⟨v, e, v2, e2, p2, xs, e3, hp, i, j, ei, ej, b, eb, hq _ _ h⟩
end
end PG


set_option Elab.async false
set_option linter.all false
set_option maxRecDepth 100000
set_option maxHeartbeats 4000000
namespace PG
open PySem L2
/-! ### links -/
abbrev Lk := Str × Str × Str
def ends (ls : List Lk) : List Str := ls.flatMap fun l => [l.2.1, l.2.2]
def keysL (ls : List Lk) : List Str := ls.map (·.1)
def plc (ls : List Lk) : List Str := srt (STX.insAll (ends ls) [])
def lkp : List Lk → Str → Str × Str
  | [], _ => (Str.empty, Str.empty)
  | l :: r, w => if l.1 = w then l.2 else lkp r w
def srtL (ls : List Lk) : List Lk := (srt (keysL ls)).map fun w => (w, lkp ls w)
theorem lkp_mem : ∀ {ls : List Lk} {w : Str}, w ∈ keysL ls → (w, lkp ls w) ∈ ls
  | [], _, h => nomatch h
  | l :: r, w, h => by
    unfold lkp
    by_cases e : l.1 = w
    · rw [if_pos e, ← e]
      exact List.mem_cons_self
    · rw [if_neg e]
      rcases List.mem_cons.mp h with z | z
      · exact absurd z.symm e
      · exact List.mem_cons_of_mem _ (lkp_mem z)
theorem key_mem {ls : List Lk} {l : Lk} (h : l ∈ ls) : l.1 ∈ keysL ls := List.mem_map.mpr ⟨l, h, rfl⟩
theorem lkp_of : ∀ {ls : List Lk} {l : Lk}, (keysL ls).Nodup → l ∈ ls → lkp ls l.1 = l.2
  | [], _, _, h => nomatch h
  | a :: r, l, n, h => by
    obtain ⟨n1, n2⟩ := List.nodup_cons.mp n
    unfold lkp
    rcases List.mem_cons.mp h with z | z
    · rw [z, if_pos rfl]
    · rw [if_neg fun e => n1 (by show a.1 ∈ keysL r; rw [e]; exact key_mem z), lkp_of n2 z]
theorem srtL_keys (ls : List Lk) : keysL (srtL ls) = srt (keysL ls) := by
  unfold srtL
  show List.map _ (List.map _ _) = _
  rw [List.map_map]
  exact List.map_id' _
theorem srtL_mem {ls : List Lk} (n : (keysL ls).Nodup) {l : Lk} : l ∈ srtL ls ↔ l ∈ ls := by
  unfold srtL
  rw [List.mem_map]
  constructor
  · rintro ⟨w, hw, rfl⟩
    exact lkp_mem (srt_mem.mp hw)
  · intro h
    exact ⟨l.1, srt_mem.mpr (key_mem h), by rw [lkp_of n h]⟩
theorem srtL_len (ls : List Lk) : (srtL ls).length = ls.length := by
  unfold srtL
  rw [List.length_map, srt_len]
  exact List.length_map _
theorem srtL_nodup {ls : List Lk} (n : (keysL ls).Nodup) : (keysL (srtL ls)).Nodup := by
  rw [srtL_keys]
  exact srt_nodup n
theorem srtL_lkp {ls : List Lk} (n : (keysL ls).Nodup) {w : Str} (h : w ∈ keysL ls) : lkp (srtL ls) w = lkp ls w :=
  lkp_of (srtL_nodup n) ((srtL_mem n).mpr (lkp_mem h))
theorem ends_mem {ls : List Lk} {x : Str} : x ∈ ends ls ↔ ∃ l ∈ ls, x = l.2.1 ∨ x = l.2.2 := by
  unfold ends
  rw [List.mem_flatMap]
  constructor
  · rintro ⟨l, hl, h⟩
    refine ⟨l, hl, ?_⟩
    rcases List.mem_cons.mp h with z | z
    · exact .inl z
    · exact .inr (List.mem_singleton.mp z)
  · rintro ⟨l, hl, h | h⟩
    · exact ⟨l, hl, by rw [h]; exact List.mem_cons_self⟩
    · exact ⟨l, hl, by rw [h]; exact List.mem_cons_of_mem _ List.mem_cons_self⟩
theorem insAll_nd : ∀ {ws l : List Str}, l.Nodup → (STX.insAll ws l).Nodup
  | [], _, h => h
  | k :: ws, l, h => by
    refine insAll_nd (ws := ws) ?_
    unfold STX.ins
    split
    · exact h
    · rename_i z
      exact List.nodup_cons.mpr ⟨z, h⟩
theorem plc_mem {ls : List Lk} {x : Str} : x ∈ plc ls ↔ x ∈ ends ls := by
  unfold plc
  rw [srt_mem, STX.insAll_mem]
  exact ⟨fun h => h.elim id fun z => (nomatch z), .inl⟩
theorem plc_nodup (ls : List Lk) : (plc ls).Nodup := srt_nodup (insAll_nd List.nodup_nil)
theorem plc_congr {ls ls' : List Lk} (h : ∀ l, l ∈ ls ↔ l ∈ ls') : plc ls = plc ls' := by
  refine srt_same (insAll_nd List.nodup_nil) (insAll_nd List.nodup_nil) fun x => ?_
  rw [STX.insAll_mem, STX.insAll_mem, ends_mem, ends_mem]
  constructor
  · rintro (⟨l, hl, z⟩ | z)
    · exact .inl ⟨l, (h l).mp hl, z⟩
    · exact nomatch z
  · rintro (⟨l, hl, z⟩ | z)
    · exact .inl ⟨l, (h l).mpr hl, z⟩
    · exact nomatch z
theorem plc_srtL {ls : List Lk} (n : (keysL ls).Nodup) : plc (srtL ls) = plc ls := plc_congr fun _ => srtL_mem n
/-! ### links in the heap -/
def LkAt (K : PySem.W.Frag) (H : Hp) (kv : Key × V) (l : Lk) : Prop := kv.1 = Sum.inr l.1 ∧ TwoAt K H kv.2 l.2
abbrev Lks (K : PySem.W.Frag) (H : Hp) (kvs : List (Key × V)) (ls : List Lk) : Prop := Paired (LkAt K H) kvs ls
theorem Paired.imp {α β : Type} {R S : α → β → Prop} (h : ∀ a b, R a b → S a b) : ∀ {xs : List α} {ys : List β}, Paired R xs ys → Paired S xs ys
  | _, _, .nil => .nil
  | _, _, .cons r rs => .cons (h _ _ r) (Paired.imp h rs)
theorem paired_snoc {α β : Type} {R : α → β → Prop} {a : α} {b : β} : ∀ {xs : List α} {ys : List β}, Paired R xs ys → R a b → Paired R (xs ++ [a]) (ys ++ [b])
  | _, _, .nil, h => .cons h .nil
  | _, _, .cons r rs, h => .cons r (paired_snoc rs h)
theorem TwoAt.same {K : PySem.W.Frag} {H H' : Hp} {v : V} {p : Str × Str} (h : TwoAt K H v p) (s : Same H H') : TwoAt K H' v p := by
  obtain ⟨t, e, h⟩ := h
  exact ⟨t, e, sqT_same h s⟩
theorem Lks.same {K : PySem.W.Frag} {H H' : Hp} {kvs : List (Key × V)} {ls : List Lk} (h : Lks K H kvs ls) (s : Same H H') : Lks K H' kvs ls := Paired.imp (fun _ _ q => ⟨q.1, q.2.same s⟩) h
theorem Lks.lock {K : PySem.W.Frag} {H : Hp} {a : Addr} {od : Obj} {k2 kvs : List (Key × V)} {ls : List Lk} (h : Lks K H kvs ls) (ha : H a = some (.dK k2)) : Lks K (upd H a (.frz od (.dK k2))) kvs ls :=
  Paired.imp (fun _ _ q => by
    obtain ⟨e, t, e2, z⟩ := q
    exact ⟨e, t, e2, sqT_lock z ha⟩) h
theorem lks_val {K : PySem.W.Frag} {H : Hp} {w : Str} : ∀ {kvs : List (Key × V)} {ls : List Lk}, Lks K H kvs ls → w ∈ keysL ls → ∃ t, valV kvs (Sum.inr w : Key) = some (.ref t) ∧ SqT K H t [.str (lkp ls w).1, .str (lkp ls w).2]
  | _, _, .nil, h => nomatch h
  | _, _, .cons (a := kv) (b := l) ⟨e, t, e2, z⟩ rs, h => by
    unfold lkp
    by_cases c : l.1 = w
    · refine ⟨t, by rw [valV_pos (by rw [e, c]), e2], ?_⟩
      rw [if_pos c]
      exact z
    · rcases List.mem_cons.mp h with y | y
      · exact absurd y.symm c
      · obtain ⟨t', h1, h2⟩ := lks_val rs y
        refine ⟨t', by rw [valV_neg (by rw [e]; exact fun q => c (Sum.inr.inj q)), h1], ?_⟩
        rw [if_neg c]
        exact h2
theorem lks_keys {K : PySem.W.Frag} {H : Hp} : ∀ {kvs : List (Key × V)} {ls : List Lk}, Lks K H kvs ls → kvs.map (·.1) = (keysL ls).map Sum.inr
  | _, _, .nil => rfl
  | _, _, .cons ⟨e, _⟩ rs => by
    rw [List.map_cons, e, lks_keys rs]
    rfl
theorem lks_none {K : PySem.W.Frag} {H : Hp} {w : Str} : ∀ {kvs : List (Key × V)} {ls : List Lk}, Lks K H kvs ls → w ∉ keysL ls → valV kvs (Sum.inr w : Key) = none
  | _, _, .nil, _ => rfl
  | _, _, .cons (a := kv) (b := l) ⟨e, _⟩ rs, h => by
    rw [valV_neg (by rw [e]; exact fun q => h (List.mem_cons.mpr (.inl (Sum.inr.inj q).symm)))]
    exact lks_none rs fun z => h (List.mem_cons_of_mem _ z)
/-! ### programs in the heap -/
structure PD where
  ls : List Lk
  ps : List Str
  b : Str
  fs : List Str
def pdOf (ls : List Lk) (b : Str) (es : List Str) : PD := ⟨srtL ls, plc ls, b, srt es⟩
structure ProgAt (K : PySem.W.Frag) (C : Addr) (H : Hp) (x dx L S F : Addr) (d : PD) : Prop where
  ins : H x = some (.ins C dx [("links", .ref L), ("spots", .ref S), ("origin", .str d.b), ("finals", .ref F)])
  lk : ∃ kvs, H L = some (.dK kvs) ∧ Lks K H kvs d.ls
  sp : H S = some (.lst (d.ps.map V.str))
  fi : H F = some (.lst (d.fs.map V.str))
theorem ProgAt.same {K : PySem.W.Frag} {C : Addr} {H H' : Hp} {x dx L S F : Addr} {d : PD} (h : ProgAt K C H x dx L S F d) (s : Same H H') : ProgAt K C H' x dx L S F d := by
  obtain ⟨i, ⟨kvs, l, lk⟩, p, f⟩ := h
  exact ⟨s _ _ i, ⟨kvs, s _ _ l, lk.same s⟩, s _ _ p, s _ _ f⟩
structure GoodP (ls : List Lk) (b : Str) (es : List Str) : Prop where
  n1 : 1 ≤ ls.length
  n2 : ls.length ≤ 40
  sm : (plc ls).length < 64
  nd : (keysL ls).Nodup
  wd : ∀ l ∈ ls, isWord l.1 = true ∧ isWord l.2.1 = true ∧ isWord l.2.2 = true
  hb : b ∈ ends ls
  he : es ≠ []
  hs : ∀ e ∈ es, e ∈ ends ls
  hn : es.Nodup
  reach : ∀ x ∈ ends ls, Rch [b] (ls.map (·.2)) x
  leave : ∀ x ∈ ends ls, Rch es (ls.map fun l => (l.2.2, l.2.1)) x
theorem Rch.mono {ps ps' : List Str} {prs prs' : List (Str × Str)} (h1 : ∀ x ∈ ps, x ∈ ps') (h2 : ∀ p ∈ prs, p ∈ prs') {x : Str} (h : Rch ps prs x) : Rch ps' prs' x := by
  induction h with
  | base h => exact .base (h1 _ h)
  | step _ m ih => exact .step ih (h2 _ m)
theorem ps_dead {X : Cx} {st : Stmt} : PS X st (fun _ _ _ => False) := ⟨fun _ _ _ _ _ _ h => h.elim⟩
theorem pss_dead {X : Cx} {sts : List Stmt} : PSs X sts (fun _ _ _ => False) := ⟨fun _ _ _ _ _ _ h => h.elim⟩
theorem iteNF {A B : Prop} (h : B) : if (!true) = true then A else B := h
/-! ### comprehensions whose turns keep the heap -/
theorem lc_keep {J : It} {n : Nat} {G : Hp → Prop} {Y : Nat → Hp → V → Hp → Prop} (w : Walk J n G Y) {g : TG} {tt : TT} {te : TE} {vs : List Nat} {σ : L2.St} {H1 : Hp} {D : Addr} {Qd : Hp → Prop} (nD : H1 D = none) (out : Nat → List V) (o0 : out 0 = []) (ol : ∀ i, i ≤ n → (out i).length ≤ 1000) (hG : ∀ H, Same H1 H → G H)
    (hs : ∀ i x H H' (Pn : Hp → Prop), i < n → Same H1 H → Y i H x H' → (∀ H4 y, Same H H4 → out (i + 1) = out i ++ [y] → ∃ acc, H4 D = some (.lst acc) ∧ acc.length < sizeLine ∧ Pn (upd H4 D (.lst (acc ++ [y])))) → (∀ H3, Same H H3 → out (i + 1) = out i → Pn H3) →
      g x (wipe σ vs) H' fun σ2 H2 => wipe σ2 vs = wipe σ vs ∧ tt σ2 H2 fun b H3 => if b = true then te σ2 H3 fun y H4 => ∃ acc, H4 D = some (.lst acc) ∧ acc.length < sizeLine ∧ Pn (upd H4 D (.lst (acc ++ [y]))) else Pn H3)
    (hd : ∀ H, Same H1 H → H D = some (.lst (out n)) → Qd H) :
    ∃ W : Nat → Nat → Hp → Prop, (∃ m, W 0 m (upd H1 D (.lst []))) ∧ ∀ i m H, W i m H →
      (J.stop i H ∧ Qd H) ∨ (J.go i H ∧ ∃ Nx : Hp → Prop, (∀ H', Nx H' → ∃ m', m' < m ∧ W (i + 1) m' H') ∧ ∀ x H', J.yld i H x H' → g x (wipe σ vs) H' fun σ2 H2 => wipe σ2 vs = wipe σ vs ∧ tt σ2 H2 fun b H3 =>
        if b = true then te σ2 H3 fun y H4 => ∃ acc, H4 D = some (.lst acc) ∧ acc.length < sizeLine ∧ Nx (upd H4 D (.lst (acc ++ [y]))) else Nx H3) := by
  refine lc_it w (fun i H' => Same H1 H' ∧ H' D = some (.lst (out i))) ⟨sm nD, by rw [upd_same, o0]⟩ (fun i H _ p => hG H p.1) ?_ (fun H p => hd H p.1 p.2)
  rintro i x H H' hi ⟨s1, hD⟩ y
  refine hs i x H H' _ hi s1 y (fun H4 z s4 e => ?_) (fun H3 s3 e => ?_)
  · refine ⟨_, s4 _ _ hD, small1000 (ol i (Nat.le_of_lt hi)), fun b o q => ?_, by rw [upd_same, e]⟩
    rw [upd_ne (ne_of_none q nD)]
    exact s4 _ _ (s1 b o q)
  · exact ⟨s1.trans s3, by rw [e]; exact s3 _ _ hD⟩
theorem dc_it {J : It} {n : Nat} {G : Hp → Prop} {Y : Nat → Hp → V → Hp → Prop} (w : Walk J n G Y) {g : TG} {tt : TT} {tk tv : TE} {vs : List Nat} {σ : L2.St} {H1 : Hp} {D : Addr} {Qd : Hp → Prop} (Pv : Nat → Hp → Prop) (h0 : Pv 0 (upd H1 D (.dK []))) (hG : ∀ i H, i ≤ n → Pv i H → G H)
    (hs : ∀ i x H H', i < n → Pv i H → Y i H x H' → g x (wipe σ vs) H' fun σ2 H2 => wipe σ2 vs = wipe σ vs ∧ tt σ2 H2 fun b H3 => if b = true then tk σ2 H3 fun y H4 => tv σ2 H4 fun z H5 => ∃ kvs k, y = kV k ∧ H5 D = some (.dK kvs) ∧ kvs.length < sizeLine ∧ Pv (i + 1) (upd H5 D (.dK (putK kvs k z))) else Pv (i + 1) H3)
    (hd : ∀ H, Pv n H → Qd H) :
    ∃ W : Nat → Nat → Hp → Prop, (∃ m, W 0 m (upd H1 D (.dK []))) ∧ ∀ i m H, W i m H →
      (J.stop i H ∧ Qd H) ∨ (J.go i H ∧ ∃ Nx : Hp → Prop, (∀ H', Nx H' → ∃ m', m' < m ∧ W (i + 1) m' H') ∧ ∀ x H', J.yld i H x H' → g x (wipe σ vs) H' fun σ2 H2 => wipe σ2 vs = wipe σ vs ∧ tt σ2 H2 fun b H3 =>
        if b = true then tk σ2 H3 fun y H4 => tv σ2 H4 fun z H5 => ∃ kvs k, y = kV k ∧ H5 D = some (.dK kvs) ∧ kvs.length < sizeLine ∧ Nx (upd H5 D (.dK (putK kvs k z))) else Nx H3) := by
  refine ⟨fun i m H => m = n - i ∧ i ≤ n ∧ Pv i H, ⟨n, (Nat.sub_zero n).symm, Nat.zero_le _, h0⟩, ?_⟩
  rintro i m H ⟨rfl, hi, p⟩
  by_cases lt : i < n
  · exact .inr ⟨w.goes i H lt (hG i H hi p), Pv (i + 1), fun H' p' => ⟨n - (i + 1), by omega, rfl, lt, p'⟩, fun x H' y => hs i x H H' lt p (w.yields i H x H' lt (hG i H hi p) y)⟩
  · have e : i = n := by omega
    subst e
    exact .inl ⟨w.stops H (hG i H hi p), hd H p⟩
end PG


set_option Elab.async false
set_option linter.all false
set_option maxRecDepth 100000
set_option maxHeartbeats 4000000
namespace PG
open PySem L2
theorem word_len {x : Str} (h : isWord x = true) : x.length ≤ 8 := by
  unfold isWord at h
  rw [Bool.and_eq_true, Bool.and_eq_true] at h
  exact of_decide_eq_true h.2.1
theorem two_is {K : PySem.W.Frag} {H : Hp} {v : V} {p : Str × Str} (h : TwoAt K H v p) (w1 : isWord p.1 = true) (w2 : isWord p.2 = true) : LinkIs K H v true := by
  obtain ⟨t, rfl, h⟩ := h
  have z := LinkIs.two (K := K) (H := H) h (.str (Nat.le_trans (word_len w1) (by decide))) (.str (Nat.le_trans (word_len w2) (by decide)))
  have e1 : wordV (.str p.1) = true := w1
  have e2 : wordV (.str p.2) = true := w2
  rw [e1, e2] at z
  exact z
theorem lks_items {K : PySem.W.Frag} {H : Hp} : ∀ {kvs : List (Key × V)} {ls : List Lk}, Lks K H kvs ls → (∀ l ∈ ls, isWord l.1 = true ∧ isWord l.2.1 = true ∧ isWord l.2.2 = true) → Paired (ItemIs K H) kvs (ls.map fun _ => true)
  | _, _, .nil, _ => .nil
  | _, _, .cons (a := kv) (b := l) ⟨e, h⟩ rs, wd => by
    obtain ⟨w1, w2, w3⟩ := wd l List.mem_cons_self
    refine .cons ⟨true, ?_, two_is h w2 w3, ?_⟩ (lks_items rs fun l hl => wd l (List.mem_cons_of_mem _ hl))
    · rw [e]
      exact .str (Nat.le_trans (word_len w1) (by decide))
    · rw [e]
      show true = (isWord l.1 && true)
      rw [w1]
      rfl
theorem all_true {α : Type} : ∀ ls : List α, (ls.map fun _ => true).all id = true
  | [] => rfl
  | _ :: r => all_true r
theorem lks_at {K : PySem.W.Frag} {H : Hp} {kvs : List (Key × V)} {ls : List Lk} {i : Nat} {kv : Key × V} (h : Lks K H kvs ls) (e : kvs[i]? = some kv) : ∃ l, ls[i]? = some l ∧ kv.1 = Sum.inr l.1 ∧ TwoAt K H kv.2 l.2 := by
  obtain ⟨l, h1, h2⟩ := paired_at h e
  exact ⟨l, h1, h2⟩
theorem ends_snoc (ls : List Lk) (l : Lk) : ends (ls ++ [l]) = ends ls ++ [l.2.1, l.2.2] := by
  unfold ends
  rw [List.flatMap_append]
  simp
theorem insAll_app : ∀ (a b l : List Str), STX.insAll (a ++ b) l = STX.insAll b (STX.insAll a l)
  | [], _, _ => rfl
  | _ :: a, b, _ => insAll_app a b _
theorem ends_len : ∀ ls : List Lk, (ends ls).length = 2 * ls.length
  | [] => rfl
  | l :: r => by
    have z := ends_len r
    show (_ ++ ends r).length = _
    rw [List.length_append, z, List.length_cons]
    show 2 + 2 * r.length = 2 * (r.length + 1)
    omega
theorem pair_uniq {K : PySem.W.Frag} {H : Hp} {kvs : List (Key × V)} {ls : List Lk} {i : Nat} {l : Lk} (h : Lks K H kvs ls) (n : (keysL ls).Nodup) (e : ls[i]? = some l) : ∃ t, valV kvs (Sum.inr l.1 : Key) = some (.ref t) ∧ SqT K H t [.str l.2.1, .str l.2.2] := by
  have m := List.mem_of_getElem? e
  obtain ⟨t, h1, h2⟩ := lks_val h (key_mem m)
  rw [lkp_of n m] at h2
  exact ⟨t, h1, h2⟩
/-- d[k] of links, also while they are walked -/
theorem lk_get {K : PySem.W.Frag} {H : Hp} {a : Addr} {kvs : List (Key × V)} {ls : List Lk} {l : Lk} (r : Rd H a (.dK kvs)) (h : Lks K H kvs ls) (n : (keysL ls).Nodup) (m : l ∈ ls) : ∃ t, DGet H a (.str l.1) (some (.ref t)) ∧ SqT K H t [.str l.2.1, .str l.2.2] := by
  obtain ⟨t, h1, h2⟩ := lks_val h (key_mem m)
  rw [lkp_of n m] at h2
  refine ⟨t, ?_, h2⟩
  rw [← h1]
  exact .inl ⟨kvs, Sum.inr l.1, r, rfl, rfl⟩
section
variable {P : Program} {w : World} {K : PySem.W.Frag}
/-- {place for way in links for place in links[way]} -/
theorem rd_ends {H : Hp} {L D : Addr} {od : Obj} {kvs : List (Key × V)} {ls : List Lk} {s0 s1 s2 s3 : Option V} {Q : Hp → Prop} (hL : H L = some (.frz od (.dK kvs))) (hK : Lks K H kvs ls) (hn : (keysL ls).Nodup) (hz : ls.length ≤ 40) (nD : H D = none)
    (k : ∀ H', Same H H' → H' D = some (STX.TxO P w D (STX.insAll (ends ls) [])) → Q H') :
    ∃ W : Nat → Nat → Hp → Prop, (∃ m, W 0 m (upd H D (STX.TxO P w D []))) ∧ ∀ i m H, W i m H →
  ((Itk L od kvs).stop i H ∧ Q H) ∨ ((Itk L od kvs).go i H ∧ ∃ Nx : Hp → Prop, (∀ H', Nx H' → ∃ m', m' < m ∧ W (i + 1) m' H') ∧ ∀ x H', (Itk L od kvs).yld i H x H' → gName 6 x (wipe [s0, s1, s2, s3, some (V.ref L), none, none, none] [6, 7]) H' fun σ2 H2 => wipe σ2 [6, 7] = wipe [s0, s1, s2, s3, some (V.ref L), none, none, none] [6, 7] ∧ tYes σ2 H2 fun b H3 =>
    if b = true then iTup K (tDGet (tVar 4) (tVar 6)) σ2 H3 fun J1 H4 => ∃ W1 : Nat → Nat → Hp → Prop, (∃ m, W1 0 m H4) ∧ ∀ j k H, W1 j k H →
      (J1.stop j H ∧ Nx H) ∨ (J1.go j H ∧ ∃ Nx1 : Hp → Prop, (∀ H', Nx1 H' → ∃ k', k' < k ∧ W1 (j + 1) k' H') ∧ ∀ x H', J1.yld j H x H' → gName 7 x (wipe σ2 [7]) H' fun σ3 H5 => wipe σ3 [7] = wipe σ2 [7] ∧ tYes σ3 H5 fun b H6 =>
        if b = true then tVar 7 σ3 H6 fun y H7 => ∃ (k : Str) (l : List Str), y = .str k ∧ H7 D = some (STX.TxO P w D l) ∧ l.length + 1 < scanBound ∧ Nx1 (upd H7 D (STX.TxO P w D (STX.ins k l))) else Nx1 H6)
    else Nx H3) := by
  have lk : kvs.length = ls.length := Paired.length hK
  refine ⟨fun i m H' => m = ls.length - i ∧ i ≤ ls.length ∧ Same H H' ∧ H' D = some (STX.TxO P w D (STX.insAll (ends (ls.take i)) [])), ⟨_, rfl, Nat.zero_le _, sm nD, upd_same⟩, ?_⟩
  rintro i m H1 ⟨rfl, hi, s1, hD⟩
  by_cases lt : i < ls.length
  · refine .inr ⟨⟨s1 _ _ hL, by omega⟩, fun H' => Same H H' ∧ H' D = some (STX.TxO P w D (STX.insAll (ends (ls.take (i + 1))) [])), fun H' p' => ⟨_, by omega, rfl, lt, p'.1, p'.2⟩, ?_⟩
    rintro v H2 ⟨rfl, kk, vv, ekv, rfl⟩
    obtain ⟨l, hl, e1, _⟩ := lks_at hK ekv
    have e1' : kk = Sum.inr l.1 := e1
    subst e1'
    obtain ⟨t, hv, h2⟩ := pair_uniq hK hn hl
    have h1 : DGet H2 L (.str l.1) (some (.ref t)) := by
      rw [← hv]
      exact .inl ⟨kvs, Sum.inr l.1, .inr ⟨od, s1 _ _ hL⟩, rfl, rfl⟩
    refine ⟨rfl, ?_⟩
    unfold tYes
    dsimp only
    rw [if_pos rfl]
    have et : ls.take (i + 1) = ls.take i ++ [l] := by rw [List.take_add_one, hl]; rfl
    have base1 : (STX.insAll (ends (ls.take i)) []).length ≤ 80 := by
      have z := STX.insAll_len (ends (ls.take i)) []
      have z3 : (ls.take i).length ≤ ls.length := List.length_take_le' i ls
      rw [ends_len, List.length_nil] at z
      omega
    refine ⟨_, rfl, _, rfl, L, .ref t, rfl, h1, t, rfl, ⟨_, sqT_same h2 s1⟩, fun j k' H' => k' = 2 - j ∧ j ≤ 2 ∧ Same H H' ∧ H' D = some (STX.TxO P w D (STX.insAll ([l.2.1, l.2.2].take j) (STX.insAll (ends (ls.take i)) []))), ⟨_, rfl, by decide, s1, hD⟩, ?_⟩
    rintro j k' H4 ⟨rfl, hj, s4, hD4⟩
    have ht4 : SqT K H4 t [.str l.2.1, .str l.2.2] := sqT_same h2 s4
    by_cases lj : j < 2
    · obtain ⟨z, hz1, hz2⟩ : ∃ z : Str, [V.str l.2.1, V.str l.2.2][j]? = some (.str z) ∧ [l.2.1, l.2.2].take (j + 1) = [l.2.1, l.2.2].take j ++ [z] := by
        have : j = 0 ∨ j = 1 := by omega
        rcases this with rfl | rfl
        · exact ⟨_, rfl, rfl⟩
        · exact ⟨_, rfl, rfl⟩
      refine .inr ⟨⟨_, _, ht4, hz1⟩, fun H' => Same H H' ∧ H' D = some (STX.TxO P w D (STX.insAll ([l.2.1, l.2.2].take (j + 1)) (STX.insAll (ends (ls.take i)) []))), fun H' p' => ⟨_, by omega, rfl, lj, p'.1, p'.2⟩, ?_⟩
      rintro v H5 ⟨rfl, hv5⟩
      have ev := hv5 _ ht4
      rw [hz1] at ev
      cases ev
      refine ⟨rfl, ?_⟩
      rw [if_pos rfl]
      refine ⟨_, rfl, z, _, rfl, hD4, ?_, fun b o e => ?_, ?_⟩
      · have q := STX.insAll_len ([l.2.1, l.2.2].take j) (STX.insAll (ends (ls.take i)) [])
        have q2 : ([l.2.1, l.2.2].take j).length ≤ 2 := List.length_take_le' j _
        unfold scanBound
        omega
      · rw [upd_ne (ne_of_none e nD)]
        exact s4 b o e
      · rw [upd_same, hz2, STX.insAll_snoc]
    · have ej : j = 2 := by omega
      subst ej
      refine .inl ⟨⟨_, ht4, Nat.le_refl 2⟩, s4, ?_⟩
      rw [et, ends_snoc, insAll_app]
      exact hD4
  · have e : i = ls.length := by omega
    subst e
    rw [List.take_length] at hD
    exact .inl ⟨⟨s1 _ _ hL, by omega⟩, k H1 s1 hD⟩
end
end PG


set_option Elab.async false
set_option linter.all false
set_option maxRecDepth 100000
set_option maxHeartbeats 4000000
namespace PG
open PySem L2
theorem lc_rel {β : Type} {J : It} {n : Nat} {G : Hp → Prop} {Y : Nat → Hp → V → Hp → Prop} (w : Walk J n G Y) {g : TG} {tt : TT} {te : TE} {vs : List Nat} {σ : L2.St} {H1 : Hp} {D : Addr} {Qd : Hp → Prop} (nD : H1 D = none) (R : Hp → V → β → Prop) (mono : ∀ {H H' v b}, Same H H' → R H v b → R H' v b) (st : ∀ {H xs ys v b}, H D = some (.lst xs) → R H v b → R (upd H D (.lst ys)) v b)
    (out : Nat → List β) (o0 : out 0 = []) (ol : ∀ i, i ≤ n → (out i).length ≤ 1000) (hG : ∀ H, Same H1 H → G H)
    (hs : ∀ i x H H' (Pn : Hp → Prop), i < n → Same H1 H → Y i H x H' → (∀ H4 y b, Same H H4 → R H4 y b → out (i + 1) = out i ++ [b] → ∃ acc, H4 D = some (.lst acc) ∧ acc.length < sizeLine ∧ Pn (upd H4 D (.lst (acc ++ [y])))) → (∀ H3, Same H H3 → out (i + 1) = out i → Pn H3) →
      g x (wipe σ vs) H' fun σ2 H2 => wipe σ2 vs = wipe σ vs ∧ tt σ2 H2 fun b H3 => if b = true then te σ2 H3 fun y H4 => ∃ acc, H4 D = some (.lst acc) ∧ acc.length < sizeLine ∧ Pn (upd H4 D (.lst (acc ++ [y]))) else Pn H3)
    (hd : ∀ H ts, Same H1 H → H D = some (.lst ts) → Paired (R H) ts (out n) → Qd H) :
    ∃ W : Nat → Nat → Hp → Prop, (∃ m, W 0 m (upd H1 D (.lst []))) ∧ ∀ i m H, W i m H →
      (J.stop i H ∧ Qd H) ∨ (J.go i H ∧ ∃ Nx : Hp → Prop, (∀ H', Nx H' → ∃ m', m' < m ∧ W (i + 1) m' H') ∧ ∀ x H', J.yld i H x H' → g x (wipe σ vs) H' fun σ2 H2 => wipe σ2 vs = wipe σ vs ∧ tt σ2 H2 fun b H3 =>
        if b = true then te σ2 H3 fun y H4 => ∃ acc, H4 D = some (.lst acc) ∧ acc.length < sizeLine ∧ Nx (upd H4 D (.lst (acc ++ [y]))) else Nx H3) := by
  refine lc_it w (fun i H' => Same H1 H' ∧ ∃ ts, H' D = some (.lst ts) ∧ Paired (R H') ts (out i)) ⟨sm nD, [], upd_same, by rw [o0]; exact .nil⟩ (fun i H _ p => hG H p.1) ?_ (fun H ⟨p, ts, q, r⟩ => hd H ts p q r)
  rintro i x H H' hi ⟨s1, ts, hD, hR⟩ y
  refine hs i x H H' _ hi s1 y (fun H4 z b s4 r e => ?_) (fun H3 s3 e => ?_)
  · have lt : ts.length = (out i).length := Paired.length hR
    refine ⟨_, s4 _ _ hD, small1000 (by rw [lt]; exact ol i (Nat.le_of_lt hi)), fun c o q => ?_, _, upd_same, ?_⟩
    · rw [upd_ne (ne_of_none q nD)]
      exact s4 _ _ (s1 c o q)
    · rw [e]
      exact paired_snoc (Paired.imp (fun _ _ q => st (s4 _ _ hD) (mono s4 q)) hR) (st (s4 _ _ hD) r)
  · exact ⟨s1.trans s3, ts, s3 _ _ hD, by rw [e]; exact Paired.imp (fun _ _ q => mono s3 q) hR⟩
theorem sqT_at {K : PySem.W.Frag} {H : Hp} {p t : Addr} {o : HO} {xs : List V} (h : SqT K H t xs) (n : p ≠ t ∨ (∃ u, H p = some u ∧ (∀ l, u ≠ .tup l) ∧ ∀ od l, u ≠ .frz od (.tup l))) : SqT K (upd H p o) t xs := by
  have d : ∀ u, H t = some u → ((∃ l, u = .tup l) ∨ ∃ od l, u = .frz od (.tup l)) → t ≠ p := fun u hu hk z => by
    rcases n with n | ⟨v, hv, n1, n2⟩
    · exact n z.symm
    · rw [z, hv] at hu
      cases hu
      rcases hk with ⟨l, e⟩ | ⟨od, l, e⟩
      · exact n1 l e
      · exact n2 od l e
  rcases h with (h | ⟨od, h⟩) | h
  · exact .inl (.inl (by rw [upd_ne (d _ h (.inl ⟨_, rfl⟩))]; exact h))
  · exact .inl (.inr ⟨od, by rw [upd_ne (d _ h (.inr ⟨_, _, rfl⟩))]; exact h⟩)
  · exact .inr h
theorem two_lst {K : PySem.W.Frag} {H : Hp} {D : Addr} {xs : List V} {o : HO} {v : V} {b : Str × Str} (hD : H D = some (.lst xs)) (h : TwoAt K H v b) : TwoAt K (upd H D o) v b := by
  obtain ⟨t, e, h⟩ := h
  exact ⟨t, e, sqT_at h (.inr ⟨_, hD, (by intro l z; cases z), by intro od l z; cases z⟩)⟩
theorem two_dk {K : PySem.W.Frag} {H : Hp} {D : Addr} {kvs : List (Key × V)} {o : HO} {v : V} {b : Str × Str} (hD : H D = some (.dK kvs)) (h : TwoAt K H v b) : TwoAt K (upd H D o) v b := by
  obtain ⟨t, e, h⟩ := h
  exact ⟨t, e, sqT_at h (.inr ⟨_, hD, (by intro l z; cases z), by intro od l z; cases z⟩)⟩
section
variable {K : PySem.W.Frag}
theorem take_map_snoc {α β : Type} {xs : List α} {i : Nat} {x : α} (f : α → β) (h : xs[i]? = some x) : (xs.take (i + 1)).map f = (xs.take i).map f ++ [f x] := by
  rw [List.take_add_one, h, List.map_append]
  rfl
/-- [links[way] for way in links] -/
theorem rd_pairs {H : Hp} {L D : Addr} {od : Obj} {kvs : List (Key × V)} {ls : List Lk} {s0 s1 s2 s3 s5 : Option V} {Q : Hp → Prop} (hL : H L = some (.frz od (.dK kvs))) (hK : Lks K H kvs ls) (hn : (keysL ls).Nodup) (hz : ls.length ≤ 40) (nD : H D = none)
    (k : ∀ H' ts, Same H H' → H' D = some (.lst ts) → Paired (TwoAt K H') ts (ls.map (·.2)) → Q H') :
    ∃ W : Nat → Nat → Hp → Prop, (∃ m, W 0 m (upd H D (.lst []))) ∧ ∀ i m H, W i m H →
      ((Itk L od kvs).stop i H ∧ Q H) ∨ ((Itk L od kvs).go i H ∧ ∃ Nx : Hp → Prop, (∀ H', Nx H' → ∃ m', m' < m ∧ W (i + 1) m' H') ∧ ∀ x H', (Itk L od kvs).yld i H x H' → gName 6 x (wipe [s0, s1, s2, s3, some (V.ref L), s5, none, none] [6]) H' fun σ2 H2 => wipe σ2 [6] = wipe [s0, s1, s2, s3, some (V.ref L), s5, none, none] [6] ∧ tYes σ2 H2 fun b H3 =>
        if b = true then tDGet (tVar 4) (tVar 6) σ2 H3 fun y H4 => ∃ acc, H4 D = some (.lst acc) ∧ acc.length < sizeLine ∧ Nx (upd H4 D (.lst (acc ++ [y]))) else Nx H3) := by
  have lk : kvs.length = ls.length := Paired.length hK
  refine lc_rel walk_keys nD (TwoAt K) (fun s h => h.same s) (fun hD h => two_lst hD h) (fun i => (ls.take i).map (·.2)) rfl (fun i _ => by rw [List.length_map]; exact Nat.le_trans (List.length_take_le' i ls) (by omega)) (fun H' s => s _ _ hL) ?_ (fun H' ts s h r => k H' ts s h (by rw [lk, List.take_length] at r; exact r))
  rintro i x H1 H2 Pn hi s1 ⟨rfl, kk, vv, ekv, rfl⟩ fin skip
  obtain ⟨l, hl, e1, _⟩ := lks_at hK ekv
  have e1' : kk = Sum.inr l.1 := e1
  subst e1'
  obtain ⟨t, hv, h2⟩ := pair_uniq hK hn hl
  refine ⟨rfl, ?_⟩
  unfold tYes
  dsimp only
  rw [if_pos rfl]
  refine ⟨_, rfl, _, rfl, L, .ref t, rfl, ?_, fin H2 _ l.2 (Same.refl _) ⟨t, rfl, sqT_same h2 s1⟩ (take_map_snoc _ hl)⟩
  rw [← hv]
  exact .inl ⟨kvs, Sum.inr l.1, .inr ⟨od, s1 _ _ hL⟩, rfl, rfl⟩
/-- [(links[way][1], links[way][0]) for way in links] -/
theorem rd_backs {H : Hp} {L D : Addr} {od : Obj} {kvs : List (Key × V)} {ls : List Lk} {s0 s1 s2 s3 s5 : Option V} {Q : Hp → Prop} (hL : H L = some (.frz od (.dK kvs))) (hK : Lks K H kvs ls) (hn : (keysL ls).Nodup) (hz : ls.length ≤ 40) (nD : H D = none)
    (k : ∀ H' ts, Same H H' → H' D = some (.lst ts) → Paired (TwoAt K H') ts (ls.map fun l => (l.2.2, l.2.1)) → Q H') :
    ∃ W : Nat → Nat → Hp → Prop, (∃ m, W 0 m (upd H D (.lst []))) ∧ ∀ i m H, W i m H →
      ((Itk L od kvs).stop i H ∧ Q H) ∨ ((Itk L od kvs).go i H ∧ ∃ Nx : Hp → Prop, (∀ H', Nx H' → ∃ m', m' < m ∧ W (i + 1) m' H') ∧ ∀ x H', (Itk L od kvs).yld i H x H' → gName 6 x (wipe [s0, s1, s2, s3, some (V.ref L), s5, none, none] [6]) H' fun σ2 H2 => wipe σ2 [6] = wipe [s0, s1, s2, s3, some (V.ref L), s5, none, none] [6] ∧ tYes σ2 H2 fun b H3 =>
        if b = true then tTup (tCons (tOp (rIxT K) (tDGet (tVar 4) (tVar 6)) (tC (V.int 1))) (tCons (tOp (rIxT K) (tDGet (tVar 4) (tVar 6)) (tC (V.int 0))) tNil)) σ2 H3 fun y H4 => ∃ acc, H4 D = some (.lst acc) ∧ acc.length < sizeLine ∧ Nx (upd H4 D (.lst (acc ++ [y]))) else Nx H3) := by
  have lk : kvs.length = ls.length := Paired.length hK
  refine lc_rel walk_keys nD (TwoAt K) (fun s h => h.same s) (fun hD h => two_lst hD h) (fun i => (ls.take i).map fun l => (l.2.2, l.2.1)) rfl (fun i _ => by rw [List.length_map]; exact Nat.le_trans (List.length_take_le' i ls) (by omega)) (fun H' s => s _ _ hL) ?_ (fun H' ts s h r => k H' ts s h (by rw [lk, List.take_length] at r; exact r))
  rintro i x H1 H2 Pn hi s1 ⟨rfl, kk, vv, ekv, rfl⟩ fin skip
  obtain ⟨l, hl, e1, _⟩ := lks_at hK ekv
  have e1' : kk = Sum.inr l.1 := e1
  subst e1'
  obtain ⟨t, hv, h2⟩ := pair_uniq hK hn hl
  have hg : DGet H2 L (.str l.1) (some (.ref t)) := by
    rw [← hv]
    exact .inl ⟨kvs, Sum.inr l.1, .inr ⟨od, s1 _ _ hL⟩, rfl, rfl⟩
  refine ⟨rfl, ?_⟩
  unfold tYes
  dsimp only
  rw [if_pos rfl]
  refine ⟨_, rfl, _, rfl, L, .ref t, rfl, hg, t, _, _, _, rfl, rfl, sqT_same h2 s1, atI_nat (j := 1) rfl, _, rfl, _, rfl, L, .ref t, rfl, hg, t, _, _, _, rfl, rfl, sqT_same h2 s1, atI_nat (j := 0) rfl, by show 2 ≤ sizeLine; decide, fun p np => ?_⟩
  exact fin _ _ (l.2.2, l.2.1) (sm np) ⟨p, rfl, SqT.of upd_same⟩ (take_map_snoc _ hl)
end
end PG


set_option Elab.async false
set_option linter.all false
set_option maxRecDepth 100000
set_option maxHeartbeats 4000000
namespace PG
open PySem L2
abbrev sProg : Stmt := top 16
abbrev sInit : Stmt := inClass sProg 0
structure PTc (K : PySem.W.Frag) (mg : Str → Option Value) (C : Addr) : Prop where
  cl : Cls K C
  n1 : NoAttr K C "links"
  n2 : NoAttr K C "spots"
  n3 : NoAttr K C "origin"
  n4 : NoAttr K C "finals"
  gC : mg "Program" = some (.ref C)
/-- the defs of the module that __init__ calls -/
structure PTd (K : PySem.W.Frag) (mg : Str → Option Value) (fA fW fE fR : Addr) (fdA fdW fdE fdR : FuncData) : Prop where
  gA : mg "is_among" = some (.ref fA)
  bA : Binds K fdA ["value", "words"] []
  gW : mg "are_ways" = some (.ref fW)
  bW : Binds K fdW ["value"] []
  gE : mg "are_exits" = some (.ref fE)
  bE : Binds K fdE ["value", "places"] []
  gR : mg "reached_from" = some (.ref fR)
  bR : Binds K fdR ["places", "pairs"] []
theorem two_frz {K : PySem.W.Frag} {H : Hp} {D : Addr} {od : Obj} {kvs : List (Key × V)} {o : HO} {v : V} {b : Str × Str} (hD : H D = some (.frz od (.dK kvs))) (h : TwoAt K H v b) : TwoAt K (upd H D o) v b := by
  obtain ⟨t, e, h⟩ := h
  exact ⟨t, e, sqT_at h (.inr ⟨_, hD, (by intro l z; cases z), by intro od l z; cases z⟩)⟩
theorem am_all {K : PySem.W.Frag} {H : Hp} {ws : List Str} : ∀ {es : List Str}, (∀ e ∈ es, e ∈ ws) → Paired (AmIs K H ws) (es.map V.str) (es.map fun _ => true)
  | [], _ => .nil
  | e :: r, h => .cons (.inl ⟨e, rfl, (decide_eq_true (h e List.mem_cons_self)).symm⟩) (am_all fun x hx => h x (List.mem_cons_of_mem _ hx))
theorem rch_len {ps : List Str} {prs : List (Str × Str)} {fs qs : List Str} (n : qs.Nodup) (h : ∀ x, x ∈ fs ↔ Rch ps prs x) (r : ∀ x ∈ qs, Rch ps prs x) : ¬ ((fs.length : Int) < (qs.length : Int)) := by
  have z := nodup_le n fun x hx => (h x).mpr (r x hx)
  omega
section
variable {P : Program} {w : World} {K : PySem.W.Frag} {mg : Str → Option Value} {base : Heap}
abbrev nsInit : List Str := ["self", "ways", "begin", "exits", "links", "places", "way", "place"]
theorem scInit : FnScope nsInit ["self", "ways", "begin", "exits"] (defScope sInit) := ⟨rfl, rfl, rfl, by decide +kernel, rfl, by decide +kernel, by decide +kernel⟩
def spInit (K : PySem.W.Frag) (C : Addr) : Sp := fun vs H Q _ => ∃ (x dx a e : Addr) (b : Str) (kvs : List (Key × V)) (ls : List Lk) (es : List Str), vs = [.ref x, .ref a, .str b, .ref e] ∧ H x = some (.ins C dx []) ∧ H a = some (.dK kvs) ∧ Lks K H kvs ls ∧ H e = some (.lst (es.map V.str)) ∧ GoodP ls b es ∧
  ∀ (H' : Hp) (L S F : Addr), (∀ q o, q ≠ x → H q = some o → H' q = some o) → H L = none → H S = none → H F = none → ProgAt K C H' x dx L S F (pdOf ls b es) → Q .non H'
theorem ok_init {f C fA fW fE fR : Addr} {fd fdA fdW fdE fdR : FuncData} (Fi : Fun K "__init__" "Program.__init__" sInit f fd) (T : PT0 mg) (Tc : PTc K mg C) (Td : PTd K mg fA fW fE fR fdA fdW fdE fdR)
    (FA : Fun K "is_among" "is_among" sAmong fA fdA) (FW : Fun K "are_ways" "are_ways" sWays fW fdW) (FE : Fun K "are_exits" "are_exits" sExits fE fdE) (FR : Fun K "reached_from" "reached_from" sReach fR fdR)
    (GA : FnOk P w K mg base CX0 1 fA fdA ["value", "words"] (spAmong K)) (GW : FnOk P w K mg base CX0 3 fW fdW ["value"] (spWays K)) (GE : FnOk P w K mg base CX0 2 fE fdE ["value", "places"] (spExits K)) (GR : FnOk P w K mg base CX0 1 fR fdR ["places", "pairs"] (spReach K)) :
    FnOk P w K mg base CX0 4 f fd ["self", "ways", "begin", "exits"] (spInit K C) := by
  refine Fi.ok scInit (fun vs H Q E h => ?_) (fun cdv A outer s H vs Q E hr h => ?_)
  · obtain ⟨x, dx, a, e, b, kvs, ls, es, rfl, _⟩ := h
    rfl
  · obtain ⟨x, dx, a, e, b, kvs, ls, es, rfl, hx, ha, hL, he, Gd, k⟩ := h
    have nd := scInit.nd
    have hr1 : Room 1 _ := hr.mono (by decide)
    have hr2 : Room 2 _ := hr.mono (by decide)
    have hu := hu_of hr
    refine ⟨_, pss_cons (ps_if (pt_not (pt_val (pe_call GW hr (by rfl) Td.gW FW.kp Td.bW .nil pass0 (pa_cons (pv 1) pa_nil)))) pss_dead pss_nil)
      (pss_cons (ps_set (i := 4) nd rfl (Or.inr rfl) (pe_dc (own := [("way", 6)]) (g := gName 6) (tt := tYes) rfl nd (pi_list (pe_callB (call_sortedD rfl) (by rfl) T.sorted PyProof.Rows.boot_sorted (pa_cons (pv 1) pa_nil))) (blkOk_by (own := [("way", 6)]) (N := nsInit) (sc := defScope sInit) (by decide +kernel))
        (fun _ _ _ _ _ => pg_name (i := 6) nd rfl (Or.inl rfl)) (fun _ _ _ _ _ => pts_nil) (fun _ _ _ _ _ => pv 6)
        (fun _ _ _ _ _ => pe_tup (pa_cons (pe_ix (show IxR _ (rIxT K) from ix_tup) (pe_dget hu (pv 1) (pv 6) (fun _ _ => rfl)) pe_int (fun _ _ => rfl)) (pa_cons (pe_ix (show IxR _ (rIxT K) from ix_tup) (pe_dget hu (pv 1) (pv 6) (fun _ _ => rfl)) pe_int (fun _ _ => rfl)) pa_nil)))))
      (pss_cons (ps_set (i := 5) nd rfl (Or.inl rfl) (pe_callB (STX.cr_sortedTx rfl) (by rfl) T.sorted PyProof.Rows.boot_sorted (pa_cons (pe_lock (STX.pe_sc2 (own := [("way", 6), ("place", 7)]) (vs1 := [7]) (wi1 := iTup K _) (g := gName 6) (tt := tYes) (g1 := gName 7) (tt1 := tYes) rfl nd (pi_keys (pv 4)) (blkOk_by (own := [("way", 6), ("place", 7)]) (N := nsInit) (sc := defScope sInit) (by decide +kernel)) (by decide)
        (fun _ _ _ _ _ => pg_name (i := 6) nd rfl (Or.inl rfl)) (fun _ _ _ _ _ => pts_nil) (fun _ _ _ _ _ => pi_tup (pe_dget hu (pv 4) (pv 6) (fun _ _ => rfl))) (fun _ _ _ _ _ => pg_name (i := 7) nd rfl (Or.inl rfl)) (fun _ _ _ _ _ => pts_nil) (fun _ _ _ _ _ => pv 7))) pa_nil)))
      (pss_cons (ps_if (pt_not (pt_val (pe_call GA hr1 (by rfl) Td.gA FA.kp Td.bA .nil pass0 (pa_cons (pv 2) (pa_cons (pv 5) pa_nil))))) pss_dead pss_nil)
      (pss_cons (ps_if (pt_not (pt_val (pe_call GE hr2 (by rfl) Td.gE FE.kp Td.bE .nil pass0 (pa_cons (pv 3) (pa_cons (pv 5) pa_nil))))) pss_dead pss_nil)
      (pss_cons (ps_if (pt_cmpR op_lt (pe_callB call_len_seq (by rfl) T.len PySem.boot_len (pa_cons (pe_call GR hr1 (by rfl) Td.gR FR.kp Td.bR .nil pass0 (pa_cons (pe_lst (pa_cons (pv 2) pa_nil)) (pa_cons (pe_lock (pe_lc (own := [("way", 6)]) (g := gName 6) (tt := tYes) rfl nd (pi_keys (pv 4)) (blkOk_by (own := [("way", 6)]) (N := nsInit) (sc := defScope sInit) (by decide +kernel))
          (fun _ _ _ _ _ => pg_name (i := 6) nd rfl (Or.inl rfl)) (fun _ _ _ _ _ => pts_nil) (fun _ _ _ _ _ => pe_dget hu (pv 4) (pv 6) (fun _ _ => rfl)))) pa_nil))) pa_nil)) (pe_callB call_len_seq (by rfl) T.len PySem.boot_len (pa_cons (pv 5) pa_nil)) (nomark _)) pss_dead pss_nil)
      (pss_cons (ps_if (pt_cmpR op_lt (pe_callB call_len_seq (by rfl) T.len PySem.boot_len (pa_cons (pe_call GR hr1 (by rfl) Td.gR FR.kp Td.bR .nil pass0 (pa_cons (pv 3) (pa_cons (pe_lock (pe_lc (own := [("way", 6)]) (g := gName 6) (tt := tYes) rfl nd (pi_keys (pv 4)) (blkOk_by (own := [("way", 6)]) (N := nsInit) (sc := defScope sInit) (by decide +kernel))
          (fun _ _ _ _ _ => pg_name (i := 6) nd rfl (Or.inl rfl)) (fun _ _ _ _ _ => pts_nil) (fun _ _ _ _ _ => pe_tup (pa_cons (pe_ix (show IxR _ (rIxT K) from ix_tup) (pe_dget hu (pv 4) (pv 6) (fun _ _ => rfl)) pe_int (fun _ _ => rfl)) (pa_cons (pe_ix (show IxR _ (rIxT K) from ix_tup) (pe_dget hu (pv 4) (pv 6) (fun _ _ => rfl)) pe_int (fun _ _ => rfl)) pa_nil))))) pa_nil))) pa_nil)) (pe_callB call_len_seq (by rfl) T.len PySem.boot_len (pa_cons (pv 5) pa_nil)) (nomark _)) pss_dead pss_nil)
      (pss_cons (ps_fld (pv 0) (pv 4) rfl) (pss_cons (ps_fld (pv 0) (pv 5) rfl) (pss_cons (ps_fld (pv 0) (pv 2) rfl)
      (pss_one (ps_fld (pv 0) (pe_callB cr_sortedS (by rfl) T.sorted PyProof.Rows.boot_sorted (pa_cons (pv 3) pa_nil)) rfl))))))))))), ?_⟩
    have lkv : kvs.length = ls.length := Paired.length hL
    refine ⟨_, rfl, .ref a, rfl, .inl ⟨a, kvs, _, rfl, ha, by have := Gd.n2; omega, lks_items hL Gd.wd, fun H1 s1 => ⟨_, rfl, ?_⟩⟩⟩
    rw [all_true, lkv, decide_eq_true Gd.n1, decide_eq_true Gd.n2]
    refine iteNF ?_
    refine ⟨_, rfl, a, kvs, keysL ls, rfl, .inl (s1 _ _ ha), lks_keys hL, by have z : (keysL ls).length = ls.length := List.length_map _; have := Gd.n2; omega, fun ys p0 perm sr np0 => ?_⟩
    obtain rfl := srt_of perm sr
    refine ⟨p0, rfl, ⟨_, SqL.of upd_same⟩, fun L nL => dc_it walk_list (fun i H' => Same (upd H1 p0 (.lst ((srt (keysL ls)).map V.str))) H' ∧ ∃ kv2, H' L = some (.dK kv2) ∧ Lks K H' kv2 ((srtL ls).take i)) ⟨sm nL, [], upd_same, .nil⟩ (fun i H' _ p => SqL.of (p.1 _ _ upd_same)) ?_ ?_⟩
    · rintro i v H2 H3 hi ⟨s2, kv2, h2, l2⟩ ⟨rfl, hv⟩
      rw [List.getElem?_map] at hv
      obtain ⟨wy, hw, rfl⟩ : ∃ wy, (srt (keysL ls))[i]? = some wy ∧ v = .str wy := by
        cases e : (srt (keysL ls))[i]? with
        | none => rw [e] at hv; cases hv
        | some wy => rw [e] at hv; exact ⟨wy, rfl, (Option.some.inj hv).symm⟩
      have mw : wy ∈ keysL ls := srt_mem.mp (List.mem_of_getElem? hw)
      obtain ⟨t, hvl, ht⟩ := lks_val hL mw
      have s13 : Same H H3 := fun b o e => s2 _ _ (sm np0 _ _ (s1 b o e))
      have hg : DGet H3 a (.str wy) (some (.ref t)) := by
        rw [← hvl]
        exact .inl ⟨kvs, Sum.inr wy, .inl (s13 _ _ ha), rfl, rfl⟩
      have hl3 : (srtL ls)[i]? = some (wy, lkp ls wy) := by
        unfold srtL
        rw [List.getElem?_map, hw]
        rfl
      refine ⟨rfl, ?_⟩
      unfold tYes
      dsimp only
      rw [if_pos rfl]
      refine ⟨_, rfl, _, rfl, _, rfl, a, .ref t, rfl, hg, t, _, _, _, rfl, rfl, sqT_same ht s13, atI_nat (j := 0) rfl, _, rfl, _, rfl, a, .ref t, rfl, hg, t, _, _, _, rfl, rfl, sqT_same ht s13, atI_nat (j := 1) rfl, by show 2 ≤ sizeLine; decide, fun q nq => ?_⟩
      have nLq : L ≠ q := ne_of_none h2 nq
      have lkv2 : kv2.length = ((srtL ls).take i).length := Paired.length l2
      have fresh : valV kv2 (Sum.inr wy : Key) = none := by
        refine lks_none l2 fun m => ?_
        have nd2 := srtL_nodup Gd.nd
        obtain ⟨l0, hl0, e0⟩ := List.mem_map.mp m
        obtain ⟨j, hj, ej⟩ := List.getElem_of_mem hl0
        rw [List.length_take] at hj
        have hi2 : i < (srtL ls).length := (List.getElem?_eq_some_iff.mp hl3).1
        have q1 : (keysL (srtL ls))[j]? = some wy := by
          unfold keysL
          rw [List.getElem?_map, List.getElem?_eq_getElem (by omega)]
          rw [List.getElem_take] at ej
          rw [ej]
          exact congrArg some e0
        have q2 : (keysL (srtL ls))[i]? = some wy := by
          unfold keysL
          rw [List.getElem?_map, hl3]
          rfl
        have q3 := (List.getElem?_inj (by have := (List.getElem?_eq_some_iff.mp q1).1; exact this) nd2).mp (q1.trans q2.symm)
        omega
      refine ⟨kv2, Sum.inr wy, rfl, by rw [upd_ne nLq]; exact h2, ?_, ?_⟩
      · rw [lkv2]
        refine small1000 (Nat.le_trans (List.length_take_le' i _) ?_)
        rw [srtL_len]
        have := Gd.n2
        omega
      · refine ⟨fun b o eb => ?_, _, upd_same, ?_⟩
        · rw [upd_ne (ne_of_none eb nL), upd_ne (ne_of_none (s2 _ _ eb) nq)]
          exact s2 _ _ eb
        · rw [putK_new _ fresh, List.take_add_one, hl3]
          have hd3 : (upd H3 q (.tup [.str (lkp ls wy).1, .str (lkp ls wy).2])) L = some (.dK kv2) := by rw [upd_ne nLq]; exact h2
          refine paired_snoc (Paired.imp (fun _ _ z => ⟨z.1, two_dk hd3 (z.2.same (sm nq))⟩) l2) ⟨rfl, two_dk hd3 ⟨q, rfl, SqT.of upd_same⟩⟩
    · rintro H2 ⟨s2, kvL, hL2, lL⟩
      have nd2 := srtL_nodup Gd.nd
      have n40 : (srtL ls).length ≤ 40 := by rw [srtL_len]; exact Gd.n2
      rw [show ((srt (keysL ls)).map V.str).length = (srtL ls).length by rw [List.length_map, srtL_len, srt_len]; exact List.length_map _, List.take_length] at lL
      have s02 : Same H H2 := fun b o e => s2 _ _ (sm np0 _ _ (s1 b o e))
      have nLH : H L = none := by
        cases z : H L with
        | none => rfl
        | some o => rw [sm np0 _ _ (s1 _ _ z)] at nL; cases nL
      refine ⟨L, .dK kvL, hL2, trivial, fun od => ⟨_, rfl, L, od, rfl, .inl ⟨kvL, upd_same, fun D nD => rd_ends (P := P) (w := w) upd_same (Lks.lock lL hL2) nd2 n40 nD fun H3 s3 hD3 => ⟨s3 _ _ upd_same, D, STX.insAll (ends (srtL ls)) [], rfl, ?_, ?_, fun ys S perm2 sr2 nS => ?_⟩⟩⟩⟩
      · have nDL : D ≠ L := fun z => by rw [z, upd_same] at nD; cases nD
        rw [upd_ne nDL]
        exact hD3
      · have z := Gd.sm
        rw [← plc_srtL Gd.nd] at z
        unfold plc at z
        rw [srt_len] at z
        exact z
      · have ey : ys = plc ls := by
          rw [← plc_srtL Gd.nd]
          exact srt_of perm2 sr2
        subst ey
        have s24 : Same H2 (upd H3 L (.dK kvL)) := unlock hL2 s3
        generalize upd H3 L (.dK kvL) = H4 at nS s24
        have s45 : Same H4 (upd H4 S (.lst ((plc ls).map V.str))) := sm nS
        have hS5 : (upd H4 S (.lst ((plc ls).map V.str))) S = some (.lst ((plc ls).map V.str)) := upd_same
        generalize upd H4 S (.lst ((plc ls).map V.str)) = H5 at s45 hS5
        have s05 : Same H H5 := fun b o e => s45 _ _ (s24 _ _ (s02 _ _ e))
        have hL5 : H5 L = some (.dK kvL) := s45 _ _ (s24 _ _ hL2)
        have lL5 : Lks K H5 kvL (srtL ls) := (lL.same s24).same s45
        have nSH : H S = none := by
          cases z : H S with
          | none => rfl
          | some o => rw [s24 _ _ (s02 _ _ z)] at nS; cases nS
        refine ⟨_, rfl, _, rfl, .str b, S, rfl, .inl ⟨b, plc ls, rfl, SqL.of hS5, _, rfl, ?_⟩⟩
        rw [decide_eq_true (plc_mem.mpr Gd.hb)]
        refine iteNF ?_
        have lE : es.length < 1000 := by
          have z := nodup_le Gd.hn fun x hx => plc_mem.mpr (Gd.hs x hx)
          have := Gd.sm
          omega
        refine ⟨_, rfl, _, rfl, .ref e, S, plc ls, rfl, SqL.of hS5, .inl ⟨e, _, _, rfl, s05 _ _ he, by rw [List.length_map]; exact lE, am_all fun x hx => plc_mem.mpr (Gd.hs x hx), fun H6 s6 => ⟨_, rfl, ?_⟩⟩⟩
        have e0 : (es.map V.str).isEmpty = false := by
          cases q : es with
          | nil => exact absurd q Gd.he
          | cons _ _ => rfl
        rw [e0, all_true, txs_map, decide_eq_true Gd.hn]
        refine iteNF ?_
        have hL6 := s6 _ _ hL5
        have lL6 := lL5.same s6
        have hS6 := s6 _ _ hS5
        have s06 : Same H H6 := s05.trans s6
        refine ⟨_, rfl, by show 1 ≤ sizeLine; decide, fun l0 nl0 => ⟨L, .dK kvL, sm nl0 _ _ hL6, trivial, fun od => ⟨_, rfl, L, od, rfl, .inl ⟨kvL, upd_same, fun D nD => rd_pairs upd_same (Lks.lock (lL6.same (sm nl0)) (sm nl0 _ _ hL6)) nd2 n40 nD fun H7 ts s7 hD7 r7 => ⟨s7 _ _ upd_same, l0, D, [b], ts, _, rfl, ?_, ?_, Paired.imp (fun _ _ z => two_frz (s7 _ _ upd_same) z) r7, List.nodup_cons.mpr ⟨List.not_mem_nil, List.nodup_nil⟩, ?_, fun p fs H8 np nf mf s8 h8 => ?_⟩⟩⟩⟩⟩
        · exact SqL.of (unlock (sm nl0 _ _ hL6) s7 _ _ upd_same)
        · have nDL : D ≠ L := fun z => by rw [z, upd_same] at nD; cases nD
          exact SqL.of (by rw [upd_ne nDL]; exact hD7)
        · rw [List.length_map]
          show 1 + _ ≤ 500
          omega
        · have s68 : Same H6 H8 := fun q o z => s8 _ _ (unlock (sm nl0 _ _ hL6) s7 _ _ (sm nl0 _ _ z))
          have hL8 := s68 _ _ hL6
          have lL8 := lL6.same s68
          have hS8 := s68 _ _ hS6
          have s08 : Same H H8 := s06.trans s68
          refine ⟨p, _, rfl, .inl (SqL.of h8), _, rfl, S, _, rfl, .inl (SqL.of hS8), _, _, rfl, rfl, _, rfl, ?_⟩
          rw [List.length_map, List.length_map]
          have c1 : decide ((fs.length : Int) < ((plc ls).length : Int)) = false := decide_eq_false (rch_len (plc_nodup ls) mf fun x hx => (Gd.reach x (plc_mem.mp hx)).mono (fun _ z => z) fun pr hp => by
            obtain ⟨l, hl, rfl⟩ := List.mem_map.mp hp
            exact List.mem_map.mpr ⟨l, (srtL_mem Gd.nd).mpr hl, rfl⟩)
          rw [c1]
          refine iteF ?_
          refine ⟨_, rfl, L, .dK kvL, hL8, trivial, fun od => ⟨_, rfl, L, od, rfl, .inl ⟨kvL, upd_same, fun D2 nD2 => rd_backs upd_same (Lks.lock lL8 hL8) nd2 n40 nD2 fun H9 ts s9 hD9 r9 => ⟨s9 _ _ upd_same, e, D2, es, ts, _, rfl, ?_, ?_, Paired.imp (fun _ _ z => two_frz (s9 _ _ upd_same) z) r9, Gd.hn, ?_, fun p2 fs2 H10 np2 nf2 mf2 s10 h10 => ?_⟩⟩⟩⟩
          · exact SqL.of (unlock hL8 s9 _ _ (s08 _ _ he))
          · have nDL : D2 ≠ L := fun z => by rw [z, upd_same] at nD2; cases nD2
            exact SqL.of (by rw [upd_ne nDL]; exact hD9)
          · rw [List.length_map]
            have z := nodup_le Gd.hn fun x hx => plc_mem.mpr (Gd.hs x hx)
            have := Gd.sm
            omega
          · have s8' : Same H8 H10 := fun q o z => s10 _ _ (unlock hL8 s9 _ _ z)
            have hLa := s8' _ _ hL8
            have lLa := lL8.same s8'
            have hSa := s8' _ _ hS8
            have s0a : Same H H10 := s08.trans s8'
            refine ⟨p2, _, rfl, .inl (SqL.of h10), _, rfl, S, _, rfl, .inl (SqL.of hSa), _, _, rfl, rfl, _, rfl, ?_⟩
            rw [List.length_map, List.length_map]
            have c2 : decide ((fs2.length : Int) < ((plc ls).length : Int)) = false := decide_eq_false (rch_len (plc_nodup ls) mf2 fun x hx => (Gd.leave x (plc_mem.mp hx)).mono (fun _ z => z) fun pr hp => by
              obtain ⟨l, hl, rfl⟩ := List.mem_map.mp hp
              exact List.mem_map.mpr ⟨l, (srtL_mem Gd.nd).mpr hl, rfl⟩)
            rw [c2]
            refine iteF ?_
            have hxa : H10 x = some (.ins C dx []) := s0a _ _ hx
            refine ⟨_, rfl, _, rfl, x, C, dx, _, rfl, hxa, Tc.cl, Tc.n1, (by show 0 < 1000; decide), ?_⟩
            refine ⟨_, rfl, _, rfl, x, C, dx, _, rfl, upd_same, Tc.cl, Tc.n2, (by show 1 < 1000; decide), ?_⟩
            refine ⟨_, rfl, _, rfl, x, C, dx, _, rfl, upd_same, Tc.cl, Tc.n3, (by show 2 < 1000; decide), ?_⟩
            rw [upd_upd, upd_upd]
            have nex : e ≠ x := ne_of he hx (by intro z; cases z)
            have he3 : (upd H10 x (.ins C dx (putF "origin" (.str b) (putF "spots" (.ref S) (putF "links" (.ref L) []))))) e = some (.lst (es.map V.str)) := by rw [upd_ne nex]; exact s0a _ _ he
            have e64 : es.length < 64 := by
              have z := nodup_le Gd.hn fun x hx => plc_mem.mpr (Gd.hs x hx)
              have := Gd.sm
              omega
            refine ⟨_, rfl, e, es, rfl, SqL.of he3, e64, fun ys Fn perm3 sr3 nF => ?_⟩
            obtain rfl := srt_of perm3 sr3
            have nFx : Fn ≠ x := fun z => by rw [z, upd_same] at nF; cases nF
            have nFa : H10 Fn = none := by rw [upd_ne nFx] at nF; exact nF
            refine ⟨_, rfl, x, C, dx, _, rfl, (by rw [upd_ne nFx.symm]; exact upd_same), Tc.cl, Tc.n4, (by show 3 < 1000; decide), ?_⟩
            have nLx : L ≠ x := ne_of hLa hxa (by intro z; cases z)
            have nSx : S ≠ x := ne_of hSa hxa (by intro z; cases z)
            have nLF : L ≠ Fn := ne_of_none hLa nFa
            have nSF : S ≠ Fn := ne_of_none hSa nFa
            have nFH : H Fn = none := by
              cases z : H Fn with
              | none => rfl
              | some o => rw [s0a _ _ z] at nFa; cases nFa
            refine k _ L S Fn (fun q o nq eq => ?_) nLH nSH nFH ⟨?_, ⟨kvL, ?_, ?_⟩, ?_, ?_⟩
            · rw [upd_ne nq, upd_ne (ne_of_none (s0a _ _ eq) nFa), upd_ne nq]
              exact s0a _ _ eq
            · rw [upd_same]
              rfl
            · rw [upd_ne nLx, upd_ne nLF, upd_ne nLx]
              exact hLa
            · refine Paired.imp (fun kv l z => ⟨z.1, ?_⟩) lLa
              obtain ⟨t, e1, z2⟩ := z.2
              refine ⟨t, e1, sqT_at (sqT_same (sqT_at z2 (.inr ⟨_, hxa, (by intro l z; cases z), by intro od l z; cases z⟩)) (sm nF)) (.inr ⟨.ins C dx _, by rw [upd_ne nFx.symm]; exact upd_same, (by intro l z; cases z), by intro od l z; cases z⟩)⟩
            · rw [upd_ne nSx, upd_ne nSF, upd_ne nSx]
              exact hSa
            · rw [upd_ne nFx]
              exact upd_same
end
end PG


set_option Elab.async false
set_option linter.all false
set_option maxRecDepth 100000
set_option maxHeartbeats 4000000
/-! Own item reading, in, len, == of an own class, by the promise of the def. -/
namespace OW
open PySem PySem.Spec PyProof.Rows L2
section
variable {X : Cx} {CX : CXT} {k : Nat} {f C : Addr} {fd : FuncData} {ps : List Str} {sp : Sp} {E : XK} {pins : List (Addr × Obj)} {σ : L2.St} {H : Hp} {s : Shared}
/-- the def is called somewhere below the running body -/
theorem own_call {A : Around} {Q : VK} {vs : List V} {us : List Value} (F : FnOk X.prog X.w X.K X.mg X.base CX k f fd ps sp) (hb : Binds X.K fd ps []) (hx : Passes CX X E) (room : Room k A) (fr : A.frames = X.A.frames) (I : Inv X pins σ H s) (r : Vals vs us) (h : sp vs H Q E) :
    wpAny (model X.prog X.w) A (call (.ref f) us) (EP X pins σ Q) X.xe s := by
  have e0 : Env0 X.prog X.w X.K X.mg X.base A X.stack s H := by
    have e := I.env0
    exact ⟨by rw [fr]; exact e.frames, e.mod, e.bs, e.bsz, e.funs, e.frf, e.hok, e.bare⟩
  have hl := F.len _ _ _ _ h
  refine wpAny_call (codeAny_mono (F.run A X.stack s H ⟨us, []⟩ us vs Q E room e0 ?_ r h) fun x s' hq => ?_)
  · have z := hb s us I.kIn (by rw [List.append_nil, ← r.length]; exact hl)
    rw [List.append_nil] at z
    exact z
  · cases x with
    | error e => exact hx pins σ H s e s' I hq
    | ok fl =>
      cases fl with
      | ret y =>
        obtain ⟨z, H', I', rz, q⟩ := I.after hq
        exact ⟨z, H', I', rz, q⟩
      | next => exact False.elim hq
      | brk => exact False.elim hq
      | cont => exact False.elim hq
theorem own_at {a dx : Addr} {fs : List (Str × V)} (I : Inv X pins σ H s) (ha : H a = some (.ins C dx fs)) : ∃ ox od, PySem.W.InstAt s.heap a ox C od := by
  obtain ⟨m, J, _⟩ := ins_get I.hok ha
  obtain ⟨od, J, _⟩ := J.look
  exact ⟨_, _, J⟩
/-- len(x) -/
def rOwnLen (C : Addr) (sp : Sp) (E : XK) : List V → Hp → VK → Prop := fun xs H Q => ∃ (a dx : Addr) (fs : List (Str × V)), xs = [.ref a] ∧ H a = some (.ins C dx fs) ∧ sp [.ref a] H (fun v H' => ∃ n : Nat, v = .int n ∧ n < 2 ^ 62 ∧ Q (.int n) H') E
theorem cr_ownLen (F : FnOk X.prog X.w X.K X.mg X.base CX k f fd ps sp) (hb : Binds X.K fd ps []) (hx : Passes CX X E) (hr : Room (k + 1) X.A) (hs : PySem.W.findIn X.K (.ref C) "__len__" = some (some (.ref f))) (hf : PySem.W.isFn X.K (.ref f) = true) : CallR X (.builtin "len") (rOwnLen C sp E) := by
  intro pins s σ H vs us Q I r h
  obtain ⟨a, dx, fs, rfl, ha, h⟩ := h
  rw [Vals.ref1 r]
  obtain ⟨ox, od, J⟩ := own_at I ha
  obtain ⟨m, hF⟩ := I.fr
  refine PySem.W.len_K hF I.ok.mod.kin J hs hf ?_
  refine wpAny_mono (own_call (vs := [.ref a]) F hb hx hr.in1 rfl I (.cons rfl .nil) h) (fun v s' z => ?_) fun _ _ z => z
  obtain ⟨y, H', I', ry, n, rfl, hn, q⟩ := z
  obtain ⟨t, rfl⟩ := ry
  exact ⟨⟨by omega, by omega⟩, .int n, H', I'.tok _, ⟨_, rfl⟩, q⟩
/-- x in o, x not in o -/
def rOwnIn (C : Addr) (sp : Sp) (E : XK) (neg : Bool) : R2 := fun x y H Q => ∃ (a dx : Addr) (fs : List (Str × V)), y = .ref a ∧ H a = some (.ins C dx fs) ∧ sp [.ref a, x] H (fun v H' => ∃ b : Bool, v = .bl b ∧ Q (.bl (if neg then !b else b)) H') E
theorem op_ownIn (F : FnOk X.prog X.w X.K X.mg X.base CX k f fd ps sp) (hb : Binds X.K fd ps []) (hx : Passes CX X E) (hr : Room k X.A) (hs : PySem.W.findIn X.K (.ref C) "__contains__" = some (some (.ref f))) (hf : PySem.W.isFn X.K (.ref f) = true) : OpR X (compareOp .In) (rOwnIn C sp E false) := by
  intro pins s σ H x y v u Q I rx ry h
  obtain ⟨a, dx, fs, rfl, ha, h⟩ := h
  obtain rfl : u = Value.ref a := ry
  obtain ⟨ox, od, J⟩ := own_at I ha
  obtain ⟨m, hF⟩ := I.fr
  refine PySem.W.in_K hF I.ok.mod.kin J hs hf ?_
  refine wpAny_mono (own_call (vs := [.ref a, x]) F hb hx hr rfl I (.cons rfl (.cons rx .nil)) h) (fun v s' z => ?_) fun _ _ z => z
  obtain ⟨w, H', I', rw', b, rfl, q⟩ := z
  obtain rfl : v = Value.bool b := rw'
  exact wpAny_truthy_bool ⟨.bl b, H', I', rfl, q⟩
theorem op_ownNotIn (F : FnOk X.prog X.w X.K X.mg X.base CX k f fd ps sp) (hb : Binds X.K fd ps []) (hx : Passes CX X E) (hr : Room k X.A) (hs : PySem.W.findIn X.K (.ref C) "__contains__" = some (some (.ref f))) (hf : PySem.W.isFn X.K (.ref f) = true) : OpR X (compareOp .NotIn) (rOwnIn C sp E true) := by
  intro pins s σ H x y v u Q I rx ry h
  obtain ⟨a, dx, fs, rfl, ha, h⟩ := h
  obtain rfl : u = Value.ref a := ry
  obtain ⟨ox, od, J⟩ := own_at I ha
  obtain ⟨m, hF⟩ := I.fr
  refine PySem.W.notIn_K hF I.ok.mod.kin J hs hf ?_
  refine wpAny_mono (own_call (vs := [.ref a, x]) F hb hx hr rfl I (.cons rfl (.cons rx .nil)) h) (fun v s' z => ?_) fun _ _ z => z
  obtain ⟨w, H', I', rw', b, rfl, q⟩ := z
  obtain rfl : v = Value.bool b := rw'
  exact wpAny_truthy_bool ⟨.bl (!b), H', I', rfl, q⟩
/-- o[i] -/
def PlainIxP (b : Expr) : Prop := ∀ o i, subscripted b true o i = runValue (.builtin "lifetime.subscript" ⟨[o, i], []⟩)
def rOwnIx (C : Addr) (sp : Sp) (E : XK) : R2 := fun x y H Q => ∃ (a dx : Addr) (fs : List (Str × V)), x = .ref a ∧ H a = some (.ins C dx fs) ∧ sp [.ref a, y] H Q E
theorem pe_ownIx {a b : Expr} {ta tb : TE} {pos : Pos} (F : FnOk X.prog X.w X.K X.mg X.base CX k f fd ps sp) (hb : Binds X.K fd ps []) (hx : Passes CX X E) (hr : Room (k + 1) X.A) (hs : PySem.W.findIn X.K (.ref C) "__getitem__" = some (some (.ref f))) (hf : PySem.W.isFn X.K (.ref f) = true) (hfn : PySem.W.fnIn X.K f = true)
    (ha : PE X a ta) (hb' : PE X b tb) (hp : PlainIxP b := by intro _ _; rfl) : PE X (.Subscript a b pos) (tOp (rOwnIx C sp E) ta tb) := by
  refine ⟨fun pins s σ H Q I h => Subscript_ (binT ha hb' I h fun v u s2 x y H2 I2 rx ry q => ?_)⟩
  obtain ⟨o, dx, fs, rfl, ho, q⟩ := q
  obtain rfl : v = Value.ref o := rx
  obtain ⟨ox, od, J⟩ := own_at I2 ho
  obtain ⟨m, hF⟩ := I2.fr
  exact PySem.W.sub_K hF I2.ok.mod.kin J hs hfn hf (own_call (vs := [.ref o, y]) F hb hx hr.in1 rfl I2 (.cons rfl (.cons ry .nil)) q) (hp _ _)
/-- x == y by x's own == -/
def rOwnEq (K : PySem.W.Frag) (C : Addr) (sp : Sp) (E : XK) : R2 := fun x y H Q => ∃ (a dx : Addr) (fs : List (Str × V)) (t : Value), x = .ref a ∧ H a = some (.ins C dx fs) ∧ TyX K H y t ∧ PySem.W.notFirst K C t = true ∧ sp [.ref a, y] H (fun v H' => ∃ b : Bool, v = .bl b ∧ Q (.bl b) H') E
theorem op_ownEq (F : FnOk X.prog X.w X.K X.mg X.base CX k f fd ps sp) (hb : Binds X.K fd ps []) (hx : Passes CX X E) (hr : Room k X.A) (hs : PySem.W.findIn X.K (.ref C) "__eq__" = some (some (.ref f))) (hf : PySem.W.isFn X.K (.ref f) = true) : OpR X (compareOp .Eq) (rOwnEq X.K C sp E) := by
  intro pins s σ H x y v u Q I rx ry h
  obtain ⟨a, dx, fs, t, rfl, ha, ty, nf, h⟩ := h
  obtain rfl : v = Value.ref a := rx
  obtain ⟨ox, od, J⟩ := own_at I ha
  obtain ⟨m, hF⟩ := I.fr
  show wpAny (model X.prog X.w) X.A (richCompare .Eq (.ref a) u) (EP X pins σ Q) X.xe s
  refine PySem.W.cmp_K (op := .Eq) (tb := t) hr.units0 hF I.ok.mod.kin J ?_ nf hs hf ?_
  · obtain ⟨P, Z, p, _⟩ := kit_of I ry ty
    exact Z.ty _ _ I.kIn p
  · refine wpAny_mono (own_call (vs := [.ref a, y]) F hb hx hr rfl I (.cons rfl (.cons ry .nil)) h) (fun v s' z => ?_) fun _ _ z => z
    obtain ⟨w, H', I', rw', b, rfl, q⟩ := z
    obtain rfl : v = Value.bool b := rw'
    exact ⟨.bl b, H', I', rfl, q⟩
end
end OW


set_option Elab.async false
set_option linter.all false
set_option maxRecDepth 100000
set_option maxHeartbeats 4000000
/-! == of lists of texts, of two-text tuples, of dicts of links. -/
namespace OW
open PySem PySem.Spec PyProof.Rows L2
theorem eqvAll_strs : ∀ xs ys : List Str, PyData.eqvAll (xs.map .str) (ys.map .str) = decide (xs = ys)
  | [], [] => rfl
  | [], _ :: _ => rfl
  | _ :: _, [] => rfl
  | x :: xs, y :: ys => by
    show (PyData.eqv (.str x) (.str y) && PyData.eqvAll (xs.map .str) (ys.map .str)) = _
    rw [eqvAll_strs xs ys]
    have e : PyData.eqv (.str x) (.str y) = decide (x = y) := by
      show (x == y) = _
      by_cases h : x = y
      · subst h; rw [decide_eq_true rfl]; exact beq_self_eq_true x
      · rw [decide_eq_false h]; exact beq_eq_false_iff_ne.mpr h
    rw [e]
    by_cases h1 : x = y
    · by_cases h2 : xs = ys
      · subst h1; subst h2; rw [decide_eq_true rfl, decide_eq_true rfl, decide_eq_true rfl]; rfl
      · rw [decide_eq_false h2, Bool.and_false, decide_eq_false (fun z => h2 (List.cons.inj z).2)]
    · rw [decide_eq_false h1, Bool.false_and, decide_eq_false (fun z => h1 (List.cons.inj z).1)]
/-- texts whose signs are all signs -/
def TxOkk (xs : List Str) : Prop := ∀ x ∈ xs, PyData.canLay0 (.str x) = true
theorem lay_strs : ∀ {xs : List Str}, TxOkk xs → PyData.canLayAll0 (xs.map PyData.str) = true
  | [], _ => rfl
  | x :: xs, h => by
    show (PyData.canLay0 (.str x) && PyData.canLayAll0 (xs.map PyData.str)) = true
    rw [h x List.mem_cons_self, lay_strs fun y hy => h y (List.mem_cons_of_mem _ hy)]
    rfl
theorem depth_strs : ∀ xs : List Str, PyData.depthAll (xs.map PyData.str) = 0
  | [] => rfl
  | _ :: xs => by
    show max 0 (PyData.depthAll (xs.map PyData.str)) = 0
    rw [depth_strs xs]
    rfl
theorem shaped_lst {xs : List Str} (h : TxOkk xs) : SeqAt.shaped (.list (xs.map PyData.str)) = true := by
  show (PyData.canLayAll0 (xs.map PyData.str) && decide (PyData.depthAll (xs.map PyData.str) + 1 ≤ 64)) = true
  rw [lay_strs h, depth_strs]
  rfl
theorem shaped_tup {xs : List Str} (h : TxOkk xs) : SeqAt.shaped (.tuple (xs.map PyData.str)) = true := by
  show (PyData.canLayAll0 (xs.map PyData.str) && decide (PyData.depthAll (xs.map PyData.str) + 1 ≤ 64)) = true
  rw [lay_strs h, depth_strs]
  rfl
theorem dpAll_strs {K : PySem.W.Frag} {H : Hp} : ∀ xs : List Str, DpAll K H (xs.map V.str) (xs.map PyData.str)
  | [] => .nil
  | x :: xs => .cons (.str x) (dpAll_strs xs)
section
variable {X : Cx}
/-- lists of texts compared -/
def rEqTx (K : PySem.W.Frag) (neg : Bool) : R2 := fun x y H Q => ∃ (a b : Addr) (xs ys : List Str), x = .ref a ∧ y = .ref b ∧ SqL K H a (xs.map V.str) ∧ SqL K H b (ys.map V.str) ∧ TxOkk xs ∧ TxOkk ys ∧ Q (.bl (if neg then !decide (xs = ys) else decide (xs = ys))) H
theorem op_eqTx (hu : X.A.units + 64 < cLine) : OpR X (compareOp .Eq) (rEqTx X.K false) := by
  intro pins s σ H x y v u Q I rx ry h
  obtain ⟨a, b, xs, ys, rfl, rfl, ha, hb, o1, o2, q⟩ := h
  refine op_eqD hu pins s σ H _ _ v u Q I rx ry ⟨.list (xs.map .str), .list (ys.map .str), .lst ha (dpAll_strs xs), .lst hb (dpAll_strs ys), shaped_lst o1, shaped_lst o2, ?_⟩
  have e : PyData.eqv (.list (xs.map .str)) (.list (ys.map .str)) = decide (xs = ys) := eqvAll_strs xs ys
  rw [e]
  exact q
theorem op_neTx (hu : X.A.units + 64 < cLine) : OpR X (compareOp .NotEq) (rEqTx X.K true) := by
  intro pins s σ H x y v u Q I rx ry h
  obtain ⟨a, b, xs, ys, rfl, rfl, ha, hb, o1, o2, q⟩ := h
  refine op_neD hu pins s σ H _ _ v u Q I rx ry ⟨.list (xs.map .str), .list (ys.map .str), .lst ha (dpAll_strs xs), .lst hb (dpAll_strs ys), shaped_lst o1, shaped_lst o2, ?_⟩
  have e : PyData.eqv (.list (xs.map .str)) (.list (ys.map .str)) = decide (xs = ys) := eqvAll_strs xs ys
  rw [e]
  exact q
/-- tuples of texts compared -/
def rEqTt (K : PySem.W.Frag) (neg : Bool) : R2 := fun x y H Q => ∃ (a b : Addr) (xs ys : List Str), x = .ref a ∧ y = .ref b ∧ SqT K H a (xs.map V.str) ∧ SqT K H b (ys.map V.str) ∧ TxOkk xs ∧ TxOkk ys ∧ Q (.bl (if neg then !decide (xs = ys) else decide (xs = ys))) H
theorem op_eqTt (hu : X.A.units + 64 < cLine) : OpR X (compareOp .Eq) (rEqTt X.K false) := by
  intro pins s σ H x y v u Q I rx ry h
  obtain ⟨a, b, xs, ys, rfl, rfl, ha, hb, o1, o2, q⟩ := h
  refine op_eqD hu pins s σ H _ _ v u Q I rx ry ⟨.tuple (xs.map .str), .tuple (ys.map .str), .tup ha (dpAll_strs xs), .tup hb (dpAll_strs ys), shaped_tup o1, shaped_tup o2, ?_⟩
  have e : PyData.eqv (.tuple (xs.map .str)) (.tuple (ys.map .str)) = decide (xs = ys) := eqvAll_strs xs ys
  rw [e]
  exact q
theorem op_neTt (hu : X.A.units + 64 < cLine) : OpR X (compareOp .NotEq) (rEqTt X.K true) := by
  intro pins s σ H x y v u Q I rx ry h
  obtain ⟨a, b, xs, ys, rfl, rfl, ha, hb, o1, o2, q⟩ := h
  refine op_neD hu pins s σ H _ _ v u Q I rx ry ⟨.tuple (xs.map .str), .tuple (ys.map .str), .tup ha (dpAll_strs xs), .tup hb (dpAll_strs ys), shaped_tup o1, shaped_tup o2, ?_⟩
  have e : PyData.eqv (.tuple (xs.map .str)) (.tuple (ys.map .str)) = decide (xs = ys) := eqvAll_strs xs ys
  rw [e]
  exact q
open PG in
/-- what the walk over the keys answers -/
def hitsL (lb : List Lk) : List Lk → Bool
  | [] => true
  | l :: r => if l.1 ∈ keysL lb then decide (l.2 = lkp lb l.1) && hitsL lb r else false
open PG in
theorem hits_links {pins : List (Addr × Obj)} {σ : L2.St} {H : Hp} {s : Shared} (I : Inv X pins σ H s) (hu : X.A.in1.units + 64 < cLine) {kb : List (Key × V)} {lb : List Lk} (hB : Lks X.K H kb lb) (okB : TxOkk (ends lb)) {vb : List (Key × Value)} (rb : KV kb vb) :
    ∀ {ka : List (Key × V)} {la : List Lk} {va : List (Key × Value)}, Lks X.K H ka la → TxOkk (ends la) → KV ka va → PySem.W.KeqHitsP X.prog X.w X.A.in1 s vb va (hitsL lb la)
  | _, _, _, .nil, _, .nil => .nil
  | _, _, _, .cons (a := p) (b := l) ⟨e, t, e2, z⟩ rs, okA, .cons (b := q) ⟨h1, h2⟩ ra => by
    obtain ⟨key, v⟩ := q
    have ek : key = Sum.inr l.1 := by rw [← e]; exact h1.symm
    subst ek
    unfold hitsL
    by_cases m : l.1 ∈ keysL lb
    · rw [if_pos m]
      obtain ⟨t', hv, z'⟩ := lks_val hB m
      have rr : RelO (some (.ref t')) (valueAt vb (Sum.inr l.1 : Key)) := by rw [← hv]; exact rb.val _
      obtain ⟨y, hy, ry⟩ := rr.some_of
      refine .hit hy ?_ (hits_links I hu hB okB rb rs (fun y hy => okA y (List.mem_append_right [l.2.1, l.2.2] hy)) ra)
      have e2' : RelV (.ref t) v := by rw [← e2]; exact h2
      have d1 : Dp X.K H (.ref t) (.tuple ([l.2.1, l.2.2].map PyData.str)) := .tup z (dpAll_strs [l.2.1, l.2.2])
      have d2 : Dp X.K H (.ref t') (.tuple ([(lkp lb l.1).1, (lkp lb l.1).2].map PyData.str)) := .tup z' (dpAll_strs [(lkp lb l.1).1, (lkp lb l.1).2])
      obtain ⟨as, r1⟩ := Dp.reads I _ _ _ d1 e2'
      obtain ⟨bs, r2⟩ := Dp.reads I _ _ _ d2 ry
      have o1 : TxOkk [l.2.1, l.2.2] := fun y hy => okA y (List.mem_append_left _ hy)
      have o2 : TxOkk [(lkp lb l.1).1, (lkp lb l.1).2] := fun y hy => by
        refine okB y (ends_mem.mpr ⟨_, lkp_mem m, ?_⟩)
        rcases List.mem_cons.mp hy with z | z
        · exact .inl z
        · exact .inr (List.mem_singleton.mp z)
      have k := (PySem.W.keq_at (A := X.A) r1 r2 (shaped_tup o1) (shaped_tup o2) hu).eqP (prog := X.prog) (w := X.w)
      have ee : PyData.eqv (.tuple ([l.2.1, l.2.2].map PyData.str)) (.tuple ([(lkp lb l.1).1, (lkp lb l.1).2].map PyData.str)) = decide (l.2 = lkp lb l.1) := by
        have w1 : PyData.eqv (.tuple ([l.2.1, l.2.2].map PyData.str)) (.tuple ([(lkp lb l.1).1, (lkp lb l.1).2].map PyData.str)) = decide ([l.2.1, l.2.2] = [(lkp lb l.1).1, (lkp lb l.1).2]) := eqvAll_strs _ _
        rw [w1, decide_eq_decide]
        constructor
        · intro z
          obtain ⟨z1, z2⟩ := List.cons.inj z
          exact Prod.ext z1 (List.cons.inj z2).1
        · intro z
          rw [z]
      rw [ee] at k
      exact k
    · rw [if_neg m]
      have rr : RelO none (valueAt vb (Sum.inr l.1 : Key)) := by rw [← lks_none hB m]; exact rb.val _
      refine .miss ?_
      cases q : valueAt vb (Sum.inr l.1 : Key) with
      | none => rfl
      | some y => rw [q] at rr; exact rr.elim
open PG in
def rEqLk (K : PySem.W.Frag) : R2 := fun x y H Q => ∃ (a b : Addr) (ka kb : List (Key × V)) (la lb : List Lk), x = .ref a ∧ y = .ref b ∧ H a = some (.dK ka) ∧ H b = some (.dK kb) ∧ Lks K H ka la ∧ Lks K H kb lb ∧ TxOkk (ends la) ∧ TxOkk (ends lb) ∧ Q (.bl (decide (la.length = lb.length) && hitsL lb la)) H
theorem op_eqLk (hu : X.A.units + 66 < cLine) : OpR X (compareOp .Eq) (rEqLk X.K) := by
  intro pins s σ H x y v u Q I rx ry h
  obtain ⟨a, b, ka, kb, la, lb, rfl, rfl, ha, hb, lA, lB, oA, oB, q⟩ := h
  obtain rfl : v = Value.ref a := rx
  obtain rfl : u = Value.ref b := ry
  obtain ⟨_, ya, va, ra, da⟩ := (show ObjOk X.prog X.w H s.heap a (.dK ka) from I.hok a _ ha)
  obtain ⟨_, yb, vb, rb, db⟩ := (show ObjOk X.prog X.w H s.heap b (.dK kb) from I.hok b _ hb)
  refine PySem.W.rcP_dicts (knd := mixKind X.prog X.w) (r := hitsL lb la) ya yb da db (by omega) (fun _ => hits_links I (by show X.A.units + 1 + 64 < cLine; omega) lB oB rb lA oA ra) _ _ ⟨.bl _, H, I, rfl, ?_⟩
  have e1 : va.length = la.length := by rw [← ra.length]; exact Paired.length lA
  have e2 : vb.length = lb.length := by rw [← rb.length]; exact Paired.length lB
  rw [e1, e2]
  exact q
end
end OW


set_option Elab.async false
set_option linter.all false
set_option maxRecDepth 100000
set_option maxHeartbeats 4000000
namespace PG
open PySem L2
theorem room66 {k : Nat} {A : Around} (r : Room k A) : A.units + 66 < cLine := by have := r.un; omega
abbrev sBegin : Stmt := inClass sProg 1
abbrev sMWays : Stmt := inClass sProg 2
abbrev sMPlaces : Stmt := inClass sProg 3
abbrev sMExits : Stmt := inClass sProg 4
abbrev sGet : Stmt := inClass sProg 5
abbrev sHas : Stmt := inClass sProg 7
abbrev sMLen : Stmt := inClass sProg 8
abbrev sEq : Stmt := inClass sProg 9
abbrev sLeaving : Stmt := inClass sProg 10
abbrev sEntering : Stmt := inClass sProg 11
/-- the class among the types -/
structure PTt (K : PySem.W.Frag) (C : Addr) : Prop where
  ha : PySem.W.findIn K (.ref C) "__class__" = some (some (.builtin "object.__class__"))
  hn : PySem.W.specialIn K (.builtin "object.__class__") "__get__" = some (some (.builtin "getset_descriptor.__get__"))
  htk : PySem.W.takesIn K (.builtin "object.__class__") = some true
  hm : PySem.W.mroIn K C (.type "object") = some true
section
variable {P : Program} {w : World} {K : PySem.W.Frag} {mg : Str → Option Value} {base : Heap}
theorem f_links {L S F : Addr} {b : Str} : ([("links", .ref L), ("spots", .ref S), ("origin", .str b), ("finals", .ref F)] : List (Str × V)).lookup ("links" : Str) = some (.ref L) := rfl
theorem scBegin : FnScope ["self"] ["self"] (defScope sBegin) := ⟨rfl, rfl, rfl, by decide +kernel, rfl, by decide +kernel, by decide +kernel⟩
def spBegin (K : PySem.W.Frag) (C : Addr) : Sp := fun vs H Q _ => ∃ (x dx L S F : Addr) (d : PD), vs = [.ref x] ∧ ProgAt K C H x dx L S F d ∧ Q (.str d.b) H
theorem ok_begin {f C : Addr} {fd : FuncData} (Fn : Fun K "begin" "Program.begin" sBegin f fd) (Tc : PTc K mg C) : FnOk P w K mg base CX0 1 f fd ["self"] (spBegin K C) := by
  refine Fn.ok scBegin (fun vs H Q E h => ?_) (fun cdv A outer s H vs Q E hr h => ?_)
  · obtain ⟨x, dx, L, S, F, d, rfl, _⟩ := h
    rfl
  · obtain ⟨x, dx, L, S, F, d, rfl, h, k⟩ := h
    exact ⟨_, pss_one (ps_ret (pe_fld (pv 0) rfl)), _, rfl, x, C, dx, _, _, rfl, h.ins, Tc.cl, Tc.n3, rfl, k⟩
theorem scMWays : FnScope ["self"] ["self"] (defScope sMWays) := ⟨rfl, rfl, rfl, by decide +kernel, rfl, by decide +kernel, by decide +kernel⟩
/-- a new list -/
def spList (K : PySem.W.Frag) (C : Addr) (g : PD → List Str) : Sp := fun vs H Q _ => ∃ (x dx L S F : Addr) (d : PD), vs = [.ref x] ∧ ProgAt K C H x dx L S F d ∧ ∀ p, H p = none → Q (.ref p) (upd H p (.lst ((g d).map V.str)))
theorem keys_strs {H : Hp} {kvs : List (Key × V)} {ls : List Lk} (h : Lks K H kvs ls) : (kvs.map fun kv => kV kv.1) = (keysL ls).map V.str := by
  have z := lks_keys h
  have e : (kvs.map fun kv => kV kv.1) = (kvs.map (·.1)).map kV := by rw [List.map_map]; rfl
  rw [e, z, List.map_map]
  rfl
theorem ok_mways {f C : Addr} {fd : FuncData} (Fn : Fun K "ways" "Program.ways" sMWays f fd) (T : PT0 mg) (Tc : PTc K mg C) : FnOk P w K mg base CX0 1 f fd ["self"] (spList K C fun d => keysL d.ls) := by
  refine Fn.ok scMWays (fun vs H Q E h => ?_) (fun cdv A outer s H vs Q E hr h => ?_)
  · obtain ⟨x, dx, L, S, F, d, rfl, _⟩ := h
    rfl
  · obtain ⟨x, dx, L, S, F, d, rfl, h, k⟩ := h
    obtain ⟨kvs, hL, lk⟩ := h.lk
    refine ⟨_, pss_one (ps_ret (pe_callTy (call_listD rfl) (by rfl) T.list PyProof.Rows.boot_list (pa_cons (pe_fld (pv 0) rfl) pa_nil))), _, rfl, x, C, dx, _, _, rfl, h.ins, Tc.cl, Tc.n1, rfl, L, kvs, rfl, .inl hL, fun p np => ?_⟩
    rw [keys_strs lk]
    exact k p np
theorem scMPlaces : FnScope ["self"] ["self"] (defScope sMPlaces) := ⟨rfl, rfl, rfl, by decide +kernel, rfl, by decide +kernel, by decide +kernel⟩
theorem ok_mplaces {f C : Addr} {fd : FuncData} (Fn : Fun K "places" "Program.places" sMPlaces f fd) (T : PT0 mg) (Tc : PTc K mg C) : FnOk P w K mg base CX0 1 f fd ["self"] (spList K C fun d => d.ps) := by
  refine Fn.ok scMPlaces (fun vs H Q E h => ?_) (fun cdv A outer s H vs Q E hr h => ?_)
  · obtain ⟨x, dx, L, S, F, d, rfl, _⟩ := h
    rfl
  · obtain ⟨x, dx, L, S, F, d, rfl, h, k⟩ := h
    exact ⟨_, pss_one (ps_ret (pe_callTy call_list_of (by rfl) T.list PyProof.Rows.boot_list (pa_cons (pe_fld (pv 0) rfl) pa_nil))), _, rfl, x, C, dx, _, _, rfl, h.ins, Tc.cl, Tc.n2, rfl, S, _, rfl, .inl (SqL.of h.sp), k⟩
theorem scMExits : FnScope ["self"] ["self"] (defScope sMExits) := ⟨rfl, rfl, rfl, by decide +kernel, rfl, by decide +kernel, by decide +kernel⟩
theorem ok_mexits {f C : Addr} {fd : FuncData} (Fn : Fun K "exits" "Program.exits" sMExits f fd) (T : PT0 mg) (Tc : PTc K mg C) : FnOk P w K mg base CX0 1 f fd ["self"] (spList K C fun d => d.fs) := by
  refine Fn.ok scMExits (fun vs H Q E h => ?_) (fun cdv A outer s H vs Q E hr h => ?_)
  · obtain ⟨x, dx, L, S, F, d, rfl, _⟩ := h
    rfl
  · obtain ⟨x, dx, L, S, F, d, rfl, h, k⟩ := h
    exact ⟨_, pss_one (ps_ret (pe_callTy call_list_of (by rfl) T.list PyProof.Rows.boot_list (pa_cons (pe_fld (pv 0) rfl) pa_nil))), _, rfl, x, C, dx, _, _, rfl, h.ins, Tc.cl, Tc.n4, rfl, F, _, rfl, .inl (SqL.of h.fi), k⟩
/-! ### item reading, in, len -/
theorem isSome_val {H : Hp} {kvs : List (Key × V)} {ls : List Lk} {x : Str} (h : Lks K H kvs ls) : (valV kvs (Sum.inr x : Key)).isSome = decide (x ∈ keysL ls) := by
  by_cases m : x ∈ keysL ls
  · obtain ⟨t, e, _⟩ := lks_val h m
    rw [e, decide_eq_true m]
    rfl
  · rw [lks_none h m, decide_eq_false m]
    rfl
theorem scGet : FnScope ["self", "at"] ["self", "at"] (defScope sGet) := ⟨rfl, rfl, rfl, by decide +kernel, rfl, by decide +kernel, by decide +kernel⟩
def spGet (K : PySem.W.Frag) (C : Addr) : Sp := fun vs H Q _ => ∃ (x dx L S F : Addr) (d : PD) (wy : Str), vs = [.ref x, .str wy] ∧ ProgAt K C H x dx L S F d ∧ wy ∈ keysL d.ls ∧ ∀ t, SqT K H t [.str (lkp d.ls wy).1, .str (lkp d.ls wy).2] → Q (.ref t) H
theorem ok_get {f C fA : Addr} {fd fdA : FuncData} (Fn : Fun K "__getitem__" "Program.__getitem__" sGet f fd) (Tc : PTc K mg C) (FA : Fun K "is_among" "is_among" sAmong fA fdA) (bA : Binds K fdA ["value", "words"] []) (gA : mg "is_among" = some (.ref fA)) (GA : FnOk P w K mg base CX0 1 fA fdA ["value", "words"] (spAmong K)) : FnOk P w K mg base CX0 2 f fd ["self", "at"] (spGet K C) := by
  refine Fn.ok scGet (fun vs H Q E h => ?_) (fun cdv A outer s H vs Q E hr h => ?_)
  · obtain ⟨x, dx, L, S, F, d, wy, rfl, _⟩ := h
    rfl
  · obtain ⟨x, dx, L, S, F, d, wy, rfl, h, m, k⟩ := h
    obtain ⟨kvs, hL, lk⟩ := h.lk
    obtain ⟨t, e, ht⟩ := lks_val lk m
    refine ⟨_, pss_cons (ps_if (pt_not (pt_val (pe_call GA hr (by rfl) gA FA.kp bA .nil pass0 (pa_cons (pv 1) (pa_cons (pe_fld (pv 0) rfl) pa_nil))))) pss_dead pss_nil) (pss_one (ps_ret (pe_dget (hu_of hr) (pe_fld (pv 0) rfl) (pv 1) (fun _ _ => rfl)))), ?_⟩
    refine ⟨_, rfl, _, rfl, x, C, dx, _, _, rfl, h.ins, Tc.cl, Tc.n1, rfl, .str wy, L, rfl, .inr (.inl ⟨wy, kvs, rfl, .inl hL, _, rfl, ?_⟩)⟩
    rw [isSome_val lk, decide_eq_true m]
    refine iteNF ⟨_, rfl, x, C, dx, _, _, rfl, h.ins, Tc.cl, Tc.n1, rfl, _, rfl, L, .ref t, rfl, ?_, k t ht⟩
    rw [← e]
    exact .inl ⟨kvs, Sum.inr wy, .inl hL, rfl, rfl⟩
theorem scHas : FnScope ["self", "x"] ["self", "x"] (defScope sHas) := ⟨rfl, rfl, rfl, by decide +kernel, rfl, by decide +kernel, by decide +kernel⟩
def spHas (K : PySem.W.Frag) (C : Addr) : Sp := fun vs H Q _ => ∃ (x dx L S F : Addr) (d : PD) (v : V), vs = [.ref x, v] ∧ ProgAt K C H x dx L S F d ∧ ((∃ wy, v = .str wy ∧ Q (.bl (decide (wy ∈ keysL d.ls))) H) ∨ (∃ t, TyX K H v t ∧ PySem.W.kitOne K t (.type "str") = some false ∧ Q (.bl false) H))
theorem ok_has {f C fA : Addr} {fd fdA : FuncData} (Fn : Fun K "__contains__" "Program.__contains__" sHas f fd) (Tc : PTc K mg C) (FA : Fun K "is_among" "is_among" sAmong fA fdA) (bA : Binds K fdA ["value", "words"] []) (gA : mg "is_among" = some (.ref fA)) (GA : FnOk P w K mg base CX0 1 fA fdA ["value", "words"] (spAmong K)) : FnOk P w K mg base CX0 2 f fd ["self", "x"] (spHas K C) := by
  refine Fn.ok scHas (fun vs H Q E h => ?_) (fun cdv A outer s H vs Q E hr h => ?_)
  · obtain ⟨x, dx, L, S, F, d, v, rfl, _⟩ := h
    rfl
  · obtain ⟨x, dx, L, S, F, d, v, rfl, h, k⟩ := h
    obtain ⟨kvs, hL, lk⟩ := h.lk
    refine ⟨_, pss_one (ps_ret (pe_call GA hr (by rfl) gA FA.kp bA .nil pass0 (pa_cons (pv 1) (pa_cons (pe_fld (pv 0) rfl) pa_nil)))), _, rfl, _, rfl, x, C, dx, _, _, rfl, h.ins, Tc.cl, Tc.n1, rfl, v, L, rfl, ?_⟩
    rcases k with ⟨wy, rfl, q⟩ | ⟨t, ht, hk, q⟩
    · refine .inr (.inl ⟨wy, kvs, rfl, .inl hL, ?_⟩)
      rw [isSome_val lk]
      exact q
    · exact .inr (.inr ⟨t, ht, hk, q⟩)
theorem scMLen : FnScope ["self"] ["self"] (defScope sMLen) := ⟨rfl, rfl, rfl, by decide +kernel, rfl, by decide +kernel, by decide +kernel⟩
def spMLen (K : PySem.W.Frag) (C : Addr) : Sp := fun vs H Q _ => ∃ (x dx L S F : Addr) (d : PD), vs = [.ref x] ∧ ProgAt K C H x dx L S F d ∧ Q (.int (d.ls.length : Nat)) H
theorem ok_mlen {f C : Addr} {fd : FuncData} (Fn : Fun K "__len__" "Program.__len__" sMLen f fd) (T : PT0 mg) (Tc : PTc K mg C) : FnOk P w K mg base CX0 1 f fd ["self"] (spMLen K C) := by
  refine Fn.ok scMLen (fun vs H Q E h => ?_) (fun cdv A outer s H vs Q E hr h => ?_)
  · obtain ⟨x, dx, L, S, F, d, rfl, _⟩ := h
    rfl
  · obtain ⟨x, dx, L, S, F, d, rfl, h, k⟩ := h
    obtain ⟨kvs, hL, lk⟩ := h.lk
    refine ⟨_, pss_one (ps_ret (pe_callB call_lenD (by rfl) T.len PySem.boot_len (pa_cons (pe_fld (pv 0) rfl) pa_nil))), _, rfl, x, C, dx, _, _, rfl, h.ins, Tc.cl, Tc.n1, rfl, L, kvs, rfl, hL, ?_⟩
    rw [Paired.length lk]
    exact k
/-! ### == -/
theorem scEq : FnScope ["self", "other"] ["self", "other"] (defScope sEq) := ⟨rfl, rfl, rfl, by decide +kernel, rfl, by decide +kernel, by decide +kernel⟩
def eqPD (d e : PD) : Bool := (decide (d.ls.length = e.ls.length) && OW.hitsL e.ls d.ls) && (decide (d.b = e.b) && decide (d.fs = e.fs))
structure PDok (d : PD) : Prop where
  l : OW.TxOkk (ends d.ls)
  f : OW.TxOkk d.fs
def spEqP (K : PySem.W.Frag) (C : Addr) : Sp := fun vs H Q _ => ∃ (x dx L S F : Addr) (d : PD) (v : V), vs = [.ref x, v] ∧ ProgAt K C H x dx L S F d ∧
  ((∃ (y dy L2 S2 F2 : Addr) (e : PD), v = .ref y ∧ ProgAt K C H y dy L2 S2 F2 e ∧ PDok d ∧ PDok e ∧ Q (.bl (eqPD d e)) H) ∨ (∃ t, TyX K H v t ∧ PySem.W.kitOne K t (.ref C) = some false ∧ Q (.bl false) H))
theorem ok_eqP {f C : Addr} {fd : FuncData} (Fn : Fun K "__eq__" "Program.__eq__" sEq f fd) (T : PT0 mg) (Tc : PTc K mg C) (Tt : PTt K C) : FnOk P w K mg base CX0 1 f fd ["self", "other"] (spEqP K C) := by
  refine Fn.ok scEq (fun vs H Q E h => ?_) (fun cdv A outer s H vs Q E hr h => ?_)
  · obtain ⟨x, dx, L, S, F, d, v, rfl, _⟩ := h
    rfl
  · obtain ⟨x, dx, L, S, F, d, v, rfl, h, k⟩ := h
    obtain ⟨kvs, hL, lk⟩ := h.lk
    refine ⟨_, pss_one (ps_ret (pe_and (pe_callB call_isi (by rfl) T.isi PyProof.Rows.boot_isinstance (pa_cons (pv 1) (pa_cons (pe_glob (v := .ref C) (by rfl) Tc.gC rfl) pa_nil)))
      (pe_and (pe_cmpR (OW.op_eqLk (room66 hr)) (pe_fld (pv 0) rfl) (pe_fld (pv 1) rfl) (nomark _))
      (pe_and (pe_cmpR op_eq (pe_fld (pv 0) rfl) (pe_fld (pv 1) rfl) (nomark _))
      (pe_one (pe_cmpR (OW.op_eqTx hr.units) (pe_fld (pv 0) rfl) (pe_fld (pv 1) rfl) (nomark _))))))), ?_⟩
    rcases k with ⟨y, dy, L2, S2, F2, e, rfl, h2, ok1, ok2, q⟩ | ⟨t, ht, hk, q⟩
    · obtain ⟨kvs2, hL2, lk2⟩ := h2.lk
      refine ⟨_, rfl, .ref y, .ref C, _, _, true, rfl, .own C, .base (.ins h2.ins Tc.cl Tt.ha Tt.hn Tt.htk Tt.hm), ?_, _, rfl, iteT ?_⟩
      · unfold PySem.W.kitOne
        rw [if_pos (beq_self_eq_true _)]
      refine ⟨_, rfl, x, C, dx, _, _, rfl, h.ins, Tc.cl, Tc.n1, rfl, _, rfl, y, C, dy, _, _, rfl, h2.ins, Tc.cl, Tc.n1, rfl, L, L2, kvs, kvs2, _, _, rfl, rfl, hL, hL2, lk, lk2, ok1.l, ok2.l, _, rfl, iteB (fun c1 => ?_) (fun c1 => ?_)⟩
      · refine ⟨_, rfl, x, C, dx, _, _, rfl, h.ins, Tc.cl, Tc.n3, rfl, _, rfl, y, C, dy, _, _, rfl, h2.ins, Tc.cl, Tc.n3, rfl, rfl, _, rfl, iteB (fun c2 => ?_) (fun c2 => ?_)⟩
        · refine ⟨_, rfl, x, C, dx, _, _, rfl, h.ins, Tc.cl, Tc.n4, rfl, _, rfl, y, C, dy, _, _, rfl, h2.ins, Tc.cl, Tc.n4, rfl, F, F2, _, _, rfl, rfl, SqL.of h.fi, SqL.of h2.fi, ok1.f, ok2.f, ?_⟩
          have e2 : d.b = e.b := by have z := of_decide_eq_true c2; injection z
          unfold eqPD at q
          rw [c1, decide_eq_true e2, Bool.true_and, Bool.true_and] at q
          exact q
        · have e2 : d.b ≠ e.b := fun z => by
            rw [z, decide_eq_true rfl] at c2
            cases c2
          unfold eqPD at q
          rw [decide_eq_false e2, Bool.false_and, Bool.and_false] at q
          exact q
      · unfold eqPD at q
        rw [c1, Bool.false_and] at q
        exact q
    · exact ⟨_, rfl, v, .ref C, _, _, false, rfl, .own C, ht, hk, _, rfl, iteF q⟩
/-! ### leaving, entering -/
abbrev nsLv : List Str := ["self", "place", "way"]
def lvOf (ls : List Lk) (p : Str) : List Str := keysL (ls.filter fun l => decide (l.2.1 = p))
def etOf (ls : List Lk) (p : Str) : List Str := keysL (ls.filter fun l => decide (l.2.2 = p))
theorem lv_snoc {ls : List Lk} {i : Nat} {l : Lk} (c : Lk → Bool) (h : ls[i]? = some l) : (keysL ((ls.take (i + 1)).filter c)).map V.str = (keysL ((ls.take i).filter c)).map V.str ++ (if c l then [V.str l.1] else []) := by
  rw [List.take_add_one, h, List.filter_append]
  show List.map V.str (List.map _ (_ ++ _)) = _
  rw [List.map_append, List.map_append]
  congr 1
  show List.map V.str (List.map (·.1) (List.filter c [l])) = _
  by_cases e : c l = true
  · rw [List.filter_cons_of_pos e, if_pos e]
    rfl
  · rw [List.filter_cons_of_neg e, if_neg e]
    rfl
theorem lv_len (ls : List Lk) (i : Nat) (c : Lk → Bool) : ((keysL ((ls.take i).filter c)).map V.str).length ≤ ls.length := by
  rw [List.length_map]
  show (List.map _ _).length ≤ _
  rw [List.length_map]
  exact Nat.le_trans (List.length_filter_le _ _) (List.length_take_le' i ls)
def spLv (K : PySem.W.Frag) (C : Addr) (g : List Lk → Str → List Str) : Sp := fun vs H Q _ => ∃ (x dx L S F : Addr) (d : PD) (p : Str), vs = [.ref x, .str p] ∧ ProgAt K C H x dx L S F d ∧ p ∈ d.ps ∧ (keysL d.ls).Nodup ∧ d.ls.length ≤ 40 ∧ ∀ (r : Addr) (H' : Hp), H r = none → Same H H' → H' r = some (.lst ((g d.ls p).map V.str)) → Q (.ref r) H'
theorem scLeaving : FnScope nsLv ["self", "place"] (defScope sLeaving) := ⟨rfl, rfl, rfl, by decide +kernel, rfl, by decide +kernel, by decide +kernel⟩
theorem ok_leaving {f C fA : Addr} {fd fdA : FuncData} (Fn : Fun K "leaving" "Program.leaving" sLeaving f fd) (Tc : PTc K mg C) (FA : Fun K "is_among" "is_among" sAmong fA fdA) (bA : Binds K fdA ["value", "words"] []) (gA : mg "is_among" = some (.ref fA)) (GA : FnOk P w K mg base CX0 1 fA fdA ["value", "words"] (spAmong K)) : FnOk P w K mg base CX0 2 f fd ["self", "place"] (spLv K C lvOf) := by
  refine Fn.ok scLeaving (fun vs H Q E h => ?_) (fun cdv A outer s H vs Q E hr h => ?_)
  · obtain ⟨x, dx, L, S, F, d, p, rfl, _⟩ := h
    rfl
  · obtain ⟨x, dx, L, S, F, d, p, rfl, h, m, nd, n40, k⟩ := h
    obtain ⟨kvs, hL, lk⟩ := h.lk
    have hu := hu_of hr
    have sn := scLeaving.nd
    refine ⟨_, pss_cons (ps_if (pt_not (pt_val (pe_call GA hr (by rfl) gA FA.kp bA .nil pass0 (pa_cons (pv 1) (pa_cons (pe_fld (pv 0) rfl) pa_nil))))) pss_dead pss_nil)
      (pss_one (ps_ret (pe_lock (pe_lc (own := [("way", 2)]) (g := gName 2) rfl sn (pi_keys (pe_fld (pv 0) rfl)) (blkOk_by (own := [("way", 2)]) (N := nsLv) (sc := defScope sLeaving) (by decide +kernel)) (fun _ _ _ _ _ => pg_name (i := 2) sn rfl (Or.inl rfl))
        (tt := tTest (tOp rEq (tOp (rIxT K) (tDGet (tFld K (tVar 0) "links") (tVar 2)) (tC (V.int 0))) (tVar 1)))
        (fun _ _ _ _ _ => pts_one (pt_cmpR op_eq (pe_ix (show IxR _ (rIxT K) from ix_tup) (pe_dget hu (pe_fld (pv 0) rfl) (pv 2) (fun _ _ => rfl)) pe_int (fun _ _ => rfl)) (pv 1) (nomark _)))
        (fun _ _ _ _ _ => pv 2))))), ?_⟩
    refine ⟨_, rfl, _, rfl, x, C, dx, _, _, rfl, h.ins, Tc.cl, Tc.n2, rfl, .str p, S, rfl, .inl ⟨p, d.ps, rfl, SqL.of h.sp, _, rfl, ?_⟩⟩
    rw [decide_eq_true m]
    refine iteNF ?_
    have nxL : x ≠ L := ne_of h.ins hL (by intro z; cases z)
    refine ⟨L, .dK kvs, hL, trivial, fun od => ⟨_, rfl, x, C, dx, _, _, rfl, (by rw [upd_ne nxL]; exact h.ins), Tc.cl, Tc.n1, rfl, L, od, rfl, .inl ⟨kvs, upd_same, fun D nD => ?_⟩⟩⟩
    have lkL := Lks.lock (od := od) lk hL
    have lkn : kvs.length = d.ls.length := Paired.length lk
    refine lc_keep walk_keys nD (fun i => (keysL ((d.ls.take i).filter fun l => decide (l.2.1 = p))).map V.str) rfl (fun i _ => Nat.le_trans (lv_len d.ls i _) (by omega)) (fun H' s => s _ _ upd_same) ?_ ?_
    · rintro i v H1 H2 Pn hi s1 ⟨rfl, kk, vv, ekv, rfl⟩ fin skip
      obtain ⟨l, hl, e1, _⟩ := lks_at lkL ekv
      have e1' : kk = Sum.inr l.1 := e1
      subst e1'
      obtain ⟨t, hv, h2⟩ := pair_uniq lkL nd hl
      have sn2 := lv_snoc (fun l => decide (l.2.1 = p)) hl
      have hx2 : H2 x = some (.ins C dx [("links", .ref L), ("spots", .ref S), ("origin", .str d.b), ("finals", .ref F)]) := s1 _ _ (by rw [upd_ne nxL]; exact h.ins)
      refine ⟨rfl, _, rfl, x, C, dx, _, _, rfl, hx2, Tc.cl, Tc.n1, rfl, _, rfl, L, .ref t, rfl, ?_, t, _, _, _, rfl, rfl, sqT_same h2 s1, atI_nat (j := 0) rfl, _, rfl, rfl, _, rfl, ?_⟩
      · rw [← hv]
        exact .inl ⟨kvs, Sum.inr l.1, .inr ⟨od, s1 _ _ upd_same⟩, rfl, rfl⟩
      · refine iteB (fun c => ?_) (fun c => ?_)
        · have e : l.2.1 = p := by have z := of_decide_eq_true c; injection z
          refine ⟨_, rfl, fin H2 _ (Same.refl _) ?_⟩
          rw [sn2, if_pos (decide_eq_true e)]
          rfl
        · have e : ¬ l.2.1 = p := fun z => by rw [z, decide_eq_true rfl] at c; cases c
          refine skip H2 (Same.refl _) ?_
          rw [sn2, if_neg (by rw [decide_eq_false e]; exact Bool.false_ne_true), List.append_nil]
    · intro H1 s1 hD1
      have nDL : D ≠ L := fun z => by rw [z, upd_same] at nD; cases nD
      refine ⟨s1 _ _ upd_same, k D _ (by rw [upd_ne nDL] at nD; exact nD) (unlock hL s1) ?_⟩
      rw [upd_ne nDL, hD1, lkn, List.take_length]
      rfl
theorem scEntering : FnScope nsLv ["self", "place"] (defScope sEntering) := ⟨rfl, rfl, rfl, by decide +kernel, rfl, by decide +kernel, by decide +kernel⟩
theorem ok_entering {f C fA : Addr} {fd fdA : FuncData} (Fn : Fun K "entering" "Program.entering" sEntering f fd) (Tc : PTc K mg C) (FA : Fun K "is_among" "is_among" sAmong fA fdA) (bA : Binds K fdA ["value", "words"] []) (gA : mg "is_among" = some (.ref fA)) (GA : FnOk P w K mg base CX0 1 fA fdA ["value", "words"] (spAmong K)) : FnOk P w K mg base CX0 2 f fd ["self", "place"] (spLv K C etOf) := by
  refine Fn.ok scEntering (fun vs H Q E h => ?_) (fun cdv A outer s H vs Q E hr h => ?_)
  · obtain ⟨x, dx, L, S, F, d, p, rfl, _⟩ := h
    rfl
  · obtain ⟨x, dx, L, S, F, d, p, rfl, h, m, nd, n40, k⟩ := h
    obtain ⟨kvs, hL, lk⟩ := h.lk
    have hu := hu_of hr
    have sn := scEntering.nd
    refine ⟨_, pss_cons (ps_if (pt_not (pt_val (pe_call GA hr (by rfl) gA FA.kp bA .nil pass0 (pa_cons (pv 1) (pa_cons (pe_fld (pv 0) rfl) pa_nil))))) pss_dead pss_nil)
      (pss_one (ps_ret (pe_lock (pe_lc (own := [("way", 2)]) (g := gName 2) rfl sn (pi_keys (pe_fld (pv 0) rfl)) (blkOk_by (own := [("way", 2)]) (N := nsLv) (sc := defScope sEntering) (by decide +kernel)) (fun _ _ _ _ _ => pg_name (i := 2) sn rfl (Or.inl rfl))
        (tt := tTest (tOp rEq (tOp (rIxT K) (tDGet (tFld K (tVar 0) "links") (tVar 2)) (tC (V.int 1))) (tVar 1)))
        (fun _ _ _ _ _ => pts_one (pt_cmpR op_eq (pe_ix (show IxR _ (rIxT K) from ix_tup) (pe_dget hu (pe_fld (pv 0) rfl) (pv 2) (fun _ _ => rfl)) pe_int (fun _ _ => rfl)) (pv 1) (nomark _)))
        (fun _ _ _ _ _ => pv 2))))), ?_⟩
    refine ⟨_, rfl, _, rfl, x, C, dx, _, _, rfl, h.ins, Tc.cl, Tc.n2, rfl, .str p, S, rfl, .inl ⟨p, d.ps, rfl, SqL.of h.sp, _, rfl, ?_⟩⟩
    rw [decide_eq_true m]
    refine iteNF ?_
    have nxL : x ≠ L := ne_of h.ins hL (by intro z; cases z)
    refine ⟨L, .dK kvs, hL, trivial, fun od => ⟨_, rfl, x, C, dx, _, _, rfl, (by rw [upd_ne nxL]; exact h.ins), Tc.cl, Tc.n1, rfl, L, od, rfl, .inl ⟨kvs, upd_same, fun D nD => ?_⟩⟩⟩
    have lkL := Lks.lock (od := od) lk hL
    have lkn : kvs.length = d.ls.length := Paired.length lk
    refine lc_keep walk_keys nD (fun i => (keysL ((d.ls.take i).filter fun l => decide (l.2.2 = p))).map V.str) rfl (fun i _ => Nat.le_trans (lv_len d.ls i _) (by omega)) (fun H' s => s _ _ upd_same) ?_ ?_
    · rintro i v H1 H2 Pn hi s1 ⟨rfl, kk, vv, ekv, rfl⟩ fin skip
      obtain ⟨l, hl, e1, _⟩ := lks_at lkL ekv
      have e1' : kk = Sum.inr l.1 := e1
      subst e1'
      obtain ⟨t, hv, h2⟩ := pair_uniq lkL nd hl
      have sn2 := lv_snoc (fun l => decide (l.2.2 = p)) hl
      have hx2 : H2 x = some (.ins C dx [("links", .ref L), ("spots", .ref S), ("origin", .str d.b), ("finals", .ref F)]) := s1 _ _ (by rw [upd_ne nxL]; exact h.ins)
      refine ⟨rfl, _, rfl, x, C, dx, _, _, rfl, hx2, Tc.cl, Tc.n1, rfl, _, rfl, L, .ref t, rfl, ?_, t, _, _, _, rfl, rfl, sqT_same h2 s1, atI_nat (j := 1) rfl, _, rfl, rfl, _, rfl, ?_⟩
      · rw [← hv]
        exact .inl ⟨kvs, Sum.inr l.1, .inr ⟨od, s1 _ _ upd_same⟩, rfl, rfl⟩
      · refine iteB (fun c => ?_) (fun c => ?_)
        · have e : l.2.2 = p := by have z := of_decide_eq_true c; injection z
          refine ⟨_, rfl, fin H2 _ (Same.refl _) ?_⟩
          rw [sn2, if_pos (decide_eq_true e)]
          rfl
        · have e : ¬ l.2.2 = p := fun z => by rw [z, decide_eq_true rfl] at c; cases c
          refine skip H2 (Same.refl _) ?_
          rw [sn2, if_neg (by rw [decide_eq_false e]; exact Bool.false_ne_true), List.append_nil]
    · intro H1 s1 hD1
      have nDL : D ≠ L := fun z => by rw [z, upd_same] at nD; cases nD
      refine ⟨s1 _ _ upd_same, k D _ (by rw [upd_ne nDL] at nD; exact nD) (unlock hL s1) ?_⟩
      rw [upd_ne nDL, hD1, lkn, List.take_length]
      rfl
end
end PG


set_option Elab.async false
set_option linter.all false
set_option maxRecDepth 100000
set_option maxHeartbeats 4000000
namespace LH
open PySem L2
def top (i : Nat) : Stmt := PySem.Challenge.pw_countededges_k01_words_and_programs_made.main.body.getD i (.Pass ⟨0, 0, 0, 0⟩)
abbrev sNum : Stmt := top 18
abbrev sPool : Stmt := top 19
abbrev sDraw : Stmt := top 20
abbrev sOpen : Stmt := top 21
/-- the module's and built-in names that these defs read -/
structure HT (mg : Str → Option Value) : Prop where
  max : mg "max" = none
  min : mg "min" = none
  int : mg "int" = none
  range : mg "range" = none
  len : mg "len" = none
theorem z420 : (0 : Int) < 420 := by decide
/-- a new object changes nothing that stood -/
theorem sm {H : Hp} {p : Addr} {o : HO} (np : H p = none) : Same H (upd H p o) := fun b u e => by
  rw [upd_ne (ne_of_none e np)]
  exact e
section
variable {P : Program} {w : World} {K : PySem.W.Frag} {mg : Str → Option Value} {base : Heap}
abbrev nsNum : List Str := ["cell", "salt", "sizes", "whole", "left", "result", "k", "one"]
theorem scNum : FnScope nsNum ["cell", "salt", "sizes"] (defScope sNum) := ⟨rfl, rfl, rfl, by decide +kernel, rfl, by decide +kernel, by decide +kernel⟩
def spNum (K : PySem.W.Frag) : Sp := fun vs H Q _ => ∃ (c salt : Int) (a : Addr) (n : Nat), vs = [.int c, .int salt, .ref a] ∧ 0 ≤ salt ∧ salt ≤ 63 ∧ SqL K H a (List.replicate n (V.int 420)) ∧ n ≤ 100 ∧
  ∀ (p : Addr) (rs : List Int) (H' : Hp), H p = none → Same H H' → H' p = some (.lst (rs.map V.int)) → rs.length = n → (∀ r ∈ rs, 0 ≤ r ∧ r < 420) → Q (.ref p) H'
theorem ok_num {f : Addr} {fd : FuncData} (F : Fun K "_law_numbers" "_law_numbers" sNum f fd) (T : HT mg) : FnOk P w K mg base CX0 1 f fd ["cell", "salt", "sizes"] (spNum K) := by
  refine F.ok scNum (fun vs H Q E h => ?_) (fun cdv A outer s H vs Q E hr h => ?_)
  · obtain ⟨c, salt, a, n, rfl, _⟩ := h
    rfl
  · obtain ⟨c, salt, a, n, rfl, s0, s1, hS, hn, k⟩ := h
    refine ⟨_, pss_cons (ps_set (i := 3) scNum.nd rfl (Or.inl rfl) (pe_callB (call_max2 rfl) (by rfl) T.max (by decide +kernel) (pa_cons (pe_callTy call_int1 (by rfl) T.int (by decide +kernel) (pa_cons (pv 0) pa_nil)) (pa_cons (pe_callTy call_int1 (by rfl) T.int (by decide +kernel) (pa_cons (pe_op op_sub (pe_un un_neg pe_int) (pv 0)) pa_nil)) pa_nil))))
      (pss_cons (ps_set (i := 4) scNum.nd rfl (Or.inl rfl) (pv 3))
      (pss_cons (ps_set (i := 5) scNum.nd rfl (Or.inl rfl) (pe_lst pa_nil))
      (pss_cons (ps_for PassesOwn.never rfl (pi_range1 rfl T.range (pa_cons (pe_callB call_len_seq (by rfl) T.len PySem.boot_len (pa_cons (pv 2) pa_nil)) pa_nil)) (pg_name (i := 6) scNum.nd rfl (Or.inl rfl))
        (pss_one (ps_if (pw_and (pt_cmpR op_ge (pv 3) (pe_op op_pow pe_int pe_int) (nomark _)) (pw_and1 (pt_cmpR op_gt (pv 4) pe_int (nomark _)))).pt
          (pss_cons (ps_expr (pe_bm PySem.F.plainAttrs_list PySem.F.slot_list_append PySem.F.type_list_append mt_append (pv 5) (pa_cons (pe_op op_mod (pe_callTy call_int1 (by rfl) T.int (by decide +kernel) (pa_cons (pv 4) pa_nil)) (pe_ix ix_list (pv 2) (pv 6) (fun _ _ => rfl))) pa_nil)))
            (pss_one (ps_set (i := 4) scNum.nd rfl (Or.inl rfl) (pe_op op_fdiv (pv 4) (pe_ix ix_list (pv 2) (pv 6) (fun _ _ => rfl))))))
          (pss_cons (ps_set (i := 7) scNum.nd rfl (Or.inl rfl) (pe_op op_pow (pe_op op_add (pe_op op_add (pe_op op_mod (pe_callTy call_int1 (by rfl) T.int (by decide +kernel) (pa_cons (pv 3) pa_nil)) pe_int) (pe_op op_mul pe_int (pv 1))) pe_int) pe_int))
          (pss_cons (ps_set (i := 7) scNum.nd rfl (Or.inl rfl) (pe_op op_mul (pe_op op_add (pe_op op_mod (pe_callTy call_int1 (by rfl) T.int (by decide +kernel) (pa_cons (pv 7) pa_nil)) pe_int) (pe_op op_mul pe_int (pe_op op_add (pv 6) pe_int))) (pe_op op_add (pv 6) pe_int)))
          (pss_cons (ps_set (i := 7) scNum.nd rfl (Or.inl rfl) (pe_op op_mod (pe_callTy call_int1 (by rfl) T.int (by decide +kernel) (pa_cons (pv 7) pa_nil)) pe_int))
          (pss_cons (ps_set (i := 7) scNum.nd rfl (Or.inl rfl) (pe_op op_mul (pe_op op_mod (pe_callTy call_int1 (by rfl) T.int (by decide +kernel) (pa_cons (pe_op op_pow (pv 7) pe_int) pa_nil)) pe_int) pe_int))
          (pss_cons (ps_set (i := 7) scNum.nd rfl (Or.inl rfl) (pe_op op_mod (pe_callTy call_int1 (by rfl) T.int (by decide +kernel) (pa_cons (pv 7) pa_nil)) pe_int))
          (pss_one (ps_expr (pe_bm PySem.F.plainAttrs_list PySem.F.slot_list_append PySem.F.type_list_append mt_append (pv 5) (pa_cons (pe_op op_mod (pe_callTy call_int1 (by rfl) T.int (by decide +kernel) (pa_cons (pe_op op_fdiv (pv 7) pe_int) pa_nil)) (pe_ix ix_list (pv 2) (pv 6) (fun _ _ => rfl))) pa_nil)))))))))
        )))
      (pss_one (ps_ret (pv 5)))))), ?_⟩
    -- whole = max(int(cell), int(-1 - cell)); left = whole; result = []
    refine ⟨_, rfl, .inl ⟨_, rfl, _, rfl, _, rfl, _, _, rfl, rfl, .inl ⟨_, rfl, _, _, rfl, ?_⟩⟩⟩
    generalize (if (-1 - c : Int) > c then -1 - c else c) = W
    refine ⟨_, rfl, (by show 0 ≤ sizeLine; exact Nat.zero_le _), fun p np => ?_⟩
    have hS' : ∀ l, SqL K (upd H p (.lst l)) a (List.replicate n (V.int 420)) := fun l => (sm np).seq hS
    have el : (((List.replicate n (V.int 420)).length : Nat) : Int).toNat = n := by rw [List.length_replicate]; rfl
    have lz : (((List.replicate n (V.int 420)).length : Nat) : Int) ≤ 100 := by rw [List.length_replicate]; omega
    refine ⟨_, rfl, a, _, rfl, .inl (hS' _), _, rfl, by omega, by omega, ?_⟩
    rw [el]
    refine for_range (lo := 0) (n := n) (fun i σ H' => ∃ (left : Int) (rs : List Int) (v6 v7 : Option V), σ = [some (.int c), some (.int salt), some (.ref a), some (.int W), some (.int left), some (.ref p), v6, v7] ∧
      H' = upd H p (.lst (rs.map V.int)) ∧ rs.length = i ∧ (∀ r ∈ rs, 0 ≤ r ∧ r < 420)) ⟨W, [], none, none, rfl, rfl, rfl, fun r h => nomatch h⟩ ?_ ?_
    · rintro i σ H' hi ⟨left, rs, v6, v7, rfl, rfl, hl, hb⟩
      have at420 : atI (List.replicate n (V.int 420)) ((0 : Int) + (i : Nat)) = some (V.int 420) := by
        rw [Int.zero_add]
        exact atI_nat (by rw [List.getElem?_replicate, if_pos hi])
      have next : ∀ (x left' : Int) (v7' : Option V), 0 ≤ x → x < 420 → ∃ (left : Int) (rs' : List Int) (v6 v7 : Option V), [some (V.int c), some (V.int salt), some (V.ref a), some (V.int W), some (V.int left'), some (V.ref p), some (V.int ((0 : Int) + (i : Nat))), v7'] = [some (V.int c), some (V.int salt), some (V.ref a), some (V.int W), some (V.int left), some (V.ref p), v6, v7] ∧
          upd (upd H p (.lst (rs.map V.int))) p (.lst (rs.map V.int ++ [V.int x])) = upd H p (.lst (rs'.map V.int)) ∧ rs'.length = i + 1 ∧ (∀ r ∈ rs', 0 ≤ r ∧ r < 420) := fun x left' v7' x0 x1 => by
        refine ⟨left', rs ++ [x], _, v7', rfl, ?_, by rw [List.length_append, hl]; rfl, fun r h => ?_⟩
        · rw [upd_upd, List.map_append]; rfl
        · rcases List.mem_append.mp h with h | h
          · exact hb r h
          · rw [List.mem_singleton.mp h]; exact ⟨x0, x1⟩
      have m0 : ∀ z : Int, 0 ≤ z % 420 ∧ z % 420 < 420 := fun z => ⟨Int.emod_nonneg _ (by decide), Int.emod_lt_of_pos _ (by decide)⟩
      have sz : (rs.map V.int).length < sizeLine := by rw [List.length_map, hl]; exact small1000 (by omega)
      refine ⟨_, rfl, _, _, rfl, rfl, ⟨by decide, by decide, by decide⟩, _, _, rfl, rfl, _, rfl, ?_⟩
      have nb : ∀ (z m : Int), 0 < m → m < 2 ^ 40 → (z % m).natAbs < 2 ^ 41 := fun z m h1 h2 => by
        have a1 := Int.emod_nonneg z (Int.ne_of_gt h1)
        have a2 := Int.emod_lt_of_pos z h1
        omega
      have ib : (0 : Int) + (i : Nat) = (i : Int) := Int.zero_add _
      refine ite2 (fun _ => ⟨_, rfl, _, _, rfl, rfl, _, rfl, ite2 (fun _ => ?_) (fun _ => ?_)⟩) (fun _ => iteF ?_)
      · -- result.append(int(left) % sizes[k]); left = left // sizes[k]
        refine ⟨_, rfl, .inl ⟨rfl, _, SqL.of upd_same⟩, _, rfl, .inl ⟨_, rfl, _, rfl, _, rfl, a, _, _, _, rfl, rfl, hS' _, at420, _, _, rfl, rfl, z420, p, _, _, rfl, rfl, upd_same, sz, ?_⟩⟩
        have hS2 : SqL K (upd (upd H p (.lst (rs.map V.int))) p (.lst (rs.map V.int ++ [V.int (left % 420)]))) a (List.replicate n (V.int 420)) := by rw [upd_upd]; exact hS' _
        exact ⟨_, rfl, _, rfl, _, rfl, a, _, _, _, rfl, rfl, hS2, at420, _, _, rfl, rfl, ⟨by decide, by decide⟩, next _ _ _ (m0 _).1 (m0 _).2⟩
      all_goals
        refine ⟨_, rfl, .inl ⟨_, rfl, _, _, rfl, rfl, (show (0 : Int) < _ by decide), _, rfl, _, _, rfl, rfl, .inl ⟨by decide, by decide⟩, _, _, rfl, rfl, _, _, rfl, rfl, _, _, rfl, rfl, ⟨by decide, by decide, ?_⟩, ?_⟩⟩
        · have z := nb W 2147483629 (by decide) (by decide)
          omega
        · generalize ((W % 2147483629 + 7919 * salt + 1) ^ (Int.toNat 3) : Int) = o1
          refine ⟨_, rfl, .inl ⟨_, rfl, _, _, rfl, rfl, (show (0 : Int) < _ by decide), _, rfl, _, _, rfl, rfl, _, _, rfl, rfl, .inl ⟨by decide, by decide⟩, _, _, rfl, rfl, _, rfl, _, _, rfl, rfl, _, _, rfl, rfl, .inr ⟨by rw [ib]; omega, by rw [ib]; omega⟩, ?_⟩⟩
          generalize ((o1 % 2147483647 + 104729 * ((0 : Int) + (i : Nat) + 1)) * ((0 : Int) + (i : Nat) + 3) : Int) = o2
          refine ⟨_, rfl, .inl ⟨_, rfl, _, _, rfl, rfl, (show (0 : Int) < _ by decide), ?_⟩⟩
          refine ⟨_, rfl, _, _, rfl, rfl, ⟨by decide, by decide, ?_⟩, .inl ⟨_, rfl, _, _, rfl, rfl, (show (0 : Int) < _ by decide), _, _, rfl, rfl, .inr ⟨by decide, by decide⟩, ?_⟩⟩
          · have z := nb o2 2147483629 (by decide) (by decide)
            omega
          · generalize ((o2 % 2147483629) ^ (Int.toNat 5) % 2147483647 * 48271 : Int) = o3
            refine ⟨_, rfl, .inl ⟨_, rfl, _, _, rfl, rfl, (show (0 : Int) < _ by decide), ?_⟩⟩
            exact ⟨_, rfl, .inl ⟨rfl, _, SqL.of upd_same⟩, _, rfl, _, _, rfl, rfl, ⟨by decide, by decide⟩, .inl ⟨_, rfl, _, rfl, _, rfl, a, _, _, _, rfl, rfl, hS' _, at420, _, _, rfl, rfl, z420, p, _, _, rfl, rfl, upd_same, sz, next _ _ _ (m0 _).1 (m0 _).2⟩⟩
    · rintro σ H' ⟨left, rs, v6, v7, rfl, rfl, hl, hb⟩
      exact ⟨_, rfl, k p rs _ np (sm np) upd_same hl hb⟩
end
end LH


set_option Elab.async false
set_option linter.all false
set_option maxRecDepth 100000
set_option maxHeartbeats 4000000
namespace LH
open PySem L2
section
variable {P : Program} {w : World} {K : PySem.W.Frag} {mg : Str → Option Value} {base : Heap}
/-- a pool: its list of drawn numbers at q, the place of the next one -/
structure PoolAt (H : Hp) (p q : Addr) (rs : List Int) (i : Int) : Prop where
  hp : H p = some (.lst [.ref q, .int i])
  hq : H q = some (.lst (rs.map V.int))
  i0 : 0 ≤ i
  len : rs.length ≤ 100
  bd : ∀ r ∈ rs, 0 ≤ r ∧ r < 420
theorem PoolAt.ne {H : Hp} {p q : Addr} {rs : List Int} {i : Int} (h : PoolAt H p q rs i) : p ≠ q := fun e => by
  have z := h.hp
  rw [e, h.hq] at z
  have z2 := Option.some.inj z
  cases rs with
  | nil => cases z2
  | cons r rs => cases z2
theorem PoolAt.same {H H' : Hp} {p q : Addr} {rs : List Int} {i : Int} (h : PoolAt H p q rs i) (s : Same H H') : PoolAt H' p q rs i := ⟨s _ _ h.hp, s _ _ h.hq, h.i0, h.len, h.bd⟩
theorem scPool : FnScope ["cell", "salt", "many"] ["cell", "salt", "many"] (defScope sPool) := ⟨rfl, rfl, rfl, by decide +kernel, rfl, by decide +kernel, by decide +kernel⟩
def spPool : Sp := fun vs H Q _ => ∃ (c salt : Int) (m : Nat), vs = [.int c, .int salt, .int m] ∧ 0 ≤ salt ∧ salt ≤ 63 ∧ m ≤ 100 ∧
  ∀ (p q : Addr) (rs : List Int) (H' : Hp), H p = none → H q = none → Same H H' → PoolAt H' p q rs 0 → rs.length = m → Q (.ref p) H'
theorem ok_pool {f fN : Addr} {fd fdN : FuncData} (F : Fun K "_law_pool" "_law_pool" sPool f fd) (T : HT mg) (FN : Fun K "_law_numbers" "_law_numbers" sNum fN fdN) (bN : Binds K fdN ["cell", "salt", "sizes"] []) (gN : mg "_law_numbers" = some (.ref fN)) :
    FnOk P w K mg base CX0 2 f fd ["cell", "salt", "many"] spPool := by
  have GN : FnOk P w K mg base CX0 1 fN fdN ["cell", "salt", "sizes"] (spNum K) := ok_num FN T
  refine F.ok scPool (fun vs H Q E h => ?_) (fun cdv A outer s H vs Q E hr h => ?_)
  · obtain ⟨c, salt, m, rfl, _⟩ := h
    rfl
  · obtain ⟨c, salt, m, rfl, s0, s1, hm, k⟩ := h
    refine ⟨_, pss_one (ps_ret (pe_lst (pa_cons (pe_call GN hr rfl gN FN.kp bN .nil pass0 (pa_cons (pv 0) (pa_cons (pv 1) (pa_cons (pe_op op_rep (pe_lst (pa_cons pe_int pa_nil)) (pv 2)) pa_nil)))) (pa_cons pe_int pa_nil)))), ?_⟩
    refine ⟨_, rfl, _, rfl, (by show 1 ≤ sizeLine; decide), fun l nl => ⟨_, rfl, l, _, _, rfl, rfl, upd_same, by omega, by omega, ?_, fun x nx => ?_⟩⟩
    · show 1 * _ ≤ sizeLine
      rw [sizeLine_eq, Int.toNat_natCast]
      omega
    · have e : (List.replicate (m : Int).toNat [V.int 420]).flatten = List.replicate m (V.int 420) := by
        rw [Int.toNat_natCast, List.flatten_replicate_singleton]
      rw [e]
      have sA : Same H (upd (upd H l (.lst [V.int 420])) x (.lst (List.replicate m (V.int 420)))) := (sm nl).trans (sm nx)
      refine ⟨c, salt, x, m, rfl, s0, s1, SqL.of upd_same, hm, fun q rs H1 nq s1' hq hl hb => ⟨(by show 2 ≤ sizeLine; decide), fun p np => ?_⟩⟩
      have sB : Same H1 (upd H1 p (.lst [V.ref q, V.int 0])) := sm np
      exact k p q rs _ (sA.free (s1'.free np)) (sA.free nq) ((sA.trans s1').trans sB) ⟨upd_same, sB _ _ hq, Int.le_refl 0, by omega, hb⟩ hl
abbrev nsDraw : List Str := ["pool", "many", "at"]
theorem scDraw : FnScope nsDraw ["pool", "many"] (defScope sDraw) := ⟨rfl, rfl, rfl, by decide +kernel, rfl, by decide +kernel, by decide +kernel⟩
/-- a draw below m: the pool's place moves on, nothing else changes -/
def spDraw : Sp := fun vs H Q _ => ∃ (p q : Addr) (rs : List Int) (i m : Int), vs = [.ref p, .int m] ∧ PoolAt H p q rs i ∧ 0 < m ∧
  ∀ (r : Int), 0 ≤ r → r < m → Q (.int r) (upd H p (.lst [.ref q, .int (i + 1)]))
theorem ok_draw {f : Addr} {fd : FuncData} (F : Fun K "_law_draw" "_law_draw" sDraw f fd) (T : HT mg) : FnOk P w K mg base CX0 1 f fd ["pool", "many"] spDraw := by
  refine F.ok scDraw (fun vs H Q E h => ?_) (fun cdv A outer s H vs Q E hr h => ?_)
  · obtain ⟨p, q, rs, i, m, rfl, _⟩ := h
    rfl
  · obtain ⟨p, q, rs, i, m, rfl, hP, m0, k⟩ := h
    have hne := hP.ne
    refine ⟨_, pss_cons (ps_set (i := 2) scDraw.nd rfl (Or.inl rfl) (pe_ix ix_list (pv 0) pe_int (fun _ _ => rfl)))
      (pss_cons (ps_asg (pe_op op_add (pv 2) pe_int) (pg_sub (pv 0) pe_int set_list))
      (pss_one (ps_ret (pe_ifExp (pt_cmpR op_lt (pv 2) (pe_callB call_len_seq (by rfl) T.len PySem.boot_len (pa_cons (pe_ix ix_list (pv 0) pe_int (fun _ _ => rfl)) pa_nil)) (nomark _))
        (pe_op op_mod (pe_callTy call_int1 (by rfl) T.int (by decide +kernel) (pa_cons (pe_ix ix_list (pe_ix ix_list (pv 0) pe_int (fun _ _ => rfl)) (pv 2) (fun _ _ => rfl)) pa_nil)) (pv 1)) pe_int)))), ?_⟩
    refine ⟨_, rfl, p, _, _, _, rfl, rfl, SqL.of hP.hp, atI_nat (j := 1) rfl, ?_⟩
    refine ⟨_, rfl, _, _, rfl, rfl, _, rfl, p, _, _, 1, rfl, rfl, hP.hp, rfl, ?_⟩
    have h1 : ∀ o, (upd H p o) q = some (.lst (rs.map V.int)) := fun o => by rw [upd_ne hne.symm]; exact hP.hq
    refine ⟨_, rfl, _, rfl, p, _, _, _, rfl, rfl, SqL.of upd_same, atI_nat (j := 0) rfl, q, _, rfl, .inl (SqL.of (h1 _)), _, _, rfl, rfl, _, rfl, ?_⟩
    refine ite2 (fun hlt => ?_) (fun _ => ?_)
    · have hlt' : i < ((rs.map V.int).length : Int) := of_decide_eq_true hlt
      rw [List.length_map] at hlt'
      obtain ⟨j, rfl⟩ : ∃ j : Nat, i = (j : Int) := ⟨i.toNat, (Int.toNat_of_nonneg hP.i0).symm⟩
      have hj : j < rs.length := by omega
      have hat : (rs.map V.int)[j]? = some (V.int rs[j]) := by rw [List.getElem?_map, List.getElem?_eq_getElem hj]; rfl
      refine ⟨_, rfl, p, _, _, _, rfl, rfl, SqL.of upd_same, atI_nat (j := 0) rfl, _, rfl, q, _, _, _, rfl, rfl, SqL.of (h1 _), atI_nat hat, .inl ⟨_, rfl, _, rfl, _, _, rfl, rfl, m0, ?_⟩⟩
      exact k _ (Int.emod_nonneg _ (Int.ne_of_gt m0)) (Int.emod_lt_of_pos _ m0)
    · exact k 0 (Int.le_refl 0) m0
abbrev nsOpen : List Str := ["script", "k", "many", "cell"]
theorem scOpen : FnScope nsOpen ["script", "k", "many"] (defScope sOpen) := ⟨rfl, rfl, rfl, by decide +kernel, rfl, by decide +kernel, by decide +kernel⟩
def spOpen (K : PySem.W.Frag) : Sp := fun vs H Q _ => ∃ (a : Addr) (ns : List Int) (j m : Nat), vs = [.ref a, .int j, .int m] ∧ SqL K H a (ns.map V.int) ∧ (ns = [] ∨ j < ns.length) ∧ j ≤ 63 ∧ m ≤ 100 ∧
  ∀ (p q : Addr) (rs : List Int) (H' : Hp), H p = none → H q = none → Same H H' → PoolAt H' p q rs 0 → rs.length = m → Q (.ref p) H'
theorem iteNS' {b : Bool} {A B : Prop} (h : b = false) (hb : B) : if b = true then A else B := by
  rw [h]
  exact iteF hb
theorem iteS' {b : Bool} {A B : Prop} (h : b = true) (ha : A) : if b = true then A else B := by
  rw [h]
  exact iteT ha
theorem dp_ints {H : Hp} : ∀ ns : List Int, DpAll K H (ns.map V.int) (ns.map PyData.int)
  | [] => .nil
  | n :: ns => .cons (.int n) (dp_ints ns)
theorem ok_open {f fP fN : Addr} {fd fdP fdN : FuncData} (F : Fun K "_law_opened" "_law_opened" sOpen f fd) (T : HT mg) (FP : Fun K "_law_pool" "_law_pool" sPool fP fdP) (bP : Binds K fdP ["cell", "salt", "many"] []) (gP : mg "_law_pool" = some (.ref fP))
    (FN : Fun K "_law_numbers" "_law_numbers" sNum fN fdN) (bN : Binds K fdN ["cell", "salt", "sizes"] []) (gN : mg "_law_numbers" = some (.ref fN)) :
    FnOk P w K mg base CX0 3 f fd ["script", "k", "many"] (spOpen K) := by
  have GP : FnOk P w K mg base CX0 2 fP fdP ["cell", "salt", "many"] spPool := ok_pool FP T FN bN gN
  refine F.ok scOpen (fun vs H Q E h => ?_) (fun cdv A outer s H vs Q E hr h => ?_)
  · obtain ⟨a, ns, j, m, rfl, _⟩ := h
    rfl
  · obtain ⟨a, ns, j, m, rfl, hS, hj, hj2, hm, k⟩ := h
    refine ⟨_, pss_cons (ps_set (i := 3) scOpen.nd rfl (Or.inl rfl) (pe_ifExp (pt_cmpR (op_neD hr.units) (pv 0) (pe_lst pa_nil) (nomark _)) (pe_ix ix_list (pv 0) (pv 1) (fun _ _ => rfl)) pe_int))
      (pss_one (ps_ret (pe_call GP hr rfl gP FP.kp bP .nil pass0 (pa_cons (pv 3) (pa_cons (pv 1) (pa_cons (pv 2) pa_nil)))))), ?_⟩
    refine ⟨_, rfl, (by show 0 ≤ sizeLine; exact Nat.zero_le _), fun l nl => ?_⟩
    have s1 : Same H (upd H l (.lst [])) := sm nl
    have hS1 := s1.seq hS
    have fin : ∀ c : Int, tRet (tCall spPool [] E0 (tCons (tVar 3) (tCons (tVar 1) (tCons (tVar 2) tNil)))) { nx := fun x H' => Q V.non H', rt := Q } [some (.ref a), some (.int j), some (.int m), some (.int c)] (upd H l (.lst [])) := fun c =>
      ⟨_, rfl, _, rfl, _, rfl, c, j, m, rfl, by omega, by omega, hm, fun p q rs H' np nq s2 hP hl => k p q rs H' (s1.free np) (s1.free nq) (s1.trans s2) hP hl⟩
    refine ⟨_, _, .lst hS1 (dp_ints ns), .lst (SqL.of upd_same) .nil, PySem.W.ke_shaped_ints ns, PySem.W.ke_shaped_ints [], _, rfl, ?_⟩
    cases ns with
    | nil =>
      refine iteNS' (by first | rfl | decide) ?_
      exact fin 7
    | cons n ns =>
      have hj' : j < (n :: ns).length := by
        rcases hj with e | e
        · cases e
        · exact e
      refine iteS' (by first | rfl | decide) ?_
      have hat : ((n :: ns).map V.int)[j]? = some (V.int ((n :: ns)[j])) := by rw [List.getElem?_map, List.getElem?_eq_getElem hj']; rfl
      exact ⟨_, rfl, _, rfl, a, _, _, _, rfl, rfl, hS1, atI_nat hat, fin _⟩
end
end LH


set_option Elab.async false
set_option linter.all false
set_option maxRecDepth 100000
set_option maxHeartbeats 4000000
namespace LW
open PySem L2 PG
open LH hiding sm top
abbrev sWords : Stmt := LH.top 22
abbrev sNames : Stmt := LH.top 23
/-- all but the pool stays -/
def But (p : Addr) (H H' : Hp) : Prop := ∀ b o, b ≠ p → H b = some o → H' b = some o
theorem But.refl (p : Addr) (H : Hp) : But p H H := fun _ _ _ h => h
theorem But.trans {p : Addr} {H H1 H2 : Hp} (a : But p H H1) (b : But p H1 H2) : But p H H2 := fun q o n h => b q o n (a q o n h)
theorem But.of {p : Addr} {H H' : Hp} (s : Same H H') : But p H H' := fun q o _ h => s q o h
theorem But.upd {p : Addr} {H : Hp} (o : HO) : But p H (upd H p o) := fun q u n h => by rw [upd_ne n]; exact h
theorem pool_step {H : Hp} {p q : Addr} {rs : List Int} {i : Int} (h : PoolAt H p q rs i) : PoolAt (upd H p (.lst [.ref q, .int (i + 1)])) p q rs (i + 1) :=
  ⟨upd_same, by rw [upd_ne h.ne.symm]; exact h.hq, by have := h.i0; omega, h.len, h.bd⟩
theorem But.free {p b : Addr} {H H' : Hp} (s : But p H H') (nb : b ≠ p) (h : H' b = none) : H b = none := by
  cases z : H b with
  | none => rfl
  | some o => rw [s b o nb z] at h; cases h
theorem nat_of {r m : Int} (h0 : 0 ≤ r) (h1 : r < m) : ∃ k : Nat, r = (k : Int) ∧ (k : Int) < m := ⟨r.toNat, (Int.toNat_of_nonneg h0).symm, by omega⟩
def rot (ws : List Str) (k m : Nat) : List Str := (ws.drop k ++ ws.take k).take m
theorem rot_mem {ws : List Str} {k m : Nat} {x : Str} (h : x ∈ rot ws k m) : x ∈ ws := by
  rcases List.mem_append.mp (List.mem_of_mem_take h) with z | z
  · exact List.mem_of_mem_drop z
  · exact List.mem_of_mem_take z
theorem rot_nodup {ws : List Str} {k m : Nat} (h : ws.Nodup) : (rot ws k m).Nodup := by
  have p : (ws.drop k ++ ws.take k).Perm ws := by
    refine List.perm_append_comm.trans ?_
    rw [List.take_append_drop]
  exact (p.nodup_iff.mpr h).sublist (List.take_sublist _ _)
theorem rot_len {ws : List Str} {k m : Nat} (h : m ≤ ws.length) : (rot ws k m).length = m := by
  unfold rot
  rw [List.length_take, List.length_append, List.length_drop, List.length_take]
  omega
theorem cut_from (ws : List Str) {k : Nat} (h : k ≤ ws.length) : cutV (ws.map V.str) (some (k : Int)) none = (ws.drop k).map V.str := by
  unfold cutV
  rw [_root_.HT.sIx_nat, _root_.HT.sIx_none, List.length_map, Nat.min_eq_left h, List.map_drop]
  exact List.take_of_length_le (by rw [List.length_drop, List.length_map]; exact Nat.le_refl _)
theorem cut_to (ws : List Str) (k : Nat) : cutV (ws.map V.str) none (some (k : Int)) = (ws.take k).map V.str := by
  unfold cutV
  rw [_root_.HT.sIx_nat, _root_.HT.sIx_none, List.length_map, List.drop_zero, Nat.sub_zero, List.map_take]
  by_cases h : k ≤ ws.length
  · rw [Nat.min_eq_left h]
  · rw [Nat.min_eq_right (by omega), List.take_of_length_le (by rw [List.length_map]; exact Nat.le_refl _), List.take_of_length_le (by rw [List.length_map]; omega)]
def menuA : List Str := ["a", "b", "c", "d", "e", "f", "g"]
def menuB : List Str := ["x", "way", "runs", "stop", "b", "zz", "place"]
def menuN : List Str := ["p", "q", "r", "s", "t", "u", "v", "x", "b", "a", "way", "none"]
theorem menus_ok : (menuA.Nodup ∧ ∀ x ∈ menuA, isWord x = true) ∧ (menuB.Nodup ∧ ∀ x ∈ menuB, isWord x = true) ∧ (menuN.Nodup ∧ ∀ x ∈ menuN, isWord x = true) := by decide +kernel
section
variable {P : Program} {w : World} {K : PySem.W.Frag} {mg : Str → Option Value} {base : Heap}
/-- a list of m unlike words, new -/
def spWordsL (ok : List Str → Prop) (mx : Nat) : Sp := fun vs H Q _ => ∃ (p q : Addr) (rs : List Int) (i : Int) (m : Nat), vs = [.ref p, .int m] ∧ PoolAt H p q rs i ∧ m ≤ mx ∧
  ∀ (r : Addr) (ws : List Str) (H' : Hp) (i' : Int), H r = none → ok ws → ws.Nodup → ws.length = m → But p H H' → PoolAt H' p q rs i' → H' r = some (.lst (ws.map V.str)) → Q (.ref r) H'
abbrev nsWords : List Str := ["pool", "many", "menus", "some", "at"]
theorem scWords : FnScope nsWords ["pool", "many"] (defScope sWords) := ⟨rfl, rfl, rfl, by decide +kernel, rfl, by decide +kernel, by decide +kernel⟩
/-- from one of the two menus -/
def okWords (ws : List Str) : Prop := (∀ x ∈ ws, x ∈ menuA) ∨ (∀ x ∈ ws, x ∈ menuB)
theorem ok_words {f fD : Addr} {fd fdD : FuncData} (F : Fun K "_law_words" "_law_words" sWords f fd) (FD : Fun K "_law_draw" "_law_draw" sDraw fD fdD) (bD : Binds K fdD ["pool", "many"] []) (gD : mg "_law_draw" = some (.ref fD)) (GD : FnOk P w K mg base CX0 1 fD fdD ["pool", "many"] spDraw) : FnOk P w K mg base CX0 2 f fd ["pool", "many"] (spWordsL okWords 7) := by
  refine F.ok scWords (fun vs H Q E h => ?_) (fun cdv A outer s H vs Q E hr h => ?_)
  · obtain ⟨p, q, rs, i, m, rfl, _⟩ := h
    rfl
  · obtain ⟨p, q, rs, i, m, rfl, hP, hm, k⟩ := h
    have nd := scWords.nd
    refine ⟨_, pss_cons (ps_set (i := 2) nd rfl (Or.inl rfl) (pe_lst (pa_cons (pe_lst (pa_cons pe_str (pa_cons pe_str (pa_cons pe_str (pa_cons pe_str (pa_cons pe_str (pa_cons pe_str (pa_cons pe_str pa_nil))))))))
        (pa_cons (pe_lst (pa_cons pe_str (pa_cons pe_str (pa_cons pe_str (pa_cons pe_str (pa_cons pe_str (pa_cons pe_str (pa_cons pe_str pa_nil)))))))) pa_nil))))
      (pss_cons (ps_par (i := 3) (j := 4) (by rfl) nd rfl rfl (by decide) rfl rfl (pa_cons (pe_ix ix_list (pv 2) (pe_call GD hr (by rfl) gD FD.kp bD .nil pass0 (pa_cons (pv 0) (pa_cons pe_int pa_nil))) (fun _ _ => rfl)) (pa_cons (pe_call GD hr (by rfl) gD FD.kp bD .nil pass0 (pa_cons (pv 0) (pa_cons pe_int pa_nil))) pa_nil)) (by rfl))
      (pss_one (ps_ret (pe_slice sl_list (pe_op op_cat (pe_slice sl_list (pv 3) (po_some (pv 4)) po_none) (pe_slice sl_list (pv 3) po_none (po_some (pv 4)))) po_none (po_some (pv 1)))))), ?_⟩
    refine ⟨by show 7 ≤ sizeLine; decide, fun a na => ⟨by show 7 ≤ sizeLine; decide, fun b nb => ⟨by show 2 ≤ sizeLine; decide, fun ms nms => ?_⟩⟩⟩
    replace nb : (upd H a (.lst (menuA.map V.str))) b = none := nb
    replace nms : (upd (upd H a (.lst (menuA.map V.str))) b (.lst (menuB.map V.str))) ms = none := nms
    have s1 : Same H (upd H a (.lst (menuA.map V.str))) := sm na
    have s2 : Same (upd H a (.lst (menuA.map V.str))) (upd (upd H a (.lst (menuA.map V.str))) b (.lst (menuB.map V.str))) := sm nb
    have s3 := sm (o := .lst [.ref a, .ref b]) nms
    have ha : (upd (upd (upd H a (.lst (menuA.map V.str))) b (.lst (menuB.map V.str))) ms (.lst [.ref a, .ref b])) a = some (.lst (menuA.map V.str)) := s3 _ _ (s2 _ _ upd_same)
    have hb : (upd (upd (upd H a (.lst (menuA.map V.str))) b (.lst (menuB.map V.str))) ms (.lst [.ref a, .ref b])) b = some (.lst (menuB.map V.str)) := s3 _ _ upd_same
    have hms : (upd (upd (upd H a (.lst (menuA.map V.str))) b (.lst (menuB.map V.str))) ms (.lst [.ref a, .ref b])) ms = some (.lst [.ref a, .ref b]) := upd_same
    have s03 : Same H (upd (upd (upd H a (.lst (menuA.map V.str))) b (.lst (menuB.map V.str))) ms (.lst [.ref a, .ref b])) := (s1.trans s2).trans s3
    show tSeq _ _ _ _ (upd (upd (upd H a (.lst (menuA.map V.str))) b (.lst (menuB.map V.str))) ms (.lst [.ref a, .ref b]))
    generalize upd (upd (upd H a (.lst (menuA.map V.str))) b (.lst (menuB.map V.str))) ms (.lst [.ref a, .ref b]) = H3 at ha hb hms s03
    have hP3 := hP.same s03
    have nap : a ≠ p := fun z => by rw [z, hP.hp] at na; cases na
    have nbp : b ≠ p := fun z => by rw [z, s1 _ _ hP.hp] at nb; cases nb
    have nmp : ms ≠ p := fun z => by rw [z, s2 _ _ (s1 _ _ hP.hp)] at nms; cases nms
    refine ⟨_, rfl, _, rfl, p, q, rs, i, 2, rfl, hP3, by decide, fun r r0 r1 => ?_⟩
    obtain ⟨c, menu, hat, hcp, hc, okm, nm, lm⟩ : ∃ (c : Addr) (menu : List Str), atI [V.ref a, V.ref b] r = some (.ref c) ∧ c ≠ p ∧ H3 c = some (.lst (menu.map V.str)) ∧ ((∀ x ∈ menu, x ∈ menuA) ∨ (∀ x ∈ menu, x ∈ menuB)) ∧ menu.Nodup ∧ menu.length = 7 := by
      have : r = 0 ∨ r = 1 := by omega
      rcases this with rfl | rfl
      · exact ⟨a, menuA, atI_nat (j := 0) rfl, nap, ha, .inl fun _ z => z, menus_ok.1.1, rfl⟩
      · exact ⟨b, menuB, atI_nat (j := 1) rfl, nbp, hb, .inr fun _ z => z, menus_ok.2.1.1, rfl⟩
    refine ⟨ms, _, _, _, rfl, rfl, SqL.of (by rw [upd_ne nmp]; exact hms), hat, ?_⟩
    have hP4 := pool_step hP3
    refine ⟨_, rfl, p, q, rs, i + 1, 7, rfl, hP4, by decide, fun r' r0' r1' => ?_⟩
    obtain ⟨j, rfl, hj⟩ := nat_of r0' r1'
    have hP5 := pool_step hP4
    have b5 : But p H3 (upd (upd H3 p (.lst [.ref q, .int (i + 1)])) p (.lst [.ref q, .int (i + 1 + 1)])) := (But.upd _).trans (But.upd _)
    have hc5 := b5 _ _ hcp hc
    refine ⟨_, _, rfl, ?_⟩
    generalize upd (upd H3 p (.lst [.ref q, .int (i + 1)])) p (.lst [.ref q, .int (i + 1 + 1)]) = H5 at hP5 b5 hc5
    have jl : j ≤ menu.length := by omega
    refine ⟨_, rfl, _, rfl, _, rfl, c, _, rfl, SqL.of hc5, fun t1 n1 => ?_⟩
    rw [cut_from menu jl]
    refine ⟨_, rfl, _, rfl, _, rfl, c, _, rfl, SqL.of (sm n1 _ _ hc5), fun t2 n2 => ?_⟩
    rw [cut_to menu j]
    refine ⟨t1, t2, _, _, rfl, rfl, sm n2 _ _ upd_same, upd_same, ?_, fun t3 n3 => ?_⟩
    · rw [List.length_map, List.length_map, List.length_drop, List.length_take, sizeLine_eq]
      omega
    · refine ⟨_, rfl, _, rfl, t3, _, rfl, SqL.of upd_same, fun t4 n4 => ?_⟩
      rw [← List.map_append, cut_to]
      have s5 : Same H5 (upd (upd (upd (upd H5 t1 (.lst ((menu.drop j).map V.str))) t2 (.lst ((menu.take j).map V.str))) t3 (.lst ((menu.drop j ++ menu.take j).map V.str))) t4 (.lst (((menu.drop j ++ menu.take j).take m).map V.str))) := by
        rw [← List.map_append] at n4
        exact (((sm n1).trans (sm n2)).trans (sm n3)).trans (sm n4)
      have b0 : But p H H5 := (But.of s03).trans b5
      have f4 : H5 t4 = none := by
        cases z : H5 t4 with
        | none => rfl
        | some o => rw [sm n3 _ _ (sm n2 _ _ (sm n1 _ _ z))] at n4; cases n4
      have n4p : t4 ≠ p := fun z => by rw [z, hP5.hp] at f4; cases f4
      rw [List.map_append] at s5 ⊢
      refine k t4 (rot menu j m) _ _ (b0.free n4p f4) ?_ (rot_nodup nm) (rot_len (by omega)) (b0.trans (But.of s5)) (hP5.same s5) upd_same
      rcases okm with z | z
      · exact .inl fun x hx => z x (rot_mem hx)
      · exact .inr fun x hx => z x (rot_mem hx)
abbrev nsNames : List Str := ["pool", "many", "some", "at"]
theorem scNames : FnScope nsNames ["pool", "many"] (defScope sNames) := ⟨rfl, rfl, rfl, by decide +kernel, rfl, by decide +kernel, by decide +kernel⟩
def okNames (ws : List Str) : Prop := ∀ x ∈ ws, x ∈ menuN
theorem ok_names {f fD : Addr} {fd fdD : FuncData} (F : Fun K "_law_names" "_law_names" sNames f fd) (FD : Fun K "_law_draw" "_law_draw" sDraw fD fdD) (bD : Binds K fdD ["pool", "many"] []) (gD : mg "_law_draw" = some (.ref fD)) (GD : FnOk P w K mg base CX0 1 fD fdD ["pool", "many"] spDraw) : FnOk P w K mg base CX0 2 f fd ["pool", "many"] (spWordsL okNames 12) := by
  refine F.ok scNames (fun vs H Q E h => ?_) (fun cdv A outer s H vs Q E hr h => ?_)
  · obtain ⟨p, q, rs, i, m, rfl, _⟩ := h
    rfl
  · obtain ⟨p, q, rs, i, m, rfl, hP, hm, k⟩ := h
    have nd := scNames.nd
    refine ⟨_, pss_cons (ps_set (i := 2) nd rfl (Or.inl rfl) (pe_lst (pa_cons pe_str (pa_cons pe_str (pa_cons pe_str (pa_cons pe_str (pa_cons pe_str (pa_cons pe_str (pa_cons pe_str (pa_cons pe_str (pa_cons pe_str (pa_cons pe_str (pa_cons pe_str (pa_cons pe_str pa_nil))))))))))))))
      (pss_cons (ps_set (i := 3) nd rfl (Or.inl rfl) (pe_call GD hr (by rfl) gD FD.kp bD .nil pass0 (pa_cons (pv 0) (pa_cons pe_int pa_nil))))
      (pss_one (ps_ret (pe_slice sl_list (pe_op op_cat (pe_slice sl_list (pv 2) (po_some (pv 3)) po_none) (pe_slice sl_list (pv 2) po_none (po_some (pv 3)))) po_none (po_some (pv 1)))))), ?_⟩
    refine ⟨by show 12 ≤ sizeLine; decide, fun c nc => ?_⟩
    have s3 : Same H (upd H c (.lst (menuN.map V.str))) := sm nc
    have hc : (upd H c (.lst (menuN.map V.str))) c = some (.lst (menuN.map V.str)) := upd_same
    show tSeq _ _ _ _ (upd H c (.lst (menuN.map V.str)))
    have hcp : c ≠ p := fun z => by rw [z, hP.hp] at nc; cases nc
    generalize upd H c (.lst (menuN.map V.str)) = H3 at s3 hc
    have hP3 := hP.same s3
    refine ⟨_, rfl, p, q, rs, i, 12, rfl, hP3, by decide, fun r' r0' r1' => ?_⟩
    obtain ⟨j, rfl, hj⟩ := nat_of r0' r1'
    have hP5 := pool_step hP3
    have b5 : But p H3 (upd H3 p (.lst [.ref q, .int (i + 1)])) := But.upd _
    have hc5 := b5 _ _ hcp hc
    generalize upd H3 p (.lst [.ref q, .int (i + 1)]) = H5 at hP5 b5 hc5
    have lm : menuN.length = 12 := rfl
    have jl : j ≤ menuN.length := by omega
    refine ⟨_, rfl, _, rfl, _, rfl, c, _, rfl, SqL.of hc5, fun t1 n1 => ?_⟩
    rw [cut_from menuN jl]
    refine ⟨_, rfl, _, rfl, _, rfl, c, _, rfl, SqL.of (sm n1 _ _ hc5), fun t2 n2 => ?_⟩
    rw [cut_to menuN j]
    refine ⟨t1, t2, _, _, rfl, rfl, sm n2 _ _ upd_same, upd_same, ?_, fun t3 n3 => ?_⟩
    · rw [List.length_map, List.length_map, List.length_drop, List.length_take, sizeLine_eq]
      omega
    · refine ⟨_, rfl, _, rfl, t3, _, rfl, SqL.of upd_same, fun t4 n4 => ?_⟩
      rw [← List.map_append, cut_to]
      have s5 : Same H5 (upd (upd (upd (upd H5 t1 (.lst ((menuN.drop j).map V.str))) t2 (.lst ((menuN.take j).map V.str))) t3 (.lst ((menuN.drop j ++ menuN.take j).map V.str))) t4 (.lst (((menuN.drop j ++ menuN.take j).take m).map V.str))) := by
        rw [← List.map_append] at n4
        exact (((sm n1).trans (sm n2)).trans (sm n3)).trans (sm n4)
      have b0 : But p H H5 := (But.of s3).trans b5
      have f4 : H5 t4 = none := by
        cases z : H5 t4 with
        | none => rfl
        | some o => rw [sm n3 _ _ (sm n2 _ _ (sm n1 _ _ z))] at n4; cases n4
      have n4p : t4 ≠ p := fun z => by rw [z, hP5.hp] at f4; cases f4
      rw [List.map_append] at s5 ⊢
      exact k t4 (rot menuN j m) _ _ (b0.free n4p f4) (fun x hx => rot_mem hx) (rot_nodup menus_ok.2.2.1) (rot_len (by omega)) (b0.trans (But.of s5)) (hP5.same s5) upd_same
end
end LW


set_option Elab.async false
set_option linter.all false
set_option maxRecDepth 100000
set_option maxHeartbeats 4000000
/-! A drawn program, in plain mathematics; the heap while one is drawn. -/
namespace LW
open PySem L2 PG
open LH hiding sm top
structure Drawn (pls : List Str) (ls : List Lk) (es : List Str) : Prop where
  okw : okWords pls
  nd : pls.Nodup
  n2 : 2 ≤ pls.length
  n7 : pls.length ≤ 7
  kn : (keysL ls).Nodup
  km : ∀ x ∈ keysL ls, x ∈ menuN
  l1 : 1 ≤ ls.length
  l2 : ls.length ≤ 12
  t1 : ∀ (i : Nat) (y : Str), 1 ≤ i → pls[i]? = some y → ∃ (j : Nat) (x w : Str), j < i ∧ pls[j]? = some x ∧ (w, x, y) ∈ ls
  t3 : ∀ l ∈ ls, l.2.1 ∈ pls ∧ l.2.2 ∈ pls
  ex1 : ∀ e ∈ es, e ∈ pls
  exn : es.Nodup
  tr : ∃ ts ms, ls = ts ++ ms ∧ (∀ l ∈ ts, l.2.1 ≠ l.2.2) ∧ ∀ x ∈ pls, x ∈ PG.ends ts
  ex2 : ∀ (i : Nat) (x : Str), pls[i]? = some x → x ∉ es → ∃ (j : Nat) (y w : Str), i < j ∧ pls[j]? = some y ∧ (w, x, y) ∈ ls
theorem Drawn.b {pls : List Str} {ls : List Lk} {es : List Str} (d : Drawn pls ls es) : ∃ b, pls[0]? = some b := ⟨_, List.getElem?_eq_getElem (by have := d.n2; omega)⟩
theorem Drawn.ends {pls : List Str} {ls : List Lk} {es : List Str} (d : Drawn pls ls es) (x : Str) : x ∈ PG.ends ls ↔ x ∈ pls := by
  rw [ends_mem]
  constructor
  · rintro ⟨l, hl, h | h⟩
    · rw [h]; exact (d.t3 l hl).1
    · rw [h]; exact (d.t3 l hl).2
  · intro h
    obtain ⟨i, hi, e⟩ := List.getElem_of_mem h
    have hx : pls[i]? = some x := by rw [List.getElem?_eq_getElem hi, e]
    by_cases z : i = 0
    · obtain ⟨y, hy⟩ : ∃ y, pls[1]? = some y := ⟨_, List.getElem?_eq_getElem (by have := d.n2; omega)⟩
      obtain ⟨j, x', w, hj, hx', m⟩ := d.t1 1 y (Nat.le_refl 1) hy
      have ej : j = 0 := by omega
      rw [ej, ← z, hx] at hx'
      cases hx'
      exact ⟨_, m, .inl rfl⟩
    · obtain ⟨j, x', w, hj, hx', m⟩ := d.t1 i x (by omega) hx
      exact ⟨_, m, .inr rfl⟩
theorem word_of {pls : List Str} (h : okWords pls) {x : Str} (hx : x ∈ pls) : isWord x = true := by
  rcases h with h | h
  · exact menus_ok.1.2 x (h x hx)
  · exact menus_ok.2.1.2 x (h x hx)
theorem Drawn.reach {pls : List Str} {ls : List Lk} {es : List Str} (d : Drawn pls ls es) {b : Str} (hb : pls[0]? = some b) : ∀ (i : Nat) (x : Str), pls[i]? = some x → Rch [b] (ls.map (·.2)) x := by
  intro i
  induction i using Nat.strongRecOn with
  | _ i ih =>
    intro x hx
    by_cases z : i = 0
    · rw [z, hb] at hx
      cases hx
      exact .base List.mem_cons_self
    · obtain ⟨j, x', w, hj, hx', m⟩ := d.t1 i x (by omega) hx
      exact .step (ih j hj x' hx') (List.mem_map.mpr ⟨_, m, rfl⟩)
theorem Drawn.leave {pls : List Str} {ls : List Lk} {es : List Str} (d : Drawn pls ls es) : ∀ (k i : Nat) (x : Str), pls.length - i = k → pls[i]? = some x → Rch es (ls.map fun l => (l.2.2, l.2.1)) x := by
  intro k
  induction k using Nat.strongRecOn with
  | _ k ih =>
    intro i x hk hx
    by_cases z : x ∈ es
    · exact .base z
    · obtain ⟨j, y, w, hj, hy, m⟩ := d.ex2 i x hx z
      have lj : j < pls.length := (List.getElem?_eq_some_iff.mp hy).1
      exact .step (ih (pls.length - j) (by omega) j y rfl hy) (List.mem_map.mpr ⟨_, m, rfl⟩)
theorem Drawn.last {pls : List Str} {ls : List Lk} {es : List Str} (d : Drawn pls ls es) : es ≠ [] := fun z => by
  obtain ⟨y, hy⟩ : ∃ y, pls[pls.length - 1]? = some y := ⟨_, List.getElem?_eq_getElem (by have := d.n2; omega)⟩
  obtain ⟨j, y', w, hj, hy', _⟩ := d.ex2 _ y hy (by rw [z]; exact List.not_mem_nil)
  have lj : j < pls.length := (List.getElem?_eq_some_iff.mp hy').1
  omega
theorem at_of_mem {pls : List Str} {x : Str} (h : x ∈ pls) : ∃ i : Nat, pls[i]? = some x := by
  obtain ⟨i, hi, e⟩ := List.getElem_of_mem h
  exact ⟨i, by rw [List.getElem?_eq_getElem hi, e]⟩
theorem Drawn.plc {pls : List Str} {ls : List Lk} {es : List Str} (d : Drawn pls ls es) : (PG.plc ls).length ≤ 7 := by
  have z := nodup_le (plc_nodup ls) fun x hx => (d.ends x).mp (plc_mem.mp hx)
  have := d.n7
  omega
theorem Drawn.good {pls : List Str} {ls : List Lk} {es : List Str} (d : Drawn pls ls es) {b : Str} (hb : pls[0]? = some b) : GoodP ls b es where
  n1 := d.l1
  n2 := by have := d.l2; omega
  sm := by have := d.plc; omega
  nd := d.kn
  wd := fun l hl => ⟨menus_ok.2.2.2 _ (d.km _ (key_mem hl)), word_of d.okw (d.t3 l hl).1, word_of d.okw (d.t3 l hl).2⟩
  hb := (d.ends b).mpr (List.mem_of_getElem? hb)
  he := d.last
  hs := fun e he => (d.ends e).mpr (d.ex1 e he)
  hn := d.exn
  reach := fun x hx => by
    obtain ⟨i, hi⟩ := at_of_mem ((d.ends x).mp hx)
    exact d.reach hb i x hi
  leave := fun x hx => by
    obtain ⟨i, hi⟩ := at_of_mem ((d.ends x).mp hx)
    exact d.leave _ i x rfl hi
/-! ### the heap -/
structure St1 (K : PySem.W.Frag) (H : Hp) (p q : Addr) (rs : List Int) (r1 r2 dp dq : Addr) (pls nms : List Str) (H' : Hp) (i : Int) (kvs : List (Key × V)) (ls : List Lk) (ovs : List (Key × V)) : Prop where
  but : But p H H'
  pool : PoolAt H' p q rs i
  h1 : H' r1 = some (.lst (pls.map V.str))
  h2 : H' r2 = some (.lst (nms.map V.str))
  hd : H' dp = some (.dK kvs)
  lk : Lks K H' kvs ls
  ho : H' dq = some (.dK ovs)
section
variable {K : PySem.W.Frag} {H H' H'' : Hp} {p q r1 r2 dp dq : Addr} {rs : List Int} {pls nms : List Str} {i : Int} {kvs ovs : List (Key × V)} {ls : List Lk}
theorem strs_ne {H' : Hp} {r : Addr} {ws : List Str} (h : H' r = some (.lst (ws.map V.str))) (hP : PoolAt H' p q rs i) : r ≠ p := fun z => by
  rw [z, hP.hp] at h
  have e := Option.some.inj h
  cases ws with
  | nil => cases e
  | cons x ws => cases e
theorem strs_neq {H' : Hp} {r : Addr} {ws : List Str} (n : ws ≠ []) (h : H' r = some (.lst (ws.map V.str))) (hP : PoolAt H' p q rs i) : r ≠ q := fun z => by
  rw [z, hP.hq] at h
  have e := Option.some.inj h
  cases ws with
  | nil => exact n rfl
  | cons x ws =>
    cases rs with
    | nil => cases e
    | cons y rs => cases e
theorem St1.draw (s : St1 K H p q rs r1 r2 dp dq pls nms H' i kvs ls ovs) : St1 K H p q rs r1 r2 dp dq pls nms (upd H' p (.lst [.ref q, .int (i + 1)])) (i + 1) kvs ls ovs where
  but := s.but.trans (But.upd _)
  pool := pool_step s.pool
  h1 := by rw [upd_ne (strs_ne s.h1 s.pool)]; exact s.h1
  h2 := by rw [upd_ne (strs_ne s.h2 s.pool)]; exact s.h2
  hd := by rw [upd_ne (ne_of s.hd s.pool.hp (by intro z; cases z))]; exact s.hd
  lk := PG.Paired.imp (fun _ _ z => ⟨z.1, two_lst s.pool.hp z.2⟩) s.lk
  ho := by rw [upd_ne (ne_of s.ho s.pool.hp (by intro z; cases z))]; exact s.ho
theorem St1.same (s : St1 K H p q rs r1 r2 dp dq pls nms H' i kvs ls ovs) (k : Same H' H'') : St1 K H p q rs r1 r2 dp dq pls nms H'' i kvs ls ovs :=
  ⟨s.but.trans (But.of k), s.pool.same k, k _ _ s.h1, k _ _ s.h2, k _ _ s.hd, s.lk.same k, k _ _ s.ho⟩
theorem pool_upd {o : HO} {d : Addr} (hP : PoolAt H' p q rs i) (n1 : p ≠ d) (n2 : q ≠ d) : PoolAt (L2.upd H' d o) p q rs i := ⟨by rw [upd_ne n1]; exact hP.hp, by rw [upd_ne n2]; exact hP.hq, hP.i0, hP.len, hP.bd⟩
theorem St1.put (s : St1 K H p q rs r1 r2 dp dq pls nms H' i kvs ls ovs) (nd : H dp = none) (ne : dp ≠ dq) {w x y : Str} {v : V} (hv : TwoAt K H' v (x, y)) : St1 K H p q rs r1 r2 dp dq pls nms (upd H' dp (.dK (kvs ++ [(Sum.inr w, v)]))) i (kvs ++ [(Sum.inr w, v)]) (ls ++ [(w, x, y)]) ovs where
  but := fun b o nb e => by rw [upd_ne (ne_of_none e nd)]; exact s.but b o nb e
  pool := pool_upd s.pool (ne_of s.pool.hp s.hd (by intro z; cases z)) (ne_of s.pool.hq s.hd (by intro z; cases z))
  h1 := by rw [upd_ne (ne_of s.h1 s.hd (by intro z; cases z))]; exact s.h1
  h2 := by rw [upd_ne (ne_of s.h2 s.hd (by intro z; cases z))]; exact s.h2
  hd := upd_same
  lk := paired_snoc (PG.Paired.imp (fun _ _ z => ⟨z.1, two_dk s.hd z.2⟩) s.lk) ⟨rfl, two_dk s.hd hv⟩
  ho := by rw [upd_ne ne.symm]; exact s.ho
theorem St1.out (s : St1 K H p q rs r1 r2 dp dq pls nms H' i kvs ls ovs) (nd : H dq = none) (ne : dp ≠ dq) (ov2 : List (Key × V)) : St1 K H p q rs r1 r2 dp dq pls nms (upd H' dq (.dK ov2)) i kvs ls ov2 where
  but := fun b o nb e => by rw [upd_ne (ne_of_none e nd)]; exact s.but b o nb e
  pool := pool_upd s.pool (ne_of s.pool.hp s.ho (by intro z; cases z)) (ne_of s.pool.hq s.ho (by intro z; cases z))
  h1 := by rw [upd_ne (ne_of s.h1 s.ho (by intro z; cases z))]; exact s.h1
  h2 := by rw [upd_ne (ne_of s.h2 s.ho (by intro z; cases z))]; exact s.h2
  hd := by rw [upd_ne ne]; exact s.hd
  lk := PG.Paired.imp (fun _ _ z => ⟨z.1, two_dk s.ho z.2⟩) s.lk
  ho := upd_same
/-- a list of our own changes -/
theorem St1.lst (s : St1 K H p q rs r1 r2 dp dq pls nms H' i kvs ls ovs) {D : Addr} {xs ys : List V} (hD : H' D = some (.lst xs)) (n0 : H D = none) (n1 : D ≠ p) (n2 : D ≠ q) (n3 : D ≠ r1) (n4 : D ≠ r2) : St1 K H p q rs r1 r2 dp dq pls nms (upd H' D (.lst ys)) i kvs ls ovs where
  but := fun b o nb e => by rw [upd_ne (ne_of_none e n0)]; exact s.but b o nb e
  pool := pool_upd s.pool n1.symm n2.symm
  h1 := by rw [upd_ne n3.symm]; exact s.h1
  h2 := by rw [upd_ne n4.symm]; exact s.h2
  hd := by rw [upd_ne (ne_of s.hd hD (by intro z; cases z))]; exact s.hd
  lk := PG.Paired.imp (fun _ _ z => ⟨z.1, two_lst hD z.2⟩) s.lk
  ho := by rw [upd_ne (ne_of s.ho hD (by intro z; cases z))]; exact s.ho
end
/-- what the walk over the places has made -/
structure M1 (pls nms : List Str) (i : Nat) (ls : List Lk) (ovs : List (Key × V)) : Prop where
  ks : keysL ls = nms.take i
  t1 : ∀ (t : Nat) (y : Str), 1 ≤ t → t ≤ i → pls[t]? = some y → ∃ (j : Nat) (x w : Str), j < t ∧ pls[j]? = some x ∧ (w, x, y) ∈ ls
  t3 : ∀ l ∈ ls, l.2.1 ∈ pls ∧ l.2.2 ∈ pls
  o : ∀ x : Str, (valV ovs (Sum.inr x : Key)).isSome = true → ∃ (j t : Nat) (y w : Str), j < t ∧ pls[j]? = some x ∧ pls[t]? = some y ∧ (w, x, y) ∈ ls
  ol : ovs.length ≤ i
  ne : ∀ l ∈ ls, l.2.1 ≠ l.2.2
theorem keysL_snoc (ls : List Lk) (l : Lk) : keysL (ls ++ [l]) = keysL ls ++ [l.1] := by
  unfold keysL
  rw [List.map_append]
  rfl
theorem M1.step {pls nms : List Str} {i : Nat} {ls : List Lk} {ovs : List (Key × V)} (m : M1 pls nms i ls ovs) (np : pls.Nodup) {w x y : Str} {j : Nat} (hw : nms[i]? = some w) (hj : j < i + 1) (hx : pls[j]? = some x) (hy : pls[i + 1]? = some y) : M1 pls nms (i + 1) (ls ++ [(w, x, y)]) (putK ovs (Sum.inr x : Key) (.bl true)) where
  ks := by rw [keysL_snoc, m.ks, List.take_add_one, hw]; rfl
  t1 := fun t y' h1 h2 e => by
    by_cases z : t ≤ i
    · obtain ⟨j', x', w', a, b, c⟩ := m.t1 t y' h1 z e
      exact ⟨j', x', w', a, b, List.mem_append_left _ c⟩
    · have et : t = i + 1 := by omega
      subst et
      rw [hy] at e
      cases e
      exact ⟨j, x, w, hj, hx, List.mem_append_right _ List.mem_cons_self⟩
  t3 := fun l hl => by
    rcases List.mem_append.mp hl with z | z
    · exact m.t3 l z
    · rw [List.mem_singleton.mp z]
      exact ⟨List.mem_of_getElem? hx, List.mem_of_getElem? hy⟩
  o := fun x' h => by
    rw [valV_put] at h
    by_cases z : (Sum.inr x' : Key) = Sum.inr x
    · obtain rfl := Sum.inr.inj z
      exact ⟨j, i + 1, y, w, hj, hx, hy, List.mem_append_right _ List.mem_cons_self⟩
    · rw [if_neg z] at h
      obtain ⟨j', t, y', w', a, b, c, d⟩ := m.o x' h
      exact ⟨j', t, y', w', a, b, c, List.mem_append_left _ d⟩
  ol := Nat.le_trans (length_putK _ _ _) (Nat.succ_le_succ m.ol)
  ne := fun l hl => by
    rcases List.mem_append.mp hl with z | z
    · exact m.ne l z
    · rw [List.mem_singleton.mp z]
      intro e
      have e' : x = y := e
      rw [← e'] at hy
      have q := (List.getElem?_inj (List.getElem?_eq_some_iff.mp hx).1 np).mp (hx.trans hy.symm)
      omega
/-- behind it: ways more -/
structure M2 (pls nms : List Str) (n : Nat) (i : Nat) (ls : List Lk) (ovs : List (Key × V)) : Prop where
  tr : ∃ ts ms, ls = ts ++ ms ∧ (∀ l ∈ ts, l.2.1 ≠ l.2.2) ∧ ∀ x ∈ pls, x ∈ PG.ends ts
  ks : keysL ls = nms.take (n - 1 + i)
  t1 : ∀ (t : Nat) (y : Str), 1 ≤ t → pls[t]? = some y → ∃ (j : Nat) (x w : Str), j < t ∧ pls[j]? = some x ∧ (w, x, y) ∈ ls
  t3 : ∀ l ∈ ls, l.2.1 ∈ pls ∧ l.2.2 ∈ pls
  o : ∀ x : Str, (valV ovs (Sum.inr x : Key)).isSome = true → ∃ (j t : Nat) (y w : Str), j < t ∧ pls[j]? = some x ∧ pls[t]? = some y ∧ (w, x, y) ∈ ls
theorem M1.m2 {pls nms : List Str} {ls : List Lk} {ovs : List (Key × V)} (m : M1 pls nms (pls.length - 1) ls ovs) (n2 : 2 ≤ pls.length) : M2 pls nms pls.length 0 ls ovs where
  tr := by
    refine ⟨ls, [], (List.append_nil _).symm, m.ne, fun x hx => ?_⟩
    obtain ⟨i, hi, e⟩ := List.getElem_of_mem hx
    have hx : pls[i]? = some x := by rw [List.getElem?_eq_getElem hi, e]
    rw [ends_mem]
    by_cases z : i = 0
    · obtain ⟨y, hy⟩ : ∃ y, pls[1]? = some y := ⟨_, List.getElem?_eq_getElem (by omega)⟩
      obtain ⟨j, x', w, hj, hx', mm⟩ := m.t1 1 y (Nat.le_refl 1) (by omega) hy
      have ej : j = 0 := by omega
      rw [ej, ← z, hx] at hx'
      cases hx'
      exact ⟨_, mm, .inl rfl⟩
    · obtain ⟨j, x', w, hj, hx', mm⟩ := m.t1 i x (by omega) (by omega) hx
      exact ⟨_, mm, .inr rfl⟩
  ks := m.ks
  t1 := fun t y h1 e => m.t1 t y h1 (by have := (List.getElem?_eq_some_iff.mp e).1; omega) e
  t3 := m.t3
  o := m.o
theorem M2.step {pls nms : List Str} {n i : Nat} {ls : List Lk} {ovs : List (Key × V)} (m : M2 pls nms n i ls ovs) {w x y : Str} (hw : nms[n - 1 + i]? = some w) (hx : x ∈ pls) (hy : y ∈ pls) : M2 pls nms n (i + 1) (ls ++ [(w, x, y)]) ovs where
  tr := by
    obtain ⟨ts, ms, e, a, b⟩ := m.tr
    exact ⟨ts, ms ++ [(w, x, y)], by rw [e, List.append_assoc], a, b⟩
  ks := by rw [keysL_snoc, m.ks, ← Nat.add_assoc, List.take_add_one, hw]; rfl
  t1 := fun t y' h1 e => by
    obtain ⟨j', x', w', a, b, c⟩ := m.t1 t y' h1 e
    exact ⟨j', x', w', a, b, List.mem_append_left _ c⟩
  t3 := fun l hl => by
    rcases List.mem_append.mp hl with z | z
    · exact m.t3 l z
    · rw [List.mem_singleton.mp z]
      exact ⟨hx, hy⟩
  o := fun x' h => by
    obtain ⟨j', t, y', w', a, b, c, d⟩ := m.o x' h
    exact ⟨j', t, y', w', a, b, c, List.mem_append_left _ d⟩
structure ES (pls : List Str) (ovs : List (Key × V)) (i : Nat) (es : List Str) : Prop where
  sub : ∀ x ∈ es, x ∈ pls.take i
  nd : es.Nodup
  ou : ∀ x ∈ pls.take i, x ∉ es → (valV ovs (Sum.inr x : Key)).isSome = true
  len : es.length ≤ i
theorem nodup_at {pls : List Str} (n : pls.Nodup) {i : Nat} {x : Str} (h : pls[i]? = some x) : x ∉ pls.take i := fun m => by
  obtain ⟨j, hj, e⟩ := List.getElem_of_mem m
  rw [List.length_take] at hj
  rw [List.getElem_take] at e
  have q1 : pls[j]? = some x := by rw [List.getElem?_eq_getElem (by omega), e]
  have z := (List.getElem?_inj (by omega) n).mp (q1.trans h.symm)
  omega
theorem ES.yes {pls : List Str} {ovs : List (Key × V)} {i : Nat} {es : List Str} (s : ES pls ovs i es) (n : pls.Nodup) {x : Str} (h : pls[i]? = some x) : ES pls ovs (i + 1) (es ++ [x]) where
  sub := fun y hy => by
    rw [List.take_add_one, h]
    rcases List.mem_append.mp hy with z | z
    · exact List.mem_append_left _ (s.sub y z)
    · exact List.mem_append_right _ z
  nd := List.nodup_append.mpr ⟨s.nd, List.nodup_cons.mpr ⟨List.not_mem_nil, List.nodup_nil⟩, fun a ha b hb e => by
    rw [List.mem_singleton.mp hb] at e
    exact nodup_at n h (s.sub x (e ▸ ha))⟩
  ou := fun y hy ny => by
    rw [List.take_add_one, h] at hy
    rcases List.mem_append.mp hy with z | z
    · exact s.ou y z fun q => ny (List.mem_append_left _ q)
    · exact absurd (List.mem_append_right es z) ny
  len := by rw [List.length_append]; exact Nat.succ_le_succ s.len
theorem ES.no {pls : List Str} {ovs : List (Key × V)} {i : Nat} {es : List Str} (s : ES pls ovs i es) {x : Str} (h : pls[i]? = some x) (o : (valV ovs (Sum.inr x : Key)).isSome = true) : ES pls ovs (i + 1) es where
  sub := fun y hy => by
    rw [List.take_add_one]
    exact List.mem_append_left _ (s.sub y hy)
  nd := s.nd
  ou := fun y hy ny => by
    rw [List.take_add_one, h] at hy
    rcases List.mem_append.mp hy with z | z
    · exact s.ou y z ny
    · rw [List.mem_singleton.mp z]
      exact o
  len := Nat.le_succ_of_le s.len
theorem drawn_of {pls nms : List Str} {i : Nat} {ls : List Lk} {ovs : List (Key × V)} {es : List Str} (okw : okWords pls) (nd : pls.Nodup) (n2 : 2 ≤ pls.length) (n7 : pls.length ≤ 7) (okn : okNames nms) (nn : nms.Nodup) (ln : nms.length ≤ 12) (l1 : pls.length - 1 ≤ nms.length) (m : M2 pls nms pls.length i ls ovs) (e : ES pls ovs pls.length es) : Drawn pls ls es where
  okw := okw
  nd := nd
  n2 := n2
  n7 := n7
  kn := by rw [m.ks]; exact nn.sublist (List.take_sublist _ _)
  km := fun x hx => okn x (by rw [m.ks] at hx; exact List.mem_of_mem_take hx)
  l1 := by
    have z : (keysL ls).length = ls.length := List.length_map _
    rw [m.ks, List.length_take] at z
    omega
  l2 := by
    have z : (keysL ls).length = ls.length := List.length_map _
    rw [m.ks, List.length_take] at z
    omega
  t1 := m.t1
  t3 := m.t3
  ex1 := fun x hx => List.mem_of_mem_take (e.sub x hx)
  exn := e.nd
  tr := m.tr
  ex2 := fun j x hx ne => by
    have z := e.ou x (by rw [List.take_length]; exact List.mem_of_getElem? hx) ne
    obtain ⟨j', t, y, w, a, b, c, d⟩ := m.o x z
    have ej : j' = j := (List.getElem?_inj (List.getElem?_eq_some_iff.mp b).1 nd).mp (b.trans hx.symm)
    exact ⟨t, y, w, by omega, c, d⟩
end LW


set_option Elab.async false
set_option linter.all false
set_option maxRecDepth 100000
set_option maxHeartbeats 4000000
namespace LW
open PySem L2 PG
open LH hiding sm top
abbrev sProgram : Stmt := LH.top 24
theorem pe_dead {X : Cx} {e : Expr} : PE X e (fun _ _ _ => False) := ⟨fun _ _ _ _ _ _ h => h.elim⟩
/-- the law's names, ours -/
structure LT (mg : Str → Option Value) : Prop where
  range : mg "range" = none
  len : mg "len" = none
  min : mg "min" = none
  max : mg "max" = none
/-- a program as the laws draw it: a dict of its ways, begin and exits -/
structure PrgAt (K : PySem.W.Frag) (H : Hp) (r dp ex : Addr) (ls : List Lk) (b : Str) (es : List Str) : Prop where
  hr : H r = some (.dK [(Sum.inr "ways", .ref dp), (Sum.inr "begin", .str b), (Sum.inr "exits", .ref ex)])
  hw : ∃ kvs, H dp = some (.dK kvs) ∧ Lks K H kvs ls
  he : H ex = some (.lst (es.map V.str))
theorem PrgAt.same {K : PySem.W.Frag} {H H' : Hp} {r dp ex : Addr} {ls : List Lk} {b : Str} {es : List Str} (h : PrgAt K H r dp ex ls b es) (s : Same H H') : PrgAt K H' r dp ex ls b es := by
  obtain ⟨a, ⟨kvs, c, d⟩, e⟩ := h
  exact ⟨s _ _ a, ⟨kvs, s _ _ c, d.same s⟩, s _ _ e⟩
def spProgram (K : PySem.W.Frag) : Sp := fun vs H Q _ => ∃ (p q : Addr) (rs : List Int) (i : Int) (mo n : Nat), vs = [.ref p, .int mo, .int n, .bl true] ∧ PoolAt H p q rs i ∧ 2 ≤ mo ∧ mo ≤ 7 ∧ n ≤ 6 ∧
  ∀ (r dp ex : Addr) (pls : List Str) (ls : List Lk) (es : List Str) (b : Str) (H' : Hp) (i' : Int), H r = none → H dp = none → H ex = none → Drawn pls ls es → pls[0]? = some b → pls.length ≤ mo → But p H H' → PoolAt H' p q rs i' → PrgAt K H' r dp ex ls b es → Q (.ref r) H'
section
variable {P : Program} {w : World} {K : PySem.W.Frag} {mg : Str → Option Value} {base : Heap}
abbrev nsProgram : List Str := ["pool", "most", "more", "rings", "places", "names", "pairs", "outs", "at", "start", "one", "other", "first", "last", "exits", "place"]
theorem scProgram : FnScope nsProgram ["pool", "most", "more", "rings"] (defScope sProgram) := ⟨rfl, rfl, rfl, by decide +kernel, rfl, by decide +kernel, by decide +kernel⟩
theorem ok_program {f fD fW fN : Addr} {fd fdD fdW fdN : FuncData} (F : Fun K "_law_program" "_law_program" sProgram f fd) (T : LT mg) (FD : Fun K "_law_draw" "_law_draw" sDraw fD fdD) (bD : Binds K fdD ["pool", "many"] []) (gD : mg "_law_draw" = some (.ref fD)) (GD : FnOk P w K mg base CX0 1 fD fdD ["pool", "many"] spDraw)
    (FW : Fun K "_law_words" "_law_words" sWords fW fdW) (bW : Binds K fdW ["pool", "many"] []) (gW : mg "_law_words" = some (.ref fW)) (GW : FnOk P w K mg base CX0 2 fW fdW ["pool", "many"] (spWordsL okWords 7))
    (FN : Fun K "_law_names" "_law_names" sNames fN fdN) (bN : Binds K fdN ["pool", "many"] []) (gN : mg "_law_names" = some (.ref fN)) (GN : FnOk P w K mg base CX0 2 fN fdN ["pool", "many"] (spWordsL okNames 12)) : FnOk P w K mg base CX0 3 f fd ["pool", "most", "more", "rings"] (spProgram K) := by
  refine F.ok scProgram (fun vs H Q E h => ?_) (fun cdv A outer s H vs Q E hr h => ?_)
  · obtain ⟨p, q, rs, i, mo, n, rfl, _⟩ := h
    rfl
  · obtain ⟨p, q, rs, i, mo, n, rfl, hP, hmo, hmo7, hn, k⟩ := h
    have nd := scProgram.nd
    have hr1 : Room 1 _ := hr.mono (by decide)
    have hu := hu_of hr
    refine ⟨_, pss_cons (ps_set (i := 4) nd rfl (Or.inl rfl) (pe_call GW hr (by rfl) gW FW.kp bW .nil pass0 (pa_cons (pv 0) (pa_cons (pe_op op_add pe_int (pe_call GD hr1 (by rfl) gD FD.kp bD .nil pass0 (pa_cons (pv 0) (pa_cons (pe_op op_sub (pv 1) pe_int) pa_nil)))) pa_nil))))
      (pss_cons (ps_asg (pe_tup (pa_cons (pe_call GN hr (by rfl) gN FN.kp bN .nil pass0 (pa_cons (pv 0) (pa_cons (pe_op op_add (pe_op op_sub (pe_callB call_len_seq (by rfl) T.len PySem.boot_len (pa_cons (pv 4) pa_nil)) pe_int) (pv 2)) pa_nil))) (pa_cons pe_dnewK (pa_cons pe_dnewK pa_nil)))) (pg_tup rfl (pgs_cons (pg_name (i := 5) nd rfl (Or.inl rfl)) (pgs_cons (pg_name (i := 6) nd rfl (Or.inl rfl)) (pgs_cons (pg_name (i := 7) nd rfl (Or.inr rfl)) pgs_nil)))))
      (pss_cons (ps_for PassesOwn.never rfl (pi_range2 rfl T.range (pa_cons pe_int (pa_cons (pe_callB call_len_seq (by rfl) T.len PySem.boot_len (pa_cons (pv 4) pa_nil)) pa_nil))) (pg_name (i := 8) nd rfl (Or.inl rfl))
        (pss_cons (ps_set (i := 9) nd rfl (Or.inl rfl) (pe_ix ix_list (pv 4) (pe_call GD hr1 (by rfl) gD FD.kp bD .nil pass0 (pa_cons (pv 0) (pa_cons (pv 8) pa_nil))) (fun _ _ => rfl)))
        (pss_one (ps_asg (pe_tup (pa_cons (pe_tup (pa_cons (pv 9) (pa_cons (pe_ix ix_list (pv 4) (pv 8) (fun _ _ => rfl)) pa_nil))) (pa_cons pe_bl pa_nil))) (pg_tup rfl (pgs_cons (pg_sub (pv 6) (pe_ix ix_list (pv 5) (pe_op op_sub (pv 8) pe_int) (fun _ _ => rfl)) (set_dict hu)) (pgs_cons (pg_sub (pv 7) (pv 9) (set_dict hu)) pgs_nil)))))))
      (pss_cons (ps_for PassesOwn.never rfl (pi_range1 rfl T.range (pa_cons (pe_call GD hr1 (by rfl) gD FD.kp bD .nil pass0 (pa_cons (pv 0) (pa_cons (pe_op op_add (pv 2) pe_int) pa_nil))) pa_nil)) (pg_name (i := 8) nd rfl (Or.inl rfl))
        (pss_cons (ps_par (i := 10) (j := 11) (by rfl) nd rfl rfl (by decide) rfl rfl (pa_cons (pe_call GD hr1 (by rfl) gD FD.kp bD .nil pass0 (pa_cons (pv 0) (pa_cons (pe_callB call_len_seq (by rfl) T.len PySem.boot_len (pa_cons (pv 4) pa_nil)) pa_nil))) (pa_cons (pe_call GD hr1 (by rfl) gD FD.kp bD .nil pass0 (pa_cons (pv 0) (pa_cons (pe_callB call_len_seq (by rfl) T.len PySem.boot_len (pa_cons (pv 4) pa_nil)) pa_nil))) pa_nil)) (by rfl))
        (pss_one (ps_if (PW.pt (pw_or (pt_val (pv 3)) (pw_or1 (pt_cmpR op_ne (pv 10) (pv 11) (nomark _)))))
          (pss_cons (ps_asg (pe_ifExp (pt_val (pv 3)) (pe_tup (pa_cons (pv 10) (pa_cons (pv 11) pa_nil))) pe_dead) (pg_tup rfl (pgs_cons (pg_name (i := 12) nd rfl (Or.inl rfl)) (pgs_cons (pg_name (i := 13) nd rfl (Or.inl rfl)) pgs_nil))))
          (pss_one (ps_dput hu (pv 6) (pe_ix ix_list (pv 5) (pe_op op_add (pe_op op_sub (pe_callB call_len_seq (by rfl) T.len PySem.boot_len (pa_cons (pv 4) pa_nil)) pe_int) (pv 8)) (fun _ _ => rfl)) (pe_tup (pa_cons (pe_ix ix_list (pv 4) (pv 12) (fun _ _ => rfl)) (pa_cons (pe_ix ix_list (pv 4) (pv 13) (fun _ _ => rfl)) pa_nil))) rfl))) pss_nil))))
      (pss_cons (ps_setLc (i := 14) (own := [("place", 15)]) (g := gName 15) (tt := tOr (tB (tDNotIn (tVar 15) (tVar 7))) (tTest (tOp rEq (tCall spDraw [] E0 (tCons (tVar 0) (tCons (tC (V.int 5)) tNil))) (tC (V.int 0))))) rfl nd rfl rfl (sw_true rfl rfl rfl (by decide +kernel)) (pi_list (pv 4)) (blkOk_by (own := [("place", 15)]) (N := nsProgram) (sc := defScope sProgram) (by decide +kernel)) (fun _ _ _ _ _ => pg_name (i := 15) nd rfl (Or.inl rfl))
        (fun _ _ _ _ _ => pts_one (PW.pt (pw_or (pt_cmp (pc_dnotin hu (pv 15) (pv 7)) rfl) (pw_or1 (pt_cmpR op_eq (pe_call GD hr1 (by rfl) gD FD.kp bD .nil pass0 (pa_cons (pv 0) (pa_cons pe_int pa_nil))) pe_int (nomark _)))))) (fun _ _ _ _ _ => pv 15))
      (pss_one (ps_ret (pe_disp (pps_cons pe_str (pv 6) (pps_cons pe_str (pe_ix ix_list (pv 4) pe_int (fun _ _ => rfl)) (pps_cons pe_str (pv 14) pps_nil))) rfl rfl (by decide) (by decide)))))))), ?_⟩
    -- places = _law_words(pool, 2 + draw)
    refine ⟨_, rfl, _, rfl, _, rfl, _, _, rfl, rfl, p, q, rs, i, _, rfl, hP, by omega, fun r r0 r1 => ?_⟩
    obtain ⟨j, rfl, hj⟩ := nat_of r0 r1
    have hP1 := pool_step hP
    have b1 : But p H (upd H p (.lst [.ref q, .int (i + 1)])) := But.upd _
    generalize upd H p (.lst [.ref q, .int (i + 1)]) = H1 at hP1 b1
    refine ⟨_, _, rfl, rfl, p, q, rs, i + 1, 2 + j, by rw [Int.natCast_add]; rfl, hP1, by omega, fun a1 pls H2 i2 na1 okw npls lpls b2 hP2 h1 => ?_⟩
    have a1p : a1 ≠ p := strs_ne h1 hP2
    -- names, pairs, outs
    refine ⟨_, rfl, _, rfl, a1, _, rfl, .inl (SqL.of h1), _, _, rfl, rfl, _, rfl, _, _, rfl, rfl, p, q, rs, i2, j + 1 + n, ?_, hP2, by omega, fun a2 nms H3 i3 na2 okn nnms lnms b3 hP3 h2 => ?_⟩
    · have e1 : (((pls.map V.str).length : Nat) : Int) - 1 + (n : Int) = ((j + 1 + n : Nat) : Int) := by rw [List.length_map, lpls]; omega
      show [V.ref p, V.int _] = [V.ref p, V.int _]
      rw [e1]
    have h13 := b3 _ _ a1p h1
    refine fun dp ndp dq ndq => ⟨by show 3 ≤ sizeLine; decide, fun t nt => ⟨t, _, rfl, SqT.of upd_same, rfl, _, _, rfl, _, _, rfl, _, _, rfl, rfl, ?_⟩⟩
    have b03 : But p H H3 := (b1.trans b2).trans b3
    have dpp : dp ≠ p := fun z => by rw [z, hP3.hp] at ndp; cases ndp
    have nedq : dp ≠ dq := fun z => by rw [← z, upd_same] at ndq; cases ndq
    have ndq3 : H3 dq = none := by rw [upd_ne nedq.symm] at ndq; exact ndq
    have dqp : dq ≠ p := fun z => by rw [z, hP3.hp] at ndq3; cases ndq3
    have Hdp : H dp = none := b03.free dpp ndp
    have Hdq : H dq = none := b03.free dqp ndq3
    have s4 : Same H3 (upd (upd (upd H3 dp (.dK [])) dq (.dK [])) t (.tup [.ref a2, .ref dp, .ref dq])) := ((sm ndp).trans (sm ndq)).trans (sm nt)
    have hd4 : (upd (upd (upd H3 dp (.dK [])) dq (.dK [])) t (.tup [.ref a2, .ref dp, .ref dq])) dp = some (.dK []) := sm nt _ _ (sm ndq _ _ upd_same)
    have hq4 : (upd (upd (upd H3 dp (.dK [])) dq (.dK [])) t (.tup [.ref a2, .ref dp, .ref dq])) dq = some (.dK []) := sm nt _ _ upd_same
    have S4 : St1 K H p q rs a1 a2 dp dq pls nms (upd (upd (upd H3 dp (.dK [])) dq (.dK [])) t (.tup [.ref a2, .ref dp, .ref dq])) i3 [] [] [] := ⟨b03.trans (But.of s4), hP3.same s4, s4 _ _ h13, s4 _ _ h2, hd4, .nil, hq4⟩
    show tSeq _ _ _ _ (upd (upd (upd H3 dp (.dK [])) dq (.dK [])) t (.tup [.ref a2, .ref dp, .ref dq]))
    generalize upd (upd (upd H3 dp (.dK [])) dq (.dK [])) t (.tup [.ref a2, .ref dp, .ref dq]) = H4 at S4
    have el : ((((pls.map V.str).length : Nat) : Int) - 1).toNat = pls.length - 1 := by rw [List.length_map]; omega
    have lb : (((pls.map V.str).length : Nat) : Int) ≤ 7 := by rw [List.length_map]; omega
    refine ⟨_, rfl, a1, _, rfl, .inl (SqL.of S4.h1), 1, _, rfl, ⟨by decide, by decide, by omega, by omega⟩, ?_⟩
    rw [el]
    refine for_range (lo := 1) (n := pls.length - 1) (fun ii σ H' => ∃ (i' : Int) (kvs : List (Key × V)) (ls : List Lk) (ovs : List (Key × V)) (v8 v9 : Option V), σ = [some (.ref p), some (.int mo), some (.int n), some (.bl true), some (.ref a1), some (.ref a2), some (.ref dp), some (.ref dq), v8, v9, none, none, none, none, none, none] ∧
      St1 K H p q rs a1 a2 dp dq pls nms H' i' kvs ls ovs ∧ M1 pls nms ii ls ovs) ⟨i3, [], [], [], none, none, rfl, S4, ⟨by rw [List.take_zero]; rfl, fun t y h1 h2 => by omega, fun l hl => (nomatch hl), fun x hx => (by cases hx), Nat.le_refl 0, fun l hl => (nomatch hl)⟩⟩ ?_ ?_
    · rintro ii σ H' hii ⟨i', kvs, ls, ovs, v8, v9, rfl, S, M⟩
      refine ⟨_, rfl, _, rfl, _, rfl, p, q, rs, i', _, rfl, S.pool, by omega, fun r r0 r1 => ?_⟩
      obtain ⟨jj, rfl, hjj⟩ := nat_of r0 r1
      have S1 := S.draw
      obtain ⟨x, hx⟩ : ∃ x, pls[jj]? = some x := ⟨_, List.getElem?_eq_getElem (by omega)⟩
      obtain ⟨y, hy⟩ : ∃ y, pls[ii + 1]? = some y := ⟨_, List.getElem?_eq_getElem (by omega)⟩
      obtain ⟨wy, hw⟩ : ∃ wy, nms[ii]? = some wy := ⟨_, List.getElem?_eq_getElem (by omega)⟩
      have ey : atI (pls.map V.str) ((1 : Int) + (ii : Nat)) = some (.str y) := by
        rw [show (1 : Int) + (ii : Nat) = ((ii + 1 : Nat) : Int) by omega]
        exact atI_nat (by rw [List.getElem?_map, hy]; rfl)
      have ew : atI (nms.map V.str) ((1 : Int) + (ii : Nat) - 1) = some (.str wy) := by
        rw [show (1 : Int) + (ii : Nat) - 1 = ((ii : Nat) : Int) by omega]
        exact atI_nat (by rw [List.getElem?_map, hw]; rfl)
      refine ⟨a1, _, _, _, rfl, rfl, SqL.of S1.h1, atI_nat (j := jj) (by rw [List.getElem?_map, hx]; rfl), ?_⟩
      refine ⟨_, rfl, _, rfl, _, rfl, a1, _, _, _, rfl, rfl, SqL.of S1.h1, ey, by show 2 ≤ sizeLine; decide, fun t1 nt1 => ⟨by show 2 ≤ sizeLine; decide, fun t2 nt2 => ?_⟩⟩
      have S2 := (S1.same (sm (o := .tup [.str x, .str y]) nt1)).same (sm (o := .tup [.ref t1, .bl true]) nt2)
      have hv : TwoAt K (upd (upd (upd H' p (.lst [.ref q, .int (i' + 1)])) t1 (.tup [.str x, .str y])) t2 (.tup [.ref t1, .bl true])) (.ref t1) (x, y) := ⟨t1, rfl, SqT.of (sm nt2 _ _ upd_same)⟩
      have fresh : valV kvs (Sum.inr wy : Key) = none := lks_none S.lk (by rw [M.ks]; exact nodup_at nnms hw)
      have epk : putK kvs (Sum.inr wy : Key) (.ref t1) = kvs ++ [(Sum.inr wy, .ref t1)] := putK_new _ fresh
      have S3 := S2.put Hdp nedq (w := wy) hv
      rw [← epk] at S3
      have S4 := S3.out Hdq nedq (putK ovs (Sum.inr x : Key) (.bl true))
      refine ⟨t2, _, rfl, SqT.of upd_same, rfl, _, _, rfl, _, rfl, _, rfl, _, rfl, _, _, rfl, rfl, a2, _, _, _, rfl, rfl, SqL.of S2.h2, ew, dp, _, rfl, DPut.k (k := Sum.inr wy) S2.hd ?_, _, _, rfl, _, rfl, _, rfl, dq, _, rfl, DPut.k (k := Sum.inr x) S3.ho (small1000 (by have := M.ol; omega)), rfl, ?_⟩
      · have z1 : kvs.length = ls.length := Paired.length S.lk
        have z2 : (keysL ls).length = ls.length := List.length_map _
        rw [M.ks, List.length_take] at z2
        exact small1000 (by omega)
      · exact ⟨_, _, _, _, _, _, rfl, S4, M.step npls hw (by omega) hx hy⟩
    · rintro σ H' ⟨i', kvs, ls, ovs, v8, v9, rfl, S, M⟩
      refine ⟨_, rfl, _, rfl, _, _, rfl, rfl, p, q, rs, i', _, rfl, S.pool, by omega, fun r r0 r1 => ?_⟩
      obtain ⟨mm, rfl, hmm⟩ := nat_of r0 r1
      have S0 := S.draw
      refine ⟨_, rfl, by omega, by omega, ?_⟩
      rw [Int.toNat_natCast]
      refine for_range (lo := 0) (n := mm) (fun ii σ H' => ∃ (i' : Int) (kvs : List (Key × V)) (ls : List Lk) (v8 v9 v10 v11 v12 v13 : Option V), σ = [some (.ref p), some (.int mo), some (.int n), some (.bl true), some (.ref a1), some (.ref a2), some (.ref dp), some (.ref dq), v8, v9, v10, v11, v12, v13, none, none] ∧
        St1 K H p q rs a1 a2 dp dq pls nms H' i' kvs ls ovs ∧ M2 pls nms pls.length ii ls ovs) ⟨_, _, _, _, _, _, _, _, _, rfl, S0, M.m2 (by omega)⟩ ?_ ?_
      · rintro ii σ H' hii ⟨i', kvs, ls, v8, v9, v10, v11, v12, v13, rfl, S, M⟩
        refine ⟨_, rfl, _, rfl, a1, _, rfl, .inl (SqL.of S.h1), p, q, rs, i', _, rfl, S.pool, by rw [List.length_map]; omega, fun r r0 r1 => ?_⟩
        obtain ⟨u1, rfl, hu1⟩ := nat_of r0 r1
        have S1 := S.draw
        refine ⟨_, rfl, _, rfl, a1, _, rfl, .inl (SqL.of S1.h1), p, q, rs, _, _, rfl, S1.pool, by rw [List.length_map]; omega, fun r r0 r1 => ?_⟩
        obtain ⟨u2, rfl, hu2⟩ := nat_of r0 r1
        have S2 := S1.draw
        generalize upd (upd H' p (.lst [.ref q, .int (i' + 1)])) p (.lst [.ref q, .int (i' + 1 + 1)]) = H6 at S2
        rw [List.length_map] at hu1 hu2
        obtain ⟨x, hx⟩ : ∃ x, pls[u1]? = some x := ⟨_, List.getElem?_eq_getElem (by omega)⟩
        obtain ⟨y, hy⟩ : ∃ y, pls[u2]? = some y := ⟨_, List.getElem?_eq_getElem (by omega)⟩
        obtain ⟨wy, hw⟩ : ∃ wy, nms[pls.length - 1 + ii]? = some wy := ⟨_, List.getElem?_eq_getElem (by omega)⟩
        have ew : atI (nms.map V.str) ((((pls.map V.str).length : Nat) : Int) - 1 + ((0 : Int) + (ii : Nat))) = some (.str wy) := by
          rw [show (((pls.map V.str).length : Nat) : Int) - 1 + ((0 : Int) + (ii : Nat)) = ((pls.length - 1 + ii : Nat) : Int) by rw [List.length_map]; omega]
          exact atI_nat (by rw [List.getElem?_map, hw]; rfl)
        refine ⟨_, _, rfl, _, rfl, _, rfl, iteT (iteT ?_)⟩
        refine ⟨_, rfl, _, rfl, iteT ⟨_, rfl, _, rfl, by show 2 ≤ sizeLine; decide, fun t nt => ⟨t, _, rfl, SqT.of upd_same, rfl, _, _, rfl, _, _, rfl, rfl, ?_⟩⟩⟩
        have S3 := S2.same (sm (o := .tup [.int u1, .int u2]) nt)
        refine ⟨_, rfl, _, rfl, a1, _, _, _, rfl, rfl, SqL.of S3.h1, atI_nat (j := u1) (by rw [List.getElem?_map, hx]; rfl), _, rfl, _, rfl, a1, _, _, _, rfl, rfl, SqL.of S3.h1, atI_nat (j := u2) (by rw [List.getElem?_map, hy]; rfl), by show 2 ≤ sizeLine; decide, fun t1 nt1 => ?_⟩
        have S4 := S3.same (sm (o := .tup [.str x, .str y]) nt1)
        have fresh : valV kvs (Sum.inr wy : Key) = none := lks_none S.lk (by rw [M.ks]; exact nodup_at nnms hw)
        have epk : putK kvs (Sum.inr wy : Key) (.ref t1) = kvs ++ [(Sum.inr wy, .ref t1)] := putK_new _ fresh
        have S5 := S4.put Hdp nedq (w := wy) (v := .ref t1) (x := x) (y := y) ⟨t1, rfl, SqT.of upd_same⟩
        rw [← epk] at S5
        have ksz : kvs.length < sizeLine := by
          have z1 : kvs.length = ls.length := Paired.length S.lk
          have z2 : (keysL ls).length = ls.length := List.length_map _
          rw [M.ks, List.length_take] at z2
          exact small1000 (by omega)
        refine ⟨_, rfl, _, rfl, _, rfl, a1, _, rfl, .inl (SqL.of S4.h1), _, _, rfl, rfl, _, rfl, _, _, rfl, rfl, a2, _, _, _, rfl, rfl, SqL.of S4.h2, ew, dp, _, rfl, DPut.k (k := Sum.inr wy) S4.hd ksz, ?_⟩
        exact ⟨_, _, _, _, _, _, _, _, _, rfl, S5, M.step hw (List.mem_of_getElem? hx) (List.mem_of_getElem? hy)⟩
      · rintro σ H' ⟨i', kvs, ls, v8, v9, v10, v11, v12, v13, rfl, S, M⟩
        refine ⟨_, rfl, a1, rfl, ⟨_, SqL.of S.h1⟩, fun D nD => lc_it walk_list (fun ii H'' => ∃ (i'' : Int) (es : List Str), St1 K H p q rs a1 a2 dp dq pls nms H'' i'' kvs ls ovs ∧ H'' D = some (.lst (es.map V.str)) ∧ ES pls ovs ii es) ?_ (fun ii H'' _ ⟨_, _, z, _⟩ => SqL.of z.h1) ?_ ?_⟩
        · exact ⟨i', [], S.same (sm nD), upd_same, ⟨fun x z => (nomatch z), List.nodup_nil, fun x z => (by rw [List.take_zero] at z; cases z), Nat.le_refl 0⟩⟩
        · rintro ii v H5 H6 hii ⟨i'', es, S5, hD5, ES5⟩ ⟨rfl, hv⟩
          have Dp : D ≠ p := fun z => by rw [z, S.pool.hp] at nD; cases nD
          have Dq : D ≠ q := fun z => by rw [z, S.pool.hq] at nD; cases nD
          have D1 : D ≠ a1 := fun z => by rw [z, S.h1] at nD; cases nD
          have D2 : D ≠ a2 := fun z => by rw [z, S.h2] at nD; cases nD
          have HD : H D = none := S.but.free Dp nD
          rw [List.length_map] at hii
          obtain ⟨x, hx⟩ : ∃ x, pls[ii]? = some x := ⟨_, List.getElem?_eq_getElem hii⟩
          obtain rfl : v = .str x := by
            rw [List.getElem?_map, hx] at hv
            exact (Option.some.inj hv).symm
          refine ⟨rfl, _, rfl, _, rfl, dq, _, rfl, DGet.k (k := Sum.inr x) S5.ho, _, rfl, ?_⟩
          have yes : ∀ {H7 : Hp} {i7 : Int}, St1 K H p q rs a1 a2 dp dq pls nms H7 i7 kvs ls ovs → H7 D = some (.lst (es.map V.str)) → ∃ acc, H7 D = some (.lst acc) ∧ acc.length < sizeLine ∧ ∃ (i'' : Int) (es' : List Str), St1 K H p q rs a1 a2 dp dq pls nms (upd H7 D (.lst (acc ++ [V.str x]))) i'' kvs ls ovs ∧ (upd H7 D (.lst (acc ++ [V.str x]))) D = some (.lst (es'.map V.str)) ∧ ES pls ovs (ii + 1) es' := fun {H7 i7} S7 hD7 => by
            refine ⟨_, hD7, small1000 (by rw [List.length_map]; have := ES5.len; omega), i7, es ++ [x], S7.lst hD7 HD Dp Dq D1 D2, ?_, ES5.yes npls hx⟩
            rw [upd_same, List.map_append]
            rfl
          cases e : valV ovs (Sum.inr x : Key) with
          | none =>
            refine iteT ?_
            exact iteT ⟨_, rfl, yes S5 hD5⟩
          | some z =>
            refine iteF ?_
            refine ⟨_, rfl, p, q, rs, i'', 5, rfl, S5.pool, by decide, fun r r0 r1 => ⟨rfl, _, rfl, ?_⟩⟩
            have S6 := S5.draw
            have hD6 : (upd H6 p (.lst [.ref q, .int (i'' + 1)])) D = some (.lst (es.map V.str)) := by rw [upd_ne Dp]; exact hD5
            refine iteB (fun _ => ⟨_, rfl, yes S6 hD6⟩) (fun _ => ⟨_, es, S6, hD6, ES5.no hx (by rw [e]; rfl)⟩)
        · rintro H5 ⟨i'', es, S5, hD5, ES5⟩
          rw [List.length_map] at ES5
          obtain ⟨b0, hb0⟩ : ∃ b0, pls[0]? = some b0 := ⟨_, List.getElem?_eq_getElem (by omega)⟩
          refine fun r nr => ⟨_, rfl, _, rfl, a1, _, _, _, rfl, rfl, SqL.of (sm nr _ _ S5.h1), atI_nat (j := 0) (by rw [List.getElem?_map, hb0]; rfl), _, rfl, upd_same, [(Sum.inr "ways", .ref dp), (Sum.inr "begin", .str b0), (Sum.inr "exits", .ref D)], rfl, by show 3 ≤ 15; decide, ?_⟩
          rw [upd_upd]
          have Dp : D ≠ p := fun z => by rw [z, S.pool.hp] at nD; cases nD
          have rp : r ≠ p := fun z => by rw [z, S5.pool.hp] at nr; cases nr
          refine k r dp D pls ls es b0 _ i'' (S5.but.free rp nr) Hdp (S.but.free Dp nD) (drawn_of okw npls (by omega) (by omega) okn nnms (by omega) (by omega) M ES5) hb0 (by omega) (S5.but.trans (But.of (sm nr))) (S5.pool.same (sm nr)) ⟨?_, ⟨kvs, sm nr _ _ S5.hd, S5.lk.same (sm nr)⟩, sm nr _ _ hD5⟩
          rw [upd_same]
          rfl
end
end LW


set_option Elab.async false
set_option linter.all false
set_option maxRecDepth 100000
set_option maxHeartbeats 4000000
namespace LW
open PySem L2 PG
open LH hiding sm top
abbrev sMade : Stmt := LH.top 25
abbrev sLPlaces : Stmt := LH.top 26
abbrev sLLeaving : Stmt := LH.top 27
theorem get_ways {K : PySem.W.Frag} {H : Hp} {r dp ex : Addr} {ls : List Lk} {b : Str} {es : List Str} (h : PrgAt K H r dp ex ls b es) : DGet H r (.str "ways") (some (.ref dp)) := .inl ⟨_, Sum.inr "ways", .inl h.hr, rfl, rfl⟩
theorem get_begin {K : PySem.W.Frag} {H : Hp} {r dp ex : Addr} {ls : List Lk} {b : Str} {es : List Str} (h : PrgAt K H r dp ex ls b es) : DGet H r (.str "begin") (some (.str b)) := .inl ⟨_, Sum.inr "begin", .inl h.hr, rfl, rfl⟩
theorem get_exits {K : PySem.W.Frag} {H : Hp} {r dp ex : Addr} {ls : List Lk} {b : Str} {es : List Str} (h : PrgAt K H r dp ex ls b es) : DGet H r (.str "exits") (some (.ref ex)) := .inl ⟨_, Sum.inr "exits", .inl h.hr, rfl, rfl⟩
section
variable {P : Program} {w : World} {K : PySem.W.Frag} {mg : Str → Option Value} {base : Heap}
theorem scMade : FnScope ["prog"] ["prog"] (defScope sMade) := ⟨rfl, rfl, rfl, by decide +kernel, rfl, by decide +kernel, by decide +kernel⟩
def spMade (K : PySem.W.Frag) (C : Addr) : Sp := fun vs H Q _ => ∃ (r dp ex : Addr) (ls : List Lk) (b : Str) (es : List Str), vs = [.ref r] ∧ PrgAt K H r dp ex ls b es ∧ GoodP ls b es ∧
  ∀ (H' : Hp) (x dx L S F : Addr), Same H H' → H x = none → H L = none → H S = none → H F = none → ProgAt K C H' x dx L S F (pdOf ls b es) → Q (.ref x) H'
/-- what init's promise comes to for a new program -/
theorem init_new {C : Addr} {H1 : Hp} {a e : Addr} {b : Str} {kvs : List (Key × V)} {ls : List Lk} {es : List Str} {R : Addr → Hp → Prop} {E : XK} (ha : H1 a = some (.dK kvs)) (lk : Lks K H1 kvs ls) (he : H1 e = some (.lst (es.map V.str))) (Gd : GoodP ls b es)
    (k : ∀ (H' : Hp) (x dx L S F : Addr), Same H1 H' → H1 x = none → H1 L = none → H1 S = none → H1 F = none → ProgAt K C H' x dx L S F (pdOf ls b es) → R x H') :
    ∀ x dx, H1 x = none → H1 dx = none → dx ≠ x → spInit K C [.ref x, .ref a, .str b, .ref e] (upd (upd H1 dx (.own x)) x (.ins C dx [])) (fun v H2 => v = .non ∧ R x H2) E := by
  intro x dx nx ndx nxd
  have s1 : Same H1 (upd (upd H1 dx (.own x)) x (.ins C dx [])) := fun c o z => by
    rw [upd_ne (ne_of_none z nx), upd_ne (ne_of_none z ndx)]
    exact z
  refine ⟨x, dx, a, e, b, kvs, ls, es, rfl, upd_same, s1 _ _ ha, lk.same s1, s1 _ _ he, Gd, fun H' L S F s2 nL nS nF pr => ⟨rfl, ?_⟩⟩
  have fr : ∀ {y : Addr}, (upd (upd H1 dx (.own x)) x (.ins C dx [])) y = none → H1 y = none := fun {y} z => by
    cases q : H1 y with
    | none => rfl
    | some o => rw [s1 _ _ q] at z; cases z
  exact k H' x dx L S F (fun c o z => s2 c o (ne_of_none z nx) (s1 c o z)) nx (fr nL) (fr nS) (fr nF) pr
theorem ok_made {f C fI : Addr} {fd fdI : FuncData} (F : Fun K "_law_made" "_law_made" sMade f fd) (T : PT0 mg) (Tc : PTc K mg C) (M : Mk K C fI) (bI : Binds K fdI ["self", "ways", "begin", "exits"] []) (GI : FnOk P w K mg base CX0 4 fI fdI ["self", "ways", "begin", "exits"] (spInit K C)) : FnOk P w K mg base CX0 6 f fd ["prog"] (spMade K C) := by
  refine F.ok scMade (fun vs H Q E h => ?_) (fun cdv A outer s H vs Q E hr h => ?_)
  · obtain ⟨r, dp, ex, ls, b, es, rfl, _⟩ := h
    rfl
  · obtain ⟨r, dp, ex, ls, b, es, rfl, h, Gd, k⟩ := h
    have hu := hu_of hr
    obtain ⟨kvs, hd, lk⟩ := h.hw
    refine ⟨_, pss_one (ps_ret (pe_make M GI hr (by rfl) Tc.gC bI .nil pass0 (pa_cons (pe_callTy call_dictD (by rfl) T.dict (by decide +kernel) (pa_cons (pe_dget hu (pv 0) pe_str (fun _ _ => rfl)) pa_nil)) (pa_cons (pe_dget hu (pv 0) pe_str (fun _ _ => rfl)) (pa_cons (pe_callTy call_list_of (by rfl) T.list PyProof.Rows.boot_list (pa_cons (pe_dget hu (pv 0) pe_str (fun _ _ => rfl)) pa_nil)) pa_nil))))), ?_⟩
    refine ⟨_, rfl, r, _, rfl, get_ways h, dp, kvs, rfl, .inl hd, fun a na => ?_⟩
    have h1 := h.same (sm (o := .dK kvs) na)
    refine ⟨_, rfl, r, _, rfl, get_begin h1, _, rfl, r, _, rfl, get_exits h1, ex, _, rfl, .inl (SqL.of h1.he), fun e ne => ?_⟩
    have s2 : Same H (upd (upd H a (.dK kvs)) e (.lst (es.map V.str))) := (sm na).trans (sm ne)
    have fr : ∀ {y : Addr}, (upd (upd H a (.dK kvs)) e (.lst (es.map V.str))) y = none → H y = none := fun {y} z => by
      cases q : H y with
      | none => rfl
      | some o => rw [s2 _ _ q] at z; cases z
    exact init_new (sm ne _ _ upd_same) (lk.same s2) upd_same Gd fun H' x dx L S Fn s3 nx nL nS nF pr => k H' x dx L S Fn (s2.trans s3) (fr nx) (fr nL) (fr nS) (fr nF) pr
/-! ### _law_places -/
abbrev nsLP : List Str := ["prog", "found", "way", "place"]
theorem scLPlaces : FnScope nsLP ["prog"] (defScope sLPlaces) := ⟨rfl, rfl, rfl, by decide +kernel, rfl, by decide +kernel, by decide +kernel⟩
/-- one way more looked at -/
def lpStep (found : List Str) (l : Lk) : List Str := found ++ [l.2.1, l.2.2].filter fun x => !decide (x ∈ found)
def lpAll (ls : List Lk) : List Str := ls.foldl lpStep []
theorem lp_mem : ∀ (ls : List Lk) (f : List Str) (x : Str), x ∈ ls.foldl lpStep f ↔ x ∈ f ∨ x ∈ ends ls
  | [], f, x => ⟨.inl, fun h => h.elim id fun z => nomatch z⟩
  | l :: r, f, x => by
    rw [List.foldl_cons, lp_mem r]
    have e : x ∈ ends (l :: r) ↔ (x = l.2.1 ∨ x = l.2.2) ∨ x ∈ ends r := by
      show x ∈ [l.2.1, l.2.2] ++ ends r ↔ _
      rw [List.mem_append]
      simp
    have e2 : x ∈ lpStep f l ↔ x ∈ f ∨ (x = l.2.1 ∨ x = l.2.2) := by
      unfold lpStep
      rw [List.mem_append, List.mem_filter]
      constructor
      · rintro (h | ⟨h, _⟩)
        · exact .inl h
        · exact .inr (by simpa using h)
      · rintro (h | h)
        · exact .inl h
        · by_cases z : x ∈ f
          · exact .inl z
          · exact .inr ⟨by simpa using h, by simpa using z⟩
    rw [e, e2, or_assoc]
theorem lp_nodup1 : ∀ {ts : List Lk} {f : List Str}, (∀ l ∈ ts, l.2.1 ≠ l.2.2) → f.Nodup → (ts.foldl lpStep f).Nodup
  | [], _, _, h => h
  | l :: r, f, ne, h => by
    rw [List.foldl_cons]
    refine lp_nodup1 (fun l' hl => ne l' (List.mem_cons_of_mem _ hl)) ?_
    unfold lpStep
    have n2 : [l.2.1, l.2.2].Nodup := List.nodup_cons.mpr ⟨fun z => ne l List.mem_cons_self (List.mem_singleton.mp z), List.nodup_cons.mpr ⟨List.not_mem_nil, List.nodup_nil⟩⟩
    refine List.nodup_append.mpr ⟨h, n2.sublist List.filter_sublist, fun a ha b hb e => ?_⟩
    have z := (List.mem_filter.mp hb).2
    rw [← e] at z
    simp at z
    exact z ha
theorem lp_nodup2 : ∀ {ms : List Lk} {f : List Str}, (∀ x ∈ ends ms, x ∈ f) → ms.foldl lpStep f = f
  | [], _, _ => rfl
  | l :: r, f, h => by
    have h1 : ∀ x ∈ [l.2.1, l.2.2], x ∈ f := fun x hx => h x (List.mem_append_left _ hx)
    have e : lpStep f l = f := by
      unfold lpStep
      have : ([l.2.1, l.2.2].filter fun x => !decide (x ∈ f)) = [] := List.filter_eq_nil_iff.mpr fun x hx => by simpa using h1 x hx
      rw [this, List.append_nil]
    rw [List.foldl_cons, e]
    exact lp_nodup2 fun x hx => h x (List.mem_append_right [l.2.1, l.2.2] hx)
theorem lp_places {pls : List Str} {ls : List Lk} {es : List Str} (d : Drawn pls ls es) : srt (lpAll ls) = plc ls ∧ (lpAll ls).length ≤ 7 := by
  obtain ⟨ts, ms, e, a, b⟩ := d.tr
  have nd : (lpAll ls).Nodup := by
    unfold lpAll
    rw [e, List.foldl_append]
    have z := lp_nodup1 (f := []) a List.nodup_nil
    rw [lp_nodup2]
    · exact z
    · intro x hx
      refine (lp_mem ts [] x).mpr (.inr (b x ((d.ends x).mp ?_)))
      rw [e]
      obtain ⟨l, hl, q⟩ := ends_mem.mp hx
      exact ends_mem.mpr ⟨l, List.mem_append_right _ hl, q⟩
  have mm : ∀ x, x ∈ lpAll ls ↔ x ∈ ends ls := fun x => by
    unfold lpAll
    rw [lp_mem]
    exact ⟨fun h => h.elim (fun z => nomatch z) id, .inr⟩
  refine ⟨?_, ?_⟩
  · unfold plc
    refine srt_same nd (insAll_nd List.nodup_nil) fun x => ?_
    rw [mm, STX.insAll_mem]
    exact ⟨.inl, fun h => h.elim id fun z => nomatch z⟩
  · have z := nodup_le nd fun x hx => (d.ends x).mp ((mm x).mp hx)
    have := d.n7
    omega
theorem lp_len (f : List Str) (l : Lk) : (lpStep f l).length ≤ f.length + 2 := by
  unfold lpStep
  rw [List.length_append]
  have z := List.length_filter_le (fun x => !decide (x ∈ f)) [l.2.1, l.2.2]
  have e : [l.2.1, l.2.2].length = 2 := rfl
  omega
theorem lp_lenAll : ∀ (ls : List Lk) (f : List Str), (ls.foldl lpStep f).length ≤ f.length + 2 * ls.length
  | [], _ => Nat.le_refl _
  | l :: r, f => by
    rw [List.foldl_cons, List.length_cons]
    have a := lp_lenAll r (lpStep f l)
    have b := lp_len f l
    omega
theorem prg_ne {H : Hp} {r dp ex : Addr} {ls : List Lk} {b : Str} {es : List Str} (h : PrgAt K H r dp ex ls b es) : r ≠ dp := fun z => by
  obtain ⟨kvs, hd, lk⟩ := h.hw
  have e := h.hr
  rw [z, hd] at e
  have e2 := HO.dK.inj (Option.some.inj e)
  rw [e2] at lk
  cases lk with
  | cons _ rs =>
    cases rs with
    | cons q _ =>
      obtain ⟨_, t, q2, _⟩ := q
      cases q2
/-- prog["ways"] while they are walked -/
theorem get_waysL {H H' : Hp} {r dp ex : Addr} {ls : List Lk} {b : Str} {es : List Str} {od : Obj} {u : HO} (h : PrgAt K H r dp ex ls b es) (s : Same (upd H dp (.frz od u)) H') : DGet H' r (.str "ways") (some (.ref dp)) :=
  .inl ⟨_, Sum.inr "ways", .inl (s _ _ (by rw [upd_ne (prg_ne h)]; exact h.hr)), rfl, rfl⟩
theorem filt_snoc {xs : List Str} {j : Nat} {x : Str} (c : Str → Bool) (h : xs[j]? = some x) : ((xs.take (j + 1)).filter c).map V.str = ((xs.take j).filter c).map V.str ++ (if c x then [V.str x] else []) := by
  rw [List.take_add_one, h, List.filter_append, List.map_append]
  congr 1
  show List.map V.str (List.filter c [x]) = _
  by_cases e : c x = true
  · rw [List.filter_cons_of_pos e, if_pos e]
    rfl
  · rw [List.filter_cons_of_neg e, if_neg e]
    rfl
def spLP (K : PySem.W.Frag) : Sp := fun vs H Q _ => ∃ (r dp ex : Addr) (pls : List Str) (ls : List Lk) (b : Str) (es : List Str), vs = [.ref r] ∧ PrgAt K H r dp ex ls b es ∧ Drawn pls ls es ∧
  ∀ (H' : Hp) (p : Addr), Same H H' → H p = none → H' p = some (.lst ((plc ls).map V.str)) → Q (.ref p) H'
theorem ok_lplaces {f : Addr} {fd : FuncData} (F : Fun K "_law_places" "_law_places" sLPlaces f fd) (T : PT0 mg) : FnOk P w K mg base CX0 1 f fd ["prog"] (spLP K) := by
  refine F.ok scLPlaces (fun vs H Q E h => ?_) (fun cdv A outer s H vs Q E hr h => ?_)
  · obtain ⟨r, dp, ex, pls, ls, b, es, rfl, _⟩ := h
    rfl
  · obtain ⟨r, dp, ex, pls, ls, b, es, rfl, h, D, k⟩ := h
    have hu := hu_of hr
    have nd := scLPlaces.nd
    obtain ⟨kvs, hd, lk⟩ := h.hw
    refine ⟨_, pss_cons (ps_set (i := 1) nd rfl (Or.inr rfl) (pe_lst pa_nil))
      (pss_cons (ps_lock (ps_for PassesOwn.never rfl (pi_keys (pe_dget hu (pv 0) pe_str (fun _ _ => rfl))) (pg_name (i := 2) nd rfl (Or.inl rfl))
        (pss_one (ps_set (i := 1) nd rfl (Or.inr rfl) (pe_op op_cat (pv 1) (pe_lc (own := [("place", 3)]) (g := gName 3) (tt := tTest (tOp (rIn K true) (tVar 3) (tVar 1))) rfl nd (pi_tup (pe_dget hu (pe_dget hu (pv 0) pe_str (fun _ _ => rfl)) (pv 2) (fun _ _ => rfl))) (blkOk_by (own := [("place", 3)]) (N := nsLP) (sc := defScope sLPlaces) (by decide +kernel))
          (fun _ _ _ _ _ => pg_name (i := 3) nd rfl (Or.inl rfl)) (fun _ _ _ _ _ => pts_one (pt_cmpR op_notIn_seq (pv 3) (pv 1) rfl)) (fun _ _ _ _ _ => pv 3)))))))
      (pss_one (ps_ret (pe_callB cr_sortedS (by rfl) T.sorted PyProof.Rows.boot_sorted (pa_cons (pv 1) pa_nil))))), ?_⟩
    refine ⟨Nat.zero_le _, fun p0 np0 => ?_⟩
    have h0 := h.same (sm (o := .lst []) np0)
    have hd0 := sm (o := .lst []) np0 _ _ hd
    have lk0 := lk.same (sm (o := .lst []) np0)
    have s00 : Same H (upd H p0 (.lst [])) := sm np0
    have hp0 : (upd H p0 (.lst [])) p0 = some (.lst []) := upd_same
    show tSeq _ _ _ _ (upd H p0 (.lst []))
    generalize upd H p0 (.lst []) = H0 at h0 hd0 lk0 s00 hp0
    have lkn : kvs.length = ls.length := Paired.length lk
    have n12 := D.l2
    refine ⟨dp, .dK kvs, hd0, trivial, fun od => ⟨_, rfl, r, _, rfl, get_waysL h0 (Same.refl _), dp, od, rfl, .inl ⟨kvs, upd_same, for_it walk_keys (fun i σ H' => ∃ (pf : Addr) (v2 : Option V), σ = [some (.ref r), some (.ref pf), v2, none] ∧ Same (upd H0 dp (.frz od (.dK kvs))) H' ∧ H' pf = some (.lst (((ls.take i).foldl lpStep []).map V.str))) ?_ (fun i σ H' _ ⟨_, _, _, z, _⟩ => z _ _ upd_same) ?_ ?_⟩⟩⟩
    · exact ⟨p0, none, rfl, Same.refl _, by rw [upd_ne (ne_of hp0 hd0 (by intro z; cases z))]; exact hp0⟩
    · rintro i v σ H1 H2 hi ⟨pf, v2, rfl, s1, hf⟩ ⟨rfl, kk, vv, ekv, rfl⟩
      have lkL := Lks.lock (od := od) lk0 hd0
      obtain ⟨l, hl, e1, _⟩ := lks_at lkL ekv
      have e1' : kk = Sum.inr l.1 := e1
      subst e1'
      obtain ⟨t, hv, ht⟩ := pair_uniq lkL D.kn hl
      have hg : DGet H2 dp (.str l.1) (some (.ref t)) := by
        rw [← hv]
        exact .inl ⟨kvs, Sum.inr l.1, .inr ⟨od, s1 _ _ upd_same⟩, rfl, rfl⟩
      have hfl : ((ls.take i).foldl lpStep []).length ≤ 24 := by
        have z := lp_lenAll (ls.take i) []
        have z2 : (ls.take i).length ≤ ls.length := List.length_take_le' i ls
        rw [List.length_nil] at z
        omega
      have et : (ls.take (i + 1)).foldl lpStep [] = lpStep ((ls.take i).foldl lpStep []) l := by
        rw [List.take_add_one, hl, List.foldl_append]
        rfl
      rw [et]
      generalize (ls.take i).foldl lpStep [] = fnd at hf hfl
      refine ⟨_, rfl, _, rfl, r, _, rfl, get_waysL h0 s1, _, rfl, dp, _, rfl, hg, t, rfl, ⟨_, sqT_same ht s1⟩, fun B nB => ?_⟩
      refine lc_keep walk_tup nB (fun j => (([l.2.1, l.2.2].take j).filter fun x => !decide (x ∈ fnd)).map V.str) rfl (fun j _ => ?_) (fun H' s' => sqT_same (sqT_same ht s1) s') ?_ ?_
      · rw [List.length_map]
        exact Nat.le_trans (List.length_filter_le _ _) (Nat.le_trans (List.length_take_le' j _) (by show 2 ≤ 1000; decide))
      · rintro j v H3 H4 Pn hj s3 ⟨rfl, ev⟩ fin skip
        obtain ⟨x, hx, rfl⟩ : ∃ x, [l.2.1, l.2.2][j]? = some x ∧ v = .str x := by
          have : j = 0 ∨ j = 1 := by
            have z : j < 2 := hj
            omega
          rcases this with rfl | rfl
          · exact ⟨_, rfl, (Option.some.inj ev).symm⟩
          · exact ⟨_, rfl, (Option.some.inj ev).symm⟩
        refine ⟨rfl, _, rfl, _, rfl, pf, _, rfl, .inl (SqL.of (s3 _ _ hf)), rfl, PG.flat_strs _, _, rfl, ?_⟩
        rw [if_pos rfl, inV_strs]
        have sn := filt_snoc (fun x => !decide (x ∈ fnd)) hx
        refine iteB (fun c => ?_) (fun c => ?_)
        · refine ⟨_, rfl, fin H4 _ (Same.refl _) ?_⟩
          rw [sn, if_pos c]
        · refine skip H4 (Same.refl _) ?_
          rw [sn, if_neg (by rw [c]; exact Bool.false_ne_true), List.append_nil]
      · intro H3 s3 hB
        refine ⟨pf, B, _, _, rfl, rfl, s3 _ _ hf, hB, ?_, fun p2 np2 => ?_⟩
        · have e2 : ([V.str l.2.1, V.str l.2.2].length) = 2 := rfl
          rw [List.length_map, List.length_map, sizeLine_eq]
          have z := List.length_filter_le (fun x => !decide (x ∈ fnd)) ([l.2.1, l.2.2].take ([V.str l.2.1, V.str l.2.2].length))
          have z2 : ([l.2.1, l.2.2].take ([V.str l.2.1, V.str l.2.2].length)).length ≤ 2 := List.length_take_le' _ _
          omega
        · refine ⟨p2, _, rfl, fun c o z => sm np2 _ _ (s3 _ _ (s1 _ _ z)), ?_⟩
          rw [upd_same, ← List.map_append]
          rfl
    · rintro σ H1 ⟨pf, v2, rfl, s1, hf⟩
      rw [lkn, List.take_length] at hf
      refine ⟨s1 _ _ upd_same, _, rfl, pf, lpAll ls, rfl, SqL.of ?_, by have := (lp_places D).2; omega, fun ys p2 perm sr np2 => ?_⟩
      · rw [upd_ne (fun z => by rw [z, s1 _ _ upd_same] at hf; cases hf)]
        exact hf
      · have ey : ys = plc ls := (srt_of perm sr).trans (lp_places D).1
        subst ey
        have s2 : Same H (upd H1 dp (.dK kvs)) := s00.trans (unlock hd0 s1)
        refine k _ p2 (s2.trans (sm np2)) ?_ upd_same
        cases z : H p2 with
        | none => rfl
        | some o => rw [s2 _ _ z] at np2; cases np2
end
end LW


set_option Elab.async false
set_option linter.all false
set_option maxRecDepth 100000
set_option maxHeartbeats 4000000
namespace LW
open PySem L2 PG
open LH hiding sm top
section
variable {P : Program} {w : World} {K : PySem.W.Frag} {mg : Str → Option Value} {base : Heap}
abbrev nsLL : List Str := ["prog", "place", "way"]
theorem scLLeaving : FnScope nsLL ["prog", "place"] (defScope sLLeaving) := ⟨rfl, rfl, rfl, by decide +kernel, rfl, by decide +kernel, by decide +kernel⟩
/-- the sorted ways whose c is so -/
def selOf (ls : List Lk) (c : Str × Str → Bool) : List Str := (srt (keysL ls)).filter fun x => c (lkp ls x)
theorem sel_eq (ls : List Lk) (c : Str × Str → Bool) : keysL ((srtL ls).filter fun l => c l.2) = selOf ls c := by
  unfold srtL selOf keysL
  rw [List.filter_map, List.map_map]
  exact List.map_id' _
def spLL (K : PySem.W.Frag) : Sp := fun vs H Q _ => ∃ (r dp ex : Addr) (ls : List Lk) (b : Str) (es : List Str) (pl : Str), vs = [.ref r, .str pl] ∧ PrgAt K H r dp ex ls b es ∧ ls.length ≤ 40 ∧
  ∀ (H' : Hp) (p : Addr), Same H H' → H p = none → H' p = some (.lst ((selOf ls fun q => decide (q.1 = pl)).map V.str)) → Q (.ref p) H'
theorem fil_snoc {xs : List Str} {j : Nat} {x : Str} (c : Str → Bool) (h : xs[j]? = some x) : ((xs.take (j + 1)).filter c).map V.str = ((xs.take j).filter c).map V.str ++ (if c x then [V.str x] else []) := filt_snoc c h
theorem ok_lleaving {f : Addr} {fd : FuncData} (F : Fun K "_law_leaving" "_law_leaving" sLLeaving f fd) (T : PT0 mg) : FnOk P w K mg base CX0 1 f fd ["prog", "place"] (spLL K) := by
  refine F.ok scLLeaving (fun vs H Q E h => ?_) (fun cdv A outer s H vs Q E hr h => ?_)
  · obtain ⟨r, dp, ex, ls, b, es, pl, rfl, _⟩ := h
    rfl
  · obtain ⟨r, dp, ex, ls, b, es, pl, rfl, h, n40, k⟩ := h
    have hu := hu_of hr
    have nd := scLLeaving.nd
    obtain ⟨kvs, hd, lk⟩ := h.hw
    refine ⟨_, pss_one (ps_ret (pe_lc (own := [("way", 2)]) (g := gName 2) (tt := tTest (tOp rEq (tOp (rIxT K) (tDGet (tDGet (tVar 0) (tC (V.str "ways"))) (tVar 2)) (tC (V.int 0))) (tVar 1))) rfl nd (pi_list (pe_callB (call_sortedD rfl) (by rfl) T.sorted PyProof.Rows.boot_sorted (pa_cons (pe_dget hu (pv 0) pe_str (fun _ _ => rfl)) pa_nil))) (blkOk_by (own := [("way", 2)]) (N := nsLL) (sc := defScope sLLeaving) (by decide +kernel))
      (fun _ _ _ _ _ => pg_name (i := 2) nd rfl (Or.inl rfl)) (fun _ _ _ _ _ => pts_one (pt_cmpR op_eq (pe_ix (show IxR _ (rIxT K) from ix_tup) (pe_dget hu (pe_dget hu (pv 0) pe_str (fun _ _ => rfl)) (pv 2) (fun _ _ => rfl)) pe_int (fun _ _ => rfl)) (pv 1) (nomark _))) (fun _ _ _ _ _ => pv 2))), ?_⟩
    have kl : (keysL ls).length = ls.length := List.length_map _
    refine ⟨_, rfl, r, _, rfl, get_ways h, dp, kvs, keysL ls, rfl, .inl hd, lks_keys lk, by omega, fun ys p0 perm sr np0 => ?_⟩
    obtain rfl := srt_of perm sr
    have h0 := h.same (sm (o := .lst ((srt (keysL ls)).map V.str)) np0)
    have s00 : Same H (upd H p0 (.lst ((srt (keysL ls)).map V.str))) := sm np0
    have hp0 : (upd H p0 (.lst ((srt (keysL ls)).map V.str))) p0 = some (.lst ((srt (keysL ls)).map V.str)) := upd_same
    have hd0 := s00 _ _ hd
    have lk0 := lk.same s00
    generalize upd H p0 (.lst ((srt (keysL ls)).map V.str)) = H0 at h0 s00 hp0 hd0 lk0
    refine ⟨p0, rfl, ⟨_, SqL.of hp0⟩, fun D nD => lc_keep walk_list nD (fun i => (((srt (keysL ls)).take i).filter fun x => decide ((lkp ls x).1 = pl)).map V.str) rfl (fun i _ => ?_) (fun H' s' => SqL.of (s' _ _ hp0)) ?_ ?_⟩
    · rw [List.length_map]
      refine Nat.le_trans (List.length_filter_le _ _) (Nat.le_trans (List.length_take_le' i _) ?_)
      rw [srt_len]
      omega
    · rintro i v H1 H2 Pn hi s1 ⟨rfl, ev⟩ fin skip
      obtain ⟨x, hx, rfl⟩ : ∃ x, (srt (keysL ls))[i]? = some x ∧ v = .str x := by
        rw [List.getElem?_map] at ev
        cases e : (srt (keysL ls))[i]? with
        | none => rw [e] at ev; cases ev
        | some x => rw [e] at ev; exact ⟨x, rfl, (Option.some.inj ev).symm⟩
      have m : x ∈ keysL ls := srt_mem.mp (List.mem_of_getElem? hx)
      obtain ⟨t, hv, ht⟩ := lks_val lk0 m
      have hg : DGet H2 dp (.str x) (some (.ref t)) := by
        rw [← hv]
        exact .inl ⟨kvs, Sum.inr x, .inl (s1 _ _ hd0), rfl, rfl⟩
      have sn := filt_snoc (fun x => decide ((lkp ls x).1 = pl)) hx
      refine ⟨rfl, _, rfl, r, _, rfl, get_ways (h0.same s1), _, rfl, dp, .ref t, rfl, hg, t, _, _, _, rfl, rfl, sqT_same ht s1, atI_nat (j := 0) rfl, _, rfl, rfl, _, rfl, iteB (fun c => ?_) (fun c => ?_)⟩
      · have e : (lkp ls x).1 = pl := by have z := of_decide_eq_true c; injection z
        refine ⟨_, rfl, fin H2 _ (Same.refl _) ?_⟩
        rw [sn, if_pos (decide_eq_true e)]
      · have e : ¬ (lkp ls x).1 = pl := fun z => by rw [z, decide_eq_true rfl] at c; cases c
        refine skip H2 (Same.refl _) ?_
        rw [sn, if_neg (by rw [decide_eq_false e]; exact Bool.false_ne_true), List.append_nil]
    · intro H1 s1 hD
      rw [List.length_map, List.take_length] at hD
      refine k H1 D (s00.trans s1) ?_ hD
      cases z : H D with
      | none => rfl
      | some o => rw [s00 _ _ z] at nD; cases nD
end
end LW


set_option Elab.async false
set_option linter.all false
set_option maxRecDepth 100000
set_option maxHeartbeats 4000000
namespace LW
open PySem L2 PG
open LH hiding sm top
abbrev sRight : Stmt := LH.top 28
theorem lay_word {x : Str} (h : isWord x = true) : PyData.canLay0 (.str x) = true := by
  unfold isWord at h
  rw [Bool.and_eq_true, Bool.and_eq_true] at h
  have h3 := List.all_eq_true.mp h.2.2
  show x.cps.all (· < 0x110000) = true
  rw [← Array.all_toList, List.all_eq_true]
  intro c hc
  have m : c ∈ alpha.cps.toList := of_decide_eq_true (h3 c hc)
  have all : ∀ c ∈ alpha.cps.toList, decide (c < 0x110000) = true := by decide +kernel
  exact all c m
/-- a new list, said by its place -/
def spListS (K : PySem.W.Frag) (C : Addr) (g : PD → List Str) : Sp := fun vs H Q _ => ∃ (x dx L S F : Addr) (d : PD), vs = [.ref x] ∧ ProgAt K C H x dx L S F d ∧ ∀ (p : Addr) (H' : Hp), H p = none → Same H H' → H' p = some (.lst ((g d).map V.str)) → Q (.ref p) H'
theorem listS_of {P : Program} {w : World} {K : PySem.W.Frag} {mg : Str → Option Value} {base : Heap} {C f : Addr} {fd : FuncData} {g : PD → List Str} (F : FnOk P w K mg base CX0 1 f fd ["self"] (spList K C g)) : FnOk P w K mg base CX0 1 f fd ["self"] (spListS K C g) := F.imp fun vs H Q E h => by
  obtain ⟨x, dx, L, S, F, d, e, hp, k⟩ := h
  exact ⟨x, dx, L, S, F, d, e, hp, fun p np => k p _ np (sm np) upd_same⟩
/-- what is known of the class Program and its methods -/
structure PMs (P : Program) (w : World) (K : PySem.W.Frag) (mg : Str → Option Value) (base : Heap) (C : Addr) : Prop where
  cl : PTc K mg C
  tt : PTt K C
  begin : ∃ p g fd, PropOf K C "begin" p g ∧ Binds K fd ["self"] [] ∧ FnOk P w K mg base CX0 1 g fd ["self"] (spBegin K C)
  ways : ∃ g fd, Meth K C "ways" g ∧ Binds K fd ["self"] [] ∧ FnOk P w K mg base CX0 1 g fd ["self"] (spListS K C fun d => keysL d.ls)
  places : ∃ g fd, Meth K C "places" g ∧ Binds K fd ["self"] [] ∧ FnOk P w K mg base CX0 1 g fd ["self"] (spListS K C fun d => d.ps)
  exits : ∃ g fd, Meth K C "exits" g ∧ Binds K fd ["self"] [] ∧ FnOk P w K mg base CX0 1 g fd ["self"] (spListS K C fun d => d.fs)
  get : ∃ g fd, PySem.W.findIn K (.ref C) "__getitem__" = some (some (.ref g)) ∧ PySem.W.isFn K (.ref g) = true ∧ PySem.W.fnIn K g = true ∧ Binds K fd ["self", "at"] [] ∧ FnOk P w K mg base CX0 2 g fd ["self", "at"] (spGet K C)
  has : ∃ g fd, PySem.W.findIn K (.ref C) "__contains__" = some (some (.ref g)) ∧ PySem.W.isFn K (.ref g) = true ∧ Binds K fd ["self", "x"] [] ∧ FnOk P w K mg base CX0 2 g fd ["self", "x"] (spHas K C)
  len : ∃ g fd, PySem.W.findIn K (.ref C) "__len__" = some (some (.ref g)) ∧ PySem.W.isFn K (.ref g) = true ∧ Binds K fd ["self"] [] ∧ FnOk P w K mg base CX0 1 g fd ["self"] (spMLen K C)
  eq : ∃ g fd, PySem.W.findIn K (.ref C) "__eq__" = some (some (.ref g)) ∧ PySem.W.isFn K (.ref g) = true ∧ Binds K fd ["self", "other"] [] ∧ FnOk P w K mg base CX0 1 g fd ["self", "other"] (spEqP K C)
  leaving : ∃ g fd, Meth K C "leaving" g ∧ Binds K fd ["self", "place"] [] ∧ FnOk P w K mg base CX0 2 g fd ["self", "place"] (spLv K C lvOf)
  entering : ∃ g fd, Meth K C "entering" g ∧ Binds K fd ["self", "place"] [] ∧ FnOk P w K mg base CX0 2 g fd ["self", "place"] (spLv K C etOf)
  make : ∃ g fd, Mk K C g ∧ Binds K fd ["self", "ways", "begin", "exits"] [] ∧ FnOk P w K mg base CX0 4 g fd ["self", "ways", "begin", "exits"] (spInit K C)
  nfC : PySem.W.notFirst K C (.ref C) = true
  nfI : PySem.W.notFirst K C (.type "int") = true
  isI : PySem.W.kitOne K (.type "int") (.ref C) = some false
theorem ProgAt.lock {K : PySem.W.Frag} {C : Addr} {H : Hp} {x dx L S F dp : Addr} {d : PD} {kvs : List (Key × V)} {od : Obj} (h : ProgAt K C H x dx L S F d) (hd : H dp = some (.dK kvs)) (ne : L ≠ dp) : ProgAt K C (upd H dp (.frz od (.dK kvs))) x dx L S F d := by
  obtain ⟨i, ⟨k2, l, lk⟩, p, f⟩ := h
  refine ⟨?_, ⟨k2, ?_, Lks.lock lk hd⟩, ?_, ?_⟩
  · rw [upd_ne (ne_of i hd (by intro z; cases z))]; exact i
  · rw [upd_ne ne]; exact l
  · rw [upd_ne (ne_of p hd (by intro z; cases z))]; exact p
  · rw [upd_ne (ne_of f hd (by intro z; cases z))]; exact f
theorem PrgAt.lockL {K : PySem.W.Frag} {H H' : Hp} {r dp ex : Addr} {ls : List Lk} {b : Str} {es : List Str} {od : Obj} {kvs : List (Key × V)} (h : PrgAt K H r dp ex ls b es) (hd : H dp = some (.dK kvs)) (lk : Lks K H kvs ls) (nk : (keysL ls).Nodup) (s : Same (upd H dp (.frz od (.dK kvs))) H') {l : Lk} (m : l ∈ ls) :
    DGet H' r (.str "ways") (some (.ref dp)) ∧ ∃ t, DGet H' dp (.str l.1) (some (.ref t)) ∧ SqT K H' t [.str l.2.1, .str l.2.2] := by
  refine ⟨get_waysL h s, ?_⟩
  obtain ⟨t, h1, h2⟩ := lks_val (Lks.lock (od := od) lk hd) (key_mem m)
  rw [lkp_of nk m] at h2
  refine ⟨t, ?_, sqT_same h2 s⟩
  rw [← h1]
  exact .inl ⟨kvs, Sum.inr l.1, .inr ⟨od, s _ _ upd_same⟩, rfl, rfl⟩
section
variable {P : Program} {w : World} {K : PySem.W.Frag} {mg : Str → Option Value} {base : Heap}
abbrev nsRight : List Str := ["made", "prog", "way", "place", "entering"]
theorem scRight : FnScope nsRight ["made", "prog"] (defScope sRight) := ⟨rfl, rfl, rfl, by decide +kernel, rfl, by decide +kernel, by decide +kernel⟩
def spRight (K : PySem.W.Frag) (C : Addr) : Sp := fun vs H Q _ => ∃ (x dx L S F r dp ex : Addr) (pls : List Str) (ls : List Lk) (b : Str) (es : List Str), vs = [.ref x, .ref r] ∧ ProgAt K C H x dx L S F (pdOf ls b es) ∧ PrgAt K H r dp ex ls b es ∧ Drawn pls ls es ∧ L ≠ dp ∧ ∀ H', Same H H' → Q (.bl true) H'
theorem ok_right {f C fP fL : Addr} {fd fdP fdL : FuncData} (Fn : Fun K "_law_right" "_law_right" sRight f fd) (T : PT0 mg) (M : PMs P w K mg base C)
    (FP : Fun K "_law_places" "_law_places" sLPlaces fP fdP) (bP : Binds K fdP ["prog"] []) (gP : mg "_law_places" = some (.ref fP)) (GP : FnOk P w K mg base CX0 1 fP fdP ["prog"] (spLP K))
    (FL : Fun K "_law_leaving" "_law_leaving" sLLeaving fL fdL) (bL : Binds K fdL ["prog", "place"] []) (gL : mg "_law_leaving" = some (.ref fL)) (GL : FnOk P w K mg base CX0 1 fL fdL ["prog", "place"] (spLL K)) : FnOk P w K mg base CX0 4 f fd ["made", "prog"] (spRight K C) := by
  refine Fn.ok scRight (fun vs H Q E h => ?_) (fun cdv A outer s H vs Q E hr h => ?_)
  · obtain ⟨x, dx, L, S, F, r, dp, ex, pls, ls, b, es, rfl, _⟩ := h
    rfl
  · obtain ⟨x, dx, L, S, F, r, dp, ex, pls, ls, b, es, rfl, hp, h, D, nLd, k⟩ := h
    have hu := hu_of hr
    have hr1 : Room 1 _ := hr.mono (by decide)
    have hr2 : Room 2 _ := hr.mono (by decide)
    have nd := scRight.nd
    obtain ⟨kvs, hd, lk⟩ := h.hw
    obtain ⟨pB, gB, fdB, oB, bB, GB⟩ := M.begin
    obtain ⟨gWs, fdWs, mWs, bWs, GWs⟩ := M.ways
    obtain ⟨gPl, fdPl, mPl, bPl, GPl⟩ := M.places
    obtain ⟨gEx, fdEx, mEx, bEx, GEx⟩ := M.exits
    obtain ⟨gG, fdG, fG, iG, nG, bG, GG⟩ := M.get
    obtain ⟨gH, fdH, fH, iH, bH, GH⟩ := M.has
    obtain ⟨gN, fdN, fN, iN, bN, GN⟩ := M.len
    obtain ⟨gLv, fdLv, mLv, bLv, GLv⟩ := M.leaving
    obtain ⟨gEt, fdEt, mEt, bEt, GEt⟩ := M.entering
    refine ⟨_, pss_cons (ps_if (PW.pt (pw_or (pt_cmpR op_ne (pe_prop (pv 0) M.cl.cl oB GB hr2 bB .nil pass0 rfl) (pe_dget hu (pv 1) pe_str (fun _ _ => rfl)) (nomark _))
        (pw_or1 (pt_cmpR (OW.op_neTx hr.units) (pe_meth0 (pv 0) M.cl.cl mWs GWs hr1 bWs .nil pass0) (pe_callB (call_sortedD rfl) (by rfl) T.sorted PyProof.Rows.boot_sorted (pa_cons (pe_dget hu (pv 1) pe_str (fun _ _ => rfl)) pa_nil)) (nomark _))))) (pss_one (ps_ret pe_bl)) pss_nil)
      (pss_cons (ps_if (pt_cmpR (OW.op_neTx hr.units) (pe_meth0 (pv 0) M.cl.cl mEx GEx hr1 bEx .nil pass0) (pe_callB cr_sortedS (by rfl) T.sorted PyProof.Rows.boot_sorted (pa_cons (pe_dget hu (pv 1) pe_str (fun _ _ => rfl)) pa_nil)) (nomark _)) (pss_one (ps_ret pe_bl)) pss_nil)
      (pss_cons (ps_if (PW.pt (pw_or (pt_cmpR (OW.op_neTx hr.units) (pe_meth0 (pv 0) M.cl.cl mPl GPl hr1 bPl .nil pass0) (pe_call GP hr1 (by rfl) gP FP.kp bP .nil pass0 (pa_cons (pv 1) pa_nil)) (nomark _))
        (pw_or1 (pt_cmpR op_ne (pe_callB (OW.cr_ownLen (C := C) GN bN pass0 hr2 fN iN) (by rfl) T.len PySem.boot_len (pa_cons (pv 0) pa_nil)) (pe_callB call_lenD (by rfl) T.len PySem.boot_len (pa_cons (pe_dget hu (pv 1) pe_str (fun _ _ => rfl)) pa_nil)) (nomark _))))) (pss_one (ps_ret pe_bl)) pss_nil)
      (pss_cons (ps_lock (ps_for PassesOwn.never rfl (pi_keys (pe_dget hu (pv 1) pe_str (fun _ _ => rfl))) (pg_name (i := 2) nd rfl (Or.inl rfl))
        (pss_one (ps_if (PW.pt (pw_or (pt_cmpR (OW.op_neTt hr.units) (OW.pe_ownIx (C := C) GG bG pass0 hr fG iG nG (pv 0) (pv 2)) (pe_dget hu (pe_dget hu (pv 1) pe_str (fun _ _ => rfl)) (pv 2) (fun _ _ => rfl)) (nomark _))
          (pw_or1 (pt_cmpR (OW.op_ownNotIn (C := C) GH bH pass0 hr2 fH iH) (pv 2) (pv 0) rfl)))) (pss_one (ps_ret pe_bl)) pss_nil))))
      (pss_cons (ps_for PassesOwn.never rfl (pi_list (pe_call GP hr1 (by rfl) gP FP.kp bP .nil pass0 (pa_cons (pv 1) pa_nil))) (pg_name (i := 3) nd rfl (Or.inr rfl))
        (pss_cons (ps_setLc (i := 4) (own := [("way", 2)]) (g := gName 2) (tt := tTest (tOp rEq (tOp (rIxT K) (tDGet (tDGet (tVar 1) (tC (V.str "ways"))) (tVar 2)) (tC (V.int 1))) (tVar 3))) rfl nd rfl rfl (sw_true rfl rfl rfl (by decide +kernel)) (pi_list (pe_callB (call_sortedD rfl) (by rfl) T.sorted PyProof.Rows.boot_sorted (pa_cons (pe_dget hu (pv 1) pe_str (fun _ _ => rfl)) pa_nil))) (blkOk_by (own := [("way", 2)]) (N := nsRight) (sc := defScope sRight) (by decide +kernel))
          (fun _ _ _ _ _ => pg_name (i := 2) nd rfl (Or.inl rfl)) (fun _ _ _ _ _ => pts_one (pt_cmpR op_eq (pe_ix (show IxR _ (rIxT K) from ix_tup) (pe_dget hu (pe_dget hu (pv 1) pe_str (fun _ _ => rfl)) (pv 2) (fun _ _ => rfl)) pe_int (fun _ _ => rfl)) (pv 3) (nomark _))) (fun _ _ _ _ _ => pv 2))
        (pss_one (ps_if (PW.pt (pw_or (pt_cmpR (OW.op_neTx hr.units) (pe_meth (pv 0) M.cl.cl mLv GLv hr2 bLv .nil pass0 (pa_cons (pv 3) pa_nil)) (pe_call GL hr1 (by rfl) gL FL.kp bL .nil pass0 (pa_cons (pv 1) (pa_cons (pv 3) pa_nil))) (nomark _))
          (pw_or1 (pt_cmpR (OW.op_neTx hr.units) (pe_meth (pv 0) M.cl.cl mEt GEt hr2 bEt .nil pass0 (pa_cons (pv 3) pa_nil)) (pv 4) (nomark _))))) (pss_one (ps_ret pe_bl)) pss_nil))))
      (pss_one (ps_ret pe_bl)))))), ?_⟩
    have kl : (keysL ls).length = ls.length := List.length_map _
    have n12 := D.l2
    have okK : OW.TxOkk (srt (keysL ls)) := fun y hy => lay_word (menus_ok.2.2.2 y (D.km y (srt_mem.mp hy)))
    have okP : OW.TxOkk (plc ls) := fun y hy => lay_word (word_of D.okw ((D.ends y).mp (plc_mem.mp hy)))
    have okE : OW.TxOkk (srt es) := fun y hy => lay_word (word_of D.okw (D.ex1 y (srt_mem.mp hy)))
    have nots : ∀ (xs : List Str), (!decide (xs = xs)) = false := fun xs => by rw [decide_eq_true rfl]; rfl
    -- begin and ways
    refine ⟨_, rfl, x, dx, _, rfl, hp.ins, x, dx, L, S, F, _, rfl, hp, _, rfl, r, _, rfl, get_begin h, rfl, _, rfl, LH.iteNS' (by show (!decide (V.str b = V.str b)) = false; rw [decide_eq_true rfl]; rfl) ?_⟩
    refine ⟨_, rfl, x, dx, _, rfl, hp.ins, rfl, x, dx, L, S, F, _, rfl, hp, fun p1 H1 np1 s1 hp1 => ?_⟩
    have e1 : keysL (pdOf ls b es).ls = srt (keysL ls) := srtL_keys ls
    replace hp1 : H1 p1 = some (.lst ((keysL (pdOf ls b es).ls).map V.str)) := hp1
    rw [e1] at hp1
    refine ⟨_, rfl, r, _, rfl, get_ways (h.same s1), dp, kvs, keysL ls, rfl, .inl (s1 _ _ hd), lks_keys lk, by omega, fun ys p2 perm sr np2 => ?_⟩
    obtain rfl := srt_of perm sr
    have s2 := s1.trans (sm (o := .lst ((srt (keysL ls)).map V.str)) np2)
    refine ⟨p1, p2, _, _, rfl, rfl, SqL.of (sm np2 _ _ hp1), SqL.of upd_same, okK, okK, _, rfl, LH.iteNS' (nots _) ?_⟩
    show tSeq _ _ _ _ (upd H1 p2 (.lst ((srt (keysL ls)).map V.str)))
    generalize upd H1 p2 (.lst ((srt (keysL ls)).map V.str)) = H2 at s2
    -- exits
    refine ⟨_, rfl, x, dx, _, rfl, (hp.same s2).ins, rfl, x, dx, L, S, F, _, rfl, hp.same s2, fun p3 H3 np3 s3 hp3 => ?_⟩
    have s03 := s2.trans s3
    have e64 : es.length < 64 := by
      have z := nodup_le D.exn D.ex1
      have := D.n7
      omega
    refine ⟨_, rfl, r, _, rfl, get_exits (h.same s03), ex, es, rfl, SqL.of (s03 _ _ h.he), e64, fun ys p4 perm sr np4 => ?_⟩
    obtain rfl := srt_of perm sr
    have s04 := s03.trans (sm (o := .lst ((srt es).map V.str)) np4)
    refine ⟨p3, p4, _, _, rfl, rfl, SqL.of (sm np4 _ _ hp3), SqL.of upd_same, okE, okE, _, rfl, LH.iteNS' (nots _) ?_⟩
    show tSeq _ _ _ _ (upd H3 p4 (.lst ((srt es).map V.str)))
    generalize upd H3 p4 (.lst ((srt es).map V.str)) = H4 at s04
    -- places, len
    refine ⟨_, rfl, x, dx, _, rfl, (hp.same s04).ins, rfl, x, dx, L, S, F, _, rfl, hp.same s04, fun p5 H5 np5 s5 hp5 => ?_⟩
    have s05 := s04.trans s5
    refine ⟨_, rfl, r, dp, ex, pls, ls, b, es, rfl, h.same s05, D, fun H6 p6 s6 np6 hp6 => ?_⟩
    have s06 := s05.trans s6
    refine ⟨p5, p6, _, _, rfl, rfl, SqL.of (s6 _ _ hp5), SqL.of hp6, okP, okP, _, rfl, LH.iteNS' (nots _) ?_⟩
    refine ⟨_, rfl, x, dx, _, rfl, (hp.same s06).ins, x, dx, L, S, F, _, rfl, hp.same s06, _, rfl, ?_, _, rfl, r, _, rfl, get_ways (h.same s06), dp, kvs, rfl, s06 _ _ hd, rfl, _, rfl, LH.iteNS' ?_ ?_⟩
    · show (srtL ls).length < 2 ^ 62
      rw [srtL_len]
      omega
    · have e2 : V.int (((pdOf ls b es).ls.length : Nat) : Int) = V.int ((kvs.length : Nat) : Int) := by
        show V.int (((srtL ls).length : Nat) : Int) = _
        rw [srtL_len, Paired.length lk]
      rw [decide_eq_true e2]
      rfl
    -- item reading, in
    have lkn : kvs.length = ls.length := Paired.length lk
    have hd6 := s06 _ _ hd
    have lk6 := lk.same s06
    have h6 := h.same s06
    have pr6 := hp.same s06
    refine ⟨dp, .dK kvs, hd6, trivial, fun od => ⟨_, rfl, r, _, rfl, get_waysL h6 (Same.refl _), dp, od, rfl, .inl ⟨kvs, upd_same, for_it walk_keys (fun i σ H' => ∃ v2 : Option V, σ = [some (.ref x), some (.ref r), v2, none, none] ∧ Same (upd H6 dp (.frz od (.dK kvs))) H') ⟨none, rfl, Same.refl _⟩ (fun i σ H' _ ⟨_, _, z⟩ => z _ _ upd_same) ?_ ?_⟩⟩⟩
    · rintro i v σ H7 H8 hi ⟨v2, rfl, s7⟩ ⟨rfl, kk, vv, ekv, rfl⟩
      obtain ⟨l, hl, e1, _⟩ := lks_at lk6 ekv
      have e1' : kk = Sum.inr l.1 := e1
      subst e1'
      have ml : l ∈ ls := List.mem_of_getElem? hl
      have pr7 : ProgAt K C H8 x dx L S F (pdOf ls b es) := (ProgAt.lock pr6 hd6 nLd).same s7
      obtain ⟨g1, t, g2, g3⟩ := PrgAt.lockL h6 hd6 lk6 D.kn s7 ml
      have mw : l.1 ∈ keysL (pdOf ls b es).ls := by rw [show keysL (pdOf ls b es).ls = srt (keysL ls) from srtL_keys ls]; exact srt_mem.mpr (key_mem ml)
      have ew : lkp (pdOf ls b es).ls l.1 = l.2 := (srtL_lkp D.kn (key_mem ml)).trans (lkp_of D.kn ml)
      refine ⟨_, rfl, _, rfl, x, dx, _, rfl, pr7.ins, x, dx, L, S, F, _, l.1, rfl, pr7, mw, fun t2 ht2 => ?_⟩
      rw [ew] at ht2
      have okL : OW.TxOkk [l.2.1, l.2.2] := fun y hy => by
        rcases List.mem_cons.mp hy with z | z
        · rw [z]; exact lay_word (word_of D.okw (D.t3 l ml).1)
        · rw [List.mem_singleton.mp z]; exact lay_word (word_of D.okw (D.t3 l ml).2)
      refine ⟨_, rfl, r, _, rfl, g1, _, rfl, dp, .ref t, rfl, g2, t2, t, [l.2.1, l.2.2], [l.2.1, l.2.2], rfl, rfl, ht2, g3, okL, okL, _, rfl, LH.iteNS' (nots _) ?_⟩
      refine ⟨_, rfl, _, rfl, x, dx, _, rfl, pr7.ins, x, dx, L, S, F, _, .str l.1, rfl, pr7, .inl ⟨l.1, rfl, _, rfl, _, rfl, LH.iteNS' (by rw [decide_eq_true mw]; rfl) ⟨_, rfl, s7⟩⟩⟩
    · rintro σ H7 ⟨v2, rfl, s7⟩
      have s67 : Same H6 (upd H7 dp (.dK kvs)) := unlock hd6 s7
      refine ⟨s7 _ _ upd_same, ?_⟩
      have s07 := s06.trans s67
      generalize upd H7 dp (.dK kvs) = H9 at s07
      refine ⟨_, rfl, r, dp, ex, pls, ls, b, es, rfl, h.same s07, D, fun Ha pa sa npa hpa => ?_⟩
      have s0a := s07.trans sa
      refine ⟨pa, rfl, ⟨_, SqL.of hpa⟩, for_it walk_list (fun i σ H' => ∃ v3 v4 : Option V, σ = [some (.ref x), some (.ref r), v2, v3, v4] ∧ Same Ha H') ⟨none, none, rfl, Same.refl _⟩ (fun i σ H' _ ⟨_, _, _, z⟩ => SqL.of (z _ _ hpa)) ?_ ?_⟩
      · rintro i v σ Hb Hc hi ⟨v3, v4, rfl, sb⟩ ⟨rfl, ev⟩
        obtain ⟨pl, hpl, rfl⟩ : ∃ pl, (plc ls)[i]? = some pl ∧ v = .str pl := by
          rw [List.getElem?_map] at ev
          cases e : (plc ls)[i]? with
          | none => rw [e] at ev; cases ev
          | some pl => rw [e] at ev; exact ⟨pl, rfl, (Option.some.inj ev).symm⟩
        have mpl : pl ∈ plc ls := List.mem_of_getElem? hpl
        have s0b := s0a.trans sb
        have okS : ∀ c : Str × Str → Bool, OW.TxOkk (selOf ls c) := fun c y hy => okK y (List.mem_filter.mp hy).1
        refine ⟨_, rfl, r, _, rfl, get_ways (h.same s0b), dp, kvs, keysL ls, rfl, .inl (s0b _ _ hd), lks_keys lk, by omega, fun ys p0 perm sr np0 => ?_⟩
        obtain rfl := srt_of perm sr
        have s0c := s0b.trans (sm (o := .lst ((srt (keysL ls)).map V.str)) np0)
        have sac := sb.trans (sm (o := .lst ((srt (keysL ls)).map V.str)) np0)
        have hp0 : (upd Hc p0 (.lst ((srt (keysL ls)).map V.str))) p0 = some (.lst ((srt (keysL ls)).map V.str)) := upd_same
        generalize upd Hc p0 (.lst ((srt (keysL ls)).map V.str)) = Hd at s0c sac hp0
        have hdd := s0c _ _ hd
        have lkd := lk.same s0c
        refine ⟨p0, rfl, ⟨_, SqL.of hp0⟩, fun B nB => lc_keep walk_list nB (fun i => (((srt (keysL ls)).take i).filter fun x => decide ((lkp ls x).2 = pl)).map V.str) rfl (fun i _ => ?_) (fun H' s' => SqL.of (s' _ _ hp0)) ?_ ?_⟩
        · rw [List.length_map]
          refine Nat.le_trans (List.length_filter_le _ _) (Nat.le_trans (List.length_take_le' i _) ?_)
          rw [srt_len]
          omega
        · rintro i v H1' H2' Pn hi s1' ⟨rfl, ev⟩ fin skip
          obtain ⟨xw, hx, rfl⟩ : ∃ xw, (srt (keysL ls))[i]? = some xw ∧ v = .str xw := by
            rw [List.getElem?_map] at ev
            cases e : (srt (keysL ls))[i]? with
            | none => rw [e] at ev; cases ev
            | some xw => rw [e] at ev; exact ⟨xw, rfl, (Option.some.inj ev).symm⟩
          have m : xw ∈ keysL ls := srt_mem.mp (List.mem_of_getElem? hx)
          obtain ⟨t, hv, ht⟩ := lks_val lkd m
          have hg : DGet H2' dp (.str xw) (some (.ref t)) := by
            rw [← hv]
            exact .inl ⟨kvs, Sum.inr xw, .inl (s1' _ _ hdd), rfl, rfl⟩
          have sn := filt_snoc (fun x => decide ((lkp ls x).2 = pl)) hx
          refine ⟨rfl, _, rfl, r, _, rfl, get_ways ((h.same s0c).same s1'), _, rfl, dp, .ref t, rfl, hg, t, _, _, _, rfl, rfl, sqT_same ht s1', atI_nat (j := 1) rfl, _, rfl, rfl, _, rfl, iteB (fun c => ?_) (fun c => ?_)⟩
          · have e : (lkp ls xw).2 = pl := by have z := of_decide_eq_true c; injection z
            refine ⟨_, rfl, fin H2' _ (Same.refl _) ?_⟩
            rw [sn, if_pos (decide_eq_true e)]
          · have e : ¬ (lkp ls xw).2 = pl := fun z => by rw [z, decide_eq_true rfl] at c; cases c
            refine skip H2' (Same.refl _) ?_
            rw [sn, if_neg (by rw [decide_eq_false e]; exact Bool.false_ne_true), List.append_nil]
        · intro He se hB
          rw [List.length_map, List.take_length] at hB
          have s0e := s0c.trans se
          have pre := hp.same s0e
          have l40 : (pdOf ls b es).ls.length ≤ 40 := by
            show (srtL ls).length ≤ 40
            rw [srtL_len]
            omega
          refine ⟨_, rfl, x, dx, _, rfl, pre.ins, rfl, _, rfl, x, dx, L, S, F, _, pl, rfl, pre, mpl, srtL_nodup D.kn, l40, fun r1 Hf nr1 sf hf => ?_⟩
          have s0f := s0e.trans sf
          refine ⟨_, rfl, _, rfl, r, dp, ex, ls, b, es, pl, rfl, h.same s0f, by omega, fun Hg r2 sg nr2 hg => ?_⟩
          have s0g := s0f.trans sg
          have e2 : lvOf (pdOf ls b es).ls pl = selOf ls fun q => decide (q.1 = pl) := sel_eq ls fun q => decide (q.1 = pl)
          have e3 : etOf (pdOf ls b es).ls pl = selOf ls fun q => decide (q.2 = pl) := sel_eq ls fun q => decide (q.2 = pl)
          rw [e2] at hf
          refine ⟨r1, r2, _, _, rfl, rfl, SqL.of (sg _ _ hf), SqL.of hg, okS _, okS _, _, rfl, LH.iteNS' (nots _) ?_⟩
          have prg := hp.same s0g
          refine ⟨_, rfl, x, dx, _, rfl, prg.ins, rfl, _, rfl, x, dx, L, S, F, _, pl, rfl, prg, mpl, srtL_nodup D.kn, l40, fun r3 Hh nr3 sh hh => ?_⟩
          rw [e3] at hh
          have hB2 : Hh B = some (.lst ((selOf ls fun q => decide (q.2 = pl)).map V.str)) := sh _ _ (sg _ _ (sf _ _ hB))
          refine ⟨_, rfl, r3, B, _, _, rfl, rfl, SqL.of hh, SqL.of hB2, okS _, okS _, _, rfl, LH.iteNS' (nots _) ?_⟩
          exact ⟨_, _, rfl, sac.trans (se.trans (sf.trans (sg.trans sh)))⟩
      · rintro σ Hb ⟨v3, v4, rfl, sb⟩
        exact k Hb (s0a.trans sb)
end
end LW


set_option Elab.async false
set_option linter.all false
set_option maxRecDepth 100000
set_option maxHeartbeats 4000000
/-! k01: programs put otherwise, in plain mathematics. -/
namespace LW
open PySem L2 PG
open LH hiding sm top
theorem hits_miss {lb : List Lk} : ∀ {la : List Lk} {l : Lk}, l ∈ la → l.1 ∉ keysL lb → OW.hitsL lb la = false
  | [], _, h, _ => nomatch h
  | a :: r, l, h, n => by
    unfold OW.hitsL
    by_cases m : a.1 ∈ keysL lb
    · rw [if_pos m]
      rcases List.mem_cons.mp h with z | z
      · rw [z] at n; exact absurd m n
      · rw [hits_miss z n, Bool.and_false]
    · rw [if_neg m]
theorem hits_all {lb : List Lk} : ∀ {la : List Lk}, (∀ l ∈ la, l ∈ lb) → (keysL lb).Nodup → OW.hitsL lb la = true
  | [], _, _ => rfl
  | a :: r, h, n => by
    have ha := h a List.mem_cons_self
    unfold OW.hitsL
    rw [if_pos (key_mem ha), lkp_of n ha, decide_eq_true rfl, hits_all (fun l hl => h l (List.mem_cons_of_mem _ hl)) n]
    rfl
/-- the same ways under the same pairs -/
theorem good_pairs {ls ls' : List Lk} {b : Str} {es : List Str} (g : GoodP ls b es) (hp : ∀ pr, pr ∈ ls'.map (·.2) ↔ pr ∈ ls.map (·.2)) (n1 : 1 ≤ ls'.length) (n2 : ls'.length ≤ 40) (nd : (keysL ls').Nodup) (wk : ∀ x ∈ keysL ls', isWord x = true) : GoodP ls' b es := by
  have he : ∀ x, x ∈ ends ls' ↔ x ∈ ends ls := fun x => by
    rw [ends_mem, ends_mem]
    constructor
    · rintro ⟨l, hl, q⟩
      obtain ⟨l2, h2, e⟩ := List.mem_map.mp ((hp l.2).mp (List.mem_map.mpr ⟨l, hl, rfl⟩))
      exact ⟨l2, h2, by rw [e]; exact q⟩
    · rintro ⟨l, hl, q⟩
      obtain ⟨l2, h2, e⟩ := List.mem_map.mp ((hp l.2).mpr (List.mem_map.mpr ⟨l, hl, rfl⟩))
      exact ⟨l2, h2, by rw [e]; exact q⟩
  have hpl : plc ls' = plc ls := by
    unfold plc
    refine srt_same (insAll_nd List.nodup_nil) (insAll_nd List.nodup_nil) fun x => ?_
    rw [STX.insAll_mem, STX.insAll_mem, he]
  have hb : ∀ pr, pr ∈ (ls.map fun l => (l.2.2, l.2.1)) → pr ∈ (ls'.map fun l => (l.2.2, l.2.1)) := fun pr h => by
    obtain ⟨l, hl, rfl⟩ := List.mem_map.mp h
    obtain ⟨l2, h2, e⟩ := List.mem_map.mp ((hp l.2).mpr (List.mem_map.mpr ⟨l, hl, rfl⟩))
    exact List.mem_map.mpr ⟨l2, h2, by rw [e]⟩
  exact {
    n1 := n1, n2 := n2, sm := by rw [hpl]; exact g.sm, nd := nd
    wd := fun l hl => by
      obtain ⟨l2, h2, e⟩ := List.mem_map.mp ((hp l.2).mp (List.mem_map.mpr ⟨l, hl, rfl⟩))
      have z := g.wd l2 h2
      rw [e] at z
      exact ⟨wk _ (key_mem hl), z.2⟩
    hb := (he b).mpr g.hb, he := g.he, hs := fun e h => (he e).mpr (g.hs e h), hn := g.hn
    reach := fun x hx => (g.reach x ((he x).mp hx)).mono (fun _ z => z) fun pr h => (hp pr).mpr h
    leave := fun x hx => (g.leave x ((he x).mp hx)).mono (fun _ z => z) hb }
/-! ### one way under another name -/
def ls1 (ls : List Lk) (wy : Str) : List Lk := (ls.filter fun l => !decide (l.1 = wy)) ++ [(("zzz" : Str), lkp ls wy)]
theorem zzz_no {ls : List Lk} (km : ∀ x ∈ keysL ls, x ∈ menuN) : (("zzz" : Str) ∈ keysL ls) → False := fun h => by
  have z := km _ h
  revert z
  decide +kernel
theorem keys_filter (ls : List Lk) (c : Str → Bool) : keysL (ls.filter fun l => c l.1) = (keysL ls).filter c := by
  unfold keysL
  rw [List.filter_map]
  rfl
theorem good1 {pls : List Str} {ls : List Lk} {es : List Str} (d : Drawn pls ls es) {b : Str} (hb : pls[0]? = some b) {wy : Str} (hw : wy ∈ keysL ls) : GoodP (ls1 ls wy) b es := by
  have kf := keys_filter ls (fun x => !decide (x = wy))
  have ek : keysL (ls1 ls wy) = ((keysL ls).filter fun x => !decide (x = wy)) ++ [("zzz" : Str)] := by
    unfold ls1
    rw [keysL_snoc, kf]
  refine good_pairs (d.good hb) (fun pr => ?_) ?_ ?_ ?_ ?_
  · unfold ls1
    rw [List.map_append, List.mem_append]
    constructor
    · rintro (h | h)
      · obtain ⟨l, hl, e⟩ := List.mem_map.mp h
        exact List.mem_map.mpr ⟨l, (List.mem_filter.mp hl).1, e⟩
      · rw [List.mem_singleton.mp h]
        exact List.mem_map.mpr ⟨_, lkp_mem hw, rfl⟩
    · intro h
      obtain ⟨l, hl, e⟩ := List.mem_map.mp h
      by_cases z : l.1 = wy
      · refine .inr (List.mem_singleton.mpr ?_)
        rw [← e, ← z, lkp_of d.kn hl]
      · exact .inl (List.mem_map.mpr ⟨l, List.mem_filter.mpr ⟨hl, by simpa using z⟩, e⟩)
  · unfold ls1
    rw [List.length_append]
    exact Nat.le_add_left _ _
  · unfold ls1
    rw [List.length_append]
    have z := List.length_filter_le (fun l : Lk => !decide (l.1 = wy)) ls
    have := d.l2
    show _ + 1 ≤ 40
    omega
  · rw [ek]
    refine List.nodup_append.mpr ⟨d.kn.sublist List.filter_sublist, List.nodup_cons.mpr ⟨List.not_mem_nil, List.nodup_nil⟩, fun a ha c hc e => ?_⟩
    rw [List.mem_singleton.mp hc] at e
    rw [e] at ha
    exact zzz_no d.km (List.mem_filter.mp ha).1
  · intro x hx
    rw [ek] at hx
    rcases List.mem_append.mp hx with z | z
    · exact menus_ok.2.2.2 x (d.km x (List.mem_filter.mp z).1)
    · rw [List.mem_singleton.mp z]
      decide +kernel
theorem eqPD_links {d e : PD} (h : OW.hitsL e.ls d.ls = false) : eqPD d e = false := by
  unfold eqPD
  rw [h, Bool.and_false, Bool.false_and]
theorem unlike1 {pls : List Str} {ls : List Lk} {es : List Str} (d : Drawn pls ls es) {b : Str} (hb : pls[0]? = some b) {wy : Str} (hw : wy ∈ keysL ls) : eqPD (pdOf (ls1 ls wy) b es) (pdOf ls b es) = false ∧ eqPD (pdOf ls b es) (pdOf (ls1 ls wy) b es) = false := by
  have g := good1 d hb hw
  constructor
  · refine eqPD_links (hits_miss (l := ("zzz", lkp ls wy)) ((srtL_mem g.nd).mpr (by unfold ls1; exact List.mem_append_right _ List.mem_cons_self)) ?_)
    show ("zzz" : Str) ∉ keysL (srtL ls)
    rw [srtL_keys]
    exact fun z => zzz_no d.km (srt_mem.mp z)
  · refine eqPD_links (hits_miss (l := (wy, lkp ls wy)) ((srtL_mem d.kn).mpr (lkp_mem hw)) ?_)
    show wy ∉ keysL (srtL (ls1 ls wy))
    rw [srtL_keys]
    intro z
    have z := srt_mem.mp z
    have kf := keys_filter ls (fun x => !decide (x = wy))
    unfold ls1 at z
    rw [keysL_snoc, kf] at z
    rcases List.mem_append.mp z with q | q
    · have := (List.mem_filter.mp q).2
      simp at this
    · have e : wy = "zzz" := List.mem_singleton.mp q
      rw [e] at hw
      exact zzz_no d.km hw
/-! ### ways back to the begin -/
def backN (i : Nat) : Str := ["za", "zb", "zc", "zd", "ze", "zf"].getD i "za"
def backs (ps : List Str) (b : Str) (i : Nat) : List Lk := (List.range i).map fun j => (backN j, ps.getD j Str.empty, b)
def ls2 (ls : List Lk) (b : Str) (i : Nat) : List Lk := ls ++ backs (plc ls) b i
theorem backN_ok : (∀ i < 6, isWord (backN i) = true ∧ backN i ∉ menuN) ∧ (∀ i < 6, ∀ j < 6, backN i = backN j → i = j) := by decide +kernel
theorem backs_snoc (ps : List Str) (b : Str) (i : Nat) : backs ps b (i + 1) = backs ps b i ++ [(backN i, ps.getD i Str.empty, b)] := by
  unfold backs
  rw [List.range_succ, List.map_append]
  rfl
theorem backs_keys (ps : List Str) (b : Str) (i : Nat) : keysL (backs ps b i) = (List.range i).map backN := by
  unfold backs keysL
  rw [List.map_map]
  rfl
theorem nd2 {ls : List Lk} (kn : (keysL ls).Nodup) (km : ∀ x ∈ keysL ls, x ∈ menuN) {b : Str} {i : Nat} (hi : i ≤ 6) : (keysL (ls2 ls b i)).Nodup := by
  unfold ls2
  have e : keysL (ls ++ backs (plc ls) b i) = keysL ls ++ (List.range i).map backN := by
    rw [← backs_keys (plc ls) b i]
    exact List.map_append
  rw [e]
  refine List.nodup_append.mpr ⟨kn, ?_, fun a ha c hc q => ?_⟩
  · have z : ∀ k, k ≤ 6 → ((List.range k).map backN).Nodup := by decide +kernel
    exact z i hi
  · obtain ⟨j, hj, rfl⟩ := List.mem_map.mp hc
    rw [List.mem_range] at hj
    rw [q] at ha
    exact (backN_ok.1 j (by omega)).2 (km _ ha)
theorem getD_mem {ps : List Str} {j : Nat} (h : j < ps.length) : ps.getD j Str.empty ∈ ps := by
  rw [List.getD_eq_getElem?_getD, List.getElem?_eq_getElem h]
  exact List.getElem_mem h
theorem good2 {pls : List Str} {ls : List Lk} {es : List Str} (d : Drawn pls ls es) {b : Str} (hb : pls[0]? = some b) (h6 : pls.length ≤ 6) {c : Str} (hc : c ∈ pls) : GoodP (ls2 ls b (plc ls).length) c es := by
  have g := d.good hb
  have p6 : (plc ls).length ≤ 6 := by
    have z := nodup_le (plc_nodup ls) fun x hx => (d.ends x).mp (plc_mem.mp hx)
    omega
  have mb : b ∈ ends ls := g.hb
  have bk : ∀ l ∈ backs (plc ls) b (plc ls).length, ∃ j, j < (plc ls).length ∧ l = (backN j, (plc ls).getD j Str.empty, b) := fun l hl => by
    obtain ⟨j, hj, e⟩ := List.mem_map.mp hl
    exact ⟨j, List.mem_range.mp hj, e.symm⟩
  have he : ∀ x, x ∈ ends (ls2 ls b (plc ls).length) ↔ x ∈ ends ls := fun x => by
    constructor
    · intro h
      obtain ⟨l, hl, q⟩ := ends_mem.mp h
      rcases List.mem_append.mp hl with z | z
      · exact ends_mem.mpr ⟨l, z, q⟩
      · obtain ⟨j, hj, rfl⟩ := bk l z
        rcases q with q | q
        · rw [q]
          exact plc_mem.mp (getD_mem hj)
        · rw [q]
          exact mb
    · intro h
      obtain ⟨l, hl, q⟩ := ends_mem.mp h
      exact ends_mem.mpr ⟨l, List.mem_append_left _ hl, q⟩
  have hpl : plc (ls2 ls b (plc ls).length) = plc ls := by
    show srt _ = srt _
    refine srt_same (insAll_nd List.nodup_nil) (insAll_nd List.nodup_nil) fun x => ?_
    rw [STX.insAll_mem, STX.insAll_mem, he]
  have hcb : Rch [c] ((ls2 ls b (plc ls).length).map (·.2)) b := by
    have mc : c ∈ plc ls := plc_mem.mpr ((d.ends c).mpr hc)
    obtain ⟨j, hj, e⟩ := List.getElem_of_mem mc
    refine .step (x := c) (.base List.mem_cons_self) (List.mem_map.mpr ⟨(backN j, (plc ls).getD j Str.empty, b), List.mem_append_right _ (List.mem_map.mpr ⟨j, List.mem_range.mpr hj, rfl⟩), ?_⟩)
    show ((plc ls).getD j Str.empty, b) = (c, b)
    rw [List.getD_eq_getElem?_getD, List.getElem?_eq_getElem hj]
    exact congrArg (·, b) e
  exact {
    n1 := by
      show 1 ≤ (ls ++ _).length
      rw [List.length_append]
      have := d.l1
      omega
    n2 := by
      show (ls ++ backs _ _ _).length ≤ 40
      unfold backs
      rw [List.length_append, List.length_map, List.length_range]
      have := d.l2
      omega
    sm := by rw [hpl]; exact g.sm
    nd := nd2 d.kn d.km p6
    wd := fun l hl => by
      rcases List.mem_append.mp hl with z | z
      · exact g.wd l z
      · obtain ⟨j, hj, rfl⟩ := bk l z
        exact ⟨(backN_ok.1 j (by omega)).1, word_of d.okw ((d.ends _).mp (plc_mem.mp (getD_mem hj))), word_of d.okw ((d.ends _).mp mb)⟩
    hb := (he c).mpr ((d.ends c).mpr hc)
    he := g.he
    hs := fun e h => (he e).mpr (g.hs e h)
    hn := g.hn
    reach := fun x hx => by
      have r := g.reach x ((he x).mp hx)
      induction r with
      | base m => rw [List.mem_singleton.mp m]; exact hcb
      | step h m ih =>
        obtain ⟨l, hl, e⟩ := List.mem_map.mp m
        refine .step (ih ((he _).mpr (ends_mem.mpr ⟨l, hl, .inl ?_⟩))) (List.mem_map.mpr ⟨l, List.mem_append_left _ hl, e⟩)
        rw [e]
    leave := fun x hx => (g.leave x ((he x).mp hx)).mono (fun _ z => z) fun pr h => by
      obtain ⟨l, hl, e⟩ := List.mem_map.mp h
      exact List.mem_map.mpr ⟨l, List.mem_append_left _ hl, e⟩ }
theorem like2 {ls : List Lk} (n : (keysL ls).Nodup) (b c : Str) (es : List Str) : eqPD (pdOf ls b es) (pdOf ls c es) = decide (b = c) := by
  unfold eqPD pdOf
  dsimp only
  rw [decide_eq_true rfl, hits_all (fun _ z => z) (srtL_nodup n), decide_eq_true rfl, Bool.and_true, Bool.true_and, Bool.and_true]
/-! ### an exit more -/
theorem good3 {pls : List Str} {ls : List Lk} {es : List Str} (d : Drawn pls ls es) {b : Str} (hb : pls[0]? = some b) {x : Str} (hx : x ∈ plc ls) (nx : x ∉ es) : GoodP ls b (es ++ [x]) := by
  have g := d.good hb
  exact {
    n1 := g.n1, n2 := g.n2, sm := g.sm, nd := g.nd, wd := g.wd, hb := g.hb
    he := fun z => by
      have q := congrArg List.length z
      rw [List.length_append] at q
      cases q
    hs := fun e h => by
      rcases List.mem_append.mp h with z | z
      · exact g.hs e z
      · rw [List.mem_singleton.mp z]
        exact plc_mem.mp hx
    hn := List.nodup_append.mpr ⟨g.hn, List.nodup_cons.mpr ⟨List.not_mem_nil, List.nodup_nil⟩, fun a ha c hc e => by
      rw [List.mem_singleton.mp hc] at e
      exact nx (e ▸ ha)⟩
    reach := g.reach
    leave := fun y hy => (g.leave y hy).mono (fun z hz => List.mem_append_left _ hz) fun _ z => z }
theorem unlike3 (ls : List Lk) (b : Str) (es : List Str) (x : Str) : eqPD (pdOf ls b (es ++ [x])) (pdOf ls b es) = false ∧ eqPD (pdOf ls b es) (pdOf ls b (es ++ [x])) = false := by
  have n : srt (es ++ [x]) ≠ srt es := fun z => by
    have q := congrArg List.length z
    rw [srt_len, srt_len, List.length_append] at q
    have e : [x].length = 1 := rfl
    omega
  unfold eqPD pdOf
  dsimp only
  have n' : ¬ srt es = srt (es ++ [x]) := fun z => n z.symm
  refine ⟨?_, ?_⟩
  · rw [decide_eq_false n, Bool.and_false, Bool.and_false]
  · rw [decide_eq_false n', Bool.and_false, Bool.and_false]
end LW


set_option Elab.async false
set_option linter.all false
set_option maxRecDepth 100000
set_option maxHeartbeats 4000000
namespace LW
open PySem L2 PG
open LH hiding sm top
abbrev sUnlike : Stmt := LH.top 29
def PairT (K : PySem.W.Frag) (H : Hp) (v : V) (kv : Key × V) : Prop := ∃ T, v = .ref T ∧ SqT K H T [kV kv.1, kv.2]
theorem pairT_same {K : PySem.W.Frag} {H H' : Hp} {v : V} {kv : Key × V} (s : Same H H') (h : PairT K H v kv) : PairT K H' v kv := by
  obtain ⟨T, e, h⟩ := h
  exact ⟨T, e, sqT_same h s⟩
theorem pairT_lst {K : PySem.W.Frag} {H : Hp} {D : Addr} {xs ys : List V} {v : V} {kv : Key × V} (hD : H D = some (.lst xs)) (h : PairT K H v kv) : PairT K (upd H D (.lst ys)) v kv := by
  obtain ⟨T, e, h⟩ := h
  exact ⟨T, e, sqT_at h (.inr ⟨_, hD, (by intro l z; cases z), by intro od l z; cases z⟩)⟩
theorem pairT_frz {K : PySem.W.Frag} {H : Hp} {D : Addr} {od : Obj} {kvs : List (Key × V)} {o : HO} {v : V} {kv : Key × V} (hD : H D = some (.frz od (.dK kvs))) (h : PairT K H v kv) : PairT K (upd H D o) v kv := by
  obtain ⟨T, e, h⟩ := h
  exact ⟨T, e, sqT_at h (.inr ⟨_, hD, (by intro l z; cases z), by intro od l z; cases z⟩)⟩
theorem pairT_refs {K : PySem.W.Frag} {H : Hp} : ∀ {ts : List V} {kvs : List (Key × V)}, Paired (PairT K H) ts kvs → ∃ ps : List Addr, ts = ps.map V.ref ∧ Paired (fun p kv => SqT K H p [kV kv.1, kv.2]) ps kvs
  | _, _, .nil => ⟨[], rfl, .nil⟩
  | _, _, .cons ⟨T, e, h⟩ rs => by
    obtain ⟨ps, e2, h2⟩ := pairT_refs rs
    exact ⟨T :: ps, by rw [e, e2]; rfl, .cons h h2⟩
theorem valV_none {kvs : List (Key × V)} {k : Key} (h : k ∉ kvs.map (·.1)) : valV kvs k = none := by
  induction kvs with
  | nil => rfl
  | cons p r ih =>
    rw [List.map_cons, List.mem_cons, not_or] at h
    rw [valV_neg fun z => h.1 z.symm]
    exact ih h.2
theorem merge_app : ∀ (more acc : List (Key × V)), ((acc ++ more).map (·.1)).Nodup → mergeK acc more = acc ++ more
  | [], acc, _ => (List.append_nil acc).symm
  | p :: r, acc, h => by
    have e : acc ++ p :: r = (acc ++ [p]) ++ r := by rw [List.append_assoc]; rfl
    have n : p.1 ∉ acc.map (·.1) := fun m => by
      rw [List.map_append, List.map_cons] at h
      exact (List.nodup_append.mp h).2.2 _ m _ List.mem_cons_self rfl
    show mergeK (putK acc p.1 p.2) r = _
    rw [putK_new _ (valV_none n), e]
    refine merge_app r (acc ++ [(p.1, p.2)]) ?_
    rw [e] at h
    exact h
theorem inr_nodup {ws : List Str} (h : ws.Nodup) : (ws.map (Sum.inr : Str → Key)).Nodup := by
  induction ws with
  | nil => exact List.nodup_nil
  | cons a r ih =>
    obtain ⟨n1, n2⟩ := List.nodup_cons.mp h
    refine List.nodup_cons.mpr ⟨fun m => ?_, ih n2⟩
    obtain ⟨x, hx, e⟩ := List.mem_map.mp m
    exact n1 ((Sum.inr.inj e) ▸ hx)
theorem lks_nodup {K : PySem.W.Frag} {H : Hp} {kvs : List (Key × V)} {ls : List Lk} (h : Lks K H kvs ls) (n : (keysL ls).Nodup) : (kvs.map (·.1)).Nodup := by
  rw [lks_keys h]
  exact inr_nodup n
theorem merge_lks {K : PySem.W.Frag} {H : Hp} {kvs : List (Key × V)} {ls : List Lk} (h : Lks K H kvs ls) (n : (keysL ls).Nodup) : mergeK [] kvs = kvs := by
  have z := merge_app kvs [] (by rw [List.nil_append]; exact lks_nodup h n)
  rw [List.nil_append] at z
  exact z
/-- some of the links -/
theorem lks_filter {K : PySem.W.Frag} {H : Hp} (c : Str → Bool) : ∀ {kvs : List (Key × V)} {ls : List Lk}, Lks K H kvs ls → Lks K H (kvs.filter fun kv => match kv.1 with | .inr x => c x | _ => false) (ls.filter fun l => c l.1)
  | _, _, .nil => .nil
  | _, _, .cons (a := kv) (b := l) ⟨e, h⟩ rs => by
    by_cases z : c l.1 = true
    · rw [List.filter_cons_of_pos (by rw [e]; exact z), List.filter_cons_of_pos (p := fun l : Lk => c l.1) z]
      exact .cons ⟨e, h⟩ (lks_filter c rs)
    · rw [List.filter_cons_of_neg (by rw [e]; exact z), List.filter_cons_of_neg (p := fun l : Lk => c l.1) z]
      exact lks_filter c rs
theorem kv_snoc {kvs : List (Key × V)} {i : Nat} {kv : Key × V} (c : Key × V → Bool) (h : kvs[i]? = some kv) : (kvs.take (i + 1)).filter c = (kvs.take i).filter c ++ (if c kv then [kv] else []) := by
  rw [List.take_add_one, h, List.filter_append]
  congr 1
  show List.filter c [kv] = _
  by_cases e : c kv = true
  · rw [List.filter_cons_of_pos e, if_pos e]
    rfl
  · rw [List.filter_cons_of_neg e, if_neg e]
    rfl
theorem valV_at : ∀ {kvs : List (Key × V)} {i : Nat} {k : Key} {v : V}, (kvs.map (·.1)).Nodup → kvs[i]? = some (k, v) → valV kvs k = some v
  | [], i, _, _, _, h => by simp at h
  | p :: r, 0, k, v, _, h => by
    have e : p = (k, v) := Option.some.inj h
    rw [valV_pos (by rw [e]), e]
  | p :: r, i + 1, k, v, n, h => by
    rw [List.map_cons] at n
    obtain ⟨n1, n2⟩ := List.nodup_cons.mp n
    have h2 : r[i]? = some (k, v) := by simpa using h
    rw [valV_neg fun e => n1 (by rw [e]; exact List.mem_map.mpr ⟨_, List.mem_of_getElem? h2, rfl⟩)]
    exact valV_at n2 h2
theorem pdok_of {ls : List Lk} {b : Str} {es : List Str} (g : GoodP ls b es) : PDok (pdOf ls b es) := by
  have we : ∀ x ∈ ends ls, isWord x = true := fun x hx => by
    obtain ⟨l, hl, q⟩ := ends_mem.mp hx
    obtain ⟨_, w1, w2⟩ := g.wd l hl
    rcases q with q | q
    · rw [q]; exact w1
    · rw [q]; exact w2
  refine ⟨fun x hx => lay_word (we x ?_), fun x hx => lay_word (we x (g.hs x (srt_mem.mp hx)))⟩
  obtain ⟨l, hl, q⟩ := ends_mem.mp hx
  exact ends_mem.mpr ⟨l, (srtL_mem g.nd).mp hl, q⟩
theorem back_key : ∀ i : Nat, i < 6 → ∃ c, atI ("abcdef" : Str).cps.toList (i : Int) = some c ∧ ("z" : Str) ++ (⟨#[c]⟩ : Str) = backN i := by
  intro i hi
  have : i = 0 ∨ i = 1 ∨ i = 2 ∨ i = 3 ∨ i = 4 ∨ i = 5 := by omega
  rcases this with rfl | rfl | rfl | rfl | rfl | rfl
  · exact ⟨97, by decide +kernel, by decide +kernel⟩
  · exact ⟨98, by decide +kernel, by decide +kernel⟩
  · exact ⟨99, by decide +kernel, by decide +kernel⟩
  · exact ⟨100, by decide +kernel, by decide +kernel⟩
  · exact ⟨101, by decide +kernel, by decide +kernel⟩
  · exact ⟨102, by decide +kernel, by decide +kernel⟩
theorem at_lastS {ws : List Str} (h : ws ≠ []) : ∃ c, c ∈ ws ∧ atI (ws.map V.str) (-1) = some (.str c) := by
  have e := List.dropLast_concat_getLast h
  refine ⟨ws.getLast h, List.getLast_mem h, ?_⟩
  have e2 : atI ((ws.dropLast ++ [ws.getLast h]).map V.str) (-1) = some (.str (ws.getLast h)) := by
    rw [List.map_append]
    exact atI_last _ _
  rw [e] at e2
  exact e2
/-- what a filter of the entries keeps -/
def keepK (wy : Str) : Key × V → Bool := fun kv => match kv.1 with
  | .inr x => !decide (x = wy)
  | _ => false
/-- the two ways of an if meet -/
theorem join_if {c : Bool} {A : TS} {D : Ends} {σ : L2.St} {H : Hp} (N : L2.St → Hp → Prop) (h1 : c = true → ∀ D' : Ends, (∀ σ H, N σ H → D'.nx σ H) → A D' σ H) (h2 : c = false → N σ H) (h3 : ∀ σ H, N σ H → D.nx σ H) : if c = true then A D σ H else tNext D σ H := by
  cases c with
  | true => rw [if_pos rfl]; exact h1 rfl D h3
  | false => rw [if_neg Bool.false_ne_true]; exact h3 σ H (h2 rfl)
/-- a program drawn otherwise that is unlike the first -/
def OthOk (K : PySem.W.Frag) (H : Hp) (ls : List Lk) (b : Str) (es : List Str) (v : V) : Prop := ∃ (d dpx exx : Addr) (ls' : List Lk) (es' : List Str), v = .ref d ∧ PrgAt K H d dpx exx ls' b es' ∧ GoodP ls' b es' ∧ eqPD (pdOf ls' b es') (pdOf ls b es) = false ∧ eqPD (pdOf ls b es) (pdOf ls' b es') = false
theorem OthOk.same {K : PySem.W.Frag} {H H' : Hp} {ls : List Lk} {b : Str} {es : List Str} {v : V} (h : OthOk K H ls b es v) (s : Same H H') : OthOk K H' ls b es v := by
  obtain ⟨d, dpx, exx, ls', es', e, p, g, q⟩ := h
  exact ⟨d, dpx, exx, ls', es', e, p.same s, g, q⟩
section
variable {P : Program} {w : World} {K : PySem.W.Frag} {mg : Str → Option Value} {base : Heap}
abbrev nsUnlike : List Str := ["made", "prog", "way", "pairs", "others", "back", "at", "place", "round_one", "round_two", "exits", "other"]
theorem scUnlike : FnScope nsUnlike ["made", "prog"] (defScope sUnlike) := ⟨rfl, rfl, rfl, by decide +kernel, rfl, by decide +kernel, by decide +kernel⟩
def spUnlike (K : PySem.W.Frag) (C : Addr) : Sp := fun vs H Q _ => ∃ (x dx L S F r dp ex : Addr) (pls : List Str) (ls : List Lk) (b : Str) (es : List Str), vs = [.ref x, .ref r] ∧ ProgAt K C H x dx L S F (pdOf ls b es) ∧ PrgAt K H r dp ex ls b es ∧ Drawn pls ls es ∧ pls[0]? = some b ∧ pls.length ≤ 6 ∧ L ≠ dp ∧ ∀ H', Same H H' → Q (.bl true) H'
theorem ok_unlike {f C fP fM : Addr} {fd fdP fdM : FuncData} (Fn : Fun K "_law_unlike" "_law_unlike" sUnlike f fd) (T : PT0 mg) (Te : mg "enumerate" = none) (M : PMs P w K mg base C)
    (FP : Fun K "_law_places" "_law_places" sLPlaces fP fdP) (bP : Binds K fdP ["prog"] []) (gP : mg "_law_places" = some (.ref fP)) (GP : FnOk P w K mg base CX0 1 fP fdP ["prog"] (spLP K))
    (FM : Fun K "_law_made" "_law_made" sMade fM fdM) (bM : Binds K fdM ["prog"] []) (gM : mg "_law_made" = some (.ref fM)) (GM : FnOk P w K mg base CX0 6 fM fdM ["prog"] (spMade K C)) : FnOk P w K mg base CX0 7 f fd ["made", "prog"] (spUnlike K C) := by
  refine Fn.ok scUnlike (fun vs H Q E h => ?_) (fun cdv A outer s H vs Q E hr h => ?_)
  · obtain ⟨x, dx, L, S, F, r, dp, ex, pls, ls, b, es, rfl, _⟩ := h
    rfl
  · obtain ⟨x, dx, L, S, F, r, dp, ex, pls, ls, b, es, rfl, hp, h, D, hb, h6, nLd, k⟩ := h
    have hu := hu_of hr
    have hr1 : Room 1 _ := hr.mono (by decide)
    have nd := scUnlike.nd
    obtain ⟨kvs, hd, lk⟩ := h.hw
    obtain ⟨gQ, fdQ, fQ, iQ, bQ, GQ⟩ := M.eq
    refine ⟨_, pss_cons (ps_set (i := 2) nd rfl (Or.inr rfl) (pe_ix ix_list (pe_callB (call_sortedD rfl) (by rfl) T.sorted PyProof.Rows.boot_sorted (pa_cons (pe_dget hu (pv 1) pe_str (fun _ _ => rfl)) pa_nil)) pe_int (fun _ _ => rfl)))
      (pss_cons (ps_set (i := 3) nd rfl (Or.inl rfl) (pe_callTy (call_dictP rfl) (by rfl) T.dict (by decide +kernel) (pa_cons (pe_lock (pe_lc (own := [("other", 11)]) (g := gName 11) (tt := tTest (tOp rNe (tVar 11) (tVar 2))) rfl nd (pi_keys (pe_dget hu (pv 1) pe_str (fun _ _ => rfl))) (blkOk_by (own := [("other", 11)]) (N := nsUnlike) (sc := defScope sUnlike) (by decide +kernel))
          (fun _ _ _ _ _ => pg_name (i := 11) nd rfl (Or.inl rfl)) (fun _ _ _ _ _ => pts_one (pt_cmpR op_ne (pv 11) (pv 2) (nomark _))) (fun _ _ _ _ _ => pe_tup (pa_cons (pv 11) (pa_cons (pe_dget hu (pe_dget hu (pv 1) pe_str (fun _ _ => rfl)) (pv 11) (fun _ _ => rfl)) pa_nil))))) pa_nil)))
      (pss_cons (ps_dput hu (pv 3) pe_str (pe_dget hu (pe_dget hu (pv 1) pe_str (fun _ _ => rfl)) (pv 2) (fun _ _ => rfl)) rfl)
      (pss_cons (ps_set (i := 4) nd rfl (Or.inl rfl) (pe_lst (pa_cons (pe_disp (pps_cons pe_str (pv 3) (pps_cons pe_str (pe_dget hu (pv 1) pe_str (fun _ _ => rfl)) (pps_cons pe_str (pe_dget hu (pv 1) pe_str (fun _ _ => rfl)) pps_nil))) rfl rfl (by decide) (by decide)) pa_nil)))
      (pss_cons (ps_set (i := 5) nd rfl (Or.inl rfl) (pe_callTy (call_dictP rfl) (by rfl) T.dict (by decide +kernel) (pa_cons (pe_lock (pe_lc (own := [("other", 11)]) (g := gName 11) (tt := tYes) rfl nd (pi_keys (pe_dget hu (pv 1) pe_str (fun _ _ => rfl))) (blkOk_by (own := [("other", 11)]) (N := nsUnlike) (sc := defScope sUnlike) (by decide +kernel))
          (fun _ _ _ _ _ => pg_name (i := 11) nd rfl (Or.inl rfl)) (fun _ _ _ _ _ => pts_nil) (fun _ _ _ _ _ => pe_tup (pa_cons (pv 11) (pa_cons (pe_dget hu (pe_dget hu (pv 1) pe_str (fun _ _ => rfl)) (pv 11) (fun _ _ => rfl)) pa_nil))))) pa_nil)))
      (pss_cons (ps_for PassesOwn.never rfl (pi_enum (by rfl) Te (pa_cons (pe_call GP hr1 (by rfl) gP FP.kp bP .nil pass0 (pa_cons (pv 1) pa_nil)) pa_nil)) (pg_tup rfl (pgs_cons (pg_name (i := 6) nd rfl (Or.inl rfl)) (pgs_cons (pg_name (i := 7) nd rfl (Or.inl rfl)) pgs_nil)))
        (pss_one (ps_dput hu (pv 5) (pe_op op_add_str pe_str (pe_ix ix_str pe_str (pv 6) (fun _ _ => rfl))) (pe_tup (pa_cons (pv 7) (pa_cons (pe_dget hu (pv 1) pe_str (fun _ _ => rfl)) pa_nil))) rfl)))
      (pss_cons (ps_set (i := 8) nd rfl (Or.inl rfl) (pe_disp (pps_cons pe_str (pv 5) (pps_cons pe_str (pe_dget hu (pv 1) pe_str (fun _ _ => rfl)) (pps_cons pe_str (pe_dget hu (pv 1) pe_str (fun _ _ => rfl)) pps_nil))) rfl rfl (by decide) (by decide)))
      (pss_cons (ps_set (i := 9) nd rfl (Or.inl rfl) (pe_disp (pps_cons pe_str (pv 5) (pps_cons pe_str (pe_ix ix_list (pe_call GP hr1 (by rfl) gP FP.kp bP .nil pass0 (pa_cons (pv 1) pa_nil)) (pe_un un_neg pe_int) (fun _ _ => rfl)) (pps_cons pe_str (pe_dget hu (pv 1) pe_str (fun _ _ => rfl)) pps_nil))) rfl rfl (by decide) (by decide)))
      (pss_cons (ps_if (pt_cmpR op_ne (pe_cmpR (OW.op_ownEq (C := C) GQ bQ pass0 hr1 fQ iQ) (pe_call GM hr (by rfl) gM FM.kp bM .nil pass0 (pa_cons (pv 8) pa_nil)) (pe_call GM hr (by rfl) gM FM.kp bM .nil pass0 (pa_cons (pv 9) pa_nil)) (nomark _)) (pe_cmpR op_eq (pe_dget hu (pv 8) pe_str (fun _ _ => rfl)) (pe_dget hu (pv 9) pe_str (fun _ _ => rfl)) (nomark _)) (nomark _)) (pss_one (ps_ret pe_bl)) pss_nil)
      (pss_cons (ps_setLc (i := 10) (own := [("place", 7)]) (g := gName 7) (tt := tTest (tOp (rIn K true) (tVar 7) (tDGet (tVar 1) (tC (V.str "exits"))))) rfl nd rfl rfl (sw_true rfl rfl rfl (by decide +kernel)) (pi_list (pe_call GP hr1 (by rfl) gP FP.kp bP .nil pass0 (pa_cons (pv 1) pa_nil))) (blkOk_by (own := [("place", 7)]) (N := nsUnlike) (sc := defScope sUnlike) (by decide +kernel))
          (fun _ _ _ _ _ => pg_name (i := 7) nd rfl (Or.inl rfl)) (fun _ _ _ _ _ => pts_one (pt_cmpR op_notIn_seq (pv 7) (pe_dget hu (pv 1) pe_str (fun _ _ => rfl)) rfl)) (fun _ _ _ _ _ => pv 7))
      (pss_cons (ps_if (pt_cmpR (OW.op_neTx hr.units) (pv 10) (pe_lst pa_nil) (nomark _))
        (pss_one (ps_expr (pe_bm PySem.F.plainAttrs_list PySem.F.slot_list_append PySem.F.type_list_append mt_append (pv 4) (pa_cons (pe_disp (pps_cons pe_str (pe_dget hu (pv 1) pe_str (fun _ _ => rfl)) (pps_cons pe_str (pe_dget hu (pv 1) pe_str (fun _ _ => rfl)) (pps_cons pe_str (pe_op op_cat (pe_dget hu (pv 1) pe_str (fun _ _ => rfl)) (pe_slice sl_list (pv 10) po_none (po_some pe_int))) pps_nil))) rfl rfl (by decide) (by decide)) pa_nil)))) pss_nil)
      (pss_one (ps_ret (pe_cmpR (OW.op_eqTx hr.units) (pe_lc (own := [("other", 11)]) (g := gName 11) (tt := tOr (tTest (tOp (OW.rOwnEq K C (spEqP K C) E0) (tCall (spMade K C) [] E0 (tCons (tVar 11) tNil)) (tVar 0))) (tTest (tOp (OW.rOwnEq K C (spEqP K C) E0) (tVar 0) (tCall (spMade K C) [] E0 (tCons (tVar 11) tNil))))) rfl nd (pi_list (pv 4)) (blkOk_by (own := [("other", 11)]) (N := nsUnlike) (sc := defScope sUnlike) (by decide +kernel))
          (fun _ _ _ _ _ => pg_name (i := 11) nd rfl (Or.inl rfl)) (fun _ _ _ _ _ => pts_one (PW.pt (pw_or (pt_cmpR (OW.op_ownEq (C := C) GQ bQ pass0 hr1 fQ iQ) (pe_call GM hr (by rfl) gM FM.kp bM .nil pass0 (pa_cons (pv 11) pa_nil)) (pv 0) (nomark _)) (pw_or1 (pt_cmpR (OW.op_ownEq (C := C) GQ bQ pass0 hr1 fQ iQ) (pv 0) (pe_call GM hr (by rfl) gM FM.kp bM .nil pass0 (pa_cons (pv 11) pa_nil)) (nomark _)))))) (fun _ _ _ _ _ => pv 11)) (pe_lst pa_nil) (nomark _)))))))))))))), ?_⟩
    have kl : (keysL ls).length = ls.length := List.length_map _
    have lkn : kvs.length = ls.length := Paired.length lk
    have n1 := D.l1
    have n12 := D.l2
    have kvn : (kvs.map (·.1)).Nodup := lks_nodup lk D.kn
    -- way
    refine ⟨_, rfl, r, _, rfl, get_ways h, dp, kvs, keysL ls, rfl, .inl hd, lks_keys lk, by omega, fun ys p0 perm sr np0 => ?_⟩
    obtain rfl := srt_of perm sr
    obtain ⟨wy, hwy⟩ : ∃ wy, (srt (keysL ls))[0]? = some wy := ⟨_, List.getElem?_eq_getElem (by rw [srt_len]; omega)⟩
    have mwy : wy ∈ keysL ls := srt_mem.mp (List.mem_of_getElem? hwy)
    refine ⟨p0, _, _, _, rfl, rfl, SqL.of upd_same, atI_nat (j := 0) (by rw [List.getElem?_map, hwy]; rfl), ?_⟩
    have s1 : Same H (upd H p0 (.lst ((srt (keysL ls)).map V.str))) := sm np0
    show tSeq _ _ _ _ (upd H p0 (.lst ((srt (keysL ls)).map V.str)))
    generalize upd H p0 (.lst ((srt (keysL ls)).map V.str)) = H1 at s1
    have h1 := h.same s1
    have hd1 := s1 _ _ hd
    have lk1 := lk.same s1
    -- pairs = dict([..])
    refine ⟨dp, .dK kvs, hd1, trivial, fun od => ⟨_, rfl, r, _, rfl, get_waysL h1 (Same.refl _), dp, od, rfl, .inl ⟨kvs, upd_same, fun B nB => ?_⟩⟩⟩
    refine lc_rel walk_keys nB (PairT K) (fun s h => pairT_same s h) (fun hD h => pairT_lst hD h) (fun i => (kvs.take i).filter (keepK wy)) rfl (fun i _ => Nat.le_trans (List.length_filter_le _ _) (Nat.le_trans (List.length_take_le' i kvs) (by omega))) (fun H' s => s _ _ upd_same) ?_ ?_
    · rintro i v H2 H3 Pn hi s2 ⟨rfl, kk, vv, ekv, rfl⟩ fin skip
      obtain ⟨l, hl, e1, _⟩ := lks_at lk1 ekv
      have e1' : kk = Sum.inr l.1 := e1
      subst e1'
      have sn := kv_snoc (keepK wy) ekv
      refine ⟨rfl, _, rfl, _, rfl, rfl, _, rfl, iteB (fun c => ?_) (fun c => ?_)⟩
      · have ne : ¬ l.1 = wy := fun z => by
          rw [z] at c
          rw [decide_eq_true (show kV (Sum.inr wy) = V.str wy from rfl)] at c
          cases c
        refine ⟨_, rfl, _, rfl, r, _, rfl, get_waysL h1 s2, _, rfl, dp, vv, rfl, ?_, by show 2 ≤ sizeLine; decide, fun q nq => ?_⟩
        · rw [← valV_at kvn ekv]
          exact .inl ⟨kvs, Sum.inr l.1, .inr ⟨od, s2 _ _ upd_same⟩, rfl, rfl⟩
        · refine fin _ _ (Sum.inr l.1, vv) (sm nq) ⟨q, rfl, SqT.of upd_same⟩ ?_
          rw [sn, if_pos (show keepK wy (Sum.inr l.1, vv) = true by show (!decide (l.1 = wy)) = true; rw [decide_eq_false ne]; rfl)]
      · have e : l.1 = wy := by
          by_cases z : l.1 = wy
          · exact z
          · have z2 : ¬ kV (Sum.inr l.1) = V.str wy := fun q => z (V.str.inj q)
            rw [decide_eq_false z2] at c
            cases c
        refine skip H3 (Same.refl _) ?_
        rw [sn, if_neg (show ¬ keepK wy (Sum.inr l.1, vv) = true by show ¬ (!decide (l.1 = wy)) = true; rw [decide_eq_true e]; exact Bool.false_ne_true), List.append_nil]
    · intro H2 ts s2 hB rB
      rw [List.take_length] at rB
      obtain ⟨ps, rfl, hps⟩ := pairT_refs (Paired.imp (fun _ _ z => pairT_frz (o := .dK kvs) (s2 _ _ upd_same) z) rB)
      have nBd : B ≠ dp := fun z => by rw [z, upd_same] at nB; cases nB
      refine ⟨s2 _ _ upd_same, B, ps, _, rfl, SqL.of (by rw [upd_ne nBd]; exact hB), hps, fun pp npp => ?_⟩
      have s12 : Same H1 (upd H2 dp (.dK kvs)) := unlock hd1 s2
      have lkF := lks_filter (fun x => !decide (x = wy)) (lk1.same s12)
      have lkF' : Lks K (upd H2 dp (.dK kvs)) (kvs.filter (keepK wy)) (ls.filter fun l => !decide (l.1 = wy)) := lkF
      have knF : (keysL (ls.filter fun l => !decide (l.1 = wy))).Nodup := by
        rw [keys_filter ls (fun x => !decide (x = wy))]
        exact D.kn.sublist List.filter_sublist
      rw [merge_lks lkF' knF]
      have s03 : Same H (upd H2 dp (.dK kvs)) := s1.trans s12
      clear lkF
      generalize upd H2 dp (.dK kvs) = H3 at lkF' s03 npp
      have lk3 := lk.same s03
      obtain ⟨t, hvt, ht⟩ := lks_val lk3 mwy
      have lenF : (kvs.filter (keepK wy)).length < sizeLine := small1000 (Nat.le_trans (List.length_filter_le _ _) (by omega))
      have s34 : Same H3 (upd H3 pp (.dK (kvs.filter (keepK wy)))) := sm npp
      have hpp : (upd H3 pp (.dK (kvs.filter (keepK wy)))) pp = some (.dK (kvs.filter (keepK wy))) := upd_same
      -- pairs["zzz"] = ..
      show tSeq _ _ _ _ (upd H3 pp (.dK (kvs.filter (keepK wy))))
      have hvg : DGet (upd H3 pp (.dK (kvs.filter (keepK wy)))) dp (.str wy) (some (.ref t)) := by
        rw [← hvt]
        exact .inl ⟨kvs, Sum.inr wy, .inl (s34 _ _ (s03 _ _ hd)), rfl, rfl⟩
      refine ⟨_, rfl, r, _, rfl, get_ways (h.same (s03.trans s34)), _, rfl, dp, _, rfl, hvg, _, rfl, pp, _, rfl, DPut.k (k := Sum.inr "zzz") hpp lenF, ?_⟩
      rw [upd_upd]
      have zno : valV (kvs.filter (keepK wy)) (Sum.inr "zzz" : Key) = none := lks_none lkF' fun z => by
        rw [keys_filter ls (fun x => !decide (x = wy))] at z
        exact zzz_no D.km (List.mem_filter.mp z).1
      rw [putK_new _ zno]
      obtain ⟨kvA, ekA⟩ : ∃ kvA : List (Key × V), kvA = kvs.filter (keepK wy) ++ [((Sum.inr "zzz" : Key), V.ref t)] := ⟨_, rfl⟩
      rw [← ekA]
      have sA : Same H3 (upd H3 pp (.dK kvA)) := sm npp
      have lkA : Lks K (upd H3 pp (.dK kvA)) kvA (ls1 ls wy) := by
        rw [ekA] at sA ⊢
        exact paired_snoc (Lks.same lkF' sA) ⟨rfl, t, rfl, sqT_same ht sA⟩
      have s0A : Same H (upd H3 pp (.dK kvA)) := s03.trans sA
      have hpA : (upd H3 pp (.dK kvA)) pp = some (.dK kvA) := upd_same
      generalize upd H3 pp (.dK kvA) = H5 at lkA s0A hpA
      -- others
      refine fun d1 nd1 => ⟨_, rfl, _, rfl, r, _, rfl, get_begin (h.same (s0A.trans (sm nd1))), _, rfl, r, _, rfl, get_exits (h.same (s0A.trans (sm nd1))), upd_same, [(Sum.inr "ways", .ref pp), (Sum.inr "begin", .str b), (Sum.inr "exits", .ref ex)], rfl, by show 3 ≤ 15; decide, by show 1 ≤ sizeLine; decide, fun o1 no1 => ?_⟩
      rw [upd_upd] at no1 ⊢
      have s56 : Same H5 (upd H5 d1 (.dK (mergeK [] [(Sum.inr "ways", .ref pp), (Sum.inr "begin", .str b), (Sum.inr "exits", .ref ex)]))) := sm nd1
      have g1 : PrgAt K (upd H5 d1 (.dK (mergeK [] [(Sum.inr "ways", .ref pp), (Sum.inr "begin", .str b), (Sum.inr "exits", .ref ex)]))) d1 pp ex (ls1 ls wy) b es := ⟨upd_same, ⟨_, s56 _ _ hpA, Lks.same lkA s56⟩, s56 _ _ (s0A _ _ h.he)⟩
      have s06 := s0A.trans s56
      generalize upd H5 d1 (.dK (mergeK [] [(Sum.inr "ways", .ref pp), (Sum.inr "begin", .str b), (Sum.inr "exits", .ref ex)])) = H6 at g1 s06 no1
      have s67 : Same H6 (upd H6 o1 (.lst [.ref d1])) := sm no1
      have ho7 : (upd H6 o1 (.lst [.ref d1])) o1 = some (.lst [.ref d1]) := upd_same
      show tSeq _ _ _ _ (upd H6 o1 (.lst [.ref d1]))
      generalize upd H6 o1 (.lst [.ref d1]) = H7 at s67 ho7
      have s07 := s06.trans s67
      have h7 := h.same s07
      have hd7 := s07 _ _ hd
      have lk7 := lk.same s07
      -- back = dict([..])
      refine ⟨dp, .dK kvs, hd7, trivial, fun od2 => ⟨_, rfl, r, _, rfl, get_waysL h7 (Same.refl _), dp, od2, rfl, .inl ⟨kvs, upd_same, fun B2 nB2 => ?_⟩⟩⟩
      refine lc_rel walk_keys nB2 (PairT K) (fun s h => pairT_same s h) (fun hD h => pairT_lst hD h) (fun i => kvs.take i) rfl (fun i _ => Nat.le_trans (List.length_take_le' i kvs) (by omega)) (fun H' s => s _ _ upd_same) ?_ ?_
      · rintro i v H8 H9 Pn hi s8 ⟨rfl, kk, vv, ekv, rfl⟩ fin skip
        obtain ⟨l, hl, e1, _⟩ := lks_at lk7 ekv
        have e1' : kk = Sum.inr l.1 := e1
        subst e1'
        refine ⟨rfl, ?_⟩
        unfold tYes
        dsimp only
        rw [if_pos rfl]
        refine ⟨_, rfl, _, rfl, r, _, rfl, get_waysL h7 s8, _, rfl, dp, vv, rfl, ?_, by show 2 ≤ sizeLine; decide, fun q nq => ?_⟩
        · rw [← valV_at kvn ekv]
          exact .inl ⟨kvs, Sum.inr l.1, .inr ⟨od2, s8 _ _ upd_same⟩, rfl, rfl⟩
        · refine fin _ _ (Sum.inr l.1, vv) (sm nq) ⟨q, rfl, SqT.of upd_same⟩ ?_
          rw [List.take_add_one, ekv]
          rfl
      · intro H8 ts2 s8 hB2 rB2
        rw [List.take_length] at rB2
        obtain ⟨ps2, rfl, hps2⟩ := pairT_refs (Paired.imp (fun _ _ z => pairT_frz (o := .dK kvs) (s8 _ _ upd_same) z) rB2)
        have nB2d : B2 ≠ dp := fun z => by rw [z, upd_same] at nB2; cases nB2
        refine ⟨s8 _ _ upd_same, B2, ps2, _, rfl, SqL.of (by rw [upd_ne nB2d]; exact hB2), hps2, fun bk nbk => ?_⟩
        have s79 : Same H7 (upd H8 dp (.dK kvs)) := unlock hd7 s8
        rw [merge_lks lk D.kn]
        generalize upd H8 dp (.dK kvs) = H9 at s79 nbk
        have s69 := s67.trans s79
        have s09 := s06.trans s69
        have sE : Same H9 (upd H9 bk (.dK kvs)) := sm nbk
        have hbE : (upd H9 bk (.dK kvs)) bk = some (.dK kvs) := upd_same
        show tSeq _ _ _ _ (upd H9 bk (.dK kvs))
        generalize upd H9 bk (.dK kvs) = HE at sE hbE
        have p6 : (plc ls).length ≤ 6 := by
          have z := nodup_le (plc_nodup ls) fun x hx => (D.ends x).mp (plc_mem.mp hx)
          omega
        -- for at, place in enumerate(..)
        refine ⟨_, rfl, r, dp, ex, pls, ls, b, es, rfl, h.same (s09.trans sE), D, fun H10 pl s10 npl hpl => ⟨pl, _, rfl, SqL.of hpl, ?_⟩⟩
        refine for_it walk_enum (fun i σ H' => ∃ (kvB : List (Key × V)) (v6 v7 : Option V), σ = [some (.ref x), some (.ref r), some (.str wy), some (.ref pp), some (.ref o1), some (.ref bk), v6, v7, none, none, none, none] ∧ Same H9 H' ∧ H' pl = some (.lst ((plc ls).map V.str)) ∧ H' bk = some (.dK kvB) ∧ Lks K H' kvB (ls2 ls b i)) ?_ (fun i σ H' _ ⟨_, _, _, _, _, z, _⟩ => SqL.of z) ?_ ?_
        · refine ⟨kvs, none, none, rfl, sE.trans s10, hpl, s10 _ _ hbE, ?_⟩
          rw [show ls2 ls b 0 = ls from List.append_nil ls]
          exact lk.same ((s09.trans sE).trans s10)
        · rintro i v σ H' H'' hi ⟨kvB, v6, v7, rfl, s', hpl', hbk', lkB⟩ ⟨Tp, xi, yi, rfl, nT, rfl, e1, e2⟩
          cases e1
          rw [List.length_map] at hi
          obtain ⟨c, hc1, hc2⟩ := back_key i (by omega)
          obtain rfl : yi = .str ((plc ls).getD i Str.empty) := by
            have z : ((plc ls).map V.str)[i]? = some (.str ((plc ls).getD i Str.empty)) := by
              rw [List.getElem?_map, List.getD_eq_getElem?_getD, List.getElem?_eq_getElem hi]
              rfl
            replace e2 : ((plc ls).map V.str)[i]? = some yi := e2
            rw [z] at e2
            exact (Option.some.inj e2).symm
          have s9T := s'.trans (sm (o := .tup [.int (i : Nat), .str ((plc ls).getD i Str.empty)]) nT)
          refine ⟨Tp, _, rfl, SqT.of upd_same, rfl, _, _, rfl, _, _, rfl, rfl, ?_⟩
          refine ⟨_, rfl, _, rfl, r, _, rfl, get_begin (h.same (s09.trans s9T)), by show 2 ≤ sizeLine; decide, fun t nt => ?_⟩
          have hbt := sm (o := .tup [.str ((plc ls).getD i Str.empty), .str b]) nt _ _ (sm (o := .tup [.int (i : Nat), .str ((plc ls).getD i Str.empty)]) nT _ _ hbk')
          have lkt := (lkB.same (sm (o := .tup [.int (i : Nat), .str ((plc ls).getD i Str.empty)]) nT)).same (sm (o := .tup [.str ((plc ls).getD i Str.empty), .str b]) nt)
          have hplt := sm (o := .tup [.str ((plc ls).getD i Str.empty), .str b]) nt _ _ (sm (o := .tup [.int (i : Nat), .str ((plc ls).getD i Str.empty)]) nT _ _ hpl')
          have s9t := s9T.trans (sm (o := .tup [.str ((plc ls).getD i Str.empty), .str b]) nt)
          have hvt2 : TwoAt K (upd (upd H' Tp (.tup [.int (i : Nat), .str ((plc ls).getD i Str.empty)])) t (.tup [.str ((plc ls).getD i Str.empty), .str b])) (.ref t) ((plc ls).getD i Str.empty, b) := ⟨t, rfl, SqT.of upd_same⟩
          have szB : kvB.length < sizeLine := by
            have z : kvB.length = (ls2 ls b i).length := Paired.length lkB
            have z2 : (ls2 ls b i).length = ls.length + i := by
              show (ls ++ backs _ _ _).length = _
              unfold backs
              rw [List.length_append, List.length_map, List.length_range]
            exact small1000 (by omega)
          refine ⟨_, rfl, _, rfl, ("abcdef" : Str), _, c, rfl, rfl, by show 6 ≤ sizeLine; decide, hc1, _, _, rfl, rfl, by show 1 + 1 ≤ sizeLine; decide, bk, _, rfl, DPut.k (k := Sum.inr (("z" : Str) ++ (⟨#[c]⟩ : Str))) hbt szB, ?_⟩
          rw [hc2]
          have e2s : ls2 ls b (i + 1) = ls2 ls b i ++ [(backN i, (plc ls).getD i Str.empty, b)] := by
            show ls ++ backs _ _ _ = (ls ++ backs _ _ _) ++ _
            rw [backs_snoc, List.append_assoc]
          have fr : valV kvB (Sum.inr (backN i) : Key) = none := lks_none lkB fun z => by
            have q := nd2 D.kn D.km (b := b) (show i + 1 ≤ 6 by omega)
            rw [e2s, keysL_snoc] at q
            exact (List.nodup_append.mp q).2.2 _ z _ List.mem_cons_self rfl
          rw [putK_new _ fr]
          refine ⟨_, _, _, rfl, fun q o e => ?_, ?_, upd_same, ?_⟩
          · rw [upd_ne (ne_of_none e nbk)]
            exact s9t _ _ e
          · rw [upd_ne (ne_of hplt hbt (by intro z; cases z))]
            exact hplt
          · rw [e2s]
            exact paired_snoc (Paired.imp (fun _ _ z => ⟨z.1, two_dk hbt z.2⟩) lkt) ⟨rfl, two_dk hbt hvt2⟩
        · rintro σ HF ⟨kvB, v6, v7, rfl, sF, hplF, hbF, lkB⟩
          rw [List.length_map] at lkB
          have s0F := s09.trans sF
          have mb : b ∈ pls := List.mem_of_getElem? hb
          have gA := good2 D hb h6 mb
          -- round_one
          refine fun d8 nd8 => ⟨_, rfl, _, rfl, r, _, rfl, get_begin (h.same (s0F.trans (sm nd8))), _, rfl, r, _, rfl, get_exits (h.same (s0F.trans (sm nd8))), upd_same, [(Sum.inr "ways", .ref bk), (Sum.inr "begin", .str b), (Sum.inr "exits", .ref ex)], rfl, by show 3 ≤ 15; decide, ?_⟩
          rw [upd_upd]
          have sFG : Same HF (upd HF d8 (.dK (mergeK [] [(Sum.inr "ways", .ref bk), (Sum.inr "begin", .str b), (Sum.inr "exits", .ref ex)]))) := sm nd8
          have g8 : PrgAt K (upd HF d8 (.dK (mergeK [] [(Sum.inr "ways", .ref bk), (Sum.inr "begin", .str b), (Sum.inr "exits", .ref ex)]))) d8 bk ex (ls2 ls b (plc ls).length) b es := ⟨upd_same, ⟨_, sFG _ _ hbF, Lks.same lkB sFG⟩, sFG _ _ (s0F _ _ h.he)⟩
          have s0G := s0F.trans sFG
          show tSeq _ _ _ _ (upd HF d8 (.dK (mergeK [] [(Sum.inr "ways", .ref bk), (Sum.inr "begin", .str b), (Sum.inr "exits", .ref ex)])))
          generalize upd HF d8 (.dK (mergeK [] [(Sum.inr "ways", .ref bk), (Sum.inr "begin", .str b), (Sum.inr "exits", .ref ex)])) = HG at sFG g8 s0G
          -- round_two
          have pne : plc ls ≠ [] := fun z => by
            have q := plc_mem.mpr ((D.ends b).mpr mb)
            rw [z] at q
            cases q
          obtain ⟨c, mc, hc⟩ := at_lastS pne
          have mcp : c ∈ pls := (D.ends c).mp (plc_mem.mp mc)
          have gB := good2 D hb h6 mcp
          refine fun d9 nd9 => ⟨_, rfl, _, rfl, r, dp, ex, pls, ls, b, es, rfl, h.same (s0G.trans (sm nd9)), D, fun Hq pq sq npq hpq => ⟨_, rfl, pq, _, _, _, rfl, rfl, SqL.of hpq, hc, _, rfl, r, _, rfl, get_exits (h.same ((s0G.trans (sm nd9)).trans sq)), sq _ _ upd_same, [(Sum.inr "ways", .ref bk), (Sum.inr "begin", .str c), (Sum.inr "exits", .ref ex)], rfl, by show 3 ≤ 15; decide, ?_⟩⟩
          have sGI : Same HG (upd Hq d9 (.dK (mergeK [] [(Sum.inr "ways", .ref bk), (Sum.inr "begin", .str c), (Sum.inr "exits", .ref ex)]))) := fun q o e => by
            rw [upd_ne (ne_of_none e nd9)]
            exact sq _ _ (sm nd9 _ _ e)
          have g9 : PrgAt K (upd Hq d9 (.dK (mergeK [] [(Sum.inr "ways", .ref bk), (Sum.inr "begin", .str c), (Sum.inr "exits", .ref ex)]))) d9 bk ex (ls2 ls b (plc ls).length) c es := ⟨upd_same, (g8.same sGI).hw, (g8.same sGI).he⟩
          have g8' := g8.same sGI
          have s0I := s0G.trans sGI
          have sFI := sFG.trans sGI
          show tSeq _ _ _ _ (upd Hq d9 (.dK (mergeK [] [(Sum.inr "ways", .ref bk), (Sum.inr "begin", .str c), (Sum.inr "exits", .ref ex)])))
          generalize upd Hq d9 (.dK (mergeK [] [(Sum.inr "ways", .ref bk), (Sum.inr "begin", .str c), (Sum.inr "exits", .ref ex)])) = HI at g9 g8' s0I sFI
          -- if (.. == ..) != (.. == ..)
          refine ⟨_, rfl, d8, bk, ex, _, b, es, rfl, g8', gA, fun Hm x1 dx1 L1 S1 F1 sm1 nx1 nL1 nS1 nF1 pr1 => ⟨_, rfl, d9, bk, ex, _, c, es, rfl, g9.same sm1, gB, fun Hn x2 dx2 L2' S2 F2 sm2 nx2 nL2 nS2 nF2 pr2 => ?_⟩⟩
          refine ⟨x1, dx1, _, .ref C, rfl, (pr1.same sm2).ins, .base (.ins pr2.ins M.cl.cl M.tt.ha M.tt.hn M.tt.htk M.tt.hm), M.nfC, x1, dx1, L1, S1, F1, _, .ref x2, rfl, pr1.same sm2, .inl ⟨x2, dx2, L2', S2, F2, _, rfl, pr2, pdok_of gA, pdok_of gB, _, rfl, _, rfl, d8, _, rfl, get_begin (g8'.same (sm1.trans sm2)), _, rfl, d9, _, rfl, get_begin (g9.same (sm1.trans sm2)), rfl, rfl, _, rfl, LH.iteNS' ?_ ?_⟩⟩
          · rw [like2 gA.nd]
            have e : decide (b = c) = decide (V.str b = V.str c) := by
              rw [decide_eq_decide]
              exact ⟨fun z => by rw [z], fun z => V.str.inj z⟩
            rw [e, decide_eq_true rfl]
            rfl
          have s0n := s0I.trans (sm1.trans sm2)
          have s6n : Same H6 Hn := ((s69.trans sF).trans sFI).trans (sm1.trans sm2)
          have ho_n : Hn o1 = some (.lst [.ref d1]) := ((sF.trans sFI).trans (sm1.trans sm2)) _ _ (s79 _ _ ho7)
          -- exits = [..]
          refine ⟨_, rfl, r, dp, ex, pls, ls, b, es, rfl, h.same s0n, D, fun Ho po so npo hpo => ⟨po, rfl, ⟨_, SqL.of hpo⟩, fun B3 nB3 => ?_⟩⟩
          have s0o := s0n.trans so
          refine lc_keep walk_list nB3 (fun i => (((plc ls).take i).filter fun y => !decide (y ∈ es)).map V.str) rfl (fun i _ => ?_) (fun H' s' => SqL.of (s' _ _ hpo)) ?_ ?_
          · rw [List.length_map]
            exact Nat.le_trans (List.length_filter_le _ _) (Nat.le_trans (List.length_take_le' i _) (by omega))
          · rintro i v Ha Hb Pn hi sa ⟨rfl, ev⟩ fin skip
            obtain ⟨y, hy, rfl⟩ : ∃ y, (plc ls)[i]? = some y ∧ v = .str y := by
              rw [List.getElem?_map] at ev
              cases e : (plc ls)[i]? with
              | none => rw [e] at ev; cases ev
              | some y => rw [e] at ev; exact ⟨y, rfl, (Option.some.inj ev).symm⟩
            have sn := filt_snoc (fun y => !decide (y ∈ es)) hy
            have hb' := h.same (s0o.trans sa)
            refine ⟨rfl, _, rfl, _, rfl, r, _, rfl, get_exits hb', ex, _, rfl, .inl (SqL.of hb'.he), rfl, PG.flat_strs _, _, rfl, ?_⟩
            rw [if_pos rfl, inV_strs]
            refine iteB (fun c => ?_) (fun c => ?_)
            · refine ⟨_, rfl, fin Hb _ (Same.refl _) ?_⟩
              rw [sn, if_pos c]
            · refine skip Hb (Same.refl _) ?_
              rw [sn, if_neg (by rw [c]; exact Bool.false_ne_true), List.append_nil]
          · intro Hp' sp' hB3
            rw [List.length_map, List.take_length] at hB3
            have s0p := s0o.trans sp'
            have s6p := s6n.trans (so.trans sp')
            have ho_p := sp' _ _ (so _ _ ho_n)
            have okEx : OW.TxOkk ((plc ls).filter fun y => !decide (y ∈ es)) := fun y hy => lay_word (word_of D.okw ((D.ends y).mp (plc_mem.mp (List.mem_filter.mp hy).1)))
            have ok0 : OW.TxOkk [] := fun y hy => nomatch hy
            have u1 := unlike1 D hb mwy
            have oth1 : OthOk K H6 ls b es (.ref d1) := ⟨d1, pp, ex, _, es, rfl, g1, good1 D hb mwy, u1.1, u1.2⟩
            refine ⟨_, rfl, Nat.zero_le _, fun e0 ne0 => ⟨B3, e0, _, [], rfl, rfl, SqL.of (sm ne0 _ _ hB3), SqL.of upd_same, okEx, ok0, _, rfl, ?_⟩⟩
            have spe : Same Hp' (upd Hp' e0 (.lst [])) := sm ne0
            have hB3' := spe _ _ hB3
            have ho_e := spe _ _ ho_p
            have s0e := s0p.trans spe
            have s6e := s6p.trans spe
            generalize upd Hp' e0 (.lst []) = He at spe hB3' ho_e s0e s6e
            refine join_if (fun σ' H' => σ' = [some (.ref x), some (.ref r), some (.str wy), some (.ref pp), some (.ref o1), some (.ref bk), v6, v7, some (.ref d8), some (.ref d9), some (.ref B3), none] ∧ Same H H' ∧ ∃ vs : List V, H' o1 = some (.lst vs) ∧ vs.length ≤ 2 ∧ ∀ v ∈ vs, OthOk K H' ls b es v) (fun c => ?_) (fun c => ?_) ?_
            · intro D' nxt
              have nE : ((plc ls).filter fun y => !decide (y ∈ es)) ≠ [] := fun z => by
                rw [if_pos rfl, decide_eq_true z] at c
                cases c
              obtain ⟨y, rest, eY⟩ : ∃ y rest, ((plc ls).filter fun y => !decide (y ∈ es)) = y :: rest := by
                cases q : ((plc ls).filter fun y => !decide (y ∈ es)) with
                | nil => exact absurd q nE
                | cons y rest => exact ⟨y, rest, rfl⟩
              have my := List.mem_filter.mp (show y ∈ ((plc ls).filter fun y => !decide (y ∈ es)) by rw [eY]; exact List.mem_cons_self)
              have nye : y ∉ es := by simpa using my.2
              refine ⟨_, rfl, .inl ⟨rfl, _, SqL.of ho_e⟩, fun d3 nd3 => ?_⟩
              have sd := sm (o := .dK []) nd3
              have h3 := h.same (s0e.trans sd)
              refine ⟨_, rfl, r, _, rfl, get_ways h3, _, rfl, r, _, rfl, get_begin h3, _, rfl, r, _, rfl, get_exits h3, _, rfl, _, rfl, B3, _, rfl, SqL.of (sd _ _ hB3'), fun q nq => ?_⟩
              have ecut : cutV (((plc ls).filter fun y => !decide (y ∈ es)).map V.str) none (some 1) = [V.str y] := by
                have z := cut_to ((plc ls).filter fun y => !decide (y ∈ es)) 1
                rw [eY] at z ⊢
                exact z
              rw [ecut] at *
              have sq := sm (o := .lst [V.str y]) nq
              have es7 : es.length ≤ 7 := by
                have z := nodup_le D.exn D.ex1
                have := D.n7
                omega
              refine ⟨ex, q, _, _, rfl, rfl, sq _ _ h3.he, upd_same, ?_, fun q2 nq2 => ?_⟩
              · rw [List.length_map, sizeLine_eq]
                show es.length + 1 ≤ _
                omega
              · have sq2 := sm (o := .lst (es.map V.str ++ [V.str y])) nq2
                have hd3 := sq2 _ _ (sq _ _ (upd_same (H := He) (a := d3) (o := .dK [])))
                refine ⟨hd3, [(Sum.inr "ways", .ref dp), (Sum.inr "begin", .str b), (Sum.inr "exits", .ref q2)], rfl, by show 3 ≤ 15; decide, ?_⟩
                have sAll : Same He (upd (upd (upd (upd He d3 (.dK [])) q (.lst [V.str y])) q2 (.lst (es.map V.str ++ [V.str y]))) d3 (.dK (mergeK [] [(Sum.inr "ways", .ref dp), (Sum.inr "begin", .str b), (Sum.inr "exits", .ref q2)]))) := fun a o e => by
                  rw [upd_ne (ne_of_none e nd3)]
                  exact sq2 _ _ (sq _ _ (sd _ _ e))
                have n23 : q2 ≠ d3 := fun z => by
                  rw [z, sq _ _ upd_same] at nq2
                  cases nq2
                have hq2 : (upd (upd (upd (upd He d3 (.dK [])) q (.lst [V.str y])) q2 (.lst (es.map V.str ++ [V.str y]))) d3 (.dK (mergeK [] [(Sum.inr "ways", .ref dp), (Sum.inr "begin", .str b), (Sum.inr "exits", .ref q2)]))) q2 = some (.lst ((es ++ [y]).map V.str)) := by
                  rw [upd_ne n23, upd_same, List.map_append]
                  rfl
                have n2o : q2 ≠ o1 := fun z => by
                  rw [z, sq _ _ (sd _ _ ho_e)] at nq2
                  cases nq2
                have n3o : d3 ≠ o1 := fun z => by
                  rw [z, ho_e] at nd3
                  cases nd3
                have hd3' : (upd (upd (upd (upd He d3 (.dK [])) q (.lst [V.str y])) q2 (.lst (es.map V.str ++ [V.str y]))) d3 (.dK (mergeK [] [(Sum.inr "ways", .ref dp), (Sum.inr "begin", .str b), (Sum.inr "exits", .ref q2)]))) d3 = some (.dK [(Sum.inr "ways", .ref dp), (Sum.inr "begin", .str b), (Sum.inr "exits", .ref q2)]) := upd_same
                generalize upd (upd (upd (upd He d3 (.dK [])) q (.lst [V.str y])) q2 (.lst (es.map V.str ++ [V.str y]))) d3 (.dK (mergeK [] [(Sum.inr "ways", .ref dp), (Sum.inr "begin", .str b), (Sum.inr "exits", .ref q2)])) = Hz at sAll hq2 hd3'
                refine ⟨o1, _, _, rfl, rfl, sAll _ _ ho_e, small1000 (by show 1 ≤ 1000; decide), nxt _ _ ⟨rfl, ?_⟩⟩
                have sH : Same H (upd Hz o1 (.lst ([.ref d1] ++ [.ref d3]))) := fun a o e => by
                  rw [upd_ne (ne_of_none (s06 _ _ e) no1)]
                  exact sAll _ _ (s0e _ _ e)
                have s6z : Same H6 (upd Hz o1 (.lst ([.ref d1] ++ [.ref d3]))) := fun a o e => by
                  rw [upd_ne (ne_of_none e no1)]
                  exact sAll _ _ (s6e _ _ e)
                refine ⟨sH, _, upd_same, Nat.le_refl 2, fun v hv => ?_⟩
                rcases List.mem_cons.mp hv with z | z
                · rw [z]
                  exact oth1.same s6z
                · rw [List.mem_singleton.mp z]
                  have u3 := unlike3 ls b es y
                  exact ⟨d3, dp, q2, ls, es ++ [y], rfl, ⟨by rw [upd_ne n3o]; exact hd3', (h.same sH).hw, by rw [upd_ne n2o]; exact hq2⟩, good3 D hb my.1 nye, u3.1, u3.2⟩
            · exact ⟨rfl, s0e, _, ho_e, by show 1 ≤ 2; decide, fun v hv => by rw [List.mem_singleton.mp hv]; exact oth1.same s6e⟩
            · rintro σ Hk ⟨rfl, sk, vs, hok, lvs, all⟩
              refine ⟨_, rfl, o1, rfl, ⟨_, SqL.of hok⟩, fun B4 nB4 => ?_⟩
              refine lc_keep walk_list nB4 (fun _ => []) rfl (fun _ _ => Nat.zero_le _) (fun H' s' => SqL.of (s' _ _ hok)) ?_ ?_
              · rintro i v Ha Hb Pn hi sa ⟨rfl, ev⟩ fin skip
                obtain ⟨d, dpx, exx, ls', es', rfl, pg, gd, q1, q2⟩ := (all v (List.mem_of_getElem? ev)).same sa
                have hpb := hp.same (sk.trans sa)
                refine ⟨rfl, _, rfl, d, dpx, exx, ls', b, es', rfl, pg, gd, fun H1' x1 dx1 L1 S1 F1 s1' nx1 nL1 nS1 nF1 pr1 => ?_⟩
                refine ⟨_, rfl, x1, dx1, _, .ref C, rfl, pr1.ins, .base (.ins (hpb.same s1').ins M.cl.cl M.tt.ha M.tt.hn M.tt.htk M.tt.hm), M.nfC, x1, dx1, L1, S1, F1, _, .ref x, rfl, pr1, .inl ⟨x, dx, L, S, F, _, rfl, hpb.same s1', pdok_of gd, pdok_of (D.good hb), _, rfl, _, rfl, LH.iteNS' q1 ?_⟩⟩
                refine ⟨_, rfl, _, rfl, d, dpx, exx, ls', b, es', rfl, pg.same s1', gd, fun H2' x2 dx2 L2' S2 F2 s2' nx2 nL2 nS2 nF2 pr2 => ?_⟩
                have hpc := hpb.same (s1'.trans s2')
                refine ⟨x, dx, _, .ref C, rfl, hpc.ins, .base (.ins pr2.ins M.cl.cl M.tt.ha M.tt.hn M.tt.htk M.tt.hm), M.nfC, x, dx, L, S, F, _, .ref x2, rfl, hpc, .inl ⟨x2, dx2, L2', S2, F2, _, rfl, pr2, pdok_of (D.good hb), pdok_of gd, _, rfl, _, rfl, LH.iteNS' q2 ?_⟩⟩
                exact skip H2' (s1'.trans s2') rfl
              · intro H' s' hB4
                refine ⟨Nat.zero_le _, fun e5 ne5 => ⟨B4, e5, [], [], rfl, rfl, SqL.of (sm ne5 _ _ hB4), SqL.of upd_same, ok0, ok0, ?_⟩⟩
                exact k _ ((sk.trans s').trans (sm ne5))
end
end LW


set_option Elab.async false
set_option linter.all false
set_option maxRecDepth 100000
set_option maxHeartbeats 4000000
namespace LW
open PySem L2 PG
open LH hiding sm top
def revL (ls : List Lk) : List Lk := (srt (keysL ls)).reverse.map fun x => (x, lkp ls x)
theorem revL_keys (ls : List Lk) : keysL (revL ls) = (srt (keysL ls)).reverse := by
  unfold revL
  show List.map _ (List.map _ _) = _
  rw [List.map_map]
  exact List.map_id' _
theorem revL_nodup {ls : List Lk} (n : (keysL ls).Nodup) : (keysL (revL ls)).Nodup := by
  rw [revL_keys]
  exact (List.reverse_perm _).nodup_iff.mpr (srt_nodup n)
theorem revL_mem {ls : List Lk} (n : (keysL ls).Nodup) {l : Lk} : l ∈ revL ls ↔ l ∈ ls := by
  unfold revL
  rw [List.mem_map]
  constructor
  · rintro ⟨x, hx, rfl⟩
    exact lkp_mem (srt_mem.mp (List.mem_reverse.mp hx))
  · intro h
    exact ⟨l.1, List.mem_reverse.mpr (srt_mem.mpr (key_mem h)), by rw [lkp_of n h]⟩
theorem good_exits {ls : List Lk} {b : Str} {es es' : List Str} (g : GoodP ls b es) (p : es'.Perm es) : GoodP ls b es' := { g with
  he := fun z => g.he (by rw [z] at p; exact List.Perm.eq_nil p.symm)
  hs := fun e h => g.hs e (p.mem_iff.mp h)
  hn := p.nodup_iff.mpr g.hn
  leave := fun x hx => (g.leave x hx).mono (fun y hy => p.mem_iff.mpr hy) fun _ z => z }
theorem revL_good {pls : List Str} {ls : List Lk} {es : List Str} (d : Drawn pls ls es) {b : Str} (hb : pls[0]? = some b) : GoodP (revL ls) b es.reverse := by
  have ln : (revL ls).length = ls.length := by
    unfold revL
    rw [List.length_map, List.length_reverse, srt_len]
    exact List.length_map _
  refine good_exits (good_pairs (d.good hb) (fun pr => ?_) ?_ ?_ (revL_nodup d.kn) ?_) (List.reverse_perm es)
  · constructor
    · intro h
      obtain ⟨l, hl, e⟩ := List.mem_map.mp h
      exact List.mem_map.mpr ⟨l, (revL_mem d.kn).mp hl, e⟩
    · intro h
      obtain ⟨l, hl, e⟩ := List.mem_map.mp h
      exact List.mem_map.mpr ⟨l, (revL_mem d.kn).mpr hl, e⟩
  · rw [ln]; exact d.l1
  · rw [ln]; have := d.l2; omega
  · intro x hx
    rw [revL_keys] at hx
    exact menus_ok.2.2.2 x (d.km x (srt_mem.mp (List.mem_reverse.mp hx)))
theorem revL_pd {ls : List Lk} (n : (keysL ls).Nodup) (b : Str) (es : List Str) : pdOf (revL ls) b es.reverse = pdOf ls b es := by
  have e1 : srtL (revL ls) = srtL ls := by
    have k : srt (keysL (revL ls)) = srt (keysL ls) := by
      rw [revL_keys]
      exact srt_congr ((List.reverse_perm _).trans (srt_perm _))
    unfold srtL
    rw [k]
    refine List.map_congr_left fun x hx => ?_
    have m : (x, lkp ls x) ∈ revL ls := (revL_mem n).mpr (lkp_mem (srt_mem.mp hx))
    rw [lkp_of (l := (x, lkp ls x)) (revL_nodup n) m]
  unfold pdOf
  rw [e1, plc_congr fun l => revL_mem n, srt_congr (List.reverse_perm es)]
def kvR (kvs : List (Key × V)) (ws : List Str) : List (Key × V) := ws.map fun x => (Sum.inr x, (valV kvs (Sum.inr x : Key)).getD .non)
theorem lks_sel {K : PySem.W.Frag} {H : Hp} {kvs : List (Key × V)} {ls : List Lk} (h : Lks K H kvs ls) : ∀ {ws : List Str}, (∀ x ∈ ws, x ∈ keysL ls) → Lks K H (kvR kvs ws) (ws.map fun x => (x, lkp ls x))
  | [], _ => .nil
  | x :: ws, m => by
    obtain ⟨t, e, z⟩ := lks_val h (m x List.mem_cons_self)
    refine .cons ⟨rfl, t, ?_, z⟩ (lks_sel h fun y hy => m y (List.mem_cons_of_mem _ hy))
    show (valV kvs (Sum.inr x : Key)).getD .non = .ref t
    rw [e]
    rfl
theorem ProgAt.upd {K : PySem.W.Frag} {C : Addr} {H : Hp} {x dx L S F p : Addr} {d : PD} {o u : HO} (h : ProgAt K C H x dx L S F d) (hp : H p = some u) (k1 : (∃ l, u = .dK l) ∨ ∃ l, u = .lst l) (n1 : L ≠ p) (n2 : S ≠ p) (n3 : F ≠ p) : ProgAt K C (L2.upd H p o) x dx L S F d := by
  obtain ⟨i, ⟨k2, l, lk⟩, q, f⟩ := h
  have nx : x ≠ p := fun z => by
    rw [z, hp] at i
    cases i
    rcases k1 with ⟨l, e⟩ | ⟨l, e⟩
    · cases e
    · cases e
  refine ⟨by rw [upd_ne nx]; exact i, ⟨k2, by rw [upd_ne n1]; exact l, ?_⟩, by rw [upd_ne n2]; exact q, by rw [upd_ne n3]; exact f⟩
  refine PG.Paired.imp (fun _ _ z => ⟨z.1, ?_⟩) lk
  rcases k1 with ⟨l, e⟩ | ⟨l, e⟩
  · subst e
    exact two_dk hp z.2
  · subst e
    exact two_lst hp z.2
/-- the odd values of the law's end -/
def oddWords (l0 : Addr) : List V := [.str "a", .str "abcdefgh", .str "", .str "A", .str "abcdefghi", .str "a b", .str "1", .non, .int 5, .ref l0]
theorem odd_filter (l0 : Addr) : (oddWords l0).filter wordV = [V.str "a", V.str "abcdefgh"] := by
  have h : ∀ x : Str × Bool, x ∈ ([("a", true), ("abcdefgh", true), ("", false), ("A", false), ("abcdefghi", false), ("a b", false), ("1", false)] : List (Str × Bool)) → isWord x.1 = x.2 := by decide +kernel
  have e1 : isWord "a" = true := h ("a", true) (by decide +kernel)
  have e2 : isWord "abcdefgh" = true := h ("abcdefgh", true) (by decide +kernel)
  have e3 : isWord "" = false := h ("", false) (by decide +kernel)
  have e4 : isWord "A" = false := h ("A", false) (by decide +kernel)
  have e5 : isWord "abcdefghi" = false := h ("abcdefghi", false) (by decide +kernel)
  have e6 : isWord "a b" = false := h ("a b", false) (by decide +kernel)
  have e7 : isWord "1" = false := h ("1", false) (by decide +kernel)
  unfold oddWords
  rw [List.filter_cons_of_pos (by exact e1), List.filter_cons_of_pos (by exact e2), List.filter_cons_of_neg (by show ¬ isWord "" = true; rw [e3]; exact Bool.false_ne_true), List.filter_cons_of_neg (by show ¬ isWord "A" = true; rw [e4]; exact Bool.false_ne_true), List.filter_cons_of_neg (by show ¬ isWord "abcdefghi" = true; rw [e5]; exact Bool.false_ne_true),
    List.filter_cons_of_neg (by show ¬ isWord "a b" = true; rw [e6]; exact Bool.false_ne_true), List.filter_cons_of_neg (by show ¬ isWord "1" = true; rw [e7]; exact Bool.false_ne_true), List.filter_cons_of_neg Bool.false_ne_true, List.filter_cons_of_neg Bool.false_ne_true, List.filter_cons_of_neg Bool.false_ne_true]
  rfl
theorem odd_txt {K : PySem.W.Frag} {H : Hp} {l0 : Addr} (h : H l0 = some (.lst [.str "a"])) : ∀ v ∈ oddWords l0, TxtOr K H v := by
  intro v hv
  unfold oddWords at hv
  simp only [List.mem_cons, List.not_mem_nil, or_false] at hv
  rcases hv with rfl | rfl | rfl | rfl | rfl | rfl | rfl | rfl | rfl | rfl
  · exact .str (by decide +kernel)
  · exact .str (by decide +kernel)
  · exact .str (by decide +kernel)
  · exact .str (by decide +kernel)
  · exact .str (by decide +kernel)
  · exact .str (by decide +kernel)
  · exact .str (by decide +kernel)
  · exact .no (.base .non) (kit_ty (by decide +kernel)) fun x z => by cases z
  · exact .no (.base (.int 5)) (kit_ty (by decide +kernel)) fun x z => by cases z
  · exact .no (.base (.lst h)) (kit_ty (by decide +kernel)) fun x z => by cases z
theorem v_snoc {xs : List V} {j : Nat} {x : V} (c : V → Bool) (h : xs[j]? = some x) : (xs.take (j + 1)).filter c = (xs.take j).filter c ++ (if c x then [x] else []) := by
  rw [List.take_add_one, h, List.filter_append]
  congr 1
  show List.filter c [x] = _
  by_cases e : c x = true
  · rw [List.filter_cons_of_pos e, if_pos e]
    rfl
  · rw [List.filter_cons_of_neg e, if_neg e]
    rfl
/-- lc_rel, with the list that is made known to stand -/
theorem lc_relD {β : Type} {J : It} {n : Nat} {G : Hp → Prop} {Y : Nat → Hp → V → Hp → Prop} (w : Walk J n G Y) {g : TG} {tt : TT} {te : TE} {vs : List Nat} {σ : L2.St} {H1 : Hp} {D : Addr} {Qd : Hp → Prop} (nD : H1 D = none) (R : Hp → V → β → Prop) (mono : ∀ {H H' v b}, Same H H' → R H v b → R H' v b) (st : ∀ {H xs ys v b}, H D = some (.lst xs) → R H v b → R (upd H D (.lst ys)) v b)
    (out : Nat → List β) (o0 : out 0 = []) (ol : ∀ i, i ≤ n → (out i).length ≤ 1000) (hG : ∀ H, Same H1 H → G H)
    (hs : ∀ i x H H' (Pn : Hp → Prop), i < n → Same H1 H → (∃ ts, H D = some (.lst ts)) → Y i H x H' → (∀ H4 y b, Same H H4 → R H4 y b → out (i + 1) = out i ++ [b] → ∃ acc, H4 D = some (.lst acc) ∧ acc.length < sizeLine ∧ Pn (upd H4 D (.lst (acc ++ [y])))) →
      g x (wipe σ vs) H' fun σ2 H2 => wipe σ2 vs = wipe σ vs ∧ tt σ2 H2 fun b H3 => if b = true then te σ2 H3 fun y H4 => ∃ acc, H4 D = some (.lst acc) ∧ acc.length < sizeLine ∧ Pn (upd H4 D (.lst (acc ++ [y]))) else Pn H3)
    (hd : ∀ H ts, Same H1 H → H D = some (.lst ts) → Paired (R H) ts (out n) → Qd H) :
    ∃ W : Nat → Nat → Hp → Prop, (∃ m, W 0 m (upd H1 D (.lst []))) ∧ ∀ i m H, W i m H →
      (J.stop i H ∧ Qd H) ∨ (J.go i H ∧ ∃ Nx : Hp → Prop, (∀ H', Nx H' → ∃ m', m' < m ∧ W (i + 1) m' H') ∧ ∀ x H', J.yld i H x H' → g x (wipe σ vs) H' fun σ2 H2 => wipe σ2 vs = wipe σ vs ∧ tt σ2 H2 fun b H3 =>
        if b = true then te σ2 H3 fun y H4 => ∃ acc, H4 D = some (.lst acc) ∧ acc.length < sizeLine ∧ Nx (upd H4 D (.lst (acc ++ [y]))) else Nx H3) := by
  refine lc_it w (fun i H' => Same H1 H' ∧ ∃ ts, H' D = some (.lst ts) ∧ Paired (R H') ts (out i)) ⟨sm nD, [], upd_same, by rw [o0]; exact .nil⟩ (fun i H _ p => hG H p.1) ?_ (fun H ⟨p, ts, q, r⟩ => hd H ts p q r)
  rintro i x H H' hi ⟨s1, ts, hD, hR⟩ y
  refine hs i x H H' _ hi s1 ⟨ts, hD⟩ y (fun H4 z b s4 r e => ?_)
  have lt : ts.length = (out i).length := Paired.length hR
  refine ⟨_, s4 _ _ hD, small1000 (by rw [lt]; exact ol i (Nat.le_of_lt hi)), fun c o q => ?_, _, upd_same, ?_⟩
  · rw [upd_ne (ne_of_none q nD)]
    exact s4 _ _ (s1 c o q)
  · rw [e]
    exact paired_snoc (PG.Paired.imp (fun _ _ q => st (s4 _ _ hD) (mono s4 q)) hR) (st (s4 _ _ hD) r)
theorem paired_all {α β : Type} {R : α → β → Prop} {Q : α → Prop} (h : ∀ a b, R a b → Q a) : ∀ {xs : List α} {ys : List β}, Paired R xs ys → ∀ x ∈ xs, Q x
  | _, _, .nil, _, m => nomatch m
  | _, _, .cons r rs, x, m => by
    rcases List.mem_cons.mp m with e | m
    · rw [e]; exact h _ _ r
    · exact paired_all h rs x m
/-- a new list of a kept heap -/
def NewL (Hj H : Hp) (z : Addr) (n : Nat) (v : V) : Prop := ∃ a xs, v = .ref a ∧ a ≠ z ∧ Hj a = none ∧ H a = some (.lst xs) ∧ xs.length ≤ n
/-- what stands in the list of odd values that no program has -/
theorem odd_no : ("zzzz" : Str) ∉ menuN ∧ ("" : Str) ∉ menuN := by decide +kernel
end LW


set_option Elab.async false
set_option linter.all false
set_option maxRecDepth 100000
set_option maxHeartbeats 4000000
namespace LW
open PySem L2 PG
open LH hiding sm top
abbrev sLaw : Stmt := LH.top 30
section
variable {P : Program} {w : World} {K : PySem.W.Frag} {mg : Str → Option Value} {base : Heap}
abbrev nsLaw : List Str := ["script", "k", "pool", "prog", "pairs", "exits", "made", "entering", "some", "odd", "words", "way", "place", "word"]
theorem scLaw : FnScope nsLaw ["script"] (defScope sLaw) := ⟨rfl, rfl, rfl, by decide +kernel, rfl, by decide +kernel, by decide +kernel⟩
def spLaw (K : PySem.W.Frag) : Sp := fun vs H Q _ => ∃ (a : Addr) (ns : List Int), vs = [.ref a] ∧ SqL K H a (ns.map V.int) ∧ ns.length ≤ 63 ∧ ∀ H', Q (.bl true) H'
/-- the law's own defs -/
structure LD (P : Program) (w : World) (K : PySem.W.Frag) (mg : Str → Option Value) (base : Heap) (C : Addr) : Prop where
  op : ∃ g fd, mg "_law_opened" = some (.ref g) ∧ PySem.W.keepIn K (.ref g) = true ∧ Binds K fd ["script", "k", "many"] [] ∧ FnOk P w K mg base CX0 3 g fd ["script", "k", "many"] (spOpen K)
  pr : ∃ g fd, mg "_law_program" = some (.ref g) ∧ PySem.W.keepIn K (.ref g) = true ∧ Binds K fd ["pool", "most", "more", "rings"] [] ∧ FnOk P w K mg base CX0 3 g fd ["pool", "most", "more", "rings"] (spProgram K)
  md : ∃ g fd, mg "_law_made" = some (.ref g) ∧ PySem.W.keepIn K (.ref g) = true ∧ Binds K fd ["prog"] [] ∧ FnOk P w K mg base CX0 6 g fd ["prog"] (spMade K C)
  pl : ∃ g fd, mg "_law_places" = some (.ref g) ∧ PySem.W.keepIn K (.ref g) = true ∧ Binds K fd ["prog"] [] ∧ FnOk P w K mg base CX0 1 g fd ["prog"] (spLP K)
  ri : ∃ g fd, mg "_law_right" = some (.ref g) ∧ PySem.W.keepIn K (.ref g) = true ∧ Binds K fd ["made", "prog"] [] ∧ FnOk P w K mg base CX0 4 g fd ["made", "prog"] (spRight K C)
  un : ∃ g fd, mg "_law_unlike" = some (.ref g) ∧ PySem.W.keepIn K (.ref g) = true ∧ Binds K fd ["made", "prog"] [] ∧ FnOk P w K mg base CX0 7 g fd ["made", "prog"] (spUnlike K C)
  wo : ∃ g fd, mg "is_word" = some (.ref g) ∧ PySem.W.keepIn K (.ref g) = true ∧ Binds K fd ["value"] [] ∧ FnOk P w K mg base CX0 1 g fd ["value"] (spWord K)
theorem ok_law {f C : Addr} {fd : FuncData} (Fn : Fun K "law" "law" sLaw f fd) (T : PT0 mg) (TL : LT mg) (M : PMs P w K mg base C) (N : LD P w K mg base C) : FnOk P w K mg base CX0 8 f fd ["script"] (spLaw K) := by
  refine Fn.ok scLaw (fun vs H Q E h => ?_) (fun cdv A outer s H vs Q E hr h => ?_)
  · obtain ⟨a, ns, rfl, _⟩ := h
    rfl
  · obtain ⟨a, ns, rfl, hS, hlen, k⟩ := h
    have hu := hu_of hr
    have hr1 : Room 1 _ := hr.mono (by decide)
    have hr2 : Room 2 _ := hr.mono (by decide)
    have hr3 : Room 3 _ := hr.mono (by decide)
    have hr4 : Room 4 _ := hr.mono (by decide)
    have hr5 : Room 5 _ := hr.mono (by decide)
    have hr6 : Room 6 _ := hr.mono (by decide)
    have nd := scLaw.nd
    obtain ⟨gO, fdO, mO, kO, bO, GO⟩ := N.op
    obtain ⟨gP, fdP, mP, kP, bP, GP⟩ := N.pr
    obtain ⟨gM, fdM, mM, kM, bM, GM⟩ := N.md
    obtain ⟨gL, fdL, mL, kL, bL, GL⟩ := N.pl
    obtain ⟨gR, fdR, mR, kR, bR, GR⟩ := N.ri
    obtain ⟨gU, fdU, mU, kU, bU, GU⟩ := N.un
    obtain ⟨gW, fdW, mW, kW, bW, GW⟩ := N.wo
    obtain ⟨gI, fdI, Mi, bI, GI⟩ := M.make
    obtain ⟨gQ, fdQ, fQ, iQ, bQ, GQ⟩ := M.eq
    obtain ⟨gWs, fdWs, mWs, bWs, GWs⟩ := M.ways
    obtain ⟨gPl, fdPl, mPl, bPl, GPl⟩ := M.places
    obtain ⟨gEx, fdEx, mEx, bEx, GEx⟩ := M.exits
    obtain ⟨gH, fdH, fH, iH, bH, GH⟩ := M.has
    obtain ⟨gLv, fdLv, mLv, bLv, GLv⟩ := M.leaving
    obtain ⟨gEt, fdEt, mEt, bEt, GEt⟩ := M.entering
    refine ⟨_, pss_cons (ps_for PassesOwn.never rfl (pi_range1 (by rfl) TL.range (pa_cons (pe_callB (call_max2 rfl) (by rfl) TL.max PyProof.Rows.boot_max (pa_cons pe_int (pa_cons (pe_callB (call_min2 rfl) (by rfl) TL.min PyProof.Rows.boot_min (pa_cons (pe_callB call_len_seq (by rfl) TL.len PySem.boot_len (pa_cons (pv 0) pa_nil)) (pa_cons pe_int pa_nil))) pa_nil))) pa_nil)) (pg_name (i := 1) nd rfl (Or.inl rfl))
        (pss_cons (ps_set (i := 2) nd rfl (Or.inl rfl) (pe_call GO hr3 (by rfl) mO kO bO .nil pass0 (pa_cons (pv 0) (pa_cons (pv 1) (pa_cons pe_int pa_nil)))))
        (pss_cons (ps_set (i := 3) nd rfl (Or.inr rfl) (pe_call GP hr3 (by rfl) mP kP bP .nil pass0 (pa_cons (pv 2) (pa_cons pe_int (pa_cons pe_int (pa_cons pe_bl pa_nil))))))
        (pss_cons (ps_set (i := 4) nd rfl (Or.inl rfl) (pe_callTy (call_dictP rfl) (by rfl) T.dict (by decide +kernel) (pa_cons (pe_lc (own := [("way", 11)]) (g := gName 11) (tt := tYes) rfl nd (pi_list (pe_revL (pe_callB (call_sortedD rfl) (by rfl) T.sorted PyProof.Rows.boot_sorted (pa_cons (pe_dget hu (pv 3) pe_str (fun _ _ => rfl)) pa_nil)))) (blkOk_by (own := [("way", 11)]) (N := nsLaw) (sc := defScope sLaw) (by decide +kernel))
            (fun _ _ _ _ _ => pg_name (i := 11) nd rfl (Or.inl rfl)) (fun _ _ _ _ _ => pts_nil) (fun _ _ _ _ _ => pe_tup (pa_cons (pv 11) (pa_cons (pe_dget hu (pe_dget hu (pv 3) pe_str (fun _ _ => rfl)) (pv 11) (fun _ _ => rfl)) pa_nil)))) pa_nil)))
        (pss_cons (ps_set (i := 5) nd rfl (Or.inl rfl) (pe_revL (pe_dget hu (pv 3) pe_str (fun _ _ => rfl))))
        (pss_cons (ps_set (i := 6) nd rfl (Or.inr rfl) (pe_make Mi GI hr5 (by rfl) M.cl.gC bI .nil pass0 (pa_cons (pv 4) (pa_cons (pe_dget hu (pv 3) pe_str (fun _ _ => rfl)) (pa_cons (pv 5) pa_nil)))))
        (pss_cons (ps_dput hu (pv 4) pe_str (pe_tup (pa_cons pe_str (pa_cons pe_str pa_nil))) rfl)
        (pss_cons (ps_expr (pe_bm PySem.F.plainAttrs_list PySem.F.slot_list_append PySem.F.type_list_append mt_append (pv 5) (pa_cons pe_str pa_nil)))
        (pss_cons (ps_if (PW.pt (pw_or (pt_not (pt_val (pe_call GR hr4 (by rfl) mR kR bR .nil pass0 (pa_cons (pv 6) (pa_cons (pv 3) pa_nil))))) (pw_or (pt_not (pt_cmpR (OW.op_ownEq (C := C) GQ bQ pass0 hr1 fQ iQ) (pv 6) (pe_call GM hr6 (by rfl) mM kM bM .nil pass0 (pa_cons (pv 3) pa_nil)) (nomark _))) (pw_or1 (pt_cmpR (OW.op_ownEq (C := C) GQ bQ pass0 hr1 fQ iQ) (pv 6) pe_int (nomark _)))))) (pss_one (ps_ret pe_bl)) pss_nil)
        (pss_cons (ps_if (pt_not (pt_val (pe_call GU hr (by rfl) mU kU bU .nil pass0 (pa_cons (pv 6) (pa_cons (pv 3) pa_nil))))) (pss_one (ps_ret pe_bl)) pss_nil)
        (pss_cons (ps_setLc (i := 7) (own := [("place", 12)]) (g := gName 12) (tt := tYes) (te := tMeth C "entering" (spLv K C etOf) [] E0 (tVar 6) (tCons (tVar 12) tNil)) rfl nd rfl rfl (sw_true rfl rfl rfl (by decide +kernel)) (pi_list (pe_call GL hr1 (by rfl) mL kL bL .nil pass0 (pa_cons (pv 3) pa_nil))) (blkOk_by (own := [("place", 12)]) (N := nsLaw) (sc := defScope sLaw) (by decide +kernel))
            (fun _ _ _ _ _ => pg_name (i := 12) nd rfl (Or.inl rfl)) (fun _ _ _ _ _ => pts_nil) (fun _ _ _ _ _ => pe_meth (pv 6) M.cl.cl mEt GEt hr2 bEt .nil pass0 (pa_cons (pv 12) pa_nil)))
        (pss_cons (ps_for PassesOwn.never rfl (pi_list (pe_op op_cat (pv 7) (pe_lst (pa_cons (pe_meth0 (pv 6) M.cl.cl mWs GWs hr1 bWs .nil pass0) (pa_cons (pe_meth0 (pv 6) M.cl.cl mPl GPl hr1 bPl .nil pass0) (pa_cons (pe_meth0 (pv 6) M.cl.cl mEx GEx hr1 bEx .nil pass0) (pa_cons (pe_meth (pv 6) M.cl.cl mLv GLv hr2 bLv .nil pass0 (pa_cons (pe_dget hu (pv 3) pe_str (fun _ _ => rfl)) pa_nil)) pa_nil))))))) (pg_name (i := 8) nd rfl (Or.inl rfl))
            (pss_one (ps_expr (pe_bm PySem.F.plainAttrs_list PySem.F.slot_list_append PySem.F.type_list_append mt_append (pv 8) (pa_cons pe_str pa_nil)))))
        (pss_cons (ps_if (pt_not (pt_val (pe_call GR hr4 (by rfl) mR kR bR .nil pass0 (pa_cons (pv 6) (pa_cons (pv 3) pa_nil))))) (pss_one (ps_ret pe_bl)) pss_nil)
        (pss_one (ps_for PassesOwn.never rfl (pi_list (pe_lst (pa_cons pe_non (pa_cons pe_int (pa_cons pe_str (pa_cons (pe_tup (pa_cons pe_str pa_nil)) (pa_cons (pe_lst (pa_cons pe_str pa_nil)) (pa_cons pe_str pa_nil)))))))) (pg_name (i := 9) nd rfl (Or.inl rfl))
            (pss_one (ps_if (pt_cmpR (OW.op_ownIn (C := C) GH bH pass0 hr2 fH iH) (pv 9) (pv 6) rfl) (pss_one (ps_ret pe_bl)) pss_nil)))))))))))))))))
      (pss_cons (ps_setLc (i := 10) (own := [("word", 13)]) (g := gName 13) (tt := tB (tCall (spWord K) [] E0 (tCons (tVar 13) tNil))) rfl nd rfl rfl (sw_true rfl rfl rfl (by decide +kernel)) (pi_list (pe_lst (pa_cons pe_str (pa_cons pe_str (pa_cons pe_str (pa_cons pe_str (pa_cons pe_str (pa_cons pe_str (pa_cons pe_str (pa_cons pe_non (pa_cons pe_int (pa_cons (pe_lst (pa_cons pe_str pa_nil)) pa_nil)))))))))))) (blkOk_by (own := [("word", 13)]) (N := nsLaw) (sc := defScope sLaw) (by decide +kernel))
          (fun _ _ _ _ _ => pg_name (i := 13) nd rfl (Or.inl rfl)) (fun _ _ _ _ _ => pts_one (pt_val (pe_call GW hr1 (by rfl) mW kW bW .nil pass0 (pa_cons (pv 13) pa_nil)))) (fun _ _ _ _ _ => pv 13))
      (pss_one (ps_ret (pe_cmpR (OW.op_eqTx hr.units) (pv 10) (pe_lst (pa_cons pe_str (pa_cons pe_str pa_nil))) (nomark _))))), ?_⟩
    -- for k in range(max(1, min(len(script), 6)))
    refine ⟨_, rfl, a, _, rfl, .inl hS, _, _, rfl, _, _, rfl, ?_⟩
    rw [List.length_map]
    obtain ⟨mx, eM, hM6, hMn⟩ : ∃ M : Nat, (if (if (6 : Int) < ((ns.length : Nat) : Int) then (6 : Int) else ((ns.length : Nat) : Int)) > 1 then (if (6 : Int) < ((ns.length : Nat) : Int) then (6 : Int) else ((ns.length : Nat) : Int)) else 1) = (M : Int) ∧ M ≤ 6 ∧ (ns = [] ∨ M ≤ ns.length) := by
      cases ns with
      | nil => exact ⟨1, by simp, by decide, .inl rfl⟩
      | cons n ns =>
        by_cases h6 : (6 : Int) < (((n :: ns).length : Nat) : Int)
        · exact ⟨6, by rw [if_pos h6]; decide, Nat.le_refl _, .inr (by omega)⟩
        · by_cases h1 : (((n :: ns).length : Nat) : Int) > 1
          · exact ⟨(n :: ns).length, by rw [if_neg h6, if_pos h1], by omega, .inr (Nat.le_refl _)⟩
          · exact ⟨1, by rw [if_neg h6, if_neg h1]; rfl, by decide, .inr (by simp)⟩
    rw [eM]
    refine ⟨_, rfl, by omega, by omega, ?_⟩
    rw [Int.toNat_natCast]
    refine for_range (lo := 0) (n := mx) (fun i σ H' => ∃ (v1 v2 v3 v4 v5 v6 v7 v8 v9 : Option V), σ = [some (.ref a), v1, v2, v3, v4, v5, v6, v7, v8, v9, none, none, none, none] ∧ Same H H') ⟨_, _, _, _, _, _, _, _, _, rfl, Same.refl H⟩ ?_ ?_
    · rintro i σ H0 hi ⟨v1, v2, v3, v4, v5, v6, v7, v8, v9, rfl, s0⟩
      refine ⟨_, rfl, _, rfl, a, ns, i, 50, by rw [Int.zero_add]; rfl, s0.seq hS, ?_, by omega, by decide, fun p q rs H1 np nq s1 hP hl => ?_⟩
      · rcases hMn with e | e
        · exact .inl e
        · exact .inr (by omega)
      refine ⟨_, rfl, p, q, rs, 0, 6, 4, rfl, hP, by decide, by decide, by decide, fun r dp ex pls ls es b H2 i' nr ndp nex D hb l6 b12 hP2 h => ?_⟩
      have s02 : Same H H2 := fun c o e => b12 c o (fun z => by rw [z] at e; rw [s0 _ _ e] at np; cases np) (s1 _ _ (s0 _ _ e))
      obtain ⟨kvs, hd, lk⟩ := h.hw
      have kl : (keysL ls).length = ls.length := List.length_map _
      have n1 := D.l1
      have n12 := D.l2
      have Gd := D.good hb
      -- pairs = dict([..])
      refine ⟨_, rfl, r, _, rfl, get_ways h, dp, kvs, keysL ls, rfl, .inl hd, lks_keys lk, by omega, fun ys p0 perm sr np0 => ?_⟩
      obtain rfl := srt_of perm sr
      refine ⟨p0, _, rfl, SqL.of upd_same, fun p1 np1 => ?_⟩
      rw [← List.map_reverse]
      have s23 : Same H2 (upd (upd H2 p0 (.lst ((srt (keysL ls)).map V.str))) p1 (.lst ((srt (keysL ls)).reverse.map V.str))) := (sm np0).trans (sm np1)
      have hp1 : (upd (upd H2 p0 (.lst ((srt (keysL ls)).map V.str))) p1 (.lst ((srt (keysL ls)).reverse.map V.str))) p1 = some (.lst ((srt (keysL ls)).reverse.map V.str)) := upd_same
      generalize upd (upd H2 p0 (.lst ((srt (keysL ls)).map V.str))) p1 (.lst ((srt (keysL ls)).reverse.map V.str)) = H3 at s23 hp1
      have h3 := h.same s23
      have hd3 := s23 _ _ hd
      have lk3 := lk.same s23
      refine ⟨p1, rfl, ⟨_, SqL.of hp1⟩, fun B nB => ?_⟩
      have mk : ∀ x ∈ (srt (keysL ls)).reverse, x ∈ keysL ls := fun x hx => srt_mem.mp (List.mem_reverse.mp hx)
      have kln : (kvR kvs (srt (keysL ls)).reverse).length ≤ 12 := by
        unfold kvR
        rw [List.length_map, List.length_reverse, srt_len]
        omega
      refine lc_rel walk_list nB (PairT K) (fun s h => pairT_same s h) (fun hD h => pairT_lst hD h) (fun i => (kvR kvs (srt (keysL ls)).reverse).take i) rfl (fun i _ => Nat.le_trans (List.length_take_le' i _) (by omega)) (fun H' s => SqL.of (s _ _ hp1)) ?_ ?_
      · rintro j v Ha Hb Pn hj sa ⟨rfl, ev⟩ fin skip
        obtain ⟨y, hy, rfl⟩ : ∃ y, (srt (keysL ls)).reverse[j]? = some y ∧ v = .str y := by
          rw [List.getElem?_map] at ev
          cases e : (srt (keysL ls)).reverse[j]? with
          | none => rw [e] at ev; cases ev
          | some y => rw [e] at ev; exact ⟨y, rfl, (Option.some.inj ev).symm⟩
        obtain ⟨t, et, ht⟩ := lks_val lk3 (mk y (List.mem_of_getElem? hy))
        refine ⟨rfl, ?_⟩
        unfold tYes
        dsimp only
        rw [if_pos rfl]
        refine ⟨_, rfl, _, rfl, r, _, rfl, get_ways (h3.same sa), _, rfl, dp, .ref t, rfl, ?_, by show 2 ≤ sizeLine; decide, fun q nq => ?_⟩
        · rw [← et]
          exact .inl ⟨kvs, Sum.inr y, .inl (sa _ _ hd3), rfl, rfl⟩
        · refine fin _ _ (Sum.inr y, .ref t) (sm nq) ⟨q, rfl, SqT.of upd_same⟩ ?_
          have e : (kvR kvs (srt (keysL ls)).reverse)[j]? = some (Sum.inr y, .ref t) := by
            unfold kvR
            rw [List.getElem?_map, hy]
            show some (Sum.inr y, (valV kvs (Sum.inr y : Key)).getD .non) = _
            rw [et]
            rfl
          rw [List.take_add_one, e]
          rfl
      · intro H4 ts s34 hB4 rB
        have etk : (kvR kvs (srt (keysL ls)).reverse).take ((srt (keysL ls)).reverse.map V.str).length = kvR kvs (srt (keysL ls)).reverse := by
          refine List.take_of_length_le ?_
          unfold kvR
          rw [List.length_map, List.length_map]
          exact Nat.le_refl _
        rw [etk] at rB
        obtain ⟨ps, rfl, hps⟩ := pairT_refs rB
        refine ⟨B, ps, _, rfl, SqL.of hB4, hps, fun pp npp => ?_⟩
        have s24 := s23.trans s34
        have lkR : Lks K H4 (kvR kvs (srt (keysL ls)).reverse) (revL ls) := lks_sel (lk.same s24) mk
        rw [merge_lks lkR (revL_nodup D.kn)]
        have s45 : Same H4 (upd H4 pp (.dK (kvR kvs (srt (keysL ls)).reverse))) := sm npp
        have hpp5 : (upd H4 pp (.dK (kvR kvs (srt (keysL ls)).reverse))) pp = some (.dK (kvR kvs (srt (keysL ls)).reverse)) := upd_same
        have Hpp : H2 pp = none := by
          cases z : H2 pp with
          | none => rfl
          | some o => rw [s24 _ _ z] at npp; cases npp
        show tSeq _ _ _ _ (upd H4 pp (.dK (kvR kvs (srt (keysL ls)).reverse)))
        generalize upd H4 pp (.dK (kvR kvs (srt (keysL ls)).reverse)) = H5 at s45 hpp5
        have s25 := s24.trans s45
        have h5 := h.same s25
        have lkR5 := Lks.same lkR s45
        -- exits = prog["exits"][::-1]
        refine ⟨_, rfl, r, _, rfl, get_exits h5, ex, _, rfl, SqL.of h5.he, fun eq neq => ?_⟩
        rw [← List.map_reverse]
        have s56 : Same H5 (upd H5 eq (.lst (es.reverse.map V.str))) := sm neq
        have heq6 : (upd H5 eq (.lst (es.reverse.map V.str))) eq = some (.lst (es.reverse.map V.str)) := upd_same
        have Heq : H2 eq = none := by
          cases z : H2 eq with
          | none => rfl
          | some o => rw [s25 _ _ z] at neq; cases neq
        show tSeq _ _ _ _ (upd H5 eq (.lst (es.reverse.map V.str)))
        generalize upd H5 eq (.lst (es.reverse.map V.str)) = H6 at s56 heq6
        have s26 := s25.trans s56
        have h6' := h.same s26
        have hpp6 := s56 _ _ hpp5
        -- made = Program(..)
        refine ⟨_, rfl, _, rfl, r, _, rfl, get_begin h6', _, rfl, ?_⟩
        refine init_new hpp6 (Lks.same lkR5 s56) heq6 (revL_good D hb) fun H7 x dx L S F s67 nx nL nS nF pr => ?_
        rw [revL_pd D.kn] at pr
        have s27 := s26.trans s67
        -- pairs["zz"] = ("a", "b")
        refine ⟨by show 2 ≤ sizeLine; decide, fun t nt => ?_⟩
        have s78 : Same H7 (upd H7 t (.tup [.str "a", .str "b"])) := sm nt
        have pr8 := pr.same s78
        have s28 := s27.trans s78
        have hpp8 := s78 _ _ (s67 _ _ hpp6)
        have heq8 := s78 _ _ (s67 _ _ heq6)
        generalize upd H7 t (.tup [.str "a", .str "b"]) = H8 at s78 pr8 s28 hpp8 heq8
        have Lpp : L ≠ pp := fun z => by rw [z, hpp6] at nL; cases nL
        have Spp : S ≠ pp := fun z => by rw [z, hpp6] at nS; cases nS
        have Fpp : F ≠ pp := fun z => by rw [z, hpp6] at nF; cases nF
        have Leq : L ≠ eq := fun z => by rw [z, heq6] at nL; cases nL
        have Seq : S ≠ eq := fun z => by rw [z, heq6] at nS; cases nS
        have Feq : F ≠ eq := fun z => by rw [z, heq6] at nF; cases nF
        have nLd : L ≠ dp := fun z => by rw [z, s26 _ _ hd] at nL; cases nL
        refine ⟨_, rfl, pp, _, rfl, DPut.k (k := Sum.inr "zz") hpp8 (small1000 (by omega)), ?_⟩
        obtain ⟨kz, ekz⟩ : ∃ kz, kz = putK (kvR kvs (srt (keysL ls)).reverse) (Sum.inr "zz" : Key) (.ref t) := ⟨_, rfl⟩
        rw [← ekz]
        have pr9 : ProgAt K C (upd H8 pp (.dK kz)) x dx L S F (pdOf ls b es) := ProgAt.upd pr8 hpp8 (.inl ⟨_, rfl⟩) Lpp Spp Fpp
        have s29 : Same H2 (upd H8 pp (.dK kz)) := fun c o e => by
          rw [upd_ne (ne_of_none e Hpp)]
          exact s28 _ _ e
        have heq9 : (upd H8 pp (.dK kz)) eq = some (.lst (es.reverse.map V.str)) := by
          rw [upd_ne (ne_of heq8 hpp8 (by intro z; cases z))]
          exact heq8
        show tSeq _ _ _ _ (upd H8 pp (.dK kz))
        generalize upd H8 pp (.dK kz) = H9 at pr9 s29 heq9
        -- exits.append("qq")
        have es7 : es.length ≤ 7 := by
          have z := nodup_le D.exn D.ex1
          have := D.n7
          omega
        refine ⟨_, rfl, .inl ⟨rfl, _, SqL.of heq9⟩, eq, _, _, rfl, rfl, heq9, small1000 (by rw [List.length_map, List.length_reverse]; omega), ?_⟩
        have prA : ProgAt K C (upd H9 eq (.lst (es.reverse.map V.str ++ [V.str "qq"]))) x dx L S F (pdOf ls b es) := ProgAt.upd pr9 heq9 (.inr ⟨_, rfl⟩) Leq Seq Feq
        have s2A : Same H2 (upd H9 eq (.lst (es.reverse.map V.str ++ [V.str "qq"]))) := fun c o e => by
          rw [upd_ne (ne_of_none e Heq)]
          exact s29 _ _ e
        show tSeq _ _ _ _ (upd H9 eq (.lst (es.reverse.map V.str ++ [V.str "qq"])))
        generalize upd H9 eq (.lst (es.reverse.map V.str ++ [V.str "qq"])) = HA at prA s2A
        have hA := h.same s2A
        have pok := pdok_of Gd
        -- right, == , == 5
        refine ⟨_, rfl, _, rfl, x, dx, L, S, F, r, dp, ex, pls, ls, b, es, rfl, prA, hA, D, nLd, fun HB sB => ⟨_, rfl, iteNF ?_⟩⟩
        have prB := prA.same sB
        refine ⟨_, rfl, _, rfl, r, dp, ex, ls, b, es, rfl, hA.same sB, Gd, fun HC x2 dx2 L2' S2 F2 sC nx2 nL2 nS2 nF2 pr2 => ?_⟩
        have prC := prB.same sC
        refine ⟨x, dx, _, .ref C, rfl, prC.ins, .base (.ins pr2.ins M.cl.cl M.tt.ha M.tt.hn M.tt.htk M.tt.hm), M.nfC, x, dx, L, S, F, _, .ref x2, rfl, prC, .inl ⟨x2, dx2, L2', S2, F2, _, rfl, pr2, pok, pok, _, rfl, _, rfl, LH.iteNS' (by rw [like2 D.kn, decide_eq_true rfl]; rfl) ?_⟩⟩
        refine ⟨_, rfl, x, dx, _, .type "int", rfl, prC.ins, .base (.int 5), M.nfI, x, dx, L, S, F, _, .int 5, rfl, prC, .inr ⟨.type "int", .base (.int 5), M.isI, _, rfl, _, rfl, iteF ?_⟩⟩
        have hC := hA.same (sB.trans sC)
        -- unlike
        refine ⟨_, rfl, _, rfl, x, dx, L, S, F, r, dp, ex, pls, ls, b, es, rfl, prC, hC, D, hb, l6, nLd, fun Hj sj => ⟨_, rfl, iteNF ?_⟩⟩
        have prJ := prC.same sj
        have hJ := hC.same sj
        have s2J : Same H2 Hj := s2A.trans (sB.trans (sC.trans sj))
        have p7 := D.plc
        have l40 : (pdOf ls b es).ls.length ≤ 40 := by
          show (srtL ls).length ≤ 40
          rw [srtL_len]
          omega
        have sel12 : ∀ c : Lk → Bool, (keysL ((srtL ls).filter c)).length ≤ 50 := fun c => by
          show (List.map _ _).length ≤ 50
          rw [List.length_map]
          have z := List.length_filter_le c (srtL ls)
          rw [srtL_len] at z
          omega
        -- entering
        refine ⟨_, rfl, r, dp, ex, pls, ls, b, es, rfl, hJ, D, fun Hk pk sk npk hpk => ⟨pk, rfl, ⟨_, SqL.of hpk⟩, fun B7 nB7 => ?_⟩⟩
        refine lc_relD (β := Unit) walk_list nB7 (fun H' v _ => NewL Hj H' B7 50 v) (fun s ⟨a, xs, e, n, m, h, l⟩ => ⟨a, xs, e, n, m, s _ _ h, l⟩) (fun {H' xs ys v b} hD ⟨a, zs, e, n, m, h, l⟩ => ⟨a, zs, e, n, m, by rw [upd_ne n]; exact h, l⟩) (fun i => List.replicate i ()) rfl (fun i hi => by rw [List.length_replicate]; rw [List.length_map] at hi; omega) (fun H' s' => SqL.of (s' _ _ hpk)) ?_ ?_
        · rintro j v Ha Hb Pn hj sa ⟨ts, hts⟩ ⟨rfl, ev⟩ fin
          obtain ⟨pl, hpl, rfl⟩ : ∃ pl, (plc ls)[j]? = some pl ∧ v = .str pl := by
            rw [List.getElem?_map] at ev
            cases e : (plc ls)[j]? with
            | none => rw [e] at ev; cases ev
            | some pl => rw [e] at ev; exact ⟨pl, rfl, (Option.some.inj ev).symm⟩
          have pra := prJ.same (sk.trans sa)
          refine ⟨rfl, ?_⟩
          unfold tYes
          dsimp only
          rw [if_pos rfl]
          refine ⟨_, rfl, x, dx, _, rfl, pra.ins, rfl, _, rfl, x, dx, L, S, F, _, pl, rfl, pra, List.mem_of_getElem? hpl, srtL_nodup D.kn, l40, fun r1 Hc nr1 sc hc => ?_⟩
          refine fin Hc _ () sc ⟨r1, _, rfl, fun z => ?_, ?_, hc, ?_⟩ List.replicate_succ'
          · rw [z, hts] at nr1
            cases nr1
          · cases z : Hj r1 with
            | none => rfl
            | some o => rw [sa _ _ (sk _ _ z)] at nr1; cases nr1
          · rw [List.length_map]
            exact sel12 _
        · intro Hl ts skl hB7 rB7
          have sjl := sk.trans skl
          have tl : ts.length ≤ 7 := by
            have z := Paired.length rB7
            rw [List.length_replicate, List.length_map] at z
            omega
          have prL := prJ.same sjl
          have hLL := hJ.same sjl
          have mb : b ∈ (pdOf ls b es).ps := plc_mem.mpr Gd.hb
          -- for some in ..
          refine ⟨_, rfl, _, rfl, x, dx, _, rfl, prL.ins, rfl, x, dx, L, S, F, _, rfl, prL, fun c1 Hm nc1 sm1 hc1 => ?_⟩
          have pr1 := prL.same sm1
          refine ⟨_, rfl, x, dx, _, rfl, pr1.ins, rfl, x, dx, L, S, F, _, rfl, pr1, fun c2 Hn nc2 sm2 hc2 => ?_⟩
          have pr2' := pr1.same sm2
          refine ⟨_, rfl, x, dx, _, rfl, pr2'.ins, rfl, x, dx, L, S, F, _, rfl, pr2', fun c3 Ho nc3 sm3 hc3 => ?_⟩
          have pr3 := pr2'.same sm3
          refine ⟨_, rfl, x, dx, _, rfl, pr3.ins, rfl, _, rfl, r, _, rfl, get_begin (hLL.same (sm1.trans (sm2.trans sm3))), x, dx, L, S, F, _, b, rfl, pr3, mb, srtL_nodup D.kn, l40, fun c4 Hp4 nc4 sm4 hc4 => ?_⟩
          refine ⟨by show 4 ≤ sizeLine; decide, fun l4 nl4 => ?_⟩
          have slp := sm1.trans (sm2.trans (sm3.trans sm4))
          have s4 := sm (o := .lst [.ref c1, .ref c2, .ref c3, .ref c4]) nl4
          refine ⟨B7, l4, _, _, rfl, rfl, s4 _ _ (slp _ _ hB7), upd_same, by rw [sizeLine_eq]; show ts.length + 4 ≤ _; omega, fun l5 nl5 => ?_⟩
          have s5 := sm (o := .lst (ts ++ [.ref c1, .ref c2, .ref c3, .ref c4])) nl5
          have sAll := (sjl.trans slp).trans (s4.trans s5)
          have slz := slp.trans (s4.trans s5)
          have hl5 : (upd (upd Hp4 l4 (.lst [.ref c1, .ref c2, .ref c3, .ref c4])) l5 (.lst (ts ++ [.ref c1, .ref c2, .ref c3, .ref c4]))) l5 = some (.lst (ts ++ [.ref c1, .ref c2, .ref c3, .ref c4])) := upd_same
          have frJ : ∀ {y : Addr}, Hl y = none → Hj y = none := fun {y} z => by
            cases q : Hj y with
            | none => rfl
            | some o => rw [sjl _ _ q] at z; cases z
          have n5 : ∀ {y : Addr} {o : HO}, Hp4 y = some o → y ≠ l5 := fun {y o} q z => by
            rw [z] at q
            rw [s4 _ _ q] at nl5
            cases nl5
          have fr2 : ∀ {y : Addr} {Hx : Hp}, Same Hl Hx → Hx y = none → Hj y = none := fun {y Hx} q z => frJ (by
            cases w : Hl y with
            | none => rfl
            | some o => rw [q _ _ w] at z; cases z)
          have news : ∀ v ∈ ts ++ [V.ref c1, .ref c2, .ref c3, .ref c4], NewL Hj (upd (upd Hp4 l4 (.lst [.ref c1, .ref c2, .ref c3, .ref c4])) l5 (.lst (ts ++ [.ref c1, .ref c2, .ref c3, .ref c4]))) l5 50 v := fun v hv => by
            rcases List.mem_append.mp hv with z | z
            · obtain ⟨a, xs, e, _, m, q, l⟩ := paired_all (Q := NewL Hj Hl B7 50) (fun _ _ q => q) rB7 v z
              exact ⟨a, xs, e, n5 (slp _ _ q), m, slz _ _ q, l⟩
            · simp only [List.mem_cons, List.not_mem_nil, or_false] at z
              rcases z with rfl | rfl | rfl | rfl
              · have q := sm4 _ _ (sm3 _ _ (sm2 _ _ hc1))
                refine ⟨c1, _, rfl, n5 q, frJ nc1, s5 _ _ (s4 _ _ q), ?_⟩
                rw [List.length_map]
                show (keysL (srtL ls)).length ≤ 50
                rw [srtL_keys, srt_len]
                omega
              · have q := sm4 _ _ (sm3 _ _ hc2)
                refine ⟨c2, _, rfl, n5 q, fr2 sm1 nc2, s5 _ _ (s4 _ _ q), ?_⟩
                rw [List.length_map]
                show (plc ls).length ≤ 50
                omega
              · have q := sm4 _ _ hc3
                refine ⟨c3, _, rfl, n5 q, fr2 (sm1.trans sm2) nc3, s5 _ _ (s4 _ _ q), ?_⟩
                rw [List.length_map]
                show (srt es).length ≤ 50
                rw [srt_len]
                omega
              · refine ⟨c4, _, rfl, n5 hc4, fr2 (sm1.trans (sm2.trans sm3)) nc4, s5 _ _ (s4 _ _ hc4), ?_⟩
                rw [List.length_map]
                exact sel12 _
          have lal : (ts ++ [V.ref c1, .ref c2, .ref c3, .ref c4]).length ≤ 11 := by
            rw [List.length_append]
            show ts.length + 4 ≤ 11
            omega
          have Hjl5 : Hj l5 = none := by
            cases q : Hj l5 with
            | none => rfl
            | some o => rw [s4 _ _ (slp _ _ (sjl _ _ q))] at nl5; cases nl5
          generalize upd (upd Hp4 l4 (.lst [.ref c1, .ref c2, .ref c3, .ref c4])) l5 (.lst (ts ++ [.ref c1, .ref c2, .ref c3, .ref c4])) = Hq at sAll hl5 news
          generalize ts ++ [V.ref c1, .ref c2, .ref c3, .ref c4] = all at hl5 news lal
          refine ⟨l5, rfl, ⟨_, SqL.of hl5⟩, for_it walk_list (fun j σ H' => ∃ v8' : Option V, σ = [some (.ref a), some (.int (0 + (i : Nat))), some (.ref p), some (.ref r), some (.ref pp), some (.ref eq), some (.ref x), some (.ref B7), v8', v9, none, none, none, none] ∧ Same Hj H' ∧ H' l5 = some (.lst all) ∧ ∀ v ∈ all, NewL Hj H' l5 (50 + j) v) ⟨v8, rfl, sAll, hl5, fun v hv => news v hv⟩ (fun j σ H' _ ⟨_, _, _, z, _⟩ => SqL.of z) ?_ ?_⟩
          · rintro j v σ Hs Ht hj ⟨v8', rfl, ss, hl, nw⟩ ⟨rfl, ev⟩
            obtain ⟨c, xs, rfl, nc5, ncj, hc, lc⟩ := nw v (List.mem_of_getElem? ev)
            refine ⟨_, rfl, .inl ⟨rfl, _, SqL.of hc⟩, c, _, _, rfl, rfl, hc, small1000 (by omega), ?_⟩
            refine ⟨_, rfl, fun y o e => ?_, ?_, fun v' hv' => ?_⟩
            · rw [upd_ne (ne_of_none e ncj)]
              exact ss _ _ e
            · rw [upd_ne nc5.symm]
              exact hl
            · obtain ⟨c', xs', e', n', m', h', l'⟩ := nw v' hv'
              by_cases z : c' = c
              · refine ⟨c', _, e', n', m', by rw [z]; exact upd_same, ?_⟩
                rw [List.length_append]
                show xs.length + 1 ≤ _
                omega
              · exact ⟨c', xs', e', n', m', by rw [upd_ne z]; exact h', by omega⟩
          · rintro σ Hs ⟨v8', rfl, ss, hl, nw⟩
            have prS := prJ.same ss
            have hSS := hJ.same ss
            -- right, again
            refine ⟨_, rfl, _, rfl, x, dx, L, S, F, r, dp, ex, pls, ls, b, es, rfl, prS, hSS, D, nLd, fun Hu su => ⟨_, rfl, iteNF ?_⟩⟩
            have prU := prS.same su
            -- odd values
            refine ⟨by show 1 ≤ sizeLine; decide, fun tq ntq => ⟨by show 1 ≤ sizeLine; decide, fun lq nlq => ⟨by show 6 ≤ sizeLine; decide, fun l6' nl6 => ?_⟩⟩⟩
            have su1 := sm (o := .tup [.str "p"]) ntq
            have su2 := sm (o := .lst [.str "p"]) nlq
            have su3 := sm (o := .lst [.non, .int 5, .str "zzzz", .ref tq, .ref lq, .str ""]) nl6
            have suv := su1.trans (su2.trans su3)
            have htq := su3 _ _ (su2 _ _ (upd_same (H := Hu) (a := tq) (o := .tup [.str "p"])))
            have hlq := su3 _ _ (upd_same (H := upd Hu tq (.tup [.str "p"])) (a := lq) (o := .lst [.str "p"]))
            have hl6 : (upd (upd (upd Hu tq (.tup [.str "p"])) lq (.lst [.str "p"])) l6' (.lst [.non, .int 5, .str "zzzz", .ref tq, .ref lq, .str ""])) l6' = some (.lst [.non, .int 5, .str "zzzz", .ref tq, .ref lq, .str ""]) := upd_same
            have prV := prU.same suv
            generalize upd (upd (upd Hu tq (.tup [.str "p"])) lq (.lst [.str "p"])) l6' (.lst [.non, .int 5, .str "zzzz", .ref tq, .ref lq, .str ""]) = Hv at hl6 prV suv htq hlq
            have s0V : Same H Hv := s02.trans (s2J.trans (ss.trans (su.trans suv)))
            refine ⟨l6', rfl, ⟨_, SqL.of hl6⟩, for_it walk_list (fun j σ H' => ∃ v9' : Option V, σ = [some (.ref a), some (.int (0 + (i : Nat))), some (.ref p), some (.ref r), some (.ref pp), some (.ref eq), some (.ref x), some (.ref B7), v8', v9', none, none, none, none] ∧ H' = Hv) ⟨v9, rfl, rfl⟩ (fun j σ H' _ ⟨_, _, z⟩ => by rw [z]; exact SqL.of hl6) ?_ ?_⟩
            · rintro j v σ Hs' Ht hj ⟨v9', rfl, rfl⟩ ⟨rfl, ev⟩
              refine ⟨_, rfl, _, rfl, x, dx, _, rfl, prV.ins, x, dx, L, S, F, _, v, rfl, prV, ?_⟩
              have no : ∀ y : Str, y ∉ menuN → decide (y ∈ keysL (pdOf ls b es).ls) = false := fun y hy => decide_eq_false fun z => hy (D.km y (srt_mem.mp (by
                rw [← srtL_keys]
                exact z)))
              have mv := List.mem_of_getElem? ev
              simp only [List.mem_cons, List.not_mem_nil, or_false] at mv
              rcases mv with rfl | rfl | rfl | rfl | rfl | rfl
              · exact .inr ⟨_, .base .non, kit_ty (by decide +kernel), _, rfl, _, rfl, iteF ⟨_, rfl, rfl⟩⟩
              · exact .inr ⟨_, .base (.int 5), kit_ty (by decide +kernel), _, rfl, _, rfl, iteF ⟨_, rfl, rfl⟩⟩
              · exact .inl ⟨_, rfl, _, rfl, _, rfl, LH.iteNS' (no _ odd_no.1) ⟨_, rfl, rfl⟩⟩
              · exact .inr ⟨_, .base (.tup htq), kit_ty (by decide +kernel), _, rfl, _, rfl, iteF ⟨_, rfl, rfl⟩⟩
              · exact .inr ⟨_, .base (.lst hlq), kit_ty (by decide +kernel), _, rfl, _, rfl, iteF ⟨_, rfl, rfl⟩⟩
              · exact .inl ⟨_, rfl, _, rfl, _, rfl, LH.iteNS' (no _ odd_no.2) ⟨_, rfl, rfl⟩⟩
            · rintro σ Hs' ⟨v9', rfl, rfl⟩
              exact ⟨_, _, _, _, _, _, _, _, _, rfl, s0V⟩
    · rintro σ H' ⟨v1, v2, v3, v4, v5, v6, v7, v8, v9, rfl, s0⟩
      refine ⟨by show 1 ≤ sizeLine; decide, fun l0 nl0 => ⟨by show 10 ≤ sizeLine; decide, fun l1 nl1 => ?_⟩⟩
      have t1 := sm (o := .lst [.str "a"]) nl0
      have t2 := sm (o := .lst (oddWords l0)) nl1
      have h0 := t2 _ _ (upd_same (H := H') (a := l0) (o := .lst [.str "a"]))
      have h1 : (upd (upd H' l0 (.lst [.str "a"])) l1 (.lst (oddWords l0))) l1 = some (.lst (oddWords l0)) := upd_same
      refine ⟨l1, rfl, ⟨_, SqL.of (xs := oddWords l0) h1⟩, fun B nB => ?_⟩
      have nB' : (upd (upd H' l0 (.lst [.str "a"])) l1 (.lst (oddWords l0))) B = none := nB
      refine lc_keep (walk_list (xs := oddWords l0)) nB' (fun i => ((oddWords l0).take i).filter wordV) rfl (fun i _ => Nat.le_trans (List.length_filter_le _ _) (Nat.le_trans (List.length_take_le' i _) (by show 10 ≤ 1000; decide))) (fun H'' s' => SqL.of (s' _ _ h1)) ?_ ?_
      · rintro i v Ha Hb Pn hi sa ⟨rfl, ev⟩ fin skip
        have sn := v_snoc wordV ev
        refine ⟨rfl, _, rfl, v, rfl, (odd_txt h0 v (List.mem_of_getElem? ev)).same sa, fun Hc sc => ⟨_, rfl, iteB (fun c => ?_) (fun c => ?_)⟩⟩
        · refine ⟨_, rfl, fin Hc _ sc ?_⟩
          rw [sn, if_pos c]
        · refine skip Hc sc ?_
          rw [sn, if_neg (by rw [c]; exact Bool.false_ne_true), List.append_nil]
      · intro Hz sz hB
        rw [List.take_length, odd_filter] at hB
        refine ⟨_, rfl, by show 2 ≤ sizeLine; decide, fun e5 ne5 => ⟨B, e5, ["a", "abcdefgh"], ["a", "abcdefgh"], rfl, rfl, SqL.of (sm ne5 _ _ hB), SqL.of upd_same, ?_, ?_, ?_⟩⟩
        · intro y hy
          have z : ∀ y ∈ (["a", "abcdefgh"] : List Str), PyData.canLay0 (.str y) = true := by decide +kernel
          exact z y hy
        · intro y hy
          have z : ∀ y ∈ (["a", "abcdefgh"] : List Str), PyData.canLay0 (.str y) = true := by decide +kernel
          exact z y hy
        · have e : (if false = true then !decide ((["a", "abcdefgh"] : List Str) = (["a", "abcdefgh"] : List Str)) else decide ((["a", "abcdefgh"] : List Str) = (["a", "abcdefgh"] : List Str))) = true := by
            rw [if_neg Bool.false_ne_true]
            exact decide_eq_true rfl
          rw [e]
          exact k _
end
end LW


set_option Elab.async false
set_option linter.all false
set_option maxRecDepth 100000
set_option maxHeartbeats 4000000
namespace K01
open PySem L2

theorem all_mk {l : PySem.W.OpenLaw} {w : World} {K : PySem.W.Frag} {h : Heap} {mg : Str → Option Value} {fa C pB fwo fam fli fwa fex fre fNu fPo fDr fOp fWo fNa fPr fMa fPl fLe fRi fUn fLA fmI fmW fmP fmE fmG fmH fmN fmQ fmL fmT fmB : Addr} {tL tM tW : Tok} {restB : List Value} (X : K.In h) (G : h.Ns mainGlobals mg) (hfa : mg "law" = some (.ref fa))
    {odwo anwo odam anam odli anli odwa anwa odex anex odre anre odNu anNu odPo anPo odDr anDr odOp anOp odWo anWo odNa anNa odPr anPr odMa anMa odPl anPl odLe anLe odRi anRi odUn anUn odLA anLA odmI anmI odmW anmW odmP anmP odmE anmE odmG anmG odmH anmH odmN anmN odmQ anmQ odmL anmL odmT anmT odmB anmB : Option Addr} {slwo slam slli slwa slex slre slNu slPo slDr slOp slWo slNa slPr slMa slPl slLe slRi slUn slLA slmI slmW slmP slmE slmG slmH slmN slmQ slmL slmT slmB : Array (Option Value)} {ocwo kVwo dcwo pmwo cdwo ctwo ocam kVam dcam pmam cdam ctam ocli kVli dcli pmli cdli ctli ocwa kVwa dcwa pmwa cdwa ctwa ocex kVex dcex pmex cdex ctex ocre kVre dcre pmre cdre ctre ocNu kVNu dcNu pmNu cdNu ctNu ocPo kVPo dcPo pmPo cdPo ctPo ocDr kVDr dcDr pmDr cdDr ctDr ocOp kVOp dcOp pmOp cdOp ctOp ocWo kVWo dcWo pmWo cdWo ctWo ocNa kVNa dcNa pmNa cdNa ctNa ocPr kVPr dcPr pmPr cdPr ctPr ocMa kVMa dcMa pmMa cdMa ctMa ocPl kVPl dcPl pmPl cdPl ctPl ocLe kVLe dcLe pmLe cdLe ctLe ocRi kVRi dcRi pmRi cdRi ctRi ocUn kVUn dcUn pmUn cdUn ctUn ocLA kVLA dcLA pmLA cdLA ctLA ocmI kVmI dcmI pmmI cdmI ctmI ocmW kVmW dcmW pmmW cdmW ctmW ocmP kVmP dcmP pmmP cdmP ctmP ocmE kVmE dcmE pmmE cdmE ctmE ocmG kVmG dcmG pmmG cdmG ctmG ocmH kVmH dcmH pmmH cdmH ctmH ocmN kVmN dcmN pmmN cdmN ctmN ocmQ kVmQ dcmQ pmmQ cdmQ ctmQ ocmL kVmL dcmL pmmL cdmL ctmL ocmT kVmT dcmT pmmT cdmT ctmT ocmB kVmB dcmB pmmB cdmB ctmB : Value}
    (aC : PySem.W.nsIn K mainGlobals "Program" = some (some (.ref C)))
    (awo : PySem.W.nsIn K mainGlobals "is_word" = some (some (.ref fwo)))
    (lwo : K.lookup fwo = some ⟨ocwo, odwo, .func (PySem.W.fnOf "is_word" "is_word" (defArgs PG.sWord) (defBody PG.sWord) (defScope PG.sWord) .none kVwo dcwo pmwo anwo cdwo ctwo), slwo⟩)
    (cwo : PySem.W.codeIn K cdwo "is_word" = true)
    (kwo : PySem.W.keepIn K (.ref fwo) = true)
    (aam : PySem.W.nsIn K mainGlobals "is_among" = some (some (.ref fam)))
    (lam : K.lookup fam = some ⟨ocam, odam, .func (PySem.W.fnOf "is_among" "is_among" (defArgs PG.sAmong) (defBody PG.sAmong) (defScope PG.sAmong) .none kVam dcam pmam anam cdam ctam), slam⟩)
    (cam : PySem.W.codeIn K cdam "is_among" = true)
    (kam : PySem.W.keepIn K (.ref fam) = true)
    (ali : PySem.W.nsIn K mainGlobals "is_link" = some (some (.ref fli)))
    (lli : K.lookup fli = some ⟨ocli, odli, .func (PySem.W.fnOf "is_link" "is_link" (defArgs PG.sLink) (defBody PG.sLink) (defScope PG.sLink) .none kVli dcli pmli anli cdli ctli), slli⟩)
    (cli : PySem.W.codeIn K cdli "is_link" = true)
    (kli : PySem.W.keepIn K (.ref fli) = true)
    (awa : PySem.W.nsIn K mainGlobals "are_ways" = some (some (.ref fwa)))
    (lwa : K.lookup fwa = some ⟨ocwa, odwa, .func (PySem.W.fnOf "are_ways" "are_ways" (defArgs PG.sWays) (defBody PG.sWays) (defScope PG.sWays) .none kVwa dcwa pmwa anwa cdwa ctwa), slwa⟩)
    (cwa : PySem.W.codeIn K cdwa "are_ways" = true)
    (kwa : PySem.W.keepIn K (.ref fwa) = true)
    (aex : PySem.W.nsIn K mainGlobals "are_exits" = some (some (.ref fex)))
    (lex : K.lookup fex = some ⟨ocex, odex, .func (PySem.W.fnOf "are_exits" "are_exits" (defArgs PG.sExits) (defBody PG.sExits) (defScope PG.sExits) .none kVex dcex pmex anex cdex ctex), slex⟩)
    (cex : PySem.W.codeIn K cdex "are_exits" = true)
    (kex : PySem.W.keepIn K (.ref fex) = true)
    (are : PySem.W.nsIn K mainGlobals "reached_from" = some (some (.ref fre)))
    (lre : K.lookup fre = some ⟨ocre, odre, .func (PySem.W.fnOf "reached_from" "reached_from" (defArgs PG.sReach) (defBody PG.sReach) (defScope PG.sReach) .none kVre dcre pmre anre cdre ctre), slre⟩)
    (cre : PySem.W.codeIn K cdre "reached_from" = true)
    (kre : PySem.W.keepIn K (.ref fre) = true)
    (aNu : PySem.W.nsIn K mainGlobals "_law_numbers" = some (some (.ref fNu)))
    (lNu : K.lookup fNu = some ⟨ocNu, odNu, .func (PySem.W.fnOf "_law_numbers" "_law_numbers" (defArgs LH.sNum) (defBody LH.sNum) (defScope LH.sNum) .none kVNu dcNu pmNu anNu cdNu ctNu), slNu⟩)
    (cNu : PySem.W.codeIn K cdNu "_law_numbers" = true)
    (kNu : PySem.W.keepIn K (.ref fNu) = true)
    (aPo : PySem.W.nsIn K mainGlobals "_law_pool" = some (some (.ref fPo)))
    (lPo : K.lookup fPo = some ⟨ocPo, odPo, .func (PySem.W.fnOf "_law_pool" "_law_pool" (defArgs LH.sPool) (defBody LH.sPool) (defScope LH.sPool) .none kVPo dcPo pmPo anPo cdPo ctPo), slPo⟩)
    (cPo : PySem.W.codeIn K cdPo "_law_pool" = true)
    (kPo : PySem.W.keepIn K (.ref fPo) = true)
    (aDr : PySem.W.nsIn K mainGlobals "_law_draw" = some (some (.ref fDr)))
    (lDr : K.lookup fDr = some ⟨ocDr, odDr, .func (PySem.W.fnOf "_law_draw" "_law_draw" (defArgs LH.sDraw) (defBody LH.sDraw) (defScope LH.sDraw) .none kVDr dcDr pmDr anDr cdDr ctDr), slDr⟩)
    (cDr : PySem.W.codeIn K cdDr "_law_draw" = true)
    (kDr : PySem.W.keepIn K (.ref fDr) = true)
    (aOp : PySem.W.nsIn K mainGlobals "_law_opened" = some (some (.ref fOp)))
    (lOp : K.lookup fOp = some ⟨ocOp, odOp, .func (PySem.W.fnOf "_law_opened" "_law_opened" (defArgs LH.sOpen) (defBody LH.sOpen) (defScope LH.sOpen) .none kVOp dcOp pmOp anOp cdOp ctOp), slOp⟩)
    (cOp : PySem.W.codeIn K cdOp "_law_opened" = true)
    (kOp : PySem.W.keepIn K (.ref fOp) = true)
    (aWo : PySem.W.nsIn K mainGlobals "_law_words" = some (some (.ref fWo)))
    (lWo : K.lookup fWo = some ⟨ocWo, odWo, .func (PySem.W.fnOf "_law_words" "_law_words" (defArgs LW.sWords) (defBody LW.sWords) (defScope LW.sWords) .none kVWo dcWo pmWo anWo cdWo ctWo), slWo⟩)
    (cWo : PySem.W.codeIn K cdWo "_law_words" = true)
    (kWo : PySem.W.keepIn K (.ref fWo) = true)
    (aNa : PySem.W.nsIn K mainGlobals "_law_names" = some (some (.ref fNa)))
    (lNa : K.lookup fNa = some ⟨ocNa, odNa, .func (PySem.W.fnOf "_law_names" "_law_names" (defArgs LW.sNames) (defBody LW.sNames) (defScope LW.sNames) .none kVNa dcNa pmNa anNa cdNa ctNa), slNa⟩)
    (cNa : PySem.W.codeIn K cdNa "_law_names" = true)
    (kNa : PySem.W.keepIn K (.ref fNa) = true)
    (aPr : PySem.W.nsIn K mainGlobals "_law_program" = some (some (.ref fPr)))
    (lPr : K.lookup fPr = some ⟨ocPr, odPr, .func (PySem.W.fnOf "_law_program" "_law_program" (defArgs LW.sProgram) (defBody LW.sProgram) (defScope LW.sProgram) .none kVPr dcPr pmPr anPr cdPr ctPr), slPr⟩)
    (cPr : PySem.W.codeIn K cdPr "_law_program" = true)
    (kPr : PySem.W.keepIn K (.ref fPr) = true)
    (aMa : PySem.W.nsIn K mainGlobals "_law_made" = some (some (.ref fMa)))
    (lMa : K.lookup fMa = some ⟨ocMa, odMa, .func (PySem.W.fnOf "_law_made" "_law_made" (defArgs LW.sMade) (defBody LW.sMade) (defScope LW.sMade) .none kVMa dcMa pmMa anMa cdMa ctMa), slMa⟩)
    (cMa : PySem.W.codeIn K cdMa "_law_made" = true)
    (kMa : PySem.W.keepIn K (.ref fMa) = true)
    (aPl : PySem.W.nsIn K mainGlobals "_law_places" = some (some (.ref fPl)))
    (lPl : K.lookup fPl = some ⟨ocPl, odPl, .func (PySem.W.fnOf "_law_places" "_law_places" (defArgs LW.sLPlaces) (defBody LW.sLPlaces) (defScope LW.sLPlaces) .none kVPl dcPl pmPl anPl cdPl ctPl), slPl⟩)
    (cPl : PySem.W.codeIn K cdPl "_law_places" = true)
    (kPl : PySem.W.keepIn K (.ref fPl) = true)
    (aLe : PySem.W.nsIn K mainGlobals "_law_leaving" = some (some (.ref fLe)))
    (lLe : K.lookup fLe = some ⟨ocLe, odLe, .func (PySem.W.fnOf "_law_leaving" "_law_leaving" (defArgs LW.sLLeaving) (defBody LW.sLLeaving) (defScope LW.sLLeaving) .none kVLe dcLe pmLe anLe cdLe ctLe), slLe⟩)
    (cLe : PySem.W.codeIn K cdLe "_law_leaving" = true)
    (kLe : PySem.W.keepIn K (.ref fLe) = true)
    (aRi : PySem.W.nsIn K mainGlobals "_law_right" = some (some (.ref fRi)))
    (lRi : K.lookup fRi = some ⟨ocRi, odRi, .func (PySem.W.fnOf "_law_right" "_law_right" (defArgs LW.sRight) (defBody LW.sRight) (defScope LW.sRight) .none kVRi dcRi pmRi anRi cdRi ctRi), slRi⟩)
    (cRi : PySem.W.codeIn K cdRi "_law_right" = true)
    (kRi : PySem.W.keepIn K (.ref fRi) = true)
    (aUn : PySem.W.nsIn K mainGlobals "_law_unlike" = some (some (.ref fUn)))
    (lUn : K.lookup fUn = some ⟨ocUn, odUn, .func (PySem.W.fnOf "_law_unlike" "_law_unlike" (defArgs LW.sUnlike) (defBody LW.sUnlike) (defScope LW.sUnlike) .none kVUn dcUn pmUn anUn cdUn ctUn), slUn⟩)
    (cUn : PySem.W.codeIn K cdUn "_law_unlike" = true)
    (kUn : PySem.W.keepIn K (.ref fUn) = true)
    (aLA : PySem.W.nsIn K mainGlobals "law" = some (some (.ref fLA)))
    (lLA : K.lookup fLA = some ⟨ocLA, odLA, .func (PySem.W.fnOf "law" "law" (defArgs LW.sLaw) (defBody LW.sLaw) (defScope LW.sLaw) .none kVLA dcLA pmLA anLA cdLA ctLA), slLA⟩)
    (cLA : PySem.W.codeIn K cdLA "law" = true)
    (kLA : PySem.W.keepIn K (.ref fLA) = true)
    (amI : PySem.W.findIn K (.ref C) "__init__" = some (some (.ref fmI)))
    (imI : PySem.W.isFn K (.ref fmI) = true)
    (lmI : K.lookup fmI = some ⟨ocmI, odmI, .func (PySem.W.fnOf "__init__" "Program.__init__" (defArgs PG.sInit) (defBody PG.sInit) (defScope PG.sInit) .none kVmI dcmI pmmI anmI cdmI ctmI), slmI⟩)
    (cmI : PySem.W.codeIn K cdmI "Program.__init__" = true)
    (kmI : PySem.W.keepIn K (.ref fmI) = true)
    (amW : PySem.W.findIn K (.ref C) "ways" = some (some (.ref fmW)))
    (imW : PySem.W.isFn K (.ref fmW) = true)
    (lmW : K.lookup fmW = some ⟨ocmW, odmW, .func (PySem.W.fnOf "ways" "Program.ways" (defArgs PG.sMWays) (defBody PG.sMWays) (defScope PG.sMWays) .none kVmW dcmW pmmW anmW cdmW ctmW), slmW⟩)
    (cmW : PySem.W.codeIn K cdmW "Program.ways" = true)
    (kmW : PySem.W.keepIn K (.ref fmW) = true)
    (amP : PySem.W.findIn K (.ref C) "places" = some (some (.ref fmP)))
    (imP : PySem.W.isFn K (.ref fmP) = true)
    (lmP : K.lookup fmP = some ⟨ocmP, odmP, .func (PySem.W.fnOf "places" "Program.places" (defArgs PG.sMPlaces) (defBody PG.sMPlaces) (defScope PG.sMPlaces) .none kVmP dcmP pmmP anmP cdmP ctmP), slmP⟩)
    (cmP : PySem.W.codeIn K cdmP "Program.places" = true)
    (kmP : PySem.W.keepIn K (.ref fmP) = true)
    (amE : PySem.W.findIn K (.ref C) "exits" = some (some (.ref fmE)))
    (imE : PySem.W.isFn K (.ref fmE) = true)
    (lmE : K.lookup fmE = some ⟨ocmE, odmE, .func (PySem.W.fnOf "exits" "Program.exits" (defArgs PG.sMExits) (defBody PG.sMExits) (defScope PG.sMExits) .none kVmE dcmE pmmE anmE cdmE ctmE), slmE⟩)
    (cmE : PySem.W.codeIn K cdmE "Program.exits" = true)
    (kmE : PySem.W.keepIn K (.ref fmE) = true)
    (amG : PySem.W.findIn K (.ref C) "__getitem__" = some (some (.ref fmG)))
    (imG : PySem.W.isFn K (.ref fmG) = true)
    (lmG : K.lookup fmG = some ⟨ocmG, odmG, .func (PySem.W.fnOf "__getitem__" "Program.__getitem__" (defArgs PG.sGet) (defBody PG.sGet) (defScope PG.sGet) .none kVmG dcmG pmmG anmG cdmG ctmG), slmG⟩)
    (cmG : PySem.W.codeIn K cdmG "Program.__getitem__" = true)
    (kmG : PySem.W.keepIn K (.ref fmG) = true)
    (amH : PySem.W.findIn K (.ref C) "__contains__" = some (some (.ref fmH)))
    (imH : PySem.W.isFn K (.ref fmH) = true)
    (lmH : K.lookup fmH = some ⟨ocmH, odmH, .func (PySem.W.fnOf "__contains__" "Program.__contains__" (defArgs PG.sHas) (defBody PG.sHas) (defScope PG.sHas) .none kVmH dcmH pmmH anmH cdmH ctmH), slmH⟩)
    (cmH : PySem.W.codeIn K cdmH "Program.__contains__" = true)
    (kmH : PySem.W.keepIn K (.ref fmH) = true)
    (amN : PySem.W.findIn K (.ref C) "__len__" = some (some (.ref fmN)))
    (imN : PySem.W.isFn K (.ref fmN) = true)
    (lmN : K.lookup fmN = some ⟨ocmN, odmN, .func (PySem.W.fnOf "__len__" "Program.__len__" (defArgs PG.sMLen) (defBody PG.sMLen) (defScope PG.sMLen) .none kVmN dcmN pmmN anmN cdmN ctmN), slmN⟩)
    (cmN : PySem.W.codeIn K cdmN "Program.__len__" = true)
    (kmN : PySem.W.keepIn K (.ref fmN) = true)
    (amQ : PySem.W.findIn K (.ref C) "__eq__" = some (some (.ref fmQ)))
    (imQ : PySem.W.isFn K (.ref fmQ) = true)
    (lmQ : K.lookup fmQ = some ⟨ocmQ, odmQ, .func (PySem.W.fnOf "__eq__" "Program.__eq__" (defArgs PG.sEq) (defBody PG.sEq) (defScope PG.sEq) .none kVmQ dcmQ pmmQ anmQ cdmQ ctmQ), slmQ⟩)
    (cmQ : PySem.W.codeIn K cdmQ "Program.__eq__" = true)
    (kmQ : PySem.W.keepIn K (.ref fmQ) = true)
    (amL : PySem.W.findIn K (.ref C) "leaving" = some (some (.ref fmL)))
    (imL : PySem.W.isFn K (.ref fmL) = true)
    (lmL : K.lookup fmL = some ⟨ocmL, odmL, .func (PySem.W.fnOf "leaving" "Program.leaving" (defArgs PG.sLeaving) (defBody PG.sLeaving) (defScope PG.sLeaving) .none kVmL dcmL pmmL anmL cdmL ctmL), slmL⟩)
    (cmL : PySem.W.codeIn K cdmL "Program.leaving" = true)
    (kmL : PySem.W.keepIn K (.ref fmL) = true)
    (amT : PySem.W.findIn K (.ref C) "entering" = some (some (.ref fmT)))
    (imT : PySem.W.isFn K (.ref fmT) = true)
    (lmT : K.lookup fmT = some ⟨ocmT, odmT, .func (PySem.W.fnOf "entering" "Program.entering" (defArgs PG.sEntering) (defBody PG.sEntering) (defScope PG.sEntering) .none kVmT dcmT pmmT anmT cdmT ctmT), slmT⟩)
    (cmT : PySem.W.codeIn K cdmT "Program.entering" = true)
    (kmT : PySem.W.keepIn K (.ref fmT) = true)
    (aB : PySem.W.findIn K (.ref C) "begin" = some (some (.ref pB)))
    (gB : PySem.W.specialIn K (.ref pB) "__get__" = some (some (.builtin "property.__get__")))
    (tB : PySem.W.takesIn K (.ref pB) = some true)
    (rB : PySem.W.recIn K pB "property" = some (.ref fmB :: restB))
    (lmB : K.lookup fmB = some ⟨ocmB, odmB, .func (PySem.W.fnOf "begin" "Program.begin" (defArgs PG.sBegin) (defBody PG.sBegin) (defScope PG.sBegin) .none kVmB dcmB pmmB anmB cdmB ctmB), slmB⟩)
    (cmB : PySem.W.codeIn K cdmB "Program.begin" = true)
    (kmB : PySem.W.keepIn K (.ref fmB) = true)
    (ng : PySem.W.fnIn K fmG = true)
    (pg : PySem.W.plainGet K C Str.empty = true)
    (hd : PySem.W.hasDictIn K C = true)
    (po : PySem.W.plainOver K C = true)
    (sa : PySem.W.findIn K (.ref C) "__setattr__" = some (some (.builtin "object.__setattr__")))
    (mk : PySem.W.makesIn K C = true)
    (kc : PySem.W.keepIn K (.ref C) = true)
    (n1 : PySem.W.findIn K (.ref C) "links" = some none)
    (n2 : PySem.W.findIn K (.ref C) "spots" = some none)
    (n3 : PySem.W.findIn K (.ref C) "origin" = some none)
    (n4 : PySem.W.findIn K (.ref C) "finals" = some none)
    (t1 : PySem.W.findIn K (.ref C) "__class__" = some (some (.builtin "object.__class__")))
    (t2 : PySem.W.specialIn K (.builtin "object.__class__") "__get__" = some (some (.builtin "getset_descriptor.__get__")))
    (t3 : PySem.W.takesIn K (.builtin "object.__class__") = some true)
    (t4 : PySem.W.mroIn K C (.type "object") = some true)
    (u1 : PySem.W.notFirst K C (.ref C) = true)
    (u2 : PySem.W.notFirst K C (.type "int") = true)
    (u3 : PySem.W.kitOne K (.type "int") (.ref C) = some false)
    (vL : PySem.W.nsIn K mainGlobals "LETTERS" = some (some (.str "abcdefghijklmnopqrstuvwxyz" tL)))
    (vM : PySem.W.nsIn K mainGlobals "MOST_LETTERS" = some (some (.int 8 tM)))
    (vW : PySem.W.nsIn K mainGlobals "MOST_WAYS" = some (some (.int 40 tW)))
    (z_isinstance : PySem.W.nsIn K mainGlobals "isinstance" = some none)
    (z_str : PySem.W.nsIn K mainGlobals "str" = some none)
    (z_len : PySem.W.nsIn K mainGlobals "len" = some none)
    (z_all : PySem.W.nsIn K mainGlobals "all" = some none)
    (z_tuple : PySem.W.nsIn K mainGlobals "tuple" = some none)
    (z_dict : PySem.W.nsIn K mainGlobals "dict" = some none)
    (z_list : PySem.W.nsIn K mainGlobals "list" = some none)
    (z_set : PySem.W.nsIn K mainGlobals "set" = some none)
    (z_sorted : PySem.W.nsIn K mainGlobals "sorted" = some none)
    (z_range : PySem.W.nsIn K mainGlobals "range" = some none)
    (z_min : PySem.W.nsIn K mainGlobals "min" = some none)
    (z_max : PySem.W.nsIn K mainGlobals "max" = some none)
    (z_int : PySem.W.nsIn K mainGlobals "int" = some none)
    (z_enumerate : PySem.W.nsIn K mainGlobals "enumerate" = some none)
    : ∃ fd : FuncData, (∀ (s : Shared) (v : Value), BindsTo s fd ⟨[v], []⟩ [("script", v)]) ∧ ∀ base : Heap, K.In base → base.Ns mainGlobals mg → FnOk l.prog w K mg base CX0 8 fa fd ["script"] (LW.spLaw K) := by
  have e := hfa.symm.trans (PySem.W.mg_of X G aLA)
  cases e
  have T : PG.PT0 mg := ⟨PySem.W.mg_none_of X G z_isinstance, PySem.W.mg_none_of X G z_str, PySem.W.mg_none_of X G z_len, PySem.W.mg_none_of X G z_all, PySem.W.mg_none_of X G z_tuple, PySem.W.mg_none_of X G z_dict, PySem.W.mg_none_of X G z_list, PySem.W.mg_none_of X G z_set, PySem.W.mg_none_of X G z_sorted, ⟨_, PySem.W.mg_of X G vL⟩, ⟨_, PySem.W.mg_of X G vM⟩, ⟨_, PySem.W.mg_of X G vW⟩⟩
  have HT0 : LH.HT mg := ⟨PySem.W.mg_none_of X G z_max, PySem.W.mg_none_of X G z_min, PySem.W.mg_none_of X G z_int, PySem.W.mg_none_of X G z_range, PySem.W.mg_none_of X G z_len⟩
  have TL : LW.LT mg := ⟨PySem.W.mg_none_of X G z_range, PySem.W.mg_none_of X G z_len, PySem.W.mg_none_of X G z_min, PySem.W.mg_none_of X G z_max⟩
  have Fwo := fun_mk (st := PG.sWord) lwo cwo kwo
  have bwo := Fwo.binds (ps := ["value"]) fun _ _ _ _ _ _ us hl => match us, hl with | [_], _ => rfl
  have Fam := fun_mk (st := PG.sAmong) lam cam kam
  have bam := Fam.binds (ps := ["value", "words"]) fun _ _ _ _ _ _ us hl => match us, hl with | [_, _], _ => rfl
  have Fli := fun_mk (st := PG.sLink) lli cli kli
  have bli := Fli.binds (ps := ["value"]) fun _ _ _ _ _ _ us hl => match us, hl with | [_], _ => rfl
  have Fwa := fun_mk (st := PG.sWays) lwa cwa kwa
  have bwa := Fwa.binds (ps := ["value"]) fun _ _ _ _ _ _ us hl => match us, hl with | [_], _ => rfl
  have Fex := fun_mk (st := PG.sExits) lex cex kex
  have bex := Fex.binds (ps := ["value", "places"]) fun _ _ _ _ _ _ us hl => match us, hl with | [_, _], _ => rfl
  have Fre := fun_mk (st := PG.sReach) lre cre kre
  have bre := Fre.binds (ps := ["places", "pairs"]) fun _ _ _ _ _ _ us hl => match us, hl with | [_, _], _ => rfl
  have FNu := fun_mk (st := LH.sNum) lNu cNu kNu
  have bNu := FNu.binds (ps := ["cell", "salt", "sizes"]) fun _ _ _ _ _ _ us hl => match us, hl with | [_, _, _], _ => rfl
  have FPo := fun_mk (st := LH.sPool) lPo cPo kPo
  have bPo := FPo.binds (ps := ["cell", "salt", "many"]) fun _ _ _ _ _ _ us hl => match us, hl with | [_, _, _], _ => rfl
  have FDr := fun_mk (st := LH.sDraw) lDr cDr kDr
  have bDr := FDr.binds (ps := ["pool", "many"]) fun _ _ _ _ _ _ us hl => match us, hl with | [_, _], _ => rfl
  have FOp := fun_mk (st := LH.sOpen) lOp cOp kOp
  have bOp := FOp.binds (ps := ["script", "k", "many"]) fun _ _ _ _ _ _ us hl => match us, hl with | [_, _, _], _ => rfl
  have FWo := fun_mk (st := LW.sWords) lWo cWo kWo
  have bWo := FWo.binds (ps := ["pool", "many"]) fun _ _ _ _ _ _ us hl => match us, hl with | [_, _], _ => rfl
  have FNa := fun_mk (st := LW.sNames) lNa cNa kNa
  have bNa := FNa.binds (ps := ["pool", "many"]) fun _ _ _ _ _ _ us hl => match us, hl with | [_, _], _ => rfl
  have FPr := fun_mk (st := LW.sProgram) lPr cPr kPr
  have bPr := FPr.binds (ps := ["pool", "most", "more", "rings"]) fun _ _ _ _ _ _ us hl => match us, hl with | [_, _, _, _], _ => rfl
  have FMa := fun_mk (st := LW.sMade) lMa cMa kMa
  have bMa := FMa.binds (ps := ["prog"]) fun _ _ _ _ _ _ us hl => match us, hl with | [_], _ => rfl
  have FPl := fun_mk (st := LW.sLPlaces) lPl cPl kPl
  have bPl := FPl.binds (ps := ["prog"]) fun _ _ _ _ _ _ us hl => match us, hl with | [_], _ => rfl
  have FLe := fun_mk (st := LW.sLLeaving) lLe cLe kLe
  have bLe := FLe.binds (ps := ["prog", "place"]) fun _ _ _ _ _ _ us hl => match us, hl with | [_, _], _ => rfl
  have FRi := fun_mk (st := LW.sRight) lRi cRi kRi
  have bRi := FRi.binds (ps := ["made", "prog"]) fun _ _ _ _ _ _ us hl => match us, hl with | [_, _], _ => rfl
  have FUn := fun_mk (st := LW.sUnlike) lUn cUn kUn
  have bUn := FUn.binds (ps := ["made", "prog"]) fun _ _ _ _ _ _ us hl => match us, hl with | [_, _], _ => rfl
  have FLA := fun_mk (st := LW.sLaw) lLA cLA kLA
  have bLA := FLA.binds (ps := ["script"]) fun _ _ _ _ _ _ us hl => match us, hl with | [_], _ => rfl
  have FmI := fun_mk (st := PG.sInit) lmI cmI kmI
  have bmI := FmI.binds (ps := ["self", "ways", "begin", "exits"]) fun _ _ _ _ _ _ us hl => match us, hl with | [_, _, _, _], _ => rfl
  have FmW := fun_mk (st := PG.sMWays) lmW cmW kmW
  have bmW := FmW.binds (ps := ["self"]) fun _ _ _ _ _ _ us hl => match us, hl with | [_], _ => rfl
  have FmP := fun_mk (st := PG.sMPlaces) lmP cmP kmP
  have bmP := FmP.binds (ps := ["self"]) fun _ _ _ _ _ _ us hl => match us, hl with | [_], _ => rfl
  have FmE := fun_mk (st := PG.sMExits) lmE cmE kmE
  have bmE := FmE.binds (ps := ["self"]) fun _ _ _ _ _ _ us hl => match us, hl with | [_], _ => rfl
  have FmG := fun_mk (st := PG.sGet) lmG cmG kmG
  have bmG := FmG.binds (ps := ["self", "at"]) fun _ _ _ _ _ _ us hl => match us, hl with | [_, _], _ => rfl
  have FmH := fun_mk (st := PG.sHas) lmH cmH kmH
  have bmH := FmH.binds (ps := ["self", "x"]) fun _ _ _ _ _ _ us hl => match us, hl with | [_, _], _ => rfl
  have FmN := fun_mk (st := PG.sMLen) lmN cmN kmN
  have bmN := FmN.binds (ps := ["self"]) fun _ _ _ _ _ _ us hl => match us, hl with | [_], _ => rfl
  have FmQ := fun_mk (st := PG.sEq) lmQ cmQ kmQ
  have bmQ := FmQ.binds (ps := ["self", "other"]) fun _ _ _ _ _ _ us hl => match us, hl with | [_, _], _ => rfl
  have FmL := fun_mk (st := PG.sLeaving) lmL cmL kmL
  have bmL := FmL.binds (ps := ["self", "place"]) fun _ _ _ _ _ _ us hl => match us, hl with | [_, _], _ => rfl
  have FmT := fun_mk (st := PG.sEntering) lmT cmT kmT
  have bmT := FmT.binds (ps := ["self", "place"]) fun _ _ _ _ _ _ us hl => match us, hl with | [_, _], _ => rfl
  have FmB := fun_mk (st := PG.sBegin) lmB cmB kmB
  have bmB := FmB.binds (ps := ["self"]) fun _ _ _ _ _ _ us hl => match us, hl with | [_], _ => rfl
  have Tc : PG.PTc K mg C := ⟨⟨pg, hd, po, sa⟩, n1, n2, n3, n4, PySem.W.mg_of X G aC⟩
  have Tt : PG.PTt K C := ⟨t1, t2, t3, t4⟩
  have gwo := PySem.W.mg_of X G awo
  have gam := PySem.W.mg_of X G aam
  have gli := PySem.W.mg_of X G ali
  have gwa := PySem.W.mg_of X G awa
  have gex := PySem.W.mg_of X G aex
  have gre := PySem.W.mg_of X G are
  have gNu := PySem.W.mg_of X G aNu
  have gPo := PySem.W.mg_of X G aPo
  have gDr := PySem.W.mg_of X G aDr
  have gOp := PySem.W.mg_of X G aOp
  have gWo := PySem.W.mg_of X G aWo
  have gNa := PySem.W.mg_of X G aNa
  have gPr := PySem.W.mg_of X G aPr
  have gMa := PySem.W.mg_of X G aMa
  have gPl := PySem.W.mg_of X G aPl
  have gLe := PySem.W.mg_of X G aLe
  have gRi := PySem.W.mg_of X G aRi
  have gUn := PySem.W.mg_of X G aUn
  have gLA := PySem.W.mg_of X G aLA
  refine ⟨PySem.W.fnOf "law" "law" (defArgs LW.sLaw) (defBody LW.sLaw) (defScope LW.sLaw) .none kVLA dcLA pmLA anLA cdLA ctLA, fun s v => .of_eq rfl, fun base _ _ => ?_⟩
  have Gwo : FnOk l.prog w K mg base CX0 1 fwo _ ["value"] (PG.spWord K) := PG.ok_word Fwo T
  have Gam : FnOk l.prog w K mg base CX0 1 fam _ ["value", "words"] (PG.spAmong K) := PG.ok_among Fam T
  have Gwa : FnOk l.prog w K mg base CX0 3 fwa _ ["value"] (PG.spWays K) := PG.ok_ways Fwa T Fwo bwo gwo Fli bli gli
  have Gex : FnOk l.prog w K mg base CX0 2 fex _ ["value", "places"] (PG.spExits K) := PG.ok_exits Fex T Fam bam gam
  have Gre : FnOk l.prog w K mg base CX0 1 fre _ ["places", "pairs"] (PG.spReach K) := PG.ok_reach Fre T
  have Td : PG.PTd K mg fam fwa fex fre _ _ _ _ := ⟨gam, bam, gwa, bwa, gex, bex, gre, bre⟩
  have GI : FnOk l.prog w K mg base CX0 4 fmI _ ["self", "ways", "begin", "exits"] (PG.spInit K C) := PG.ok_init FmI T Tc Td Fam Fwa Fex Fre Gam Gwa Gex Gre
  have MM : LW.PMs l.prog w K mg base C := {
    cl := Tc, tt := Tt
    begin := ⟨pB, fmB, _, ⟨aB, gB, tB, ⟨restB, rB⟩⟩, bmB, PG.ok_begin FmB Tc⟩
    ways := ⟨fmW, _, ⟨amW, imW, kmW⟩, bmW, LW.listS_of (PG.ok_mways FmW T Tc)⟩
    places := ⟨fmP, _, ⟨amP, imP, kmP⟩, bmP, LW.listS_of (PG.ok_mplaces FmP T Tc)⟩
    exits := ⟨fmE, _, ⟨amE, imE, kmE⟩, bmE, LW.listS_of (PG.ok_mexits FmE T Tc)⟩
    get := ⟨fmG, _, amG, imG, ng, bmG, PG.ok_get FmG Tc Fam bam gam Gam⟩
    has := ⟨fmH, _, amH, imH, bmH, PG.ok_has FmH Tc Fam bam gam Gam⟩
    len := ⟨fmN, _, amN, imN, bmN, PG.ok_mlen FmN T Tc⟩
    eq := ⟨fmQ, _, amQ, imQ, bmQ, PG.ok_eqP FmQ T Tc Tt⟩
    leaving := ⟨fmL, _, ⟨amL, imL, kmL⟩, bmL, PG.ok_leaving FmL Tc Fam bam gam Gam⟩
    entering := ⟨fmT, _, ⟨amT, imT, kmT⟩, bmT, PG.ok_entering FmT Tc Fam bam gam Gam⟩
    make := ⟨fmI, _, ⟨mk, amI, imI, kc⟩, bmI, GI⟩
    nfC := u1, nfI := u2, isI := u3 }
  have GD : FnOk l.prog w K mg base CX0 1 fDr _ ["pool", "many"] LH.spDraw := LH.ok_draw FDr HT0
  have GO : FnOk l.prog w K mg base CX0 3 fOp _ ["script", "k", "many"] (LH.spOpen K) := LH.ok_open FOp HT0 FPo bPo gPo FNu bNu gNu
  have GW := LW.ok_words (P := l.prog) (w := w) (base := base) FWo FDr bDr gDr GD
  have GN := LW.ok_names (P := l.prog) (w := w) (base := base) FNa FDr bDr gDr GD
  have GP := LW.ok_program FPr TL FDr bDr gDr GD FWo bWo gWo GW FNa bNa gNa GN
  have GM := LW.ok_made FMa T Tc ⟨mk, amI, imI, kc⟩ bmI GI
  have GL : FnOk l.prog w K mg base CX0 1 fPl _ ["prog"] (LW.spLP K) := LW.ok_lplaces FPl T
  have GLv : FnOk l.prog w K mg base CX0 1 fLe _ ["prog", "place"] (LW.spLL K) := LW.ok_lleaving FLe T
  have GR := LW.ok_right FRi T MM FPl bPl gPl GL FLe bLe gLe GLv
  have GU := LW.ok_unlike FUn T (PySem.W.mg_none_of X G z_enumerate) MM FPl bPl gPl GL FMa bMa gMa GM
  exact LW.ok_law FLA T TL MM ⟨⟨fOp, _, gOp, kOp, bOp, GO⟩, ⟨fPr, _, gPr, kPr, bPr, GP⟩, ⟨fMa, _, gMa, kMa, bMa, GM⟩, ⟨fPl, _, gPl, kPl, bPl, GL⟩, ⟨fRi, _, gRi, kRi, bRi, GR⟩, ⟨fUn, _, gUn, kUn, bUn, GU⟩, ⟨fwo, _, gwo, kwo, bwo, Gwo⟩⟩
theorem walk {l : PySem.W.OpenLaw} {q : Program} {loose : List Str} {XP : (Str → Option Value) → Heap → Prop} {YP : World → Heap → Prop} {d : DefRec} {K : Params → PySem.W.Frag} (hn : l.most = some 63) (hdf : d.params.defaults = []) (hY : ∀ (w : World) (h : Heap), YP w h → (K w.params).In h)
    (F : ∀ (w : World) (mg : Str → Option Value) (fa : Addr) (h : Heap), (K w.params).In h → h.Ns mainGlobals mg → mg d.name = some (.ref fa) → ∃ fd : FuncData, (∀ (s : Shared) (u : Value), BindsTo s fd ⟨[u], []⟩ [("script", u)]) ∧ ∀ base : Heap, (K w.params).In base → base.Ns mainGlobals mg → FnOk l.prog w (K w.params) mg base CX0 8 fa fd ["script"] (LW.spLaw (K w.params))) : PySem.W.WalkO q loose XP YP l.row.toRowW d [] (fun f vs => PySem.call f vs) :=
  L2.walk_of (n := 63) (k := 8) (x := "script") (CX := fun _ => CX0) (sp := fun w => LW.spLaw (K w.params)) hn (by decide) hdf ⟨rfl, by decide, by decide⟩ hY F (fun _ _ a ns hl _ hS => ⟨a, ns, rfl, hS, hl, fun _ => rfl⟩) fun _ _ _ _ _ z => z
end K01
open PySem PySem.W PyProof.Rows
set_option maxRecDepth 100000 in
set_option maxHeartbeats 0 in
theorem PySem.Challenge.cw_countededges_k01_words_and_programs_made_holds : PySem.Challenge.rw_countededges_k01_words_and_programs_made.Holds := by
  w_on; o_law; k_head; (case hw => w_witness2)
  k_fill
  refine K01.walk (l := PySem.Challenge.rw_countededges_k01_words_and_programs_made) rfl rfl (fun w h Y => PySem.W.kIn_of Y) ?F
  case F =>
    intro w mg fa h KX G hmg
    refine' K01.all_mk KX G hmg ?aC ?awo ?lwo ?cwo ?kwo ?aam ?lam ?cam ?kam ?ali ?lli ?cli ?kli ?awa ?lwa ?cwa ?kwa ?aex ?lex ?cex ?kex ?are ?lre ?cre ?kre ?aNu ?lNu ?cNu ?kNu ?aPo ?lPo ?cPo ?kPo ?aDr ?lDr ?cDr ?kDr ?aOp ?lOp ?cOp ?kOp ?aWo ?lWo ?cWo ?kWo ?aNa ?lNa ?cNa ?kNa ?aPr ?lPr ?cPr ?kPr ?aMa ?lMa ?cMa ?kMa ?aPl ?lPl ?cPl ?kPl ?aLe ?lLe ?cLe ?kLe ?aRi ?lRi ?cRi ?kRi ?aUn ?lUn ?cUn ?kUn ?aLA ?lLA ?cLA ?kLA ?amI ?imI ?lmI ?cmI ?kmI ?amW ?imW ?lmW ?cmW ?kmW ?amP ?imP ?lmP ?cmP ?kmP ?amE ?imE ?lmE ?cmE ?kmE ?amG ?imG ?lmG ?cmG ?kmG ?amH ?imH ?lmH ?cmH ?kmH ?amN ?imN ?lmN ?cmN ?kmN ?amQ ?imQ ?lmQ ?cmQ ?kmQ ?amL ?imL ?lmL ?cmL ?kmL ?amT ?imT ?lmT ?cmT ?kmT ?aB ?gB ?tB ?rB ?lmB ?cmB ?kmB ?ng ?pg ?hd ?po ?sa ?mk ?kc ?n1 ?n2 ?n3 ?n4 ?t1 ?t2 ?t3 ?t4 ?u1 ?u2 ?u3 ?vL ?vM ?vW ?z_isinstance ?z_str ?z_len ?z_all ?z_tuple ?z_dict ?z_list ?z_set ?z_sorted ?z_range ?z_min ?z_max ?z_int ?z_enumerate
    (case aC => k_is); (case awo => k_is); (case lwo => k_is); (case cwo => k_is); (case kwo => k_is); (case aam => k_is); (case lam => k_is); (case cam => k_is)
    (case kam => k_is); (case ali => k_is); (case lli => k_is); (case cli => k_is); (case kli => k_is); (case awa => k_is); (case lwa => k_is); (case cwa => k_is)
    (case kwa => k_is); (case aex => k_is); (case lex => k_is); (case cex => k_is); (case kex => k_is); (case are => k_is); (case lre => k_is); (case cre => k_is)
    (case kre => k_is); (case aNu => k_is); (case lNu => k_is); (case cNu => k_is); (case kNu => k_is); (case aPo => k_is); (case lPo => k_is); (case cPo => k_is)
    (case kPo => k_is); (case aDr => k_is); (case lDr => k_is); (case cDr => k_is); (case kDr => k_is); (case aOp => k_is); (case lOp => k_is); (case cOp => k_is)
    (case kOp => k_is); (case aWo => k_is); (case lWo => k_is); (case cWo => k_is); (case kWo => k_is); (case aNa => k_is); (case lNa => k_is); (case cNa => k_is)
    (case kNa => k_is); (case aPr => k_is); (case lPr => k_is); (case cPr => k_is); (case kPr => k_is); (case aMa => k_is); (case lMa => k_is); (case cMa => k_is)
    (case kMa => k_is); (case aPl => k_is); (case lPl => k_is); (case cPl => k_is); (case kPl => k_is); (case aLe => k_is); (case lLe => k_is); (case cLe => k_is)
    (case kLe => k_is); (case aRi => k_is); (case lRi => k_is); (case cRi => k_is); (case kRi => k_is); (case aUn => k_is); (case lUn => k_is); (case cUn => k_is)
    (case kUn => k_is); (case aLA => k_is); (case lLA => k_is); (case cLA => k_is); (case kLA => k_is); (case amI => k_is); (case imI => k_is); (case lmI => k_is)
    (case cmI => k_is); (case kmI => k_is); (case amW => k_is); (case imW => k_is); (case lmW => k_is); (case cmW => k_is); (case kmW => k_is); (case amP => k_is)
    (case imP => k_is); (case lmP => k_is); (case cmP => k_is); (case kmP => k_is); (case amE => k_is); (case imE => k_is); (case lmE => k_is); (case cmE => k_is)
    (case kmE => k_is); (case amG => k_is); (case imG => k_is); (case lmG => k_is); (case cmG => k_is); (case kmG => k_is); (case amH => k_is); (case imH => k_is)
    (case lmH => k_is); (case cmH => k_is); (case kmH => k_is); (case amN => k_is); (case imN => k_is); (case lmN => k_is); (case cmN => k_is); (case kmN => k_is)
    (case amQ => k_is); (case imQ => k_is); (case lmQ => k_is); (case cmQ => k_is); (case kmQ => k_is); (case amL => k_is); (case imL => k_is); (case lmL => k_is)
    (case cmL => k_is); (case kmL => k_is); (case amT => k_is); (case imT => k_is); (case lmT => k_is); (case cmT => k_is); (case kmT => k_is); (case aB => k_is)
    (case gB => first | k_is | kernel_rfl); (case tB => first | k_is | kernel_rfl); (case rB => first | k_is | kernel_rfl); (case lmB => k_is); (case cmB => k_is); (case kmB => k_is); (case ng => first | k_is | kernel_rfl); (case pg => k_is)
    (case hd => k_is); (case po => k_is); (case sa => k_is); (case mk => k_is); (case kc => k_is); (case n1 => k_is); (case n2 => k_is); (case n3 => k_is)
    (case n4 => k_is); (case t1 => k_is); (case t2 => first | k_is | kernel_rfl); (case t3 => first | k_is | kernel_rfl); (case t4 => first | k_is | kernel_rfl); (case u1 => k_is); (case u2 => k_is); (case u3 => first | k_is | kernel_rfl)
    (case vL => k_is); (case vM => k_is); (case vW => k_is); (case z_isinstance => k_is); (case z_str => k_is); (case z_len => k_is); (case z_all => k_is); (case z_tuple => k_is)
    (case z_dict => k_is); (case z_list => k_is); (case z_set => k_is); (case z_sorted => k_is); (case z_range => k_is); (case z_min => k_is); (case z_max => k_is); (case z_int => k_is)
    (case z_enumerate => k_is)
#print axioms PySem.Challenge.cw_countededges_k01_words_and_programs_made_holds

