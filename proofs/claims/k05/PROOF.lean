import PyProof.Rows.All
import Wide.All
import OpenK.AllK
import Wide.FinOn
import HandS.ForMost
import HandS.Set
import HandS.SetTxt0
import HandS.SetBool
import HandS.SetFor
import HandS.Strs
import HandS.Walk
import HandS.More
import HandS.DictComp
import HandS.Style
import HandS.OwnEq
import HandS.IsInst
import HandS.DeepEq
import HandS.Property
import HandS.Deep
import HandS.Star
import HandS.ClsMeth
import KE.KOpsOwn
import PyProof.InstNe
import HandS.Iter
import KE.GoesMore
import KE.KRevSl
import HandS.TupAny
import KE.KEqSeq
import HandS.Small
import HandS.Ends
import HandS.ForExc
import PyProof.ReprRoads
import PyProof.CallFns
import HandS.Head0
import HandS.Head1
import HandS.Head2
import HandS.HeadEnd
import HandS.HeadHook1
import HandS.HeadHook2
import PySem.Challenge.RW_countededges_k05_counters_in_sets
set_option Elab.async false
set_option linter.all false
set_option maxRecDepth 100000
set_option maxHeartbeats 4000000
/-! Sets of texts, with what a walk over them needs: add, sorted. -/
namespace STX
open PySem PySem.Spec PyProof.Rows L2 PySem.Froz
/-- the set at a holds just the texts l, each once; its table can be walked -/
def TxSet (P : Program) (w : World) (h : Heap) (a : Addr) (l : List Str) : Prop :=
  ∃ D : SD, h.get? a = some (sObj "set" D) ∧ TxOk P w D l ∧ l.Nodup ∧ Ris D.2.2.place.toList ∧ (w.params.followText "set-order" = true ∨ D.2.2.led = true)
def ins (k : Str) (l : List Str) : List Str := if k ∈ l then l else k :: l
section
variable {P : Program} {w : World} {A : Around} {E : Value → Shared → Prop} {s : Shared}
theorem tail_walk {ep : Nat} {es : Array (Int × Value)} {t : SetTable} {b : Bool} (r : Ris t.place.toList) (l : w.params.followText "set-order" = true ∨ t.led = true) :
    Ris (tailTx ep es t b).2.2.place.toList ∧ (w.params.followText "set-order" = true ∨ (tailTx ep es t b).2.2.led = true) := by
  unfold tailTx
  split
  · refine ⟨relayAll_ris t es _, l.imp id fun z => ?_⟩
    show (relayAll t es _).2.1.led = true
    rw [relayAll_led]
    exact z
  · exact ⟨r, l⟩
theorem add_walk {h : Int} {v : Value} {D : SD} (r : Ris D.2.2.place.toList) (l : w.params.followText "set-order" = true ∨ D.2.2.led = true) :
    Ris (addTx h v D).2.2.place.toList ∧ (w.params.followText "set-order" = true ∨ (addTx h v D).2.2.led = true) := by
  have r1 := layNew_ris D.2.2 D.1 h v r
  have l1 := layNew_led D.2.2 D.1 h v
  unfold addTx
  refine tail_walk ?_ ?_
  · split
    · exact r1
    · exact r1
  · refine l.imp id fun z => ?_
    split
    · show (layNew D.2.2 D.1 h v).2.1.led = true
      rw [l1]
      exact z
    · rw [l1]
      exact z
/-- a text that is there already -/
theorem add_there {a : Addr} {T : String} {D : SD} {l : List Str} {k : Str} {u : Tok} {Q : Bool → Shared → Prop} (ho : s.heap.get? a = some (sObj T D)) (F : TxOk P w D l) (hk : k ∈ l) (hb : l.length < scanBound)
    (go : Q false s) : wpAny (model P w) A (setAddHashed a (.str k u) (hashStr w k)) Q E s := by
  obtain ⟨es, ep, t⟩ := D
  have fit : t.fits es.size = true := F.fit
  have el : ElemsOf (strKind P w) es.toList := F.el
  have sz : es.size = l.length := F.sz
  obtain ⟨e0, m0, i0⟩ := (F.mem k).mp hk
  unfold setAddHashed setAddHashedIn
  refine wpAny_holding (wpAny_bind (wpAny_setState_of ho (show (sObj T (es, ep, t)).data = .set es ep t from rfl) fit ?_))
  dsimp only
  rw [byScan_of rfl (by omega) el]
  simp only [↓reduceIte]
  unfold setAddByScan
  refine wpAny_bind (wpAny_bind (wpAny_rule (wpAny_bind (wpAny_setScan_of (knd := strKind P w) (k := k) (is_str k u) ho rfl fit el ?_))))
  cases fi : List.findIdx? (fun e => (strKind P w).is k e.2) es.toList with
  | none =>
    have z := List.findIdx?_eq_none_iff.mp fi e0 m0
    rw [i0] at z
    cases z
  | some j =>
    dsimp only
    exact wpAny_pure (wpAny_pure go)
theorem TxSet.setOf {a : Addr} {l : List Str} {h : Heap} (R : TxSet P w h a l) (hb : l.length < scanBound) : h.SetOf (strKind P w) a (fun k => decide (k ∈ l)) l.length := by
  obtain ⟨⟨es, ep, t⟩, ho, F, _⟩ := R
  refine ⟨_, es, ep, t, ho, ⟨rfl, rfl, rfl⟩, rfl, F.el, fun k => ?_, ?_, F.fit, F.sz⟩
  · rw [decide_eq_true_eq]
    exact F.mem k
  · have z : es.size = l.length := F.sz
    omega
/-- found.add(k) -/
theorem tx_add {a : Addr} {l : List Str} {k : Str} {u : Tok} {Q : Value → Shared → Prop} (R : TxSet P w s.heap a l) (room : l.length + 1 < scanBound)
    (go : ∀ h', Heap.SameBut a s.heap h' → TxSet P w h' a (ins k l) → Q .none { s with heap := h', toks := s.toks + 1 }) : wpAny (model P w) A (call (.builtin "set.add") [.ref a, .str k u]) Q E s := by
  have so := R.setOf (by omega)
  obtain ⟨D, ho, F, nd, ri, le⟩ := id R
  refine wpAny_call_entry PySem.F.slot_set_add so.typeIs PySem.F.entry_set_add ?_ (PySem.F.args_set_add_2 (.ref a) (.str k u))
  unfold Builtin.«set.add» Builtin.Frozenset.oneOther
  simp only [List.isEmpty_nil, bind_assoc]
  unfold Builtin.Frozenset.addrOf setAdd
  refine wpAny_bind (wpAny_pure ?_)
  try dsimp only
  refine wpAny_bind (wpAny_pure ?_)
  try dsimp only
  refine wpAny_bind (wpAny_holding (wpAny_bind ((strKind P w).pyHash (is_str k u) ?_)))
  by_cases hk : k ∈ l
  · refine add_there (s := { s with toks := s.toks + 1 }) ho F hk (by omega) ?_
    show wpAny _ _ (ret Value.none) _ _ _
    refine wpAny_pure ⟨_, rfl, go s.heap (Heap.SameBut.refl a s.heap) ?_⟩
    unfold ins
    rw [if_pos hk]
    exact R
  · refine add_x (s := { s with toks := s.toks + 1 }) ho F hk room ?_
    show wpAny _ _ (ret Value.none) _ _ _
    obtain ⟨r2, l2⟩ := add_walk (w := w) (h := hashStr w k) (v := .str k u) ri le
    refine wpAny_pure ⟨_, rfl, go _ (Heap.SameBut.update s.heap a _) ?_⟩
    unfold ins
    rw [if_neg hk]
    exact ⟨_, Froz.get_upd _ ho rfl, add_ok u F, List.nodup_cons.mpr ⟨hk, nd⟩, r2, l2⟩
theorem tx_fresh {h : Heap} : TxSet P w (h.push { cls := .type "set", dict := none, data := .set #[] 0 (.fresh 0 0 (!w.params.followText "set-order")) }) h.objs.size [] := by
  refine ⟨(#[], 0, .fresh 0 0 (!w.params.followText "set-order")), Heap.get?_push_size _ rfl, TxOk.nil rfl, List.nodup_nil, List.Pairwise.nil, ?_⟩
  show _ ∨ (!w.params.followText "set-order") = true
  cases w.params.followText "set-order"
  · exact .inr rfl
  · exact .inl rfl
theorem strs_vals {es : List (Int × Value)} (el : ElemsOf (strKind P w) es) : ∀ {vs : List Value}, (∀ v ∈ vs, ∃ e ∈ es, v = e.2) → ∃ ks : List Str, StrsAre vs ks
  | [], _ => ⟨[], .nil⟩
  | v :: vs, h => by
    obtain ⟨e, he, rfl⟩ := h v List.mem_cons_self
    obtain ⟨⟨k, hk, _⟩, _⟩ := el e he
    obtain ⟨t, ht⟩ := Value.isStrOf_shape (show Value.isStrOf k e.2 = true from hk)
    obtain ⟨ks, hks⟩ := strs_vals el (vs := vs) fun u hu => h u (List.mem_cons_of_mem _ hu)
    rw [ht]
    exact ⟨k :: ks, .cons k t hks⟩
theorem perm_of_nodup : ∀ {l K : List Str}, l.Nodup → (∀ x ∈ l, x ∈ K) → K.length = l.length → K.Perm l
  | [], K, _, _, h => by
    have e : K = [] := List.length_eq_zero_iff.mp h
    rw [e]
  | a :: l, K, n, m, h => by
    obtain ⟨n1, n2⟩ := List.nodup_cons.mp n
    have ha : a ∈ K := m a List.mem_cons_self
    have pe := List.perm_cons_erase ha
    refine pe.trans (List.Perm.cons a (perm_of_nodup n2 (fun x hx => ?_) ?_))
    · have hne : x ≠ a := fun z => n1 (z ▸ hx)
      exact (List.mem_erase_of_ne hne).mpr (m x (List.mem_cons_of_mem _ hx))
    · have z := List.length_erase_of_mem ha
      rw [List.length_cons] at h
      omega
theorem strs_mem {x : Str} {t : Tok} : ∀ {vs : List Value} {ks : List Str}, StrsAre vs ks → Value.str x t ∈ vs → x ∈ ks
  | _, _, .nil, h => nomatch h
  | _, _, .cons k u r, h => by
    rcases List.mem_cons.mp h with e | h
    · injection e with e1 _
      rw [e1]
      exact List.mem_cons_self
    · exact List.mem_cons_of_mem _ (strs_mem r h)
theorem strs_len : ∀ {vs : List Value} {ks : List Str}, StrsAre vs ks → ks.length = vs.length
  | _, _, .nil => rfl
  | _, _, .cons _ _ r => congrArg Nat.succ (strs_len r)
/-- sorted(the set) -/
theorem tx_sorted {a : Addr} {l : List Str} {Q : Value → Shared → Prop} (R : TxSet P w s.heap a l) (hh : A.handled = none) (hb : l.length < 64)
    (go : ∀ s' p (out : Array Value) (c : Nat) (ks : List Str), (∀ b o, s.heap.get? b = some o → s'.heap.get? b = some o) → s'.gens = s.gens → s'.os = s.os → s.heap.objs.size ≤ p →
      s'.heap.get? p = some (seqObj "list" out c) → StrsAre out.toList ks → sortedS ks = true → ks.Perm l → Q (.ref p) s') : wpAny (model P w) A (call (.builtin "sorted") [.ref a]) Q E s := by
  obtain ⟨⟨es, ep, t⟩, ho, F, nd, ri, le⟩ := R
  have sz : es.size = l.length := F.sz
  refine Calls.call_function_entry kind_sorted plain_sorted entry_sorted (args_sorted1 _) ?_
  unfold Builtin.«sorted»
  refine wpAny_bind (m := checkCount "sorted" 1 1 _) (wpAny_pure ?_)
  refine wpAny_bind (collect_set (A := A.in1) hh ⟨_, ho, rfl, rfl⟩ F.fit (by rw [sz]; exact Nat.lt_trans hb (by decide)) ri le fun s1 vs k1 hz g1 o1 pm => ?_)
  obtain ⟨ks0, hks⟩ := strs_vals F.el (vs := vs) fun v hv => by
    obtain ⟨e, he, q⟩ := List.mem_map.mp (pm.mem_iff.mp hv)
    exact ⟨e, he, q.symm⟩
  have vl : vs.length = l.length := by rw [pm.length_eq, List.length_map, Array.length_toList, sz]
  have pk : ks0.Perm l := by
    refine perm_of_nodup nd (fun x hx => ?_) ((strs_len hks).trans vl)
    obtain ⟨e, he, q⟩ := (F.mem x).mp hx
    obtain ⟨u, hu⟩ := Value.isStrOf_shape (show Value.isStrOf x e.2 = true from q)
    exact strs_mem (t := u) hks (pm.mem_iff.mpr (List.mem_map.mpr ⟨e, he, hu⟩))
  refine wpAny_bind (wpAny_newList ?_ (by rw [vl, sizeLine_eq]; omega))
  have hoL : (s1.heap.push (seqObj "list" vs.toArray 0)).get? s1.heap.objs.size = some (seqObj "list" vs.toArray 0) := Heap.get?_push_size _ rfl
  refine wpAny_bind (wpAny_holding (wpAny_call_entry slot_list_sort ⟨_, hoL, rfl⟩ entry_list_sort (list_sort_treeK strKind_oneLt hoL hks.keysOf (fun v1 v2 rest e => keyKind_strs (by rw [← e]; exact hks)) (by rw [vl]; exact hb) fun st' a1 a2 => ⟨_, rfl, ?_⟩) (args_list_sort _)))
  obtain ⟨ss, h1, h2, h3⟩ := sorted_out_str hks a1 a2
  obtain ⟨c, hc⟩ := sortedHeap_at (vs := vs) (out := (arrOf st').map (·.2)) hoL
  refine wpAny_pure ⟨_, rfl, go _ s1.heap.objs.size _ c ss (fun b u e => ?_) g1 o1 hz hc h1 h3 (h2.trans pk)⟩
  have q := k1 b u e
  have hlt := Heap.lt_size q
  rw [sortedHeap_old (Nat.ne_of_lt hlt) (by rw [size_push']; exact Nat.lt_succ_of_lt hlt)]
  exact Heap.get?_push_of_some _ q
end
end STX


set_option Elab.async false
set_option linter.all false
set_option maxRecDepth 100000
set_option maxHeartbeats 4000000
namespace STX
open PySem PySem.Spec PyProof.Rows L2
/-! ### as tracked things -/
def TxO (P : Program) (w : World) (a : Addr) (l : List Str) : HO := .ext fun h => TxSet P w h a l
theorem TxSet.at {P : Program} {w : World} {h h' : Heap} {a : Addr} {l : List Str} (R : TxSet P w h a l) (k : ∀ o, h.get? a = some o → h'.get? a = some o) : TxSet P w h' a l := by
  obtain ⟨D, ho, r⟩ := R
  exact ⟨D, k _ ho, r⟩
theorem txo_new {P : Program} {w : World} {H : Hp} {h : Heap} {a : Addr} {l : List Str} (R : TxSet P w h a l) : ObjOk P w H h a (TxO P w a l) := by
  have ⟨D, ho, _⟩ := R
  exact ⟨R, ⟨_, ho⟩, fun h1 h2 p k => TxSet.at p k⟩
section
variable {X : Cx}
theorem txo_get {pins : List (Addr × Obj)} {σ : L2.St} {H : Hp} {s : Shared} {a : Addr} {l : List Str} (I : Inv X pins σ H s) (ha : H a = some (TxO X.prog X.w a l)) : TxSet X.prog X.w s.heap a l := (I.hok a _ ha).1
theorem txo_add {pins : List (Addr × Obj)} {σ : L2.St} {H : Hp} {s : Shared} {E : Value → Shared → Prop} {D : Addr} {l : List Str} {k : Str} {u : Value} {Q : Value → Shared → Prop} (I : Inv X pins σ H s) (hD : H D = some (TxO X.prog X.w D l)) (room : l.length + 1 < scanBound) (ru : RelV (.str k) u)
    (go : ∀ s', Inv X pins σ (upd H D (TxO X.prog X.w D (ins k l))) s' → Q .none s') : wpAny (model X.prog X.w) X.A (call (.builtin "set.add") [.ref D, u]) Q E s := by
  obtain ⟨t, rfl⟩ : ∃ t, u = Value.str k t := ru
  refine tx_add (txo_get I hD) room fun h' sb new => go _ ?_
  have he : ∃ u, h'.get? D = some u := by
    have ⟨_, ho, _⟩ := new
    exact ⟨_, ho⟩
  exact I.write (e := D) (t' := s.toks + 1) (by rw [hD]; trivial) (.inl rfl) (fun b u hb hu => (sb.2 b hb).trans hu) he (txo_new new)
/-- sorted(a set of texts) -/
def rSortedTx (P : Program) (w : World) : List V → Hp → VK → Prop := fun vs H Q => ∃ (a : Addr) (l : List Str), vs = [V.ref a] ∧ H a = some (TxO P w a l) ∧ l.length < 64 ∧
  ∀ (ys : List Str) (p : Addr), ys.Perm l → sortedS ys = true → H p = none → Q (.ref p) (upd H p (.lst (ys.map V.str)))
theorem cr_sortedTx (hc : X.calm = true) : CallR X (.builtin "sorted") (rSortedTx X.prog X.w) := by
  intro pins s σ H vs us Q I r h
  obtain ⟨a, l, rfl, ha, h64, q⟩ := h
  rw [Vals.ref1 r]
  refine tx_sorted (txo_get I ha) (I.ok.hd hc) h64 fun s' p out c ks k g o hp hg hi hs hm => ?_
  have hlen : (ks.map V.str).length ≤ sizeLine := by
    rw [List.length_map, hm.length_eq]
    exact small64 h64
  have hn : H p = none := I.hok.fresh hp
  exact ⟨.ref p, upd H p (.lst (ks.map V.str)), I.call' (ch := []) o (Un.laid k hp hn) (I.hok.laid k hp ⟨hlen, out.toList, c, vals_of_strs hi, hg⟩) (by rw [g]; exact I.bare) (fun _ z => nomatch z), rfl, q ks p hm hs hn⟩
end
/-! ### {elt for t0 in i0 for t1 in i1} -/
section
variable {prog : Program} {w : World} {A : Around} {R : Result → Shared → Prop} {s : Shared} {elt t0 i0 t1 i1 : Expr} {ifs0 ifs1 : List Expr} {scope : Scope} {pos : Pos} {it acc : Value} {env : Env}
abbrev sc2 (elt t0 i0 : Expr) (ifs0 : List Expr) (t1 i1 : Expr) (ifs1 : List Expr) (scope : Scope) (pos : Pos) : Expr := .SetComp elt [⟨t0, i0, ifs0, 0⟩, ⟨t1, i1, ifs1, 0⟩] scope pos
theorem turn_out : compTurn (sc2 elt t0 i0 ifs0 t1 i1 ifs1 scope pos) 0 it acc env = (do
      standAt i0.pos
      match ← pyNext it with
      | none => pure (.done .next)
      | some v =>
        letOwnedTupleGo t0 it v
        assign t0 env v
        let mut ok := true
        for c in ifs0 do
          if ok then ok ← isTrue c env (eval c env)
        if ok then
          let x ← eval i1 env
          standAt i1.pos
          let x ← foldedSetIterable i1 env x
          let _ ← runOwn (.compStart (sc2 elt t0 i0 ifs0 t1 i1 ifs1 scope pos) 1 (← holding [x] (pyIter x)) acc env) env
        again (.compLoop (sc2 elt t0 i0 ifs0 t1 i1 ifs1 scope pos) 0 it acc env)) := by rfl
theorem turn_in : compTurn (sc2 elt t0 i0 ifs0 t1 i1 ifs1 scope pos) 1 it acc env = (do
      standAt i1.pos
      match ← pyNext it with
      | none => pure (.done .next)
      | some v =>
        letOwnedTupleGo t1 it v
        assign t1 env v
        let mut ok := true
        for c in ifs1 do
          if ok then ok ← isTrue c env (eval c env)
        if ok then
          (do let v ← eval elt env; standAt elt.pos; let _ ← call (.builtin "set.add") [acc, v])
        again (.compLoop (sc2 elt t0 i0 ifs0 t1 i1 ifs1 scope pos) 1 it acc env)) := by rfl
abbrev tests (ifs : List Expr) (env : Env) : Sem Bool := forIn ifs true fun c r => if r = true then do let ok ← isTrue c env (eval c env); pure (ForInStep.yield ok) else pure (ForInStep.yield r)
abbrev nb (prog : Program) (w : World) (A : Around) (env : Env) (R : Result → Shared → Prop) : Value → Shared → Prop := notedBy (model prog w) A env fun e s' => R (.error e) s'
theorem loop_out (hs : ∀ x, foldedSetIterable i1 env x = pure x) (G : Nat → Shared → Prop)
    (turn : ∀ n s, G n s → wpAny (model prog w) A (pyNext it) (fun r s1 => match r with
      | none => R (.ok .next) s1
      | some v => wpAny (model prog w) A (letOwnedTupleGo t0 it v) (fun _ s2 => wpAny (model prog w) A (assign t0 env v) (fun _ s3 =>
          wpAny (model prog w) A (tests ifs0 env) (fun ok s4 =>
            if ok = true then wpAny (model prog w) A (eval i1 env) (fun x s5 => wpAny (model prog w) A (pyIter x) (fun it1 s6 =>
              codeAny (model prog w) A (.compStart (sc2 elt t0 i0 ifs0 t1 i1 ifs1 scope pos) 1 it1 acc env) (fun r s' => match r with
                | .ok _ => ∃ m, m < n ∧ G m s'
                | .error _ => False) s6) (nb prog w A env R) s5) (nb prog w A env R) s4
            else ∃ m, m < n ∧ G m s4) (nb prog w A env R) s3) (nb prog w A env R) s2) (nb prog w A env R) s1) (nb prog w A env R) s)
    (n : Nat) (h : G n s) : codeAny (model prog w) A (.compLoop (sc2 elt t0 i0 ifs0 t1 i1 ifs1 scope pos) 0 it acc env) R s := by
  refine codeAny_loop rfl G (fun n s hG => ?_) n h
  show wpAny _ A ((compTurn (sc2 elt t0 i0 ifs0 t1 i1 ifs1 scope pos) 0 it acc env).onRaise (fun x => do noteFrame x env; theTreesLotGoes x)) _ _ s
  refine wpAny_noted ?_
  rw [turn_out]
  refine wpAny_bind (wpAny_standAt (wpAny_bind (wpAny_mono (turn n s hG) (fun r s1 h1 => ?_) fun _ _ z => z)))
  cases r with
  | none => exact wpAny_pure h1
  | some v =>
    refine wpAny_bind (wpAny_mono h1 (fun _ s2 h2 => wpAny_bind (wpAny_mono h2 (fun _ s3 h3 => wpAny_bind (wpAny_mono h3 (fun ok s4 h4 => ?_) fun _ _ z => z)) fun _ _ z => z)) fun _ _ z => z)
    cases ok with
    | false => exact wpAny_pure ⟨rfl, h4⟩
    | true =>
      refine wpAny_bind (wpAny_mono h4 (fun x s5 h5 => ?_) fun _ _ z => z)
      refine wpAny_bind (wpAny_standAt (wpAny_bind (wpAny_of_eq (hs x) (wpAny_bind (wpAny_holding (wpAny_mono h5 (fun it1 s6 h6 => ?_) fun _ _ z => z))))))
      refine wpAny_bind (wpAny_runOwn ?_)
      rw [Around.mark_none]
      refine codeAny_mono h6 fun r s' hr => ?_
      cases r with
      | ok f =>
        first
          | exact wpAny_pure ⟨rfl, hr⟩
          | exact wpAny_bind (wpAny_pure (wpAny_pure ⟨rfl, hr⟩))
      | error e => exact hr.elim
theorem loop_in (G : Nat → Shared → Prop)
    (turn : ∀ n s, G n s → wpAny (model prog w) A (pyNext it) (fun r s1 => match r with
      | none => R (.ok .next) s1
      | some v => wpAny (model prog w) A (letOwnedTupleGo t1 it v) (fun _ s2 => wpAny (model prog w) A (assign t1 env v) (fun _ s3 =>
          wpAny (model prog w) A (tests ifs1 env) (fun ok s4 =>
            if ok = true then wpAny (model prog w) A (eval elt env) (fun x s5 => wpAny (model prog w) A (call (.builtin "set.add") [acc, x]) (fun _ s6 => ∃ m, m < n ∧ G m s6) (nb prog w A env R) s5) (nb prog w A env R) s4
            else ∃ m, m < n ∧ G m s4) (nb prog w A env R) s3) (nb prog w A env R) s2) (nb prog w A env R) s1) (nb prog w A env R) s)
    (n : Nat) (h : G n s) : codeAny (model prog w) A (.compLoop (sc2 elt t0 i0 ifs0 t1 i1 ifs1 scope pos) 1 it acc env) R s := by
  refine codeAny_loop rfl G (fun n s hG => ?_) n h
  show wpAny _ A ((compTurn (sc2 elt t0 i0 ifs0 t1 i1 ifs1 scope pos) 1 it acc env).onRaise (fun x => do noteFrame x env; theTreesLotGoes x)) _ _ s
  refine wpAny_noted ?_
  rw [turn_in]
  refine wpAny_bind (wpAny_standAt (wpAny_bind (wpAny_mono (turn n s hG) (fun r s1 h1 => ?_) fun _ _ z => z)))
  cases r with
  | none => exact wpAny_pure h1
  | some v =>
    refine wpAny_bind (wpAny_mono h1 (fun _ s2 h2 => wpAny_bind (wpAny_mono h2 (fun _ s3 h3 => wpAny_bind (wpAny_mono h3 (fun ok s4 h4 => ?_) fun _ _ z => z)) fun _ _ z => z)) fun _ _ z => z)
    cases ok with
    | false => exact wpAny_pure ⟨rfl, h4⟩
    | true => exact wpAny_bind (wpAny_bind (wpAny_mono h4 (fun x s5 h5 => wpAny_bind (wpAny_standAt (wpAny_bind (wpAny_mono h5 (fun _ s6 h6 => wpAny_pure (wpAny_pure ⟨rfl, h6⟩)) fun _ _ z => z)))) fun _ _ z => z))
theorem start_in (h0 : codeAny (model prog w) A (.compLoop (sc2 elt t0 i0 ifs0 t1 i1 ifs1 scope pos) 1 it acc env) R s)
    (h : wpAny (model prog w) A (pyIter it) (fun it' s' => codeAny (model prog w) A (.compLoop (sc2 elt t0 i0 ifs0 t1 i1 ifs1 scope pos) 1 it' acc env) R s') (nb prog w A env R) s) :
    codeAny (model prog w) A (.compStart (sc2 elt t0 i0 ifs0 t1 i1 ifs1 scope pos) 1 it acc env) R s := by
  refine codeAny_of_tree ?_
  show wpAny _ _ ((compStart (sc2 elt t0 i0 ifs0 t1 i1 ifs1 scope pos) 1 it acc env).onRaise (fun x => do noteFrame x env; standAt theWindowsPlace)) _ _ s
  refine wpAny_notedAt ?_
  unfold compStart
  show wpAny _ _ (ask >>= _) _ _ s
  refine wpAny_bind (wpAny_askSetting (wpAny_ite ?_))
  split
  · first
      | exact wpAny_bind (wpAny_pure (wpAny_pure (And.intro rfl h0)))
      | exact wpAny_pure (And.intro rfl h0)
  · first
      | exact wpAny_bind (wpAny_rule (wpAny_bind (wpAny_standAt (wpAny_bind (wpAny_mono h (fun it' s' z => wpAny_pure (And.intro rfl z)) fun _ _ x => x)))))
      | (refine wpAny_bind (wpAny_rule ?_); show wpAny _ _ (standAt i1.pos >>= _) _ _ s; exact wpAny_bind (wpAny_standAt (wpAny_bind (wpAny_mono h (fun it' s' z => wpAny_pure (And.intro rfl z)) fun _ _ x => x))))
end
section
variable {X : Cx}
/-- its reading: D the new set; behind the first clause's store the second source's own loop, from which Nx is reached -/
def tSc2 (P : Program) (w : World) (wi : TI) (g : TG) (tt : TT) (wi1 : TI) (g1 : TG) (tt1 : TT) (te : TE) (vs vs1 : List Nat) : TE := fun σ H Q => wi σ H fun J H1 => ∀ D, H1 D = none → ∃ W : Nat → Nat → Hp → Prop, (∃ m, W 0 m (upd H1 D (TxO P w D []))) ∧ ∀ i m H, W i m H →
  (J.stop i H ∧ Q (.ref D) H) ∨ (J.go i H ∧ ∃ Nx : Hp → Prop, (∀ H', Nx H' → ∃ m', m' < m ∧ W (i + 1) m' H') ∧ ∀ x H', J.yld i H x H' → g x (wipe σ vs) H' fun σ2 H2 => wipe σ2 vs = wipe σ vs ∧ tt σ2 H2 fun b H3 =>
    if b = true then wi1 σ2 H3 fun J1 H4 => ∃ W1 : Nat → Nat → Hp → Prop, (∃ m, W1 0 m H4) ∧ ∀ j k H, W1 j k H →
      (J1.stop j H ∧ Nx H) ∨ (J1.go j H ∧ ∃ Nx1 : Hp → Prop, (∀ H', Nx1 H' → ∃ k', k' < k ∧ W1 (j + 1) k' H') ∧ ∀ x H', J1.yld j H x H' → g1 x (wipe σ2 vs1) H' fun σ3 H5 => wipe σ3 vs1 = wipe σ2 vs1 ∧ tt1 σ3 H5 fun b H6 =>
        if b = true then te σ3 H6 fun y H7 => ∃ (k : Str) (l : List Str), y = .str k ∧ H7 D = some (TxO P w D l) ∧ l.length + 1 < scanBound ∧ Nx1 (upd H7 D (TxO P w D (ins k l))) else Nx1 H6)
    else Nx H3)
abbrev AllB (X : Cx) (scope : Scope) (F : Cx → Prop) : Prop := ∀ (s : Shared) (H : Hp) (C : Addr) (cl : List (Str × Addr)) (fp : List Addr), F (X.blk s H scope (compEnvC scope cl C X.env) fp)
theorem pe_sc2 {elt tg iter tg1 iter1 : Expr} {ifs ifs1 : List Expr} {scope : Scope} {own : List (Str × Nat)} {vs1 : List Nat} {pos : Pos} {wi wi1 : TI} {g g1 : TG} {tt tt1 : TT} {te : TE}
    (hc : X.calm = true) (hN : X.N.Nodup) (hi : PI X tg iter wi) (ok : BlkOk X.N X.env.scope scope own) (hv : ∀ i ∈ vs1, i ∈ own.map (·.2))
    (hg : AllB X scope fun Y => PG Y tg g) (ht : AllB X scope fun Y => PTs Y ifs tt) (hi1 : AllB X scope fun Y => PI Y tg1 iter1 wi1) (hg1 : AllB X scope fun Y => PG Y tg1 g1) (ht1 : AllB X scope fun Y => PTs Y ifs1 tt1) (he : AllB X scope fun Y => PE Y elt te)
    (hs : ∀ x, foldedSetIterable iter X.env x = pure x := by intro _; rfl) (hs1 : ∀ env x, foldedSetIterable iter1 env x = pure x := by intro _ _; rfl) :
    PE X (sc2 elt tg iter ifs tg1 iter1 ifs1 scope pos) (tSc2 X.prog X.w wi g tt wi1 g1 tt1 te (own.map (·.2)) vs1) := by
  refine ⟨fun pins s σ H Q I h => ?_⟩
  rw [PpSet.eval_SetComp]
  have cells : ∀ y ∈ scope.names, y.2 = .free → ∃ c, X.env.cells.lookup y.1 = some c := fun y hy e => (ok.free y hy e).elim (fun k => I.ok.has _ (.inl k)) fun k => I.ok.has _ (.inr k)
  refine wpAny_comprehension_free (use := none) rfl hs (closure_ok cells) ok.kind (fun y hy e => by rw [ok.uniq y hy, e]) (thn (hi.run pins s σ H _ I h) fun xv s1 hx => thn hx fun itv s2 z2 => ?_)
  obtain ⟨it, fp, tn, J, H2, e, I2, T, st2, f2, q⟩ := z2
  subst e
  refine PpSet.newSet_ok (newEnv_comp ?_)
  generalize eD : s2.heap.objs.size = D
  have nD : H2 D = none := I2.hok.fresh (Nat.le_of_eq eD)
  obtain ⟨W, ⟨m0, w0⟩, turn⟩ := q D nD
  generalize e3 : ({ s2 with heap := s2.heap.push { cls := .type "set", dict := none, data := .set #[] 0 (.fresh 0 0 (!X.w.params.followText "set-order")) } } : Shared) = s3
  have p3 : s3.heap = s2.heap.push { cls := .type "set", dict := none, data := .set #[] 0 (.fresh 0 0 (!X.w.params.followText "set-order")) } := by rw [← e3]
  have I3 : Inv X pins σ (upd H2 D (TxO X.prog X.w D [])) s3 := by
    rw [← e3]
    refine I2.laid (t' := s2.toks) (fun b o z => Heap.get?_push_of_some _ z) (Nat.le_of_eq eD) ?_
    rw [← eD]
    exact txo_new tx_fresh
  have f3 : ∀ b ∈ fp, FpOk X pins (upd H2 D (TxO X.prog X.w D [])) b ∧ b < s3.heap.objs.size := fun b hb => by
    obtain ⟨o, ho, _⟩ := T.obj _ _ st2 b hb
    have lt := Heap.lt_size ho
    refine ⟨⟨?_, (f2 b hb).2⟩, by rw [p3, Heap.size_push]; exact Nat.lt_succ_of_lt lt⟩
    rw [upd_ne (by rw [← eD]; exact Nat.ne_of_lt lt)]
    exact (f2 b hb).1
  have st3 : tn 0 s3.heap := T.keep _ _ _ st2 fun b _ o z => by rw [p3]; exact Heap.get?_push_of_some _ z
  have I4 := block_start I3 ok hN f3
  have a1 := hg s3 (upd H2 D (TxO X.prog X.w D [])) s3.heap.objs.size (cellsFrom (s3.heap.objs.size + 1) scope.names (cloFrom X.env.cells scope.names [])) fp
  have a2 := ht s3 (upd H2 D (TxO X.prog X.w D [])) s3.heap.objs.size (cellsFrom (s3.heap.objs.size + 1) scope.names (cloFrom X.env.cells scope.names [])) fp
  have a3 := he s3 (upd H2 D (TxO X.prog X.w D [])) s3.heap.objs.size (cellsFrom (s3.heap.objs.size + 1) scope.names (cloFrom X.env.cells scope.names [])) fp
  have a4 := hi1 s3 (upd H2 D (TxO X.prog X.w D [])) s3.heap.objs.size (cellsFrom (s3.heap.objs.size + 1) scope.names (cloFrom X.env.cells scope.names [])) fp
  have a5 := hg1 s3 (upd H2 D (TxO X.prog X.w D [])) s3.heap.objs.size (cellsFrom (s3.heap.objs.size + 1) scope.names (cloFrom X.env.cells scope.names [])) fp
  have a6 := ht1 s3 (upd H2 D (TxO X.prog X.w D [])) s3.heap.objs.size (cellsFrom (s3.heap.objs.size + 1) scope.names (cloFrom X.env.cells scope.names [])) fp
  have nfp : ∀ b ∈ fp, (upd H2 D (TxO X.prog X.w D [])) b = none := fun b hb => (f3 b hb).1.1
  show codeAny _ _ (.compStart (sc2 elt tg iter ifs tg1 iter1 ifs1 scope pos) 0 (.ref it) (.ref D) (compEnvC scope (cellsFrom (s3.heap.objs.size + 1) scope.names (cloFrom X.env.cells scope.names [])) s3.heap.objs.size X.env)) (compPost (model X.prog X.w) X.A X.xe none (EP X pins σ Q) (.ref D) s3.heap.objs.size) { s3 with heap := pushCells (s3.heap.push { cls := .type "dict", data := .dict #[] }) scope.names }
  generalize ece : compEnvC scope (cellsFrom (s3.heap.objs.size + 1) scope.names (cloFrom X.env.cells scope.names [])) s3.heap.objs.size X.env = ce at I4 a1 a2 a3 a4 a5 a6 ⊢
  have cL : ce.locals = s3.heap.objs.size := by
    subst ece
    rfl
  generalize upd H2 D (TxO X.prog X.w D []) = H3 at I3 I4 a1 a2 a3 a4 a5 a6 w0 nfp f3
  generalize e4 : ({ s3 with heap := pushCells (s3.heap.push { cls := .type "dict", data := .dict #[] }) scope.names } : Shared) = s4 at I4 ⊢
  have st4 : tn 0 s4.heap := T.keep _ _ _ st3 fun b _ o z => by rw [← e4]; exact pushCells_keeps _ _ _ _ (Heap.get?_push_of_some _ z)
  have hold : ∀ {σ' : L2.St} {H' : Hp} {s' : Shared}, Inv (X.blk s3 H3 scope ce fp) [] σ' H' s' → (∀ b ∈ fp, H' b = none) → ∀ b ∈ fp, FpOk (X.blk s3 H3 scope ce fp) [] H' b := fun {σ' H' s'} I' hn b hb =>
    ⟨hn b hb, (I'.ok.exf b hb).1, I'.ok.exfs b hb, .inl hb, fun x c z => (I'.ok.exf b hb).2 x c z, fun p hp => absurd (show p ∈ ([] : List (Addr × Obj)) ++ [] from hp) (by simp)⟩
  have main : codeAny (model X.prog X.w) X.A (.compLoop (sc2 elt tg iter ifs tg1 iter1 ifs1 scope pos) 0 (.ref it) (.ref D) ce) (compPost (model X.prog X.w) X.A X.xe none (EP X pins σ Q) (.ref D) s3.heap.objs.size) s4 := by
    refine loop_out (hs1 ce) (fun n s' => ∃ i H', Inv (X.blk s3 H3 scope ce fp) [] (wipe σ (own.map (·.2))) H' s' ∧ tn i s'.heap ∧ (∀ b ∈ fp, H' b = none) ∧ W i n H') ?_ m0 ⟨0, H3, I4, st4, nfp, w0⟩
    rintro n s5 ⟨i, H5, I5, st5, n5, w5⟩
    rcases turn i n H5 w5 with ⟨stop, qq⟩ | ⟨go, Nx, hNx, step⟩
    · refine thnF (T.done (X.blk s3 H3 scope ce fp) rfl rfl rfl hc i [] s5 _ H5 (fun _ _ => False) I5 (hold I5 n5) st5 stop) fun r s6 ⟨hr, I6⟩ => ?_
      subst hr
      have I7 : Inv X pins σ H5 s6 := I3.call' (ch := fp) I6.os I6.base I6.hok I6.bare fun b hb => ⟨(f3 b hb).1.2.2.2.1, (f3 b hb).1.2.1, (f3 b hb).1.2.2.2.2.1, (f3 b hb).1.2.2.2.2.2⟩
      have nC : H5 s3.heap.objs.size = none := by
        have z : H5 ce.locals = none := I6.free
        rw [cL] at z
        exact z
      obtain ⟨m, hn, _⟩ := I6.loc
      have hn : s6.heap.Ns ce.locals m := hn
      rw [cL] at hn
      obtain ⟨g0, g1', g2, g3, g4, g5⟩ := I3.fpOk (Nat.le_refl _) nC
      exact ⟨m, hn, fun h'' sb => ⟨.ref D, H5, I7.turned (t' := s6.toks) (fun b o hb z => (sb.2 b hb).trans z) g0 g1' g3 g4 g5, rfl, qq⟩⟩
    · refine thnF (T.item (X.blk s3 H3 scope ce fp) rfl rfl rfl hc i [] s5 _ H5 (fun _ _ => False) I5 (hold I5 n5) st5 go) fun r s6 ⟨u, hr, h6⟩ => ?_
      subst hr
      refine thnF h6 fun _ s7 ⟨x, H7, I7, r7, y7, st7, n7⟩ => ?_
      refine thnF (a1.run _ s7 _ H7 x u _ (I7.pinned (hold I7 n7) (T.obj _ _ st7)) r7 (step x H7 y7)) fun _ s8 ⟨σ8, H8, I8, hw8, q8⟩ => ?_
      refine thnF (a2.run _ s8 σ8 H8 _ I8 q8) fun b s9 ⟨H9, I9, q9⟩ => ?_
      have back : ∀ {σ9 : L2.St} {s' : Shared} {H' : Hp}, Inv (X.blk s3 H3 scope ce fp) ([] ++ pinsAt fp s7.heap) σ9 H' s' → (wipe σ (own.map (·.2))).length = σ9.length → (∀ (j : Nat) v, (wipe σ (own.map (·.2)))[j]? = some (some v) → σ9[j]? = some (some v)) → Nx H' →
          ∃ m, m < n ∧ ∃ i H', Inv (X.blk s3 H3 scope ce fp) [] (wipe σ (own.map (·.2))) H' s' ∧ tn i s'.heap ∧ (∀ b ∈ fp, H' b = none) ∧ W i m H' := fun {σ9 s' H'} I' hl hk nx => by
        obtain ⟨m', hm, w'⟩ := hNx H' nx
        have pin' : ∀ b ∈ fp, ∀ o, s7.heap.get? b = some o → s'.heap.get? b = some o ∧ H' b = none := fun b hb o z =>
          ⟨(I'.pin (b, o) (List.mem_append_right _ (List.mem_append_right _ (mem_pinsAt hb z)))).1, (I'.pin (b, o) (List.mem_append_right _ (List.mem_append_right _ (mem_pinsAt hb z)))).2.1⟩
        refine ⟨m', hm, i + 1, H', (I'.unpinned (pins := [])).weak hl hk, T.keep _ _ _ st7 fun b hb o z => (pin' b hb o z).1, fun b hb => ?_, w'⟩
        obtain ⟨o, z, _⟩ := T.obj _ _ st7 b hb
        exact (pin' b hb o z).2
      have l8 : (wipe σ (own.map (·.2))).length = σ8.length := by rw [← hw8, wipe_length]
      have k8 : ∀ (j : Nat) v, (wipe σ (own.map (·.2)))[j]? = some (some v) → σ8[j]? = some (some v) ∧ j ∉ own.map (·.2) := fun j v z => by
        rw [← hw8] at z
        exact wipe_some z
      cases b with
      | false =>
        simp only [Bool.false_eq_true, if_false] at q9 ⊢
        exact back I9 l8 (fun j v z => (k8 j v z).1) q9
      | true =>
        simp only [if_true] at q9 ⊢
        refine thnF (a4.run _ s9 σ8 H9 _ I9 q9) fun xv s10 hx => thnF hx fun itv s11 z11 => ?_
        obtain ⟨it1, fp1, tn1, J1, H11, e11, I11, T1, st11, f11, W1, ⟨m1, w1⟩, turn1⟩ := z11
        subst e11
        have hold1 : ∀ {H' : Hp}, (∀ b ∈ fp1, H' b = none) → ∀ b ∈ fp1, FpOk (X.blk s3 H3 scope ce fp) ([] ++ pinsAt fp s7.heap) H' b := fun hn b hb => ⟨hn b hb, (f11 b hb).2⟩
        have inner : codeAny (model X.prog X.w) X.A (.compLoop (sc2 elt tg iter ifs tg1 iter1 ifs1 scope pos) 1 (.ref it1) (.ref D) ce)
            (fun r s' => match r with
              | .ok _ => ∃ m, m < n ∧ ∃ i H', Inv (X.blk s3 H3 scope ce fp) [] (wipe σ (own.map (·.2))) H' s' ∧ tn i s'.heap ∧ (∀ b ∈ fp, H' b = none) ∧ W i m H'
              | .error _ => False) s11 := by
          refine loop_in (fun k s' => ∃ j H', Inv (X.blk s3 H3 scope ce fp) ([] ++ pinsAt fp s7.heap) (wipe σ8 vs1) H' s' ∧ tn1 j s'.heap ∧ (∀ b ∈ fp1, H' b = none) ∧ W1 j k H') ?_ m1 ⟨0, H11, I11.weak (wipe_length _ _) (fun j v z => (wipe_some z).1), st11, fun b hb => (f11 b hb).1, w1⟩
          rintro k s12 ⟨j, H12, I12, st12, n12, w12⟩
          rcases turn1 j k H12 w12 with ⟨stop1, nx1⟩ | ⟨go1, Nx1, hNx1, step1⟩
          · refine thnF (T1.done (X.blk s3 H3 scope ce fp) rfl rfl rfl hc j _ s12 (wipe σ8 vs1) H12 (fun _ _ => False) I12 (hold1 n12) st12 stop1) fun r s13 ⟨hr, I13⟩ => ?_
            subst hr
            refine back I13 (l8.trans (wipe_length σ8 vs1).symm) (fun j v z => ?_) nx1
            rw [wipe_out fun y => (k8 j v z).2 (hv j y)]
            exact (k8 j v z).1
          · refine thnF (T1.item (X.blk s3 H3 scope ce fp) rfl rfl rfl hc j _ s12 (wipe σ8 vs1) H12 (fun _ _ => False) I12 (hold1 n12) st12 go1) fun r s13 ⟨u1, hr, h13⟩ => ?_
            subst hr
            refine thnF h13 fun _ s14 ⟨x1, H14, I14, r14, y14, st14, n14⟩ => ?_
            refine thnF (a5.run _ s14 (wipe σ8 vs1) H14 x1 u1 _ (I14.pinned (hold1 n14) (T1.obj _ _ st14)) r14 (step1 x1 H14 y14)) fun _ s15 ⟨σ15, H15, I15, hw15, q15⟩ => ?_
            refine thnF (a6.run _ s15 σ15 H15 _ I15 q15) fun b1 s16 ⟨H16, I16, q16⟩ => ?_
            have back1 : ∀ {s' : Shared} {H' : Hp}, Inv (X.blk s3 H3 scope ce fp) (([] ++ pinsAt fp s7.heap) ++ pinsAt fp1 s14.heap) σ15 H' s' → Nx1 H' → ∃ m, m < k ∧ ∃ j H', Inv (X.blk s3 H3 scope ce fp) ([] ++ pinsAt fp s7.heap) (wipe σ8 vs1) H' s' ∧ tn1 j s'.heap ∧ (∀ b ∈ fp1, H' b = none) ∧ W1 j m H' := fun {s' H'} I' nx => by
              obtain ⟨m', hm, w'⟩ := hNx1 H' nx
              have pin' : ∀ b ∈ fp1, ∀ o, s14.heap.get? b = some o → s'.heap.get? b = some o ∧ H' b = none := fun b hb o z =>
                ⟨(I'.pin (b, o) (List.mem_append_right _ (List.mem_append_right _ (mem_pinsAt hb z)))).1, (I'.pin (b, o) (List.mem_append_right _ (List.mem_append_right _ (mem_pinsAt hb z)))).2.1⟩
              refine ⟨m', hm, j + 1, H', I'.unpinned.weak (by rw [← hw15, wipe_length]) (fun j v z => by rw [← hw15] at z; exact (wipe_some z).1), T1.keep _ _ _ st14 fun b hb o z => (pin' b hb o z).1, fun b hb => ?_, w'⟩
              obtain ⟨o, z, _⟩ := T1.obj _ _ st14 b hb
              exact (pin' b hb o z).2
            cases b1 with
            | false =>
              simp only [Bool.false_eq_true, if_false] at q16 ⊢
              exact back1 I16 q16
            | true =>
              simp only [if_true] at q16 ⊢
              refine thnF (a3.run _ s16 σ15 H16 _ I16 q16) fun z s17 ⟨yv, H17, I17, r17, kk, ll, ey, hD17, hz17, nx⟩ => ?_
              subst ey
              exact txo_add (X := X.blk s3 H3 scope ce fp) I17 hD17 hz17 r17 fun s18 I18 => back1 I18 nx
        exact start_in inner (T1.self X.A 0 _ _ _ st11 inner)
  exact PpSet.codeAny_compStart_set main (T.self X.A 0 _ _ _ st4 main)
end
end STX


set_option Elab.async false
set_option linter.all false
set_option maxRecDepth 100000
set_option maxHeartbeats 4000000
/-! set(a list of texts), and its len. -/
namespace STX
open PySem PySem.Spec PyProof.Rows L2 PySem.Froz
def insAll : List Str → List Str → List Str
  | [], l => l
  | k :: ws, l => insAll ws (ins k l)
theorem insAll_snoc : ∀ (ws : List Str) (k : Str) (l : List Str), insAll (ws ++ [k]) l = ins k (insAll ws l)
  | [], _, _ => rfl
  | _ :: ws, k, l => insAll_snoc ws k _
theorem ins_len (k : Str) (l : List Str) : (ins k l).length ≤ l.length + 1 := by
  unfold ins
  split
  · omega
  · exact Nat.le_refl _
theorem insAll_len : ∀ (ws l : List Str), (insAll ws l).length ≤ l.length + ws.length
  | [], l => Nat.le_refl _
  | k :: ws, l => by
    have z := insAll_len ws (ins k l)
    have y := ins_len k l
    show (insAll ws (ins k l)).length ≤ l.length + (ws.length + 1)
    omega
theorem ins_mem {k x : Str} {l : List Str} : x ∈ ins k l ↔ x = k ∨ x ∈ l := by
  unfold ins
  split
  · rename_i h
    exact ⟨.inr, fun z => z.elim (fun e => e ▸ h) id⟩
  · exact List.mem_cons
theorem insAll_mem : ∀ {ws l : List Str} {x : Str}, x ∈ insAll ws l ↔ x ∈ ws ∨ x ∈ l
  | [], l, x => ⟨.inr, fun z => z.elim (fun e => nomatch e) id⟩
  | k :: ws, l, x => by
    show x ∈ insAll ws (ins k l) ↔ _
    rw [insAll_mem, ins_mem, List.mem_cons]
    constructor
    · rintro (h | h | h)
      · exact .inl (.inr h)
      · exact .inl (.inl h)
      · exact .inr h
    · rintro ((h | h) | h)
      · exact .inr (.inl h)
      · exact .inl h
      · exact .inr (.inr h)
theorem insAll_full : ∀ {ws l : List Str}, (insAll ws l).length = l.length + ws.length → ws.Nodup ∧ ∀ x ∈ ws, x ∉ l
  | [], l, _ => ⟨List.nodup_nil, fun x z => nomatch z⟩
  | k :: ws, l, h => by
    have h2 : (insAll ws (ins k l)).length = l.length + (ws.length + 1) := h
    have z := insAll_len ws (ins k l)
    have y := ins_len k l
    have e : (ins k l).length = l.length + 1 := by omega
    have nk : k ∉ l := fun m => by
      unfold ins at e
      rw [if_pos m] at e
      omega
    obtain ⟨a, b⟩ := insAll_full (ws := ws) (l := ins k l) (by omega)
    refine ⟨List.nodup_cons.mpr ⟨fun m => b k m (ins_mem.mpr (.inl rfl)), a⟩, fun x hx => ?_⟩
    rcases List.mem_cons.mp hx with e | hx
    · rw [e]; exact nk
    · exact fun m => b x hx (ins_mem.mpr (.inr m))
theorem insAll_nodup : ∀ {ws l : List Str}, ws.Nodup → (∀ x ∈ ws, x ∉ l) → (insAll ws l).length = l.length + ws.length
  | [], l, _, _ => rfl
  | k :: ws, l, n, d => by
    obtain ⟨n1, n2⟩ := List.nodup_cons.mp n
    have e : ins k l = k :: l := by unfold ins; rw [if_neg (d k List.mem_cons_self)]
    have z := insAll_nodup (ws := ws) (l := k :: l) n2 fun x hx m => by
      rcases List.mem_cons.mp m with e | m
      · exact n1 (e ▸ hx)
      · exact d x (List.mem_cons_of_mem _ hx) m
    show (insAll ws (ins k l)).length = l.length + (ws.length + 1)
    rw [e, z, List.length_cons]
    omega
theorem insAll_eq (ws : List Str) : decide (((insAll ws []).length : Int) = (ws.length : Int)) = decide ws.Nodup := by
  by_cases h : ws.Nodup
  · have z := insAll_nodup (l := []) h (fun _ _ m => nomatch m)
    rw [List.length_nil, Nat.zero_add] at z
    rw [decide_eq_true h, z, decide_eq_true rfl]
  · rw [decide_eq_false h, decide_eq_false fun z => h (insAll_full (l := []) (by rw [List.length_nil, Nat.zero_add]; omega)).1]
section
variable {P : Program} {w : World} {A : Around} {E : Value → Shared → Prop} {s : Shared}
theorem tx_hashed {a : Addr} {l : List Str} {k : Str} {u : Tok} {Q : Bool → Shared → Prop} (R : TxSet P w s.heap a l) (room : l.length + 1 < scanBound)
    (go : ∀ b h', Heap.SameBut a s.heap h' → TxSet P w h' a (ins k l) → Q b { s with heap := h' }) : wpAny (model P w) A (setAddHashed a (.str k u) (hashStr w k)) Q E s := by
  obtain ⟨D, ho, F, nd, ri, le⟩ := id R
  by_cases hk : k ∈ l
  · refine add_there ho F hk (by omega) (go _ s.heap (Heap.SameBut.refl a s.heap) ?_)
    unfold ins
    rw [if_pos hk]
    exact R
  · obtain ⟨r2, l2⟩ := add_walk (w := w) (h := hashStr w k) (v := .str k u) ri le
    refine add_x ho F hk room (go _ _ (Heap.SameBut.update s.heap a _) ?_)
    unfold ins
    rw [if_neg hk]
    exact ⟨_, Froz.get_upd _ ho rfl, add_ok u F, List.nodup_cons.mpr ⟨hk, nd⟩, r2, l2⟩
theorem tx_loop {J : Addr} {fp wr : List Addr} {G : Array GenState → Array GenState → Prop} {n : Nat} {Pv : Nat → Value → Prop} {St : Nat → Shared → Prop} {R : Result → Shared → Prop} (W : WalksS P w A.in1 J fp wr G n Pv St) (T : Addr) (hT : T ∉ fp) (ws : List Str)
    (hn : n = ws.length) (hb : ws.length + 1 < scanBound) (hv : ∀ i v, Pv i v → ∃ k t, ws[i]? = some k ∧ v = .str k t) : ∀ (m i : Nat) (s : Shared), n - i = m → i ≤ n → St i s → TxSet P w s.heap T (insAll (ws.take i) []) →
      (∀ s', Moved (T :: wr) G s s' → TxSet P w s'.heap T (insAll ws []) → R (.ok (.ret .none)) s') → codeAny (model P w) A (.builtin "set.update.loop" ⟨[.ref T, .ref J], []⟩) R s := by
  have out : T ∉ wr := fun z => hT (W.sub _ z)
  have more : ∀ b ∈ wr, b ∈ T :: wr := fun b z => List.mem_cons_of_mem _ z
  intro m
  induction m with
  | zero =>
    intro i s hm hi st hS go
    have e : i = n := by omega
    subst e
    refine codeAny_builtin F.entry_set_update_loop ?_
    rw [Around.under_plainId F.plain_set_update_loop _]
    show wpAny _ A.in1 (pyNext (.ref J) >>= _) _ _ s
    refine wpAny_bind (W.done s _ _ st fun s' mv => ?_)
    show wpAny _ A.in1 (ret Value.none) _ _ s'
    rw [List.take_of_length_le (by omega)] at hS
    exact wpAny_pure (go s' (mv.mono more) (hS.at fun o e => mv.heap T o out e))
  | succ m ih =>
    intro i s hm hi st hS go
    have lt : i < n := by omega
    refine codeAny_builtin F.entry_set_update_loop ?_
    rw [Around.under_plainId F.plain_set_update_loop _]
    show wpAny _ A.in1 (pyNext (.ref J) >>= _) _ _ s
    refine wpAny_bind (W.item i s _ _ lt st fun v s' hP st' mv => ?_)
    obtain ⟨z, t, hz, rfl⟩ := hv i v hP
    have hS' : TxSet P w s'.heap T (insAll (ws.take i) []) := hS.at fun o e => mv.heap T o out e
    show wpAny _ A.in1 (holding [Value.str z t] (setAdd T (.str z t)) >>= _) _ _ s'
    refine wpAny_bind (wpAny_holding ?_)
    unfold setAdd
    refine wpAny_holding (wpAny_bind ((strKind P w).pyHash (k := z) (is_str z t) ?_))
    have lz : (insAll (ws.take i) []).length ≤ ws.length := by
      have z1 := insAll_len (ws.take i) []
      have z2 := List.length_take_le i ws
      have z3 : (ws.take i).length ≤ ws.length := List.length_take_le' i ws
      rw [List.length_nil] at z1
      omega
    refine tx_hashed (s := { s' with toks := s'.toks + 1 }) hS' (by omega) fun b h' sb hS2 => ?_
    have e3 : ins z (insAll (ws.take i) []) = insAll (ws.take (i + 1)) [] := by rw [List.take_add_one, hz]; exact (insAll_snoc _ _ _).symm
    rw [e3] at hS2
    refine wpAny_pure ⟨plainId_quiet F.plain_set_update_loop _, ih (i + 1) _ (by omega) lt (W.frame _ s' _ _ st' (Nat.le_succ _) fun b hb o e => ?_) hS2 fun s'' mv2 hS3 => ?_⟩
    · rw [sb.2 b (fun z : b = T => hT (by rw [← z]; exact hb))]; exact e
    · refine go s'' (Moved.trans W.gtrans ((mv.mono more).then_heap (Nat.le_succ _) fun b o nb e => ?_) mv2) hS3
      rw [sb.2 b (fun z : b = T => nb (by rw [z]; exact List.mem_cons_self))]; exact e
abbrev eSet (w : World) : Obj := { cls := .type "set", dict := none, data := .set #[] 0 (.fresh 0 0 (!w.params.followText "set-order")) }
theorem tx_new_at {h : Heap} {a : Addr} (ho : h.get? a = some (eSet w)) : TxSet P w h a [] := by
  refine ⟨(#[], 0, .fresh 0 0 (!w.params.followText "set-order")), ho, TxOk.nil rfl, List.nodup_nil, List.Pairwise.nil, ?_⟩
  show _ ∨ (!w.params.followText "set-order") = true
  cases w.params.followText "set-order"
  · exact .inr rfl
  · exact .inl rfl
theorem strs_get {vs : List Value} {ws : List Str} (h : StrsAre vs ws) : ∀ {i : Nat} {v : Value}, vs[i]? = some v → ∃ k t, ws[i]? = some k ∧ v = .str k t := by
  induction h with
  | nil => intro i v e; simp at e
  | cons k t r ih =>
    intro i v e
    cases i with
    | zero => exact ⟨k, t, rfl, (Option.some.inj e).symm⟩
    | succ i => exact ih (i := i) (v := v) (by simpa using e)
theorem tx_of_list {l : Addr} {its : Array Value} (ws : List Str) {Q : Value → Shared → Prop} (hh : A.handled = none) (hl : s.heap.IsList l its) (hi : StrsAre its.toList ws) (hb : ws.length + 1 < scanBound)
    (go : ∀ (h' : Heap) (tk : Nat), TxSet P w h' s.heap.objs.size (insAll ws []) → (∀ b o, s.heap.get? b = some o → h'.get? b = some o) → Q (.ref s.heap.objs.size) { s with heap := h', toks := tk }) : wpAny (model P w) A (call (.type "set") [.ref l]) Q E s := by
  have sz : its.size = ws.length := by rw [← Array.length_toList, strs_len hi]
  obtain ⟨c, tl, k1⟩ := F.called_set.mro
  have k2 := F.called_set.made
  have k3 := F.called_set.sub
  refine wpAny_call (codeAny_of_tree ?_)
  show wpAny _ _ (callAny (.type "set") _) _ _ _
  refine wpAny_pure ⟨Code.quiet_builtin _ (by decide +kernel), codeAny_builtin F.entry_type_call ?_⟩
  rw [Around.under_plain (weight_type_call_type "set" [.ref l] []) rfl]
  have k4 := F.called_set.notType
  have k5 := F.called_set.canCreate
  have k6 := F.typeCall_set_1 (.ref l)
  repeat (any_goals (first | assumption | wp_step))
  refine codeAny_mono (code_set_led1 (.ref l) (E := E) (Q₁ := fun x s₁ => x = .ref s.heap.objs.size ∧ s₁ = { s with heap := s.heap.push (eSet w) }) ⟨rfl, rfl⟩) fun r s₁ hr => ?_
  cases r with
  | error e => exact hr
  | ok fl =>
    cases fl with
    | ret obj =>
      obtain ⟨rfl, rfl⟩ := hr
      have at0 : (s.heap.push (eSet w)).get? s.heap.objs.size = some (eSet w) := Heap.get?_push_size _ rfl
      have ty0 : Shared.TypeIs { s with heap := s.heap.push (eSet w) } (.ref s.heap.objs.size) "set" := ⟨_, at0, rfl⟩
      have k7 := F.called_set.init.lookup
      have k8 := F.called_set.init.bind (.ref s.heap.objs.size)
      repeat (any_goals (first | assumption | wp_step))
      refine codeAny_mono (codeAny_call_builtin (R := wants (fun r s₂ => r = .none ∧ ∃ h' tk, s₂ = { s with heap := h', toks := tk } ∧ TxSet P w h' s.heap.objs.size (insAll ws []) ∧ (∀ b o, s.heap.get? b = some o → h'.get? b = some o)) E) F.called_set.init.plain F.entry_set_init (check_set_init_1 ty0 ?_)) fun r₂ s₂ hr₂ => ?_
      · obtain ⟨ol, hol, hcl, nl, hdl⟩ := hl
        obtain ⟨c0, d0, x0, sl0⟩ := ol
        simp only at hcl hdl
        subst hcl
        subst hdl
        have at1 : (s.heap.push (eSet w)).get? l = some { cls := .type "list", dict := d0, data := .seq its nl, slots := sl0 } := Heap.get?_push_of_some _ hol
        have k9 := PySem.F.sub_list_set
        have k10 := PySem.F.sub_list_frozenset
        have k11 : (Value.type "list" == Value.type "dict") = false := by decide
        have hl1 : (s.heap.push (eSet w)).IsList l its := ⟨_, at1, rfl, nl, rfl⟩
        unfold Builtin.«set.__init__» noKeywords Builtin.Frozenset.updateFrom
        generalize gen : pyIter = PI
        wp_walk
        subst gen
        refine wpAny_pyIter_list hl1 (wpAny_bind (wpAny_runValue ?_))
        have ll : l < s.heap.objs.size := Heap.lt_size hol
        have h3 : A.in1.in1.in1.handled = none := by simp [hh]
        have nz : l ≠ (s.heap.push (eSet w)).objs.size := by rw [Heap.size_push]; exact Nat.ne_of_lt (Nat.lt_succ_of_lt ll)
        have nS : s.heap.objs.size ∉ [(s.heap.push (eSet w)).objs.size, l] := by
          rw [Heap.size_push]
          simp only [List.mem_cons, List.mem_singleton, List.not_mem_nil, or_false, not_or]
          exact ⟨Nat.ne_of_lt (Nat.lt_succ_self _), Nat.ne_of_gt ll⟩
        refine tx_loop ((Walks.list h3 _ l nz its).toS) s.heap.objs.size nS ws sz hb (fun i v hv => strs_get hi (by rw [Array.getElem?_toList]; exact hv)) (its.size - 0) 0 _ (by omega) (Nat.zero_le _) ⟨⟨_, Heap.get?_push_size _ rfl, rfl, rfl⟩, (hl1.push _)⟩ ?_ ?_
        · exact tx_new_at (Heap.get?_push_of_some _ at0)
        · intro s' mv hS'
          obtain ⟨h', g2, d', tk', os'⟩ := s'
          have eg : g2 = s.gens := mv.gens
          have ed : d' = s.drawn := mv.drawn
          have eo : os' = s.os := mv.os
          subst eg; subst ed; subst eo
          show wpAny _ _ _ _ _ _
          refine wpAny_pure ?_
          show wpAny _ _ (ret Value.none) _ _ _
          refine wpAny_pure ⟨rfl, h', tk', rfl, hS', fun b o e => ?_⟩
          have b0 : b < s.heap.objs.size := Heap.lt_size e
          refine mv.heap b o ?_ (Heap.get?_push_of_some _ (Heap.get?_push_of_some _ e))
          rw [Heap.size_push]
          simp only [List.mem_cons, List.mem_singleton, List.not_mem_nil, or_false, not_or]
          exact ⟨Nat.ne_of_lt b0, Nat.ne_of_lt (Nat.lt_succ_of_lt b0)⟩
      · cases r₂ with
        | error e => exact hr₂
        | ok fl₂ =>
          cases fl₂ with
          | ret r =>
            obtain ⟨rfl, h', tk, rfl, hS', hk'⟩ := hr₂
            repeat (any_goals (first | assumption | wp_step))
            exact go _ _ hS' hk'
          | _ => exact hr₂.elim
    | _ => exact hr.elim
end
section
variable {X : Cx}
/-- len(set(e)), e a list of texts -/
def tLenTx (K : PySem.W.Frag) (ta : TE) : TE := fun σ H Q => ta σ H fun x H1 => ∃ (l : Addr) (xs : List Str), x = .ref l ∧ SqL K H1 l (xs.map V.str) ∧ xs.length < 1000 ∧ Q (.int (insAll xs []).length) H1
theorem pe_lenTx {a : Expr} {ta : TE} {p p2 q pos : Pos} (hc : X.calm = true) (hg : Gl X "len") (hm : X.mg "len" = none) (hg2 : Gl X "set") (hm2 : X.mg "set" = none) (ha : PE X a ta)
    (na : starEach [a] X.env = (false, eval a X.env) :: starEach [] X.env := by rfl) : PE X (.Call (.Name "len" p) [.Call (.Name "set" p2) [a] [] q] [] pos) (tLenTx X.K ta) := by
  refine ⟨fun pins s σ H Q I h => Call_ (ld_blt I hg hm boot_len (PyProof.Rows.callWith_builtin1 (PyProof.Rows.args_cons ?_ rfl) rfl rfl))⟩
  refine Call_ (ld_blt I hg2 hm2 boot_set (PyProof.Rows.callWith_type1 (PyProof.Rows.args_cons (thn (ha.run pins s σ H _ I h) fun v s1 ⟨x, H1, I1, r1, q1⟩ => PyProof.Rows.args_nil ?_) na) na rfl))
  obtain ⟨l, xs, rfl, hq, h1, q1⟩ := q1
  cases r1
  obtain ⟨its, r, pl, hz⟩ := I1.list hq
  refine tx_of_list xs (I1.ok.hd hc) pl.isList (by simpa using strsAre_of r) (by unfold scanBound; omega) fun h' tk hS hk => PyProof.Rows.args_nil ?_
  obtain ⟨⟨es, ep, t⟩, ho, F, _⟩ := hS
  have I2 : Inv X pins σ H1 { s1 with heap := h', toks := tk } := I1.kept hk
  have sz : es.size = (insAll xs []).length := F.sz
  have le := insAll_len xs []
  rw [List.length_nil] at le
  have sz2 : ((es, ep, t).1.size : Int) < 2 ^ 63 := by show (es.size : Int) < 2 ^ 63; omega
  exact call_len_set ho ⟨rfl, rfl, rfl⟩ rfl F.fit sz2 ⟨.int (insAll xs []).length, H1, I2.tok _, ⟨_, by rw [sz]⟩, q1⟩
end
end STX


set_option Elab.async false
set_option linter.all false
set_option maxRecDepth 100000
set_option maxHeartbeats 4000000
namespace PG
open PySem L2
def top (i : Nat) : Stmt := PySem.Challenge.pw_countededges_k05_counters_in_sets.main.body.getD i (.Pass ⟨0, 0, 0, 0⟩)
abbrev sWord : Stmt := top 11
abbrev sAmong : Stmt := top 12
abbrev sLink : Stmt := top 13
abbrev sWays : Stmt := top 14
abbrev sExits : Stmt := top 15
abbrev sReach : Stmt := top 16
/-- the module's and built-in names that these defs read -/
structure PT0 (mg : Str → Option Value) : Prop where
  isi : mg "isinstance" = none
  str : mg "str" = none
  len : mg "len" = none
  all : mg "all" = none
  tuple : mg "tuple" = none
  dict : mg "dict" = none
  list : mg "list" = none
  set : mg "set" = none
  sorted : mg "sorted" = none
  letters : ∃ t, mg "LETTERS" = some (.str "abcdefghijklmnopqrstuvwxyz" t)
  mostL : ∃ t, mg "MOST_LETTERS" = some (.int 8 t)
  mostW : ∃ t, mg "MOST_WAYS" = some (.int 40 t)
theorem PE.or {X : Cx} {e : Expr} {t1 t2 : TE} (h1 : PE X e t1) (h2 : PE X e t2) : PE X e (fun σ H Q => t1 σ H Q ∨ t2 σ H Q) := ⟨fun pins s σ H Q I h => h.elim (h1.run pins s σ H Q I) (h2.run pins s σ H Q I)⟩
theorem sm {H : Hp} {p : Addr} {o : HO} (np : H p = none) : Same H (upd H p o) := fun b u e => by
  rw [upd_ne (ne_of_none e np)]
  exact e
theorem iteB {b : Bool} {A B : Prop} (h1 : b = true → A) (h2 : b = false → B) : if b = true then A else B := by
  cases b with
  | true => rw [if_pos rfl]; exact h1 rfl
  | false => rw [if_neg Bool.false_ne_true]; exact h2 rfl
/-! ### words -/
def alpha : Str := "abcdefghijklmnopqrstuvwxyz"
def isWord (x : Str) : Bool := decide (1 ≤ x.length) && (decide (x.length ≤ 8) && x.cps.toList.all fun c => decide (c ∈ alpha.cps.toList))
def wordV : V → Bool
  | .str x => isWord x
  | _ => false
/-- a text of a known size, or what is no text -/
inductive TxtOr (K : PySem.W.Frag) (H : Hp) : V → Prop where
  | str {x : Str} (h : x.length ≤ 1000) : TxtOr K H (.str x)
  | no {v : V} {t : Value} (h : TyX K H v t) (k : PySem.W.kitOne K t (.type "str") = some false) (n : ∀ x, v ≠ .str x) : TxtOr K H v
section
variable {P : Program} {w : World} {K : PySem.W.Frag} {mg : Str → Option Value} {base : Heap}
theorem scWord : FnScope ["value", "letter"] ["value"] (defScope sWord) := ⟨rfl, rfl, rfl, by decide +kernel, rfl, by decide +kernel, by decide +kernel⟩
def spWord (K : PySem.W.Frag) : Sp := fun vs H Q _ => ∃ v, vs = [v] ∧ TxtOr K H v ∧ ∀ H', Same H H' → Q (.bl (wordV v)) H'
theorem ok_word {f : Addr} {fd : FuncData} (F : Fun K "is_word" "is_word" sWord f fd) (T : PT0 mg) : FnOk P w K mg base CX0 1 f fd ["value"] (spWord K) := by
  refine F.ok scWord (fun vs H Q E h => ?_) (fun cdv A outer s H vs Q E hr h => ?_)
  · obtain ⟨v, rfl, _⟩ := h
    rfl
  · obtain ⟨v, rfl, hT, k⟩ := h
    obtain ⟨tl, gl⟩ := T.letters
    obtain ⟨tm, gm⟩ := T.mostL
    refine ⟨_, pss_cons (ps_if (PW.pt (pw_or (pt_not (pt_val (pe_callB call_isi (by rfl) T.isi PyProof.Rows.boot_isinstance (pa_cons (pv 0) (pa_cons (pe_bltn (v := .ty "str") rfl T.str (by decide +kernel) rfl) pa_nil)))))
        (pw_or1 (pt_not (pt_chain op_le op_le pe_int (pe_callB call_len_str (by rfl) T.len PySem.boot_len (pa_cons (pv 0) pa_nil)) (pe_glob (v := .int 8) rfl gm ⟨_, rfl⟩)))))) (pss_one (ps_ret pe_bl)) pss_nil)
      (pss_one (ps_ret (pe_callB (cr_all rfl) (by rfl) T.all PyProof.Rows.boot_all (pa_cons (pe_lc (own := [("letter", 1)]) (g := gName 1) (tt := tYes) rfl scWord.nd (pi_str (pv 0)) (blkOk_by (own := [("letter", 1)]) (N := ["value", "letter"]) (sc := defScope sWord) (by decide +kernel)) (fun _ _ _ _ _ => pg_name (i := 1) scWord.nd rfl (Or.inl rfl)) (fun _ _ _ _ _ => pts_nil)
        (fun _ _ _ _ _ => pe_cmpR op_in_sign (pv 1) (pe_glob (v := .str "abcdefghijklmnopqrstuvwxyz") rfl gl ⟨_, rfl⟩) rfl)) pa_nil)))), ?_⟩
    cases hT with
    | no ht hk hn =>
      refine ⟨_, rfl, v, .ty "str", _, _, false, rfl, .ty "str", ht, hk, _, rfl, iteT (iteT ?_)⟩
      have e : wordV v = false := by
        cases v with
        | str x => exact absurd rfl (hn x)
        | _ => rfl
      rw [← e]
      exact k H (Same.refl H)
    | @str x hx =>
      refine ⟨_, rfl, .str x, .ty "str", _, _, true, rfl, .ty "str", .base (.str x), kit_ty (by decide +kernel), _, rfl, iteF ?_⟩
      have sz : x.length ≤ sizeLine := Nat.le_trans hx (by decide)
      refine ⟨_, rfl, x, rfl, sz, _, _, rfl, rfl, _, rfl, ?_⟩
      have ew : wordV (.str x) = isWord x := rfl
      rw [ew] at k
      refine ite2 (fun h1 => ?_) (fun h1 => ?_)
      · have h1' : 1 ≤ x.length := by have := of_decide_eq_true h1; omega
        refine ⟨_, _, rfl, rfl, _, rfl, iteB (fun h8 => ?_) (fun h8 => ?_)⟩
        · have h8' : ¬ x.length ≤ 8 := by
            have z : (!decide ((x.length : Int) ≤ 8)) = true := h8
            simp only [Bool.not_eq_true', decide_eq_false_iff_not] at z
            omega
          have e : isWord x = false := by unfold isWord; rw [decide_eq_false h8', Bool.false_and, Bool.and_false]
          rw [← e]
          exact k H (Same.refl H)
        · have h8' : x.length ≤ 8 := by
            have z : (!decide ((x.length : Int) ≤ 8)) = false := h8
            simp only [Bool.not_eq_false', decide_eq_true_eq] at z
            omega
          refine ⟨_, rfl, x, rfl, fun D nD => lc_it walk_str (fun i H' => H' = upd H D (.lst (((x.cps.toList.take i).map fun c => decide (c ∈ alpha.cps.toList)).map V.bl))) rfl (fun _ _ _ _ => trivial) ?_ ?_⟩
          · rintro i y H1 H2 hi rfl ⟨rfl, c, hc, rfl⟩
            refine ⟨rfl, ?_⟩
            unfold tYes
            dsimp only
            rw [if_pos rfl]
            refine ⟨_, rfl, c, _, rfl, rfl, _, upd_same, ?_, ?_⟩
            · rw [List.length_map, List.length_map]
              refine small1000 (Nat.le_trans (List.length_take_le _ _) ?_)
              have : i < x.length := hi
              omega
            · rw [upd_upd]
              have ec : x.cps.toList[i]? = some c := by rw [Array.getElem?_toList]; exact hc
              rw [List.take_add_one, ec, List.map_append, List.map_append]
              rfl
          · rintro H1 rfl
            have et : x.cps.toList.take x.cps.size = x.cps.toList := by rw [← Array.length_toList, List.take_length]
            rw [et]
            refine ⟨D, _, rfl, SqL.of upd_same, ?_⟩
            have e : isWord x = ((x.cps.toList.map fun c => decide (c ∈ alpha.cps.toList)).all id) := by
              unfold isWord
              rw [decide_eq_true h1', decide_eq_true h8', List.all_map]
              rfl
            rw [← e]
            exact k _ (sm nD)
      · have h1' : ¬ 1 ≤ x.length := fun z => h1 (decide_eq_true (by omega))
        have e : isWord x = false := by unfold isWord; rw [decide_eq_false h1', Bool.false_and]
        refine ⟨_, rfl, iteT ?_⟩
        rw [← e]
        exact k H (Same.refl H)
end
end PG


set_option Elab.async false
set_option linter.all false
set_option maxRecDepth 100000
set_option maxHeartbeats 4000000
namespace PG
open PySem L2
theorem TyX.same {K : PySem.W.Frag} {H H' : Hp} {v : V} {t : Value} (h : TyX K H v t) (s : Same H H') : TyX K H' v t := by
  cases h with
  | base b =>
    refine .base ?_
    cases b with
    | non => exact .non
    | bl x => exact .bl x
    | int i => exact .int i
    | str x => exact .str x
    | flt x => exact .flt x
    | lst e => exact .lst (s _ _ e)
    | frz e => exact .frz (s _ _ e)
    | tup e => exact .tup (s _ _ e)
    | dK e => exact .dK (s _ _ e)
    | dT e => exact .dT (s _ _ e)
    | ins e a b c d f => exact .ins (s _ _ e) a b c d f
  | byt b => exact .byt b
  | set e => exact .set (s _ _ e)
  | kList e c => exact .kList e c
  | kTuple e c => exact .kTuple e c
  | kDict e c => exact .kDict e c
  | fTuple e => exact .fTuple (s _ _ e)
  | fDict e => exact .fDict (s _ _ e)
theorem TxtOr.same {K : PySem.W.Frag} {H H' : Hp} {v : V} (h : TxtOr K H v) (s : Same H H') : TxtOr K H' v := by
  cases h with
  | str h => exact .str h
  | no h k n => exact .no (TyX.same h s) k n
theorem sqT_same {K : PySem.W.Frag} {H H' : Hp} {a : Addr} {xs : List V} (h : SqT K H a xs) (s : Same H H') : SqT K H' a xs := by
  rcases h with (h | ⟨o, h⟩) | h
  · exact .inl (.inl (s _ _ h))
  · exact .inl (.inr ⟨o, s _ _ h⟩)
  · exact .inr h
theorem inV_strs (x : Str) : ∀ ws : List Str, inV (.str x) (ws.map V.str) = decide (x ∈ ws)
  | [] => rfl
  | y :: ws => by
    show (eqV (.str y) (.str x) || inV (.str x) (ws.map V.str)) = _
    rw [inV_strs x ws]
    show (y == x || _) = _
    by_cases h : x = y
    · subst h
      rw [beq_self_eq_true, Bool.true_or, decide_eq_true List.mem_cons_self]
    · have h2 : (y == x) = false := beq_eq_false_iff_ne.mpr fun z => h z.symm
      rw [h2, Bool.false_or]
      by_cases hm : x ∈ ws
      · rw [decide_eq_true hm, decide_eq_true (List.mem_cons_of_mem _ hm)]
      · rw [decide_eq_false hm, decide_eq_false fun z => (List.mem_cons.mp z).elim h hm]
theorem flat_strs : ∀ ws : List Str, (ws.map V.str).all flatV = true
  | [] => rfl
  | _ :: ws => flat_strs ws
section
variable {P : Program} {w : World} {K : PySem.W.Frag} {mg : Str → Option Value} {base : Heap}
theorem scAmong : FnScope ["value", "words"] ["value", "words"] (defScope sAmong) := ⟨rfl, rfl, rfl, by decide +kernel, rfl, by decide +kernel, by decide +kernel⟩
/-- is_among: of a list of texts, of a dict, or of what is no text -/
def spAmong (K : PySem.W.Frag) : Sp := fun vs H Q _ => ∃ (v : V) (a : Addr), vs = [v, .ref a] ∧
  ((∃ (x : Str) (ws : List Str), v = .str x ∧ SqL K H a (ws.map V.str) ∧ Q (.bl (decide (x ∈ ws))) H) ∨
   (∃ (x : Str) (kvs : List (Key × V)), v = .str x ∧ Rd H a (.dK kvs) ∧ Q (.bl (valV kvs (Sum.inr x : Key)).isSome) H) ∨
   (∃ t, TyX K H v t ∧ PySem.W.kitOne K t (.type "str") = some false ∧ Q (.bl false) H))
theorem ok_among {f : Addr} {fd : FuncData} (F : Fun K "is_among" "is_among" sAmong f fd) (T : PT0 mg) : FnOk P w K mg base CX0 1 f fd ["value", "words"] (spAmong K) := by
  refine F.ok scAmong (fun vs H Q E h => ?_) (fun cdv A outer s H vs Q E hr h => ?_)
  · obtain ⟨v, a, rfl, _⟩ := h
    rfl
  · obtain ⟨v, a, rfl, h⟩ := h
    refine ⟨_, pss_one (ps_ret (pe_and (pe_callB call_isi (by rfl) T.isi PyProof.Rows.boot_isinstance (pa_cons (pv 0) (pa_cons (pe_bltn (v := .ty "str") rfl T.str (by decide +kernel) rfl) pa_nil)))
      (pe_one (PE.or (pe_cmpR op_in_seq (pv 0) (pv 1) rfl) (pe_cmp (pc_din (hu_of hr) (pv 0) (pv 1)) rfl))))), ?_⟩
    rcases h with ⟨x, ws, rfl, hS, q⟩ | ⟨x, kvs, rfl, hd, q⟩ | ⟨t, ht, hk, q⟩
    · refine ⟨_, rfl, .str x, .ty "str", _, _, true, rfl, .ty "str", .base (.str x), kit_ty (by decide +kernel), true, rfl, iteT (.inl ⟨_, rfl, _, rfl, a, _, rfl, .inl hS, rfl, flat_strs ws, ?_⟩)⟩
      rw [inV_strs]
      exact q
    · refine ⟨_, rfl, .str x, .ty "str", _, _, true, rfl, .ty "str", .base (.str x), kit_ty (by decide +kernel), true, rfl, iteT (.inr ⟨_, rfl, _, rfl, a, _, rfl, .inl ⟨kvs, Sum.inr x, hd, rfl, rfl⟩, q⟩)⟩
    · exact ⟨_, rfl, v, .ty "str", _, _, false, rfl, .ty "str", ht, hk, false, rfl, iteF q⟩
/-! ### links -/
/-- what is_link says of a value -/
inductive LinkIs (K : PySem.W.Frag) (H : Hp) : V → Bool → Prop where
  | two {t : Addr} {y z : V} (h : SqT K H t [y, z]) (hy : TxtOr K H y) (hz : TxtOr K H z) : LinkIs K H (.ref t) (wordV y && wordV z)
  | size {t : Addr} {xs : List V} (h : SqT K H t xs) (n : xs.length ≠ 2) : LinkIs K H (.ref t) false
  | no {v : V} {t : Value} (h : TyX K H v t) (k : PySem.W.kitOne K t (.type "tuple") = some false) : LinkIs K H v false
theorem LinkIs.same {K : PySem.W.Frag} {H H' : Hp} {v : V} {b : Bool} (h : LinkIs K H v b) (s : Same H H') : LinkIs K H' v b := by
  cases h with
  | two h hy hz => exact .two (sqT_same h s) (hy.same s) (hz.same s)
  | size h n => exact .size (sqT_same h s) n
  | no h k => exact .no (TyX.same h s) k
theorem tyx_tup {H : Hp} {t : Addr} {xs : List V} (h : SqT K H t xs) : TyX K H (.ref t) (.type "tuple") := by
  rcases h with (h | ⟨o, h⟩) | ⟨o, its, n, e, c, _⟩
  · exact .base (.tup h)
  · exact .fTuple h
  · exact .kTuple e c
theorem scLink : FnScope ["value"] ["value"] (defScope sLink) := ⟨rfl, rfl, rfl, by decide +kernel, rfl, by decide +kernel, by decide +kernel⟩
def spLink (K : PySem.W.Frag) : Sp := fun vs H Q _ => ∃ v b, vs = [v] ∧ LinkIs K H v b ∧ ∀ H', Same H H' → Q (.bl b) H'
theorem ok_link {f fW : Addr} {fd fdW : FuncData} (F : Fun K "is_link" "is_link" sLink f fd) (T : PT0 mg) (FW : Fun K "is_word" "is_word" sWord fW fdW) (bW : Binds K fdW ["value"] []) (gW : mg "is_word" = some (.ref fW)) : FnOk P w K mg base CX0 2 f fd ["value"] (spLink K) := by
  have GW : FnOk P w K mg base CX0 1 fW fdW ["value"] (spWord K) := ok_word FW T
  refine F.ok scLink (fun vs H Q E h => ?_) (fun cdv A outer s H vs Q E hr h => ?_)
  · obtain ⟨v, b, rfl, _⟩ := h
    rfl
  · obtain ⟨v, b, rfl, hL, k⟩ := h
    refine ⟨_, pss_one (ps_ret (pe_and (pe_callB call_isi (by rfl) T.isi PyProof.Rows.boot_isinstance (pa_cons (pv 0) (pa_cons (pe_bltn (v := .ty "tuple") rfl T.tuple (by decide +kernel) rfl) pa_nil)))
      (pe_and (pe_cmpR op_eq (pe_callB call_len_seq (by rfl) T.len PySem.boot_len (pa_cons (pv 0) pa_nil)) pe_int (nomark _))
      (pe_and (pe_call GW hr (by rfl) gW FW.kp bW .nil pass0 (pa_cons (pe_ix ix_tup (pv 0) pe_int (fun _ _ => rfl)) pa_nil))
      (pe_one (pe_call GW hr (by rfl) gW FW.kp bW .nil pass0 (pa_cons (pe_ix ix_tup (pv 0) pe_int (fun _ _ => rfl)) pa_nil))))))), ?_⟩
    cases hL with
    | no ht hk => exact ⟨_, rfl, v, .ty "tuple", _, _, false, rfl, .ty "tuple", ht, hk, false, rfl, iteF (k H (Same.refl H))⟩
    | @size t xs h n =>
      refine ⟨_, rfl, .ref t, .ty "tuple", _, _, true, rfl, .ty "tuple", tyx_tup h, kit_ty (by decide +kernel), true, rfl, iteT ⟨_, rfl, t, _, rfl, .inr h, rfl, _, rfl, iteB (fun z => ?_) (fun _ => k H (Same.refl H))⟩⟩
      have z2 := of_decide_eq_true z
      injection z2 with z3
      exact absurd (by omega) n
    | @two t y z h hy hz =>
      refine ⟨_, rfl, .ref t, .ty "tuple", _, _, true, rfl, .ty "tuple", tyx_tup h, kit_ty (by decide +kernel), true, rfl, iteT ⟨_, rfl, t, _, rfl, .inr h, rfl, true, rfl, iteT ?_⟩⟩
      refine ⟨_, rfl, t, _, _, _, rfl, rfl, h, atI_nat (j := 0) rfl, y, rfl, hy, fun H1 s1 => ⟨_, rfl, iteB (fun w1 => ?_) (fun w1 => ?_)⟩⟩
      · refine ⟨_, rfl, t, _, _, _, rfl, rfl, sqT_same h s1, atI_nat (j := 1) rfl, z, rfl, hz.same s1, fun H2 s2 => ?_⟩
        have q := k H2 (s1.trans s2)
        rw [w1, Bool.true_and] at q
        exact q
      · have q := k H1 s1
        rw [w1, Bool.false_and] at q
        exact q
end
end PG


set_option Elab.async false
set_option linter.all false
set_option maxRecDepth 100000
set_option maxHeartbeats 4000000
namespace PG
open PySem L2
/-! ### a dict that is walked is locked -/
section
variable {K : PySem.W.Frag} {H : Hp} {a : Addr} {kvs : List (Key × V)} {od : Obj}
theorem lk_ne {b : Addr} {o : HO} (ha : H a = some (.dK kvs)) (hb : H b = some o) (d : ∀ l, o ≠ .dK l) : upd H a (.frz od (.dK kvs)) b = some o := by
  rw [upd_ne (fun z => d kvs (by rw [z, ha] at hb; exact (Option.some.inj hb).symm))]
  exact hb
theorem TyX.lock {v : V} {t : Value} (h : TyX K H v t) (ha : H a = some (.dK kvs)) : TyX K (upd H a (.frz od (.dK kvs))) v t := by
  cases h with
  | base b =>
    cases b with
    | non => exact .base .non
    | bl x => exact .base (.bl x)
    | int i => exact .base (.int i)
    | str x => exact .base (.str x)
    | flt x => exact .base (.flt x)
    | lst e => exact .base (.lst (lk_ne ha e (by intro l z; cases z)))
    | frz e => exact .base (.frz (lk_ne ha e (by intro l z; cases z)))
    | tup e => exact .base (.tup (lk_ne ha e (by intro l z; cases z)))
    | @dK c l e =>
      by_cases z : c = a
      · subst z
        rw [ha] at e
        cases e
        exact .fDict upd_same
      · exact .base (.dK (by rw [upd_ne z]; exact e))
    | dT e => exact .base (.dT (lk_ne ha e (by intro l z; cases z)))
    | ins e a b c d f => exact .base (.ins (lk_ne ha e (by intro l z; cases z)) a b c d f)
  | byt b => exact .byt b
  | set e => exact .set (lk_ne ha e (by intro l z; cases z))
  | kList e c => exact .kList e c
  | kTuple e c => exact .kTuple e c
  | kDict e c => exact .kDict e c
  | fTuple e => exact .fTuple (lk_ne ha e (by intro l z; cases z))
  | fDict e => exact .fDict (lk_ne ha e (by intro l z; cases z))
theorem TxtOr.lock {v : V} (h : TxtOr K H v) (ha : H a = some (.dK kvs)) : TxtOr K (upd H a (.frz od (.dK kvs))) v := by
  cases h with
  | str h => exact .str h
  | no h k n => exact .no (TyX.lock h ha) k n
theorem sqT_lock {t : Addr} {xs : List V} (h : SqT K H t xs) (ha : H a = some (.dK kvs)) : SqT K (upd H a (.frz od (.dK kvs))) t xs := by
  rcases h with (h | ⟨o, h⟩) | h
  · exact .inl (.inl (lk_ne ha h (by intro l z; cases z)))
  · exact .inl (.inr ⟨o, lk_ne ha h (by intro l z; cases z)⟩)
  · exact .inr h
theorem LinkIs.lock {v : V} {b : Bool} (h : LinkIs K H v b) (ha : H a = some (.dK kvs)) : LinkIs K (upd H a (.frz od (.dK kvs))) v b := by
  cases h with
  | two h hy hz => exact .two (sqT_lock h ha) (hy.lock ha) (hz.lock ha)
  | size h n => exact .size (sqT_lock h ha) n
  | no h k => exact .no (TyX.lock h ha) k
/-- behind a walk: the lock is gone, all else as it was -/
theorem unlock {H' : Hp} (ha : H a = some (.dK kvs)) (s : Same (upd H a (.frz od (.dK kvs))) H') : Same H (upd H' a (.dK kvs)) := fun b o e => by
  by_cases z : b = a
  · subst z
    rw [ha] at e
    cases e
    exact upd_same
  · rw [upd_ne z]
    exact s b o (by rw [upd_ne z]; exact e)
end
/-- what are_ways says of an item -/
def ItemIs (K : PySem.W.Frag) (H : Hp) (kv : Key × V) (b : Bool) : Prop := ∃ c, TxtOr K H (kV kv.1) ∧ LinkIs K H kv.2 c ∧ b = (wordV (kV kv.1) && c)
theorem paired_at {α β : Type} {R : α → β → Prop} : ∀ {xs : List α} {ys : List β} {i : Nat} {x : α}, Paired R xs ys → xs[i]? = some x → ∃ y, ys[i]? = some y ∧ R x y
  | _, _, i, _, .nil, h => by simp at h
  | _, _, 0, _, .cons (b := y) r _, h => ⟨y, rfl, (Option.some.inj h) ▸ r⟩
  | _, _, i + 1, _, .cons _ r, h => paired_at (i := i) r (by simpa using h)
section
variable {P : Program} {w : World} {K : PySem.W.Frag} {mg : Str → Option Value} {base : Heap}
abbrev nsWays : List Str := ["value", "way", "link"]
theorem scWays : FnScope nsWays ["value"] (defScope sWays) := ⟨rfl, rfl, rfl, by decide +kernel, rfl, by decide +kernel, by decide +kernel⟩
def spWays (K : PySem.W.Frag) : Sp := fun vs H Q _ => ∃ v, vs = [v] ∧
  ((∃ (a : Addr) (kvs : List (Key × V)) (bs : List Bool), v = .ref a ∧ H a = some (.dK kvs) ∧ kvs.length ≤ 1000 ∧ Paired (ItemIs K H) kvs bs ∧ ∀ H', Same H H' → Q (.bl (decide (1 ≤ kvs.length) && (decide (kvs.length ≤ 40) && bs.all id))) H') ∨
   (∃ t, TyX K H v t ∧ PySem.W.kitOne K t (.type "dict") = some false ∧ Q (.bl false) H))
theorem ok_ways {f fW fL : Addr} {fd fdW fdL : FuncData} (F : Fun K "are_ways" "are_ways" sWays f fd) (T : PT0 mg) (FW : Fun K "is_word" "is_word" sWord fW fdW) (bW : Binds K fdW ["value"] []) (gW : mg "is_word" = some (.ref fW))
    (FL : Fun K "is_link" "is_link" sLink fL fdL) (bL : Binds K fdL ["value"] []) (gL : mg "is_link" = some (.ref fL)) : FnOk P w K mg base CX0 3 f fd ["value"] (spWays K) := by
  have GW : FnOk P w K mg base CX0 1 fW fdW ["value"] (spWord K) := ok_word FW T
  have GL : FnOk P w K mg base CX0 2 fL fdL ["value"] (spLink K) := ok_link FL T FW bW gW
  refine F.ok scWays (fun vs H Q E h => ?_) (fun cdv A outer s H vs Q E hr h => ?_)
  · obtain ⟨v, rfl, _⟩ := h
    rfl
  · obtain ⟨v, rfl, h⟩ := h
    have hr1 : Room 1 _ := hr.mono (by decide)
    obtain ⟨tm, gm⟩ := T.mostW
    refine ⟨_, pss_cons (ps_if (PW.pt (pw_or (pt_not (pt_val (pe_callB call_isi (by rfl) T.isi PyProof.Rows.boot_isinstance (pa_cons (pv 0) (pa_cons (pe_bltn (v := .ty "dict") rfl T.dict (by decide +kernel) rfl) pa_nil)))))
        (pw_or1 (pt_not (pt_chain op_le op_le pe_int (pe_callB call_lenD (by rfl) T.len PySem.boot_len (pa_cons (pv 0) pa_nil)) (pe_glob (v := .int 40) rfl gm ⟨_, rfl⟩)))))) (pss_one (ps_ret pe_bl)) pss_nil)
      (pss_one (ps_ret (pe_callB (cr_all rfl) (by rfl) T.all PyProof.Rows.boot_all (pa_cons (pe_lock (pe_lc (own := [("way", 1), ("link", 2)]) (g := gTup K 2 (gCons (gName 1) (gCons (gName 2) gNil))) (tt := tYes) rfl scWays.nd (pi_items (pv 0)) (blkOk_by (own := [("way", 1), ("link", 2)]) (N := nsWays) (sc := defScope sWays) (by decide +kernel))
        (fun _ _ _ _ _ => pg_tup rfl (pgs_cons (pg_name (i := 1) scWays.nd rfl (Or.inl rfl)) (pgs_cons (pg_name (i := 2) scWays.nd rfl (Or.inl rfl)) pgs_nil))) (fun _ _ _ _ _ => pts_nil)
        (fun _ _ _ _ _ => pe_and (pe_call GW hr1 (by rfl) gW FW.kp bW .nil pass0 (pa_cons (pv 1) pa_nil)) (pe_one (pe_call GL hr (by rfl) gL FL.kp bL .nil pass0 (pa_cons (pv 2) pa_nil)))))) pa_nil)))), ?_⟩
    rcases h with ⟨a, kvs, bs, rfl, ha, hz, hI, k⟩ | ⟨t, ht, hk, q⟩
    · refine ⟨_, rfl, .ref a, .ty "dict", _, _, true, rfl, .ty "dict", .base (.dK ha), kit_ty (by decide +kernel), _, rfl, iteF ?_⟩
      refine ⟨_, rfl, a, kvs, rfl, ha, _, _, rfl, rfl, _, rfl, ?_⟩
      have lb : bs.length = kvs.length := (Paired.length hI).symm
      refine ite2 (fun h1 => ?_) (fun h1 => ?_)
      · have h1' : 1 ≤ kvs.length := by have := of_decide_eq_true h1; omega
        refine ⟨_, _, rfl, rfl, _, rfl, iteB (fun h8 => ?_) (fun h8 => ?_)⟩
        · have h8' : ¬ kvs.length ≤ 40 := by
            have z : (!decide ((kvs.length : Int) ≤ 40)) = true := h8
            simp only [Bool.not_eq_true', decide_eq_false_iff_not] at z
            omega
          have q := k H (Same.refl H)
          rw [decide_eq_false h8', Bool.false_and, Bool.and_false] at q
          exact q
        · have h8' : kvs.length ≤ 40 := by
            have z : (!decide ((kvs.length : Int) ≤ 40)) = false := h8
            simp only [Bool.not_eq_false', decide_eq_true_eq] at z
            omega
          refine ⟨a, .dK kvs, ha, trivial, fun od => ⟨_, rfl, a, od, kvs, rfl, upd_same, fun D nD => ?_⟩⟩
          refine lc_it walk_items (fun i H' => Same (upd H a (.frz od (.dK kvs))) H' ∧ H' D = some (.lst ((bs.take i).map V.bl))) ⟨sm nD, upd_same⟩ (fun i H' _ p => p.1 _ _ upd_same) ?_ ?_
          · rintro i y H1 H2 hi ⟨s1, hD1⟩ ⟨Tp, x0, y0, rfl, nT, rfl, ex0, ey0⟩
            obtain ⟨kv, hkv⟩ : ∃ kv, kvs[i]? = some kv := ⟨kvs[i], List.getElem?_eq_getElem hi⟩
            replace ex0 : (kvs[i]?.map fun kv => kV kv.1) = some x0 := ex0
            replace ey0 : (kvs[i]?.map Prod.snd) = some y0 := ey0
            rw [hkv] at ex0 ey0
            cases ex0
            cases ey0
            obtain ⟨b, hb, c, i1, i2, rfl⟩ := paired_at hI hkv
            have s2 := s1.trans (sm (o := .tup [kV kv.1, kv.2]) nT)
            have hD2 : (upd H1 Tp (.tup [kV kv.1, kv.2])) D = some (.lst ((bs.take i).map V.bl)) := (sm nT) _ _ hD1
            have step : ∀ H4, Same (upd H1 Tp (.tup [kV kv.1, kv.2])) H4 → ∃ acc, H4 D = some (.lst acc) ∧ acc.length < sizeLine ∧ (Same (upd H a (.frz od (.dK kvs))) (upd H4 D (.lst (acc ++ [V.bl (wordV (kV kv.1) && c)]))) ∧ (upd H4 D (.lst (acc ++ [V.bl (wordV (kV kv.1) && c)]))) D = some (.lst ((bs.take (i + 1)).map V.bl))) := fun H4 s4 => by
              refine ⟨_, s4 _ _ hD2, ?_, fun b o e => ?_, ?_⟩
              · rw [List.length_map]
                refine small1000 (Nat.le_trans (List.length_take_le _ _) (by omega))
              · have e2 := (s2.trans s4) b o e
                rw [upd_ne (ne_of_none e nD)]
                exact e2
              · rw [upd_same, List.take_add_one, hb, List.map_append]
                rfl
            refine ⟨Tp, _, rfl, SqT.of upd_same, rfl, _, _, rfl, _, _, rfl, rfl, rfl, ?_⟩
            unfold tYes
            dsimp only
            rw [if_pos rfl]
            refine ⟨_, rfl, kV kv.1, rfl, (i1.lock ha).same s2, fun H3 s3 => ⟨_, rfl, iteB (fun w1 => ?_) (fun w1 => ?_)⟩⟩
            · refine ⟨_, rfl, kv.2, c, rfl, (i2.lock ha).same (s2.trans s3), fun H4 s4 => ?_⟩
              have q := step H4 (s3.trans s4)
              rw [w1, Bool.true_and] at q
              exact q
            · have q := step H3 s3
              rw [w1, Bool.false_and] at q
              exact q
          · rintro H1 ⟨s1, hD1⟩
            have nDa : D ≠ a := fun z => by
              rw [z, upd_same] at nD
              cases nD
            refine ⟨s1 _ _ upd_same, D, _, rfl, SqL.of (xs := bs.map V.bl) ?_, ?_⟩
            · rw [upd_ne nDa, hD1, ← lb, List.take_length]
            · have q := k _ (unlock ha s1)
              rw [decide_eq_true h1', decide_eq_true h8', Bool.true_and, Bool.true_and] at q
              exact q
      · have h1' : ¬ 1 ≤ kvs.length := fun z => h1 (decide_eq_true (by omega))
        refine ⟨_, rfl, iteT ?_⟩
        have q := k H (Same.refl H)
        rw [decide_eq_false h1', Bool.false_and] at q
        exact q
    · exact ⟨_, rfl, v, .ty "dict", _, _, false, rfl, .ty "dict", ht, hk, _, rfl, iteT (iteT q)⟩
end
end PG


set_option Elab.async false
set_option linter.all false
set_option maxRecDepth 100000
set_option maxHeartbeats 4000000
/-! Sorted texts, links, places: plain mathematics. -/
namespace PG
open PySem PySem.Spec PyProof.Rows
theorem lt_irr : ∀ a : List Nat, ltCps a a = false
  | [] => rfl
  | a :: r => by
    show (decide (a < a) || (a == a && ltCps r r)) = false
    rw [lt_irr r, Bool.and_false, Bool.or_false]
    exact decide_eq_false (Nat.lt_irrefl a)
theorem lt_cons {a b : Nat} {r t : List Nat} : ltCps (a :: r) (b :: t) = true ↔ a < b ∨ (a = b ∧ ltCps r t = true) := by
  show (decide (a < b) || (a == b && ltCps r t)) = true ↔ _
  rw [Bool.or_eq_true, Bool.and_eq_true, decide_eq_true_eq, beq_iff_eq]
theorem lt_trans : ∀ {a b c : List Nat}, ltCps a b = true → ltCps b c = true → ltCps a c = true
  | [], [], _, h, _ => nomatch h
  | [], _ :: _, [], _, h => nomatch h
  | [], _ :: _, _ :: _, _, _ => rfl
  | _ :: _, [], _, h, _ => nomatch h
  | _ :: _, _ :: _, [], _, h => nomatch h
  | x :: a, y :: b, z :: c, h1, h2 => by
    rw [lt_cons] at h1 h2 ⊢
    rcases h1 with h1 | ⟨rfl, h1⟩
    · rcases h2 with h2 | ⟨rfl, h2⟩
      · exact .inl (Nat.lt_trans h1 h2)
      · exact .inl h1
    · rcases h2 with h2 | ⟨rfl, h2⟩
      · exact .inl h2
      · exact .inr ⟨rfl, lt_trans h1 h2⟩
theorem lt_tri : ∀ {a b : List Nat}, ltCps a b = false → ltCps b a = false → a = b
  | [], [], _, _ => rfl
  | [], _ :: _, h, _ => nomatch h
  | _ :: _, [], _, h => nomatch h
  | x :: a, y :: b, h1, h2 => by
    have n1 : ¬ (x < y ∨ (x = y ∧ ltCps a b = true)) := fun z => by rw [lt_cons.mpr z] at h1; cases h1
    have n2 : ¬ (y < x ∨ (y = x ∧ ltCps b a = true)) := fun z => by rw [lt_cons.mpr z] at h2; cases h2
    have e : x = y := by
      rcases Nat.lt_trichotomy x y with z | z | z
      · exact absurd (.inl z) n1
      · exact z
      · exact absurd (.inl z) n2
    subst e
    have q1 : ltCps a b = false := by
      cases z : ltCps a b with
      | false => rfl
      | true => exact absurd (.inr ⟨rfl, z⟩) n1
    have q2 : ltCps b a = false := by
      cases z : ltCps b a with
      | false => rfl
      | true => exact absurd (.inr ⟨rfl, z⟩) n2
    rw [lt_tri q1 q2]
/-- not behind -/
def leS (a b : Str) : Prop := ltCps b.cps.toList a.cps.toList = false
instance (a b : Str) : Decidable (leS a b) := inferInstanceAs (Decidable (_ = _))
theorem str_ext {a b : Str} (h : a.cps.toList = b.cps.toList) : a = b := by
  obtain ⟨⟨a⟩⟩ := a
  obtain ⟨⟨b⟩⟩ := b
  cases h
  rfl
theorem leS_refl (a : Str) : leS a a := lt_irr _
theorem leS_anti {a b : Str} (h1 : leS a b) (h2 : leS b a) : a = b := str_ext (lt_tri h2 h1)
theorem leS_trans {a b c : Str} (h1 : leS a b) (h2 : leS b c) : leS a c := by
  unfold leS at *
  cases h : ltCps c.cps.toList a.cps.toList with
  | false => rfl
  | true =>
    cases h3 : ltCps a.cps.toList b.cps.toList with
    | true =>
      rw [lt_trans h h3] at h2
      cases h2
    | false =>
      have e := lt_tri h3 h1
      rw [← e, h] at h2
      cases h2
theorem leS_total {a b : Str} (h : ¬ leS a b) : leS b a := by
  unfold leS at *
  cases h3 : ltCps a.cps.toList b.cps.toList with
  | false => rfl
  | true =>
    cases h4 : ltCps b.cps.toList a.cps.toList with
    | false => exact absurd h4 h
    | true =>
      have z := lt_trans h3 h4
      rw [lt_irr] at z
      cases z
theorem rising_pw : ∀ {l : List Str} {p : Str}, risingS p l = true → (p :: l).Pairwise leS
  | [], p, _ => List.Pairwise.cons (fun _ z => nomatch z) .nil
  | x :: r, p, h => by
    have h' : (!ltCps x.cps.toList p.cps.toList && risingS x r) = true := h
    rw [Bool.and_eq_true] at h'
    have ih := rising_pw h'.2
    have px : leS p x := by
      unfold leS
      have z := h'.1
      cases e : ltCps x.cps.toList p.cps.toList with
      | false => rfl
      | true => rw [e] at z; cases z
    refine List.Pairwise.cons (fun y hy => ?_) ih
    rcases List.mem_cons.mp hy with e | hy
    · rw [e]; exact px
    · exact leS_trans px ((List.pairwise_cons.mp ih).1 y hy)
theorem sorted_pw : ∀ {l : List Str}, sortedS l = true → l.Pairwise leS
  | [], _ => .nil
  | _ :: _, h => rising_pw h
theorem pw_unique : ∀ {xs ys : List Str}, xs.Pairwise leS → ys.Pairwise leS → xs.Perm ys → xs = ys
  | [], ys, _, _, p => (List.Perm.eq_nil p.symm).symm
  | x :: xs, [], _, _, p => absurd (List.Perm.eq_nil p) (by simp)
  | x :: xs, y :: ys, hx, hy, p => by
    have e : x = y := by
      obtain ⟨h1, _⟩ := List.pairwise_cons.mp hx
      obtain ⟨h2, _⟩ := List.pairwise_cons.mp hy
      rcases List.mem_cons.mp (p.mem_iff.mp List.mem_cons_self) with z | z
      · exact z
      · rcases List.mem_cons.mp (p.mem_iff.mpr (List.mem_cons_self (a := y) (l := ys))) with z2 | z2
        · exact z2.symm
        · exact leS_anti (h1 y z2) (h2 x z)
    subst e
    rw [pw_unique (List.pairwise_cons.mp hx).2 (List.pairwise_cons.mp hy).2 ((List.perm_cons x).mp p)]
def put1 (x : Str) : List Str → List Str
  | [] => [x]
  | y :: r => if leS x y then x :: y :: r else y :: put1 x r
def srt : List Str → List Str
  | [] => []
  | x :: r => put1 x (srt r)
theorem put1_perm (x : Str) : ∀ l : List Str, (put1 x l).Perm (x :: l)
  | [] => .refl _
  | y :: r => by
    unfold put1
    split
    · exact .refl _
    · exact ((put1_perm x r).cons y).trans (.swap x y r)
theorem srt_perm : ∀ l : List Str, (srt l).Perm l
  | [] => .nil
  | x :: r => (put1_perm x (srt r)).trans ((srt_perm r).cons x)
theorem put1_pw {x : Str} : ∀ {l : List Str}, l.Pairwise leS → (put1 x l).Pairwise leS
  | [], _ => List.Pairwise.cons (fun _ z => nomatch z) .nil
  | y :: r, h => by
    unfold put1
    obtain ⟨h1, h2⟩ := List.pairwise_cons.mp h
    split
    · rename_i hxy
      refine List.Pairwise.cons (fun z hz => ?_) h
      rcases List.mem_cons.mp hz with e | hz
      · rw [e]; exact hxy
      · exact leS_trans hxy (h1 z hz)
    · rename_i hxy
      refine List.Pairwise.cons (fun z hz => ?_) (put1_pw h2)
      rcases List.mem_cons.mp ((put1_perm x r).mem_iff.mp hz) with e | hz
      · rw [e]; exact leS_total hxy
      · exact h1 z hz
theorem srt_pw : ∀ l : List Str, (srt l).Pairwise leS
  | [] => .nil
  | _ :: r => put1_pw (srt_pw r)
theorem srt_of {ys xs : List Str} (p : ys.Perm xs) (s : sortedS ys = true) : ys = srt xs := pw_unique (sorted_pw s) (srt_pw xs) (p.trans (srt_perm xs).symm)
theorem srt_congr {xs ys : List Str} (p : xs.Perm ys) : srt xs = srt ys := pw_unique (srt_pw xs) (srt_pw ys) ((srt_perm xs).trans (p.trans (srt_perm ys).symm))
theorem srt_mem {x : Str} {l : List Str} : x ∈ srt l ↔ x ∈ l := (srt_perm l).mem_iff
theorem srt_len (l : List Str) : (srt l).length = l.length := (srt_perm l).length_eq
theorem srt_nodup {l : List Str} (h : l.Nodup) : (srt l).Nodup := (srt_perm l).nodup_iff.mpr h
theorem nodup_le : ∀ {xs ys : List Str}, xs.Nodup → (∀ x ∈ xs, x ∈ ys) → xs.length ≤ ys.length
  | [], _, _, _ => Nat.zero_le _
  | a :: xs, ys, n, m => by
    obtain ⟨n1, n2⟩ := List.nodup_cons.mp n
    have ha : a ∈ ys := m a List.mem_cons_self
    have z := nodup_le (xs := xs) (ys := ys.erase a) n2 fun x hx => (List.mem_erase_of_ne (fun e : x = a => n1 (e ▸ hx))).mpr (m x (List.mem_cons_of_mem _ hx))
    rw [List.length_erase_of_mem ha] at z
    have p : 0 < ys.length := List.length_pos_of_mem ha
    rw [List.length_cons]
    omega
theorem srt_same {xs ys : List Str} (h1 : xs.Nodup) (h2 : ys.Nodup) (h : ∀ x, x ∈ xs ↔ x ∈ ys) : srt xs = srt ys := by
  refine srt_congr (STX.perm_of_nodup h2 (fun x hx => (h x).mpr hx) ?_)
  refine Nat.le_antisymm ?_ ?_
  · exact nodup_le h1 fun x hx => (h x).mp hx
  · exact nodup_le h2 fun x hx => (h x).mpr hx
end PG


set_option Elab.async false
set_option linter.all false
set_option maxRecDepth 100000
set_option maxHeartbeats 4000000
namespace PG
open PySem L2
def txs : List V → List Str
  | .str x :: r => x :: txs r
  | _ :: r => txs r
  | [] => []
theorem txs_map : ∀ ws : List Str, txs (ws.map V.str) = ws
  | [] => rfl
  | w :: ws => congrArg (w :: ·) (txs_map ws)
/-- what is_among says of an item -/
def AmIs (K : PySem.W.Frag) (H : Hp) (ws : List Str) (v : V) (b : Bool) : Prop :=
  (∃ x, v = .str x ∧ b = decide (x ∈ ws)) ∨ (∃ t, TyX K H v t ∧ PySem.W.kitOne K t (.type "str") = some false ∧ b = false)
theorem AmIs.same {K : PySem.W.Frag} {H H' : Hp} {ws : List Str} {v : V} {b : Bool} (h : AmIs K H ws v b) (s : Same H H') : AmIs K H' ws v b := by
  rcases h with h | ⟨t, h, k, e⟩
  · exact .inl h
  · exact .inr ⟨t, TyX.same h s, k, e⟩
theorem sqL_same {K : PySem.W.Frag} {H H' : Hp} {a : Addr} {xs : List V} (h : SqL K H a xs) (s : Same H H') : SqL K H' a xs := by
  rcases h with (h | ⟨o, h⟩) | h
  · exact .inl (.inl (s _ _ h))
  · exact .inl (.inr ⟨o, s _ _ h⟩)
  · exact .inr h
theorem am_texts {K : PySem.W.Frag} {H : Hp} {ws : List Str} : ∀ {xs : List V} {bs : List Bool}, Paired (AmIs K H ws) xs bs → bs.all id = true → xs = (txs xs).map V.str
  | _, _, .nil, _ => rfl
  | _, _, .cons (a := v) (b := b) r rs, h => by
    rw [List.all_cons, Bool.and_eq_true] at h
    rcases r with ⟨x, rfl, e⟩ | ⟨t, _, _, e⟩
    · show V.str x :: _ = V.str x :: _
      exact congrArg _ (am_texts rs h.2)
    · rw [e] at h
      exact absurd h.1 (by decide)
section
variable {P : Program} {w : World} {K : PySem.W.Frag} {mg : Str → Option Value} {base : Heap}
abbrev nsExits : List Str := ["value", "places", "place"]
theorem scExits : FnScope nsExits ["value", "places"] (defScope sExits) := ⟨rfl, rfl, rfl, by decide +kernel, rfl, by decide +kernel, by decide +kernel⟩
def spExits (K : PySem.W.Frag) : Sp := fun vs H Q _ => ∃ (v : V) (a : Addr) (ws : List Str), vs = [v, .ref a] ∧ SqL K H a (ws.map V.str) ∧
  ((∃ (l : Addr) (xs : List V) (bs : List Bool), v = .ref l ∧ H l = some (.lst xs) ∧ xs.length < 1000 ∧ Paired (AmIs K H ws) xs bs ∧ ∀ H', Same H H' → Q (.bl (!xs.isEmpty && (bs.all id && decide (txs xs).Nodup))) H') ∨
   (∃ t, TyX K H v t ∧ PySem.W.kitOne K t (.type "list") = some false ∧ Q (.bl false) H))
theorem ok_exits {f fA : Addr} {fd fdA : FuncData} (F : Fun K "are_exits" "are_exits" sExits f fd) (T : PT0 mg) (FA : Fun K "is_among" "is_among" sAmong fA fdA) (bA : Binds K fdA ["value", "words"] []) (gA : mg "is_among" = some (.ref fA)) : FnOk P w K mg base CX0 2 f fd ["value", "places"] (spExits K) := by
  have GA : FnOk P w K mg base CX0 1 fA fdA ["value", "words"] (spAmong K) := ok_among FA T
  refine F.ok scExits (fun vs H Q E h => ?_) (fun cdv A outer s H vs Q E hr h => ?_)
  · obtain ⟨v, a, ws, rfl, _⟩ := h
    rfl
  · obtain ⟨v, a, ws, rfl, hS, h⟩ := h
    refine ⟨_, pss_cons (ps_if (PW.pt (pw_or (pt_not (pt_val (pe_callB call_isi (by rfl) T.isi PyProof.Rows.boot_isinstance (pa_cons (pv 0) (pa_cons (pe_bltn (v := .ty "list") rfl T.list (by decide +kernel) rfl) pa_nil)))))
        (pw_or1 (pt_not (pt_truth (pv 0) (fun _ => rfl)))))) (pss_one (ps_ret pe_bl)) pss_nil)
      (pss_one (ps_ret (pe_and (pe_callB (cr_all rfl) (by rfl) T.all PyProof.Rows.boot_all (pa_cons (pe_lc (own := [("place", 2)]) (g := gName 2) (tt := tYes) rfl scExits.nd (pi_list (pv 0)) (blkOk_by (own := [("place", 2)]) (N := nsExits) (sc := defScope sExits) (by decide +kernel)) (fun _ _ _ _ _ => pg_name (i := 2) scExits.nd rfl (Or.inl rfl)) (fun _ _ _ _ _ => pts_nil)
        (fun _ _ _ _ _ => pe_call GA hr (by rfl) gA FA.kp bA .nil pass0 (pa_cons (pv 2) (pa_cons (pv 1) pa_nil)))) pa_nil))
        (pe_one (pe_cmpR op_eq (STX.pe_lenTx rfl (by rfl) T.len (by rfl) T.set (pv 0)) (pe_callB call_len_seq (by rfl) T.len PySem.boot_len (pa_cons (pv 0) pa_nil)) (nomark _)))))), ?_⟩
    rcases h with ⟨l, xs, bs, rfl, hl, hz, hI, k⟩ | ⟨t, ht, hk, q⟩
    · refine ⟨_, rfl, .ref l, .ty "list", _, _, true, rfl, .ty "list", .base (.lst hl), kit_ty (by decide +kernel), _, rfl, iteF ?_⟩
      have lb : bs.length = xs.length := (Paired.length hI).symm
      refine ⟨_, rfl, !xs.isEmpty, .inl ⟨xs, SqL.of hl, rfl⟩, iteB (fun h0 => ?_) (fun h0 => ?_)⟩
      · have e0 : xs.isEmpty = true := by simpa using h0
        have q := k H (Same.refl H)
        rw [e0] at q
        exact q
      · have e0 : xs.isEmpty = false := by simpa using h0
        refine ⟨_, rfl, l, rfl, ⟨xs, SqL.of hl⟩, fun D nD => lc_it walk_list (fun i H' => Same H H' ∧ H' D = some (.lst ((bs.take i).map V.bl))) ⟨sm nD, upd_same⟩ (fun i H' _ p => SqL.of (p.1 _ _ hl)) ?_ ?_⟩
        · rintro i y H1 H2 hi ⟨s1, hD1⟩ ⟨rfl, hy⟩
          obtain ⟨b, hb, hA⟩ := paired_at hI hy
          refine ⟨rfl, ?_⟩
          unfold tYes
          dsimp only
          rw [if_pos rfl]
          refine ⟨_, rfl, _, rfl, y, a, rfl, ?_⟩
          have fin : ∃ acc, H2 D = some (.lst acc) ∧ acc.length < sizeLine ∧ Same H (upd H2 D (.lst (acc ++ [V.bl b]))) ∧ (upd H2 D (.lst (acc ++ [V.bl b]))) D = some (.lst ((bs.take (i + 1)).map V.bl)) := by
            refine ⟨_, hD1, ?_, fun c o e => ?_, ?_⟩
            · rw [List.length_map]
              have := List.length_take_le i bs
              refine small1000 (Nat.le_trans (List.length_take_le' i bs) (by omega))
            · rw [upd_ne (ne_of_none e nD)]
              exact s1 c o e
            · rw [upd_same, List.take_add_one, hb, List.map_append]
              rfl
          rcases hA with ⟨x, rfl, eb⟩ | ⟨t, ht, hk, eb⟩
          · refine .inl ⟨x, ws, rfl, sqL_same hS s1, ?_⟩
            rw [eb] at fin
            exact fin
          · refine .inr (.inr ⟨t, TyX.same ht s1, hk, ?_⟩)
            rw [eb] at fin
            exact fin
        · rintro H1 ⟨s1, hD1⟩
          refine ⟨D, _, rfl, SqL.of (xs := bs.map V.bl) (by rw [hD1, ← lb, List.take_length]), _, rfl, ?_⟩
          have q := k H1 s1
          rw [e0] at q
          refine iteB (fun hb => ?_) (fun hb => ?_)
          · rw [hb] at q
            have ex := am_texts hI hb
            have hl1 : SqL K H1 l ((txs xs).map V.str) := by rw [← ex]; exact SqL.of (s1 _ _ hl)
            have lx : (txs xs).length = xs.length := by have z := congrArg List.length ex; rw [List.length_map] at z; exact z.symm
            refine ⟨_, rfl, l, txs xs, rfl, hl1, by omega, _, rfl, l, _, rfl, .inl hl1, ?_⟩
            have e1 := STX.insAll_eq (txs xs)
            rw [← e1] at q
            have q2 : Q (.bl (decide (((STX.insAll (txs xs) []).length : Int) = ((txs xs).length : Int)))) H1 := q
            refine ⟨rfl, ?_⟩
            rw [List.length_map]
            have e3 : decide (V.int ((STX.insAll (txs xs) []).length : Int) = V.int ((txs xs).length : Int)) = decide (((STX.insAll (txs xs) []).length : Int) = ((txs xs).length : Int)) := by
              rw [decide_eq_decide]
              exact ⟨fun z => by injection z, fun z => by rw [z]⟩
            rw [e3]
            exact q2
          · rw [hb] at q
            exact q
    · exact ⟨_, rfl, v, .ty "list", _, _, false, rfl, .ty "list", ht, hk, _, rfl, iteT (iteT q)⟩
end
end PG


set_option Elab.async false
set_option linter.all false
set_option maxRecDepth 100000
set_option maxHeartbeats 4000000
namespace PG
open PySem L2
/-! ### what can be come to -/
inductive Rch (ps : List Str) (prs : List (Str × Str)) : Str → Prop where
  | base {x : Str} (h : x ∈ ps) : Rch ps prs x
  | step {x y : Str} (h : Rch ps prs x) (m : (x, y) ∈ prs) : Rch ps prs y
structure RI (ps : List Str) (prs : List (Str × Str)) (fs : List Str) (i : Nat) : Prop where
  nd : fs.Nodup
  sub : ∀ x ∈ ps, x ∈ fs
  rch : ∀ x ∈ fs, Rch ps prs x
  done : ∀ j, j < i → ∀ x, fs[j]? = some x → ∀ y, (x, y) ∈ prs → y ∈ fs
theorem Rch.mem {ps : List Str} {prs : List (Str × Str)} {x : Str} (h : Rch ps prs x) : x ∈ ps ++ prs.map Prod.snd := by
  cases h with
  | base h => exact List.mem_append_left _ h
  | step _ m => exact List.mem_append_right _ (List.mem_map.mpr ⟨_, m, rfl⟩)
theorem RI.len {ps : List Str} {prs : List (Str × Str)} {fs : List Str} {i : Nat} (h : RI ps prs fs i) : fs.length ≤ ps.length + prs.length := by
  have z := nodup_le h.nd fun x hx => (h.rch x hx).mem
  rwa [List.length_append, List.length_map] at z
theorem RI.add {ps : List Str} {prs : List (Str × Str)} {fs : List Str} {i : Nat} {y : Str} (h : RI ps prs fs i) (hi : i ≤ fs.length) (n : y ∉ fs) (r : Rch ps prs y) : RI ps prs (fs ++ [y]) i where
  nd := List.nodup_append.mpr ⟨h.nd, List.nodup_cons.mpr ⟨List.not_mem_nil, List.nodup_nil⟩, fun a ha b hb e => by rw [List.mem_singleton.mp hb] at e; exact n (e ▸ ha)⟩
  sub := fun x hx => List.mem_append_left _ (h.sub x hx)
  rch := fun x hx => by
    rcases List.mem_append.mp hx with z | z
    · exact h.rch x z
    · rw [List.mem_singleton.mp z]; exact r
  done := fun j hj x hx z hz => by
    rw [List.getElem?_append_left (by omega)] at hx
    exact List.mem_append_left _ (h.done j hj x hx z hz)
theorem RI.start {ps : List Str} {prs : List (Str × Str)} (h : ps.Nodup) : RI ps prs ps 0 := ⟨h, fun _ z => z, fun _ z => .base z, fun j z => absurd z (Nat.not_lt_zero j)⟩
/-- the end: all that can be come to, each once -/
theorem RI.fin {ps : List Str} {prs : List (Str × Str)} {fs : List Str} {i : Nat} (h : RI ps prs fs i) (hi : fs.length ≤ i) (x : Str) : x ∈ fs ↔ Rch ps prs x := by
  refine ⟨h.rch x, fun r => ?_⟩
  induction r with
  | base m => exact h.sub _ m
  | @step a b _ m ih =>
    obtain ⟨j, hj, e⟩ := List.getElem_of_mem ih
    exact h.done j (by omega) a (by rw [List.getElem?_eq_getElem hj, e]) b m
section
variable {P : Program} {w : World} {K : PySem.W.Frag} {mg : Str → Option Value} {base : Heap}
abbrev nsReach : List Str := ["places", "pairs", "found", "looked_at", "source", "goal"]
theorem scReach : FnScope nsReach ["places", "pairs"] (defScope sReach) := ⟨rfl, rfl, rfl, by decide +kernel, rfl, by decide +kernel, by decide +kernel⟩
def TwoAt (K : PySem.W.Frag) (H : Hp) (v : V) (pr : Str × Str) : Prop := ∃ t, v = .ref t ∧ SqT K H t [.str pr.1, .str pr.2]
def spReach (K : PySem.W.Frag) : Sp := fun vs H Q _ => ∃ (a b : Addr) (ps : List Str) (ts : List V) (prs : List (Str × Str)), vs = [.ref a, .ref b] ∧ SqL K H a (ps.map V.str) ∧ SqL K H b ts ∧ Paired (TwoAt K H) ts prs ∧ ps.Nodup ∧ ps.length + prs.length ≤ 500 ∧
  ∀ (p : Addr) (fs : List Str) (H' : Hp), H p = none → fs.Nodup → (∀ x, x ∈ fs ↔ Rch ps prs x) → Same H H' → H' p = some (.lst (fs.map V.str)) → Q (.ref p) H'
def looked (σ : L2.St) : Nat := match σ[3]? with
  | some (some (V.int i)) => i.toNat
  | _ => 0
def ReW (H : Hp) (a b p : Addr) (ps : List Str) (prs : List (Str × Str)) (σ : L2.St) (H' : Hp) (i : Nat) (fs : List Str) : Prop :=
  (∃ s4 s5, σ = [some (.ref a), some (.ref b), some (.ref p), some (.int (i : Nat)), s4, s5]) ∧ Same H H' ∧ H' p = some (.lst (fs.map V.str)) ∧ RI ps prs fs i ∧ i ≤ fs.length
theorem ok_reach {f : Addr} {fd : FuncData} (F : Fun K "reached_from" "reached_from" sReach f fd) (T : PT0 mg) : FnOk P w K mg base CX0 1 f fd ["places", "pairs"] (spReach K) := by
  refine F.ok scReach (fun vs H Q E h => ?_) (fun cdv A outer s H vs Q E hr h => ?_)
  · obtain ⟨a, b, ps, ts, prs, rfl, _⟩ := h
    rfl
  · obtain ⟨a, b, ps, ts, prs, rfl, hA, hB, hP, hN, hz, k⟩ := h
    have nd := scReach.nd
    refine ⟨_, pss_cons (ps_set (i := 2) nd rfl (Or.inl rfl) (pe_callTy call_list_of (by rfl) T.list PyProof.Rows.boot_list (pa_cons (pv 0) pa_nil)))
      (pss_cons (ps_set (i := 3) nd rfl (Or.inl rfl) pe_int)
      (pss_cons (ps_while PassesOwn.never (pt_cmpR op_lt (pv 3) (pe_callB call_len_seq (by rfl) T.len PySem.boot_len (pa_cons (pv 2) pa_nil)) (nomark _))
        (pss_cons (ps_for PassesOwn.never rfl (pi_list (pv 1)) (pg_tup rfl (pgs_cons (pg_name (i := 4) nd rfl (Or.inl rfl)) (pgs_cons (pg_name (i := 5) nd rfl (Or.inl rfl)) pgs_nil)))
          (pss_one (ps_if (PW.pt (pw_and (pt_cmpR op_eq (pv 4) (pe_ix ix_list (pv 2) (pv 3) (fun _ _ => rfl)) (nomark _)) (pw_and1 (pt_cmpR op_notIn_seq (pv 5) (pv 2) rfl))))
            (pss_one (ps_expr (pe_bm PySem.F.plainAttrs_list PySem.F.slot_list_append PySem.F.type_list_append mt_append (pv 2) (pa_cons (pv 5) pa_nil)))) pss_nil)))
        (pss_one (ps_aug (i := 3) nd rfl (Or.inl rfl) pe_int ip_add))))
      (pss_one (ps_ret (pv 2))))), ?_⟩
    refine ⟨_, rfl, a, _, rfl, .inl hA, fun p np => ?_⟩
    refine while_by (fun σ H' => ∃ i fs, ReW H a b p ps prs σ H' i fs) (fun σ H' => 600 - looked σ) ?_ ?_ ?_
    · exact ⟨0, ps, ⟨none, none, rfl⟩, sm np, upd_same, RI.start hN, Nat.zero_le _⟩
    · rintro σ H1 ⟨i, fs, ⟨s4, s5, rfl⟩, s1, h1, R, hi⟩
      have lf := R.len
      refine ⟨_, rfl, _, rfl, p, _, rfl, .inl (SqL.of h1), _, _, rfl, rfl, _, rfl, ite2 (fun hlt => ?_) (fun hlt => ?_)⟩
      · have lt : i < fs.length := by
          have z := of_decide_eq_true hlt
          rw [List.length_map] at z
          omega
        obtain ⟨c, hc⟩ : ∃ c, fs[i]? = some c := ⟨_, List.getElem?_eq_getElem lt⟩
        refine ⟨_, rfl, b, rfl, ⟨ts, sqL_same hB s1⟩, for_it walk_list (fun j σ' H' => ∃ fs', ReW H a b p ps prs σ' H' i fs' ∧ i < fs'.length ∧ fs'[i]? = some c ∧ ∀ x y, (x, y) ∈ prs.take j → x = c → y ∈ fs') ⟨fs, ⟨⟨s4, s5, rfl⟩, s1, h1, R, hi⟩, lt, hc, fun x y z => by simp at z⟩ (fun j σ' H' _ ⟨fs', q, _⟩ => sqL_same hB q.2.1) ?_ ?_⟩
        · rintro j v σ2 H2 H3 hj ⟨fs2, ⟨⟨t4, t5, rfl⟩, s2, h2, R2, hi2⟩, lt2, hc2, hd2⟩ ⟨rfl, hv⟩
          obtain ⟨⟨x, y⟩, hxy, t, rfl, ht⟩ := paired_at hP hv
          have l2 := R2.len
          have mx : (x, y) ∈ prs := List.mem_of_getElem? hxy
          have tk : ∀ {fs3 : List Str}, (∀ x y, (x, y) ∈ prs.take j → x = c → y ∈ fs3) → (x = c → y ∈ fs3) → ∀ x y, (x, y) ∈ prs.take (j + 1) → x = c → y ∈ fs3 := fun g1 g2 u v m e => by
            rw [List.take_add_one, hxy] at m
            rcases List.mem_append.mp m with m | m
            · exact g1 u v m e
            · obtain ⟨rfl, rfl⟩ := Prod.mk.inj (List.mem_singleton.mp m)
              exact g2 e
          refine ⟨t, _, rfl, sqT_same ht s2, rfl, _, _, rfl, _, _, rfl, rfl, ?_⟩
          refine ⟨_, rfl, _, rfl, _, rfl, p, _, _, _, rfl, rfl, SqL.of h2, atI_nat (j := i) (by rw [List.getElem?_map, hc2]; rfl), rfl, _, rfl, ?_⟩
          refine ite2 (fun he => ?_) (fun he => ?_)
          · have exc : x = c := by
              have z := of_decide_eq_true he
              injection z
            refine ⟨_, rfl, _, rfl, p, _, rfl, .inl (SqL.of h2), rfl, flat_strs _, _, rfl, ?_⟩
            rw [if_pos rfl, inV_strs]
            refine iteB (fun hn => ?_) (fun hn => ?_)
            · have ny : y ∉ fs2 := by simpa using hn
              refine ⟨_, rfl, .inl ⟨rfl, _, SqL.of h2⟩, _, rfl, p, _, _, rfl, rfl, h2, ?_, ?_⟩
              · rw [List.length_map]; exact small1000 (by omega)
              · refine ⟨fs2 ++ [y], ⟨⟨_, _, rfl⟩, ?_, ?_, R2.add hi2 ny (.step (R2.rch c (List.mem_of_getElem? hc2)) (exc ▸ mx)), by rw [List.length_append]; omega⟩, by rw [List.length_append]; omega, by rw [List.getElem?_append_left lt2]; exact hc2, ?_⟩
                · intro q o e
                  rw [upd_ne (ne_of_none e np)]
                  exact s2 q o e
                · rw [upd_same, List.map_append]
                  rfl
                · exact tk (fun u v m e => List.mem_append_left _ (hd2 u v m e)) (fun _ => List.mem_append_right _ List.mem_cons_self)
            · have yy : y ∈ fs2 := by simpa using hn
              exact ⟨fs2, ⟨⟨_, _, rfl⟩, s2, h2, R2, hi2⟩, lt2, hc2, tk hd2 (fun _ => yy)⟩
          · have nxc : x ≠ c := fun z => he (decide_eq_true (by rw [z]))
            exact ⟨fs2, ⟨⟨_, _, rfl⟩, s2, h2, R2, hi2⟩, lt2, hc2, tk hd2 (fun z => absurd z nxc)⟩
        · rintro σ2 H2 ⟨fs2, ⟨⟨t4, t5, rfl⟩, s2, h2, R2, hi2⟩, lt2, hc2, hd2⟩
          have e : prs.take ts.length = prs := by rw [Paired.length hP, List.take_length]
          rw [e] at hd2
          refine ⟨_, rfl, _, _, rfl, rfl, ⟨i + 1, fs2, ⟨⟨_, _, rfl⟩, s2, h2, ⟨R2.nd, R2.sub, R2.rch, fun j hj x hx y m => ?_⟩, lt2⟩⟩, ?_⟩
          · by_cases z : j < i
            · exact R2.done j z x hx y m
            · have ej : j = i := by omega
              subst ej
              rw [hc2] at hx
              exact hd2 x y m (Option.some.inj hx).symm
          · have l2 := R2.len
            show 600 - ((i : Int) + 1).toNat < 600 - (i : Int).toNat
            omega
      · refine ⟨_, rfl, ?_⟩
        have ge : fs.length ≤ i := by
          have z : ¬ ((i : Int) < ((fs.map V.str).length : Int)) := fun z => hlt (decide_eq_true z)
          rw [List.length_map] at z
          omega
        exact k p fs H1 np R.nd (R.fin ge) s1 h1
    · intro σ H1 Q1 Q2 hq h
      obtain ⟨v, e, v2, e2, p2, xs, e3, hp, i, j, ei, ej, b, eb, h⟩ := h
      exact ⟨v, e, v2, e2, p2, xs, e3, hp, i, j, ei, ej, b, eb, hq _ _ h⟩
end
end PG


set_option Elab.async false
set_option linter.all false
set_option maxRecDepth 100000
set_option maxHeartbeats 4000000
namespace PG
open PySem L2
/-! ### links -/
abbrev Lk := Str × Str × Str
def ends (ls : List Lk) : List Str := ls.flatMap fun l => [l.2.1, l.2.2]
def keysL (ls : List Lk) : List Str := ls.map (·.1)
def plc (ls : List Lk) : List Str := srt (STX.insAll (ends ls) [])
def lkp : List Lk → Str → Str × Str
  | [], _ => (Str.empty, Str.empty)
  | l :: r, w => if l.1 = w then l.2 else lkp r w
def srtL (ls : List Lk) : List Lk := (srt (keysL ls)).map fun w => (w, lkp ls w)
theorem lkp_mem : ∀ {ls : List Lk} {w : Str}, w ∈ keysL ls → (w, lkp ls w) ∈ ls
  | [], _, h => nomatch h
  | l :: r, w, h => by
    unfold lkp
    by_cases e : l.1 = w
    · rw [if_pos e, ← e]
      exact List.mem_cons_self
    · rw [if_neg e]
      rcases List.mem_cons.mp h with z | z
      · exact absurd z.symm e
      · exact List.mem_cons_of_mem _ (lkp_mem z)
theorem key_mem {ls : List Lk} {l : Lk} (h : l ∈ ls) : l.1 ∈ keysL ls := List.mem_map.mpr ⟨l, h, rfl⟩
theorem lkp_of : ∀ {ls : List Lk} {l : Lk}, (keysL ls).Nodup → l ∈ ls → lkp ls l.1 = l.2
  | [], _, _, h => nomatch h
  | a :: r, l, n, h => by
    obtain ⟨n1, n2⟩ := List.nodup_cons.mp n
    unfold lkp
    rcases List.mem_cons.mp h with z | z
    · rw [z, if_pos rfl]
    · rw [if_neg fun e => n1 (by show a.1 ∈ keysL r; rw [e]; exact key_mem z), lkp_of n2 z]
theorem srtL_keys (ls : List Lk) : keysL (srtL ls) = srt (keysL ls) := by
  unfold srtL
  show List.map _ (List.map _ _) = _
  rw [List.map_map]
  exact List.map_id' _
theorem srtL_mem {ls : List Lk} (n : (keysL ls).Nodup) {l : Lk} : l ∈ srtL ls ↔ l ∈ ls := by
  unfold srtL
  rw [List.mem_map]
  constructor
  · rintro ⟨w, hw, rfl⟩
    exact lkp_mem (srt_mem.mp hw)
  · intro h
    exact ⟨l.1, srt_mem.mpr (key_mem h), by rw [lkp_of n h]⟩
theorem srtL_len (ls : List Lk) : (srtL ls).length = ls.length := by
  unfold srtL
  rw [List.length_map, srt_len]
  exact List.length_map _
theorem srtL_nodup {ls : List Lk} (n : (keysL ls).Nodup) : (keysL (srtL ls)).Nodup := by
  rw [srtL_keys]
  exact srt_nodup n
theorem srtL_lkp {ls : List Lk} (n : (keysL ls).Nodup) {w : Str} (h : w ∈ keysL ls) : lkp (srtL ls) w = lkp ls w :=
  lkp_of (srtL_nodup n) ((srtL_mem n).mpr (lkp_mem h))
theorem ends_mem {ls : List Lk} {x : Str} : x ∈ ends ls ↔ ∃ l ∈ ls, x = l.2.1 ∨ x = l.2.2 := by
  unfold ends
  rw [List.mem_flatMap]
  constructor
  · rintro ⟨l, hl, h⟩
    refine ⟨l, hl, ?_⟩
    rcases List.mem_cons.mp h with z | z
    · exact .inl z
    · exact .inr (List.mem_singleton.mp z)
  · rintro ⟨l, hl, h | h⟩
    · exact ⟨l, hl, by rw [h]; exact List.mem_cons_self⟩
    · exact ⟨l, hl, by rw [h]; exact List.mem_cons_of_mem _ List.mem_cons_self⟩
theorem insAll_nd : ∀ {ws l : List Str}, l.Nodup → (STX.insAll ws l).Nodup
  | [], _, h => h
  | k :: ws, l, h => by
    refine insAll_nd (ws := ws) ?_
    unfold STX.ins
    split
    · exact h
    · rename_i z
      exact List.nodup_cons.mpr ⟨z, h⟩
theorem plc_mem {ls : List Lk} {x : Str} : x ∈ plc ls ↔ x ∈ ends ls := by
  unfold plc
  rw [srt_mem, STX.insAll_mem]
  exact ⟨fun h => h.elim id fun z => (nomatch z), .inl⟩
theorem plc_nodup (ls : List Lk) : (plc ls).Nodup := srt_nodup (insAll_nd List.nodup_nil)
theorem plc_congr {ls ls' : List Lk} (h : ∀ l, l ∈ ls ↔ l ∈ ls') : plc ls = plc ls' := by
  refine srt_same (insAll_nd List.nodup_nil) (insAll_nd List.nodup_nil) fun x => ?_
  rw [STX.insAll_mem, STX.insAll_mem, ends_mem, ends_mem]
  constructor
  · rintro (⟨l, hl, z⟩ | z)
    · exact .inl ⟨l, (h l).mp hl, z⟩
    · exact nomatch z
  · rintro (⟨l, hl, z⟩ | z)
    · exact .inl ⟨l, (h l).mpr hl, z⟩
    · exact nomatch z
theorem plc_srtL {ls : List Lk} (n : (keysL ls).Nodup) : plc (srtL ls) = plc ls := plc_congr fun _ => srtL_mem n
/-! ### links in the heap -/
def LkAt (K : PySem.W.Frag) (H : Hp) (kv : Key × V) (l : Lk) : Prop := kv.1 = Sum.inr l.1 ∧ TwoAt K H kv.2 l.2
abbrev Lks (K : PySem.W.Frag) (H : Hp) (kvs : List (Key × V)) (ls : List Lk) : Prop := Paired (LkAt K H) kvs ls
theorem Paired.imp {α β : Type} {R S : α → β → Prop} (h : ∀ a b, R a b → S a b) : ∀ {xs : List α} {ys : List β}, Paired R xs ys → Paired S xs ys
  | _, _, .nil => .nil
  | _, _, .cons r rs => .cons (h _ _ r) (Paired.imp h rs)
theorem paired_snoc {α β : Type} {R : α → β → Prop} {a : α} {b : β} : ∀ {xs : List α} {ys : List β}, Paired R xs ys → R a b → Paired R (xs ++ [a]) (ys ++ [b])
  | _, _, .nil, h => .cons h .nil
  | _, _, .cons r rs, h => .cons r (paired_snoc rs h)
theorem TwoAt.same {K : PySem.W.Frag} {H H' : Hp} {v : V} {p : Str × Str} (h : TwoAt K H v p) (s : Same H H') : TwoAt K H' v p := by
  obtain ⟨t, e, h⟩ := h
  exact ⟨t, e, sqT_same h s⟩
theorem Lks.same {K : PySem.W.Frag} {H H' : Hp} {kvs : List (Key × V)} {ls : List Lk} (h : Lks K H kvs ls) (s : Same H H') : Lks K H' kvs ls := Paired.imp (fun _ _ q => ⟨q.1, q.2.same s⟩) h
theorem Lks.lock {K : PySem.W.Frag} {H : Hp} {a : Addr} {od : Obj} {k2 kvs : List (Key × V)} {ls : List Lk} (h : Lks K H kvs ls) (ha : H a = some (.dK k2)) : Lks K (upd H a (.frz od (.dK k2))) kvs ls :=
  Paired.imp (fun _ _ q => by
    obtain ⟨e, t, e2, z⟩ := q
    exact ⟨e, t, e2, sqT_lock z ha⟩) h
theorem lks_val {K : PySem.W.Frag} {H : Hp} {w : Str} : ∀ {kvs : List (Key × V)} {ls : List Lk}, Lks K H kvs ls → w ∈ keysL ls → ∃ t, valV kvs (Sum.inr w : Key) = some (.ref t) ∧ SqT K H t [.str (lkp ls w).1, .str (lkp ls w).2]
  | _, _, .nil, h => nomatch h
  | _, _, .cons (a := kv) (b := l) ⟨e, t, e2, z⟩ rs, h => by
    unfold lkp
    by_cases c : l.1 = w
    · refine ⟨t, by rw [valV_pos (by rw [e, c]), e2], ?_⟩
      rw [if_pos c]
      exact z
    · rcases List.mem_cons.mp h with y | y
      · exact absurd y.symm c
      · obtain ⟨t', h1, h2⟩ := lks_val rs y
        refine ⟨t', by rw [valV_neg (by rw [e]; exact fun q => c (Sum.inr.inj q)), h1], ?_⟩
        rw [if_neg c]
        exact h2
theorem lks_keys {K : PySem.W.Frag} {H : Hp} : ∀ {kvs : List (Key × V)} {ls : List Lk}, Lks K H kvs ls → kvs.map (·.1) = (keysL ls).map Sum.inr
  | _, _, .nil => rfl
  | _, _, .cons ⟨e, _⟩ rs => by
    rw [List.map_cons, e, lks_keys rs]
    rfl
theorem lks_none {K : PySem.W.Frag} {H : Hp} {w : Str} : ∀ {kvs : List (Key × V)} {ls : List Lk}, Lks K H kvs ls → w ∉ keysL ls → valV kvs (Sum.inr w : Key) = none
  | _, _, .nil, _ => rfl
  | _, _, .cons (a := kv) (b := l) ⟨e, _⟩ rs, h => by
    rw [valV_neg (by rw [e]; exact fun q => h (List.mem_cons.mpr (.inl (Sum.inr.inj q).symm)))]
    exact lks_none rs fun z => h (List.mem_cons_of_mem _ z)
/-! ### programs in the heap -/
structure PD where
  ls : List Lk
  ps : List Str
  b : Str
  fs : List Str
def pdOf (ls : List Lk) (b : Str) (es : List Str) : PD := ⟨srtL ls, plc ls, b, srt es⟩
structure ProgAt (K : PySem.W.Frag) (C : Addr) (H : Hp) (x dx L S F : Addr) (d : PD) : Prop where
  ins : H x = some (.ins C dx [("links", .ref L), ("spots", .ref S), ("origin", .str d.b), ("finals", .ref F)])
  lk : ∃ kvs, H L = some (.dK kvs) ∧ Lks K H kvs d.ls
  sp : H S = some (.lst (d.ps.map V.str))
  fi : H F = some (.lst (d.fs.map V.str))
theorem ProgAt.same {K : PySem.W.Frag} {C : Addr} {H H' : Hp} {x dx L S F : Addr} {d : PD} (h : ProgAt K C H x dx L S F d) (s : Same H H') : ProgAt K C H' x dx L S F d := by
  obtain ⟨i, ⟨kvs, l, lk⟩, p, f⟩ := h
  exact ⟨s _ _ i, ⟨kvs, s _ _ l, lk.same s⟩, s _ _ p, s _ _ f⟩
structure GoodP (ls : List Lk) (b : Str) (es : List Str) : Prop where
  n1 : 1 ≤ ls.length
  n2 : ls.length ≤ 40
  sm : (plc ls).length < 64
  nd : (keysL ls).Nodup
  wd : ∀ l ∈ ls, isWord l.1 = true ∧ isWord l.2.1 = true ∧ isWord l.2.2 = true
  hb : b ∈ ends ls
  he : es ≠ []
  hs : ∀ e ∈ es, e ∈ ends ls
  hn : es.Nodup
  reach : ∀ x ∈ ends ls, Rch [b] (ls.map (·.2)) x
  leave : ∀ x ∈ ends ls, Rch es (ls.map fun l => (l.2.2, l.2.1)) x
theorem Rch.mono {ps ps' : List Str} {prs prs' : List (Str × Str)} (h1 : ∀ x ∈ ps, x ∈ ps') (h2 : ∀ p ∈ prs, p ∈ prs') {x : Str} (h : Rch ps prs x) : Rch ps' prs' x := by
  induction h with
  | base h => exact .base (h1 _ h)
  | step _ m ih => exact .step ih (h2 _ m)
theorem ps_dead {X : Cx} {st : Stmt} : PS X st (fun _ _ _ => False) := ⟨fun _ _ _ _ _ _ h => h.elim⟩
theorem pss_dead {X : Cx} {sts : List Stmt} : PSs X sts (fun _ _ _ => False) := ⟨fun _ _ _ _ _ _ h => h.elim⟩
theorem iteNF {A B : Prop} (h : B) : if (!true) = true then A else B := h
/-! ### comprehensions whose turns keep the heap -/
theorem lc_keep {J : It} {n : Nat} {G : Hp → Prop} {Y : Nat → Hp → V → Hp → Prop} (w : Walk J n G Y) {g : TG} {tt : TT} {te : TE} {vs : List Nat} {σ : L2.St} {H1 : Hp} {D : Addr} {Qd : Hp → Prop} (nD : H1 D = none) (out : Nat → List V) (o0 : out 0 = []) (ol : ∀ i, i ≤ n → (out i).length ≤ 1000) (hG : ∀ H, Same H1 H → G H)
    (hs : ∀ i x H H' (Pn : Hp → Prop), i < n → Same H1 H → Y i H x H' → (∀ H4 y, Same H H4 → out (i + 1) = out i ++ [y] → ∃ acc, H4 D = some (.lst acc) ∧ acc.length < sizeLine ∧ Pn (upd H4 D (.lst (acc ++ [y])))) → (∀ H3, Same H H3 → out (i + 1) = out i → Pn H3) →
      g x (wipe σ vs) H' fun σ2 H2 => wipe σ2 vs = wipe σ vs ∧ tt σ2 H2 fun b H3 => if b = true then te σ2 H3 fun y H4 => ∃ acc, H4 D = some (.lst acc) ∧ acc.length < sizeLine ∧ Pn (upd H4 D (.lst (acc ++ [y]))) else Pn H3)
    (hd : ∀ H, Same H1 H → H D = some (.lst (out n)) → Qd H) :
    ∃ W : Nat → Nat → Hp → Prop, (∃ m, W 0 m (upd H1 D (.lst []))) ∧ ∀ i m H, W i m H →
      (J.stop i H ∧ Qd H) ∨ (J.go i H ∧ ∃ Nx : Hp → Prop, (∀ H', Nx H' → ∃ m', m' < m ∧ W (i + 1) m' H') ∧ ∀ x H', J.yld i H x H' → g x (wipe σ vs) H' fun σ2 H2 => wipe σ2 vs = wipe σ vs ∧ tt σ2 H2 fun b H3 =>
        if b = true then te σ2 H3 fun y H4 => ∃ acc, H4 D = some (.lst acc) ∧ acc.length < sizeLine ∧ Nx (upd H4 D (.lst (acc ++ [y]))) else Nx H3) := by
  refine lc_it w (fun i H' => Same H1 H' ∧ H' D = some (.lst (out i))) ⟨sm nD, by rw [upd_same, o0]⟩ (fun i H _ p => hG H p.1) ?_ (fun H p => hd H p.1 p.2)
  rintro i x H H' hi ⟨s1, hD⟩ y
  refine hs i x H H' _ hi s1 y (fun H4 z s4 e => ?_) (fun H3 s3 e => ?_)
  · refine ⟨_, s4 _ _ hD, small1000 (ol i (Nat.le_of_lt hi)), fun b o q => ?_, by rw [upd_same, e]⟩
    rw [upd_ne (ne_of_none q nD)]
    exact s4 _ _ (s1 b o q)
  · exact ⟨s1.trans s3, by rw [e]; exact s3 _ _ hD⟩
theorem dc_it {J : It} {n : Nat} {G : Hp → Prop} {Y : Nat → Hp → V → Hp → Prop} (w : Walk J n G Y) {g : TG} {tt : TT} {tk tv : TE} {vs : List Nat} {σ : L2.St} {H1 : Hp} {D : Addr} {Qd : Hp → Prop} (Pv : Nat → Hp → Prop) (h0 : Pv 0 (upd H1 D (.dK []))) (hG : ∀ i H, i ≤ n → Pv i H → G H)
    (hs : ∀ i x H H', i < n → Pv i H → Y i H x H' → g x (wipe σ vs) H' fun σ2 H2 => wipe σ2 vs = wipe σ vs ∧ tt σ2 H2 fun b H3 => if b = true then tk σ2 H3 fun y H4 => tv σ2 H4 fun z H5 => ∃ kvs k, y = kV k ∧ H5 D = some (.dK kvs) ∧ kvs.length < sizeLine ∧ Pv (i + 1) (upd H5 D (.dK (putK kvs k z))) else Pv (i + 1) H3)
    (hd : ∀ H, Pv n H → Qd H) :
    ∃ W : Nat → Nat → Hp → Prop, (∃ m, W 0 m (upd H1 D (.dK []))) ∧ ∀ i m H, W i m H →
      (J.stop i H ∧ Qd H) ∨ (J.go i H ∧ ∃ Nx : Hp → Prop, (∀ H', Nx H' → ∃ m', m' < m ∧ W (i + 1) m' H') ∧ ∀ x H', J.yld i H x H' → g x (wipe σ vs) H' fun σ2 H2 => wipe σ2 vs = wipe σ vs ∧ tt σ2 H2 fun b H3 =>
        if b = true then tk σ2 H3 fun y H4 => tv σ2 H4 fun z H5 => ∃ kvs k, y = kV k ∧ H5 D = some (.dK kvs) ∧ kvs.length < sizeLine ∧ Nx (upd H5 D (.dK (putK kvs k z))) else Nx H3) := by
  refine ⟨fun i m H => m = n - i ∧ i ≤ n ∧ Pv i H, ⟨n, (Nat.sub_zero n).symm, Nat.zero_le _, h0⟩, ?_⟩
  rintro i m H ⟨rfl, hi, p⟩
  by_cases lt : i < n
  · exact .inr ⟨w.goes i H lt (hG i H hi p), Pv (i + 1), fun H' p' => ⟨n - (i + 1), by omega, rfl, lt, p'⟩, fun x H' y => hs i x H H' lt p (w.yields i H x H' lt (hG i H hi p) y)⟩
  · have e : i = n := by omega
    subst e
    exact .inl ⟨w.stops H (hG i H hi p), hd H p⟩
end PG


set_option Elab.async false
set_option linter.all false
set_option maxRecDepth 100000
set_option maxHeartbeats 4000000
namespace PG
open PySem L2
theorem word_len {x : Str} (h : isWord x = true) : x.length ≤ 8 := by
  unfold isWord at h
  rw [Bool.and_eq_true, Bool.and_eq_true] at h
  exact of_decide_eq_true h.2.1
theorem two_is {K : PySem.W.Frag} {H : Hp} {v : V} {p : Str × Str} (h : TwoAt K H v p) (w1 : isWord p.1 = true) (w2 : isWord p.2 = true) : LinkIs K H v true := by
  obtain ⟨t, rfl, h⟩ := h
  have z := LinkIs.two (K := K) (H := H) h (.str (Nat.le_trans (word_len w1) (by decide))) (.str (Nat.le_trans (word_len w2) (by decide)))
  have e1 : wordV (.str p.1) = true := w1
  have e2 : wordV (.str p.2) = true := w2
  rw [e1, e2] at z
  exact z
theorem lks_items {K : PySem.W.Frag} {H : Hp} : ∀ {kvs : List (Key × V)} {ls : List Lk}, Lks K H kvs ls → (∀ l ∈ ls, isWord l.1 = true ∧ isWord l.2.1 = true ∧ isWord l.2.2 = true) → Paired (ItemIs K H) kvs (ls.map fun _ => true)
  | _, _, .nil, _ => .nil
  | _, _, .cons (a := kv) (b := l) ⟨e, h⟩ rs, wd => by
    obtain ⟨w1, w2, w3⟩ := wd l List.mem_cons_self
    refine .cons ⟨true, ?_, two_is h w2 w3, ?_⟩ (lks_items rs fun l hl => wd l (List.mem_cons_of_mem _ hl))
    · rw [e]
      exact .str (Nat.le_trans (word_len w1) (by decide))
    · rw [e]
      show true = (isWord l.1 && true)
      rw [w1]
      rfl
theorem all_true {α : Type} : ∀ ls : List α, (ls.map fun _ => true).all id = true
  | [] => rfl
  | _ :: r => all_true r
theorem lks_at {K : PySem.W.Frag} {H : Hp} {kvs : List (Key × V)} {ls : List Lk} {i : Nat} {kv : Key × V} (h : Lks K H kvs ls) (e : kvs[i]? = some kv) : ∃ l, ls[i]? = some l ∧ kv.1 = Sum.inr l.1 ∧ TwoAt K H kv.2 l.2 := by
  obtain ⟨l, h1, h2⟩ := paired_at h e
  exact ⟨l, h1, h2⟩
theorem ends_snoc (ls : List Lk) (l : Lk) : ends (ls ++ [l]) = ends ls ++ [l.2.1, l.2.2] := by
  unfold ends
  rw [List.flatMap_append]
  simp
theorem insAll_app : ∀ (a b l : List Str), STX.insAll (a ++ b) l = STX.insAll b (STX.insAll a l)
  | [], _, _ => rfl
  | _ :: a, b, _ => insAll_app a b _
theorem ends_len : ∀ ls : List Lk, (ends ls).length = 2 * ls.length
  | [] => rfl
  | l :: r => by
    have z := ends_len r
    show (_ ++ ends r).length = _
    rw [List.length_append, z, List.length_cons]
    show 2 + 2 * r.length = 2 * (r.length + 1)
    omega
theorem pair_uniq {K : PySem.W.Frag} {H : Hp} {kvs : List (Key × V)} {ls : List Lk} {i : Nat} {l : Lk} (h : Lks K H kvs ls) (n : (keysL ls).Nodup) (e : ls[i]? = some l) : ∃ t, valV kvs (Sum.inr l.1 : Key) = some (.ref t) ∧ SqT K H t [.str l.2.1, .str l.2.2] := by
  have m := List.mem_of_getElem? e
  obtain ⟨t, h1, h2⟩ := lks_val h (key_mem m)
  rw [lkp_of n m] at h2
  exact ⟨t, h1, h2⟩
/-- d[k] of links, also while they are walked -/
theorem lk_get {K : PySem.W.Frag} {H : Hp} {a : Addr} {kvs : List (Key × V)} {ls : List Lk} {l : Lk} (r : Rd H a (.dK kvs)) (h : Lks K H kvs ls) (n : (keysL ls).Nodup) (m : l ∈ ls) : ∃ t, DGet H a (.str l.1) (some (.ref t)) ∧ SqT K H t [.str l.2.1, .str l.2.2] := by
  obtain ⟨t, h1, h2⟩ := lks_val h (key_mem m)
  rw [lkp_of n m] at h2
  refine ⟨t, ?_, h2⟩
  rw [← h1]
  exact .inl ⟨kvs, Sum.inr l.1, r, rfl, rfl⟩
section
variable {P : Program} {w : World} {K : PySem.W.Frag}
/-- {place for way in links for place in links[way]} -/
theorem rd_ends {H : Hp} {L D : Addr} {od : Obj} {kvs : List (Key × V)} {ls : List Lk} {s0 s1 s2 s3 : Option V} {Q : Hp → Prop} (hL : H L = some (.frz od (.dK kvs))) (hK : Lks K H kvs ls) (hn : (keysL ls).Nodup) (hz : ls.length ≤ 40) (nD : H D = none)
    (k : ∀ H', Same H H' → H' D = some (STX.TxO P w D (STX.insAll (ends ls) [])) → Q H') :
    ∃ W : Nat → Nat → Hp → Prop, (∃ m, W 0 m (upd H D (STX.TxO P w D []))) ∧ ∀ i m H, W i m H →
  ((Itk L od kvs).stop i H ∧ Q H) ∨ ((Itk L od kvs).go i H ∧ ∃ Nx : Hp → Prop, (∀ H', Nx H' → ∃ m', m' < m ∧ W (i + 1) m' H') ∧ ∀ x H', (Itk L od kvs).yld i H x H' → gName 6 x (wipe [s0, s1, s2, s3, some (V.ref L), none, none, none] [6, 7]) H' fun σ2 H2 => wipe σ2 [6, 7] = wipe [s0, s1, s2, s3, some (V.ref L), none, none, none] [6, 7] ∧ tYes σ2 H2 fun b H3 =>
    if b = true then iTup K (tDGet (tVar 4) (tVar 6)) σ2 H3 fun J1 H4 => ∃ W1 : Nat → Nat → Hp → Prop, (∃ m, W1 0 m H4) ∧ ∀ j k H, W1 j k H →
      (J1.stop j H ∧ Nx H) ∨ (J1.go j H ∧ ∃ Nx1 : Hp → Prop, (∀ H', Nx1 H' → ∃ k', k' < k ∧ W1 (j + 1) k' H') ∧ ∀ x H', J1.yld j H x H' → gName 7 x (wipe σ2 [7]) H' fun σ3 H5 => wipe σ3 [7] = wipe σ2 [7] ∧ tYes σ3 H5 fun b H6 =>
        if b = true then tVar 7 σ3 H6 fun y H7 => ∃ (k : Str) (l : List Str), y = .str k ∧ H7 D = some (STX.TxO P w D l) ∧ l.length + 1 < scanBound ∧ Nx1 (upd H7 D (STX.TxO P w D (STX.ins k l))) else Nx1 H6)
    else Nx H3) := by
  have lk : kvs.length = ls.length := Paired.length hK
  refine ⟨fun i m H' => m = ls.length - i ∧ i ≤ ls.length ∧ Same H H' ∧ H' D = some (STX.TxO P w D (STX.insAll (ends (ls.take i)) [])), ⟨_, rfl, Nat.zero_le _, sm nD, upd_same⟩, ?_⟩
  rintro i m H1 ⟨rfl, hi, s1, hD⟩
  by_cases lt : i < ls.length
  · refine .inr ⟨⟨s1 _ _ hL, by omega⟩, fun H' => Same H H' ∧ H' D = some (STX.TxO P w D (STX.insAll (ends (ls.take (i + 1))) [])), fun H' p' => ⟨_, by omega, rfl, lt, p'.1, p'.2⟩, ?_⟩
    rintro v H2 ⟨rfl, kk, vv, ekv, rfl⟩
    obtain ⟨l, hl, e1, _⟩ := lks_at hK ekv
    have e1' : kk = Sum.inr l.1 := e1
    subst e1'
    obtain ⟨t, hv, h2⟩ := pair_uniq hK hn hl
    have h1 : DGet H2 L (.str l.1) (some (.ref t)) := by
      rw [← hv]
      exact .inl ⟨kvs, Sum.inr l.1, .inr ⟨od, s1 _ _ hL⟩, rfl, rfl⟩
    refine ⟨rfl, ?_⟩
    unfold tYes
    dsimp only
    rw [if_pos rfl]
    have et : ls.take (i + 1) = ls.take i ++ [l] := by rw [List.take_add_one, hl]; rfl
    have base1 : (STX.insAll (ends (ls.take i)) []).length ≤ 80 := by
      have z := STX.insAll_len (ends (ls.take i)) []
      have z3 : (ls.take i).length ≤ ls.length := List.length_take_le' i ls
      rw [ends_len, List.length_nil] at z
      omega
    refine ⟨_, rfl, _, rfl, L, .ref t, rfl, h1, t, rfl, ⟨_, sqT_same h2 s1⟩, fun j k' H' => k' = 2 - j ∧ j ≤ 2 ∧ Same H H' ∧ H' D = some (STX.TxO P w D (STX.insAll ([l.2.1, l.2.2].take j) (STX.insAll (ends (ls.take i)) []))), ⟨_, rfl, by decide, s1, hD⟩, ?_⟩
    rintro j k' H4 ⟨rfl, hj, s4, hD4⟩
    have ht4 : SqT K H4 t [.str l.2.1, .str l.2.2] := sqT_same h2 s4
    by_cases lj : j < 2
    · obtain ⟨z, hz1, hz2⟩ : ∃ z : Str, [V.str l.2.1, V.str l.2.2][j]? = some (.str z) ∧ [l.2.1, l.2.2].take (j + 1) = [l.2.1, l.2.2].take j ++ [z] := by
        have : j = 0 ∨ j = 1 := by omega
        rcases this with rfl | rfl
        · exact ⟨_, rfl, rfl⟩
        · exact ⟨_, rfl, rfl⟩
      refine .inr ⟨⟨_, _, ht4, hz1⟩, fun H' => Same H H' ∧ H' D = some (STX.TxO P w D (STX.insAll ([l.2.1, l.2.2].take (j + 1)) (STX.insAll (ends (ls.take i)) []))), fun H' p' => ⟨_, by omega, rfl, lj, p'.1, p'.2⟩, ?_⟩
      rintro v H5 ⟨rfl, hv5⟩
      have ev := hv5 _ ht4
      rw [hz1] at ev
      cases ev
      refine ⟨rfl, ?_⟩
      rw [if_pos rfl]
      refine ⟨_, rfl, z, _, rfl, hD4, ?_, fun b o e => ?_, ?_⟩
      · have q := STX.insAll_len ([l.2.1, l.2.2].take j) (STX.insAll (ends (ls.take i)) [])
        have q2 : ([l.2.1, l.2.2].take j).length ≤ 2 := List.length_take_le' j _
        unfold scanBound
        omega
      · rw [upd_ne (ne_of_none e nD)]
        exact s4 b o e
      · rw [upd_same, hz2, STX.insAll_snoc]
    · have ej : j = 2 := by omega
      subst ej
      refine .inl ⟨⟨_, ht4, Nat.le_refl 2⟩, s4, ?_⟩
      rw [et, ends_snoc, insAll_app]
      exact hD4
  · have e : i = ls.length := by omega
    subst e
    rw [List.take_length] at hD
    exact .inl ⟨⟨s1 _ _ hL, by omega⟩, k H1 s1 hD⟩
end
end PG


set_option Elab.async false
set_option linter.all false
set_option maxRecDepth 100000
set_option maxHeartbeats 4000000
namespace PG
open PySem L2
theorem lc_rel {β : Type} {J : It} {n : Nat} {G : Hp → Prop} {Y : Nat → Hp → V → Hp → Prop} (w : Walk J n G Y) {g : TG} {tt : TT} {te : TE} {vs : List Nat} {σ : L2.St} {H1 : Hp} {D : Addr} {Qd : Hp → Prop} (nD : H1 D = none) (R : Hp → V → β → Prop) (mono : ∀ {H H' v b}, Same H H' → R H v b → R H' v b) (st : ∀ {H xs ys v b}, H D = some (.lst xs) → R H v b → R (upd H D (.lst ys)) v b)
    (out : Nat → List β) (o0 : out 0 = []) (ol : ∀ i, i ≤ n → (out i).length ≤ 1000) (hG : ∀ H, Same H1 H → G H)
    (hs : ∀ i x H H' (Pn : Hp → Prop), i < n → Same H1 H → Y i H x H' → (∀ H4 y b, Same H H4 → R H4 y b → out (i + 1) = out i ++ [b] → ∃ acc, H4 D = some (.lst acc) ∧ acc.length < sizeLine ∧ Pn (upd H4 D (.lst (acc ++ [y])))) → (∀ H3, Same H H3 → out (i + 1) = out i → Pn H3) →
      g x (wipe σ vs) H' fun σ2 H2 => wipe σ2 vs = wipe σ vs ∧ tt σ2 H2 fun b H3 => if b = true then te σ2 H3 fun y H4 => ∃ acc, H4 D = some (.lst acc) ∧ acc.length < sizeLine ∧ Pn (upd H4 D (.lst (acc ++ [y]))) else Pn H3)
    (hd : ∀ H ts, Same H1 H → H D = some (.lst ts) → Paired (R H) ts (out n) → Qd H) :
    ∃ W : Nat → Nat → Hp → Prop, (∃ m, W 0 m (upd H1 D (.lst []))) ∧ ∀ i m H, W i m H →
      (J.stop i H ∧ Qd H) ∨ (J.go i H ∧ ∃ Nx : Hp → Prop, (∀ H', Nx H' → ∃ m', m' < m ∧ W (i + 1) m' H') ∧ ∀ x H', J.yld i H x H' → g x (wipe σ vs) H' fun σ2 H2 => wipe σ2 vs = wipe σ vs ∧ tt σ2 H2 fun b H3 =>
        if b = true then te σ2 H3 fun y H4 => ∃ acc, H4 D = some (.lst acc) ∧ acc.length < sizeLine ∧ Nx (upd H4 D (.lst (acc ++ [y]))) else Nx H3) := by
  refine lc_it w (fun i H' => Same H1 H' ∧ ∃ ts, H' D = some (.lst ts) ∧ Paired (R H') ts (out i)) ⟨sm nD, [], upd_same, by rw [o0]; exact .nil⟩ (fun i H _ p => hG H p.1) ?_ (fun H ⟨p, ts, q, r⟩ => hd H ts p q r)
  rintro i x H H' hi ⟨s1, ts, hD, hR⟩ y
  refine hs i x H H' _ hi s1 y (fun H4 z b s4 r e => ?_) (fun H3 s3 e => ?_)
  · have lt : ts.length = (out i).length := Paired.length hR
    refine ⟨_, s4 _ _ hD, small1000 (by rw [lt]; exact ol i (Nat.le_of_lt hi)), fun c o q => ?_, _, upd_same, ?_⟩
    · rw [upd_ne (ne_of_none q nD)]
      exact s4 _ _ (s1 c o q)
    · rw [e]
      exact paired_snoc (Paired.imp (fun _ _ q => st (s4 _ _ hD) (mono s4 q)) hR) (st (s4 _ _ hD) r)
  · exact ⟨s1.trans s3, ts, s3 _ _ hD, by rw [e]; exact Paired.imp (fun _ _ q => mono s3 q) hR⟩
theorem sqT_at {K : PySem.W.Frag} {H : Hp} {p t : Addr} {o : HO} {xs : List V} (h : SqT K H t xs) (n : p ≠ t ∨ (∃ u, H p = some u ∧ (∀ l, u ≠ .tup l) ∧ ∀ od l, u ≠ .frz od (.tup l))) : SqT K (upd H p o) t xs := by
  have d : ∀ u, H t = some u → ((∃ l, u = .tup l) ∨ ∃ od l, u = .frz od (.tup l)) → t ≠ p := fun u hu hk z => by
    rcases n with n | ⟨v, hv, n1, n2⟩
    · exact n z.symm
    · rw [z, hv] at hu
      cases hu
      rcases hk with ⟨l, e⟩ | ⟨od, l, e⟩
      · exact n1 l e
      · exact n2 od l e
  rcases h with (h | ⟨od, h⟩) | h
  · exact .inl (.inl (by rw [upd_ne (d _ h (.inl ⟨_, rfl⟩))]; exact h))
  · exact .inl (.inr ⟨od, by rw [upd_ne (d _ h (.inr ⟨_, _, rfl⟩))]; exact h⟩)
  · exact .inr h
theorem two_lst {K : PySem.W.Frag} {H : Hp} {D : Addr} {xs : List V} {o : HO} {v : V} {b : Str × Str} (hD : H D = some (.lst xs)) (h : TwoAt K H v b) : TwoAt K (upd H D o) v b := by
  obtain ⟨t, e, h⟩ := h
  exact ⟨t, e, sqT_at h (.inr ⟨_, hD, (by intro l z; cases z), by intro od l z; cases z⟩)⟩
theorem two_dk {K : PySem.W.Frag} {H : Hp} {D : Addr} {kvs : List (Key × V)} {o : HO} {v : V} {b : Str × Str} (hD : H D = some (.dK kvs)) (h : TwoAt K H v b) : TwoAt K (upd H D o) v b := by
  obtain ⟨t, e, h⟩ := h
  exact ⟨t, e, sqT_at h (.inr ⟨_, hD, (by intro l z; cases z), by intro od l z; cases z⟩)⟩
section
variable {K : PySem.W.Frag}
theorem take_map_snoc {α β : Type} {xs : List α} {i : Nat} {x : α} (f : α → β) (h : xs[i]? = some x) : (xs.take (i + 1)).map f = (xs.take i).map f ++ [f x] := by
  rw [List.take_add_one, h, List.map_append]
  rfl
/-- [links[way] for way in links] -/
theorem rd_pairs {H : Hp} {L D : Addr} {od : Obj} {kvs : List (Key × V)} {ls : List Lk} {s0 s1 s2 s3 s5 : Option V} {Q : Hp → Prop} (hL : H L = some (.frz od (.dK kvs))) (hK : Lks K H kvs ls) (hn : (keysL ls).Nodup) (hz : ls.length ≤ 40) (nD : H D = none)
    (k : ∀ H' ts, Same H H' → H' D = some (.lst ts) → Paired (TwoAt K H') ts (ls.map (·.2)) → Q H') :
    ∃ W : Nat → Nat → Hp → Prop, (∃ m, W 0 m (upd H D (.lst []))) ∧ ∀ i m H, W i m H →
      ((Itk L od kvs).stop i H ∧ Q H) ∨ ((Itk L od kvs).go i H ∧ ∃ Nx : Hp → Prop, (∀ H', Nx H' → ∃ m', m' < m ∧ W (i + 1) m' H') ∧ ∀ x H', (Itk L od kvs).yld i H x H' → gName 6 x (wipe [s0, s1, s2, s3, some (V.ref L), s5, none, none] [6]) H' fun σ2 H2 => wipe σ2 [6] = wipe [s0, s1, s2, s3, some (V.ref L), s5, none, none] [6] ∧ tYes σ2 H2 fun b H3 =>
        if b = true then tDGet (tVar 4) (tVar 6) σ2 H3 fun y H4 => ∃ acc, H4 D = some (.lst acc) ∧ acc.length < sizeLine ∧ Nx (upd H4 D (.lst (acc ++ [y]))) else Nx H3) := by
  have lk : kvs.length = ls.length := Paired.length hK
  refine lc_rel walk_keys nD (TwoAt K) (fun s h => h.same s) (fun hD h => two_lst hD h) (fun i => (ls.take i).map (·.2)) rfl (fun i _ => by rw [List.length_map]; exact Nat.le_trans (List.length_take_le' i ls) (by omega)) (fun H' s => s _ _ hL) ?_ (fun H' ts s h r => k H' ts s h (by rw [lk, List.take_length] at r; exact r))
  rintro i x H1 H2 Pn hi s1 ⟨rfl, kk, vv, ekv, rfl⟩ fin skip
  obtain ⟨l, hl, e1, _⟩ := lks_at hK ekv
  have e1' : kk = Sum.inr l.1 := e1
  subst e1'
  obtain ⟨t, hv, h2⟩ := pair_uniq hK hn hl
  refine ⟨rfl, ?_⟩
  unfold tYes
  dsimp only
  rw [if_pos rfl]
  refine ⟨_, rfl, _, rfl, L, .ref t, rfl, ?_, fin H2 _ l.2 (Same.refl _) ⟨t, rfl, sqT_same h2 s1⟩ (take_map_snoc _ hl)⟩
  rw [← hv]
  exact .inl ⟨kvs, Sum.inr l.1, .inr ⟨od, s1 _ _ hL⟩, rfl, rfl⟩
/-- [(links[way][1], links[way][0]) for way in links] -/
theorem rd_backs {H : Hp} {L D : Addr} {od : Obj} {kvs : List (Key × V)} {ls : List Lk} {s0 s1 s2 s3 s5 : Option V} {Q : Hp → Prop} (hL : H L = some (.frz od (.dK kvs))) (hK : Lks K H kvs ls) (hn : (keysL ls).Nodup) (hz : ls.length ≤ 40) (nD : H D = none)
    (k : ∀ H' ts, Same H H' → H' D = some (.lst ts) → Paired (TwoAt K H') ts (ls.map fun l => (l.2.2, l.2.1)) → Q H') :
    ∃ W : Nat → Nat → Hp → Prop, (∃ m, W 0 m (upd H D (.lst []))) ∧ ∀ i m H, W i m H →
      ((Itk L od kvs).stop i H ∧ Q H) ∨ ((Itk L od kvs).go i H ∧ ∃ Nx : Hp → Prop, (∀ H', Nx H' → ∃ m', m' < m ∧ W (i + 1) m' H') ∧ ∀ x H', (Itk L od kvs).yld i H x H' → gName 6 x (wipe [s0, s1, s2, s3, some (V.ref L), s5, none, none] [6]) H' fun σ2 H2 => wipe σ2 [6] = wipe [s0, s1, s2, s3, some (V.ref L), s5, none, none] [6] ∧ tYes σ2 H2 fun b H3 =>
        if b = true then tTup (tCons (tOp (rIxT K) (tDGet (tVar 4) (tVar 6)) (tC (V.int 1))) (tCons (tOp (rIxT K) (tDGet (tVar 4) (tVar 6)) (tC (V.int 0))) tNil)) σ2 H3 fun y H4 => ∃ acc, H4 D = some (.lst acc) ∧ acc.length < sizeLine ∧ Nx (upd H4 D (.lst (acc ++ [y]))) else Nx H3) := by
  have lk : kvs.length = ls.length := Paired.length hK
  refine lc_rel walk_keys nD (TwoAt K) (fun s h => h.same s) (fun hD h => two_lst hD h) (fun i => (ls.take i).map fun l => (l.2.2, l.2.1)) rfl (fun i _ => by rw [List.length_map]; exact Nat.le_trans (List.length_take_le' i ls) (by omega)) (fun H' s => s _ _ hL) ?_ (fun H' ts s h r => k H' ts s h (by rw [lk, List.take_length] at r; exact r))
  rintro i x H1 H2 Pn hi s1 ⟨rfl, kk, vv, ekv, rfl⟩ fin skip
  obtain ⟨l, hl, e1, _⟩ := lks_at hK ekv
  have e1' : kk = Sum.inr l.1 := e1
  subst e1'
  obtain ⟨t, hv, h2⟩ := pair_uniq hK hn hl
  have hg : DGet H2 L (.str l.1) (some (.ref t)) := by
    rw [← hv]
    exact .inl ⟨kvs, Sum.inr l.1, .inr ⟨od, s1 _ _ hL⟩, rfl, rfl⟩
  refine ⟨rfl, ?_⟩
  unfold tYes
  dsimp only
  rw [if_pos rfl]
  refine ⟨_, rfl, _, rfl, L, .ref t, rfl, hg, t, _, _, _, rfl, rfl, sqT_same h2 s1, atI_nat (j := 1) rfl, _, rfl, _, rfl, L, .ref t, rfl, hg, t, _, _, _, rfl, rfl, sqT_same h2 s1, atI_nat (j := 0) rfl, by show 2 ≤ sizeLine; decide, fun p np => ?_⟩
  exact fin _ _ (l.2.2, l.2.1) (sm np) ⟨p, rfl, SqT.of upd_same⟩ (take_map_snoc _ hl)
end
end PG


set_option Elab.async false
set_option linter.all false
set_option maxRecDepth 100000
set_option maxHeartbeats 4000000
namespace PG
open PySem L2
abbrev sProg : Stmt := top 17
abbrev sInit : Stmt := inClass sProg 0
structure PTc (K : PySem.W.Frag) (mg : Str → Option Value) (C : Addr) : Prop where
  cl : Cls K C
  n1 : NoAttr K C "links"
  n2 : NoAttr K C "spots"
  n3 : NoAttr K C "origin"
  n4 : NoAttr K C "finals"
  gC : mg "Program" = some (.ref C)
/-- the defs of the module that __init__ calls -/
structure PTd (K : PySem.W.Frag) (mg : Str → Option Value) (fA fW fE fR : Addr) (fdA fdW fdE fdR : FuncData) : Prop where
  gA : mg "is_among" = some (.ref fA)
  bA : Binds K fdA ["value", "words"] []
  gW : mg "are_ways" = some (.ref fW)
  bW : Binds K fdW ["value"] []
  gE : mg "are_exits" = some (.ref fE)
  bE : Binds K fdE ["value", "places"] []
  gR : mg "reached_from" = some (.ref fR)
  bR : Binds K fdR ["places", "pairs"] []
theorem two_frz {K : PySem.W.Frag} {H : Hp} {D : Addr} {od : Obj} {kvs : List (Key × V)} {o : HO} {v : V} {b : Str × Str} (hD : H D = some (.frz od (.dK kvs))) (h : TwoAt K H v b) : TwoAt K (upd H D o) v b := by
  obtain ⟨t, e, h⟩ := h
  exact ⟨t, e, sqT_at h (.inr ⟨_, hD, (by intro l z; cases z), by intro od l z; cases z⟩)⟩
theorem am_all {K : PySem.W.Frag} {H : Hp} {ws : List Str} : ∀ {es : List Str}, (∀ e ∈ es, e ∈ ws) → Paired (AmIs K H ws) (es.map V.str) (es.map fun _ => true)
  | [], _ => .nil
  | e :: r, h => .cons (.inl ⟨e, rfl, (decide_eq_true (h e List.mem_cons_self)).symm⟩) (am_all fun x hx => h x (List.mem_cons_of_mem _ hx))
theorem rch_len {ps : List Str} {prs : List (Str × Str)} {fs qs : List Str} (n : qs.Nodup) (h : ∀ x, x ∈ fs ↔ Rch ps prs x) (r : ∀ x ∈ qs, Rch ps prs x) : ¬ ((fs.length : Int) < (qs.length : Int)) := by
  have z := nodup_le n fun x hx => (h x).mpr (r x hx)
  omega
section
variable {P : Program} {w : World} {K : PySem.W.Frag} {mg : Str → Option Value} {base : Heap}
abbrev nsInit : List Str := ["self", "ways", "begin", "exits", "links", "places", "way", "place"]
theorem scInit : FnScope nsInit ["self", "ways", "begin", "exits"] (defScope sInit) := ⟨rfl, rfl, rfl, by decide +kernel, rfl, by decide +kernel, by decide +kernel⟩
def spInit (K : PySem.W.Frag) (C : Addr) : Sp := fun vs H Q _ => ∃ (x dx a e : Addr) (b : Str) (kvs : List (Key × V)) (ls : List Lk) (es : List Str), vs = [.ref x, .ref a, .str b, .ref e] ∧ H x = some (.ins C dx []) ∧ H a = some (.dK kvs) ∧ Lks K H kvs ls ∧ H e = some (.lst (es.map V.str)) ∧ GoodP ls b es ∧
  ∀ (H' : Hp) (L S F : Addr), (∀ q o, q ≠ x → H q = some o → H' q = some o) → H L = none → H S = none → H F = none → ProgAt K C H' x dx L S F (pdOf ls b es) → Q .non H'
theorem ok_init {f C fA fW fE fR : Addr} {fd fdA fdW fdE fdR : FuncData} (Fi : Fun K "__init__" "Program.__init__" sInit f fd) (T : PT0 mg) (Tc : PTc K mg C) (Td : PTd K mg fA fW fE fR fdA fdW fdE fdR)
    (FA : Fun K "is_among" "is_among" sAmong fA fdA) (FW : Fun K "are_ways" "are_ways" sWays fW fdW) (FE : Fun K "are_exits" "are_exits" sExits fE fdE) (FR : Fun K "reached_from" "reached_from" sReach fR fdR)
    (GA : FnOk P w K mg base CX0 1 fA fdA ["value", "words"] (spAmong K)) (GW : FnOk P w K mg base CX0 3 fW fdW ["value"] (spWays K)) (GE : FnOk P w K mg base CX0 2 fE fdE ["value", "places"] (spExits K)) (GR : FnOk P w K mg base CX0 1 fR fdR ["places", "pairs"] (spReach K)) :
    FnOk P w K mg base CX0 4 f fd ["self", "ways", "begin", "exits"] (spInit K C) := by
  refine Fi.ok scInit (fun vs H Q E h => ?_) (fun cdv A outer s H vs Q E hr h => ?_)
  · obtain ⟨x, dx, a, e, b, kvs, ls, es, rfl, _⟩ := h
    rfl
  · obtain ⟨x, dx, a, e, b, kvs, ls, es, rfl, hx, ha, hL, he, Gd, k⟩ := h
    have nd := scInit.nd
    have hr1 : Room 1 _ := hr.mono (by decide)
    have hr2 : Room 2 _ := hr.mono (by decide)
    have hu := hu_of hr
    refine ⟨_, pss_cons (ps_if (pt_not (pt_val (pe_call GW hr (by rfl) Td.gW FW.kp Td.bW .nil pass0 (pa_cons (pv 1) pa_nil)))) pss_dead pss_nil)
      (pss_cons (ps_set (i := 4) nd rfl (Or.inr rfl) (pe_dc (own := [("way", 6)]) (g := gName 6) (tt := tYes) rfl nd (pi_list (pe_callB (call_sortedD rfl) (by rfl) T.sorted PyProof.Rows.boot_sorted (pa_cons (pv 1) pa_nil))) (blkOk_by (own := [("way", 6)]) (N := nsInit) (sc := defScope sInit) (by decide +kernel))
        (fun _ _ _ _ _ => pg_name (i := 6) nd rfl (Or.inl rfl)) (fun _ _ _ _ _ => pts_nil) (fun _ _ _ _ _ => pv 6)
        (fun _ _ _ _ _ => pe_tup (pa_cons (pe_ix (show IxR _ (rIxT K) from ix_tup) (pe_dget hu (pv 1) (pv 6) (fun _ _ => rfl)) pe_int (fun _ _ => rfl)) (pa_cons (pe_ix (show IxR _ (rIxT K) from ix_tup) (pe_dget hu (pv 1) (pv 6) (fun _ _ => rfl)) pe_int (fun _ _ => rfl)) pa_nil)))))
      (pss_cons (ps_set (i := 5) nd rfl (Or.inl rfl) (pe_callB (STX.cr_sortedTx rfl) (by rfl) T.sorted PyProof.Rows.boot_sorted (pa_cons (pe_lock (STX.pe_sc2 (own := [("way", 6), ("place", 7)]) (vs1 := [7]) (wi1 := iTup K _) (g := gName 6) (tt := tYes) (g1 := gName 7) (tt1 := tYes) rfl nd (pi_keys (pv 4)) (blkOk_by (own := [("way", 6), ("place", 7)]) (N := nsInit) (sc := defScope sInit) (by decide +kernel)) (by decide)
        (fun _ _ _ _ _ => pg_name (i := 6) nd rfl (Or.inl rfl)) (fun _ _ _ _ _ => pts_nil) (fun _ _ _ _ _ => pi_tup (pe_dget hu (pv 4) (pv 6) (fun _ _ => rfl))) (fun _ _ _ _ _ => pg_name (i := 7) nd rfl (Or.inl rfl)) (fun _ _ _ _ _ => pts_nil) (fun _ _ _ _ _ => pv 7))) pa_nil)))
      (pss_cons (ps_if (pt_not (pt_val (pe_call GA hr1 (by rfl) Td.gA FA.kp Td.bA .nil pass0 (pa_cons (pv 2) (pa_cons (pv 5) pa_nil))))) pss_dead pss_nil)
      (pss_cons (ps_if (pt_not (pt_val (pe_call GE hr2 (by rfl) Td.gE FE.kp Td.bE .nil pass0 (pa_cons (pv 3) (pa_cons (pv 5) pa_nil))))) pss_dead pss_nil)
      (pss_cons (ps_if (pt_cmpR op_lt (pe_callB call_len_seq (by rfl) T.len PySem.boot_len (pa_cons (pe_call GR hr1 (by rfl) Td.gR FR.kp Td.bR .nil pass0 (pa_cons (pe_lst (pa_cons (pv 2) pa_nil)) (pa_cons (pe_lock (pe_lc (own := [("way", 6)]) (g := gName 6) (tt := tYes) rfl nd (pi_keys (pv 4)) (blkOk_by (own := [("way", 6)]) (N := nsInit) (sc := defScope sInit) (by decide +kernel))
          (fun _ _ _ _ _ => pg_name (i := 6) nd rfl (Or.inl rfl)) (fun _ _ _ _ _ => pts_nil) (fun _ _ _ _ _ => pe_dget hu (pv 4) (pv 6) (fun _ _ => rfl)))) pa_nil))) pa_nil)) (pe_callB call_len_seq (by rfl) T.len PySem.boot_len (pa_cons (pv 5) pa_nil)) (nomark _)) pss_dead pss_nil)
      (pss_cons (ps_if (pt_cmpR op_lt (pe_callB call_len_seq (by rfl) T.len PySem.boot_len (pa_cons (pe_call GR hr1 (by rfl) Td.gR FR.kp Td.bR .nil pass0 (pa_cons (pv 3) (pa_cons (pe_lock (pe_lc (own := [("way", 6)]) (g := gName 6) (tt := tYes) rfl nd (pi_keys (pv 4)) (blkOk_by (own := [("way", 6)]) (N := nsInit) (sc := defScope sInit) (by decide +kernel))
          (fun _ _ _ _ _ => pg_name (i := 6) nd rfl (Or.inl rfl)) (fun _ _ _ _ _ => pts_nil) (fun _ _ _ _ _ => pe_tup (pa_cons (pe_ix (show IxR _ (rIxT K) from ix_tup) (pe_dget hu (pv 4) (pv 6) (fun _ _ => rfl)) pe_int (fun _ _ => rfl)) (pa_cons (pe_ix (show IxR _ (rIxT K) from ix_tup) (pe_dget hu (pv 4) (pv 6) (fun _ _ => rfl)) pe_int (fun _ _ => rfl)) pa_nil))))) pa_nil))) pa_nil)) (pe_callB call_len_seq (by rfl) T.len PySem.boot_len (pa_cons (pv 5) pa_nil)) (nomark _)) pss_dead pss_nil)
      (pss_cons (ps_fld (pv 0) (pv 4) rfl) (pss_cons (ps_fld (pv 0) (pv 5) rfl) (pss_cons (ps_fld (pv 0) (pv 2) rfl)
      (pss_one (ps_fld (pv 0) (pe_callB cr_sortedS (by rfl) T.sorted PyProof.Rows.boot_sorted (pa_cons (pv 3) pa_nil)) rfl))))))))))), ?_⟩
    have lkv : kvs.length = ls.length := Paired.length hL
    refine ⟨_, rfl, .ref a, rfl, .inl ⟨a, kvs, _, rfl, ha, by have := Gd.n2; omega, lks_items hL Gd.wd, fun H1 s1 => ⟨_, rfl, ?_⟩⟩⟩
    rw [all_true, lkv, decide_eq_true Gd.n1, decide_eq_true Gd.n2]
    refine iteNF ?_
    refine ⟨_, rfl, a, kvs, keysL ls, rfl, .inl (s1 _ _ ha), lks_keys hL, by have z : (keysL ls).length = ls.length := List.length_map _; have := Gd.n2; omega, fun ys p0 perm sr np0 => ?_⟩
    obtain rfl := srt_of perm sr
    refine ⟨p0, rfl, ⟨_, SqL.of upd_same⟩, fun L nL => dc_it walk_list (fun i H' => Same (upd H1 p0 (.lst ((srt (keysL ls)).map V.str))) H' ∧ ∃ kv2, H' L = some (.dK kv2) ∧ Lks K H' kv2 ((srtL ls).take i)) ⟨sm nL, [], upd_same, .nil⟩ (fun i H' _ p => SqL.of (p.1 _ _ upd_same)) ?_ ?_⟩
    · rintro i v H2 H3 hi ⟨s2, kv2, h2, l2⟩ ⟨rfl, hv⟩
      rw [List.getElem?_map] at hv
      obtain ⟨wy, hw, rfl⟩ : ∃ wy, (srt (keysL ls))[i]? = some wy ∧ v = .str wy := by
        cases e : (srt (keysL ls))[i]? with
        | none => rw [e] at hv; cases hv
        | some wy => rw [e] at hv; exact ⟨wy, rfl, (Option.some.inj hv).symm⟩
      have mw : wy ∈ keysL ls := srt_mem.mp (List.mem_of_getElem? hw)
      obtain ⟨t, hvl, ht⟩ := lks_val hL mw
      have s13 : Same H H3 := fun b o e => s2 _ _ (sm np0 _ _ (s1 b o e))
      have hg : DGet H3 a (.str wy) (some (.ref t)) := by
        rw [← hvl]
        exact .inl ⟨kvs, Sum.inr wy, .inl (s13 _ _ ha), rfl, rfl⟩
      have hl3 : (srtL ls)[i]? = some (wy, lkp ls wy) := by
        unfold srtL
        rw [List.getElem?_map, hw]
        rfl
      refine ⟨rfl, ?_⟩
      unfold tYes
      dsimp only
      rw [if_pos rfl]
      refine ⟨_, rfl, _, rfl, _, rfl, a, .ref t, rfl, hg, t, _, _, _, rfl, rfl, sqT_same ht s13, atI_nat (j := 0) rfl, _, rfl, _, rfl, a, .ref t, rfl, hg, t, _, _, _, rfl, rfl, sqT_same ht s13, atI_nat (j := 1) rfl, by show 2 ≤ sizeLine; decide, fun q nq => ?_⟩
      have nLq : L ≠ q := ne_of_none h2 nq
      have lkv2 : kv2.length = ((srtL ls).take i).length := Paired.length l2
      have fresh : valV kv2 (Sum.inr wy : Key) = none := by
        refine lks_none l2 fun m => ?_
        have nd2 := srtL_nodup Gd.nd
        obtain ⟨l0, hl0, e0⟩ := List.mem_map.mp m
        obtain ⟨j, hj, ej⟩ := List.getElem_of_mem hl0
        rw [List.length_take] at hj
        have hi2 : i < (srtL ls).length := (List.getElem?_eq_some_iff.mp hl3).1
        have q1 : (keysL (srtL ls))[j]? = some wy := by
          unfold keysL
          rw [List.getElem?_map, List.getElem?_eq_getElem (by omega)]
          rw [List.getElem_take] at ej
          rw [ej]
          exact congrArg some e0
        have q2 : (keysL (srtL ls))[i]? = some wy := by
          unfold keysL
          rw [List.getElem?_map, hl3]
          rfl
        have q3 := (List.getElem?_inj (by have := (List.getElem?_eq_some_iff.mp q1).1; exact this) nd2).mp (q1.trans q2.symm)
        omega
      refine ⟨kv2, Sum.inr wy, rfl, by rw [upd_ne nLq]; exact h2, ?_, ?_⟩
      · rw [lkv2]
        refine small1000 (Nat.le_trans (List.length_take_le' i _) ?_)
        rw [srtL_len]
        have := Gd.n2
        omega
      · refine ⟨fun b o eb => ?_, _, upd_same, ?_⟩
        · rw [upd_ne (ne_of_none eb nL), upd_ne (ne_of_none (s2 _ _ eb) nq)]
          exact s2 _ _ eb
        · rw [putK_new _ fresh, List.take_add_one, hl3]
          have hd3 : (upd H3 q (.tup [.str (lkp ls wy).1, .str (lkp ls wy).2])) L = some (.dK kv2) := by rw [upd_ne nLq]; exact h2
          refine paired_snoc (Paired.imp (fun _ _ z => ⟨z.1, two_dk hd3 (z.2.same (sm nq))⟩) l2) ⟨rfl, two_dk hd3 ⟨q, rfl, SqT.of upd_same⟩⟩
    · rintro H2 ⟨s2, kvL, hL2, lL⟩
      have nd2 := srtL_nodup Gd.nd
      have n40 : (srtL ls).length ≤ 40 := by rw [srtL_len]; exact Gd.n2
      rw [show ((srt (keysL ls)).map V.str).length = (srtL ls).length by rw [List.length_map, srtL_len, srt_len]; exact List.length_map _, List.take_length] at lL
      have s02 : Same H H2 := fun b o e => s2 _ _ (sm np0 _ _ (s1 b o e))
      have nLH : H L = none := by
        cases z : H L with
        | none => rfl
        | some o => rw [sm np0 _ _ (s1 _ _ z)] at nL; cases nL
      refine ⟨L, .dK kvL, hL2, trivial, fun od => ⟨_, rfl, L, od, rfl, .inl ⟨kvL, upd_same, fun D nD => rd_ends (P := P) (w := w) upd_same (Lks.lock lL hL2) nd2 n40 nD fun H3 s3 hD3 => ⟨s3 _ _ upd_same, D, STX.insAll (ends (srtL ls)) [], rfl, ?_, ?_, fun ys S perm2 sr2 nS => ?_⟩⟩⟩⟩
      · have nDL : D ≠ L := fun z => by rw [z, upd_same] at nD; cases nD
        rw [upd_ne nDL]
        exact hD3
      · have z := Gd.sm
        rw [← plc_srtL Gd.nd] at z
        unfold plc at z
        rw [srt_len] at z
        exact z
      · have ey : ys = plc ls := by
          rw [← plc_srtL Gd.nd]
          exact srt_of perm2 sr2
        subst ey
        have s24 : Same H2 (upd H3 L (.dK kvL)) := unlock hL2 s3
        generalize upd H3 L (.dK kvL) = H4 at nS s24
        have s45 : Same H4 (upd H4 S (.lst ((plc ls).map V.str))) := sm nS
        have hS5 : (upd H4 S (.lst ((plc ls).map V.str))) S = some (.lst ((plc ls).map V.str)) := upd_same
        generalize upd H4 S (.lst ((plc ls).map V.str)) = H5 at s45 hS5
        have s05 : Same H H5 := fun b o e => s45 _ _ (s24 _ _ (s02 _ _ e))
        have hL5 : H5 L = some (.dK kvL) := s45 _ _ (s24 _ _ hL2)
        have lL5 : Lks K H5 kvL (srtL ls) := (lL.same s24).same s45
        have nSH : H S = none := by
          cases z : H S with
          | none => rfl
          | some o => rw [s24 _ _ (s02 _ _ z)] at nS; cases nS
        refine ⟨_, rfl, _, rfl, .str b, S, rfl, .inl ⟨b, plc ls, rfl, SqL.of hS5, _, rfl, ?_⟩⟩
        rw [decide_eq_true (plc_mem.mpr Gd.hb)]
        refine iteNF ?_
        have lE : es.length < 1000 := by
          have z := nodup_le Gd.hn fun x hx => plc_mem.mpr (Gd.hs x hx)
          have := Gd.sm
          omega
        refine ⟨_, rfl, _, rfl, .ref e, S, plc ls, rfl, SqL.of hS5, .inl ⟨e, _, _, rfl, s05 _ _ he, by rw [List.length_map]; exact lE, am_all fun x hx => plc_mem.mpr (Gd.hs x hx), fun H6 s6 => ⟨_, rfl, ?_⟩⟩⟩
        have e0 : (es.map V.str).isEmpty = false := by
          cases q : es with
          | nil => exact absurd q Gd.he
          | cons _ _ => rfl
        rw [e0, all_true, txs_map, decide_eq_true Gd.hn]
        refine iteNF ?_
        have hL6 := s6 _ _ hL5
        have lL6 := lL5.same s6
        have hS6 := s6 _ _ hS5
        have s06 : Same H H6 := s05.trans s6
        refine ⟨_, rfl, by show 1 ≤ sizeLine; decide, fun l0 nl0 => ⟨L, .dK kvL, sm nl0 _ _ hL6, trivial, fun od => ⟨_, rfl, L, od, rfl, .inl ⟨kvL, upd_same, fun D nD => rd_pairs upd_same (Lks.lock (lL6.same (sm nl0)) (sm nl0 _ _ hL6)) nd2 n40 nD fun H7 ts s7 hD7 r7 => ⟨s7 _ _ upd_same, l0, D, [b], ts, _, rfl, ?_, ?_, Paired.imp (fun _ _ z => two_frz (s7 _ _ upd_same) z) r7, List.nodup_cons.mpr ⟨List.not_mem_nil, List.nodup_nil⟩, ?_, fun p fs H8 np nf mf s8 h8 => ?_⟩⟩⟩⟩⟩
        · exact SqL.of (unlock (sm nl0 _ _ hL6) s7 _ _ upd_same)
        · have nDL : D ≠ L := fun z => by rw [z, upd_same] at nD; cases nD
          exact SqL.of (by rw [upd_ne nDL]; exact hD7)
        · rw [List.length_map]
          show 1 + _ ≤ 500
          omega
        · have s68 : Same H6 H8 := fun q o z => s8 _ _ (unlock (sm nl0 _ _ hL6) s7 _ _ (sm nl0 _ _ z))
          have hL8 := s68 _ _ hL6
          have lL8 := lL6.same s68
          have hS8 := s68 _ _ hS6
          have s08 : Same H H8 := s06.trans s68
          refine ⟨p, _, rfl, .inl (SqL.of h8), _, rfl, S, _, rfl, .inl (SqL.of hS8), _, _, rfl, rfl, _, rfl, ?_⟩
          rw [List.length_map, List.length_map]
          have c1 : decide ((fs.length : Int) < ((plc ls).length : Int)) = false := decide_eq_false (rch_len (plc_nodup ls) mf fun x hx => (Gd.reach x (plc_mem.mp hx)).mono (fun _ z => z) fun pr hp => by
            obtain ⟨l, hl, rfl⟩ := List.mem_map.mp hp
            exact List.mem_map.mpr ⟨l, (srtL_mem Gd.nd).mpr hl, rfl⟩)
          rw [c1]
          refine iteF ?_
          refine ⟨_, rfl, L, .dK kvL, hL8, trivial, fun od => ⟨_, rfl, L, od, rfl, .inl ⟨kvL, upd_same, fun D2 nD2 => rd_backs upd_same (Lks.lock lL8 hL8) nd2 n40 nD2 fun H9 ts s9 hD9 r9 => ⟨s9 _ _ upd_same, e, D2, es, ts, _, rfl, ?_, ?_, Paired.imp (fun _ _ z => two_frz (s9 _ _ upd_same) z) r9, Gd.hn, ?_, fun p2 fs2 H10 np2 nf2 mf2 s10 h10 => ?_⟩⟩⟩⟩
          · exact SqL.of (unlock hL8 s9 _ _ (s08 _ _ he))
          · have nDL : D2 ≠ L := fun z => by rw [z, upd_same] at nD2; cases nD2
            exact SqL.of (by rw [upd_ne nDL]; exact hD9)
          · rw [List.length_map]
            have z := nodup_le Gd.hn fun x hx => plc_mem.mpr (Gd.hs x hx)
            have := Gd.sm
            omega
          · have s8' : Same H8 H10 := fun q o z => s10 _ _ (unlock hL8 s9 _ _ z)
            have hLa := s8' _ _ hL8
            have lLa := lL8.same s8'
            have hSa := s8' _ _ hS8
            have s0a : Same H H10 := s08.trans s8'
            refine ⟨p2, _, rfl, .inl (SqL.of h10), _, rfl, S, _, rfl, .inl (SqL.of hSa), _, _, rfl, rfl, _, rfl, ?_⟩
            rw [List.length_map, List.length_map]
            have c2 : decide ((fs2.length : Int) < ((plc ls).length : Int)) = false := decide_eq_false (rch_len (plc_nodup ls) mf2 fun x hx => (Gd.leave x (plc_mem.mp hx)).mono (fun _ z => z) fun pr hp => by
              obtain ⟨l, hl, rfl⟩ := List.mem_map.mp hp
              exact List.mem_map.mpr ⟨l, (srtL_mem Gd.nd).mpr hl, rfl⟩)
            rw [c2]
            refine iteF ?_
            have hxa : H10 x = some (.ins C dx []) := s0a _ _ hx
            refine ⟨_, rfl, _, rfl, x, C, dx, _, rfl, hxa, Tc.cl, Tc.n1, (by show 0 < 1000; decide), ?_⟩
            refine ⟨_, rfl, _, rfl, x, C, dx, _, rfl, upd_same, Tc.cl, Tc.n2, (by show 1 < 1000; decide), ?_⟩
            refine ⟨_, rfl, _, rfl, x, C, dx, _, rfl, upd_same, Tc.cl, Tc.n3, (by show 2 < 1000; decide), ?_⟩
            rw [upd_upd, upd_upd]
            have nex : e ≠ x := ne_of he hx (by intro z; cases z)
            have he3 : (upd H10 x (.ins C dx (putF "origin" (.str b) (putF "spots" (.ref S) (putF "links" (.ref L) []))))) e = some (.lst (es.map V.str)) := by rw [upd_ne nex]; exact s0a _ _ he
            have e64 : es.length < 64 := by
              have z := nodup_le Gd.hn fun x hx => plc_mem.mpr (Gd.hs x hx)
              have := Gd.sm
              omega
            refine ⟨_, rfl, e, es, rfl, SqL.of he3, e64, fun ys Fn perm3 sr3 nF => ?_⟩
            obtain rfl := srt_of perm3 sr3
            have nFx : Fn ≠ x := fun z => by rw [z, upd_same] at nF; cases nF
            have nFa : H10 Fn = none := by rw [upd_ne nFx] at nF; exact nF
            refine ⟨_, rfl, x, C, dx, _, rfl, (by rw [upd_ne nFx.symm]; exact upd_same), Tc.cl, Tc.n4, (by show 3 < 1000; decide), ?_⟩
            have nLx : L ≠ x := ne_of hLa hxa (by intro z; cases z)
            have nSx : S ≠ x := ne_of hSa hxa (by intro z; cases z)
            have nLF : L ≠ Fn := ne_of_none hLa nFa
            have nSF : S ≠ Fn := ne_of_none hSa nFa
            have nFH : H Fn = none := by
              cases z : H Fn with
              | none => rfl
              | some o => rw [s0a _ _ z] at nFa; cases nFa
            refine k _ L S Fn (fun q o nq eq => ?_) nLH nSH nFH ⟨?_, ⟨kvL, ?_, ?_⟩, ?_, ?_⟩
            · rw [upd_ne nq, upd_ne (ne_of_none (s0a _ _ eq) nFa), upd_ne nq]
              exact s0a _ _ eq
            · rw [upd_same]
              rfl
            · rw [upd_ne nLx, upd_ne nLF, upd_ne nLx]
              exact hLa
            · refine Paired.imp (fun kv l z => ⟨z.1, ?_⟩) lLa
              obtain ⟨t, e1, z2⟩ := z.2
              refine ⟨t, e1, sqT_at (sqT_same (sqT_at z2 (.inr ⟨_, hxa, (by intro l z; cases z), by intro od l z; cases z⟩)) (sm nF)) (.inr ⟨.ins C dx _, by rw [upd_ne nFx.symm]; exact upd_same, (by intro l z; cases z), by intro od l z; cases z⟩)⟩
            · rw [upd_ne nSx, upd_ne nSF, upd_ne nSx]
              exact hSa
            · rw [upd_ne nFx]
              exact upd_same
end
end PG


set_option Elab.async false
set_option linter.all false
set_option maxRecDepth 100000
set_option maxHeartbeats 4000000
/-! Own item reading, in, len, == of an own class, by the promise of the def. -/
namespace OW
open PySem PySem.Spec PyProof.Rows L2
section
variable {X : Cx} {CX : CXT} {k : Nat} {f C : Addr} {fd : FuncData} {ps : List Str} {sp : Sp} {E : XK} {pins : List (Addr × Obj)} {σ : L2.St} {H : Hp} {s : Shared}
/-- the def is called somewhere below the running body -/
theorem own_call {A : Around} {Q : VK} {vs : List V} {us : List Value} (F : FnOk X.prog X.w X.K X.mg X.base CX k f fd ps sp) (hb : Binds X.K fd ps []) (hx : Passes CX X E) (room : Room k A) (fr : A.frames = X.A.frames) (I : Inv X pins σ H s) (r : Vals vs us) (h : sp vs H Q E) :
    wpAny (model X.prog X.w) A (call (.ref f) us) (EP X pins σ Q) X.xe s := by
  have e0 : Env0 X.prog X.w X.K X.mg X.base A X.stack s H := by
    have e := I.env0
    exact ⟨by rw [fr]; exact e.frames, e.mod, e.bs, e.bsz, e.funs, e.frf, e.hok, e.bare⟩
  have hl := F.len _ _ _ _ h
  refine wpAny_call (codeAny_mono (F.run A X.stack s H ⟨us, []⟩ us vs Q E room e0 ?_ r h) fun x s' hq => ?_)
  · have z := hb s us I.kIn (by rw [List.append_nil, ← r.length]; exact hl)
    rw [List.append_nil] at z
    exact z
  · cases x with
    | error e => exact hx pins σ H s e s' I hq
    | ok fl =>
      cases fl with
      | ret y =>
        obtain ⟨z, H', I', rz, q⟩ := I.after hq
        exact ⟨z, H', I', rz, q⟩
      | next => exact False.elim hq
      | brk => exact False.elim hq
      | cont => exact False.elim hq
theorem own_at {a dx : Addr} {fs : List (Str × V)} (I : Inv X pins σ H s) (ha : H a = some (.ins C dx fs)) : ∃ ox od, PySem.W.InstAt s.heap a ox C od := by
  obtain ⟨m, J, _⟩ := ins_get I.hok ha
  obtain ⟨od, J, _⟩ := J.look
  exact ⟨_, _, J⟩
/-- len(x) -/
def rOwnLen (C : Addr) (sp : Sp) (E : XK) : List V → Hp → VK → Prop := fun xs H Q => ∃ (a dx : Addr) (fs : List (Str × V)), xs = [.ref a] ∧ H a = some (.ins C dx fs) ∧ sp [.ref a] H (fun v H' => ∃ n : Nat, v = .int n ∧ n < 2 ^ 62 ∧ Q (.int n) H') E
theorem cr_ownLen (F : FnOk X.prog X.w X.K X.mg X.base CX k f fd ps sp) (hb : Binds X.K fd ps []) (hx : Passes CX X E) (hr : Room (k + 1) X.A) (hs : PySem.W.findIn X.K (.ref C) "__len__" = some (some (.ref f))) (hf : PySem.W.isFn X.K (.ref f) = true) : CallR X (.builtin "len") (rOwnLen C sp E) := by
  intro pins s σ H vs us Q I r h
  obtain ⟨a, dx, fs, rfl, ha, h⟩ := h
  rw [Vals.ref1 r]
  obtain ⟨ox, od, J⟩ := own_at I ha
  obtain ⟨m, hF⟩ := I.fr
  refine PySem.W.len_K hF I.ok.mod.kin J hs hf ?_
  refine wpAny_mono (own_call (vs := [.ref a]) F hb hx hr.in1 rfl I (.cons rfl .nil) h) (fun v s' z => ?_) fun _ _ z => z
  obtain ⟨y, H', I', ry, n, rfl, hn, q⟩ := z
  obtain ⟨t, rfl⟩ := ry
  exact ⟨⟨by omega, by omega⟩, .int n, H', I'.tok _, ⟨_, rfl⟩, q⟩
/-- x in o, x not in o -/
def rOwnIn (C : Addr) (sp : Sp) (E : XK) (neg : Bool) : R2 := fun x y H Q => ∃ (a dx : Addr) (fs : List (Str × V)), y = .ref a ∧ H a = some (.ins C dx fs) ∧ sp [.ref a, x] H (fun v H' => ∃ b : Bool, v = .bl b ∧ Q (.bl (if neg then !b else b)) H') E
theorem op_ownIn (F : FnOk X.prog X.w X.K X.mg X.base CX k f fd ps sp) (hb : Binds X.K fd ps []) (hx : Passes CX X E) (hr : Room k X.A) (hs : PySem.W.findIn X.K (.ref C) "__contains__" = some (some (.ref f))) (hf : PySem.W.isFn X.K (.ref f) = true) : OpR X (compareOp .In) (rOwnIn C sp E false) := by
  intro pins s σ H x y v u Q I rx ry h
  obtain ⟨a, dx, fs, rfl, ha, h⟩ := h
  obtain rfl : u = Value.ref a := ry
  obtain ⟨ox, od, J⟩ := own_at I ha
  obtain ⟨m, hF⟩ := I.fr
  refine PySem.W.in_K hF I.ok.mod.kin J hs hf ?_
  refine wpAny_mono (own_call (vs := [.ref a, x]) F hb hx hr rfl I (.cons rfl (.cons rx .nil)) h) (fun v s' z => ?_) fun _ _ z => z
  obtain ⟨w, H', I', rw', b, rfl, q⟩ := z
  obtain rfl : v = Value.bool b := rw'
  exact wpAny_truthy_bool ⟨.bl b, H', I', rfl, q⟩
theorem op_ownNotIn (F : FnOk X.prog X.w X.K X.mg X.base CX k f fd ps sp) (hb : Binds X.K fd ps []) (hx : Passes CX X E) (hr : Room k X.A) (hs : PySem.W.findIn X.K (.ref C) "__contains__" = some (some (.ref f))) (hf : PySem.W.isFn X.K (.ref f) = true) : OpR X (compareOp .NotIn) (rOwnIn C sp E true) := by
  intro pins s σ H x y v u Q I rx ry h
  obtain ⟨a, dx, fs, rfl, ha, h⟩ := h
  obtain rfl : u = Value.ref a := ry
  obtain ⟨ox, od, J⟩ := own_at I ha
  obtain ⟨m, hF⟩ := I.fr
  refine PySem.W.notIn_K hF I.ok.mod.kin J hs hf ?_
  refine wpAny_mono (own_call (vs := [.ref a, x]) F hb hx hr rfl I (.cons rfl (.cons rx .nil)) h) (fun v s' z => ?_) fun _ _ z => z
  obtain ⟨w, H', I', rw', b, rfl, q⟩ := z
  obtain rfl : v = Value.bool b := rw'
  exact wpAny_truthy_bool ⟨.bl (!b), H', I', rfl, q⟩
/-- o[i] -/
def PlainIxP (b : Expr) : Prop := ∀ o i, subscripted b true o i = runValue (.builtin "lifetime.subscript" ⟨[o, i], []⟩)
def rOwnIx (C : Addr) (sp : Sp) (E : XK) : R2 := fun x y H Q => ∃ (a dx : Addr) (fs : List (Str × V)), x = .ref a ∧ H a = some (.ins C dx fs) ∧ sp [.ref a, y] H Q E
theorem pe_ownIx {a b : Expr} {ta tb : TE} {pos : Pos} (F : FnOk X.prog X.w X.K X.mg X.base CX k f fd ps sp) (hb : Binds X.K fd ps []) (hx : Passes CX X E) (hr : Room (k + 1) X.A) (hs : PySem.W.findIn X.K (.ref C) "__getitem__" = some (some (.ref f))) (hf : PySem.W.isFn X.K (.ref f) = true) (hfn : PySem.W.fnIn X.K f = true)
    (ha : PE X a ta) (hb' : PE X b tb) (hp : PlainIxP b := by intro _ _; rfl) : PE X (.Subscript a b pos) (tOp (rOwnIx C sp E) ta tb) := by
  refine ⟨fun pins s σ H Q I h => Subscript_ (binT ha hb' I h fun v u s2 x y H2 I2 rx ry q => ?_)⟩
  obtain ⟨o, dx, fs, rfl, ho, q⟩ := q
  obtain rfl : v = Value.ref o := rx
  obtain ⟨ox, od, J⟩ := own_at I2 ho
  obtain ⟨m, hF⟩ := I2.fr
  exact PySem.W.sub_K hF I2.ok.mod.kin J hs hfn hf (own_call (vs := [.ref o, y]) F hb hx hr.in1 rfl I2 (.cons rfl (.cons ry .nil)) q) (hp _ _)
/-- x == y by x's own == -/
def rOwnEq (K : PySem.W.Frag) (C : Addr) (sp : Sp) (E : XK) : R2 := fun x y H Q => ∃ (a dx : Addr) (fs : List (Str × V)) (t : Value), x = .ref a ∧ H a = some (.ins C dx fs) ∧ TyX K H y t ∧ PySem.W.notFirst K C t = true ∧ sp [.ref a, y] H (fun v H' => ∃ b : Bool, v = .bl b ∧ Q (.bl b) H') E
theorem op_ownEq (F : FnOk X.prog X.w X.K X.mg X.base CX k f fd ps sp) (hb : Binds X.K fd ps []) (hx : Passes CX X E) (hr : Room k X.A) (hs : PySem.W.findIn X.K (.ref C) "__eq__" = some (some (.ref f))) (hf : PySem.W.isFn X.K (.ref f) = true) : OpR X (compareOp .Eq) (rOwnEq X.K C sp E) := by
  intro pins s σ H x y v u Q I rx ry h
  obtain ⟨a, dx, fs, t, rfl, ha, ty, nf, h⟩ := h
  obtain rfl : v = Value.ref a := rx
  obtain ⟨ox, od, J⟩ := own_at I ha
  obtain ⟨m, hF⟩ := I.fr
  show wpAny (model X.prog X.w) X.A (richCompare .Eq (.ref a) u) (EP X pins σ Q) X.xe s
  refine PySem.W.cmp_K (op := .Eq) (tb := t) hr.units0 hF I.ok.mod.kin J ?_ nf hs hf ?_
  · obtain ⟨P, Z, p, _⟩ := kit_of I ry ty
    exact Z.ty _ _ I.kIn p
  · refine wpAny_mono (own_call (vs := [.ref a, y]) F hb hx hr rfl I (.cons rfl (.cons ry .nil)) h) (fun v s' z => ?_) fun _ _ z => z
    obtain ⟨w, H', I', rw', b, rfl, q⟩ := z
    obtain rfl : v = Value.bool b := rw'
    exact ⟨.bl b, H', I', rfl, q⟩
end
end OW


set_option Elab.async false
set_option linter.all false
set_option maxRecDepth 100000
set_option maxHeartbeats 4000000
/-! == of lists of texts, of two-text tuples, of dicts of links. -/
namespace OW
open PySem PySem.Spec PyProof.Rows L2
theorem eqvAll_strs : ∀ xs ys : List Str, PyData.eqvAll (xs.map .str) (ys.map .str) = decide (xs = ys)
  | [], [] => rfl
  | [], _ :: _ => rfl
  | _ :: _, [] => rfl
  | x :: xs, y :: ys => by
    show (PyData.eqv (.str x) (.str y) && PyData.eqvAll (xs.map .str) (ys.map .str)) = _
    rw [eqvAll_strs xs ys]
    have e : PyData.eqv (.str x) (.str y) = decide (x = y) := by
      show (x == y) = _
      by_cases h : x = y
      · subst h; rw [decide_eq_true rfl]; exact beq_self_eq_true x
      · rw [decide_eq_false h]; exact beq_eq_false_iff_ne.mpr h
    rw [e]
    by_cases h1 : x = y
    · by_cases h2 : xs = ys
      · subst h1; subst h2; rw [decide_eq_true rfl, decide_eq_true rfl, decide_eq_true rfl]; rfl
      · rw [decide_eq_false h2, Bool.and_false, decide_eq_false (fun z => h2 (List.cons.inj z).2)]
    · rw [decide_eq_false h1, Bool.false_and, decide_eq_false (fun z => h1 (List.cons.inj z).1)]
/-- texts whose signs are all signs -/
def TxOkk (xs : List Str) : Prop := ∀ x ∈ xs, PyData.canLay0 (.str x) = true
theorem lay_strs : ∀ {xs : List Str}, TxOkk xs → PyData.canLayAll0 (xs.map PyData.str) = true
  | [], _ => rfl
  | x :: xs, h => by
    show (PyData.canLay0 (.str x) && PyData.canLayAll0 (xs.map PyData.str)) = true
    rw [h x List.mem_cons_self, lay_strs fun y hy => h y (List.mem_cons_of_mem _ hy)]
    rfl
theorem depth_strs : ∀ xs : List Str, PyData.depthAll (xs.map PyData.str) = 0
  | [] => rfl
  | _ :: xs => by
    show max 0 (PyData.depthAll (xs.map PyData.str)) = 0
    rw [depth_strs xs]
    rfl
theorem shaped_lst {xs : List Str} (h : TxOkk xs) : SeqAt.shaped (.list (xs.map PyData.str)) = true := by
  show (PyData.canLayAll0 (xs.map PyData.str) && decide (PyData.depthAll (xs.map PyData.str) + 1 ≤ 64)) = true
  rw [lay_strs h, depth_strs]
  rfl
theorem shaped_tup {xs : List Str} (h : TxOkk xs) : SeqAt.shaped (.tuple (xs.map PyData.str)) = true := by
  show (PyData.canLayAll0 (xs.map PyData.str) && decide (PyData.depthAll (xs.map PyData.str) + 1 ≤ 64)) = true
  rw [lay_strs h, depth_strs]
  rfl
theorem dpAll_strs {K : PySem.W.Frag} {H : Hp} : ∀ xs : List Str, DpAll K H (xs.map V.str) (xs.map PyData.str)
  | [] => .nil
  | x :: xs => .cons (.str x) (dpAll_strs xs)
section
variable {X : Cx}
/-- lists of texts compared -/
def rEqTx (K : PySem.W.Frag) (neg : Bool) : R2 := fun x y H Q => ∃ (a b : Addr) (xs ys : List Str), x = .ref a ∧ y = .ref b ∧ SqL K H a (xs.map V.str) ∧ SqL K H b (ys.map V.str) ∧ TxOkk xs ∧ TxOkk ys ∧ Q (.bl (if neg then !decide (xs = ys) else decide (xs = ys))) H
theorem op_eqTx (hu : X.A.units + 64 < cLine) : OpR X (compareOp .Eq) (rEqTx X.K false) := by
  intro pins s σ H x y v u Q I rx ry h
  obtain ⟨a, b, xs, ys, rfl, rfl, ha, hb, o1, o2, q⟩ := h
  refine op_eqD hu pins s σ H _ _ v u Q I rx ry ⟨.list (xs.map .str), .list (ys.map .str), .lst ha (dpAll_strs xs), .lst hb (dpAll_strs ys), shaped_lst o1, shaped_lst o2, ?_⟩
  have e : PyData.eqv (.list (xs.map .str)) (.list (ys.map .str)) = decide (xs = ys) := eqvAll_strs xs ys
  rw [e]
  exact q
theorem op_neTx (hu : X.A.units + 64 < cLine) : OpR X (compareOp .NotEq) (rEqTx X.K true) := by
  intro pins s σ H x y v u Q I rx ry h
  obtain ⟨a, b, xs, ys, rfl, rfl, ha, hb, o1, o2, q⟩ := h
  refine op_neD hu pins s σ H _ _ v u Q I rx ry ⟨.list (xs.map .str), .list (ys.map .str), .lst ha (dpAll_strs xs), .lst hb (dpAll_strs ys), shaped_lst o1, shaped_lst o2, ?_⟩
  have e : PyData.eqv (.list (xs.map .str)) (.list (ys.map .str)) = decide (xs = ys) := eqvAll_strs xs ys
  rw [e]
  exact q
/-- tuples of texts compared -/
def rEqTt (K : PySem.W.Frag) (neg : Bool) : R2 := fun x y H Q => ∃ (a b : Addr) (xs ys : List Str), x = .ref a ∧ y = .ref b ∧ SqT K H a (xs.map V.str) ∧ SqT K H b (ys.map V.str) ∧ TxOkk xs ∧ TxOkk ys ∧ Q (.bl (if neg then !decide (xs = ys) else decide (xs = ys))) H
theorem op_eqTt (hu : X.A.units + 64 < cLine) : OpR X (compareOp .Eq) (rEqTt X.K false) := by
  intro pins s σ H x y v u Q I rx ry h
  obtain ⟨a, b, xs, ys, rfl, rfl, ha, hb, o1, o2, q⟩ := h
  refine op_eqD hu pins s σ H _ _ v u Q I rx ry ⟨.tuple (xs.map .str), .tuple (ys.map .str), .tup ha (dpAll_strs xs), .tup hb (dpAll_strs ys), shaped_tup o1, shaped_tup o2, ?_⟩
  have e : PyData.eqv (.tuple (xs.map .str)) (.tuple (ys.map .str)) = decide (xs = ys) := eqvAll_strs xs ys
  rw [e]
  exact q
theorem op_neTt (hu : X.A.units + 64 < cLine) : OpR X (compareOp .NotEq) (rEqTt X.K true) := by
  intro pins s σ H x y v u Q I rx ry h
  obtain ⟨a, b, xs, ys, rfl, rfl, ha, hb, o1, o2, q⟩ := h
  refine op_neD hu pins s σ H _ _ v u Q I rx ry ⟨.tuple (xs.map .str), .tuple (ys.map .str), .tup ha (dpAll_strs xs), .tup hb (dpAll_strs ys), shaped_tup o1, shaped_tup o2, ?_⟩
  have e : PyData.eqv (.tuple (xs.map .str)) (.tuple (ys.map .str)) = decide (xs = ys) := eqvAll_strs xs ys
  rw [e]
  exact q
open PG in
/-- what the walk over the keys answers -/
def hitsL (lb : List Lk) : List Lk → Bool
  | [] => true
  | l :: r => if l.1 ∈ keysL lb then decide (l.2 = lkp lb l.1) && hitsL lb r else false
open PG in
theorem hits_links {pins : List (Addr × Obj)} {σ : L2.St} {H : Hp} {s : Shared} (I : Inv X pins σ H s) (hu : X.A.in1.units + 64 < cLine) {kb : List (Key × V)} {lb : List Lk} (hB : Lks X.K H kb lb) (okB : TxOkk (ends lb)) {vb : List (Key × Value)} (rb : KV kb vb) :
    ∀ {ka : List (Key × V)} {la : List Lk} {va : List (Key × Value)}, Lks X.K H ka la → TxOkk (ends la) → KV ka va → PySem.W.KeqHitsP X.prog X.w X.A.in1 s vb va (hitsL lb la)
  | _, _, _, .nil, _, .nil => .nil
  | _, _, _, .cons (a := p) (b := l) ⟨e, t, e2, z⟩ rs, okA, .cons (b := q) ⟨h1, h2⟩ ra => by
    obtain ⟨key, v⟩ := q
    have ek : key = Sum.inr l.1 := by rw [← e]; exact h1.symm
    subst ek
    unfold hitsL
    by_cases m : l.1 ∈ keysL lb
    · rw [if_pos m]
      obtain ⟨t', hv, z'⟩ := lks_val hB m
      have rr : RelO (some (.ref t')) (valueAt vb (Sum.inr l.1 : Key)) := by rw [← hv]; exact rb.val _
      obtain ⟨y, hy, ry⟩ := rr.some_of
      refine .hit hy ?_ (hits_links I hu hB okB rb rs (fun y hy => okA y (List.mem_append_right [l.2.1, l.2.2] hy)) ra)
      have e2' : RelV (.ref t) v := by rw [← e2]; exact h2
      have d1 : Dp X.K H (.ref t) (.tuple ([l.2.1, l.2.2].map PyData.str)) := .tup z (dpAll_strs [l.2.1, l.2.2])
      have d2 : Dp X.K H (.ref t') (.tuple ([(lkp lb l.1).1, (lkp lb l.1).2].map PyData.str)) := .tup z' (dpAll_strs [(lkp lb l.1).1, (lkp lb l.1).2])
      obtain ⟨as, r1⟩ := Dp.reads I _ _ _ d1 e2'
      obtain ⟨bs, r2⟩ := Dp.reads I _ _ _ d2 ry
      have o1 : TxOkk [l.2.1, l.2.2] := fun y hy => okA y (List.mem_append_left _ hy)
      have o2 : TxOkk [(lkp lb l.1).1, (lkp lb l.1).2] := fun y hy => by
        refine okB y (ends_mem.mpr ⟨_, lkp_mem m, ?_⟩)
        rcases List.mem_cons.mp hy with z | z
        · exact .inl z
        · exact .inr (List.mem_singleton.mp z)
      have k := (PySem.W.keq_at (A := X.A) r1 r2 (shaped_tup o1) (shaped_tup o2) hu).eqP (prog := X.prog) (w := X.w)
      have ee : PyData.eqv (.tuple ([l.2.1, l.2.2].map PyData.str)) (.tuple ([(lkp lb l.1).1, (lkp lb l.1).2].map PyData.str)) = decide (l.2 = lkp lb l.1) := by
        have w1 : PyData.eqv (.tuple ([l.2.1, l.2.2].map PyData.str)) (.tuple ([(lkp lb l.1).1, (lkp lb l.1).2].map PyData.str)) = decide ([l.2.1, l.2.2] = [(lkp lb l.1).1, (lkp lb l.1).2]) := eqvAll_strs _ _
        rw [w1, decide_eq_decide]
        constructor
        · intro z
          obtain ⟨z1, z2⟩ := List.cons.inj z
          exact Prod.ext z1 (List.cons.inj z2).1
        · intro z
          rw [z]
      rw [ee] at k
      exact k
    · rw [if_neg m]
      have rr : RelO none (valueAt vb (Sum.inr l.1 : Key)) := by rw [← lks_none hB m]; exact rb.val _
      refine .miss ?_
      cases q : valueAt vb (Sum.inr l.1 : Key) with
      | none => rfl
      | some y => rw [q] at rr; exact rr.elim
open PG in
def rEqLk (K : PySem.W.Frag) : R2 := fun x y H Q => ∃ (a b : Addr) (ka kb : List (Key × V)) (la lb : List Lk), x = .ref a ∧ y = .ref b ∧ H a = some (.dK ka) ∧ H b = some (.dK kb) ∧ Lks K H ka la ∧ Lks K H kb lb ∧ TxOkk (ends la) ∧ TxOkk (ends lb) ∧ Q (.bl (decide (la.length = lb.length) && hitsL lb la)) H
theorem op_eqLk (hu : X.A.units + 66 < cLine) : OpR X (compareOp .Eq) (rEqLk X.K) := by
  intro pins s σ H x y v u Q I rx ry h
  obtain ⟨a, b, ka, kb, la, lb, rfl, rfl, ha, hb, lA, lB, oA, oB, q⟩ := h
  obtain rfl : v = Value.ref a := rx
  obtain rfl : u = Value.ref b := ry
  obtain ⟨_, ya, va, ra, da⟩ := (show ObjOk X.prog X.w H s.heap a (.dK ka) from I.hok a _ ha)
  obtain ⟨_, yb, vb, rb, db⟩ := (show ObjOk X.prog X.w H s.heap b (.dK kb) from I.hok b _ hb)
  refine PySem.W.rcP_dicts (knd := mixKind X.prog X.w) (r := hitsL lb la) ya yb da db (by omega) (fun _ => hits_links I (by show X.A.units + 1 + 64 < cLine; omega) lB oB rb lA oA ra) _ _ ⟨.bl _, H, I, rfl, ?_⟩
  have e1 : va.length = la.length := by rw [← ra.length]; exact Paired.length lA
  have e2 : vb.length = lb.length := by rw [← rb.length]; exact Paired.length lB
  rw [e1, e2]
  exact q
end
end OW


set_option Elab.async false
set_option linter.all false
set_option maxRecDepth 100000
set_option maxHeartbeats 4000000
/-! Own + and +=, static methods, classes made with stars. -/
namespace OW
open PySem PySem.Spec PyProof.Rows L2
section
variable {X : Cx} {CX : CXT} {k : Nat} {f C : Addr} {fd : FuncData} {ps : List Str} {sp : Sp} {E : XK}
/-- x op y, both of the class at C, by its own def -/
def rOwnBin (K : PySem.W.Frag) (C : Addr) (sp : Sp) (E : XK) : R2 := fun x y H Q => ∃ (a dx : Addr) (fs : List (Str × V)), x = .ref a ∧ H a = some (.ins C dx fs) ∧ TyX K H y (.ref C) ∧ sp [.ref a, y] H (fun v H' => (∃ r, v = .ref r) ∧ Q v H') E
theorem op_ownBin {op : Operator} (F : FnOk X.prog X.w X.K X.mg X.base CX k f fd ps sp) (hb : Binds X.K fd ps []) (hx : Passes CX X E) (hr : Room k X.A) (hc : PySem.W.selfFirst X.K C = true) (hs : PySem.W.findIn X.K (.ref C) (PySem.dunder op.info.2) = some (some (.ref f))) (hf : PySem.W.isFn X.K (.ref f) = true) : OpR X (binaryOp op) (rOwnBin X.K C sp E) := by
  intro pins s σ H x y v u Q I rx ry h
  obtain ⟨a, dx, fs, rfl, ha, ty, h⟩ := h
  obtain rfl : v = Value.ref a := rx
  obtain ⟨ox, od, J⟩ := own_at I ha
  obtain ⟨m, hF⟩ := I.fr
  obtain ⟨P, Z, p, _⟩ := kit_of I ry ty
  refine PySem.W.binop_K hF I.ok.mod.kin J (Z.ty _ _ I.kIn p) hc hs hf ?_
  refine wpAny_mono (own_call (vs := [.ref a, y]) F hb hx hr rfl I (.cons rfl (.cons ry .nil)) h) (fun v s' z => ?_) fun _ _ z => z
  obtain ⟨w, H', I', rw', ⟨r, rfl⟩, q⟩ := z
  obtain rfl : v = Value.ref r := rw'
  exact ⟨.ref r, H', I', rfl, q⟩
theorem ip_own {op : Operator} (F : FnOk X.prog X.w X.K X.mg X.base CX k f fd ps sp) (hb : Binds X.K fd ps []) (hx : Passes CX X E) (hr : Room k X.A) (hc : PySem.W.selfFirst X.K C = true) (hs : PySem.W.findIn X.K (.ref C) (PySem.dunderI op.info.2) = some (some (.ref f))) (hf : PySem.W.isFn X.K (.ref f) = true) : PIp X op (rOwnBin X.K C sp E) := by
  intro pins s σ H x y v u Q I rx ry h
  obtain ⟨a, dx, fs, rfl, ha, ty, h⟩ := h
  obtain rfl : v = Value.ref a := rx
  obtain ⟨ox, od, J⟩ := own_at I ha
  obtain ⟨m, hF⟩ := I.fr
  refine PySem.W.ksp_inplace hF I.ok.mod.kin J hc hs hf ?_
  refine wpAny_mono (own_call (vs := [.ref a, y]) F hb hx hr rfl I (.cons rfl (.cons ry .nil)) h) (fun v s' z => ?_) fun _ _ z => z
  obtain ⟨w, H', I', rw', ⟨r, rfl⟩, q⟩ := z
  obtain rfl : v = Value.ref r := rw'
  exact ⟨.ref r, H', I', rfl, q⟩
end
/-- C.m is a staticmethod: its record at p, its def at g -/
structure SMet (K : PySem.W.Frag) (C : Addr) (mc : Value) (m : Str) (p g : Addr) : Prop where
  at_ : PySem.W.findCls K (.ref C) mc m = some (.get (.builtin "staticmethod.__get__") (.ref p) .none (.ref C))
  rc : ∃ rest, PySem.W.recIn K p "staticmethod" = some (.ref g :: rest)
  kp : PySem.W.keepIn K (.ref g) = true
/-- C.m(..) -/
def tSMeth (C : Addr) (sp : Sp) (E : XK) (ta : TE) (t : TA) : TE := fun σ H Q => ta σ H fun x H1 => x = .ref C ∧ t σ H1 fun vs H2 => sp vs H2 Q E
section
variable {X : Cx} {CX : CXT} {k : Nat} {C p g f : Addr} {mc : Value} {sp : Sp} {E : XK} {o e : Expr} {es : List Expr} {x m : Str} {pos apos pp : Pos} {ta : TE} {t : TA} {pl : Sem Bool}
theorem pe_smeth (he : PE X o ta) (r : ClX.CRead X.K C mc) (c : SMet X.K C mc m p g) (F : FnR X.prog X.w X.K X.mg X.base CX k g sp) (hr : Room k X.A) (hx : Passes CX X E) (ha : PA X (e :: es) t)
    (hst : starEach (e :: es) X.env = (false, eval e X.env) :: starEach es X.env := by rfl) (hpl : (backTo pos (starEach es X.env)).any (·.1) = false := by rfl)
    (ht : eval (.Call (.Attribute o m apos) (e :: es) [] pos) X.env = (do let ov ← eval o X.env; standAt apos.atName; let (f, first) ← holding [ov] (getMethod ov m pl); callWith pos f first (backTo pos (starEach (e :: es) X.env)) (backToKw pos (keywordEach [] X.env))) := by rfl) :
    PE X (.Call (.Attribute o m apos) (e :: es) [] pos) (tSMeth C sp E ta t) := by
  refine ⟨fun pins s σ H Q I h => PySem.W.methodCall_KW (pl := pl) (thn (he.run pins s σ H _ I h) fun u s1 ⟨x, H1, I1, rx, ex, q⟩ => ?_) ht⟩
  subst ex
  obtain rfl : u = Value.ref C := rx
  obtain ⟨rest, hp⟩ := c.rc
  refine PySem.W.method_cls I1.kIn r.ga (PySem.W.cls_bind I1.kIn r.rd c.at_ (wpAny_call (PySem.W.sm_get (s := { s1 with toks := s1.toks + 1 }) I1.kIn hp (PySem.W.handed_on rfl ?_))))
  have I2 := I1.tok (s1.toks + 1)
  refine PySem.W.callWith_K (h₀ := X.base) I2.ok.mod.kin c.kp (thn (ha.run pos pins _ σ H1 _ I2 q) fun us s3 ⟨vs, H2, I3, rv, q2⟩ => ⟨I3.kIn, ?_⟩) hst hpl
  exact wpAny_call (run_fnR F hr hx I3 rv q2)
/-- C(e, .., *y) -/
theorem pe_makeS (M : Mk X.K C f) (F : FnR X.prog X.w X.K X.mg X.base CX k f sp) (hr : Room (k + 1) X.A) (hg : Gl X x) (hm : X.mg x = some (.ref C)) (hx : Passes CX X E) (ha : PA X (e :: es) t) (hdb : (x == ("__debug__" : Str)) = false := by decide)
    (he : starEach (e :: es) X.env = (false, eval e X.env) :: starEach es X.env := by rfl) (hst : (backTo pos (starEach es X.env)).any (·.1) = true := by rfl) : PE X (.Call (.Name x pp) (e :: es) [] pos) (StX.tMakeR C sp E t) := by
  refine ⟨fun pins s σ H Q I h => wpAny_Call_Name_kw (ld_glob I hg hm ?_ hdb)⟩
  refine PySem.W.callWith_S2 (h₀ := X.base) I.ok.mod.kin M.kp (thn (ha.run pos pins s σ H _ I h) fun us s1 ⟨vs, H1, I1, r, q⟩ => ⟨I1.kIn, ?_⟩) he hst
  exact StX.run_makeR M F hr hx I1 r q
end
end OW


set_option Elab.async false
set_option linter.all false
set_option maxRecDepth 100000
set_option maxHeartbeats 4000000
/-! Tuples of texts, in lists and tuples; lists of them compared. -/
namespace OW
open PySem PySem.Spec PyProof.Rows L2
def TupT (K : PySem.W.Frag) (H : Hp) (v : V) (c : List Str) : Prop := ∃ t, v = .ref t ∧ SqT K H t (c.map V.str)
abbrev TupLs (K : PySem.W.Frag) (H : Hp) (vs : List V) (cs : List (List Str)) : Prop := Paired (TupT K H) vs cs
def dOf (c : List Str) : PyData := .tuple (c.map PyData.str)
def CsOk (cs : List (List Str)) : Prop := ∀ c ∈ cs, TxOkk c
theorem TupT.same {K : PySem.W.Frag} {H H' : Hp} {v : V} {c : List Str} (h : TupT K H v c) (s : Same H H') : TupT K H' v c := by
  obtain ⟨t, e, h⟩ := h
  exact ⟨t, e, PG.sqT_same h s⟩
theorem TupLs.same {K : PySem.W.Frag} {H H' : Hp} {vs : List V} {cs : List (List Str)} (h : TupLs K H vs cs) (s : Same H H') : TupLs K H' vs cs := PG.Paired.imp (fun _ _ q => q.same s) h
theorem TupT.dp {K : PySem.W.Frag} {H : Hp} {v : V} {c : List Str} (h : TupT K H v c) : Dp K H v (dOf c) := by
  obtain ⟨t, rfl, h⟩ := h
  exact .tup h (dpAll_strs c)
theorem TupLs.dp {K : PySem.W.Frag} {H : Hp} : ∀ {vs : List V} {cs : List (List Str)}, TupLs K H vs cs → DpAll K H vs (cs.map dOf)
  | _, _, .nil => .nil
  | _, _, .cons h r => .cons h.dp (TupLs.dp r)
theorem eqv_dOf (c d : List Str) : PyData.eqv (dOf c) (dOf d) = decide (c = d) := eqvAll_strs c d
theorem any_dOf (c : List Str) : ∀ cs : List (List Str), ((cs.map dOf).any fun z => PyData.eqv z (dOf c)) = decide (c ∈ cs)
  | [] => rfl
  | d :: cs => by
    rw [List.map_cons, List.any_cons, any_dOf c cs, eqv_dOf]
    by_cases e : d = c
    · rw [decide_eq_true e, Bool.true_or, decide_eq_true (by rw [e]; exact List.mem_cons_self)]
    · rw [decide_eq_false e, Bool.false_or, decide_eq_decide]
      exact ⟨fun h => List.mem_cons_of_mem _ h, fun h => (List.mem_cons.mp h).elim (fun q => absurd q.symm e) id⟩
theorem eqvAll_dOf : ∀ cs ds : List (List Str), PyData.eqvAll (cs.map dOf) (ds.map dOf) = decide (cs = ds)
  | [], [] => rfl
  | [], _ :: _ => rfl
  | _ :: _, [] => rfl
  | c :: cs, d :: ds => by
    show (PyData.eqv (dOf c) (dOf d) && PyData.eqvAll (cs.map dOf) (ds.map dOf)) = _
    rw [eqvAll_dOf cs ds, eqv_dOf]
    by_cases h1 : c = d
    · by_cases h2 : cs = ds
      · subst h1; subst h2; rw [decide_eq_true rfl, decide_eq_true rfl, decide_eq_true rfl]; rfl
      · rw [decide_eq_false h2, Bool.and_false, decide_eq_false (fun z => h2 (List.cons.inj z).2)]
    · rw [decide_eq_false h1, Bool.false_and, decide_eq_false (fun z => h1 (List.cons.inj z).1)]
theorem lay_cs : ∀ {cs : List (List Str)}, CsOk cs → PyData.canLayAll0 (cs.map dOf) = true
  | [], _ => rfl
  | c :: cs, h => by
    show (PyData.canLayAll0 (c.map PyData.str) && PyData.canLayAll0 (cs.map dOf)) = true
    rw [lay_strs (h c List.mem_cons_self), lay_cs fun d hd => h d (List.mem_cons_of_mem _ hd)]
    rfl
theorem depth_cs : ∀ cs : List (List Str), PyData.depthAll (cs.map dOf) ≤ 1
  | [] => Nat.zero_le _
  | c :: cs => by
    show max (PyData.depthAll (c.map PyData.str) + 1) (PyData.depthAll (cs.map dOf)) ≤ 1
    rw [depth_strs]
    have := depth_cs cs
    omega
theorem shaped_cs {cs : List (List Str)} (h : CsOk cs) : SeqAt.shaped (.list (cs.map dOf)) = true := by
  show (PyData.canLayAll0 (cs.map dOf) && decide (PyData.depthAll (cs.map dOf) + 1 ≤ 64)) = true
  rw [lay_cs h, decide_eq_true (by have := depth_cs cs; omega)]
  rfl
theorem shaped_ct {cs : List (List Str)} (h : CsOk cs) : SeqAt.shaped (.tuple (cs.map dOf)) = true := by
  show (PyData.canLayAll0 (cs.map dOf) && decide (PyData.depthAll (cs.map dOf) + 1 ≤ 64)) = true
  rw [lay_cs h, decide_eq_true (by have := depth_cs cs; omega)]
  rfl
section
variable {X : Cx}
/-- a tuple of texts in a list of such -/
def rInC (K : PySem.W.Frag) (neg : Bool) : R2 := fun x y H Q => ∃ (c : List Str) (a : Addr) (vs : List V) (cs : List (List Str)), TupT K H x c ∧ y = .ref a ∧ SqL K H a vs ∧ TupLs K H vs cs ∧ TxOkk c ∧ CsOk cs ∧ Q (.bl (if neg then !decide (c ∈ cs) else decide (c ∈ cs))) H
theorem op_inC (hu : X.A.units + 65 < cLine) : OpR X (compareOp .In) (rInC X.K false) := by
  intro pins s σ H x y v u Q I rx ry h
  obtain ⟨c, a, vs, cs, hx, rfl, ha, hv, o1, o2, q⟩ := h
  refine op_inD hu pins s σ H _ _ v u Q I rx ry ⟨dOf c, cs.map dOf, hx.dp, .lst ha hv.dp, shaped_tup o1, shaped_cs o2, ?_⟩
  rw [any_dOf]
  exact q
theorem op_notInC (hu : X.A.units + 65 < cLine) : OpR X (compareOp .NotIn) (rInC X.K true) := by
  intro pins s σ H x y v u Q I rx ry h
  obtain ⟨c, a, vs, cs, hx, rfl, ha, hv, o1, o2, q⟩ := h
  refine op_notInD hu pins s σ H _ _ v u Q I rx ry ⟨dOf c, cs.map dOf, hx.dp, .lst ha hv.dp, shaped_tup o1, shaped_cs o2, ?_⟩
  rw [any_dOf]
  exact q
/-- .. in a tuple of such -/
def rInCT (K : PySem.W.Frag) (neg : Bool) : R2 := fun x y H Q => ∃ (c : List Str) (a : Addr) (vs : List V) (cs : List (List Str)), TupT K H x c ∧ y = .ref a ∧ SqT K H a vs ∧ TupLs K H vs cs ∧ TxOkk c ∧ CsOk cs ∧ Q (.bl (if neg then !decide (c ∈ cs) else decide (c ∈ cs))) H
theorem op_inCT (hu : X.A.units + 65 < cLine) : OpR X (compareOp .In) (rInCT X.K false) := by
  intro pins s σ H x y v u Q I rx ry h
  obtain ⟨c, a, vs, cs, hx, rfl, ha, hv, o1, o2, q⟩ := h
  obtain ⟨as, r1⟩ := Dp.reads I (dOf c) x v hx.dp rx
  obtain ⟨bs, r2⟩ := Dp.reads I (.tuple (cs.map dOf)) _ u (.tup ha hv.dp) ry
  refine SeqAt.in_tuple_reads r2 r1 (SeqAt.canLay_of_shaped (shaped_ct o2)) (SeqAt.canLay_of_shaped (shaped_tup o1)) (room_in_shaped (shaped_tup o1) hu) ⟨.bl _, H, I, rfl, ?_⟩
  rw [any_dOf]
  exact q
theorem op_notInCT (hu : X.A.units + 65 < cLine) : OpR X (compareOp .NotIn) (rInCT X.K true) := by
  intro pins s σ H x y v u Q I rx ry h
  obtain ⟨c, a, vs, cs, hx, rfl, ha, hv, o1, o2, q⟩ := h
  obtain ⟨as, r1⟩ := Dp.reads I (dOf c) x v hx.dp rx
  obtain ⟨bs, r2⟩ := Dp.reads I (.tuple (cs.map dOf)) _ u (.tup ha hv.dp) ry
  refine SeqAt.notIn_tuple_reads r2 r1 (SeqAt.canLay_of_shaped (shaped_ct o2)) (SeqAt.canLay_of_shaped (shaped_tup o1)) (room_in_shaped (shaped_tup o1) hu) ⟨.bl _, H, I, rfl, ?_⟩
  rw [any_dOf]
  exact q
/-- lists of such compared -/
def rEqC (K : PySem.W.Frag) (neg : Bool) : R2 := fun x y H Q => ∃ (a b : Addr) (vs us : List V) (cs ds : List (List Str)), x = .ref a ∧ y = .ref b ∧ SqL K H a vs ∧ SqL K H b us ∧ TupLs K H vs cs ∧ TupLs K H us ds ∧ CsOk cs ∧ CsOk ds ∧ Q (.bl (if neg then !decide (cs = ds) else decide (cs = ds))) H
theorem op_eqC (hu : X.A.units + 64 < cLine) : OpR X (compareOp .Eq) (rEqC X.K false) := by
  intro pins s σ H x y v u Q I rx ry h
  obtain ⟨a, b, vs, us, cs, ds, rfl, rfl, ha, hb, h1, h2, o1, o2, q⟩ := h
  refine op_eqD hu pins s σ H _ _ v u Q I rx ry ⟨.list (cs.map dOf), .list (ds.map dOf), .lst ha h1.dp, .lst hb h2.dp, shaped_cs o1, shaped_cs o2, ?_⟩
  have e : PyData.eqv (.list (cs.map dOf)) (.list (ds.map dOf)) = decide (cs = ds) := eqvAll_dOf cs ds
  rw [e]
  exact q
theorem op_neC (hu : X.A.units + 64 < cLine) : OpR X (compareOp .NotEq) (rEqC X.K true) := by
  intro pins s σ H x y v u Q I rx ry h
  obtain ⟨a, b, vs, us, cs, ds, rfl, rfl, ha, hb, h1, h2, o1, o2, q⟩ := h
  refine op_neD hu pins s σ H _ _ v u Q I rx ry ⟨.list (cs.map dOf), .list (ds.map dOf), .lst ha h1.dp, .lst hb h2.dp, shaped_cs o1, shaped_cs o2, ?_⟩
  have e : PyData.eqv (.list (cs.map dOf)) (.list (ds.map dOf)) = decide (cs = ds) := eqvAll_dOf cs ds
  rw [e]
  exact q
end
end OW


set_option Elab.async false
set_option linter.all false
set_option maxRecDepth 100000
set_option maxHeartbeats 4000000
/-! != of a class that has an own == and no own !=. -/
namespace OW
open PySem PySem.Spec PyProof.Rows L2
section
variable {prog : Program} {w : World} {A : Around} {E : Value → Shared → Prop} {s : Shared} {K : PySem.W.Frag} {x C f L : Addr} {h₀ : Heap} {m : Str → Option Value} {ox : Obj} {od : Option Obj} {b tb : Value}
theorem objNe_K {Q : Fin → Shared → Prop} (X : K.In s.heap) (I : PySem.W.InstAt s.heap x ox C od) (he : PySem.W.findIn K (.ref C) "__eq__" = some (some (.ref f))) (hf : PySem.W.isFn K (.ref f) = true) (hu : A.units < cLine)
    (h : wpAny (model prog w) A (call (.ref f) [.ref x, b]) (fun v s' => ∃ c, v = .bool c ∧ Q (.done (.ret (.bool (!c)))) s') E s) : wpAny (model prog w) A (Builtin.«object.__ne__» ⟨[.ref x, b], []⟩) Q E s := by
  obtain ⟨hh, g, d, t, os⟩ := s
  unfold Builtin.«object.__ne__»
  repeat (first
    | with_reducible refine wpAny_cRoomFor hu ?_
    | (refine wpAny_bind (m := callSpecialIfBound? (.ref x) (Str.ofString "__eq__") [b]) (PySem.W.ifBound_K X I he hf (wpAny_mono h (fun r s' hr => by
          obtain ⟨c, rfl, hq⟩ := hr
          repeat (first | exact hq | exact wpAny_pure hq | exact wpAny_truthy_bool hq | (refine wpAny_bind (m := truthy (.bool _)) (wpAny_truthy_bool ?_)) | wp_step)) fun _ _ e => e)))
    | wp_step)
theorem checkK {M : Model} {id owner n : String} {rest : List Value} {Q : Unit → Shared → Prop} (X : K.In s.heap) (I : PySem.W.InstAt s.heap x ox C od) (hm : PySem.W.mroIn K C (.type owner) = some true) (hk : builtinKind id = some .slot) (hs : splitId id = some (owner, n)) (ha : argsOk id ⟨.ref x :: rest, []⟩) (hq : Q () s) :
    wpAny M A (checkBuiltinCall id ⟨.ref x :: rest, []⟩) Q E s := by
  obtain ⟨hh, g, d, t, os⟩ := s
  have L0 := I.type (M := M)
  have L1 := PySem.W.looks_mroIn (M := M) X hm
  simp only [checkBuiltinCall, hk, hs]
  refine wpAny_bind ?_
  unfold isInstance
  refine wpAny_bind (L0.here ?_)
  refine L1.here ?_
  rw [if_neg (by decide)]
  cases hsig : Manifest.signature? id with
  | none => exact wpAny_pure hq
  | some sig =>
    simp only [argsOk, hsig] at ha
    have h2 : Bind.checkArgs id sig ⟨.ref x :: rest, []⟩ = pure () := ha
    show wpAny M A (Bind.checkArgs id sig ⟨.ref x :: rest, []⟩) Q E _
    rw [h2]
    exact wpAny_pure hq
theorem callNe_K {Q : Value → Shared → Prop} (X : K.In s.heap) (I : PySem.W.InstAt s.heap x ox C od) (hm : PySem.W.mroIn K C (.type "object") = some true) (he : PySem.W.findIn K (.ref C) "__eq__" = some (some (.ref f))) (hf : PySem.W.isFn K (.ref f) = true) (hu : A.units + 1 < cLine)
    (h : wpAny (model prog w) A.in1 (call (.ref f) [.ref x, b]) (fun v s' => ∃ c, v = .bool c ∧ Q (.bool (!c)) s') E s) : wpAny (model prog w) A (call (.builtin "object.__ne__") [.ref x, b]) Q E s := by
  refine wpAny_call (codeAny_call_builtin F.cmp_object.ne.plain F.cmpEntry_ne ?_)
  obtain ⟨hh, g, d, t, os⟩ := s
  have fin : wpAny (model prog w) A.in1 (Builtin.«object.__ne__» ⟨[.ref x, b], []⟩) (fun fin s' => ∃ v, fin = .done (.ret v) ∧ Q v s') E ⟨hh, g, d, t, os⟩ := objNe_K X I he hf hu (wpAny_mono h (fun v s' ⟨c, e, q⟩ => ⟨c, e, _, rfl, q⟩) fun _ _ e => e)
  refine checkK X I hm F.cmpKind_ne F.cmpSplit_ne (F.cmpArgs_ne _ _) (wpAny_mono fin (fun fn s' z => ?_) fun _ _ e => e)
  obtain ⟨v, rfl, q⟩ := z
  exact q
theorem cmpNe_K {Q : Value → Shared → Prop} (hu : A.units + 1 < cLine) (F0 : Fr h₀ L s.heap m) (X₀ : K.In h₀) (I : PySem.W.InstAt s.heap x ox C od) (hb : PySem.W.Looks (model prog w) s.heap (typeOf b) tb) (hn : PySem.W.notFirst K C tb = true)
    (hs : PySem.W.findIn K (.ref C) "__ne__" = some (some (.builtin "object.__ne__"))) (hm : PySem.W.mroIn K C (.type "object") = some true) (he : PySem.W.findIn K (.ref C) "__eq__" = some (some (.ref f))) (hf : PySem.W.isFn K (.ref f) = true)
    (h : wpAny (model prog w) A.in1 (call (.ref f) [.ref x, b]) (fun v s' => ∃ c, v = .bool c ∧ Q (.bool (!c)) s') E s) : wpAny (model prog w) A (richCompare .NotEq (.ref x) b) Q E s := by
  have X := X₀.keeps F0.keep
  have one : wpAny (model prog w) A (tryCompare (.ref x) "__ne__" b) (fun r s' => ∃ v, r = some v ∧ Q v s') E s := by
    unfold tryCompare
    have call1 : wpAny (model prog w) A (call (.builtin "object.__ne__") [.ref x, b]) (fun v s' => ∃ c, v = .bool c ∧ Q (.bool c) s') E s := callNe_K (Q := fun v s' => ∃ c, v = .bool c ∧ Q (.bool c) s') X I hm he hf hu (wpAny_mono h (fun v s' ⟨c, e, q⟩ => ⟨c, e, _, rfl, q⟩) fun _ _ e => e)
    have fin : wpAny (model prog w) A (call (.builtin "object.__ne__") ([.ref x] ++ [b]) >>= fun v => pure (some v)) (fun r s' => ∃ c, r = some (.bool c) ∧ Q (.bool c) s') E s := wpAny_bind (wpAny_mono call1 (fun v s' ⟨c, e, q⟩ => wpAny_pure ⟨c, by rw [e], q⟩) fun _ _ e => e)
    have sp : wpAny (model prog w) A (callSpecialIfBound? (.ref x) "__ne__" [b]) (fun r s' => ∃ c, r = some (.bool c) ∧ Q (.bool c) s') E s := by
      simp only [callSpecialIfBound?, bindSpecialIfBound?]
      refine wpAny_holding (wpAny_bind (wpAny_bind (wpAny_bind (I.type.here ((PySem.W.looks_findIn X hs).here ?_)))))
      simp only [F.cmp_object.ne.bind]
      refine wpAny_bind (wpAny_askSetting (wpAny_ite ?_))
      split
      · exact wpAny_bind (wpAny_pure (wpAny_pure fin))
      · exact wpAny_tryCatch (wpAny_bind (wpAny_pure (wpAny_pure fin)))
    refine wpAny_bind (wpAny_mono sp (fun r s' z => ?_) fun _ _ e => e)
    obtain ⟨c, rfl, q⟩ := z
    exact wpAny_pure ⟨_, rfl, q⟩
  unfold richCompare
  simp only [oneThing_ref]
  refine wpAny_holding (wpAny_bind (wpAny_cRoomFor (Nat.lt_of_succ_lt hu) (wpAny_bind (I.type.here (wpAny_bind (hb.here ?_))))))
  split
  · rename_i q
    have e : PySem.W.subIn K tb (.ref C) = some false := by
      rcases Bool.or_eq_true_iff.mp hn with e | e
      · rw [beq_iff_eq.mp e] at q; simp at q
      · exact beq_iff_eq.mp e
    refine wpAny_bind ((PySem.W.looks_subIn X e).here ?_)
    simp only [Bool.false_eq_true, if_false]
    exact wpAny_bind (wpAny_mono one (fun r s' ⟨v, e, hq⟩ => by subst e; exact wpAny_pure hq) fun _ _ e => e)
  · refine wpAny_bind (wpAny_pure ?_)
    simp only [Bool.false_eq_true, if_false]
    exact wpAny_bind (wpAny_mono one (fun r s' ⟨v, e, hq⟩ => by subst e; exact wpAny_pure hq) fun _ _ e => e)
end
section
variable {X : Cx} {CX : CXT} {k : Nat} {f C : Addr} {fd : FuncData} {ps : List Str} {sp : Sp} {E : XK}
/-- x != y by x's own == -/
def rOwnNe (K : PySem.W.Frag) (C : Addr) (sp : Sp) (E : XK) : R2 := fun x y H Q => ∃ (a dx : Addr) (fs : List (Str × V)) (t : Value), x = .ref a ∧ H a = some (.ins C dx fs) ∧ TyX K H y t ∧ PySem.W.notFirst K C t = true ∧ sp [.ref a, y] H (fun v H' => ∃ b : Bool, v = .bl b ∧ Q (.bl (!b)) H') E
theorem op_ownNe (F : FnOk X.prog X.w X.K X.mg X.base CX k f fd ps sp) (hb : Binds X.K fd ps []) (hx : Passes CX X E) (hr : Room (k + 1) X.A) (hn : PySem.W.findIn X.K (.ref C) "__ne__" = some (some (.builtin "object.__ne__"))) (hm : PySem.W.mroIn X.K C (.type "object") = some true) (hs : PySem.W.findIn X.K (.ref C) "__eq__" = some (some (.ref f))) (hf : PySem.W.isFn X.K (.ref f) = true) : OpR X (compareOp .NotEq) (rOwnNe X.K C sp E) := by
  intro pins s σ H x y v u Q I rx ry h
  obtain ⟨a, dx, fs, t, rfl, ha, ty, nf, h⟩ := h
  obtain rfl : v = Value.ref a := rx
  obtain ⟨ox, od, J⟩ := own_at I ha
  obtain ⟨m, hF⟩ := I.fr
  show wpAny (model X.prog X.w) X.A (richCompare .NotEq (.ref a) u) (EP X pins σ Q) X.xe s
  refine cmpNe_K (tb := t) (hu_of hr) hF I.ok.mod.kin J ?_ nf hn hm hs hf ?_
  · obtain ⟨P, Z, p, _⟩ := kit_of I ry ty
    exact Z.ty _ _ I.kIn p
  · refine wpAny_mono (own_call (vs := [.ref a, y]) F hb hx hr.in1 rfl I (.cons rfl (.cons ry .nil)) h) (fun v s' z => ?_) fun _ _ z => z
    obtain ⟨w, H', I', rw', b, rfl, q⟩ := z
    obtain rfl : v = Value.bool b := rw'
    exact ⟨b, rfl, .bl (!b), H', I', rfl, q⟩
end
end OW


set_option Elab.async false
set_option linter.all false
set_option maxRecDepth 100000
set_option maxHeartbeats 4000000
namespace PG
open PySem L2
theorem room66 {k : Nat} {A : Around} (r : Room k A) : A.units + 66 < cLine := by have := r.un; omega
abbrev sBegin : Stmt := inClass sProg 1
abbrev sMWays : Stmt := inClass sProg 2
abbrev sMPlaces : Stmt := inClass sProg 3
abbrev sMExits : Stmt := inClass sProg 4
abbrev sGet : Stmt := inClass sProg 5
abbrev sHas : Stmt := inClass sProg 7
abbrev sMLen : Stmt := inClass sProg 8
abbrev sEq : Stmt := inClass sProg 9
abbrev sLeaving : Stmt := inClass sProg 10
abbrev sEntering : Stmt := inClass sProg 11
/-- the class among the types -/
structure PTt (K : PySem.W.Frag) (C : Addr) : Prop where
  ha : PySem.W.findIn K (.ref C) "__class__" = some (some (.builtin "object.__class__"))
  hn : PySem.W.specialIn K (.builtin "object.__class__") "__get__" = some (some (.builtin "getset_descriptor.__get__"))
  htk : PySem.W.takesIn K (.builtin "object.__class__") = some true
  hm : PySem.W.mroIn K C (.type "object") = some true
section
variable {P : Program} {w : World} {K : PySem.W.Frag} {mg : Str → Option Value} {base : Heap}
theorem f_links {L S F : Addr} {b : Str} : ([("links", .ref L), ("spots", .ref S), ("origin", .str b), ("finals", .ref F)] : List (Str × V)).lookup ("links" : Str) = some (.ref L) := rfl
theorem scBegin : FnScope ["self"] ["self"] (defScope sBegin) := ⟨rfl, rfl, rfl, by decide +kernel, rfl, by decide +kernel, by decide +kernel⟩
def spBegin (K : PySem.W.Frag) (C : Addr) : Sp := fun vs H Q _ => ∃ (x dx L S F : Addr) (d : PD), vs = [.ref x] ∧ ProgAt K C H x dx L S F d ∧ Q (.str d.b) H
theorem ok_begin {f C : Addr} {fd : FuncData} (Fn : Fun K "begin" "Program.begin" sBegin f fd) (Tc : PTc K mg C) : FnOk P w K mg base CX0 1 f fd ["self"] (spBegin K C) := by
  refine Fn.ok scBegin (fun vs H Q E h => ?_) (fun cdv A outer s H vs Q E hr h => ?_)
  · obtain ⟨x, dx, L, S, F, d, rfl, _⟩ := h
    rfl
  · obtain ⟨x, dx, L, S, F, d, rfl, h, k⟩ := h
    exact ⟨_, pss_one (ps_ret (pe_fld (pv 0) rfl)), _, rfl, x, C, dx, _, _, rfl, h.ins, Tc.cl, Tc.n3, rfl, k⟩
theorem scMWays : FnScope ["self"] ["self"] (defScope sMWays) := ⟨rfl, rfl, rfl, by decide +kernel, rfl, by decide +kernel, by decide +kernel⟩
/-- a new list -/
def spList (K : PySem.W.Frag) (C : Addr) (g : PD → List Str) : Sp := fun vs H Q _ => ∃ (x dx L S F : Addr) (d : PD), vs = [.ref x] ∧ ProgAt K C H x dx L S F d ∧ ∀ p, H p = none → Q (.ref p) (upd H p (.lst ((g d).map V.str)))
theorem keys_strs {H : Hp} {kvs : List (Key × V)} {ls : List Lk} (h : Lks K H kvs ls) : (kvs.map fun kv => kV kv.1) = (keysL ls).map V.str := by
  have z := lks_keys h
  have e : (kvs.map fun kv => kV kv.1) = (kvs.map (·.1)).map kV := by rw [List.map_map]; rfl
  rw [e, z, List.map_map]
  rfl
theorem ok_mways {f C : Addr} {fd : FuncData} (Fn : Fun K "ways" "Program.ways" sMWays f fd) (T : PT0 mg) (Tc : PTc K mg C) : FnOk P w K mg base CX0 1 f fd ["self"] (spList K C fun d => keysL d.ls) := by
  refine Fn.ok scMWays (fun vs H Q E h => ?_) (fun cdv A outer s H vs Q E hr h => ?_)
  · obtain ⟨x, dx, L, S, F, d, rfl, _⟩ := h
    rfl
  · obtain ⟨x, dx, L, S, F, d, rfl, h, k⟩ := h
    obtain ⟨kvs, hL, lk⟩ := h.lk
    refine ⟨_, pss_one (ps_ret (pe_callTy (call_listD rfl) (by rfl) T.list PyProof.Rows.boot_list (pa_cons (pe_fld (pv 0) rfl) pa_nil))), _, rfl, x, C, dx, _, _, rfl, h.ins, Tc.cl, Tc.n1, rfl, L, kvs, rfl, .inl hL, fun p np => ?_⟩
    rw [keys_strs lk]
    exact k p np
theorem scMPlaces : FnScope ["self"] ["self"] (defScope sMPlaces) := ⟨rfl, rfl, rfl, by decide +kernel, rfl, by decide +kernel, by decide +kernel⟩
theorem ok_mplaces {f C : Addr} {fd : FuncData} (Fn : Fun K "places" "Program.places" sMPlaces f fd) (T : PT0 mg) (Tc : PTc K mg C) : FnOk P w K mg base CX0 1 f fd ["self"] (spList K C fun d => d.ps) := by
  refine Fn.ok scMPlaces (fun vs H Q E h => ?_) (fun cdv A outer s H vs Q E hr h => ?_)
  · obtain ⟨x, dx, L, S, F, d, rfl, _⟩ := h
    rfl
  · obtain ⟨x, dx, L, S, F, d, rfl, h, k⟩ := h
    exact ⟨_, pss_one (ps_ret (pe_callTy call_list_of (by rfl) T.list PyProof.Rows.boot_list (pa_cons (pe_fld (pv 0) rfl) pa_nil))), _, rfl, x, C, dx, _, _, rfl, h.ins, Tc.cl, Tc.n2, rfl, S, _, rfl, .inl (SqL.of h.sp), k⟩
theorem scMExits : FnScope ["self"] ["self"] (defScope sMExits) := ⟨rfl, rfl, rfl, by decide +kernel, rfl, by decide +kernel, by decide +kernel⟩
theorem ok_mexits {f C : Addr} {fd : FuncData} (Fn : Fun K "exits" "Program.exits" sMExits f fd) (T : PT0 mg) (Tc : PTc K mg C) : FnOk P w K mg base CX0 1 f fd ["self"] (spList K C fun d => d.fs) := by
  refine Fn.ok scMExits (fun vs H Q E h => ?_) (fun cdv A outer s H vs Q E hr h => ?_)
  · obtain ⟨x, dx, L, S, F, d, rfl, _⟩ := h
    rfl
  · obtain ⟨x, dx, L, S, F, d, rfl, h, k⟩ := h
    exact ⟨_, pss_one (ps_ret (pe_callTy call_list_of (by rfl) T.list PyProof.Rows.boot_list (pa_cons (pe_fld (pv 0) rfl) pa_nil))), _, rfl, x, C, dx, _, _, rfl, h.ins, Tc.cl, Tc.n4, rfl, F, _, rfl, .inl (SqL.of h.fi), k⟩
/-! ### item reading, in, len -/
theorem isSome_val {H : Hp} {kvs : List (Key × V)} {ls : List Lk} {x : Str} (h : Lks K H kvs ls) : (valV kvs (Sum.inr x : Key)).isSome = decide (x ∈ keysL ls) := by
  by_cases m : x ∈ keysL ls
  · obtain ⟨t, e, _⟩ := lks_val h m
    rw [e, decide_eq_true m]
    rfl
  · rw [lks_none h m, decide_eq_false m]
    rfl
theorem scGet : FnScope ["self", "at"] ["self", "at"] (defScope sGet) := ⟨rfl, rfl, rfl, by decide +kernel, rfl, by decide +kernel, by decide +kernel⟩
def spGet (K : PySem.W.Frag) (C : Addr) : Sp := fun vs H Q _ => ∃ (x dx L S F : Addr) (d : PD) (wy : Str), vs = [.ref x, .str wy] ∧ ProgAt K C H x dx L S F d ∧ wy ∈ keysL d.ls ∧ ∀ t, SqT K H t [.str (lkp d.ls wy).1, .str (lkp d.ls wy).2] → Q (.ref t) H
theorem ok_get {f C fA : Addr} {fd fdA : FuncData} (Fn : Fun K "__getitem__" "Program.__getitem__" sGet f fd) (Tc : PTc K mg C) (FA : Fun K "is_among" "is_among" sAmong fA fdA) (bA : Binds K fdA ["value", "words"] []) (gA : mg "is_among" = some (.ref fA)) (GA : FnOk P w K mg base CX0 1 fA fdA ["value", "words"] (spAmong K)) : FnOk P w K mg base CX0 2 f fd ["self", "at"] (spGet K C) := by
  refine Fn.ok scGet (fun vs H Q E h => ?_) (fun cdv A outer s H vs Q E hr h => ?_)
  · obtain ⟨x, dx, L, S, F, d, wy, rfl, _⟩ := h
    rfl
  · obtain ⟨x, dx, L, S, F, d, wy, rfl, h, m, k⟩ := h
    obtain ⟨kvs, hL, lk⟩ := h.lk
    obtain ⟨t, e, ht⟩ := lks_val lk m
    refine ⟨_, pss_cons (ps_if (pt_not (pt_val (pe_call GA hr (by rfl) gA FA.kp bA .nil pass0 (pa_cons (pv 1) (pa_cons (pe_fld (pv 0) rfl) pa_nil))))) pss_dead pss_nil) (pss_one (ps_ret (pe_dget (hu_of hr) (pe_fld (pv 0) rfl) (pv 1) (fun _ _ => rfl)))), ?_⟩
    refine ⟨_, rfl, _, rfl, x, C, dx, _, _, rfl, h.ins, Tc.cl, Tc.n1, rfl, .str wy, L, rfl, .inr (.inl ⟨wy, kvs, rfl, .inl hL, _, rfl, ?_⟩)⟩
    rw [isSome_val lk, decide_eq_true m]
    refine iteNF ⟨_, rfl, x, C, dx, _, _, rfl, h.ins, Tc.cl, Tc.n1, rfl, _, rfl, L, .ref t, rfl, ?_, k t ht⟩
    rw [← e]
    exact .inl ⟨kvs, Sum.inr wy, .inl hL, rfl, rfl⟩
theorem scHas : FnScope ["self", "x"] ["self", "x"] (defScope sHas) := ⟨rfl, rfl, rfl, by decide +kernel, rfl, by decide +kernel, by decide +kernel⟩
def spHas (K : PySem.W.Frag) (C : Addr) : Sp := fun vs H Q _ => ∃ (x dx L S F : Addr) (d : PD) (v : V), vs = [.ref x, v] ∧ ProgAt K C H x dx L S F d ∧ ((∃ wy, v = .str wy ∧ Q (.bl (decide (wy ∈ keysL d.ls))) H) ∨ (∃ t, TyX K H v t ∧ PySem.W.kitOne K t (.type "str") = some false ∧ Q (.bl false) H))
theorem ok_has {f C fA : Addr} {fd fdA : FuncData} (Fn : Fun K "__contains__" "Program.__contains__" sHas f fd) (Tc : PTc K mg C) (FA : Fun K "is_among" "is_among" sAmong fA fdA) (bA : Binds K fdA ["value", "words"] []) (gA : mg "is_among" = some (.ref fA)) (GA : FnOk P w K mg base CX0 1 fA fdA ["value", "words"] (spAmong K)) : FnOk P w K mg base CX0 2 f fd ["self", "x"] (spHas K C) := by
  refine Fn.ok scHas (fun vs H Q E h => ?_) (fun cdv A outer s H vs Q E hr h => ?_)
  · obtain ⟨x, dx, L, S, F, d, v, rfl, _⟩ := h
    rfl
  · obtain ⟨x, dx, L, S, F, d, v, rfl, h, k⟩ := h
    obtain ⟨kvs, hL, lk⟩ := h.lk
    refine ⟨_, pss_one (ps_ret (pe_call GA hr (by rfl) gA FA.kp bA .nil pass0 (pa_cons (pv 1) (pa_cons (pe_fld (pv 0) rfl) pa_nil)))), _, rfl, _, rfl, x, C, dx, _, _, rfl, h.ins, Tc.cl, Tc.n1, rfl, v, L, rfl, ?_⟩
    rcases k with ⟨wy, rfl, q⟩ | ⟨t, ht, hk, q⟩
    · refine .inr (.inl ⟨wy, kvs, rfl, .inl hL, ?_⟩)
      rw [isSome_val lk]
      exact q
    · exact .inr (.inr ⟨t, ht, hk, q⟩)
theorem scMLen : FnScope ["self"] ["self"] (defScope sMLen) := ⟨rfl, rfl, rfl, by decide +kernel, rfl, by decide +kernel, by decide +kernel⟩
def spMLen (K : PySem.W.Frag) (C : Addr) : Sp := fun vs H Q _ => ∃ (x dx L S F : Addr) (d : PD), vs = [.ref x] ∧ ProgAt K C H x dx L S F d ∧ Q (.int (d.ls.length : Nat)) H
theorem ok_mlen {f C : Addr} {fd : FuncData} (Fn : Fun K "__len__" "Program.__len__" sMLen f fd) (T : PT0 mg) (Tc : PTc K mg C) : FnOk P w K mg base CX0 1 f fd ["self"] (spMLen K C) := by
  refine Fn.ok scMLen (fun vs H Q E h => ?_) (fun cdv A outer s H vs Q E hr h => ?_)
  · obtain ⟨x, dx, L, S, F, d, rfl, _⟩ := h
    rfl
  · obtain ⟨x, dx, L, S, F, d, rfl, h, k⟩ := h
    obtain ⟨kvs, hL, lk⟩ := h.lk
    refine ⟨_, pss_one (ps_ret (pe_callB call_lenD (by rfl) T.len PySem.boot_len (pa_cons (pe_fld (pv 0) rfl) pa_nil))), _, rfl, x, C, dx, _, _, rfl, h.ins, Tc.cl, Tc.n1, rfl, L, kvs, rfl, hL, ?_⟩
    rw [Paired.length lk]
    exact k
/-! ### == -/
theorem scEq : FnScope ["self", "other"] ["self", "other"] (defScope sEq) := ⟨rfl, rfl, rfl, by decide +kernel, rfl, by decide +kernel, by decide +kernel⟩
def eqPD (d e : PD) : Bool := (decide (d.ls.length = e.ls.length) && OW.hitsL e.ls d.ls) && (decide (d.b = e.b) && decide (d.fs = e.fs))
structure PDok (d : PD) : Prop where
  l : OW.TxOkk (ends d.ls)
  f : OW.TxOkk d.fs
def spEqP (K : PySem.W.Frag) (C : Addr) : Sp := fun vs H Q _ => ∃ (x dx L S F : Addr) (d : PD) (v : V), vs = [.ref x, v] ∧ ProgAt K C H x dx L S F d ∧
  ((∃ (y dy L2 S2 F2 : Addr) (e : PD), v = .ref y ∧ ProgAt K C H y dy L2 S2 F2 e ∧ PDok d ∧ PDok e ∧ Q (.bl (eqPD d e)) H) ∨ (∃ t, TyX K H v t ∧ PySem.W.kitOne K t (.ref C) = some false ∧ Q (.bl false) H))
theorem ok_eqP {f C : Addr} {fd : FuncData} (Fn : Fun K "__eq__" "Program.__eq__" sEq f fd) (T : PT0 mg) (Tc : PTc K mg C) (Tt : PTt K C) : FnOk P w K mg base CX0 1 f fd ["self", "other"] (spEqP K C) := by
  refine Fn.ok scEq (fun vs H Q E h => ?_) (fun cdv A outer s H vs Q E hr h => ?_)
  · obtain ⟨x, dx, L, S, F, d, v, rfl, _⟩ := h
    rfl
  · obtain ⟨x, dx, L, S, F, d, v, rfl, h, k⟩ := h
    obtain ⟨kvs, hL, lk⟩ := h.lk
    refine ⟨_, pss_one (ps_ret (pe_and (pe_callB call_isi (by rfl) T.isi PyProof.Rows.boot_isinstance (pa_cons (pv 1) (pa_cons (pe_glob (v := .ref C) (by rfl) Tc.gC rfl) pa_nil)))
      (pe_and (pe_cmpR (OW.op_eqLk (room66 hr)) (pe_fld (pv 0) rfl) (pe_fld (pv 1) rfl) (nomark _))
      (pe_and (pe_cmpR op_eq (pe_fld (pv 0) rfl) (pe_fld (pv 1) rfl) (nomark _))
      (pe_one (pe_cmpR (OW.op_eqTx hr.units) (pe_fld (pv 0) rfl) (pe_fld (pv 1) rfl) (nomark _))))))), ?_⟩
    rcases k with ⟨y, dy, L2, S2, F2, e, rfl, h2, ok1, ok2, q⟩ | ⟨t, ht, hk, q⟩
    · obtain ⟨kvs2, hL2, lk2⟩ := h2.lk
      refine ⟨_, rfl, .ref y, .ref C, _, _, true, rfl, .own C, .base (.ins h2.ins Tc.cl Tt.ha Tt.hn Tt.htk Tt.hm), ?_, _, rfl, iteT ?_⟩
      · unfold PySem.W.kitOne
        rw [if_pos (beq_self_eq_true _)]
      refine ⟨_, rfl, x, C, dx, _, _, rfl, h.ins, Tc.cl, Tc.n1, rfl, _, rfl, y, C, dy, _, _, rfl, h2.ins, Tc.cl, Tc.n1, rfl, L, L2, kvs, kvs2, _, _, rfl, rfl, hL, hL2, lk, lk2, ok1.l, ok2.l, _, rfl, iteB (fun c1 => ?_) (fun c1 => ?_)⟩
      · refine ⟨_, rfl, x, C, dx, _, _, rfl, h.ins, Tc.cl, Tc.n3, rfl, _, rfl, y, C, dy, _, _, rfl, h2.ins, Tc.cl, Tc.n3, rfl, rfl, _, rfl, iteB (fun c2 => ?_) (fun c2 => ?_)⟩
        · refine ⟨_, rfl, x, C, dx, _, _, rfl, h.ins, Tc.cl, Tc.n4, rfl, _, rfl, y, C, dy, _, _, rfl, h2.ins, Tc.cl, Tc.n4, rfl, F, F2, _, _, rfl, rfl, SqL.of h.fi, SqL.of h2.fi, ok1.f, ok2.f, ?_⟩
          have e2 : d.b = e.b := by have z := of_decide_eq_true c2; injection z
          unfold eqPD at q
          rw [c1, decide_eq_true e2, Bool.true_and, Bool.true_and] at q
          exact q
        · have e2 : d.b ≠ e.b := fun z => by
            rw [z, decide_eq_true rfl] at c2
            cases c2
          unfold eqPD at q
          rw [decide_eq_false e2, Bool.false_and, Bool.and_false] at q
          exact q
      · unfold eqPD at q
        rw [c1, Bool.false_and] at q
        exact q
    · exact ⟨_, rfl, v, .ref C, _, _, false, rfl, .own C, ht, hk, _, rfl, iteF q⟩
end
end PG


set_option Elab.async false
set_option linter.all false
set_option maxRecDepth 100000
set_option maxHeartbeats 4000000
/-! enumerate of a tuple; a pair turned round. -/
namespace EN
open PySem PySem.Spec PyProof.Rows L2
/-- the tuple at a, each item in a new pair with its number -/
def Itn (K : PySem.W.Frag) (a : Addr) : It :=
  ⟨fun i H => ∃ (xs : List V) (x : V), SqT K H a xs ∧ xs[i]? = some x, fun i H v H' => ∃ T x, v = .ref T ∧ H T = none ∧ H' = upd H T (.tup [.int (i : Nat), x]) ∧ ∀ xs, SqT K H a xs → xs[i]? = some x, fun i H => ∃ xs : List V, SqT K H a xs ∧ xs.length ≤ i⟩
theorem tup_apart {h : Heap} {a it : Addr} {i : Nat} {ts : Array Value} (p : IsTup h a ts) (q : h.IsTupleIter it a i) : a ≠ it := fun z => by
  subst z
  obtain ⟨o, ho, hc, _⟩ := p
  obtain ⟨o2, ho2, hc2, _⟩ := q
  rw [ho] at ho2
  cases ho2
  rw [hc] at hc2
  exact absurd hc2 (by decide)
theorem turn_enumT {P : Program} {w : World} {K : PySem.W.Frag} {elts : List Expr} {kk : Nat} {tpos : Pos} (a e it : Addr) : Turn P w K (.Tuple elts kk tpos) (Itn K a) [e, it] e (fun i h => (∃ old, IsEnum h e it ((i : Nat) : Int) old) ∧ h.IsTupleIter it a i ∧ e ≠ it ∧ e ≠ a) where
  mem := List.mem_cons_self
  obj := fun i h st b hb => by
    obtain ⟨⟨old, he⟩, ⟨o, ho, hc, hd⟩, _⟩ := st
    rcases List.mem_cons.mp hb with z | z
    · exact ⟨_, by rw [z]; exact he, fun v q => by cases q⟩
    · exact ⟨o, by rw [List.mem_singleton.mp z]; exact ho, fun v q => by rw [hd] at q; cases q⟩
  keep := fun i h h' st k => by
    obtain ⟨⟨old, he⟩, hi, hne⟩ := st
    exact ⟨⟨old, k e (by simp) _ he⟩, hi.at fun o q => k it (by simp) o q, hne⟩
  item := by
    intro X hP hw hK hc i pins s σ H E I hf st hg
    subst hP hw hK
    obtain ⟨⟨old, he⟩, hit, hne, hnea⟩ := st
    obtain ⟨xs, x, hq, hx⟩ := hg
    obtain ⟨its, rv, p, hz⟩ := I.tuple hq
    have hil : it < s.heap.objs.size := by obtain ⟨_, q, _⟩ := hit; exact Heap.lt_size q
    have hel : e < s.heap.objs.size := Heap.lt_size he
    have hlt : i < its.toArray.size := by
      have := rv.length
      have := (List.getElem?_eq_some_iff.mp hx).1
      rw [List.size_toArray]; omega
    have D := Draws.tuple (prog := X.prog) (w := X.w) (A := X.A.in1) (I.ok.hd hc) it a (tup_apart p hit) its.toArray
    refine wpAny_pyNext_enum_itemD D he ⟨hit, p⟩ hlt hne (by simp [hne, hnea]) fun y h' tk hy ho st' hT hsz hk => ?_
    obtain ⟨u, hu, ru⟩ := rv.get hx
    have ey : y = u := by
      have q : its[i]? = some y := by simpa using hy
      rw [hu] at q
      exact (Option.some.inj q).symm
    subst ey
    refine ⟨_, rfl, wpAny_letOwnedTupleGo_enum (s := { s with heap := h', toks := tk + 1 }) ho fun h'' he' sb => ?_⟩
    have hT2 : h''.get? s.heap.objs.size = some { cls := .type "tuple", data := .seq #[.int i tk, y] } := (sb.2 _ (Nat.ne_of_gt hel)).trans hT
    have new : ObjOk X.prog X.w (upd H s.heap.objs.size (.tup [.int (i : Nat), x])) h'' s.heap.objs.size (.tup [.int (i : Nat), x]) := ⟨by show 2 ≤ sizeLine; decide, [.int i tk, y], .cons ⟨_, rfl⟩ (.cons ru .nil), ⟨_, hT2, rfl, _, rfl⟩⟩
    have I1 : Inv X pins σ (upd H s.heap.objs.size (.tup [.int (i : Nat), x])) { s with heap := h'', toks := tk + 1 } := I.turnedNew (ch := [e, it]) (fun b ob hb q => (sb.2 b (fun z => hb (by simp [z]))).trans (hk b ob (fun z => hb (by simp [z])) (fun z => hb (by simp [z])) q)) hf (Nat.le_refl _) new
    refine ⟨.ref s.heap.objs.size, _, I1, rfl, ⟨_, x, rfl, I.hok.fresh (Nat.le_refl _), rfl, fun ys hy => by rw [I.tuple_inj hy hq]; exact hx⟩, ⟨⟨y, ?_⟩, st'.1.at fun o q => (sb.2 it (Ne.symm hne)).trans q, hne, hnea⟩, fun b hb => ?_⟩
    · rw [show ((i + 1 : Nat) : Int) = (i : Int) + 1 by omega]; exact he'
    · have hb' : b < s.heap.objs.size := by
        rcases List.mem_cons.mp hb with z | z
        · rw [z]; exact hel
        · rw [List.mem_singleton.mp z]; exact hil
      rw [upd_ne (Nat.ne_of_lt hb')]; exact (hf b hb).1
  done := by
    intro X hP hw hK hc i pins s σ H E I hf st hg
    subst hP hw hK
    obtain ⟨⟨old, he⟩, hit, hne, hnea⟩ := st
    obtain ⟨xs, hq, hx⟩ := hg
    obtain ⟨its, rv, p, hz⟩ := I.tuple hq
    obtain ⟨f0, f1, f2, f3, f4, f5⟩ := hf it (by simp)
    have hl := rv.length
    have hT : s.TypeIs (.ref e) "enumerate" := ⟨_, he, rfl⟩
    unfold pyNext
    refine wpAny_bind (wpAny_attempt (wpAny_callSpecial?_slot (name := Str.ofString "__next__") hT F.slot_enumerate_next (wpAny_call_entry F.slot_enumerate_next hT F.entry_enumerate_next ?_ (F.args_enumerate_next_1 _))))
    show wpAny _ _ (field (.ref e) 2 >>= _) _ _ _
    refine wpAny_bind (wpAny_field he rfl (x := .ref it) rfl (wpAny_bind (wpAny_nextOf_tuple_end (I.ok.hd hc) hit p (by simp; omega) fun h' x he' ⟨o, ho, hco⟩ => ?_)))
    exact wpAny_bind (wpAny_isInstance (T := "StopIteration") (b := true) ⟨o, ho, hco⟩ isSubtype_stop (wpAny_pure ⟨rfl, I.turned (t' := s.toks) (fun b o hb q => he' b o hb q) f0 f1 f3 f4 f5⟩))
  self := fun A i s Q E st h => by
    obtain ⟨⟨_, he⟩, _⟩ := st
    exact wpAny_pyIter_enum he h
open AutoSeq1 (wpAny_loadPart') in
theorem meets_enumT (l : Addr) (items : Array Value) (n : Nat) (dct : Option Addr) (sl : Array (Option Value)) :
    Meets (Builtin.«enumerate.__new__» ⟨[.type "enumerate", .ref l], []⟩) (fun _ R s => s.heap.get? l = some { cls := .type "tuple", dict := dct, data := .seq items n, slots := sl } ∧
      R (.ok (.ret (.ref (s.heap.push { cls := .type "tuple_iterator", data := .fields #[.ref l, .int 0 0] }).objs.size)))
        { s with heap := (s.heap.push { cls := .type "tuple_iterator", data := .fields #[.ref l, .int 0 0] }).push { cls := .type "enumerate", data := .fields #[.none, .bool false, .ref s.heap.objs.size, rawInt 0, .none, .none] } }) :=
  .of_wp fun prog w A R s h => by
    obtain ⟨hp, g, d, tk, os⟩ := s; obtain ⟨hl, h⟩ := h; have hsub := sub_enumerate
    have hL : Heap.IsTuple (Shared.heap ⟨hp, g, d, tk, os⟩) l items := ⟨_, hl, rfl, n, rfl⟩
    wp_walk using wpAny_loadPart' hl
    refine wpAny_stack_any fun st => wpAny_pure ?_
    split
    · rename_i c _ _ _ _ _
      cases (c == Value.type "enumerate")
      · wp_walk using wpAny_loadPart' hl, wpAny_pyIter_tuple hL
        exact ⟨_, rfl, h⟩
      · wp_walk using wpAny_loadPart' hl, wpAny_pyIter_tuple hL
        exact ⟨_, rfl, h⟩
    · wp_walk using wpAny_loadPart' hl, wpAny_pyIter_tuple hL
      exact ⟨_, rfl, h⟩
theorem call_enumT {prog : Program} {w : World} {A : Around} {E : Value → Shared → Prop} {s : Shared} {l : Addr} {items : Array Value} {Q : Value → Shared → Prop} (hL : IsTup s.heap l items)
    (h : ∀ h', IsEnum h' (s.heap.objs.size + 1) s.heap.objs.size 0 .none → h'.IsTupleIter s.heap.objs.size l 0 → h'.objs.size = s.heap.objs.size + 2 → (∀ b o, s.heap.get? b = some o → h'.get? b = some o) → Q (.ref (s.heap.objs.size + 1)) { s with heap := h' }) : wpAny (model prog w) A (call (.type "enumerate") [.ref l]) Q E s := by
  obtain ⟨⟨c, dct, dt, sl⟩, hl, hc, n, hd⟩ := hL
  replace hc : c = .type "tuple" := hc
  replace hd : dt = .seq items n := hd
  subst hc hd
  refine callType_new F.called_enumerate (by decide) (F.typeCall_enumerate_1 _) (F.newCall_enumerate_1 _) (fun obj => F.args_object_init_2 obj _) F.entry_enumerate_new (meets_enumT l items n dct sl) ⟨hl, ?_⟩
  have hz : (s.heap.push { cls := .type "tuple_iterator", data := .fields #[.ref l, .int 0 0] }).objs.size = s.heap.objs.size + 1 := Heap.size_push ..
  show _ ∧ _
  rw [hz]
  have he : IsEnum ((s.heap.push { cls := .type "tuple_iterator", data := .fields #[.ref l, .int 0 0] }).push { cls := .type "enumerate", data := .fields #[.none, .bool false, .ref s.heap.objs.size, rawInt 0, .none, .none] }) (s.heap.objs.size + 1) s.heap.objs.size 0 .none := by
    have q := Heap.get?_push_size (s.heap.push { cls := .type "tuple_iterator", data := .fields #[.ref l, .int 0 0] }) (o := { cls := .type "enumerate", data := .fields #[.none, .bool false, .ref s.heap.objs.size, rawInt 0, .none, .none] }) rfl
    rw [hz] at q; exact q
  exact ⟨⟨_, he, rfl⟩, h _ he ⟨_, Heap.get?_push_of_some _ (Heap.get?_push_size _ rfl), rfl, rfl⟩ (by rw [Heap.size_push, hz]) fun b o x => Heap.get?_push_of_some _ (Heap.get?_push_of_some _ x)⟩
def iEnT (K : PySem.W.Frag) (ta : TA) : TI := fun σ H R => ta σ H fun vs H1 => ∃ a xs, vs = [.ref a] ∧ SqT K H1 a xs ∧ R (Itn K a) H1
theorem pi_enumT {X : Cx} {e : Expr} {ta : TA} {p pos tpos : Pos} {elts : List Expr} {kk : Nat} (hg : Gl X "enumerate") (hm : X.mg "enumerate" = none) (ha : PA X [e] ta) (hs : starEach [e] X.env = [(false, eval e X.env)] := by rfl) : PI X (.Tuple elts kk tpos) (.Call (.Name "enumerate" p) [e] [] pos) (iEnT X.K ta) := by
  refine ⟨fun pins s σ H R I h => Call_ (ld_blt I hg hm boot_enumerate (PyProof.Rows.callWith_type1 (thn (ha.run pos pins s σ H _ I h) fun us s1 ⟨vs, H1, I1, r1, q1⟩ => ?_) hs rfl))⟩
  obtain ⟨a, xs, ex, hq, q⟩ := q1
  subst ex
  cases r1 with
  | cons r rr =>
    cases rr
    cases r
    obtain ⟨its, rv, p', hz⟩ := I1.tuple hq
    have hal : a < s1.heap.objs.size := by obtain ⟨_, q, _⟩ := p'; exact Heap.lt_size q
    refine call_enumT p' fun h' he hit hsz hk => wpAny_pyIter_enum he ?_
    refine ⟨s1.heap.objs.size + 1, [s1.heap.objs.size + 1, s1.heap.objs.size], _, _, H1, rfl, I1.kept (t' := s1.toks) hk, turn_enumT a (s1.heap.objs.size + 1) s1.heap.objs.size, ⟨⟨.none, he⟩, hit, Nat.succ_ne_self _, Nat.ne_of_gt (Nat.lt_succ_of_lt hal)⟩, fun b hb => ?_, q⟩
    have hle : s1.heap.objs.size ≤ b := by
      rcases List.mem_cons.mp hb with z | z
      · rw [z]; exact Nat.le_add_right _ _
      · rw [List.mem_singleton.mp z]; exact Nat.le_refl _
    exact I1.fpOk hle (I1.hok.fresh hle)
theorem walk_enumT {K : PySem.W.Frag} {a : Addr} {xs : List V} : Walk (Itn K a) xs.length (fun H => SqT K H a xs) (YPair (fun i => some (.int (i : Nat))) (fun i => xs[i]?)) := by
  refine ⟨fun i _ hi q => ⟨xs, xs[i], q, by simp [hi]⟩, fun _ q => ⟨xs, q, Nat.le_refl _⟩, fun i H v H' _ q ⟨T, x, h1, h2, h3, h4⟩ => ⟨T, .int (i : Nat), x, h1, h2, h3, rfl, h4 xs q⟩⟩
end EN


set_option Elab.async false
set_option linter.all false
set_option maxRecDepth 100000
set_option maxHeartbeats 4000000
namespace EN
open PySem PySem.Spec PyProof.Rows L2
theorem applied_rev2 {prog : Program} {w : World} {A : Around} {E : Value → Shared → Prop} {s : Shared} {sl : Addr} {vl vu vs : Value} {Q : Int × Int × Nat → Shared → Prop} (hs : s.heap.IsSliceOf sl vl vu vs) (pl : IsPart vl none) (pu : IsPart vu none) (ps : IsPart vs (some (-1)))
    (h : Q (1, -1, 2) s) : wpAny (model prog w) A (Builtin.Slice.sliceApplied (.ref sl) (pure ((2 : Nat) : Int))) Q E s := by
  obtain ⟨os, hos, hcs, hds⟩ := id hs
  unfold Builtin.Slice.sliceApplied Builtin.Slice.sliceFields
  refine wpAny_bind (wpAny_bind (wpAny_field hos hds (x := vl) rfl (wpAny_bind (wpAny_field hos hds (x := vu) rfl (wpAny_bind (wpAny_field hos hds (x := vs) rfl (wpAny_pure ?_)))))))
  refine wpAny_bind (HT.slicePart_ ps ?_)
  show wpAny _ _ (if ((-1 : Int) == 0) = true then _ else _) _ _ s
  rw [if_neg (by decide)]
  refine wpAny_bind (HT.slicePart_ pl (wpAny_bind (HT.slicePart_ pu (wpAny_bind (wpAny_pure ?_)))))
  exact wpAny_pure h
theorem getItem_rev2 {prog : Program} {w : World} {A : Around} {E : Value → Shared → Prop} {s : Shared} {t sl : Addr} {x y vl vu vs : Value} {Q : Value → Shared → Prop} (ht : IsTup s.heap t #[x, y]) (hs : s.heap.IsSliceOf sl vl vu vs) (pl : IsPart vl none) (pu : IsPart vu none) (ps : IsPart vs (some (-1)))
    (h : Q (.ref s.heap.objs.size) { s with heap := s.heap.push { cls := .type "tuple", data := .seq #[y, x] } }) : wpAny (model prog w) A (getItem (.ref t) (.ref sl)) Q E s := by
  obtain ⟨os, hos, hcs, hds⟩ := id hs
  have hTs : s.TypeIs (.ref sl) "slice" := ⟨os, hos, hcs⟩
  have htake : sizeOk (.seq #[y, x]) := by show 2 ≤ sizeLine; decide
  unfold getItem
  try with_reducible refine wpAny_holding ?_
  first | refine wpAny_bind (wpAny_pure ?_) | skip
  refine wpAny_bind (wpAny_sequenceKey ht.typeIs (by decide) (wpAny_bind (wpAny_callSpecial?_slot (name := Str.ofString "__getitem__") ht.typeIs PyProof.Rows.slot_tuple_getitem (wpAny_call_entry PyProof.Rows.slot_tuple_getitem ht.typeIs entry_tuple_getitem ?_ (args_tuple_getitem _ _)))))
  show wpAny _ _ (Builtin.Tuple.tupleItemsOf (.ref t) >>= _) _ _ s
  refine wpAny_bind (tupleItemsOf_ ht (wpAny_bind (wpAny_typeOf hTs ?_)))
  rw [if_pos (by decide)]
  refine wpAny_bind (applied_rev2 hs pl pu ps ?_)
  show wpAny _ _ (if ((1 : Int) == 0 && (-1 : Int) == 1 && (2 : Nat) == 2) = true then _ else _) _ _ s
  rw [if_neg (by decide)]
  first
    | exact wpAny_bind (m := Builtin.Tuple.tupleExact _) (wpAny_newObj_type (wpAny_pure ⟨_, rfl, wpAny_pure h⟩) htake)
    | exact wpAny_bind (m := Builtin.Tuple.tupleExact _) (wpAny_newObj_type (wpAny_bind (wpAny_pure (wpAny_pure ⟨_, rfl, wpAny_pure h⟩))) htake)
    | exact wpAny_bind (wpAny_bind (m := Builtin.Tuple.tupleExact _) (wpAny_newObj_type (wpAny_pure (wpAny_pure ⟨_, rfl, wpAny_pure h⟩)) htake))
    | exact wpAny_bind (wpAny_bind (m := Builtin.Tuple.tupleExact _) (wpAny_newObj_type (wpAny_pure ⟨_, rfl, wpAny_pure h⟩) htake))
section
variable {X : Cx}
/-- a pair's [::-1] -/
def tRevP (K : PySem.W.Frag) (te : TE) : TE := fun σ H Q => te σ H fun x H1 => ∃ a u v, x = .ref a ∧ SqT K H1 a [u, v] ∧ ∀ p, H1 p = none → Q (.ref p) (upd H1 p (.tup [v, u]))
theorem pe_revP {e : Expr} {te : TE} {k : Nat} {p1 p2 p3 pos : Pos} (he : PE X e te) : PE X (.Subscript e (.Slice none none (some (.UnaryOp .USub (.Constant (.int 1) k p1) p2)) p3) pos) (tRevP X.K te) := by
  refine ⟨fun pins s σ H Q I h => Subscript_ (thn (he.run pins s σ H _ I h) fun v s1 ⟨x, H1, I1, r1, q1⟩ => ?_)⟩
  obtain ⟨a, u1, u2, ex, hx, q⟩ := q1
  subst ex
  cases r1
  have hst : PO X (some (.UnaryOp .USub (.Constant (.int 1) k p1) p2)) (tPart (tUn (rU fun i => .int (-i)) (tC (.int 1)))) := po_some (pe_un un_neg pe_int)
  refine wpAny_Slice (thn (po_none.run pins s1 σ H1 (fun o H2 => o = none ∧ H2 = H1) I1 ⟨rfl, rfl⟩) fun vl s2 ⟨l, H2, I2, pl, el, e2⟩ => ?_)
  subst el e2
  refine thn (po_none.run pins s2 σ H2 (fun o H3 => o = none ∧ H3 = H2) I2 ⟨rfl, rfl⟩) fun vu s3 ⟨u, H3, I3, pu, eu, e3⟩ => ?_
  subst eu e3
  refine thn (hst.run pins s3 σ H3 (fun o H4 => o = some (-1) ∧ H4 = H3) I3 ⟨1, rfl, -1, rfl, rfl, rfl⟩) fun vs s4 ⟨o, H4, I4, ps, eo, e4⟩ => ?_
  subst eo e4
  have I5 : Inv X pins σ H4 { s4 with heap := s4.heap.push { cls := .type "slice", data := .fields #[vl, vu, vs] } } := I4.kept (t' := s4.toks) fun b ob q => Heap.get?_push_of_some _ q
  obtain ⟨its, r, ht, hz⟩ := I5.tuple hx
  obtain ⟨w1, w2, rfl, r1', r2'⟩ : ∃ w1 w2, its = [w1, w2] ∧ RelV u1 w1 ∧ RelV u2 w2 := by
    cases r with
    | cons a1 b1 =>
      cases b1 with
      | cons a2 b2 =>
        cases b2
        exact ⟨_, _, rfl, a1, a2⟩
  show wpAny (model X.prog X.w) X.A (subscriptTail e (.Slice none none (some (.UnaryOp .USub (.Constant (.int 1) k p1) p2)) p3) (.ref a) (.ref s4.heap.objs.size)) (EP X pins σ Q) X.xe { s4 with heap := s4.heap.push { cls := .type "slice", data := .fields #[vl, vu, vs] } }
  refine tail_any (ops := [.ref a, .ref s4.heap.objs.size]) ht.typeIs (PyProof.Rows.slot_tuple_getitem.lookup) ?_ (by with_unfolding_all rfl)
  refine getItem_rev2 ht (Heap.IsSliceOf.new _ vl vu vs) pl pu ps ?_
  refine ⟨.ref _, _, I5.laid (t' := s4.toks) (o := .tup [u2, u1]) (fun b ob q => Heap.get?_push_of_some _ q) (Nat.le_refl _) ?_, rfl, q _ (I5.hok.fresh (Nat.le_refl _))⟩
  exact ⟨by show 2 ≤ sizeLine; decide, [w2, w1], .cons r2' (.cons r1' .nil), IsTup.new _ _⟩
end
end EN


set_option Elab.async false
set_option linter.all false
set_option maxRecDepth 100000
set_option maxHeartbeats 4000000
namespace CT
open PySem L2 PG OW
abbrev sReq : Stmt := PG.top 18
abbrev sAll : Stmt := PG.top 21
abbrev sTot : Stmt := PG.top 22
abbrev sKnown : Stmt := PG.top 23
abbrev sIsC : Stmt := PG.top 24
abbrev sCnt : Stmt := PG.top 25
abbrev sPart : Stmt := PG.top 26
def tag (t : Str) (ws : List Str) : List (List Str) := ws.map fun x => [t, x]
def allC (d : PD) : List (List Str) := tag "way" (keysL d.ls) ++ (tag "place" d.ps ++ (tag "stop" d.fs ++ [[("runs" : Str)]]))
structure PDsz (d : PD) : Prop where
  l : d.ls.length ≤ 40
  p : d.ps.length ≤ 64
  f : d.fs.length ≤ 64
theorem tag_snoc {t : Str} {ws : List Str} {i : Nat} {x : Str} (h : ws[i]? = some x) : tag t (ws.take (i + 1)) = tag t (ws.take i) ++ [[t, x]] := by
  unfold tag
  rw [List.take_add_one, h, List.map_append]
  rfl
theorem tag_len (t : Str) (ws : List Str) : (tag t ws).length = ws.length := List.length_map _
theorem tup_lst {K : PySem.W.Frag} {H : Hp} {D : Addr} {xs : List V} {o : HO} {v : V} {b : List Str} (hD : H D = some (.lst xs)) (h : TupT K H v b) : TupT K (upd H D o) v b := by
  obtain ⟨t, e, h⟩ := h
  exact ⟨t, e, sqT_at h (.inr ⟨_, hD, (by intro l z; cases z), by intro od l z; cases z⟩)⟩
theorem paired_app {α β : Type} {R : α → β → Prop} : ∀ {xs us : List α} {ys vs : List β}, Paired R xs ys → Paired R us vs → Paired R (xs ++ us) (ys ++ vs)
  | _, _, _, _, .nil, h => h
  | _, _, _, _, .cons r rs, h => .cons r (paired_app rs h)
/-- the module's RUNS -/
def RunT (K : PySem.W.Frag) (mg : Str → Option Value) : Prop := ∃ a, mg "RUNS" = some (.ref a) ∧ ∀ H : Hp, SqT K H a [.str "runs"]
section
variable {P : Program} {w : World} {K : PySem.W.Frag} {mg : Str → Option Value} {base : Heap}
theorem scReq : FnScope ["program"] ["program"] (defScope sReq) := ⟨rfl, rfl, rfl, by decide +kernel, rfl, by decide +kernel, by decide +kernel⟩
def spReq (K : PySem.W.Frag) (C : Addr) : Sp := fun vs H Q _ => ∃ (x dx L S F : Addr) (d : PD), vs = [.ref x] ∧ ProgAt K C H x dx L S F d ∧ Q .non H
theorem ok_req {f C : Addr} {fd : FuncData} (Fn : Fun K "require_program" "require_program" sReq f fd) (T : PT0 mg) (Tc : PTc K mg C) (Tt : PTt K C) : FnOk P w K mg base CX0 1 f fd ["program"] (spReq K C) := by
  refine Fn.ok scReq (fun vs H Q E h => ?_) (fun cdv A outer s H vs Q E hr h => ?_)
  · obtain ⟨x, dx, L, S, F, d, rfl, _⟩ := h
    rfl
  · obtain ⟨x, dx, L, S, F, d, rfl, h, k⟩ := h
    refine ⟨_, pss_one (ps_if (pt_not (pt_val (pe_callB call_isi (by rfl) T.isi PyProof.Rows.boot_isinstance (pa_cons (pv 0) (pa_cons (pe_glob (v := .ref C) (by rfl) Tc.gC rfl) pa_nil))))) pss_dead pss_nil), ?_⟩
    refine ⟨_, rfl, .ref x, .ref C, _, _, true, rfl, .own C, .base (.ins h.ins Tc.cl Tt.ha Tt.hn Tt.htk Tt.hm), ?_, _, rfl, iteNF k⟩
    unfold PySem.W.kitOne
    rw [if_pos (beq_self_eq_true _)]
/-! ### all_counters -/
abbrev nsAll : List Str := ["program", "ways", "places", "stops", "way", "place"]
theorem scAll : FnScope nsAll ["program"] (defScope sAll) := ⟨rfl, rfl, rfl, by decide +kernel, rfl, by decide +kernel, by decide +kernel⟩
def spAllC (K : PySem.W.Frag) (C : Addr) : Sp := fun vs H Q _ => ∃ (x dx L S F : Addr) (d : PD), vs = [.ref x] ∧ ProgAt K C H x dx L S F d ∧ PDsz d ∧ ∀ (p : Addr) (H' : Hp) (us : List V), H p = none → Same H H' → H' p = some (.lst us) → TupLs K H' us (allC d) → Q (.ref p) H'
/-- [("tag", x) for x in words] -/
theorem rd_tag {H : Hp} {a D : Addr} {ws : List Str} {tg : Str} {i : Nat} {σ : L2.St} {Qd : Hp → Prop} (ha : H a = some (.lst (ws.map V.str))) (hz : ws.length ≤ 64) (nD : H D = none) (hi : ∀ v, ((wipe σ [i]).set i (some v))[i]? = some (some v)) (hw : ∀ v, wipe ((wipe σ [i]).set i (some v)) [i] = wipe σ [i])
    (k : ∀ H' us, Same H H' → H' D = some (.lst us) → TupLs K H' us (tag tg ws) → Qd H') :
    ∃ W : Nat → Nat → Hp → Prop, (∃ m, W 0 m (upd H D (.lst []))) ∧ ∀ j m H, W j m H →
      ((Itl K a).stop j H ∧ Qd H) ∨ ((Itl K a).go j H ∧ ∃ Nx : Hp → Prop, (∀ H', Nx H' → ∃ m', m' < m ∧ W (j + 1) m' H') ∧ ∀ x H', (Itl K a).yld j H x H' → gName i x (wipe σ [i]) H' fun σ2 H2 => wipe σ2 [i] = wipe σ [i] ∧ tYes σ2 H2 fun b H3 =>
        if b = true then tTup (tCons (tC (V.str tg)) (tCons (tVar i) tNil)) σ2 H3 fun y H4 => ∃ acc, H4 D = some (.lst acc) ∧ acc.length < sizeLine ∧ Nx (upd H4 D (.lst (acc ++ [y]))) else Nx H3) := by
  refine lc_rel walk_list nD (TupT K) (fun s h => h.same s) (fun hD h => tup_lst hD h) (fun j => tag tg (ws.take j)) rfl (fun j _ => by rw [tag_len]; exact Nat.le_trans (List.length_take_le' j ws) (by omega)) (fun H' s => SqL.of (s _ _ ha)) ?_ (fun H' ts s h r => k H' ts s h (by rw [List.length_map, List.take_length] at r; exact r))
  rintro j v H1 H2 Pn hj s1 ⟨rfl, ev⟩ fin skip
  obtain ⟨x, hx, rfl⟩ : ∃ x, ws[j]? = some x ∧ v = .str x := by
    rw [List.getElem?_map] at ev
    cases e : ws[j]? with
    | none => rw [e] at ev; cases ev
    | some x => rw [e] at ev; exact ⟨x, rfl, (Option.some.inj ev).symm⟩
  refine ⟨hw _, ?_⟩
  unfold tYes
  dsimp only
  rw [if_pos rfl]
  refine ⟨_, hi _, by show 2 ≤ sizeLine; decide, fun q nq => ?_⟩
  exact fin _ _ [tg, x] (sm nq) ⟨q, rfl, SqT.of upd_same⟩ (tag_snoc hx)
theorem ok_all {f C fR gW gP gE : Addr} {fd fdR fdW fdP fdE : FuncData} (Fn : Fun K "all_counters" "all_counters" sAll f fd) (RT : RunT K mg) (T : PT0 mg) (Tc : PTc K mg C) (FR : Fun K "require_program" "require_program" sReq fR fdR) (bR : Binds K fdR ["program"] []) (gR : mg "require_program" = some (.ref fR)) (GR : FnOk P w K mg base CX0 1 fR fdR ["program"] (spReq K C))
    (mW : Meth K C "ways" gW) (bW : Binds K fdW ["self"] []) (GW : FnOk P w K mg base CX0 1 gW fdW ["self"] (spList K C fun d => keysL d.ls)) (mP : Meth K C "places" gP) (bP : Binds K fdP ["self"] []) (GP : FnOk P w K mg base CX0 1 gP fdP ["self"] (spList K C fun d => d.ps)) (mE : Meth K C "exits" gE) (bE : Binds K fdE ["self"] []) (GE : FnOk P w K mg base CX0 1 gE fdE ["self"] (spList K C fun d => d.fs)) : FnOk P w K mg base CX0 2 f fd ["program"] (spAllC K C) := by
  refine Fn.ok scAll (fun vs H Q E h => ?_) (fun cdv A outer s H vs Q E hr h => ?_)
  · obtain ⟨x, dx, L, S, F, d, rfl, _⟩ := h
    rfl
  · obtain ⟨x, dx, L, S, F, d, rfl, h, z, k⟩ := h
    have nd := scAll.nd
    obtain ⟨t, gT, hT⟩ := RT
    refine ⟨_, pss_cons (ps_expr (pe_call GR hr (by rfl) gR FR.kp bR .nil pass0 (pa_cons (pv 0) pa_nil)))
      (pss_cons (ps_setLc (i := 1) (own := [("way", 4)]) (g := gName 4) (tt := tYes) rfl nd rfl rfl (sw_true rfl rfl rfl (by decide +kernel)) (pi_list (pe_meth0 (pv 0) Tc.cl mW GW hr bW .nil pass0)) (blkOk_by (own := [("way", 4)]) (N := nsAll) (sc := defScope sAll) (by decide +kernel)) (fun _ _ _ _ _ => pg_name (i := 4) nd rfl (Or.inl rfl)) (fun _ _ _ _ _ => pts_nil) (fun _ _ _ _ _ => pe_tup (pa_cons pe_str (pa_cons (pv 4) pa_nil))))
      (pss_cons (ps_setLc (i := 2) (own := [("place", 5)]) (g := gName 5) (tt := tYes) rfl nd rfl rfl (sw_true rfl rfl rfl (by decide +kernel)) (pi_list (pe_meth0 (pv 0) Tc.cl mP GP hr bP .nil pass0)) (blkOk_by (own := [("place", 5)]) (N := nsAll) (sc := defScope sAll) (by decide +kernel)) (fun _ _ _ _ _ => pg_name (i := 5) nd rfl (Or.inl rfl)) (fun _ _ _ _ _ => pts_nil) (fun _ _ _ _ _ => pe_tup (pa_cons pe_str (pa_cons (pv 5) pa_nil))))
      (pss_cons (ps_setLc (i := 3) (own := [("place", 5)]) (g := gName 5) (tt := tYes) rfl nd rfl rfl (sw_true rfl rfl rfl (by decide +kernel)) (pi_list (pe_meth0 (pv 0) Tc.cl mE GE hr bE .nil pass0)) (blkOk_by (own := [("place", 5)]) (N := nsAll) (sc := defScope sAll) (by decide +kernel)) (fun _ _ _ _ _ => pg_name (i := 5) nd rfl (Or.inl rfl)) (fun _ _ _ _ _ => pts_nil) (fun _ _ _ _ _ => pe_tup (pa_cons pe_str (pa_cons (pv 5) pa_nil))))
      (pss_one (ps_ret (pe_lst (StX.pa_star (pv 1) (StX.pa_star (pv 2) (StX.pa_star (pv 3) (pa_cons (pe_glob (v := .ref t) (by rfl) gT rfl) pa_nil)))))))))), ?_⟩
    refine ⟨_, rfl, x, dx, L, S, F, d, rfl, h, ?_⟩
    refine ⟨_, rfl, x, dx, _, rfl, h.ins, rfl, x, dx, L, S, F, d, rfl, h, fun p1 np1 => ?_⟩
    have kz : (keysL d.ls).length ≤ 64 := by
      have e : (keysL d.ls).length = d.ls.length := List.length_map _
      have := z.l
      omega
    have s1 : Same H (upd H p1 (.lst ((keysL d.ls).map V.str))) := sm np1
    refine ⟨p1, rfl, ⟨_, SqL.of (xs := (keysL d.ls).map V.str) upd_same⟩, fun D1 nD1 => rd_tag (ws := keysL d.ls) upd_same kz nD1 (fun v => rfl) (fun v => rfl) fun H2 u1 s2 hD1 r1 => ?_⟩
    have s02 := s1.trans s2
    have h2 := h.same s02
    refine ⟨_, rfl, x, dx, _, rfl, h2.ins, rfl, x, dx, L, S, F, d, rfl, h2, fun p2 np2 => ?_⟩
    refine ⟨p2, rfl, ⟨_, SqL.of (xs := d.ps.map V.str) upd_same⟩, fun D2 nD2 => rd_tag (ws := d.ps) upd_same z.p nD2 (fun v => rfl) (fun v => rfl) fun H3 u2 s3 hD2 r2 => ?_⟩
    have s23 : Same H2 H3 := (sm np2).trans s3
    have h3 := h2.same s23
    refine ⟨_, rfl, x, dx, _, rfl, h3.ins, rfl, x, dx, L, S, F, d, rfl, h3, fun p3 np3 => ?_⟩
    refine ⟨p3, rfl, ⟨_, SqL.of (xs := d.fs.map V.str) upd_same⟩, fun D3 nD3 => rd_tag (ws := d.fs) upd_same z.f nD3 (fun v => rfl) (fun v => rfl) fun H4 u3 s4 hD3 r3 => ?_⟩
    have s34 : Same H3 H4 := (sm np3).trans s4
    have l1 : u1.length ≤ 64 := by rw [Paired.length r1, tag_len]; exact kz
    have l2 : u2.length ≤ 64 := by rw [Paired.length r2, tag_len]; exact z.p
    have l3 : u3.length ≤ 64 := by rw [Paired.length r3, tag_len]; exact z.f
    refine ⟨_, rfl, D1, u1, rfl, .inr (SqL.of (s34 _ _ (s23 _ _ hD1))), _, rfl, D2, u2, rfl, .inr (SqL.of (s34 _ _ hD2)), _, rfl, D3, u3, rfl, .inr (SqL.of hD3), ⟨?_, fun p np => ?_⟩⟩
    · rw [List.length_append, List.length_append, List.length_append, sizeLine_eq]
      show u1.length + (u2.length + (u3.length + 1)) ≤ _
      omega
    · have s6 := sm (o := .lst (u1 ++ (u2 ++ (u3 ++ [V.ref t])))) np
      have sA := s34.trans s6
      refine k p _ _ ?_ (s02.trans (s23.trans sA)) upd_same ?_
      · cases q : H p with
        | none => rfl
        | some o => rw [s34 _ _ (s23 _ _ (s02 _ _ q))] at np; cases np
      · refine paired_app (TupLs.same r1 (s23.trans sA)) (paired_app (TupLs.same r2 sA) (paired_app (TupLs.same r3 s6) (.cons (b := [("runs" : Str)]) ⟨t, rfl, hT _⟩ .nil)))
end
end CT


set_option Elab.async false
set_option linter.all false
set_option maxRecDepth 100000
set_option maxHeartbeats 4000000
namespace CT
open PySem L2 PG OW
section
variable {P : Program} {w : World} {K : PySem.W.Frag} {mg : Str → Option Value} {base : Heap}
/-- isinstance(v, str) -/
def ItS (K : PySem.W.Frag) (H : Hp) (v : V) (b : Bool) : Prop := (∃ x, v = .str x ∧ b = true) ∨ (∃ t, TyX K H v t ∧ PySem.W.kitOne K t (.type "str") = some false ∧ b = false)
theorem ItS.same {H H' : Hp} {v : V} {b : Bool} (h : ItS K H v b) (s : Same H H') : ItS K H' v b := by
  rcases h with h | ⟨t, ht, q⟩
  · exact .inl h
  · exact .inr ⟨t, TyX.same ht s, q⟩
theorem its_strs {H : Hp} : ∀ c : List Str, Paired (ItS K H) (c.map V.str) (c.map fun _ => true)
  | [] => .nil
  | x :: c => .cons (.inl ⟨x, rfl, rfl⟩) (its_strs c)
/-- what is_known is asked of -/
inductive KnV (K : PySem.W.Frag) (H : Hp) : V → Option (List Str) → Prop where
  | txt {v : V} {c : List Str} (h : TupT K H v c) (ok : TxOkk c) (l : c.length ≤ 1000) : KnV K H v (some c)
  | no {v : V} {t : Value} (h : TyX K H v t) (k : PySem.W.kitOne K t (.type "tuple") = some false) : KnV K H v none
  | odd {t : Addr} {xs : List V} {bs : List Bool} (h : SqT K H t xs) (l : xs.length ≤ 1000) (p : Paired (ItS K H) xs bs) (a : bs.all id = false) : KnV K H (.ref t) none
theorem KnV.same {H H' : Hp} {v : V} {o : Option (List Str)} (h : KnV K H v o) (s : Same H H') : KnV K H' v o := by
  cases h with
  | txt h ok l => exact .txt (h.same s) ok l
  | no h k => exact .no (TyX.same h s) k
  | odd h l p a => exact .odd (sqT_same h s) l (Paired.imp (fun _ _ q => q.same s) p) a
def knB (cs : List (List Str)) : Option (List Str) → Bool
  | some c => decide (c ∈ cs)
  | none => false
abbrev nsTot : List Str := ["value", "part"]
theorem scTot : FnScope nsTot ["value"] (defScope sTot) := ⟨rfl, rfl, rfl, by decide +kernel, rfl, by decide +kernel, by decide +kernel⟩
def spTot (K : PySem.W.Frag) : Sp := fun vs H Q _ => ∃ (v : V) (o : Option (List Str)), vs = [v] ∧ KnV K H v o ∧ ∀ H', Same H H' → Q (.bl o.isSome) H'
abbrev nsKnown : List Str := ["value", "known"]
theorem scKnown : FnScope nsKnown ["value", "known"] (defScope sKnown) := ⟨rfl, rfl, rfl, by decide +kernel, rfl, by decide +kernel, by decide +kernel⟩
def spKnown (K : PySem.W.Frag) : Sp := fun vs H Q _ => ∃ (v : V) (a : Addr) (us : List V) (cs : List (List Str)) (o : Option (List Str)), vs = [v, .ref a] ∧ SqL K H a us ∧ TupLs K H us cs ∧ CsOk cs ∧ KnV K H v o ∧ ∀ H', Same H H' → Q (.bl (knB cs o)) H'
/-- the walk over the parts -/
theorem rd_parts {H : Hp} {t D : Addr} {xs : List V} {bs : List Bool} {σ : L2.St} {i : Nat} {Qd : Hp → Prop} {te : TE} (h : SqT K H t xs) (l : xs.length ≤ 1000) (p : Paired (ItS K H) xs bs) (nD : H D = none) (hw : ∀ v, wipe ((wipe σ [i]).set i (some v)) [i] = wipe σ [i])
    (he : ∀ (v : V) (b : Bool) (H2 : Hp) (Q : VK), ItS K H2 v b → Q (.bl b) H2 → te ((wipe σ [i]).set i (some v)) H2 Q)
    (k : ∀ H', Same H H' → H' D = some (.lst (bs.map V.bl)) → Qd H') :
    ∃ W : Nat → Nat → Hp → Prop, (∃ m, W 0 m (upd H D (.lst []))) ∧ ∀ j m H, W j m H →
      ((Itt K t).stop j H ∧ Qd H) ∨ ((Itt K t).go j H ∧ ∃ Nx : Hp → Prop, (∀ H', Nx H' → ∃ m', m' < m ∧ W (j + 1) m' H') ∧ ∀ x H', (Itt K t).yld j H x H' → gName i x (wipe σ [i]) H' fun σ2 H2 => wipe σ2 [i] = wipe σ [i] ∧ tYes σ2 H2 fun b H3 =>
        if b = true then te σ2 H3 fun y H4 => ∃ acc, H4 D = some (.lst acc) ∧ acc.length < sizeLine ∧ Nx (upd H4 D (.lst (acc ++ [y]))) else Nx H3) := by
  have lb : xs.length = bs.length := Paired.length p
  refine lc_keep (walk_tup (xs := xs)) nD (fun j => (bs.take j).map V.bl) rfl (fun j _ => by rw [List.length_map]; exact Nat.le_trans (List.length_take_le' j bs) (by omega)) (fun H' s => sqT_same h s) ?_ (fun H' s hD => k H' s (by rw [lb, List.take_length] at hD; exact hD))
  rintro j v H1 H2 Pn hj s1 ⟨rfl, ev⟩ fin skip
  obtain ⟨b, hb, q⟩ := paired_at p ev
  refine ⟨hw _, ?_⟩
  unfold tYes
  dsimp only
  rw [if_pos rfl]
  refine he v b H2 _ (q.same s1) (fin H2 _ (Same.refl _) ?_)
  rw [List.take_add_one, hb, List.map_append]
  rfl
theorem ok_tot {f : Addr} {fd : FuncData} (Fn : Fun K "is_tuple_of_texts" "is_tuple_of_texts" sTot f fd) (T : PT0 mg) : FnOk P w K mg base CX0 1 f fd ["value"] (spTot K) := by
  refine Fn.ok scTot (fun vs H Q E h => ?_) (fun cdv A outer s H vs Q E hr h => ?_)
  · obtain ⟨v, o, rfl, _⟩ := h
    rfl
  · obtain ⟨v, o, rfl, hv, k⟩ := h
    have nd := scTot.nd
    refine ⟨_, pss_one (ps_ret (pe_and (pe_callB call_isi (by rfl) T.isi PyProof.Rows.boot_isinstance (pa_cons (pv 0) (pa_cons (pe_bltn (v := .ty "tuple") rfl T.tuple (by decide +kernel) rfl) pa_nil)))
        (pe_one (pe_callB (cr_all rfl) (by rfl) T.all PyProof.Rows.boot_all (pa_cons (pe_lc (own := [("part", 1)]) (g := gName 1) (tt := tYes) rfl nd (pi_tup (pv 0)) (blkOk_by (own := [("part", 1)]) (N := nsTot) (sc := defScope sTot) (by decide +kernel)) (fun _ _ _ _ _ => pg_name (i := 1) nd rfl (Or.inl rfl)) (fun _ _ _ _ _ => pts_nil)
          (fun _ _ _ _ _ => pe_callB (show CallR _ _ (rIsi K) from call_isi) (by rfl) T.isi PyProof.Rows.boot_isinstance (pa_cons (pv 1) (pa_cons (pe_bltn (v := .ty "str") (by rfl) T.str (by decide +kernel) rfl) pa_nil)))) pa_nil))))), ?_⟩
    have ge : ∀ (v0 : V) (bb : Bool) (H2 : Hp) (Q2 : VK), ItS K H2 v0 bb → Q2 (.bl bb) H2 → ∃ x c t u b, [v0, V.ty "str"] = [x, c] ∧ ClsV c u ∧ TyX K H2 x t ∧ PySem.W.kitOne K t u = some b ∧ Q2 (.bl b) H2 := fun v0 bb H2 Q2 i q => by
      rcases i with ⟨x, rfl, rfl⟩ | ⟨t, ht, hk, rfl⟩
      · exact ⟨_, _, _, _, true, rfl, .ty "str", .base (.str x), kit_ty (by decide +kernel), q⟩
      · exact ⟨_, _, _, _, false, rfl, .ty "str", ht, hk, q⟩
    cases hv with
    | no ht hk => exact ⟨_, rfl, v, .ty "tuple", _, _, false, rfl, .ty "tuple", ht, hk, _, rfl, iteF (k H (Same.refl H))⟩
    | @odd t xs bs ht l p al =>
      refine ⟨_, rfl, .ref t, .ty "tuple", _, _, true, rfl, .ty "tuple", tyx_tup ht, kit_ty (by decide +kernel), _, rfl, iteT ?_⟩
      refine ⟨_, rfl, t, rfl, ⟨_, ht⟩, fun D nD => rd_parts ht l p nD (fun v => rfl) (fun v0 bb H2 Q2 i q => ?_) fun H' s' hD => ⟨D, bs, rfl, SqL.of hD, ?_⟩⟩
      · exact ⟨_, rfl, ge v0 bb H2 Q2 i q⟩
      · rw [al]
        exact k H' s'
    | @txt _ c h ok l =>
      obtain ⟨t, rfl, ht⟩ := h
      refine ⟨_, rfl, .ref t, .ty "tuple", _, _, true, rfl, .ty "tuple", tyx_tup ht, kit_ty (by decide +kernel), _, rfl, iteT ?_⟩
      refine ⟨_, rfl, t, rfl, ⟨_, ht⟩, fun D nD => rd_parts ht (by rw [List.length_map]; exact l) (its_strs c) nD (fun v => rfl) (fun v0 bb H2 Q2 i q => ?_) fun H' s' hD => ⟨D, _, rfl, SqL.of hD, ?_⟩⟩
      · exact ⟨_, rfl, ge v0 bb H2 Q2 i q⟩
      · have al : (c.map fun _ => true).all id = true := by rw [List.all_map]; exact List.all_eq_true.mpr fun _ _ => rfl
        rw [al]
        exact k H' s'
theorem ok_known {f fT : Addr} {fd fdT : FuncData} (Fn : Fun K "is_known" "is_known" sKnown f fd) (kT : PySem.W.keepIn K (.ref fT) = true) (bT : Binds K fdT ["value"] []) (gT : mg "is_tuple_of_texts" = some (.ref fT)) (GT : FnOk P w K mg base CX0 1 fT fdT ["value"] (spTot K)) : FnOk P w K mg base CX0 2 f fd ["value", "known"] (spKnown K) := by
  refine Fn.ok scKnown (fun vs H Q E h => ?_) (fun cdv A outer s H vs Q E hr h => ?_)
  · obtain ⟨v, a, us, cs, o, rfl, _⟩ := h
    rfl
  · obtain ⟨v, a, us, cs, o, rfl, ha, hu, oc, hv, k⟩ := h
    have hun := room66 hr
    refine ⟨_, pss_one (ps_ret (pe_and (pe_call GT hr (by rfl) gT kT bT .nil pass0 (pa_cons (pv 0) pa_nil)) (pe_one (pe_cmpR (op_inC (Nat.lt_of_succ_lt hun)) (pv 0) (pv 1) rfl)))), ?_⟩
    refine ⟨_, rfl, v, o, rfl, hv, fun H1 s1 => ⟨_, rfl, ?_⟩⟩
    cases hv with
    | no ht hk => exact iteF (k H1 s1)
    | odd ht l p al => exact iteF (k H1 s1)
    | @txt _ c h ok l => exact iteT ⟨_, rfl, _, rfl, c, a, us, cs, h.same s1, rfl, s1.seq ha, TupLs.same hu s1, ok, oc, k H1 s1⟩
end
end CT


set_option Elab.async false
set_option linter.all false
set_option maxRecDepth 100000
set_option maxHeartbeats 4000000
namespace CT
open PySem L2 PG OW
structure PDg (d : PD) : Prop where
  ok : PDok d
  sz : PDsz d
  cok : CsOk (allC d)
  nd : (allC d).Nodup
  sm : ∀ c ∈ allC d, c.length ≤ 1000
  few : (allC d).length ≤ 200
  eqr : eqPD d d = true
/-- the def's last parameter gathers what is left -/
def spStar (n : Nat) (sp : Sp) : Sp := fun vs H Q E => ∃ ws rest, vs = ws ++ rest ∧ ws.length = n ∧ rest.length ≤ sizeLine ∧ ∀ p, H p = none → sp (ws ++ [V.ref p]) (upd H p (.tup rest)) Q E
section
variable {P : Program} {w : World} {K : PySem.W.Frag} {mg : Str → Option Value} {base : Heap}
theorem starOk {x qual : Str} {st : Stmt} {f : Addr} {fd : FuncData} {N ps : List Str} {pv : Str} {k : Nat} {sp : Sp} (F : Fun K x qual st f fd) (S : FnScope N (ps ++ [pv]) (defScope st))
    (hb : ∀ (kV doc pm : Value) (an : Option Addr) (cdv ct : Value) (us rest : List Value), us.length = ps.length → bindArgs (PySem.W.fnOf x qual (defArgs st) (defBody st) (defScope st) .none kV doc pm an cdv ct) ⟨us ++ rest, []⟩ = (newTuple rest >>= fun t => pure (ps.zip us ++ [(pv, t)])))
    (hbody : ∀ (cdv : Value) (A : Around) (outer : List Env) (s : Shared) (H : Hp) (vs : List V) (Q : VK) (E : XK), Room k (A.deeper (PyProof.Rows.envOfC qual (defScope st) s.heap.objs.size f cdv)) → sp vs H Q E →
      ∃ t, PSs (cxOf CX0 P w K mg base N qual (defScope st) f cdv A outer s H E).nox (defBody st) t ∧ t { nx := fun _ H' => Q .non H', rt := Q } (start N vs) H) : FnR P w K mg base CX0 (k + 1) f (spStar ps.length sp) := by
  obtain ⟨oc, od, kV, doc, pm, an, cdv, ct, osl, rfl, lk, hcd⟩ := F.ex
  refine StX.fn_star lk hcd S StX.cxUp_none (hb kV doc pm an cdv ct) fun A outer s H vs Q E hr hsp => ?_
  obtain ⟨t, h, q⟩ := hbody cdv A outer s H vs Q E hr hsp
  exact ⟨t, h.nox, q⟩
/-! ### is_counter -/
theorem scIsC : FnScope ["program", "value"] ["program", "value"] (defScope sIsC) := ⟨rfl, rfl, rfl, by decide +kernel, rfl, by decide +kernel, by decide +kernel⟩
def spIsC (K : PySem.W.Frag) (C : Addr) : Sp := fun vs H Q _ => ∃ (x dx L S F : Addr) (d : PD) (v : V) (o : Option (List Str)), vs = [.ref x, v] ∧ ProgAt K C H x dx L S F d ∧ PDg d ∧ KnV K H v o ∧ ∀ H', Same H H' → Q (.bl (knB (allC d) o)) H'
theorem ok_isC {f C fK fA : Addr} {fd fdK fdA : FuncData} (Fn : Fun K "is_counter" "is_counter" sIsC f fd) (FK : Fun K "is_known" "is_known" sKnown fK fdK) (bK : Binds K fdK ["value", "known"] []) (gK : mg "is_known" = some (.ref fK)) (GK : FnOk P w K mg base CX0 2 fK fdK ["value", "known"] (spKnown K))
    (FA : Fun K "all_counters" "all_counters" sAll fA fdA) (bA : Binds K fdA ["program"] []) (gA : mg "all_counters" = some (.ref fA)) (GA : FnOk P w K mg base CX0 2 fA fdA ["program"] (spAllC K C)) : FnOk P w K mg base CX0 3 f fd ["program", "value"] (spIsC K C) := by
  refine Fn.ok scIsC (fun vs H Q E h => ?_) (fun cdv A outer s H vs Q E hr h => ?_)
  · obtain ⟨x, dx, L, S, F, d, v, o, rfl, _⟩ := h
    rfl
  · obtain ⟨x, dx, L, S, F, d, v, o, rfl, h, g, hv, k⟩ := h
    refine ⟨_, pss_one (ps_ret (pe_call GK (hr.mono (by decide)) (by rfl) gK FK.kp bK .nil pass0 (pa_cons (pv 1) (pa_cons (pe_call GA hr (by rfl) gA FA.kp bA .nil pass0 (pa_cons (pv 0) pa_nil)) pa_nil)))), ?_⟩
    refine ⟨_, rfl, _, rfl, x, dx, L, S, F, d, rfl, h, g.sz, fun p H1 us np s1 hp hus => ?_⟩
    exact ⟨v, p, us, allC d, o, rfl, SqL.of hp, hus, g.cok, hv.same s1, fun H2 s2 => k H2 (s1.trans s2)⟩
/-! ### Counters -/
/-- [c for c in .. if p c] -/
theorem rd_sel {H : Hp} {a D : Addr} {us : List V} {cs : List (List Str)} {i : Nat} {σ : L2.St} {tt : TT} {Qd : Hp → Prop} (p : List Str → Bool) (ha : SqL K H a us) (hu : TupLs K H us cs) (hz : cs.length ≤ 1000) (nD : H D = none) (hi : ∀ v, ((wipe σ [i]).set i (some v))[i]? = some (some v)) (hw : ∀ v, wipe ((wipe σ [i]).set i (some v)) [i] = wipe σ [i])
    (ht : ∀ (j : Nat) (c : List Str) (v : V) (H2 : Hp) (Q : Bool → Hp → Prop), Same H H2 → cs[j]? = some c → TupT K H2 v c → (∀ H3, Same H2 H3 → Q (p c) H3) → tt ((wipe σ [i]).set i (some v)) H2 Q)
    (k : ∀ H' ts, Same H H' → H' D = some (.lst ts) → TupLs K H' ts (cs.filter p) → Qd H') :
    ∃ W : Nat → Nat → Hp → Prop, (∃ m, W 0 m (upd H D (.lst []))) ∧ ∀ j m H, W j m H →
      ((Itl K a).stop j H ∧ Qd H) ∨ ((Itl K a).go j H ∧ ∃ Nx : Hp → Prop, (∀ H', Nx H' → ∃ m', m' < m ∧ W (j + 1) m' H') ∧ ∀ x H', (Itl K a).yld j H x H' → gName i x (wipe σ [i]) H' fun σ2 H2 => wipe σ2 [i] = wipe σ [i] ∧ tt σ2 H2 fun b H3 =>
        if b = true then tVar i σ2 H3 fun y H4 => ∃ acc, H4 D = some (.lst acc) ∧ acc.length < sizeLine ∧ Nx (upd H4 D (.lst (acc ++ [y]))) else Nx H3) := by
  have lk : us.length = cs.length := Paired.length hu
  refine lc_rel (walk_list (xs := us)) nD (TupT K) (fun s h => h.same s) (fun hD h => tup_lst hD h) (fun j => (cs.take j).filter p) rfl (fun j _ => Nat.le_trans (List.length_filter_le _ _) (Nat.le_trans (List.length_take_le' j cs) hz)) (fun H' s => s.seq ha) ?_ (fun H' ts s h r => k H' ts s h (by rw [lk, List.take_length] at r; exact r))
  rintro j v H1 H2 Pn hj s1 ⟨rfl, ev⟩ fin skip
  obtain ⟨c, hc, tc⟩ := paired_at hu ev
  have tc2 := tc.same s1
  refine ⟨hw _, ht j c v H2 _ s1 hc tc2 fun H3 s3 => iteB (fun e => ?_) (fun e => ?_)⟩
  · refine ⟨v, hi v, fin H3 v c s3 (tc2.same s3) ?_⟩
    rw [List.take_add_one, hc, List.filter_append]
    show _ ++ List.filter p [c] = _
    rw [List.filter_cons_of_pos e]
    rfl
  · refine skip H3 s3 ?_
    rw [List.take_add_one, hc, List.filter_append]
    show _ ++ List.filter p [c] = _
    rw [List.filter_cons_of_neg (by rw [e]; exact Bool.false_ne_true)]
    exact List.append_nil _
theorem cutV_to (xs : List V) (k : Nat) : cutV xs none (some (k : Int)) = xs.take k := by
  unfold cutV
  rw [_root_.HT.sIx_nat, _root_.HT.sIx_none, List.drop_zero, Nat.sub_zero]
  by_cases h : k ≤ xs.length
  · rw [Nat.min_eq_left h]
  · rw [Nat.min_eq_right (by omega), List.take_of_length_le (Nat.le_refl _), List.take_of_length_le (by omega)]
theorem paired_take {α β : Type} {R : α → β → Prop} : ∀ {xs : List α} {ys : List β} (n : Nat), Paired R xs ys → Paired R (xs.take n) (ys.take n)
  | _, _, 0, _ => .nil
  | _, _, n + 1, .nil => .nil
  | _, _, n + 1, .cons r rs => .cons r (paired_take n rs)
theorem nodup_atC {α : Type} {pls : List α} (n : pls.Nodup) {i : Nat} {x : α} (h : pls[i]? = some x) : x ∉ pls.take i := fun m => by
  obtain ⟨j, hj, e⟩ := List.getElem_of_mem m
  rw [List.length_take] at hj
  rw [List.getElem_take] at e
  have q1 : pls[j]? = some x := by rw [List.getElem?_eq_getElem (by omega), e]
  have z := (List.getElem?_inj (by omega) n).mp (q1.trans h.symm)
  omega
theorem tup_off {H : Hp} {x : Addr} {o u : HO} {v : V} {b : List Str} (hx : H x = some u) (n1 : ∀ l, u ≠ .tup l) (n2 : ∀ od l, u ≠ .frz od (.tup l)) (h : TupT K H v b) : TupT K (upd H x o) v b := by
  obtain ⟨t, e, h⟩ := h
  exact ⟨t, e, sqT_at h (.inr ⟨_, hx, n1, n2⟩)⟩
theorem tups_off {H : Hp} {x : Addr} {o u : HO} {vs : List V} {bs : List (List Str)} (hx : H x = some u) (n1 : ∀ l, u ≠ .tup l) (n2 : ∀ od l, u ≠ .frz od (.tup l)) (h : TupLs K H vs bs) : TupLs K (upd H x o) vs bs := Paired.imp (fun _ _ q => tup_off hx n1 n2 q) h
theorem prog_off {CP C' : Addr} {H : Hp} {x dx' y dy L S F : Addr} {o : HO} {fs : List (Str × V)} {d : PD} (hx : H x = some (.ins C' dx' fs)) (ny : y ≠ x) (h : ProgAt K CP H y dy L S F d) : ProgAt K CP (upd H x o) y dy L S F d := by
  obtain ⟨i, ⟨k2, l, lk⟩, p, f⟩ := h
  refine ⟨by rw [upd_ne ny]; exact i, ⟨k2, ?_, Paired.imp (fun _ _ q => ?_) lk⟩, ?_, ?_⟩
  · rw [upd_ne (ne_of l hx (by intro z; cases z))]; exact l
  · obtain ⟨e1, t, e2, z⟩ := q
    exact ⟨e1, t, e2, sqT_at z (.inr ⟨_, hx, (by intro l z; cases z), by intro od l z; cases z⟩)⟩
  · rw [upd_ne (ne_of p hx (by intro z; cases z))]; exact p
  · rw [upd_ne (ne_of f hx (by intro z; cases z))]; exact f
structure CtrAt (K : PySem.W.Frag) (CP CC : Addr) (H : Hp) (x dx y B : Addr) (d : PD) (cs : List (List Str)) : Prop where
  ins : H x = some (.ins CC dx [("base", .ref y), ("chosen", .ref B)])
  pr : ∃ dy L S F, ProgAt K CP H y dy L S F d
  ch : ∃ us, H B = some (.lst us) ∧ TupLs K H us cs
theorem CtrAt.same {CP CC : Addr} {H H' : Hp} {x dx y B : Addr} {d : PD} {cs : List (List Str)} (h : CtrAt K CP CC H x dx y B d cs) (s : Same H H') : CtrAt K CP CC H' x dx y B d cs := by
  obtain ⟨i, ⟨dy, L, S, F, p⟩, ⟨us, b, t⟩⟩ := h
  exact ⟨s _ _ i, ⟨dy, L, S, F, p.same s⟩, ⟨us, s _ _ b, TupLs.same t s⟩⟩
structure CTc (K : PySem.W.Frag) (mg : Str → Option Value) (C : Addr) : Prop where
  cl : Cls K C
  n1 : NoAttr K C "base"
  n2 : NoAttr K C "chosen"
  gC : mg "Counters" = some (.ref C)
abbrev sInitC : Stmt := inClass sCnt 0
abbrev nsIC : List Str := ["self", "program", "counters", "known", "at", "counter"]
theorem scIC : FnScope nsIC (([("self" : Str), "program"] : List Str) ++ [("counters" : Str)]) (defScope sInitC) := ⟨rfl, rfl, rfl, by decide +kernel, rfl, by decide +kernel, by decide +kernel⟩
def selC (d : PD) (as : List (List Str)) : List (List Str) := (allC d).filter fun c => decide (c ∈ as)
def spInitC (K : PySem.W.Frag) (CP CC : Addr) : Sp := fun vs H Q _ => ∃ (x dx y dy L S F : Addr) (d : PD) (t : Addr) (us : List V) (as : List (List Str)), vs = [.ref x, .ref y, .ref t] ∧ H x = some (.ins CC dx []) ∧ ProgAt K CP H y dy L S F d ∧ PDg d ∧ SqT K H t us ∧ TupLs K H us as ∧ as.Nodup ∧ (∀ c ∈ as, c ∈ allC d) ∧
  ∀ (H' : Hp) (B : Addr), (∀ q o, q ≠ x → H q = some o → H' q = some o) → H B = none → CtrAt K CP CC H' x dx y B d (selC d as) → Q .non H'
theorem ok_initC {f CP CC fK fA : Addr} {fd fdK fdA : FuncData} (Fn : Fun K "__init__" "Counters.__init__" sInitC f fd) (Tc : CTc K mg CC) (mE : mg "enumerate" = none) (FK : Fun K "is_known" "is_known" sKnown fK fdK) (bK : Binds K fdK ["value", "known"] []) (gK : mg "is_known" = some (.ref fK)) (GK : FnOk P w K mg base CX0 2 fK fdK ["value", "known"] (spKnown K))
    (FA : Fun K "all_counters" "all_counters" sAll fA fdA) (bA : Binds K fdA ["program"] []) (gA : mg "all_counters" = some (.ref fA)) (GA : FnOk P w K mg base CX0 2 fA fdA ["program"] (spAllC K CP)) : FnR P w K mg base CX0 3 f (spStar 2 (spInitC K CP CC)) := by
  refine starOk (ps := ["self", "program"]) Fn scIC (fun kV doc pm an cdv ct => StX.bind_star2 (B := fun us => bindArgs _ ⟨us, []⟩) (fun _ _ => rfl) (fun _ _ _ _ => rfl)) (fun cdv A outer s H vs Q E hr h => ?_)
  obtain ⟨x, dx, y, dy, L, S, F, d, t, us, as, rfl, hx, pr, g, ht, hus, nda, sub, k⟩ := h
  have nd := scIC.nd
  have hr1 : Room 1 _ := hr.mono (by decide)
  have hun := room66 hr
  refine ⟨_, pss_cons (ps_set (i := 3) nd rfl (Or.inl rfl) (pe_call GA hr (by rfl) gA FA.kp bA .nil pass0 (pa_cons (pv 1) pa_nil)))
    (pss_cons (ps_for PassesOwn.never rfl (EN.pi_enumT (by rfl) mE (pa_cons (pv 2) pa_nil)) (pg_tup rfl (pgs_cons (pg_name (i := 4) nd rfl (Or.inl rfl)) (pgs_cons (pg_name (i := 5) nd rfl (Or.inl rfl)) pgs_nil)))
      (pss_one (ps_if (PW.pt (pw_or (pt_not (pt_val (pe_call GK hr (by rfl) gK FK.kp bK .nil pass0 (pa_cons (pv 5) (pa_cons (pv 3) pa_nil))))) (pw_or1 (pt_cmpR (op_inCT (Nat.lt_of_succ_lt hun)) (pv 5) (pe_slice sl_tupA (pv 2) po_none (po_some (pv 4))) rfl)))) pss_dead pss_nil)))
    (pss_cons (ps_fld (pv 0) (pv 1) rfl)
    (pss_one (ps_fld (pv 0) (pe_lc (own := [("counter", 5)]) (g := gName 5) (tt := tTest (tOp (rInCT K false) (tVar 5) (tVar 2))) rfl nd (pi_list (pv 3)) (blkOk_by (own := [("counter", 5)]) (N := nsIC) (sc := defScope sInitC) (by decide +kernel)) (fun _ _ _ _ _ => pg_name (i := 5) nd rfl (Or.inl rfl)) (fun _ _ _ _ _ => pts_one (pt_cmpR (op_inCT (Nat.lt_of_succ_lt hun)) (pv 5) (pv 2) rfl)) (fun _ _ _ _ _ => pv 5)) rfl)))), ?_⟩
  refine ⟨_, rfl, y, dy, L, S, F, d, rfl, pr, g.sz, fun p H1 ks np s1 hp hks => ?_⟩
  refine ⟨_, rfl, t, us, rfl, sqT_same ht s1, for_it EN.walk_enumT (fun i σ H' => ∃ (v4 v5 : Option V), σ = [some (.ref x), some (.ref y), some (.ref t), some (.ref p), v4, v5] ∧ Same H1 H') ⟨_, _, rfl, Same.refl _⟩ (fun i σ H' _ ⟨_, _, _, z⟩ => sqT_same (sqT_same ht s1) z) ?_ ?_⟩
  · rintro i v σ H2 H3 hi ⟨v4, v5, rfl, s2⟩ ⟨T, x0, y0, rfl, nT, rfl, ex0, ey0⟩
    cases ex0
    obtain ⟨c, hc, tc⟩ := paired_at hus ey0
    have s23 : Same H2 (upd H2 T (.tup [.int (i : Nat), y0])) := sm nT
    have hT : (upd H2 T (.tup [.int (i : Nat), y0])) T = some (.tup [.int (i : Nat), y0]) := upd_same
    generalize upd H2 T (.tup [.int (i : Nat), y0]) = H3 at s23 hT
    refine ⟨T, _, rfl, SqT.of hT, rfl, _, _, rfl, _, _, rfl, rfl, ?_⟩
    have mc : c ∈ allC d := sub c (List.mem_of_getElem? hc)
    have okc : TxOkk c := g.cok c mc
    have s13 := s2.trans s23
    have tc3 := tc.same (s1.trans s13)
    refine ⟨_, rfl, _, rfl, y0, p, ks, allC d, some c, rfl, SqL.of (s13 _ _ hp), TupLs.same hks s13, g.cok, .txt tc3 okc (g.sm c mc), fun H4 s4 => ?_⟩
    rw [show knB (allC d) (some c) = true from decide_eq_true mc]
    refine ⟨_, rfl, iteNF ?_⟩
    have tc4 := tc3.same s4
    have s14 := s13.trans s4
    have ht4 : SqT K H4 t us := sqT_same (sqT_same ht s1) s14
    refine ⟨_, rfl, _, rfl, _, rfl, i, rfl, t, us, rfl, ht4, fun z => ?_, fun z q nq => ?_⟩
    · rw [_root_.HT.sIx_nat] at z
      omega
    · rw [cutV_to]
      have s45 : Same H4 (upd H4 q (.tup (us.take i))) := sm nq
      refine ⟨c, q, us.take i, as.take i, tc4.same s45, rfl, SqT.of upd_same, paired_take i (TupLs.same hus (s1.trans (s14.trans s45))), okc, fun a ha => g.cok a (sub a (List.mem_of_mem_take ha)), _, rfl, ?_⟩
      rw [if_neg Bool.false_ne_true, decide_eq_false (nodup_atC nda hc)]
      exact iteF ⟨_, _, rfl, s14.trans s45⟩
  · rintro σ H2 ⟨v4, v5, rfl, s2⟩
    have s02 := s1.trans s2
    have hx2 := s02 _ _ hx
    have ny : y ≠ x := fun z => by
      have e := pr.ins
      rw [z, hx] at e
      cases e
    refine ⟨_, rfl, _, rfl, x, CC, dx, [], rfl, hx2, Tc.cl, Tc.n1, by decide, ?_⟩
    rw [show putF ("base" : Str) (V.ref y) [] = [(("base" : Str), V.ref y)] from rfl]
    have hx3 : (upd H2 x (.ins CC dx [("base", .ref y)])) x = some (.ins CC dx [("base", .ref y)]) := upd_same
    have hp3 : (upd H2 x (.ins CC dx [("base", .ref y)])) p = some (.lst ks) := by
      rw [upd_ne (ne_of (s2 _ _ hp) hx2 (by intro z; cases z))]
      exact s2 _ _ hp
    have hks3 : TupLs K (upd H2 x (.ins CC dx [("base", .ref y)])) ks (allC d) := tups_off hx2 (by intro l z; cases z) (by intro od l z; cases z) (TupLs.same hks s2)
    have hus3 : TupLs K (upd H2 x (.ins CC dx [("base", .ref y)])) us as := tups_off hx2 (by intro l z; cases z) (by intro od l z; cases z) (TupLs.same hus s02)
    have ht3 : SqT K (upd H2 x (.ins CC dx [("base", .ref y)])) t us := sqT_at (sqT_same ht s02) (.inr ⟨_, hx2, (by intro l z; cases z), by intro od l z; cases z⟩)
    have pr3 : ProgAt K CP (upd H2 x (.ins CC dx [("base", .ref y)])) y dy L S F d := prog_off hx2 ny (pr.same s02)
    have keep3 : ∀ q o, q ≠ x → H q = some o → (upd H2 x (.ins CC dx [("base", .ref y)])) q = some o := fun q o n e => by
      rw [upd_ne n]
      exact s02 _ _ e
    generalize upd H2 x (.ins CC dx [("base", .ref y)]) = H3 at hx3 hp3 hks3 hus3 ht3 pr3 keep3
    refine ⟨_, rfl, p, rfl, ⟨_, SqL.of hp3⟩, fun D nD => rd_sel (fun c => decide (c ∈ as)) (SqL.of hp3) hks3 (by have := g.few; omega) nD (fun v => rfl) (fun v => rfl) (fun j c v H4 Q4 s4 hc tc q => ?_) fun H4 ts s4 hD hts => ?_⟩
    · have mc : c ∈ allC d := List.mem_of_getElem? hc
      exact ⟨_, rfl, _, rfl, c, t, us, as, tc, rfl, sqT_same ht3 s4, TupLs.same hus3 s4, g.cok c mc, fun a ha => g.cok a (sub a ha), _, rfl, q H4 (Same.refl _)⟩
    · have hx4 := s4 _ _ hx3
      refine ⟨_, rfl, x, CC, dx, _, rfl, hx4, Tc.cl, Tc.n2, (by show 1 < 1000; decide), k _ D (fun q o n e => ?_) ?_ ⟨upd_same, ⟨dy, L, S, F, prog_off hx4 ny (pr3.same s4)⟩, ⟨ts, ?_, tups_off hx4 (by intro l z; cases z) (by intro od l z; cases z) hts⟩⟩⟩
      · rw [upd_ne n]
        exact s4 _ _ (keep3 q o n e)
      · cases z : H D with
        | none => rfl
        | some o =>
          by_cases e : D = x
          · rw [e, hx3] at nD; cases nD
          · rw [keep3 _ _ e z] at nD; cases nD
      · rw [upd_ne (ne_of hD hx4 (by intro z; cases z))]
        exact hD
end
end CT


set_option Elab.async false
set_option linter.all false
set_option maxRecDepth 100000
set_option maxHeartbeats 4000000
namespace CT
open PySem L2 PG OW
abbrev sCProg : Stmt := inClass sCnt 1
abbrev sListed : Stmt := inClass sCnt 2
abbrev sCLen : Stmt := inClass sCnt 3
abbrev sCHas : Stmt := inClass sCnt 4
abbrev sAdd : Stmt := inClass sCnt 5
abbrev sIadd : Stmt := inClass sCnt 6
abbrev sSub : Stmt := inClass sCnt 7
abbrev sIsub : Stmt := inClass sCnt 8
abbrev sCEq : Stmt := inClass sCnt 9
abbrev sOfWays : Stmt := inClass sCnt 10
abbrev sEvery : Stmt := inClass sCnt 11
structure CsIn (d : PD) (cs : List (List Str)) : Prop where
  sub : ∀ c ∈ cs, c ∈ allC d
  nd : cs.Nodup
theorem nodup_leC {α : Type} [DecidableEq α] : ∀ {xs ys : List α}, xs.Nodup → (∀ x ∈ xs, x ∈ ys) → xs.length ≤ ys.length
  | [], ys, _, _ => Nat.zero_le _
  | x :: xs, ys, n, h => by
    obtain ⟨n1, n2⟩ := List.nodup_cons.mp n
    have m : x ∈ ys := h x List.mem_cons_self
    have e : (ys.erase x).length = ys.length - 1 := List.length_erase_of_mem m
    have p : 0 < ys.length := List.length_pos_of_mem m
    have r := nodup_leC (ys := ys.erase x) n2 fun y hy => (List.mem_erase_of_ne (fun z : y = x => n1 (by rw [← z]; exact hy))).mpr (h y (List.mem_cons_of_mem _ hy))
    rw [List.length_cons]
    omega
theorem CsIn.few {d : PD} {cs : List (List Str)} (h : CsIn d cs) (g : PDg d) : cs.length ≤ 200 := Nat.le_trans (nodup_leC h.nd h.sub) g.few
theorem CsIn.ok {d : PD} {cs : List (List Str)} (h : CsIn d cs) (g : PDg d) : CsOk cs := fun c hc => g.cok c (h.sub c hc)
theorem selC_in {d : PD} (g : PDg d) (as : List (List Str)) : CsIn d (selC d as) := ⟨fun c hc => (List.mem_filter.mp hc).1, g.nd.sublist List.filter_sublist⟩
section
variable {P : Program} {w : World} {K : PySem.W.Frag} {mg : Str → Option Value} {base : Heap} {CP CC : Addr}
/-- what init's promise comes to for a new set -/
theorem cmk_new {H1 : Hp} {y dy L S F : Addr} {d : PD} {us : List V} {as : List (List Str)} {R : Addr → Hp → Prop} {E : XK} (pr : ProgAt K CP H1 y dy L S F d) (g : PDg d) (hus : TupLs K H1 us as) (ci : CsIn d as)
    (k : ∀ (H' : Hp) (x dx B : Addr), Same H1 H' → H1 x = none → H1 B = none → CtrAt K CP CC H' x dx y B d (selC d as) → R x H') :
    ∀ x dx, H1 x = none → H1 dx = none → dx ≠ x → spStar 2 (spInitC K CP CC) (.ref x :: .ref y :: us) (upd (upd H1 dx (.own x)) x (.ins CC dx [])) (fun v H2 => v = .non ∧ R x H2) E := by
  intro x dx nx ndx nxd
  have s1 : Same H1 (upd (upd H1 dx (.own x)) x (.ins CC dx [])) := fun c o z => by
    rw [upd_ne (ne_of_none z nx), upd_ne (ne_of_none z ndx)]
    exact z
  have lu : us.length = as.length := Paired.length hus
  have hx : (upd (upd H1 dx (.own x)) x (.ins CC dx [])) x = some (.ins CC dx []) := upd_same
  generalize upd (upd H1 dx (.own x)) x (.ins CC dx []) = H2 at s1 hx
  refine ⟨[.ref x, .ref y], us, rfl, rfl, ?_, fun t nt => ?_⟩
  · rw [lu, sizeLine_eq]
    have := ci.few g
    omega
  · have s2 : Same H2 (upd H2 t (.tup us)) := sm nt
    have s12 := s1.trans s2
    have ht : (upd H2 t (.tup us)) t = some (.tup us) := upd_same
    generalize upd H2 t (.tup us) = H3 at s2 ht s12
    refine ⟨x, dx, y, dy, L, S, F, d, t, us, as, rfl, s2 _ _ hx, pr.same s12, g, SqT.of ht, TupLs.same hus s12, ci.nd, ci.sub, fun H' B s3 nB h => ⟨rfl, k H' x dx B (fun c o z => s3 c o (ne_of_none z nx) (s12 c o z)) nx ?_ h⟩⟩
    cases q : H1 B with
    | none => rfl
    | some o => rw [s12 _ _ q] at nB; cases nB
theorem scCProg : FnScope ["self"] ["self"] (defScope sCProg) := ⟨rfl, rfl, rfl, by decide +kernel, rfl, by decide +kernel, by decide +kernel⟩
def spCProg (K : PySem.W.Frag) (CP CC : Addr) : Sp := fun vs H Q _ => ∃ (x dx y B : Addr) (d : PD) (cs : List (List Str)), vs = [.ref x] ∧ CtrAt K CP CC H x dx y B d cs ∧ Q (.ref y) H
theorem ok_cprog {f : Addr} {fd : FuncData} (Fn : Fun K "program" "Counters.program" sCProg f fd) (Tc : CTc K mg CC) : FnOk P w K mg base CX0 1 f fd ["self"] (spCProg K CP CC) := by
  refine Fn.ok scCProg (fun vs H Q E h => ?_) (fun cdv A outer s H vs Q E hr h => ?_)
  · obtain ⟨x, dx, y, B, d, cs, rfl, _⟩ := h
    rfl
  · obtain ⟨x, dx, y, B, d, cs, rfl, h, k⟩ := h
    exact ⟨_, pss_one (ps_ret (pe_fld (pv 0) rfl)), _, rfl, x, CC, dx, _, _, rfl, h.ins, Tc.cl, Tc.n1, rfl, k⟩
theorem scListed : FnScope ["self"] ["self"] (defScope sListed) := ⟨rfl, rfl, rfl, by decide +kernel, rfl, by decide +kernel, by decide +kernel⟩
def spListed (K : PySem.W.Frag) (CP CC : Addr) : Sp := fun vs H Q _ => ∃ (x dx y B : Addr) (d : PD) (cs : List (List Str)), vs = [.ref x] ∧ CtrAt K CP CC H x dx y B d cs ∧ ∀ (p : Addr) (H' : Hp) (us : List V), H p = none → Same H H' → (∀ q o, q ≠ p → H' q = some o → H q = some o) → H' p = some (.lst us) → TupLs K H' us cs → Q (.ref p) H'
theorem ok_listed {f : Addr} {fd : FuncData} (Fn : Fun K "listed" "Counters.listed" sListed f fd) (T : PT0 mg) (Tc : CTc K mg CC) : FnOk P w K mg base CX0 1 f fd ["self"] (spListed K CP CC) := by
  refine Fn.ok scListed (fun vs H Q E h => ?_) (fun cdv A outer s H vs Q E hr h => ?_)
  · obtain ⟨x, dx, y, B, d, cs, rfl, _⟩ := h
    rfl
  · obtain ⟨x, dx, y, B, d, cs, rfl, h, k⟩ := h
    obtain ⟨us, hB, hus⟩ := h.ch
    exact ⟨_, pss_one (ps_ret (pe_callTy call_list_of (by rfl) T.list PyProof.Rows.boot_list (pa_cons (pe_fld (pv 0) rfl) pa_nil))), _, rfl, x, CC, dx, _, _, rfl, h.ins, Tc.cl, Tc.n2, rfl, B, _, rfl, .inl (SqL.of hB), fun p np => k p _ us np (sm np) (fun q o n e => by rw [upd_ne n] at e; exact e) upd_same (TupLs.same hus (sm np))⟩
theorem scCLen : FnScope ["self"] ["self"] (defScope sCLen) := ⟨rfl, rfl, rfl, by decide +kernel, rfl, by decide +kernel, by decide +kernel⟩
def spCLen (K : PySem.W.Frag) (CP CC : Addr) : Sp := fun vs H Q _ => ∃ (x dx y B : Addr) (d : PD) (cs : List (List Str)), vs = [.ref x] ∧ CtrAt K CP CC H x dx y B d cs ∧ Q (.int (cs.length : Nat)) H
theorem ok_clen {f : Addr} {fd : FuncData} (Fn : Fun K "__len__" "Counters.__len__" sCLen f fd) (T : PT0 mg) (Tc : CTc K mg CC) : FnOk P w K mg base CX0 1 f fd ["self"] (spCLen K CP CC) := by
  refine Fn.ok scCLen (fun vs H Q E h => ?_) (fun cdv A outer s H vs Q E hr h => ?_)
  · obtain ⟨x, dx, y, B, d, cs, rfl, _⟩ := h
    rfl
  · obtain ⟨x, dx, y, B, d, cs, rfl, h, k⟩ := h
    obtain ⟨us, hB, hus⟩ := h.ch
    refine ⟨_, pss_one (ps_ret (pe_callB call_len_seq (by rfl) T.len PySem.boot_len (pa_cons (pe_fld (pv 0) rfl) pa_nil))), _, rfl, x, CC, dx, _, _, rfl, h.ins, Tc.cl, Tc.n2, rfl, B, us, rfl, .inl (SqL.of hB), ?_⟩
    rw [Paired.length hus]
    exact k
theorem scCHas : FnScope ["self", "x"] ["self", "x"] (defScope sCHas) := ⟨rfl, rfl, rfl, by decide +kernel, rfl, by decide +kernel, by decide +kernel⟩
def spCHas (K : PySem.W.Frag) (CP CC : Addr) : Sp := fun vs H Q _ => ∃ (x dx y B : Addr) (d : PD) (cs : List (List Str)) (v : V) (o : Option (List Str)), vs = [.ref x, v] ∧ CtrAt K CP CC H x dx y B d cs ∧ CsOk cs ∧ KnV K H v o ∧ ∀ H', Same H H' → Q (.bl (knB cs o)) H'
theorem ok_chas {f fK : Addr} {fd fdK : FuncData} (Fn : Fun K "__contains__" "Counters.__contains__" sCHas f fd) (Tc : CTc K mg CC) (FK : Fun K "is_known" "is_known" sKnown fK fdK) (bK : Binds K fdK ["value", "known"] []) (gK : mg "is_known" = some (.ref fK)) (GK : FnOk P w K mg base CX0 2 fK fdK ["value", "known"] (spKnown K)) : FnOk P w K mg base CX0 3 f fd ["self", "x"] (spCHas K CP CC) := by
  refine Fn.ok scCHas (fun vs H Q E h => ?_) (fun cdv A outer s H vs Q E hr h => ?_)
  · obtain ⟨x, dx, y, B, d, cs, v, o, rfl, _⟩ := h
    rfl
  · obtain ⟨x, dx, y, B, d, cs, v, o, rfl, h, oc, hv, k⟩ := h
    obtain ⟨us, hB, hus⟩ := h.ch
    exact ⟨_, pss_one (ps_ret (pe_call GK hr (by rfl) gK FK.kp bK .nil pass0 (pa_cons (pv 1) (pa_cons (pe_fld (pv 0) rfl) pa_nil)))), _, rfl, _, rfl, x, CC, dx, _, _, rfl, h.ins, Tc.cl, Tc.n2, rfl, v, B, us, cs, o, rfl, SqL.of hB, hus, oc, hv, k⟩
/-- what is known of the classes among the types, for == and != -/
structure CTt (K : PySem.W.Frag) (CP CC : Addr) : Prop where
  ha : PySem.W.findIn K (.ref CC) "__class__" = some (some (.builtin "object.__class__"))
  hm : PySem.W.mroIn K CC (.type "object") = some true
  nfP : PySem.W.notFirst K CP (.ref CP) = true
  neP : PySem.W.findIn K (.ref CP) "__ne__" = some (some (.builtin "object.__ne__"))
theorem ty_prog {H : Hp} {y dy L S F : Addr} {d : PD} (h : ProgAt K CP H y dy L S F d) (cl : Cls K CP) (Tt : PTt K CP) : TyX K H (.ref y) (.ref CP) := .base (.ins h.ins cl Tt.ha Tt.hn Tt.htk Tt.hm)
theorem ty_ctr {H : Hp} {x dx y B : Addr} {d : PD} {cs : List (List Str)} (h : CtrAt K CP CC H x dx y B d cs) (cl : Cls K CC) (Tt : PTt K CP) (Ct : CTt K CP CC) : TyX K H (.ref x) (.ref CC) := .base (.ins h.ins cl Ct.ha Tt.hn Tt.htk Ct.hm)
theorem kit_self (C : Addr) : PySem.W.kitOne K (.ref C) (.ref C) = some true := by
  unfold PySem.W.kitOne
  rw [if_pos (beq_self_eq_true _)]
theorem scCEq : FnScope ["self", "other"] ["self", "other"] (defScope sCEq) := ⟨rfl, rfl, rfl, by decide +kernel, rfl, by decide +kernel, by decide +kernel⟩
def spCEq (K : PySem.W.Frag) (CP CC : Addr) : Sp := fun vs H Q _ => ∃ (x dx y B : Addr) (d : PD) (cs : List (List Str)) (v : V), vs = [.ref x, v] ∧ CtrAt K CP CC H x dx y B d cs ∧ PDg d ∧ CsOk cs ∧
  ((∃ (x2 dx2 y2 B2 : Addr) (e : PD) (ds : List (List Str)), v = .ref x2 ∧ CtrAt K CP CC H x2 dx2 y2 B2 e ds ∧ PDg e ∧ CsOk ds ∧ Q (.bl (eqPD d e && decide (cs = ds))) H) ∨ (∃ t, TyX K H v t ∧ PySem.W.kitOne K t (.ref CC) = some false ∧ Q (.bl false) H))
theorem ok_ceq {f gQ : Addr} {fd fdQ : FuncData} (Fn : Fun K "__eq__" "Counters.__eq__" sCEq f fd) (T : PT0 mg) (Tc : CTc K mg CC) (cl : Cls K CP) (Tt : PTt K CP) (Ct : CTt K CP CC) (fQ : PySem.W.findIn K (.ref CP) "__eq__" = some (some (.ref gQ))) (iQ : PySem.W.isFn K (.ref gQ) = true) (bQ : Binds K fdQ ["self", "other"] []) (GQ : FnOk P w K mg base CX0 1 gQ fdQ ["self", "other"] (spEqP K CP)) : FnOk P w K mg base CX0 2 f fd ["self", "other"] (spCEq K CP CC) := by
  refine Fn.ok scCEq (fun vs H Q E h => ?_) (fun cdv A outer s H vs Q E hr h => ?_)
  · obtain ⟨x, dx, y, B, d, cs, v, rfl, _⟩ := h
    rfl
  · obtain ⟨x, dx, y, B, d, cs, v, rfl, h, g, oc, k⟩ := h
    obtain ⟨us, hB, hus⟩ := h.ch
    obtain ⟨dy, L, S, F, pr⟩ := h.pr
    refine ⟨_, pss_one (ps_ret (pe_and (pe_callB call_isi (by rfl) T.isi PyProof.Rows.boot_isinstance (pa_cons (pv 1) (pa_cons (pe_glob (v := .ref CC) (by rfl) Tc.gC rfl) pa_nil)))
      (pe_and (pe_cmpR (op_ownEq (C := CP) GQ bQ pass0 hr fQ iQ) (pe_fld (pv 0) rfl) (pe_fld (pv 1) rfl) (nomark _))
      (pe_one (pe_cmpR (op_eqC hr.units) (pe_fld (pv 0) rfl) (pe_fld (pv 1) rfl) (nomark _)))))), ?_⟩
    rcases k with ⟨x2, dx2, y2, B2, e, ds, rfl, h2, g2, oc2, q⟩ | ⟨t, ht, hk, q⟩
    · obtain ⟨us2, hB2, hus2⟩ := h2.ch
      obtain ⟨dy2, L2, S2, F2, pr2⟩ := h2.pr
      refine ⟨_, rfl, .ref x2, .ref CC, _, _, true, rfl, .own CC, ty_ctr h2 Tc.cl Tt Ct, kit_self CC, _, rfl, iteT ?_⟩
      refine ⟨_, rfl, x, CC, dx, _, _, rfl, h.ins, Tc.cl, Tc.n1, rfl, _, rfl, x2, CC, dx2, _, _, rfl, h2.ins, Tc.cl, Tc.n1, rfl, y, dy, _, _, rfl, pr.ins, ty_prog pr2 cl Tt, Ct.nfP, y, dy, L, S, F, d, .ref y2, rfl, pr, .inl ⟨y2, dy2, L2, S2, F2, e, rfl, pr2, g.ok, g2.ok, _, rfl, _, rfl, ?_⟩⟩
      refine iteB (fun c => ?_) (fun c => ?_)
      · refine ⟨_, rfl, x, CC, dx, _, _, rfl, h.ins, Tc.cl, Tc.n2, rfl, _, rfl, x2, CC, dx2, _, _, rfl, h2.ins, Tc.cl, Tc.n2, rfl, B, B2, us, us2, cs, ds, rfl, rfl, SqL.of hB, SqL.of hB2, hus, hus2, oc, oc2, ?_⟩
        rw [c, Bool.true_and] at q
        exact q
      · rw [c, Bool.false_and] at q
        exact q
    · exact ⟨_, rfl, v, .ref CC, _, _, false, rfl, .own CC, ht, hk, _, rfl, iteF q⟩
theorem scPart : FnScope ["one", "other"] ["one", "other"] (defScope sPart) := ⟨rfl, rfl, rfl, by decide +kernel, rfl, by decide +kernel, by decide +kernel⟩
def spPart (K : PySem.W.Frag) (CP CC : Addr) : Sp := fun vs H Q _ => ∃ (x dx y B x2 dx2 y2 B2 : Addr) (d e : PD) (cs ds : List (List Str)), vs = [.ref x, .ref x2] ∧ CtrAt K CP CC H x dx y B d cs ∧ CtrAt K CP CC H x2 dx2 y2 B2 e ds ∧ PDg d ∧ PDg e ∧ eqPD d e = true ∧ Q .non H
theorem ok_part {f gQ : Addr} {fd fdQ : FuncData} (Fn : Fun K "require_partner" "require_partner" sPart f fd) (T : PT0 mg) (Tc : CTc K mg CC) (cl : Cls K CP) (Tt : PTt K CP) (Ct : CTt K CP CC) (fQ : PySem.W.findIn K (.ref CP) "__eq__" = some (some (.ref gQ))) (iQ : PySem.W.isFn K (.ref gQ) = true) (bQ : Binds K fdQ ["self", "other"] []) (GQ : FnOk P w K mg base CX0 1 gQ fdQ ["self", "other"] (spEqP K CP)) : FnOk P w K mg base CX0 3 f fd ["one", "other"] (spPart K CP CC) := by
  refine Fn.ok scPart (fun vs H Q E h => ?_) (fun cdv A outer s H vs Q E hr h => ?_)
  · obtain ⟨x, dx, y, B, x2, dx2, y2, B2, d, e, cs, ds, rfl, _⟩ := h
    rfl
  · obtain ⟨x, dx, y, B, x2, dx2, y2, B2, d, e, cs, ds, rfl, h, h2, g, g2, eq, k⟩ := h
    obtain ⟨dy, L, S, F, pr⟩ := h.pr
    obtain ⟨dy2, L2, S2, F2, pr2⟩ := h2.pr
    refine ⟨_, pss_one (ps_if (PW.pt (pw_or (pt_not (pt_val (pe_callB call_isi (by rfl) T.isi PyProof.Rows.boot_isinstance (pa_cons (pv 1) (pa_cons (pe_glob (v := .ref CC) (by rfl) Tc.gC rfl) pa_nil)))))
      (pw_or1 (pt_cmpR (op_ownNe (C := CP) GQ bQ pass0 hr Ct.neP Tt.hm fQ iQ) (pe_fld (pv 0) rfl) (pe_fld (pv 1) rfl) (nomark _))))) pss_dead pss_nil), ?_⟩
    refine ⟨_, rfl, .ref x2, .ref CC, _, _, true, rfl, .own CC, ty_ctr h2 Tc.cl Tt Ct, kit_self CC, _, rfl, iteF ?_⟩
    refine ⟨_, rfl, x, CC, dx, _, _, rfl, h.ins, Tc.cl, Tc.n1, rfl, _, rfl, x2, CC, dx2, _, _, rfl, h2.ins, Tc.cl, Tc.n1, rfl, y, dy, _, _, rfl, pr.ins, ty_prog pr2 cl Tt, Ct.nfP, y, dy, L, S, F, d, .ref y2, rfl, pr, .inl ⟨y2, dy2, L2, S2, F2, e, rfl, pr2, g.ok, g2.ok, _, rfl, _, rfl, ?_⟩⟩
    rw [eq]
    exact iteF k
end
end CT


set_option Elab.async false
set_option linter.all false
set_option maxRecDepth 100000
set_option maxHeartbeats 4000000
namespace CT
open PySem L2 PG OW
def addL (cs ds : List (List Str)) : List (List Str) := cs ++ ds.filter fun c => !decide (c ∈ cs)
def subL (cs ds : List (List Str)) : List (List Str) := cs.filter fun c => !decide (c ∈ ds)
theorem addL_in {d : PD} {cs ds : List (List Str)} (h1 : CsIn d cs) (h2 : CsIn d ds) : CsIn d (addL cs ds) where
  sub := fun c hc => by
    rcases List.mem_append.mp hc with z | z
    · exact h1.sub c z
    · exact h2.sub c (List.mem_filter.mp z).1
  nd := List.nodup_append.mpr ⟨h1.nd, h2.nd.sublist List.filter_sublist, fun a ha b hb e => by
    have z := (List.mem_filter.mp hb).2
    rw [← e, decide_eq_true ha] at z
    cases z⟩
theorem subL_in {d : PD} {cs : List (List Str)} (h1 : CsIn d cs) (ds : List (List Str)) : CsIn d (subL cs ds) := ⟨fun c hc => h1.sub c (List.mem_filter.mp hc).1, h1.nd.sublist List.filter_sublist⟩
section
variable {P : Program} {w : World} {K : PySem.W.Frag} {mg : Str → Option Value} {base : Heap} {CP CC : Addr}
def spBin (K : PySem.W.Frag) (CP CC : Addr) (op : List (List Str) → List (List Str) → List (List Str)) : Sp := fun vs H Q _ => ∃ (x dx y B x2 dx2 y2 B2 : Addr) (d : PD) (cs ds : List (List Str)), vs = [.ref x, .ref x2] ∧ CtrAt K CP CC H x dx y B d cs ∧ CtrAt K CP CC H x2 dx2 y2 B2 d ds ∧ PDg d ∧ CsIn d cs ∧ CsIn d ds ∧
  ∀ (H' : Hp) (x3 dx3 B3 : Addr), Same H H' → H x3 = none → H B3 = none → CtrAt K CP CC H' x3 dx3 y B3 d (selC d (op cs ds)) → Q (.ref x3) H'
theorem fr_of {H H' : Hp} (s : Same H H') {y : Addr} (z : H' y = none) : H y = none := by
  cases q : H y with
  | none => rfl
  | some o => rw [s _ _ q] at z; cases z
abbrev nsAdd : List Str := ["self", "other", "more", "counter"]
theorem scAdd : FnScope nsAdd ["self", "other"] (defScope sAdd) := ⟨rfl, rfl, rfl, by decide +kernel, rfl, by decide +kernel, by decide +kernel⟩
theorem ok_add {f fR fI : Addr} {fd fdR : FuncData} (Fn : Fun K "__add__" "Counters.__add__" sAdd f fd) (Tc : CTc K mg CC) (M : Mk K CC fI) (FI : FnR P w K mg base CX0 3 fI (spStar 2 (spInitC K CP CC))) (FR : Fun K "require_partner" "require_partner" sPart fR fdR) (bR : Binds K fdR ["one", "other"] []) (gR : mg "require_partner" = some (.ref fR)) (GR : FnOk P w K mg base CX0 3 fR fdR ["one", "other"] (spPart K CP CC)) : FnOk P w K mg base CX0 5 f fd ["self", "other"] (spBin K CP CC addL) := by
  refine Fn.ok scAdd (fun vs H Q E h => ?_) (fun cdv A outer s H vs Q E hr h => ?_)
  · obtain ⟨x, dx, y, B, x2, dx2, y2, B2, d, cs, ds, rfl, _⟩ := h
    rfl
  · obtain ⟨x, dx, y, B, x2, dx2, y2, B2, d, cs, ds, rfl, h, h2, g, i1, i2, k⟩ := h
    have nd := scAdd.nd
    have hun := Nat.lt_of_succ_lt (room66 hr)
    obtain ⟨us, hB, hus⟩ := h.ch
    obtain ⟨us2, hB2, hus2⟩ := h2.ch
    obtain ⟨dy, L, S, F, pr⟩ := h.pr
    refine ⟨_, pss_cons (ps_expr (pe_call GR (hr.mono (by decide)) (by rfl) gR FR.kp bR .nil pass0 (pa_cons (pv 0) (pa_cons (pv 1) pa_nil))))
      (pss_cons (ps_setLc (i := 2) (own := [("counter", 3)]) (g := gName 3) (tt := tTest (tOp (rInC K true) (tVar 3) (tFld K (tVar 0) "chosen"))) rfl nd rfl rfl (sw_true rfl rfl rfl (by decide +kernel)) (pi_list (pe_fld (pv 1) rfl)) (blkOk_by (own := [("counter", 3)]) (N := nsAdd) (sc := defScope sAdd) (by decide +kernel)) (fun _ _ _ _ _ => pg_name (i := 3) nd rfl (Or.inl rfl)) (fun _ _ _ _ _ => pts_one (pt_cmpR (op_notInC hun) (pv 3) (pe_fld (pv 0) rfl) rfl)) (fun _ _ _ _ _ => pv 3))
      (pss_one (ps_ret (pe_makeS M FI hr (by rfl) Tc.gC pass0 (pa_cons (pe_fld (pv 0) rfl) (StX.pa_star (pe_fld (pv 0) rfl) (StX.pa_star (pv 2) pa_nil))))))), ?_⟩
    refine ⟨_, rfl, _, rfl, x, dx, y, B, x2, dx2, y2, B2, d, d, cs, ds, rfl, h, h2, g, g, g.eqr, ?_⟩
    refine ⟨_, rfl, x2, CC, dx2, _, _, rfl, h2.ins, Tc.cl, Tc.n2, rfl, B2, rfl, ⟨_, SqL.of hB2⟩, fun D nD => rd_sel (fun c => !decide (c ∈ cs)) (SqL.of hB2) hus2 (by have := i2.few g; omega) nD (fun v => rfl) (fun v => rfl) (fun j c v H2 Q2 s2 hc tc q => ?_) fun H1 ts s1 hD hts => ?_⟩
    · exact ⟨_, rfl, _, rfl, x, CC, dx, _, _, rfl, s2 _ _ h.ins, Tc.cl, Tc.n2, rfl, c, B, us, cs, tc, rfl, SqL.of (s2 _ _ hB), TupLs.same hus s2, i2.ok g c (List.mem_of_getElem? hc), i1.ok g, _, rfl, q H2 (Same.refl _)⟩
    · refine ⟨_, rfl, x, CC, dx, _, _, rfl, s1 _ _ h.ins, Tc.cl, Tc.n1, rfl, _, rfl, x, CC, dx, _, _, rfl, s1 _ _ h.ins, Tc.cl, Tc.n2, rfl, B, us, rfl, .inr (SqL.of (s1 _ _ hB)), _, rfl, D, ts, rfl, .inr (SqL.of hD), ?_⟩
      unfold tNil
      simp only [List.append_nil]
      exact cmk_new (as := addL cs ds) (pr.same s1) g (paired_app (TupLs.same hus s1) hts) (addL_in i1 i2) fun H' x3 dx3 B3 s3 nx nB hh => k H' x3 dx3 B3 (s1.trans s3) (fr_of s1 nx) (fr_of s1 nB) hh
abbrev nsSub : List Str := ["self", "other", "rest", "counter"]
theorem scSub : FnScope nsSub ["self", "other"] (defScope sSub) := ⟨rfl, rfl, rfl, by decide +kernel, rfl, by decide +kernel, by decide +kernel⟩
theorem ok_sub {f fR fI : Addr} {fd fdR : FuncData} (Fn : Fun K "__sub__" "Counters.__sub__" sSub f fd) (Tc : CTc K mg CC) (M : Mk K CC fI) (FI : FnR P w K mg base CX0 3 fI (spStar 2 (spInitC K CP CC))) (FR : Fun K "require_partner" "require_partner" sPart fR fdR) (bR : Binds K fdR ["one", "other"] []) (gR : mg "require_partner" = some (.ref fR)) (GR : FnOk P w K mg base CX0 3 fR fdR ["one", "other"] (spPart K CP CC)) : FnOk P w K mg base CX0 5 f fd ["self", "other"] (spBin K CP CC subL) := by
  refine Fn.ok scSub (fun vs H Q E h => ?_) (fun cdv A outer s H vs Q E hr h => ?_)
  · obtain ⟨x, dx, y, B, x2, dx2, y2, B2, d, cs, ds, rfl, _⟩ := h
    rfl
  · obtain ⟨x, dx, y, B, x2, dx2, y2, B2, d, cs, ds, rfl, h, h2, g, i1, i2, k⟩ := h
    have nd := scSub.nd
    have hun := Nat.lt_of_succ_lt (room66 hr)
    obtain ⟨us, hB, hus⟩ := h.ch
    obtain ⟨us2, hB2, hus2⟩ := h2.ch
    obtain ⟨dy, L, S, F, pr⟩ := h.pr
    refine ⟨_, pss_cons (ps_expr (pe_call GR (hr.mono (by decide)) (by rfl) gR FR.kp bR .nil pass0 (pa_cons (pv 0) (pa_cons (pv 1) pa_nil))))
      (pss_cons (ps_setLc (i := 2) (own := [("counter", 3)]) (g := gName 3) (tt := tTest (tOp (rInC K true) (tVar 3) (tFld K (tVar 1) "chosen"))) rfl nd rfl rfl (sw_true rfl rfl rfl (by decide +kernel)) (pi_list (pe_fld (pv 0) rfl)) (blkOk_by (own := [("counter", 3)]) (N := nsSub) (sc := defScope sSub) (by decide +kernel)) (fun _ _ _ _ _ => pg_name (i := 3) nd rfl (Or.inl rfl)) (fun _ _ _ _ _ => pts_one (pt_cmpR (op_notInC hun) (pv 3) (pe_fld (pv 1) rfl) rfl)) (fun _ _ _ _ _ => pv 3))
      (pss_one (ps_ret (pe_makeS M FI hr (by rfl) Tc.gC pass0 (pa_cons (pe_fld (pv 0) rfl) (StX.pa_star (pv 2) pa_nil)))))), ?_⟩
    refine ⟨_, rfl, _, rfl, x, dx, y, B, x2, dx2, y2, B2, d, d, cs, ds, rfl, h, h2, g, g, g.eqr, ?_⟩
    refine ⟨_, rfl, x, CC, dx, _, _, rfl, h.ins, Tc.cl, Tc.n2, rfl, B, rfl, ⟨_, SqL.of hB⟩, fun D nD => rd_sel (fun c => !decide (c ∈ ds)) (SqL.of hB) hus (by have := i1.few g; omega) nD (fun v => rfl) (fun v => rfl) (fun j c v H2 Q2 s2 hc tc q => ?_) fun H1 ts s1 hD hts => ?_⟩
    · exact ⟨_, rfl, _, rfl, x2, CC, dx2, _, _, rfl, s2 _ _ h2.ins, Tc.cl, Tc.n2, rfl, c, B2, us2, ds, tc, rfl, SqL.of (s2 _ _ hB2), TupLs.same hus2 s2, i1.ok g c (List.mem_of_getElem? hc), i2.ok g, _, rfl, q H2 (Same.refl _)⟩
    · refine ⟨_, rfl, x, CC, dx, _, _, rfl, s1 _ _ h.ins, Tc.cl, Tc.n1, rfl, _, rfl, D, ts, rfl, .inr (SqL.of hD), ?_⟩
      unfold tNil
      simp only [List.append_nil]
      exact cmk_new (as := subL cs ds) (pr.same s1) g hts (subL_in i1 ds) fun H' x3 dx3 B3 s3 nx nB hh => k H' x3 dx3 B3 (s1.trans s3) (fr_of s1 nx) (fr_of s1 nB) hh
theorem scIadd : FnScope ["self", "other"] ["self", "other"] (defScope sIadd) := ⟨rfl, rfl, rfl, by decide +kernel, rfl, by decide +kernel, by decide +kernel⟩
theorem ok_iadd {f gA : Addr} {fd fdA : FuncData} (Fn : Fun K "__iadd__" "Counters.__iadd__" sIadd f fd) (Tc : CTc K mg CC) (Tt : PTt K CP) (Ct : CTt K CP CC) (sf : PySem.W.selfFirst K CC = true) (fA : PySem.W.findIn K (.ref CC) "__add__" = some (some (.ref gA))) (iA : PySem.W.isFn K (.ref gA) = true) (bA : Binds K fdA ["self", "other"] []) (GA : FnOk P w K mg base CX0 5 gA fdA ["self", "other"] (spBin K CP CC addL)) : FnOk P w K mg base CX0 6 f fd ["self", "other"] (spBin K CP CC addL) := by
  refine Fn.ok scIadd (fun vs H Q E h => ?_) (fun cdv A outer s H vs Q E hr h => ?_)
  · obtain ⟨x, dx, y, B, x2, dx2, y2, B2, d, cs, ds, rfl, _⟩ := h
    rfl
  · obtain ⟨x, dx, y, B, x2, dx2, y2, B2, d, cs, ds, rfl, h, h2, g, i1, i2, k⟩ := h
    exact ⟨_, pss_one (ps_ret (pe_op (op_ownBin (op := .Add) GA bA pass0 hr sf fA iA) (pv 0) (pv 1))), _, rfl, _, rfl, x, dx, _, rfl, h.ins, ty_ctr h2 Tc.cl Tt Ct, x, dx, y, B, x2, dx2, y2, B2, d, cs, ds, rfl, h, h2, g, i1, i2, fun H' x3 dx3 B3 s3 nx nB hh => ⟨⟨_, rfl⟩, k H' x3 dx3 B3 s3 nx nB hh⟩⟩
theorem scIsub : FnScope ["self", "other"] ["self", "other"] (defScope sIsub) := ⟨rfl, rfl, rfl, by decide +kernel, rfl, by decide +kernel, by decide +kernel⟩
theorem ok_isub {f gA : Addr} {fd fdA : FuncData} (Fn : Fun K "__isub__" "Counters.__isub__" sIsub f fd) (Tc : CTc K mg CC) (Tt : PTt K CP) (Ct : CTt K CP CC) (sf : PySem.W.selfFirst K CC = true) (fA : PySem.W.findIn K (.ref CC) "__sub__" = some (some (.ref gA))) (iA : PySem.W.isFn K (.ref gA) = true) (bA : Binds K fdA ["self", "other"] []) (GA : FnOk P w K mg base CX0 5 gA fdA ["self", "other"] (spBin K CP CC subL)) : FnOk P w K mg base CX0 6 f fd ["self", "other"] (spBin K CP CC subL) := by
  refine Fn.ok scIsub (fun vs H Q E h => ?_) (fun cdv A outer s H vs Q E hr h => ?_)
  · obtain ⟨x, dx, y, B, x2, dx2, y2, B2, d, cs, ds, rfl, _⟩ := h
    rfl
  · obtain ⟨x, dx, y, B, x2, dx2, y2, B2, d, cs, ds, rfl, h, h2, g, i1, i2, k⟩ := h
    exact ⟨_, pss_one (ps_ret (pe_op (op_ownBin (op := .Sub) GA bA pass0 hr sf fA iA) (pv 0) (pv 1))), _, rfl, _, rfl, x, dx, _, rfl, h.ins, ty_ctr h2 Tc.cl Tt Ct, x, dx, y, B, x2, dx2, y2, B2, d, cs, ds, rfl, h, h2, g, i1, i2, fun H' x3 dx3 B3 s3 nx nB hh => ⟨⟨_, rfl⟩, k H' x3 dx3 B3 s3 nx nB hh⟩⟩
/-! ### of_ways, everything -/
theorem scEvery : FnScope ["program", "counters"] ["program"] (defScope sEvery) := ⟨rfl, rfl, rfl, by decide +kernel, rfl, by decide +kernel, by decide +kernel⟩
def spEvery (K : PySem.W.Frag) (CP CC : Addr) : Sp := fun vs H Q _ => ∃ (y dy L S F : Addr) (d : PD), vs = [.ref y] ∧ ProgAt K CP H y dy L S F d ∧ PDg d ∧ ∀ (H' : Hp) (x dx B : Addr), Same H H' → H x = none → H B = none → CtrAt K CP CC H' x dx y B d (selC d (allC d)) → Q (.ref x) H'
theorem ok_every {f fA fI : Addr} {fd fdA : FuncData} (Fn : Fun K "everything" "Counters.everything" sEvery f fd) (Tc : CTc K mg CC) (M : Mk K CC fI) (FI : FnR P w K mg base CX0 3 fI (spStar 2 (spInitC K CP CC))) (FA : Fun K "all_counters" "all_counters" sAll fA fdA) (bA : Binds K fdA ["program"] []) (gA : mg "all_counters" = some (.ref fA)) (GA : FnOk P w K mg base CX0 2 fA fdA ["program"] (spAllC K CP)) : FnOk P w K mg base CX0 5 f fd ["program"] (spEvery K CP CC) := by
  refine Fn.ok scEvery (fun vs H Q E h => ?_) (fun cdv A outer s H vs Q E hr h => ?_)
  · obtain ⟨y, dy, L, S, F, d, rfl, _⟩ := h
    rfl
  · obtain ⟨y, dy, L, S, F, d, rfl, pr, g, k⟩ := h
    have nd := scEvery.nd
    refine ⟨_, pss_cons (ps_set (i := 1) nd rfl (Or.inl rfl) (pe_call GA (hr.mono (by decide)) (by rfl) gA FA.kp bA .nil pass0 (pa_cons (pv 0) pa_nil))) (pss_one (ps_ret (pe_makeS M FI hr (by rfl) Tc.gC pass0 (pa_cons (pv 0) (StX.pa_star (pv 1) pa_nil))))), ?_⟩
    refine ⟨_, rfl, y, dy, L, S, F, d, rfl, pr, g.sz, fun p H1 ks np s1 hp hks => ?_⟩
    refine ⟨_, rfl, _, rfl, p, ks, rfl, .inr (SqL.of hp), ?_⟩
    unfold tNil
    simp only [List.append_nil]
    exact cmk_new (as := allC d) (pr.same s1) g hks ⟨fun c hc => hc, g.nd⟩ fun H' x3 dx3 B3 s3 nx nB hh => k H' x3 dx3 B3 (s1.trans s3) (fr_of s1 nx) (fr_of s1 nB) hh
/-- [("tag", x) for x in a tuple of words] -/
theorem rd_tagT {H : Hp} {a D : Addr} {ws : List Str} {tg : Str} {i : Nat} {σ : L2.St} {Qd : Hp → Prop} (ha : SqT K H a (ws.map V.str)) (hz : ws.length ≤ 200) (nD : H D = none) (hi : ∀ v, ((wipe σ [i]).set i (some v))[i]? = some (some v)) (hw : ∀ v, wipe ((wipe σ [i]).set i (some v)) [i] = wipe σ [i])
    (k : ∀ H' us, Same H H' → H' D = some (.lst us) → TupLs K H' us (tag tg ws) → Qd H') :
    ∃ W : Nat → Nat → Hp → Prop, (∃ m, W 0 m (upd H D (.lst []))) ∧ ∀ j m H, W j m H →
      ((Itt K a).stop j H ∧ Qd H) ∨ ((Itt K a).go j H ∧ ∃ Nx : Hp → Prop, (∀ H', Nx H' → ∃ m', m' < m ∧ W (j + 1) m' H') ∧ ∀ x H', (Itt K a).yld j H x H' → gName i x (wipe σ [i]) H' fun σ2 H2 => wipe σ2 [i] = wipe σ [i] ∧ tYes σ2 H2 fun b H3 =>
        if b = true then tTup (tCons (tC (V.str tg)) (tCons (tVar i) tNil)) σ2 H3 fun y H4 => ∃ acc, H4 D = some (.lst acc) ∧ acc.length < sizeLine ∧ Nx (upd H4 D (.lst (acc ++ [y]))) else Nx H3) := by
  refine lc_rel walk_tup nD (TupT K) (fun s h => h.same s) (fun hD h => tup_lst hD h) (fun j => tag tg (ws.take j)) rfl (fun j _ => by rw [tag_len]; exact Nat.le_trans (List.length_take_le' j ws) (by omega)) (fun H' s => sqT_same ha s) ?_ (fun H' ts s h r => k H' ts s h (by rw [List.length_map, List.take_length] at r; exact r))
  rintro j v H1 H2 Pn hj s1 ⟨rfl, ev⟩ fin skip
  obtain ⟨x, hx, rfl⟩ : ∃ x, ws[j]? = some x ∧ v = .str x := by
    rw [List.getElem?_map] at ev
    cases e : ws[j]? with
    | none => rw [e] at ev; cases ev
    | some x => rw [e] at ev; exact ⟨x, rfl, (Option.some.inj ev).symm⟩
  refine ⟨hw _, ?_⟩
  unfold tYes
  dsimp only
  rw [if_pos rfl]
  refine ⟨_, hi _, by show 2 ≤ sizeLine; decide, fun q nq => ?_⟩
  exact fin _ _ [tg, x] (sm nq) ⟨q, rfl, SqT.of upd_same⟩ (tag_snoc hx)
abbrev nsOfW : List Str := ["program", "ways", "at", "way", "counters"]
theorem scOfW : FnScope nsOfW (([("program" : Str)] : List Str) ++ [("ways" : Str)]) (defScope sOfWays) := ⟨rfl, rfl, rfl, by decide +kernel, rfl, by decide +kernel, by decide +kernel⟩
def spOfW (K : PySem.W.Frag) (CP CC : Addr) : Sp := fun vs H Q _ => ∃ (y dy L S F : Addr) (d : PD) (t : Addr) (ws : List Str), vs = [.ref y, .ref t] ∧ ProgAt K CP H y dy L S F d ∧ PDg d ∧ SqT K H t (ws.map V.str) ∧ ws.Nodup ∧ (∀ x ∈ ws, x ∈ keysL d.ls) ∧ ∀ (H' : Hp) (x dx B : Addr), Same H H' → H x = none → H B = none → CtrAt K CP CC H' x dx y B d (selC d (tag "way" ws)) → Q (.ref x) H'
theorem tag_in {d : PD} {ws : List Str} (n : ws.Nodup) (h : ∀ x ∈ ws, x ∈ keysL d.ls) : CsIn d (tag "way" ws) where
  sub := fun c hc => by
    obtain ⟨x, hx, rfl⟩ := List.mem_map.mp hc
    exact List.mem_append_left _ (List.mem_map.mpr ⟨x, h x hx, rfl⟩)
  nd := by
    unfold tag
    refine List.Pairwise.map _ (fun a b ne e => ?_) n
    exact ne (List.cons.inj (List.cons.inj e).2).1
theorem ok_ofW {f fR fI gH : Addr} {fd fdR fdH : FuncData} (Fn : Fun K "of_ways" "Counters.of_ways" sOfWays f fd) (T : PT0 mg) (Tc : CTc K mg CC) (mE : mg "enumerate" = none) (M : Mk K CC fI) (FI : FnR P w K mg base CX0 3 fI (spStar 2 (spInitC K CP CC))) (FR : Fun K "require_program" "require_program" sReq fR fdR) (bR : Binds K fdR ["program"] []) (gR : mg "require_program" = some (.ref fR)) (GR : FnOk P w K mg base CX0 1 fR fdR ["program"] (spReq K CP))
    (fH : PySem.W.findIn K (.ref CP) "__contains__" = some (some (.ref gH))) (iH : PySem.W.isFn K (.ref gH) = true) (bH : Binds K fdH ["self", "x"] []) (GH : FnOk P w K mg base CX0 2 gH fdH ["self", "x"] (spHas K CP)) : FnR P w K mg base CX0 5 f (spStar 1 (spOfW K CP CC)) := by
  refine starOk (ps := ["program"]) Fn scOfW (fun kV doc pm an cdv ct => StX.bind_star1 (B := fun us => bindArgs _ ⟨us, []⟩) (fun _ => rfl) (fun _ _ _ => rfl)) (fun cdv A outer s H vs Q E hr h => ?_)
  obtain ⟨y, dy, L, S, F, d, t, ws, rfl, pr, g, ht, nw, sub, k⟩ := h
  have nd := scOfW.nd
  have hr1 : Room 1 _ := hr.mono (by decide)
  have hr2 : Room 2 _ := hr.mono (by decide)
  refine ⟨_, pss_cons (ps_expr (pe_call GR hr1 (by rfl) gR FR.kp bR .nil pass0 (pa_cons (pv 0) pa_nil)))
    (pss_cons (ps_for PassesOwn.never rfl (EN.pi_enumT (by rfl) mE (pa_cons (pv 1) pa_nil)) (pg_tup rfl (pgs_cons (pg_name (i := 2) nd rfl (Or.inl rfl)) (pgs_cons (pg_name (i := 3) nd rfl (Or.inl rfl)) pgs_nil)))
      (pss_one (ps_if (PW.pt (pw_or (pt_cmpR (op_ownNotIn (C := CP) GH bH pass0 hr2 fH iH) (pv 3) (pv 0) rfl) (pw_or1 (pt_cmpR op_in_seq (pv 3) (pe_slice sl_tupA (pv 1) po_none (po_some (pv 2))) rfl)))) pss_dead pss_nil)))
    (pss_cons (ps_setLc (i := 4) (own := [("way", 3)]) (g := gName 3) (tt := tYes) rfl nd rfl rfl (sw_true rfl rfl rfl (by decide +kernel)) (pi_tup (pv 1)) (blkOk_by (own := [("way", 3)]) (N := nsOfW) (sc := defScope sOfWays) (by decide +kernel)) (fun _ _ _ _ _ => pg_name (i := 3) nd rfl (Or.inl rfl)) (fun _ _ _ _ _ => pts_nil) (fun _ _ _ _ _ => pe_tup (pa_cons pe_str (pa_cons (pv 3) pa_nil))))
    (pss_one (ps_ret (pe_makeS M FI hr (by rfl) Tc.gC pass0 (pa_cons (pv 0) (StX.pa_star (pv 4) pa_nil))))))), ?_⟩
  refine ⟨_, rfl, y, dy, L, S, F, d, rfl, pr, ?_⟩
  refine ⟨_, rfl, t, _, rfl, ht, for_it (EN.walk_enumT (xs := ws.map V.str)) (fun i σ H' => ∃ (v2 v3 : Option V), σ = [some (.ref y), some (.ref t), v2, v3, none] ∧ Same H H') ⟨_, _, rfl, Same.refl _⟩ (fun i σ H' _ ⟨_, _, _, z⟩ => sqT_same ht z) ?_ ?_⟩
  · rintro i v σ H2 H3 hi ⟨v2, v3, rfl, s2⟩ ⟨T', x0, y0, rfl, nT, rfl, ex0, ey0⟩
    cases ex0
    obtain ⟨wy, hw, rfl⟩ : ∃ wy, ws[i]? = some wy ∧ y0 = .str wy := by
      replace ey0 : (ws.map V.str)[i]? = some y0 := ey0
      rw [List.getElem?_map] at ey0
      cases e : ws[i]? with
      | none => rw [e] at ey0; cases ey0
      | some wy => rw [e] at ey0; exact ⟨wy, rfl, (Option.some.inj ey0).symm⟩
    have s23 : Same H2 (upd H2 T' (.tup [.int (i : Nat), .str wy])) := sm nT
    have hT : (upd H2 T' (.tup [.int (i : Nat), .str wy])) T' = some (.tup [.int (i : Nat), .str wy]) := upd_same
    generalize upd H2 T' (.tup [.int (i : Nat), .str wy]) = H3 at s23 hT
    have s13 := s2.trans s23
    refine ⟨T', _, rfl, SqT.of hT, rfl, _, _, rfl, _, _, rfl, rfl, ?_⟩
    have pr3 := pr.same s13
    refine ⟨_, rfl, _, rfl, y, dy, _, rfl, pr3.ins, y, dy, L, S, F, d, _, rfl, pr3, .inl ⟨wy, rfl, _, rfl, ?_⟩⟩
    rw [decide_eq_true (sub wy (List.mem_of_getElem? hw))]
    refine ⟨_, rfl, iteF ?_⟩
    refine ⟨_, rfl, _, rfl, _, rfl, i, rfl, t, _, rfl, sqT_same ht s13, fun z => ?_, fun z q nq => ?_⟩
    · rw [_root_.HT.sIx_nat] at z
      omega
    · rw [cutV_to, ← List.map_take]
      refine ⟨q, _, rfl, .inr (SqT.of upd_same), rfl, PG.flat_strs _, _, rfl, ?_⟩
      rw [inV_strs, decide_eq_false (nodup_atC nw hw)]
      exact iteF ⟨_, _, rfl, s13.trans (sm nq)⟩
  · rintro σ H2 ⟨v2, v3, rfl, s2⟩
    have ci := tag_in nw sub
    have lw : ws.length ≤ 200 := by
      have z := ci.few g
      rw [tag_len] at z
      exact z
    refine ⟨_, rfl, t, rfl, ⟨_, sqT_same ht s2⟩, fun D nD => rd_tagT (sqT_same ht s2) lw nD (fun v => rfl) (fun v => rfl) fun H3 us s3 hD hus => ?_⟩
    have s13 := s2.trans s3
    refine ⟨_, rfl, _, rfl, D, us, rfl, .inr (SqL.of hD), ?_⟩
    unfold tNil
    simp only [List.append_nil]
    exact cmk_new (as := tag "way" ws) (pr.same s13) g hus ci fun H' x3 dx3 B3 s4 nx nB hh => k H' x3 dx3 B3 (s13.trans s4) (fr_of s13 nx) (fr_of s13 nB) hh
end
end CT


set_option Elab.async false
set_option linter.all false
set_option maxRecDepth 100000
set_option maxHeartbeats 4000000
namespace LH
open PySem L2
def top (i : Nat) : Stmt := PySem.Challenge.pw_countededges_k05_counters_in_sets.main.body.getD i (.Pass ⟨0, 0, 0, 0⟩)
abbrev sNum : Stmt := top 28
abbrev sPool : Stmt := top 29
abbrev sDraw : Stmt := top 30
abbrev sOpen : Stmt := top 31
/-- the module's and built-in names that these defs read -/
structure HT (mg : Str → Option Value) : Prop where
  max : mg "max" = none
  min : mg "min" = none
  int : mg "int" = none
  range : mg "range" = none
  len : mg "len" = none
theorem z420 : (0 : Int) < 420 := by decide
/-- a new object changes nothing that stood -/
theorem sm {H : Hp} {p : Addr} {o : HO} (np : H p = none) : Same H (upd H p o) := fun b u e => by
  rw [upd_ne (ne_of_none e np)]
  exact e
section
variable {P : Program} {w : World} {K : PySem.W.Frag} {mg : Str → Option Value} {base : Heap}
abbrev nsNum : List Str := ["cell", "salt", "sizes", "whole", "left", "result", "k", "one"]
theorem scNum : FnScope nsNum ["cell", "salt", "sizes"] (defScope sNum) := ⟨rfl, rfl, rfl, by decide +kernel, rfl, by decide +kernel, by decide +kernel⟩
def spNum (K : PySem.W.Frag) : Sp := fun vs H Q _ => ∃ (c salt : Int) (a : Addr) (n : Nat), vs = [.int c, .int salt, .ref a] ∧ 0 ≤ salt ∧ salt ≤ 63 ∧ SqL K H a (List.replicate n (V.int 420)) ∧ n ≤ 100 ∧
  ∀ (p : Addr) (rs : List Int) (H' : Hp), H p = none → Same H H' → H' p = some (.lst (rs.map V.int)) → rs.length = n → (∀ r ∈ rs, 0 ≤ r ∧ r < 420) → Q (.ref p) H'
theorem ok_num {f : Addr} {fd : FuncData} (F : Fun K "_law_numbers" "_law_numbers" sNum f fd) (T : HT mg) : FnOk P w K mg base CX0 1 f fd ["cell", "salt", "sizes"] (spNum K) := by
  refine F.ok scNum (fun vs H Q E h => ?_) (fun cdv A outer s H vs Q E hr h => ?_)
  · obtain ⟨c, salt, a, n, rfl, _⟩ := h
    rfl
  · obtain ⟨c, salt, a, n, rfl, s0, s1, hS, hn, k⟩ := h
    refine ⟨_, pss_cons (ps_set (i := 3) scNum.nd rfl (Or.inl rfl) (pe_callB (call_max2 rfl) (by rfl) T.max (by decide +kernel) (pa_cons (pe_callTy call_int1 (by rfl) T.int (by decide +kernel) (pa_cons (pv 0) pa_nil)) (pa_cons (pe_callTy call_int1 (by rfl) T.int (by decide +kernel) (pa_cons (pe_op op_sub (pe_un un_neg pe_int) (pv 0)) pa_nil)) pa_nil))))
      (pss_cons (ps_set (i := 4) scNum.nd rfl (Or.inl rfl) (pv 3))
      (pss_cons (ps_set (i := 5) scNum.nd rfl (Or.inl rfl) (pe_lst pa_nil))
      (pss_cons (ps_for PassesOwn.never rfl (pi_range1 rfl T.range (pa_cons (pe_callB call_len_seq (by rfl) T.len PySem.boot_len (pa_cons (pv 2) pa_nil)) pa_nil)) (pg_name (i := 6) scNum.nd rfl (Or.inl rfl))
        (pss_one (ps_if (pw_and (pt_cmpR op_ge (pv 3) (pe_op op_pow pe_int pe_int) (nomark _)) (pw_and1 (pt_cmpR op_gt (pv 4) pe_int (nomark _)))).pt
          (pss_cons (ps_expr (pe_bm PySem.F.plainAttrs_list PySem.F.slot_list_append PySem.F.type_list_append mt_append (pv 5) (pa_cons (pe_op op_mod (pe_callTy call_int1 (by rfl) T.int (by decide +kernel) (pa_cons (pv 4) pa_nil)) (pe_ix ix_list (pv 2) (pv 6) (fun _ _ => rfl))) pa_nil)))
            (pss_one (ps_set (i := 4) scNum.nd rfl (Or.inl rfl) (pe_op op_fdiv (pv 4) (pe_ix ix_list (pv 2) (pv 6) (fun _ _ => rfl))))))
          (pss_cons (ps_set (i := 7) scNum.nd rfl (Or.inl rfl) (pe_op op_pow (pe_op op_add (pe_op op_add (pe_op op_mod (pe_callTy call_int1 (by rfl) T.int (by decide +kernel) (pa_cons (pv 3) pa_nil)) pe_int) (pe_op op_mul pe_int (pv 1))) pe_int) pe_int))
          (pss_cons (ps_set (i := 7) scNum.nd rfl (Or.inl rfl) (pe_op op_mul (pe_op op_add (pe_op op_mod (pe_callTy call_int1 (by rfl) T.int (by decide +kernel) (pa_cons (pv 7) pa_nil)) pe_int) (pe_op op_mul pe_int (pe_op op_add (pv 6) pe_int))) (pe_op op_add (pv 6) pe_int)))
          (pss_cons (ps_set (i := 7) scNum.nd rfl (Or.inl rfl) (pe_op op_mod (pe_callTy call_int1 (by rfl) T.int (by decide +kernel) (pa_cons (pv 7) pa_nil)) pe_int))
          (pss_cons (ps_set (i := 7) scNum.nd rfl (Or.inl rfl) (pe_op op_mul (pe_op op_mod (pe_callTy call_int1 (by rfl) T.int (by decide +kernel) (pa_cons (pe_op op_pow (pv 7) pe_int) pa_nil)) pe_int) pe_int))
          (pss_cons (ps_set (i := 7) scNum.nd rfl (Or.inl rfl) (pe_op op_mod (pe_callTy call_int1 (by rfl) T.int (by decide +kernel) (pa_cons (pv 7) pa_nil)) pe_int))
          (pss_one (ps_expr (pe_bm PySem.F.plainAttrs_list PySem.F.slot_list_append PySem.F.type_list_append mt_append (pv 5) (pa_cons (pe_op op_mod (pe_callTy call_int1 (by rfl) T.int (by decide +kernel) (pa_cons (pe_op op_fdiv (pv 7) pe_int) pa_nil)) (pe_ix ix_list (pv 2) (pv 6) (fun _ _ => rfl))) pa_nil)))))))))
        )))
      (pss_one (ps_ret (pv 5)))))), ?_⟩
    -- whole = max(int(cell), int(-1 - cell)); left = whole; result = []
    refine ⟨_, rfl, .inl ⟨_, rfl, _, rfl, _, rfl, _, _, rfl, rfl, .inl ⟨_, rfl, _, _, rfl, ?_⟩⟩⟩
    generalize (if (-1 - c : Int) > c then -1 - c else c) = W
    refine ⟨_, rfl, (by show 0 ≤ sizeLine; exact Nat.zero_le _), fun p np => ?_⟩
    have hS' : ∀ l, SqL K (upd H p (.lst l)) a (List.replicate n (V.int 420)) := fun l => (sm np).seq hS
    have el : (((List.replicate n (V.int 420)).length : Nat) : Int).toNat = n := by rw [List.length_replicate]; rfl
    have lz : (((List.replicate n (V.int 420)).length : Nat) : Int) ≤ 100 := by rw [List.length_replicate]; omega
    refine ⟨_, rfl, a, _, rfl, .inl (hS' _), _, rfl, by omega, by omega, ?_⟩
    rw [el]
    refine for_range (lo := 0) (n := n) (fun i σ H' => ∃ (left : Int) (rs : List Int) (v6 v7 : Option V), σ = [some (.int c), some (.int salt), some (.ref a), some (.int W), some (.int left), some (.ref p), v6, v7] ∧
      H' = upd H p (.lst (rs.map V.int)) ∧ rs.length = i ∧ (∀ r ∈ rs, 0 ≤ r ∧ r < 420)) ⟨W, [], none, none, rfl, rfl, rfl, fun r h => nomatch h⟩ ?_ ?_
    · rintro i σ H' hi ⟨left, rs, v6, v7, rfl, rfl, hl, hb⟩
      have at420 : atI (List.replicate n (V.int 420)) ((0 : Int) + (i : Nat)) = some (V.int 420) := by
        rw [Int.zero_add]
        exact atI_nat (by rw [List.getElem?_replicate, if_pos hi])
      have next : ∀ (x left' : Int) (v7' : Option V), 0 ≤ x → x < 420 → ∃ (left : Int) (rs' : List Int) (v6 v7 : Option V), [some (V.int c), some (V.int salt), some (V.ref a), some (V.int W), some (V.int left'), some (V.ref p), some (V.int ((0 : Int) + (i : Nat))), v7'] = [some (V.int c), some (V.int salt), some (V.ref a), some (V.int W), some (V.int left), some (V.ref p), v6, v7] ∧
          upd (upd H p (.lst (rs.map V.int))) p (.lst (rs.map V.int ++ [V.int x])) = upd H p (.lst (rs'.map V.int)) ∧ rs'.length = i + 1 ∧ (∀ r ∈ rs', 0 ≤ r ∧ r < 420) := fun x left' v7' x0 x1 => by
        refine ⟨left', rs ++ [x], _, v7', rfl, ?_, by rw [List.length_append, hl]; rfl, fun r h => ?_⟩
        · rw [upd_upd, List.map_append]; rfl
        · rcases List.mem_append.mp h with h | h
          · exact hb r h
          · rw [List.mem_singleton.mp h]; exact ⟨x0, x1⟩
      have m0 : ∀ z : Int, 0 ≤ z % 420 ∧ z % 420 < 420 := fun z => ⟨Int.emod_nonneg _ (by decide), Int.emod_lt_of_pos _ (by decide)⟩
      have sz : (rs.map V.int).length < sizeLine := by rw [List.length_map, hl]; exact small1000 (by omega)
      refine ⟨_, rfl, _, _, rfl, rfl, ⟨by decide, by decide, by decide⟩, _, _, rfl, rfl, _, rfl, ?_⟩
      have nb : ∀ (z m : Int), 0 < m → m < 2 ^ 40 → (z % m).natAbs < 2 ^ 41 := fun z m h1 h2 => by
        have a1 := Int.emod_nonneg z (Int.ne_of_gt h1)
        have a2 := Int.emod_lt_of_pos z h1
        omega
      have ib : (0 : Int) + (i : Nat) = (i : Int) := Int.zero_add _
      refine ite2 (fun _ => ⟨_, rfl, _, _, rfl, rfl, _, rfl, ite2 (fun _ => ?_) (fun _ => ?_)⟩) (fun _ => iteF ?_)
      · -- result.append(int(left) % sizes[k]); left = left // sizes[k]
        refine ⟨_, rfl, .inl ⟨rfl, _, SqL.of upd_same⟩, _, rfl, .inl ⟨_, rfl, _, rfl, _, rfl, a, _, _, _, rfl, rfl, hS' _, at420, _, _, rfl, rfl, z420, p, _, _, rfl, rfl, upd_same, sz, ?_⟩⟩
        have hS2 : SqL K (upd (upd H p (.lst (rs.map V.int))) p (.lst (rs.map V.int ++ [V.int (left % 420)]))) a (List.replicate n (V.int 420)) := by rw [upd_upd]; exact hS' _
        exact ⟨_, rfl, _, rfl, _, rfl, a, _, _, _, rfl, rfl, hS2, at420, _, _, rfl, rfl, ⟨by decide, by decide⟩, next _ _ _ (m0 _).1 (m0 _).2⟩
      all_goals
        refine ⟨_, rfl, .inl ⟨_, rfl, _, _, rfl, rfl, (show (0 : Int) < _ by decide), _, rfl, _, _, rfl, rfl, .inl ⟨by decide, by decide⟩, _, _, rfl, rfl, _, _, rfl, rfl, _, _, rfl, rfl, ⟨by decide, by decide, ?_⟩, ?_⟩⟩
        · have z := nb W 2147483629 (by decide) (by decide)
          omega
        · generalize ((W % 2147483629 + 7919 * salt + 1) ^ (Int.toNat 3) : Int) = o1
          refine ⟨_, rfl, .inl ⟨_, rfl, _, _, rfl, rfl, (show (0 : Int) < _ by decide), _, rfl, _, _, rfl, rfl, _, _, rfl, rfl, .inl ⟨by decide, by decide⟩, _, _, rfl, rfl, _, rfl, _, _, rfl, rfl, _, _, rfl, rfl, .inr ⟨by rw [ib]; omega, by rw [ib]; omega⟩, ?_⟩⟩
          generalize ((o1 % 2147483647 + 104729 * ((0 : Int) + (i : Nat) + 1)) * ((0 : Int) + (i : Nat) + 3) : Int) = o2
          refine ⟨_, rfl, .inl ⟨_, rfl, _, _, rfl, rfl, (show (0 : Int) < _ by decide), ?_⟩⟩
          refine ⟨_, rfl, _, _, rfl, rfl, ⟨by decide, by decide, ?_⟩, .inl ⟨_, rfl, _, _, rfl, rfl, (show (0 : Int) < _ by decide), _, _, rfl, rfl, .inr ⟨by decide, by decide⟩, ?_⟩⟩
          · have z := nb o2 2147483629 (by decide) (by decide)
            omega
          · generalize ((o2 % 2147483629) ^ (Int.toNat 5) % 2147483647 * 48271 : Int) = o3
            refine ⟨_, rfl, .inl ⟨_, rfl, _, _, rfl, rfl, (show (0 : Int) < _ by decide), ?_⟩⟩
            exact ⟨_, rfl, .inl ⟨rfl, _, SqL.of upd_same⟩, _, rfl, _, _, rfl, rfl, ⟨by decide, by decide⟩, .inl ⟨_, rfl, _, rfl, _, rfl, a, _, _, _, rfl, rfl, hS' _, at420, _, _, rfl, rfl, z420, p, _, _, rfl, rfl, upd_same, sz, next _ _ _ (m0 _).1 (m0 _).2⟩⟩
    · rintro σ H' ⟨left, rs, v6, v7, rfl, rfl, hl, hb⟩
      exact ⟨_, rfl, k p rs _ np (sm np) upd_same hl hb⟩
end
end LH


set_option Elab.async false
set_option linter.all false
set_option maxRecDepth 100000
set_option maxHeartbeats 4000000
namespace LH
open PySem L2
section
variable {P : Program} {w : World} {K : PySem.W.Frag} {mg : Str → Option Value} {base : Heap}
/-- a pool: its list of drawn numbers at q, the place of the next one -/
structure PoolAt (H : Hp) (p q : Addr) (rs : List Int) (i : Int) : Prop where
  hp : H p = some (.lst [.ref q, .int i])
  hq : H q = some (.lst (rs.map V.int))
  i0 : 0 ≤ i
  len : rs.length ≤ 100
  bd : ∀ r ∈ rs, 0 ≤ r ∧ r < 420
theorem PoolAt.ne {H : Hp} {p q : Addr} {rs : List Int} {i : Int} (h : PoolAt H p q rs i) : p ≠ q := fun e => by
  have z := h.hp
  rw [e, h.hq] at z
  have z2 := Option.some.inj z
  cases rs with
  | nil => cases z2
  | cons r rs => cases z2
theorem PoolAt.same {H H' : Hp} {p q : Addr} {rs : List Int} {i : Int} (h : PoolAt H p q rs i) (s : Same H H') : PoolAt H' p q rs i := ⟨s _ _ h.hp, s _ _ h.hq, h.i0, h.len, h.bd⟩
theorem scPool : FnScope ["cell", "salt", "many"] ["cell", "salt", "many"] (defScope sPool) := ⟨rfl, rfl, rfl, by decide +kernel, rfl, by decide +kernel, by decide +kernel⟩
def spPool : Sp := fun vs H Q _ => ∃ (c salt : Int) (m : Nat), vs = [.int c, .int salt, .int m] ∧ 0 ≤ salt ∧ salt ≤ 63 ∧ m ≤ 100 ∧
  ∀ (p q : Addr) (rs : List Int) (H' : Hp), H p = none → H q = none → Same H H' → PoolAt H' p q rs 0 → rs.length = m → Q (.ref p) H'
theorem ok_pool {f fN : Addr} {fd fdN : FuncData} (F : Fun K "_law_pool" "_law_pool" sPool f fd) (T : HT mg) (FN : Fun K "_law_numbers" "_law_numbers" sNum fN fdN) (bN : Binds K fdN ["cell", "salt", "sizes"] []) (gN : mg "_law_numbers" = some (.ref fN)) :
    FnOk P w K mg base CX0 2 f fd ["cell", "salt", "many"] spPool := by
  have GN : FnOk P w K mg base CX0 1 fN fdN ["cell", "salt", "sizes"] (spNum K) := ok_num FN T
  refine F.ok scPool (fun vs H Q E h => ?_) (fun cdv A outer s H vs Q E hr h => ?_)
  · obtain ⟨c, salt, m, rfl, _⟩ := h
    rfl
  · obtain ⟨c, salt, m, rfl, s0, s1, hm, k⟩ := h
    refine ⟨_, pss_one (ps_ret (pe_lst (pa_cons (pe_call GN hr rfl gN FN.kp bN .nil pass0 (pa_cons (pv 0) (pa_cons (pv 1) (pa_cons (pe_op op_rep (pe_lst (pa_cons pe_int pa_nil)) (pv 2)) pa_nil)))) (pa_cons pe_int pa_nil)))), ?_⟩
    refine ⟨_, rfl, _, rfl, (by show 1 ≤ sizeLine; decide), fun l nl => ⟨_, rfl, l, _, _, rfl, rfl, upd_same, by omega, by omega, ?_, fun x nx => ?_⟩⟩
    · show 1 * _ ≤ sizeLine
      rw [sizeLine_eq, Int.toNat_natCast]
      omega
    · have e : (List.replicate (m : Int).toNat [V.int 420]).flatten = List.replicate m (V.int 420) := by
        rw [Int.toNat_natCast, List.flatten_replicate_singleton]
      rw [e]
      have sA : Same H (upd (upd H l (.lst [V.int 420])) x (.lst (List.replicate m (V.int 420)))) := (sm nl).trans (sm nx)
      refine ⟨c, salt, x, m, rfl, s0, s1, SqL.of upd_same, hm, fun q rs H1 nq s1' hq hl hb => ⟨(by show 2 ≤ sizeLine; decide), fun p np => ?_⟩⟩
      have sB : Same H1 (upd H1 p (.lst [V.ref q, V.int 0])) := sm np
      exact k p q rs _ (sA.free (s1'.free np)) (sA.free nq) ((sA.trans s1').trans sB) ⟨upd_same, sB _ _ hq, Int.le_refl 0, by omega, hb⟩ hl
abbrev nsDraw : List Str := ["pool", "many", "at"]
theorem scDraw : FnScope nsDraw ["pool", "many"] (defScope sDraw) := ⟨rfl, rfl, rfl, by decide +kernel, rfl, by decide +kernel, by decide +kernel⟩
/-- a draw below m: the pool's place moves on, nothing else changes -/
def spDraw : Sp := fun vs H Q _ => ∃ (p q : Addr) (rs : List Int) (i m : Int), vs = [.ref p, .int m] ∧ PoolAt H p q rs i ∧ 0 < m ∧
  ∀ (r : Int), 0 ≤ r → r < m → Q (.int r) (upd H p (.lst [.ref q, .int (i + 1)]))
theorem ok_draw {f : Addr} {fd : FuncData} (F : Fun K "_law_draw" "_law_draw" sDraw f fd) (T : HT mg) : FnOk P w K mg base CX0 1 f fd ["pool", "many"] spDraw := by
  refine F.ok scDraw (fun vs H Q E h => ?_) (fun cdv A outer s H vs Q E hr h => ?_)
  · obtain ⟨p, q, rs, i, m, rfl, _⟩ := h
    rfl
  · obtain ⟨p, q, rs, i, m, rfl, hP, m0, k⟩ := h
    have hne := hP.ne
    refine ⟨_, pss_cons (ps_set (i := 2) scDraw.nd rfl (Or.inl rfl) (pe_ix ix_list (pv 0) pe_int (fun _ _ => rfl)))
      (pss_cons (ps_asg (pe_op op_add (pv 2) pe_int) (pg_sub (pv 0) pe_int set_list))
      (pss_one (ps_ret (pe_ifExp (pt_cmpR op_lt (pv 2) (pe_callB call_len_seq (by rfl) T.len PySem.boot_len (pa_cons (pe_ix ix_list (pv 0) pe_int (fun _ _ => rfl)) pa_nil)) (nomark _))
        (pe_op op_mod (pe_callTy call_int1 (by rfl) T.int (by decide +kernel) (pa_cons (pe_ix ix_list (pe_ix ix_list (pv 0) pe_int (fun _ _ => rfl)) (pv 2) (fun _ _ => rfl)) pa_nil)) (pv 1)) pe_int)))), ?_⟩
    refine ⟨_, rfl, p, _, _, _, rfl, rfl, SqL.of hP.hp, atI_nat (j := 1) rfl, ?_⟩
    refine ⟨_, rfl, _, _, rfl, rfl, _, rfl, p, _, _, 1, rfl, rfl, hP.hp, rfl, ?_⟩
    have h1 : ∀ o, (upd H p o) q = some (.lst (rs.map V.int)) := fun o => by rw [upd_ne hne.symm]; exact hP.hq
    refine ⟨_, rfl, _, rfl, p, _, _, _, rfl, rfl, SqL.of upd_same, atI_nat (j := 0) rfl, q, _, rfl, .inl (SqL.of (h1 _)), _, _, rfl, rfl, _, rfl, ?_⟩
    refine ite2 (fun hlt => ?_) (fun _ => ?_)
    · have hlt' : i < ((rs.map V.int).length : Int) := of_decide_eq_true hlt
      rw [List.length_map] at hlt'
      obtain ⟨j, rfl⟩ : ∃ j : Nat, i = (j : Int) := ⟨i.toNat, (Int.toNat_of_nonneg hP.i0).symm⟩
      have hj : j < rs.length := by omega
      have hat : (rs.map V.int)[j]? = some (V.int rs[j]) := by rw [List.getElem?_map, List.getElem?_eq_getElem hj]; rfl
      refine ⟨_, rfl, p, _, _, _, rfl, rfl, SqL.of upd_same, atI_nat (j := 0) rfl, _, rfl, q, _, _, _, rfl, rfl, SqL.of (h1 _), atI_nat hat, .inl ⟨_, rfl, _, rfl, _, _, rfl, rfl, m0, ?_⟩⟩
      exact k _ (Int.emod_nonneg _ (Int.ne_of_gt m0)) (Int.emod_lt_of_pos _ m0)
    · exact k 0 (Int.le_refl 0) m0
abbrev nsOpen : List Str := ["script", "k", "many", "cell"]
theorem scOpen : FnScope nsOpen ["script", "k", "many"] (defScope sOpen) := ⟨rfl, rfl, rfl, by decide +kernel, rfl, by decide +kernel, by decide +kernel⟩
def spOpen (K : PySem.W.Frag) : Sp := fun vs H Q _ => ∃ (a : Addr) (ns : List Int) (j m : Nat), vs = [.ref a, .int j, .int m] ∧ SqL K H a (ns.map V.int) ∧ (ns = [] ∨ j < ns.length) ∧ j ≤ 63 ∧ m ≤ 100 ∧
  ∀ (p q : Addr) (rs : List Int) (H' : Hp), H p = none → H q = none → Same H H' → PoolAt H' p q rs 0 → rs.length = m → Q (.ref p) H'
theorem iteNS' {b : Bool} {A B : Prop} (h : b = false) (hb : B) : if b = true then A else B := by
  rw [h]
  exact iteF hb
theorem iteS' {b : Bool} {A B : Prop} (h : b = true) (ha : A) : if b = true then A else B := by
  rw [h]
  exact iteT ha
theorem dp_ints {H : Hp} : ∀ ns : List Int, DpAll K H (ns.map V.int) (ns.map PyData.int)
  | [] => .nil
  | n :: ns => .cons (.int n) (dp_ints ns)
theorem ok_open {f fP fN : Addr} {fd fdP fdN : FuncData} (F : Fun K "_law_opened" "_law_opened" sOpen f fd) (T : HT mg) (FP : Fun K "_law_pool" "_law_pool" sPool fP fdP) (bP : Binds K fdP ["cell", "salt", "many"] []) (gP : mg "_law_pool" = some (.ref fP))
    (FN : Fun K "_law_numbers" "_law_numbers" sNum fN fdN) (bN : Binds K fdN ["cell", "salt", "sizes"] []) (gN : mg "_law_numbers" = some (.ref fN)) :
    FnOk P w K mg base CX0 3 f fd ["script", "k", "many"] (spOpen K) := by
  have GP : FnOk P w K mg base CX0 2 fP fdP ["cell", "salt", "many"] spPool := ok_pool FP T FN bN gN
  refine F.ok scOpen (fun vs H Q E h => ?_) (fun cdv A outer s H vs Q E hr h => ?_)
  · obtain ⟨a, ns, j, m, rfl, _⟩ := h
    rfl
  · obtain ⟨a, ns, j, m, rfl, hS, hj, hj2, hm, k⟩ := h
    refine ⟨_, pss_cons (ps_set (i := 3) scOpen.nd rfl (Or.inl rfl) (pe_ifExp (pt_cmpR (op_neD hr.units) (pv 0) (pe_lst pa_nil) (nomark _)) (pe_ix ix_list (pv 0) (pv 1) (fun _ _ => rfl)) pe_int))
      (pss_one (ps_ret (pe_call GP hr rfl gP FP.kp bP .nil pass0 (pa_cons (pv 3) (pa_cons (pv 1) (pa_cons (pv 2) pa_nil)))))), ?_⟩
    refine ⟨_, rfl, (by show 0 ≤ sizeLine; exact Nat.zero_le _), fun l nl => ?_⟩
    have s1 : Same H (upd H l (.lst [])) := sm nl
    have hS1 := s1.seq hS
    have fin : ∀ c : Int, tRet (tCall spPool [] E0 (tCons (tVar 3) (tCons (tVar 1) (tCons (tVar 2) tNil)))) { nx := fun x H' => Q V.non H', rt := Q } [some (.ref a), some (.int j), some (.int m), some (.int c)] (upd H l (.lst [])) := fun c =>
      ⟨_, rfl, _, rfl, _, rfl, c, j, m, rfl, by omega, by omega, hm, fun p q rs H' np nq s2 hP hl => k p q rs H' (s1.free np) (s1.free nq) (s1.trans s2) hP hl⟩
    refine ⟨_, _, .lst hS1 (dp_ints ns), .lst (SqL.of upd_same) .nil, PySem.W.ke_shaped_ints ns, PySem.W.ke_shaped_ints [], _, rfl, ?_⟩
    cases ns with
    | nil =>
      refine iteNS' (by first | rfl | decide) ?_
      exact fin 7
    | cons n ns =>
      have hj' : j < (n :: ns).length := by
        rcases hj with e | e
        · cases e
        · exact e
      refine iteS' (by first | rfl | decide) ?_
      have hat : ((n :: ns).map V.int)[j]? = some (V.int ((n :: ns)[j])) := by rw [List.getElem?_map, List.getElem?_eq_getElem hj']; rfl
      exact ⟨_, rfl, _, rfl, a, _, _, _, rfl, rfl, hS1, atI_nat hat, fin _⟩
end
end LH


set_option Elab.async false
set_option linter.all false
set_option maxRecDepth 100000
set_option maxHeartbeats 4000000
namespace LW
open PySem L2 PG
open LH hiding sm top
abbrev sWords : Stmt := LH.top 32
abbrev sNames : Stmt := LH.top 33
/-- all but the pool stays -/
def But (p : Addr) (H H' : Hp) : Prop := ∀ b o, b ≠ p → H b = some o → H' b = some o
theorem But.refl (p : Addr) (H : Hp) : But p H H := fun _ _ _ h => h
theorem But.trans {p : Addr} {H H1 H2 : Hp} (a : But p H H1) (b : But p H1 H2) : But p H H2 := fun q o n h => b q o n (a q o n h)
theorem But.of {p : Addr} {H H' : Hp} (s : Same H H') : But p H H' := fun q o _ h => s q o h
theorem But.upd {p : Addr} {H : Hp} (o : HO) : But p H (upd H p o) := fun q u n h => by rw [upd_ne n]; exact h
theorem pool_step {H : Hp} {p q : Addr} {rs : List Int} {i : Int} (h : PoolAt H p q rs i) : PoolAt (upd H p (.lst [.ref q, .int (i + 1)])) p q rs (i + 1) :=
  ⟨upd_same, by rw [upd_ne h.ne.symm]; exact h.hq, by have := h.i0; omega, h.len, h.bd⟩
theorem But.free {p b : Addr} {H H' : Hp} (s : But p H H') (nb : b ≠ p) (h : H' b = none) : H b = none := by
  cases z : H b with
  | none => rfl
  | some o => rw [s b o nb z] at h; cases h
theorem nat_of {r m : Int} (h0 : 0 ≤ r) (h1 : r < m) : ∃ k : Nat, r = (k : Int) ∧ (k : Int) < m := ⟨r.toNat, (Int.toNat_of_nonneg h0).symm, by omega⟩
def rot (ws : List Str) (k m : Nat) : List Str := (ws.drop k ++ ws.take k).take m
theorem rot_mem {ws : List Str} {k m : Nat} {x : Str} (h : x ∈ rot ws k m) : x ∈ ws := by
  rcases List.mem_append.mp (List.mem_of_mem_take h) with z | z
  · exact List.mem_of_mem_drop z
  · exact List.mem_of_mem_take z
theorem rot_nodup {ws : List Str} {k m : Nat} (h : ws.Nodup) : (rot ws k m).Nodup := by
  have p : (ws.drop k ++ ws.take k).Perm ws := by
    refine List.perm_append_comm.trans ?_
    rw [List.take_append_drop]
  exact (p.nodup_iff.mpr h).sublist (List.take_sublist _ _)
theorem rot_len {ws : List Str} {k m : Nat} (h : m ≤ ws.length) : (rot ws k m).length = m := by
  unfold rot
  rw [List.length_take, List.length_append, List.length_drop, List.length_take]
  omega
theorem cut_from (ws : List Str) {k : Nat} (h : k ≤ ws.length) : cutV (ws.map V.str) (some (k : Int)) none = (ws.drop k).map V.str := by
  unfold cutV
  rw [_root_.HT.sIx_nat, _root_.HT.sIx_none, List.length_map, Nat.min_eq_left h, List.map_drop]
  exact List.take_of_length_le (by rw [List.length_drop, List.length_map]; exact Nat.le_refl _)
theorem cut_to (ws : List Str) (k : Nat) : cutV (ws.map V.str) none (some (k : Int)) = (ws.take k).map V.str := by
  unfold cutV
  rw [_root_.HT.sIx_nat, _root_.HT.sIx_none, List.length_map, List.drop_zero, Nat.sub_zero, List.map_take]
  by_cases h : k ≤ ws.length
  · rw [Nat.min_eq_left h]
  · rw [Nat.min_eq_right (by omega), List.take_of_length_le (by rw [List.length_map]; exact Nat.le_refl _), List.take_of_length_le (by rw [List.length_map]; omega)]
def menuA : List Str := ["a", "b", "c", "d", "e", "f", "g"]
def menuB : List Str := ["x", "way", "runs", "stop", "b", "zz", "place"]
def menuN : List Str := ["p", "q", "r", "s", "t", "u", "v", "x", "b", "a", "way", "none"]
theorem menus_ok : (menuA.Nodup ∧ ∀ x ∈ menuA, isWord x = true) ∧ (menuB.Nodup ∧ ∀ x ∈ menuB, isWord x = true) ∧ (menuN.Nodup ∧ ∀ x ∈ menuN, isWord x = true) := by decide +kernel
section
variable {P : Program} {w : World} {K : PySem.W.Frag} {mg : Str → Option Value} {base : Heap}
/-- a list of m unlike words, new -/
def spWordsL (ok : List Str → Prop) (mx : Nat) : Sp := fun vs H Q _ => ∃ (p q : Addr) (rs : List Int) (i : Int) (m : Nat), vs = [.ref p, .int m] ∧ PoolAt H p q rs i ∧ m ≤ mx ∧
  ∀ (r : Addr) (ws : List Str) (H' : Hp) (i' : Int), H r = none → ok ws → ws.Nodup → ws.length = m → But p H H' → PoolAt H' p q rs i' → H' r = some (.lst (ws.map V.str)) → Q (.ref r) H'
abbrev nsWords : List Str := ["pool", "many", "menus", "some", "at"]
theorem scWords : FnScope nsWords ["pool", "many"] (defScope sWords) := ⟨rfl, rfl, rfl, by decide +kernel, rfl, by decide +kernel, by decide +kernel⟩
/-- from one of the two menus -/
def okWords (ws : List Str) : Prop := (∀ x ∈ ws, x ∈ menuA) ∨ (∀ x ∈ ws, x ∈ menuB)
theorem ok_words {f fD : Addr} {fd fdD : FuncData} (F : Fun K "_law_words" "_law_words" sWords f fd) (FD : Fun K "_law_draw" "_law_draw" sDraw fD fdD) (bD : Binds K fdD ["pool", "many"] []) (gD : mg "_law_draw" = some (.ref fD)) (GD : FnOk P w K mg base CX0 1 fD fdD ["pool", "many"] spDraw) : FnOk P w K mg base CX0 2 f fd ["pool", "many"] (spWordsL okWords 7) := by
  refine F.ok scWords (fun vs H Q E h => ?_) (fun cdv A outer s H vs Q E hr h => ?_)
  · obtain ⟨p, q, rs, i, m, rfl, _⟩ := h
    rfl
  · obtain ⟨p, q, rs, i, m, rfl, hP, hm, k⟩ := h
    have nd := scWords.nd
    refine ⟨_, pss_cons (ps_set (i := 2) nd rfl (Or.inl rfl) (pe_lst (pa_cons (pe_lst (pa_cons pe_str (pa_cons pe_str (pa_cons pe_str (pa_cons pe_str (pa_cons pe_str (pa_cons pe_str (pa_cons pe_str pa_nil))))))))
        (pa_cons (pe_lst (pa_cons pe_str (pa_cons pe_str (pa_cons pe_str (pa_cons pe_str (pa_cons pe_str (pa_cons pe_str (pa_cons pe_str pa_nil)))))))) pa_nil))))
      (pss_cons (ps_par (i := 3) (j := 4) (by rfl) nd rfl rfl (by decide) rfl rfl (pa_cons (pe_ix ix_list (pv 2) (pe_call GD hr (by rfl) gD FD.kp bD .nil pass0 (pa_cons (pv 0) (pa_cons pe_int pa_nil))) (fun _ _ => rfl)) (pa_cons (pe_call GD hr (by rfl) gD FD.kp bD .nil pass0 (pa_cons (pv 0) (pa_cons pe_int pa_nil))) pa_nil)) (by rfl))
      (pss_one (ps_ret (pe_slice sl_list (pe_op op_cat (pe_slice sl_list (pv 3) (po_some (pv 4)) po_none) (pe_slice sl_list (pv 3) po_none (po_some (pv 4)))) po_none (po_some (pv 1)))))), ?_⟩
    refine ⟨by show 7 ≤ sizeLine; decide, fun a na => ⟨by show 7 ≤ sizeLine; decide, fun b nb => ⟨by show 2 ≤ sizeLine; decide, fun ms nms => ?_⟩⟩⟩
    replace nb : (upd H a (.lst (menuA.map V.str))) b = none := nb
    replace nms : (upd (upd H a (.lst (menuA.map V.str))) b (.lst (menuB.map V.str))) ms = none := nms
    have s1 : Same H (upd H a (.lst (menuA.map V.str))) := sm na
    have s2 : Same (upd H a (.lst (menuA.map V.str))) (upd (upd H a (.lst (menuA.map V.str))) b (.lst (menuB.map V.str))) := sm nb
    have s3 := sm (o := .lst [.ref a, .ref b]) nms
    have ha : (upd (upd (upd H a (.lst (menuA.map V.str))) b (.lst (menuB.map V.str))) ms (.lst [.ref a, .ref b])) a = some (.lst (menuA.map V.str)) := s3 _ _ (s2 _ _ upd_same)
    have hb : (upd (upd (upd H a (.lst (menuA.map V.str))) b (.lst (menuB.map V.str))) ms (.lst [.ref a, .ref b])) b = some (.lst (menuB.map V.str)) := s3 _ _ upd_same
    have hms : (upd (upd (upd H a (.lst (menuA.map V.str))) b (.lst (menuB.map V.str))) ms (.lst [.ref a, .ref b])) ms = some (.lst [.ref a, .ref b]) := upd_same
    have s03 : Same H (upd (upd (upd H a (.lst (menuA.map V.str))) b (.lst (menuB.map V.str))) ms (.lst [.ref a, .ref b])) := (s1.trans s2).trans s3
    show tSeq _ _ _ _ (upd (upd (upd H a (.lst (menuA.map V.str))) b (.lst (menuB.map V.str))) ms (.lst [.ref a, .ref b]))
    generalize upd (upd (upd H a (.lst (menuA.map V.str))) b (.lst (menuB.map V.str))) ms (.lst [.ref a, .ref b]) = H3 at ha hb hms s03
    have hP3 := hP.same s03
    have nap : a ≠ p := fun z => by rw [z, hP.hp] at na; cases na
    have nbp : b ≠ p := fun z => by rw [z, s1 _ _ hP.hp] at nb; cases nb
    have nmp : ms ≠ p := fun z => by rw [z, s2 _ _ (s1 _ _ hP.hp)] at nms; cases nms
    refine ⟨_, rfl, _, rfl, p, q, rs, i, 2, rfl, hP3, by decide, fun r r0 r1 => ?_⟩
    obtain ⟨c, menu, hat, hcp, hc, okm, nm, lm⟩ : ∃ (c : Addr) (menu : List Str), atI [V.ref a, V.ref b] r = some (.ref c) ∧ c ≠ p ∧ H3 c = some (.lst (menu.map V.str)) ∧ ((∀ x ∈ menu, x ∈ menuA) ∨ (∀ x ∈ menu, x ∈ menuB)) ∧ menu.Nodup ∧ menu.length = 7 := by
      have : r = 0 ∨ r = 1 := by omega
      rcases this with rfl | rfl
      · exact ⟨a, menuA, atI_nat (j := 0) rfl, nap, ha, .inl fun _ z => z, menus_ok.1.1, rfl⟩
      · exact ⟨b, menuB, atI_nat (j := 1) rfl, nbp, hb, .inr fun _ z => z, menus_ok.2.1.1, rfl⟩
    refine ⟨ms, _, _, _, rfl, rfl, SqL.of (by rw [upd_ne nmp]; exact hms), hat, ?_⟩
    have hP4 := pool_step hP3
    refine ⟨_, rfl, p, q, rs, i + 1, 7, rfl, hP4, by decide, fun r' r0' r1' => ?_⟩
    obtain ⟨j, rfl, hj⟩ := nat_of r0' r1'
    have hP5 := pool_step hP4
    have b5 : But p H3 (upd (upd H3 p (.lst [.ref q, .int (i + 1)])) p (.lst [.ref q, .int (i + 1 + 1)])) := (But.upd _).trans (But.upd _)
    have hc5 := b5 _ _ hcp hc
    refine ⟨_, _, rfl, ?_⟩
    generalize upd (upd H3 p (.lst [.ref q, .int (i + 1)])) p (.lst [.ref q, .int (i + 1 + 1)]) = H5 at hP5 b5 hc5
    have jl : j ≤ menu.length := by omega
    refine ⟨_, rfl, _, rfl, _, rfl, c, _, rfl, SqL.of hc5, fun t1 n1 => ?_⟩
    rw [cut_from menu jl]
    refine ⟨_, rfl, _, rfl, _, rfl, c, _, rfl, SqL.of (sm n1 _ _ hc5), fun t2 n2 => ?_⟩
    rw [cut_to menu j]
    refine ⟨t1, t2, _, _, rfl, rfl, sm n2 _ _ upd_same, upd_same, ?_, fun t3 n3 => ?_⟩
    · rw [List.length_map, List.length_map, List.length_drop, List.length_take, sizeLine_eq]
      omega
    · refine ⟨_, rfl, _, rfl, t3, _, rfl, SqL.of upd_same, fun t4 n4 => ?_⟩
      rw [← List.map_append, cut_to]
      have s5 : Same H5 (upd (upd (upd (upd H5 t1 (.lst ((menu.drop j).map V.str))) t2 (.lst ((menu.take j).map V.str))) t3 (.lst ((menu.drop j ++ menu.take j).map V.str))) t4 (.lst (((menu.drop j ++ menu.take j).take m).map V.str))) := by
        rw [← List.map_append] at n4
        exact (((sm n1).trans (sm n2)).trans (sm n3)).trans (sm n4)
      have b0 : But p H H5 := (But.of s03).trans b5
      have f4 : H5 t4 = none := by
        cases z : H5 t4 with
        | none => rfl
        | some o => rw [sm n3 _ _ (sm n2 _ _ (sm n1 _ _ z))] at n4; cases n4
      have n4p : t4 ≠ p := fun z => by rw [z, hP5.hp] at f4; cases f4
      rw [List.map_append] at s5 ⊢
      refine k t4 (rot menu j m) _ _ (b0.free n4p f4) ?_ (rot_nodup nm) (rot_len (by omega)) (b0.trans (But.of s5)) (hP5.same s5) upd_same
      rcases okm with z | z
      · exact .inl fun x hx => z x (rot_mem hx)
      · exact .inr fun x hx => z x (rot_mem hx)
abbrev nsNames : List Str := ["pool", "many", "some", "at"]
theorem scNames : FnScope nsNames ["pool", "many"] (defScope sNames) := ⟨rfl, rfl, rfl, by decide +kernel, rfl, by decide +kernel, by decide +kernel⟩
def okNames (ws : List Str) : Prop := ∀ x ∈ ws, x ∈ menuN
theorem ok_names {f fD : Addr} {fd fdD : FuncData} (F : Fun K "_law_names" "_law_names" sNames f fd) (FD : Fun K "_law_draw" "_law_draw" sDraw fD fdD) (bD : Binds K fdD ["pool", "many"] []) (gD : mg "_law_draw" = some (.ref fD)) (GD : FnOk P w K mg base CX0 1 fD fdD ["pool", "many"] spDraw) : FnOk P w K mg base CX0 2 f fd ["pool", "many"] (spWordsL okNames 12) := by
  refine F.ok scNames (fun vs H Q E h => ?_) (fun cdv A outer s H vs Q E hr h => ?_)
  · obtain ⟨p, q, rs, i, m, rfl, _⟩ := h
    rfl
  · obtain ⟨p, q, rs, i, m, rfl, hP, hm, k⟩ := h
    have nd := scNames.nd
    refine ⟨_, pss_cons (ps_set (i := 2) nd rfl (Or.inl rfl) (pe_lst (pa_cons pe_str (pa_cons pe_str (pa_cons pe_str (pa_cons pe_str (pa_cons pe_str (pa_cons pe_str (pa_cons pe_str (pa_cons pe_str (pa_cons pe_str (pa_cons pe_str (pa_cons pe_str (pa_cons pe_str pa_nil))))))))))))))
      (pss_cons (ps_set (i := 3) nd rfl (Or.inl rfl) (pe_call GD hr (by rfl) gD FD.kp bD .nil pass0 (pa_cons (pv 0) (pa_cons pe_int pa_nil))))
      (pss_one (ps_ret (pe_slice sl_list (pe_op op_cat (pe_slice sl_list (pv 2) (po_some (pv 3)) po_none) (pe_slice sl_list (pv 2) po_none (po_some (pv 3)))) po_none (po_some (pv 1)))))), ?_⟩
    refine ⟨by show 12 ≤ sizeLine; decide, fun c nc => ?_⟩
    have s3 : Same H (upd H c (.lst (menuN.map V.str))) := sm nc
    have hc : (upd H c (.lst (menuN.map V.str))) c = some (.lst (menuN.map V.str)) := upd_same
    show tSeq _ _ _ _ (upd H c (.lst (menuN.map V.str)))
    have hcp : c ≠ p := fun z => by rw [z, hP.hp] at nc; cases nc
    generalize upd H c (.lst (menuN.map V.str)) = H3 at s3 hc
    have hP3 := hP.same s3
    refine ⟨_, rfl, p, q, rs, i, 12, rfl, hP3, by decide, fun r' r0' r1' => ?_⟩
    obtain ⟨j, rfl, hj⟩ := nat_of r0' r1'
    have hP5 := pool_step hP3
    have b5 : But p H3 (upd H3 p (.lst [.ref q, .int (i + 1)])) := But.upd _
    have hc5 := b5 _ _ hcp hc
    generalize upd H3 p (.lst [.ref q, .int (i + 1)]) = H5 at hP5 b5 hc5
    have lm : menuN.length = 12 := rfl
    have jl : j ≤ menuN.length := by omega
    refine ⟨_, rfl, _, rfl, _, rfl, c, _, rfl, SqL.of hc5, fun t1 n1 => ?_⟩
    rw [cut_from menuN jl]
    refine ⟨_, rfl, _, rfl, _, rfl, c, _, rfl, SqL.of (sm n1 _ _ hc5), fun t2 n2 => ?_⟩
    rw [cut_to menuN j]
    refine ⟨t1, t2, _, _, rfl, rfl, sm n2 _ _ upd_same, upd_same, ?_, fun t3 n3 => ?_⟩
    · rw [List.length_map, List.length_map, List.length_drop, List.length_take, sizeLine_eq]
      omega
    · refine ⟨_, rfl, _, rfl, t3, _, rfl, SqL.of upd_same, fun t4 n4 => ?_⟩
      rw [← List.map_append, cut_to]
      have s5 : Same H5 (upd (upd (upd (upd H5 t1 (.lst ((menuN.drop j).map V.str))) t2 (.lst ((menuN.take j).map V.str))) t3 (.lst ((menuN.drop j ++ menuN.take j).map V.str))) t4 (.lst (((menuN.drop j ++ menuN.take j).take m).map V.str))) := by
        rw [← List.map_append] at n4
        exact (((sm n1).trans (sm n2)).trans (sm n3)).trans (sm n4)
      have b0 : But p H H5 := (But.of s3).trans b5
      have f4 : H5 t4 = none := by
        cases z : H5 t4 with
        | none => rfl
        | some o => rw [sm n3 _ _ (sm n2 _ _ (sm n1 _ _ z))] at n4; cases n4
      have n4p : t4 ≠ p := fun z => by rw [z, hP5.hp] at f4; cases f4
      rw [List.map_append] at s5 ⊢
      exact k t4 (rot menuN j m) _ _ (b0.free n4p f4) (fun x hx => rot_mem hx) (rot_nodup menus_ok.2.2.1) (rot_len (by omega)) (b0.trans (But.of s5)) (hP5.same s5) upd_same
end
end LW


set_option Elab.async false
set_option linter.all false
set_option maxRecDepth 100000
set_option maxHeartbeats 4000000
/-! A drawn program, in plain mathematics; the heap while one is drawn. -/
namespace LW
open PySem L2 PG
open LH hiding sm top
structure Drawn (pls : List Str) (ls : List Lk) (es : List Str) : Prop where
  okw : okWords pls
  nd : pls.Nodup
  n2 : 2 ≤ pls.length
  n7 : pls.length ≤ 7
  kn : (keysL ls).Nodup
  km : ∀ x ∈ keysL ls, x ∈ menuN
  l1 : 1 ≤ ls.length
  l2 : ls.length ≤ 12
  t1 : ∀ (i : Nat) (y : Str), 1 ≤ i → pls[i]? = some y → ∃ (j : Nat) (x w : Str), j < i ∧ pls[j]? = some x ∧ (w, x, y) ∈ ls
  t3 : ∀ l ∈ ls, l.2.1 ∈ pls ∧ l.2.2 ∈ pls
  ex1 : ∀ e ∈ es, e ∈ pls
  exn : es.Nodup
  tr : ∃ ts ms, ls = ts ++ ms ∧ (∀ l ∈ ts, l.2.1 ≠ l.2.2) ∧ ∀ x ∈ pls, x ∈ PG.ends ts
  ex2 : ∀ (i : Nat) (x : Str), pls[i]? = some x → x ∉ es → ∃ (j : Nat) (y w : Str), i < j ∧ pls[j]? = some y ∧ (w, x, y) ∈ ls
theorem Drawn.b {pls : List Str} {ls : List Lk} {es : List Str} (d : Drawn pls ls es) : ∃ b, pls[0]? = some b := ⟨_, List.getElem?_eq_getElem (by have := d.n2; omega)⟩
theorem Drawn.ends {pls : List Str} {ls : List Lk} {es : List Str} (d : Drawn pls ls es) (x : Str) : x ∈ PG.ends ls ↔ x ∈ pls := by
  rw [ends_mem]
  constructor
  · rintro ⟨l, hl, h | h⟩
    · rw [h]; exact (d.t3 l hl).1
    · rw [h]; exact (d.t3 l hl).2
  · intro h
    obtain ⟨i, hi, e⟩ := List.getElem_of_mem h
    have hx : pls[i]? = some x := by rw [List.getElem?_eq_getElem hi, e]
    by_cases z : i = 0
    · obtain ⟨y, hy⟩ : ∃ y, pls[1]? = some y := ⟨_, List.getElem?_eq_getElem (by have := d.n2; omega)⟩
      obtain ⟨j, x', w, hj, hx', m⟩ := d.t1 1 y (Nat.le_refl 1) hy
      have ej : j = 0 := by omega
      rw [ej, ← z, hx] at hx'
      cases hx'
      exact ⟨_, m, .inl rfl⟩
    · obtain ⟨j, x', w, hj, hx', m⟩ := d.t1 i x (by omega) hx
      exact ⟨_, m, .inr rfl⟩
theorem word_of {pls : List Str} (h : okWords pls) {x : Str} (hx : x ∈ pls) : isWord x = true := by
  rcases h with h | h
  · exact menus_ok.1.2 x (h x hx)
  · exact menus_ok.2.1.2 x (h x hx)
theorem Drawn.reach {pls : List Str} {ls : List Lk} {es : List Str} (d : Drawn pls ls es) {b : Str} (hb : pls[0]? = some b) : ∀ (i : Nat) (x : Str), pls[i]? = some x → Rch [b] (ls.map (·.2)) x := by
  intro i
  induction i using Nat.strongRecOn with
  | _ i ih =>
    intro x hx
    by_cases z : i = 0
    · rw [z, hb] at hx
      cases hx
      exact .base List.mem_cons_self
    · obtain ⟨j, x', w, hj, hx', m⟩ := d.t1 i x (by omega) hx
      exact .step (ih j hj x' hx') (List.mem_map.mpr ⟨_, m, rfl⟩)
theorem Drawn.leave {pls : List Str} {ls : List Lk} {es : List Str} (d : Drawn pls ls es) : ∀ (k i : Nat) (x : Str), pls.length - i = k → pls[i]? = some x → Rch es (ls.map fun l => (l.2.2, l.2.1)) x := by
  intro k
  induction k using Nat.strongRecOn with
  | _ k ih =>
    intro i x hk hx
    by_cases z : x ∈ es
    · exact .base z
    · obtain ⟨j, y, w, hj, hy, m⟩ := d.ex2 i x hx z
      have lj : j < pls.length := (List.getElem?_eq_some_iff.mp hy).1
      exact .step (ih (pls.length - j) (by omega) j y rfl hy) (List.mem_map.mpr ⟨_, m, rfl⟩)
theorem Drawn.last {pls : List Str} {ls : List Lk} {es : List Str} (d : Drawn pls ls es) : es ≠ [] := fun z => by
  obtain ⟨y, hy⟩ : ∃ y, pls[pls.length - 1]? = some y := ⟨_, List.getElem?_eq_getElem (by have := d.n2; omega)⟩
  obtain ⟨j, y', w, hj, hy', _⟩ := d.ex2 _ y hy (by rw [z]; exact List.not_mem_nil)
  have lj : j < pls.length := (List.getElem?_eq_some_iff.mp hy').1
  omega
theorem at_of_mem {pls : List Str} {x : Str} (h : x ∈ pls) : ∃ i : Nat, pls[i]? = some x := by
  obtain ⟨i, hi, e⟩ := List.getElem_of_mem h
  exact ⟨i, by rw [List.getElem?_eq_getElem hi, e]⟩
theorem Drawn.plc {pls : List Str} {ls : List Lk} {es : List Str} (d : Drawn pls ls es) : (PG.plc ls).length ≤ 7 := by
  have z := nodup_le (plc_nodup ls) fun x hx => (d.ends x).mp (plc_mem.mp hx)
  have := d.n7
  omega
theorem Drawn.good {pls : List Str} {ls : List Lk} {es : List Str} (d : Drawn pls ls es) {b : Str} (hb : pls[0]? = some b) : GoodP ls b es where
  n1 := d.l1
  n2 := by have := d.l2; omega
  sm := by have := d.plc; omega
  nd := d.kn
  wd := fun l hl => ⟨menus_ok.2.2.2 _ (d.km _ (key_mem hl)), word_of d.okw (d.t3 l hl).1, word_of d.okw (d.t3 l hl).2⟩
  hb := (d.ends b).mpr (List.mem_of_getElem? hb)
  he := d.last
  hs := fun e he => (d.ends e).mpr (d.ex1 e he)
  hn := d.exn
  reach := fun x hx => by
    obtain ⟨i, hi⟩ := at_of_mem ((d.ends x).mp hx)
    exact d.reach hb i x hi
  leave := fun x hx => by
    obtain ⟨i, hi⟩ := at_of_mem ((d.ends x).mp hx)
    exact d.leave _ i x rfl hi
/-! ### the heap -/
structure St1 (K : PySem.W.Frag) (H : Hp) (p q : Addr) (rs : List Int) (r1 r2 dp dq : Addr) (pls nms : List Str) (H' : Hp) (i : Int) (kvs : List (Key × V)) (ls : List Lk) (ovs : List (Key × V)) : Prop where
  but : But p H H'
  pool : PoolAt H' p q rs i
  h1 : H' r1 = some (.lst (pls.map V.str))
  h2 : H' r2 = some (.lst (nms.map V.str))
  hd : H' dp = some (.dK kvs)
  lk : Lks K H' kvs ls
  ho : H' dq = some (.dK ovs)
section
variable {K : PySem.W.Frag} {H H' H'' : Hp} {p q r1 r2 dp dq : Addr} {rs : List Int} {pls nms : List Str} {i : Int} {kvs ovs : List (Key × V)} {ls : List Lk}
theorem strs_ne {H' : Hp} {r : Addr} {ws : List Str} (h : H' r = some (.lst (ws.map V.str))) (hP : PoolAt H' p q rs i) : r ≠ p := fun z => by
  rw [z, hP.hp] at h
  have e := Option.some.inj h
  cases ws with
  | nil => cases e
  | cons x ws => cases e
theorem strs_neq {H' : Hp} {r : Addr} {ws : List Str} (n : ws ≠ []) (h : H' r = some (.lst (ws.map V.str))) (hP : PoolAt H' p q rs i) : r ≠ q := fun z => by
  rw [z, hP.hq] at h
  have e := Option.some.inj h
  cases ws with
  | nil => exact n rfl
  | cons x ws =>
    cases rs with
    | nil => cases e
    | cons y rs => cases e
theorem St1.draw (s : St1 K H p q rs r1 r2 dp dq pls nms H' i kvs ls ovs) : St1 K H p q rs r1 r2 dp dq pls nms (upd H' p (.lst [.ref q, .int (i + 1)])) (i + 1) kvs ls ovs where
  but := s.but.trans (But.upd _)
  pool := pool_step s.pool
  h1 := by rw [upd_ne (strs_ne s.h1 s.pool)]; exact s.h1
  h2 := by rw [upd_ne (strs_ne s.h2 s.pool)]; exact s.h2
  hd := by rw [upd_ne (ne_of s.hd s.pool.hp (by intro z; cases z))]; exact s.hd
  lk := PG.Paired.imp (fun _ _ z => ⟨z.1, two_lst s.pool.hp z.2⟩) s.lk
  ho := by rw [upd_ne (ne_of s.ho s.pool.hp (by intro z; cases z))]; exact s.ho
theorem St1.same (s : St1 K H p q rs r1 r2 dp dq pls nms H' i kvs ls ovs) (k : Same H' H'') : St1 K H p q rs r1 r2 dp dq pls nms H'' i kvs ls ovs :=
  ⟨s.but.trans (But.of k), s.pool.same k, k _ _ s.h1, k _ _ s.h2, k _ _ s.hd, s.lk.same k, k _ _ s.ho⟩
theorem pool_upd {o : HO} {d : Addr} (hP : PoolAt H' p q rs i) (n1 : p ≠ d) (n2 : q ≠ d) : PoolAt (L2.upd H' d o) p q rs i := ⟨by rw [upd_ne n1]; exact hP.hp, by rw [upd_ne n2]; exact hP.hq, hP.i0, hP.len, hP.bd⟩
theorem St1.put (s : St1 K H p q rs r1 r2 dp dq pls nms H' i kvs ls ovs) (nd : H dp = none) (ne : dp ≠ dq) {w x y : Str} {v : V} (hv : TwoAt K H' v (x, y)) : St1 K H p q rs r1 r2 dp dq pls nms (upd H' dp (.dK (kvs ++ [(Sum.inr w, v)]))) i (kvs ++ [(Sum.inr w, v)]) (ls ++ [(w, x, y)]) ovs where
  but := fun b o nb e => by rw [upd_ne (ne_of_none e nd)]; exact s.but b o nb e
  pool := pool_upd s.pool (ne_of s.pool.hp s.hd (by intro z; cases z)) (ne_of s.pool.hq s.hd (by intro z; cases z))
  h1 := by rw [upd_ne (ne_of s.h1 s.hd (by intro z; cases z))]; exact s.h1
  h2 := by rw [upd_ne (ne_of s.h2 s.hd (by intro z; cases z))]; exact s.h2
  hd := upd_same
  lk := paired_snoc (PG.Paired.imp (fun _ _ z => ⟨z.1, two_dk s.hd z.2⟩) s.lk) ⟨rfl, two_dk s.hd hv⟩
  ho := by rw [upd_ne ne.symm]; exact s.ho
theorem St1.out (s : St1 K H p q rs r1 r2 dp dq pls nms H' i kvs ls ovs) (nd : H dq = none) (ne : dp ≠ dq) (ov2 : List (Key × V)) : St1 K H p q rs r1 r2 dp dq pls nms (upd H' dq (.dK ov2)) i kvs ls ov2 where
  but := fun b o nb e => by rw [upd_ne (ne_of_none e nd)]; exact s.but b o nb e
  pool := pool_upd s.pool (ne_of s.pool.hp s.ho (by intro z; cases z)) (ne_of s.pool.hq s.ho (by intro z; cases z))
  h1 := by rw [upd_ne (ne_of s.h1 s.ho (by intro z; cases z))]; exact s.h1
  h2 := by rw [upd_ne (ne_of s.h2 s.ho (by intro z; cases z))]; exact s.h2
  hd := by rw [upd_ne ne]; exact s.hd
  lk := PG.Paired.imp (fun _ _ z => ⟨z.1, two_dk s.ho z.2⟩) s.lk
  ho := upd_same
/-- a list of our own changes -/
theorem St1.lst (s : St1 K H p q rs r1 r2 dp dq pls nms H' i kvs ls ovs) {D : Addr} {xs ys : List V} (hD : H' D = some (.lst xs)) (n0 : H D = none) (n1 : D ≠ p) (n2 : D ≠ q) (n3 : D ≠ r1) (n4 : D ≠ r2) : St1 K H p q rs r1 r2 dp dq pls nms (upd H' D (.lst ys)) i kvs ls ovs where
  but := fun b o nb e => by rw [upd_ne (ne_of_none e n0)]; exact s.but b o nb e
  pool := pool_upd s.pool n1.symm n2.symm
  h1 := by rw [upd_ne n3.symm]; exact s.h1
  h2 := by rw [upd_ne n4.symm]; exact s.h2
  hd := by rw [upd_ne (ne_of s.hd hD (by intro z; cases z))]; exact s.hd
  lk := PG.Paired.imp (fun _ _ z => ⟨z.1, two_lst hD z.2⟩) s.lk
  ho := by rw [upd_ne (ne_of s.ho hD (by intro z; cases z))]; exact s.ho
end
/-- what the walk over the places has made -/
structure M1 (pls nms : List Str) (i : Nat) (ls : List Lk) (ovs : List (Key × V)) : Prop where
  ks : keysL ls = nms.take i
  t1 : ∀ (t : Nat) (y : Str), 1 ≤ t → t ≤ i → pls[t]? = some y → ∃ (j : Nat) (x w : Str), j < t ∧ pls[j]? = some x ∧ (w, x, y) ∈ ls
  t3 : ∀ l ∈ ls, l.2.1 ∈ pls ∧ l.2.2 ∈ pls
  o : ∀ x : Str, (valV ovs (Sum.inr x : Key)).isSome = true → ∃ (j t : Nat) (y w : Str), j < t ∧ pls[j]? = some x ∧ pls[t]? = some y ∧ (w, x, y) ∈ ls
  ol : ovs.length ≤ i
  ne : ∀ l ∈ ls, l.2.1 ≠ l.2.2
theorem keysL_snoc (ls : List Lk) (l : Lk) : keysL (ls ++ [l]) = keysL ls ++ [l.1] := by
  unfold keysL
  rw [List.map_append]
  rfl
theorem M1.step {pls nms : List Str} {i : Nat} {ls : List Lk} {ovs : List (Key × V)} (m : M1 pls nms i ls ovs) (np : pls.Nodup) {w x y : Str} {j : Nat} (hw : nms[i]? = some w) (hj : j < i + 1) (hx : pls[j]? = some x) (hy : pls[i + 1]? = some y) : M1 pls nms (i + 1) (ls ++ [(w, x, y)]) (putK ovs (Sum.inr x : Key) (.bl true)) where
  ks := by rw [keysL_snoc, m.ks, List.take_add_one, hw]; rfl
  t1 := fun t y' h1 h2 e => by
    by_cases z : t ≤ i
    · obtain ⟨j', x', w', a, b, c⟩ := m.t1 t y' h1 z e
      exact ⟨j', x', w', a, b, List.mem_append_left _ c⟩
    · have et : t = i + 1 := by omega
      subst et
      rw [hy] at e
      cases e
      exact ⟨j, x, w, hj, hx, List.mem_append_right _ List.mem_cons_self⟩
  t3 := fun l hl => by
    rcases List.mem_append.mp hl with z | z
    · exact m.t3 l z
    · rw [List.mem_singleton.mp z]
      exact ⟨List.mem_of_getElem? hx, List.mem_of_getElem? hy⟩
  o := fun x' h => by
    rw [valV_put] at h
    by_cases z : (Sum.inr x' : Key) = Sum.inr x
    · obtain rfl := Sum.inr.inj z
      exact ⟨j, i + 1, y, w, hj, hx, hy, List.mem_append_right _ List.mem_cons_self⟩
    · rw [if_neg z] at h
      obtain ⟨j', t, y', w', a, b, c, d⟩ := m.o x' h
      exact ⟨j', t, y', w', a, b, c, List.mem_append_left _ d⟩
  ol := Nat.le_trans (length_putK _ _ _) (Nat.succ_le_succ m.ol)
  ne := fun l hl => by
    rcases List.mem_append.mp hl with z | z
    · exact m.ne l z
    · rw [List.mem_singleton.mp z]
      intro e
      have e' : x = y := e
      rw [← e'] at hy
      have q := (List.getElem?_inj (List.getElem?_eq_some_iff.mp hx).1 np).mp (hx.trans hy.symm)
      omega
/-- behind it: ways more -/
structure M2 (pls nms : List Str) (n : Nat) (i : Nat) (ls : List Lk) (ovs : List (Key × V)) : Prop where
  tr : ∃ ts ms, ls = ts ++ ms ∧ (∀ l ∈ ts, l.2.1 ≠ l.2.2) ∧ ∀ x ∈ pls, x ∈ PG.ends ts
  ks : keysL ls = nms.take (n - 1 + i)
  t1 : ∀ (t : Nat) (y : Str), 1 ≤ t → pls[t]? = some y → ∃ (j : Nat) (x w : Str), j < t ∧ pls[j]? = some x ∧ (w, x, y) ∈ ls
  t3 : ∀ l ∈ ls, l.2.1 ∈ pls ∧ l.2.2 ∈ pls
  o : ∀ x : Str, (valV ovs (Sum.inr x : Key)).isSome = true → ∃ (j t : Nat) (y w : Str), j < t ∧ pls[j]? = some x ∧ pls[t]? = some y ∧ (w, x, y) ∈ ls
theorem M1.m2 {pls nms : List Str} {ls : List Lk} {ovs : List (Key × V)} (m : M1 pls nms (pls.length - 1) ls ovs) (n2 : 2 ≤ pls.length) : M2 pls nms pls.length 0 ls ovs where
  tr := by
    refine ⟨ls, [], (List.append_nil _).symm, m.ne, fun x hx => ?_⟩
    obtain ⟨i, hi, e⟩ := List.getElem_of_mem hx
    have hx : pls[i]? = some x := by rw [List.getElem?_eq_getElem hi, e]
    rw [ends_mem]
    by_cases z : i = 0
    · obtain ⟨y, hy⟩ : ∃ y, pls[1]? = some y := ⟨_, List.getElem?_eq_getElem (by omega)⟩
      obtain ⟨j, x', w, hj, hx', mm⟩ := m.t1 1 y (Nat.le_refl 1) (by omega) hy
      have ej : j = 0 := by omega
      rw [ej, ← z, hx] at hx'
      cases hx'
      exact ⟨_, mm, .inl rfl⟩
    · obtain ⟨j, x', w, hj, hx', mm⟩ := m.t1 i x (by omega) (by omega) hx
      exact ⟨_, mm, .inr rfl⟩
  ks := m.ks
  t1 := fun t y h1 e => m.t1 t y h1 (by have := (List.getElem?_eq_some_iff.mp e).1; omega) e
  t3 := m.t3
  o := m.o
theorem M2.step {pls nms : List Str} {n i : Nat} {ls : List Lk} {ovs : List (Key × V)} (m : M2 pls nms n i ls ovs) {w x y : Str} (hw : nms[n - 1 + i]? = some w) (hx : x ∈ pls) (hy : y ∈ pls) : M2 pls nms n (i + 1) (ls ++ [(w, x, y)]) ovs where
  tr := by
    obtain ⟨ts, ms, e, a, b⟩ := m.tr
    exact ⟨ts, ms ++ [(w, x, y)], by rw [e, List.append_assoc], a, b⟩
  ks := by rw [keysL_snoc, m.ks, ← Nat.add_assoc, List.take_add_one, hw]; rfl
  t1 := fun t y' h1 e => by
    obtain ⟨j', x', w', a, b, c⟩ := m.t1 t y' h1 e
    exact ⟨j', x', w', a, b, List.mem_append_left _ c⟩
  t3 := fun l hl => by
    rcases List.mem_append.mp hl with z | z
    · exact m.t3 l z
    · rw [List.mem_singleton.mp z]
      exact ⟨hx, hy⟩
  o := fun x' h => by
    obtain ⟨j', t, y', w', a, b, c, d⟩ := m.o x' h
    exact ⟨j', t, y', w', a, b, c, List.mem_append_left _ d⟩
structure ES (pls : List Str) (ovs : List (Key × V)) (i : Nat) (es : List Str) : Prop where
  sub : ∀ x ∈ es, x ∈ pls.take i
  nd : es.Nodup
  ou : ∀ x ∈ pls.take i, x ∉ es → (valV ovs (Sum.inr x : Key)).isSome = true
  len : es.length ≤ i
theorem nodup_at {pls : List Str} (n : pls.Nodup) {i : Nat} {x : Str} (h : pls[i]? = some x) : x ∉ pls.take i := fun m => by
  obtain ⟨j, hj, e⟩ := List.getElem_of_mem m
  rw [List.length_take] at hj
  rw [List.getElem_take] at e
  have q1 : pls[j]? = some x := by rw [List.getElem?_eq_getElem (by omega), e]
  have z := (List.getElem?_inj (by omega) n).mp (q1.trans h.symm)
  omega
theorem ES.yes {pls : List Str} {ovs : List (Key × V)} {i : Nat} {es : List Str} (s : ES pls ovs i es) (n : pls.Nodup) {x : Str} (h : pls[i]? = some x) : ES pls ovs (i + 1) (es ++ [x]) where
  sub := fun y hy => by
    rw [List.take_add_one, h]
    rcases List.mem_append.mp hy with z | z
    · exact List.mem_append_left _ (s.sub y z)
    · exact List.mem_append_right _ z
  nd := List.nodup_append.mpr ⟨s.nd, List.nodup_cons.mpr ⟨List.not_mem_nil, List.nodup_nil⟩, fun a ha b hb e => by
    rw [List.mem_singleton.mp hb] at e
    exact nodup_at n h (s.sub x (e ▸ ha))⟩
  ou := fun y hy ny => by
    rw [List.take_add_one, h] at hy
    rcases List.mem_append.mp hy with z | z
    · exact s.ou y z fun q => ny (List.mem_append_left _ q)
    · exact absurd (List.mem_append_right es z) ny
  len := by rw [List.length_append]; exact Nat.succ_le_succ s.len
theorem ES.no {pls : List Str} {ovs : List (Key × V)} {i : Nat} {es : List Str} (s : ES pls ovs i es) {x : Str} (h : pls[i]? = some x) (o : (valV ovs (Sum.inr x : Key)).isSome = true) : ES pls ovs (i + 1) es where
  sub := fun y hy => by
    rw [List.take_add_one]
    exact List.mem_append_left _ (s.sub y hy)
  nd := s.nd
  ou := fun y hy ny => by
    rw [List.take_add_one, h] at hy
    rcases List.mem_append.mp hy with z | z
    · exact s.ou y z ny
    · rw [List.mem_singleton.mp z]
      exact o
  len := Nat.le_succ_of_le s.len
theorem drawn_of {pls nms : List Str} {i : Nat} {ls : List Lk} {ovs : List (Key × V)} {es : List Str} (okw : okWords pls) (nd : pls.Nodup) (n2 : 2 ≤ pls.length) (n7 : pls.length ≤ 7) (okn : okNames nms) (nn : nms.Nodup) (ln : nms.length ≤ 12) (l1 : pls.length - 1 ≤ nms.length) (m : M2 pls nms pls.length i ls ovs) (e : ES pls ovs pls.length es) : Drawn pls ls es where
  okw := okw
  nd := nd
  n2 := n2
  n7 := n7
  kn := by rw [m.ks]; exact nn.sublist (List.take_sublist _ _)
  km := fun x hx => okn x (by rw [m.ks] at hx; exact List.mem_of_mem_take hx)
  l1 := by
    have z : (keysL ls).length = ls.length := List.length_map _
    rw [m.ks, List.length_take] at z
    omega
  l2 := by
    have z : (keysL ls).length = ls.length := List.length_map _
    rw [m.ks, List.length_take] at z
    omega
  t1 := m.t1
  t3 := m.t3
  ex1 := fun x hx => List.mem_of_mem_take (e.sub x hx)
  exn := e.nd
  tr := m.tr
  ex2 := fun j x hx ne => by
    have z := e.ou x (by rw [List.take_length]; exact List.mem_of_getElem? hx) ne
    obtain ⟨j', t, y, w, a, b, c, d⟩ := m.o x z
    have ej : j' = j := (List.getElem?_inj (List.getElem?_eq_some_iff.mp b).1 nd).mp (b.trans hx.symm)
    exact ⟨t, y, w, by omega, c, d⟩
end LW


set_option Elab.async false
set_option linter.all false
set_option maxRecDepth 100000
set_option maxHeartbeats 4000000
namespace LW
open PySem L2 PG
open LH hiding sm top
abbrev sProgram : Stmt := LH.top 34
theorem pe_dead {X : Cx} {e : Expr} : PE X e (fun _ _ _ => False) := ⟨fun _ _ _ _ _ _ h => h.elim⟩
/-- the law's names, ours -/
structure LT (mg : Str → Option Value) : Prop where
  range : mg "range" = none
  len : mg "len" = none
  min : mg "min" = none
  max : mg "max" = none
/-- a program as the laws draw it: a dict of its ways, begin and exits -/
structure PrgAt (K : PySem.W.Frag) (H : Hp) (r dp ex : Addr) (ls : List Lk) (b : Str) (es : List Str) : Prop where
  hr : H r = some (.dK [(Sum.inr "ways", .ref dp), (Sum.inr "begin", .str b), (Sum.inr "exits", .ref ex)])
  hw : ∃ kvs, H dp = some (.dK kvs) ∧ Lks K H kvs ls
  he : H ex = some (.lst (es.map V.str))
theorem PrgAt.same {K : PySem.W.Frag} {H H' : Hp} {r dp ex : Addr} {ls : List Lk} {b : Str} {es : List Str} (h : PrgAt K H r dp ex ls b es) (s : Same H H') : PrgAt K H' r dp ex ls b es := by
  obtain ⟨a, ⟨kvs, c, d⟩, e⟩ := h
  exact ⟨s _ _ a, ⟨kvs, s _ _ c, d.same s⟩, s _ _ e⟩
def spProgram (K : PySem.W.Frag) : Sp := fun vs H Q _ => ∃ (p q : Addr) (rs : List Int) (i : Int) (mo n : Nat), vs = [.ref p, .int mo, .int n, .bl true] ∧ PoolAt H p q rs i ∧ 2 ≤ mo ∧ mo ≤ 7 ∧ n ≤ 6 ∧
  ∀ (r dp ex : Addr) (pls : List Str) (ls : List Lk) (es : List Str) (b : Str) (H' : Hp) (i' : Int), H r = none → H dp = none → H ex = none → Drawn pls ls es → pls[0]? = some b → pls.length ≤ mo → But p H H' → PoolAt H' p q rs i' → PrgAt K H' r dp ex ls b es → Q (.ref r) H'
section
variable {P : Program} {w : World} {K : PySem.W.Frag} {mg : Str → Option Value} {base : Heap}
abbrev nsProgram : List Str := ["pool", "most", "more", "rings", "places", "names", "pairs", "outs", "at", "start", "one", "other", "first", "last", "exits", "place"]
theorem scProgram : FnScope nsProgram ["pool", "most", "more", "rings"] (defScope sProgram) := ⟨rfl, rfl, rfl, by decide +kernel, rfl, by decide +kernel, by decide +kernel⟩
theorem ok_program {f fD fW fN : Addr} {fd fdD fdW fdN : FuncData} (F : Fun K "_law_program" "_law_program" sProgram f fd) (T : LT mg) (FD : Fun K "_law_draw" "_law_draw" sDraw fD fdD) (bD : Binds K fdD ["pool", "many"] []) (gD : mg "_law_draw" = some (.ref fD)) (GD : FnOk P w K mg base CX0 1 fD fdD ["pool", "many"] spDraw)
    (FW : Fun K "_law_words" "_law_words" sWords fW fdW) (bW : Binds K fdW ["pool", "many"] []) (gW : mg "_law_words" = some (.ref fW)) (GW : FnOk P w K mg base CX0 2 fW fdW ["pool", "many"] (spWordsL okWords 7))
    (FN : Fun K "_law_names" "_law_names" sNames fN fdN) (bN : Binds K fdN ["pool", "many"] []) (gN : mg "_law_names" = some (.ref fN)) (GN : FnOk P w K mg base CX0 2 fN fdN ["pool", "many"] (spWordsL okNames 12)) : FnOk P w K mg base CX0 3 f fd ["pool", "most", "more", "rings"] (spProgram K) := by
  refine F.ok scProgram (fun vs H Q E h => ?_) (fun cdv A outer s H vs Q E hr h => ?_)
  · obtain ⟨p, q, rs, i, mo, n, rfl, _⟩ := h
    rfl
  · obtain ⟨p, q, rs, i, mo, n, rfl, hP, hmo, hmo7, hn, k⟩ := h
    have nd := scProgram.nd
    have hr1 : Room 1 _ := hr.mono (by decide)
    have hu := hu_of hr
    refine ⟨_, pss_cons (ps_set (i := 4) nd rfl (Or.inl rfl) (pe_call GW hr (by rfl) gW FW.kp bW .nil pass0 (pa_cons (pv 0) (pa_cons (pe_op op_add pe_int (pe_call GD hr1 (by rfl) gD FD.kp bD .nil pass0 (pa_cons (pv 0) (pa_cons (pe_op op_sub (pv 1) pe_int) pa_nil)))) pa_nil))))
      (pss_cons (ps_asg (pe_tup (pa_cons (pe_call GN hr (by rfl) gN FN.kp bN .nil pass0 (pa_cons (pv 0) (pa_cons (pe_op op_add (pe_op op_sub (pe_callB call_len_seq (by rfl) T.len PySem.boot_len (pa_cons (pv 4) pa_nil)) pe_int) (pv 2)) pa_nil))) (pa_cons pe_dnewK (pa_cons pe_dnewK pa_nil)))) (pg_tup rfl (pgs_cons (pg_name (i := 5) nd rfl (Or.inl rfl)) (pgs_cons (pg_name (i := 6) nd rfl (Or.inl rfl)) (pgs_cons (pg_name (i := 7) nd rfl (Or.inr rfl)) pgs_nil)))))
      (pss_cons (ps_for PassesOwn.never rfl (pi_range2 rfl T.range (pa_cons pe_int (pa_cons (pe_callB call_len_seq (by rfl) T.len PySem.boot_len (pa_cons (pv 4) pa_nil)) pa_nil))) (pg_name (i := 8) nd rfl (Or.inl rfl))
        (pss_cons (ps_set (i := 9) nd rfl (Or.inl rfl) (pe_ix ix_list (pv 4) (pe_call GD hr1 (by rfl) gD FD.kp bD .nil pass0 (pa_cons (pv 0) (pa_cons (pv 8) pa_nil))) (fun _ _ => rfl)))
        (pss_one (ps_asg (pe_tup (pa_cons (pe_tup (pa_cons (pv 9) (pa_cons (pe_ix ix_list (pv 4) (pv 8) (fun _ _ => rfl)) pa_nil))) (pa_cons pe_bl pa_nil))) (pg_tup rfl (pgs_cons (pg_sub (pv 6) (pe_ix ix_list (pv 5) (pe_op op_sub (pv 8) pe_int) (fun _ _ => rfl)) (set_dict hu)) (pgs_cons (pg_sub (pv 7) (pv 9) (set_dict hu)) pgs_nil)))))))
      (pss_cons (ps_for PassesOwn.never rfl (pi_range1 rfl T.range (pa_cons (pe_call GD hr1 (by rfl) gD FD.kp bD .nil pass0 (pa_cons (pv 0) (pa_cons (pe_op op_add (pv 2) pe_int) pa_nil))) pa_nil)) (pg_name (i := 8) nd rfl (Or.inl rfl))
        (pss_cons (ps_par (i := 10) (j := 11) (by rfl) nd rfl rfl (by decide) rfl rfl (pa_cons (pe_call GD hr1 (by rfl) gD FD.kp bD .nil pass0 (pa_cons (pv 0) (pa_cons (pe_callB call_len_seq (by rfl) T.len PySem.boot_len (pa_cons (pv 4) pa_nil)) pa_nil))) (pa_cons (pe_call GD hr1 (by rfl) gD FD.kp bD .nil pass0 (pa_cons (pv 0) (pa_cons (pe_callB call_len_seq (by rfl) T.len PySem.boot_len (pa_cons (pv 4) pa_nil)) pa_nil))) pa_nil)) (by rfl))
        (pss_one (ps_if (PW.pt (pw_or (pt_val (pv 3)) (pw_or1 (pt_cmpR op_ne (pv 10) (pv 11) (nomark _)))))
          (pss_cons (ps_asg (pe_ifExp (pt_val (pv 3)) (pe_tup (pa_cons (pv 10) (pa_cons (pv 11) pa_nil))) pe_dead) (pg_tup rfl (pgs_cons (pg_name (i := 12) nd rfl (Or.inl rfl)) (pgs_cons (pg_name (i := 13) nd rfl (Or.inl rfl)) pgs_nil))))
          (pss_one (ps_dput hu (pv 6) (pe_ix ix_list (pv 5) (pe_op op_add (pe_op op_sub (pe_callB call_len_seq (by rfl) T.len PySem.boot_len (pa_cons (pv 4) pa_nil)) pe_int) (pv 8)) (fun _ _ => rfl)) (pe_tup (pa_cons (pe_ix ix_list (pv 4) (pv 12) (fun _ _ => rfl)) (pa_cons (pe_ix ix_list (pv 4) (pv 13) (fun _ _ => rfl)) pa_nil))) rfl))) pss_nil))))
      (pss_cons (ps_setLc (i := 14) (own := [("place", 15)]) (g := gName 15) (tt := tOr (tB (tDNotIn (tVar 15) (tVar 7))) (tTest (tOp rEq (tCall spDraw [] E0 (tCons (tVar 0) (tCons (tC (V.int 5)) tNil))) (tC (V.int 0))))) rfl nd rfl rfl (sw_true rfl rfl rfl (by decide +kernel)) (pi_list (pv 4)) (blkOk_by (own := [("place", 15)]) (N := nsProgram) (sc := defScope sProgram) (by decide +kernel)) (fun _ _ _ _ _ => pg_name (i := 15) nd rfl (Or.inl rfl))
        (fun _ _ _ _ _ => pts_one (PW.pt (pw_or (pt_cmp (pc_dnotin hu (pv 15) (pv 7)) rfl) (pw_or1 (pt_cmpR op_eq (pe_call GD hr1 (by rfl) gD FD.kp bD .nil pass0 (pa_cons (pv 0) (pa_cons pe_int pa_nil))) pe_int (nomark _)))))) (fun _ _ _ _ _ => pv 15))
      (pss_one (ps_ret (pe_disp (pps_cons pe_str (pv 6) (pps_cons pe_str (pe_ix ix_list (pv 4) pe_int (fun _ _ => rfl)) (pps_cons pe_str (pv 14) pps_nil))) rfl rfl (by decide) (by decide)))))))), ?_⟩
    -- places = _law_words(pool, 2 + draw)
    refine ⟨_, rfl, _, rfl, _, rfl, _, _, rfl, rfl, p, q, rs, i, _, rfl, hP, by omega, fun r r0 r1 => ?_⟩
    obtain ⟨j, rfl, hj⟩ := nat_of r0 r1
    have hP1 := pool_step hP
    have b1 : But p H (upd H p (.lst [.ref q, .int (i + 1)])) := But.upd _
    generalize upd H p (.lst [.ref q, .int (i + 1)]) = H1 at hP1 b1
    refine ⟨_, _, rfl, rfl, p, q, rs, i + 1, 2 + j, by rw [Int.natCast_add]; rfl, hP1, by omega, fun a1 pls H2 i2 na1 okw npls lpls b2 hP2 h1 => ?_⟩
    have a1p : a1 ≠ p := strs_ne h1 hP2
    -- names, pairs, outs
    refine ⟨_, rfl, _, rfl, a1, _, rfl, .inl (SqL.of h1), _, _, rfl, rfl, _, rfl, _, _, rfl, rfl, p, q, rs, i2, j + 1 + n, ?_, hP2, by omega, fun a2 nms H3 i3 na2 okn nnms lnms b3 hP3 h2 => ?_⟩
    · have e1 : (((pls.map V.str).length : Nat) : Int) - 1 + (n : Int) = ((j + 1 + n : Nat) : Int) := by rw [List.length_map, lpls]; omega
      show [V.ref p, V.int _] = [V.ref p, V.int _]
      rw [e1]
    have h13 := b3 _ _ a1p h1
    refine fun dp ndp dq ndq => ⟨by show 3 ≤ sizeLine; decide, fun t nt => ⟨t, _, rfl, SqT.of upd_same, rfl, _, _, rfl, _, _, rfl, _, _, rfl, rfl, ?_⟩⟩
    have b03 : But p H H3 := (b1.trans b2).trans b3
    have dpp : dp ≠ p := fun z => by rw [z, hP3.hp] at ndp; cases ndp
    have nedq : dp ≠ dq := fun z => by rw [← z, upd_same] at ndq; cases ndq
    have ndq3 : H3 dq = none := by rw [upd_ne nedq.symm] at ndq; exact ndq
    have dqp : dq ≠ p := fun z => by rw [z, hP3.hp] at ndq3; cases ndq3
    have Hdp : H dp = none := b03.free dpp ndp
    have Hdq : H dq = none := b03.free dqp ndq3
    have s4 : Same H3 (upd (upd (upd H3 dp (.dK [])) dq (.dK [])) t (.tup [.ref a2, .ref dp, .ref dq])) := ((sm ndp).trans (sm ndq)).trans (sm nt)
    have hd4 : (upd (upd (upd H3 dp (.dK [])) dq (.dK [])) t (.tup [.ref a2, .ref dp, .ref dq])) dp = some (.dK []) := sm nt _ _ (sm ndq _ _ upd_same)
    have hq4 : (upd (upd (upd H3 dp (.dK [])) dq (.dK [])) t (.tup [.ref a2, .ref dp, .ref dq])) dq = some (.dK []) := sm nt _ _ upd_same
    have S4 : St1 K H p q rs a1 a2 dp dq pls nms (upd (upd (upd H3 dp (.dK [])) dq (.dK [])) t (.tup [.ref a2, .ref dp, .ref dq])) i3 [] [] [] := ⟨b03.trans (But.of s4), hP3.same s4, s4 _ _ h13, s4 _ _ h2, hd4, .nil, hq4⟩
    show tSeq _ _ _ _ (upd (upd (upd H3 dp (.dK [])) dq (.dK [])) t (.tup [.ref a2, .ref dp, .ref dq]))
    generalize upd (upd (upd H3 dp (.dK [])) dq (.dK [])) t (.tup [.ref a2, .ref dp, .ref dq]) = H4 at S4
    have el : ((((pls.map V.str).length : Nat) : Int) - 1).toNat = pls.length - 1 := by rw [List.length_map]; omega
    have lb : (((pls.map V.str).length : Nat) : Int) ≤ 7 := by rw [List.length_map]; omega
    refine ⟨_, rfl, a1, _, rfl, .inl (SqL.of S4.h1), 1, _, rfl, ⟨by decide, by decide, by omega, by omega⟩, ?_⟩
    rw [el]
    refine for_range (lo := 1) (n := pls.length - 1) (fun ii σ H' => ∃ (i' : Int) (kvs : List (Key × V)) (ls : List Lk) (ovs : List (Key × V)) (v8 v9 : Option V), σ = [some (.ref p), some (.int mo), some (.int n), some (.bl true), some (.ref a1), some (.ref a2), some (.ref dp), some (.ref dq), v8, v9, none, none, none, none, none, none] ∧
      St1 K H p q rs a1 a2 dp dq pls nms H' i' kvs ls ovs ∧ M1 pls nms ii ls ovs) ⟨i3, [], [], [], none, none, rfl, S4, ⟨by rw [List.take_zero]; rfl, fun t y h1 h2 => by omega, fun l hl => (nomatch hl), fun x hx => (by cases hx), Nat.le_refl 0, fun l hl => (nomatch hl)⟩⟩ ?_ ?_
    · rintro ii σ H' hii ⟨i', kvs, ls, ovs, v8, v9, rfl, S, M⟩
      refine ⟨_, rfl, _, rfl, _, rfl, p, q, rs, i', _, rfl, S.pool, by omega, fun r r0 r1 => ?_⟩
      obtain ⟨jj, rfl, hjj⟩ := nat_of r0 r1
      have S1 := S.draw
      obtain ⟨x, hx⟩ : ∃ x, pls[jj]? = some x := ⟨_, List.getElem?_eq_getElem (by omega)⟩
      obtain ⟨y, hy⟩ : ∃ y, pls[ii + 1]? = some y := ⟨_, List.getElem?_eq_getElem (by omega)⟩
      obtain ⟨wy, hw⟩ : ∃ wy, nms[ii]? = some wy := ⟨_, List.getElem?_eq_getElem (by omega)⟩
      have ey : atI (pls.map V.str) ((1 : Int) + (ii : Nat)) = some (.str y) := by
        rw [show (1 : Int) + (ii : Nat) = ((ii + 1 : Nat) : Int) by omega]
        exact atI_nat (by rw [List.getElem?_map, hy]; rfl)
      have ew : atI (nms.map V.str) ((1 : Int) + (ii : Nat) - 1) = some (.str wy) := by
        rw [show (1 : Int) + (ii : Nat) - 1 = ((ii : Nat) : Int) by omega]
        exact atI_nat (by rw [List.getElem?_map, hw]; rfl)
      refine ⟨a1, _, _, _, rfl, rfl, SqL.of S1.h1, atI_nat (j := jj) (by rw [List.getElem?_map, hx]; rfl), ?_⟩
      refine ⟨_, rfl, _, rfl, _, rfl, a1, _, _, _, rfl, rfl, SqL.of S1.h1, ey, by show 2 ≤ sizeLine; decide, fun t1 nt1 => ⟨by show 2 ≤ sizeLine; decide, fun t2 nt2 => ?_⟩⟩
      have S2 := (S1.same (sm (o := .tup [.str x, .str y]) nt1)).same (sm (o := .tup [.ref t1, .bl true]) nt2)
      have hv : TwoAt K (upd (upd (upd H' p (.lst [.ref q, .int (i' + 1)])) t1 (.tup [.str x, .str y])) t2 (.tup [.ref t1, .bl true])) (.ref t1) (x, y) := ⟨t1, rfl, SqT.of (sm nt2 _ _ upd_same)⟩
      have fresh : valV kvs (Sum.inr wy : Key) = none := lks_none S.lk (by rw [M.ks]; exact nodup_at nnms hw)
      have epk : putK kvs (Sum.inr wy : Key) (.ref t1) = kvs ++ [(Sum.inr wy, .ref t1)] := putK_new _ fresh
      have S3 := S2.put Hdp nedq (w := wy) hv
      rw [← epk] at S3
      have S4 := S3.out Hdq nedq (putK ovs (Sum.inr x : Key) (.bl true))
      refine ⟨t2, _, rfl, SqT.of upd_same, rfl, _, _, rfl, _, rfl, _, rfl, _, rfl, _, _, rfl, rfl, a2, _, _, _, rfl, rfl, SqL.of S2.h2, ew, dp, _, rfl, DPut.k (k := Sum.inr wy) S2.hd ?_, _, _, rfl, _, rfl, _, rfl, dq, _, rfl, DPut.k (k := Sum.inr x) S3.ho (small1000 (by have := M.ol; omega)), rfl, ?_⟩
      · have z1 : kvs.length = ls.length := Paired.length S.lk
        have z2 : (keysL ls).length = ls.length := List.length_map _
        rw [M.ks, List.length_take] at z2
        exact small1000 (by omega)
      · exact ⟨_, _, _, _, _, _, rfl, S4, M.step npls hw (by omega) hx hy⟩
    · rintro σ H' ⟨i', kvs, ls, ovs, v8, v9, rfl, S, M⟩
      refine ⟨_, rfl, _, rfl, _, _, rfl, rfl, p, q, rs, i', _, rfl, S.pool, by omega, fun r r0 r1 => ?_⟩
      obtain ⟨mm, rfl, hmm⟩ := nat_of r0 r1
      have S0 := S.draw
      refine ⟨_, rfl, by omega, by omega, ?_⟩
      rw [Int.toNat_natCast]
      refine for_range (lo := 0) (n := mm) (fun ii σ H' => ∃ (i' : Int) (kvs : List (Key × V)) (ls : List Lk) (v8 v9 v10 v11 v12 v13 : Option V), σ = [some (.ref p), some (.int mo), some (.int n), some (.bl true), some (.ref a1), some (.ref a2), some (.ref dp), some (.ref dq), v8, v9, v10, v11, v12, v13, none, none] ∧
        St1 K H p q rs a1 a2 dp dq pls nms H' i' kvs ls ovs ∧ M2 pls nms pls.length ii ls ovs) ⟨_, _, _, _, _, _, _, _, _, rfl, S0, M.m2 (by omega)⟩ ?_ ?_
      · rintro ii σ H' hii ⟨i', kvs, ls, v8, v9, v10, v11, v12, v13, rfl, S, M⟩
        refine ⟨_, rfl, _, rfl, a1, _, rfl, .inl (SqL.of S.h1), p, q, rs, i', _, rfl, S.pool, by rw [List.length_map]; omega, fun r r0 r1 => ?_⟩
        obtain ⟨u1, rfl, hu1⟩ := nat_of r0 r1
        have S1 := S.draw
        refine ⟨_, rfl, _, rfl, a1, _, rfl, .inl (SqL.of S1.h1), p, q, rs, _, _, rfl, S1.pool, by rw [List.length_map]; omega, fun r r0 r1 => ?_⟩
        obtain ⟨u2, rfl, hu2⟩ := nat_of r0 r1
        have S2 := S1.draw
        generalize upd (upd H' p (.lst [.ref q, .int (i' + 1)])) p (.lst [.ref q, .int (i' + 1 + 1)]) = H6 at S2
        rw [List.length_map] at hu1 hu2
        obtain ⟨x, hx⟩ : ∃ x, pls[u1]? = some x := ⟨_, List.getElem?_eq_getElem (by omega)⟩
        obtain ⟨y, hy⟩ : ∃ y, pls[u2]? = some y := ⟨_, List.getElem?_eq_getElem (by omega)⟩
        obtain ⟨wy, hw⟩ : ∃ wy, nms[pls.length - 1 + ii]? = some wy := ⟨_, List.getElem?_eq_getElem (by omega)⟩
        have ew : atI (nms.map V.str) ((((pls.map V.str).length : Nat) : Int) - 1 + ((0 : Int) + (ii : Nat))) = some (.str wy) := by
          rw [show (((pls.map V.str).length : Nat) : Int) - 1 + ((0 : Int) + (ii : Nat)) = ((pls.length - 1 + ii : Nat) : Int) by rw [List.length_map]; omega]
          exact atI_nat (by rw [List.getElem?_map, hw]; rfl)
        refine ⟨_, _, rfl, _, rfl, _, rfl, iteT (iteT ?_)⟩
        refine ⟨_, rfl, _, rfl, iteT ⟨_, rfl, _, rfl, by show 2 ≤ sizeLine; decide, fun t nt => ⟨t, _, rfl, SqT.of upd_same, rfl, _, _, rfl, _, _, rfl, rfl, ?_⟩⟩⟩
        have S3 := S2.same (sm (o := .tup [.int u1, .int u2]) nt)
        refine ⟨_, rfl, _, rfl, a1, _, _, _, rfl, rfl, SqL.of S3.h1, atI_nat (j := u1) (by rw [List.getElem?_map, hx]; rfl), _, rfl, _, rfl, a1, _, _, _, rfl, rfl, SqL.of S3.h1, atI_nat (j := u2) (by rw [List.getElem?_map, hy]; rfl), by show 2 ≤ sizeLine; decide, fun t1 nt1 => ?_⟩
        have S4 := S3.same (sm (o := .tup [.str x, .str y]) nt1)
        have fresh : valV kvs (Sum.inr wy : Key) = none := lks_none S.lk (by rw [M.ks]; exact nodup_at nnms hw)
        have epk : putK kvs (Sum.inr wy : Key) (.ref t1) = kvs ++ [(Sum.inr wy, .ref t1)] := putK_new _ fresh
        have S5 := S4.put Hdp nedq (w := wy) (v := .ref t1) (x := x) (y := y) ⟨t1, rfl, SqT.of upd_same⟩
        rw [← epk] at S5
        have ksz : kvs.length < sizeLine := by
          have z1 : kvs.length = ls.length := Paired.length S.lk
          have z2 : (keysL ls).length = ls.length := List.length_map _
          rw [M.ks, List.length_take] at z2
          exact small1000 (by omega)
        refine ⟨_, rfl, _, rfl, _, rfl, a1, _, rfl, .inl (SqL.of S4.h1), _, _, rfl, rfl, _, rfl, _, _, rfl, rfl, a2, _, _, _, rfl, rfl, SqL.of S4.h2, ew, dp, _, rfl, DPut.k (k := Sum.inr wy) S4.hd ksz, ?_⟩
        exact ⟨_, _, _, _, _, _, _, _, _, rfl, S5, M.step hw (List.mem_of_getElem? hx) (List.mem_of_getElem? hy)⟩
      · rintro σ H' ⟨i', kvs, ls, v8, v9, v10, v11, v12, v13, rfl, S, M⟩
        refine ⟨_, rfl, a1, rfl, ⟨_, SqL.of S.h1⟩, fun D nD => lc_it walk_list (fun ii H'' => ∃ (i'' : Int) (es : List Str), St1 K H p q rs a1 a2 dp dq pls nms H'' i'' kvs ls ovs ∧ H'' D = some (.lst (es.map V.str)) ∧ ES pls ovs ii es) ?_ (fun ii H'' _ ⟨_, _, z, _⟩ => SqL.of z.h1) ?_ ?_⟩
        · exact ⟨i', [], S.same (sm nD), upd_same, ⟨fun x z => (nomatch z), List.nodup_nil, fun x z => (by rw [List.take_zero] at z; cases z), Nat.le_refl 0⟩⟩
        · rintro ii v H5 H6 hii ⟨i'', es, S5, hD5, ES5⟩ ⟨rfl, hv⟩
          have Dp : D ≠ p := fun z => by rw [z, S.pool.hp] at nD; cases nD
          have Dq : D ≠ q := fun z => by rw [z, S.pool.hq] at nD; cases nD
          have D1 : D ≠ a1 := fun z => by rw [z, S.h1] at nD; cases nD
          have D2 : D ≠ a2 := fun z => by rw [z, S.h2] at nD; cases nD
          have HD : H D = none := S.but.free Dp nD
          rw [List.length_map] at hii
          obtain ⟨x, hx⟩ : ∃ x, pls[ii]? = some x := ⟨_, List.getElem?_eq_getElem hii⟩
          obtain rfl : v = .str x := by
            rw [List.getElem?_map, hx] at hv
            exact (Option.some.inj hv).symm
          refine ⟨rfl, _, rfl, _, rfl, dq, _, rfl, DGet.k (k := Sum.inr x) S5.ho, _, rfl, ?_⟩
          have yes : ∀ {H7 : Hp} {i7 : Int}, St1 K H p q rs a1 a2 dp dq pls nms H7 i7 kvs ls ovs → H7 D = some (.lst (es.map V.str)) → ∃ acc, H7 D = some (.lst acc) ∧ acc.length < sizeLine ∧ ∃ (i'' : Int) (es' : List Str), St1 K H p q rs a1 a2 dp dq pls nms (upd H7 D (.lst (acc ++ [V.str x]))) i'' kvs ls ovs ∧ (upd H7 D (.lst (acc ++ [V.str x]))) D = some (.lst (es'.map V.str)) ∧ ES pls ovs (ii + 1) es' := fun {H7 i7} S7 hD7 => by
            refine ⟨_, hD7, small1000 (by rw [List.length_map]; have := ES5.len; omega), i7, es ++ [x], S7.lst hD7 HD Dp Dq D1 D2, ?_, ES5.yes npls hx⟩
            rw [upd_same, List.map_append]
            rfl
          cases e : valV ovs (Sum.inr x : Key) with
          | none =>
            refine iteT ?_
            exact iteT ⟨_, rfl, yes S5 hD5⟩
          | some z =>
            refine iteF ?_
            refine ⟨_, rfl, p, q, rs, i'', 5, rfl, S5.pool, by decide, fun r r0 r1 => ⟨rfl, _, rfl, ?_⟩⟩
            have S6 := S5.draw
            have hD6 : (upd H6 p (.lst [.ref q, .int (i'' + 1)])) D = some (.lst (es.map V.str)) := by rw [upd_ne Dp]; exact hD5
            refine iteB (fun _ => ⟨_, rfl, yes S6 hD6⟩) (fun _ => ⟨_, es, S6, hD6, ES5.no hx (by rw [e]; rfl)⟩)
        · rintro H5 ⟨i'', es, S5, hD5, ES5⟩
          rw [List.length_map] at ES5
          obtain ⟨b0, hb0⟩ : ∃ b0, pls[0]? = some b0 := ⟨_, List.getElem?_eq_getElem (by omega)⟩
          refine fun r nr => ⟨_, rfl, _, rfl, a1, _, _, _, rfl, rfl, SqL.of (sm nr _ _ S5.h1), atI_nat (j := 0) (by rw [List.getElem?_map, hb0]; rfl), _, rfl, upd_same, [(Sum.inr "ways", .ref dp), (Sum.inr "begin", .str b0), (Sum.inr "exits", .ref D)], rfl, by show 3 ≤ 15; decide, ?_⟩
          rw [upd_upd]
          have Dp : D ≠ p := fun z => by rw [z, S.pool.hp] at nD; cases nD
          have rp : r ≠ p := fun z => by rw [z, S5.pool.hp] at nr; cases nr
          refine k r dp D pls ls es b0 _ i'' (S5.but.free rp nr) Hdp (S.but.free Dp nD) (drawn_of okw npls (by omega) (by omega) okn nnms (by omega) (by omega) M ES5) hb0 (by omega) (S5.but.trans (But.of (sm nr))) (S5.pool.same (sm nr)) ⟨?_, ⟨kvs, sm nr _ _ S5.hd, S5.lk.same (sm nr)⟩, sm nr _ _ hD5⟩
          rw [upd_same]
          rfl
end
end LW


set_option Elab.async false
set_option linter.all false
set_option maxRecDepth 100000
set_option maxHeartbeats 4000000
namespace LW
open PySem L2 PG
open LH hiding sm top
abbrev sMade : Stmt := LH.top 35
abbrev sLPlaces : Stmt := LH.top 36
abbrev sLLeaving : Stmt := LH.top 0
theorem get_ways {K : PySem.W.Frag} {H : Hp} {r dp ex : Addr} {ls : List Lk} {b : Str} {es : List Str} (h : PrgAt K H r dp ex ls b es) : DGet H r (.str "ways") (some (.ref dp)) := .inl ⟨_, Sum.inr "ways", .inl h.hr, rfl, rfl⟩
theorem get_begin {K : PySem.W.Frag} {H : Hp} {r dp ex : Addr} {ls : List Lk} {b : Str} {es : List Str} (h : PrgAt K H r dp ex ls b es) : DGet H r (.str "begin") (some (.str b)) := .inl ⟨_, Sum.inr "begin", .inl h.hr, rfl, rfl⟩
theorem get_exits {K : PySem.W.Frag} {H : Hp} {r dp ex : Addr} {ls : List Lk} {b : Str} {es : List Str} (h : PrgAt K H r dp ex ls b es) : DGet H r (.str "exits") (some (.ref ex)) := .inl ⟨_, Sum.inr "exits", .inl h.hr, rfl, rfl⟩
section
variable {P : Program} {w : World} {K : PySem.W.Frag} {mg : Str → Option Value} {base : Heap}
theorem scMade : FnScope ["prog"] ["prog"] (defScope sMade) := ⟨rfl, rfl, rfl, by decide +kernel, rfl, by decide +kernel, by decide +kernel⟩
def spMade (K : PySem.W.Frag) (C : Addr) : Sp := fun vs H Q _ => ∃ (r dp ex : Addr) (ls : List Lk) (b : Str) (es : List Str), vs = [.ref r] ∧ PrgAt K H r dp ex ls b es ∧ GoodP ls b es ∧
  ∀ (H' : Hp) (x dx L S F : Addr), Same H H' → H x = none → H L = none → H S = none → H F = none → ProgAt K C H' x dx L S F (pdOf ls b es) → Q (.ref x) H'
/-- what init's promise comes to for a new program -/
theorem init_new {C : Addr} {H1 : Hp} {a e : Addr} {b : Str} {kvs : List (Key × V)} {ls : List Lk} {es : List Str} {R : Addr → Hp → Prop} {E : XK} (ha : H1 a = some (.dK kvs)) (lk : Lks K H1 kvs ls) (he : H1 e = some (.lst (es.map V.str))) (Gd : GoodP ls b es)
    (k : ∀ (H' : Hp) (x dx L S F : Addr), Same H1 H' → H1 x = none → H1 L = none → H1 S = none → H1 F = none → ProgAt K C H' x dx L S F (pdOf ls b es) → R x H') :
    ∀ x dx, H1 x = none → H1 dx = none → dx ≠ x → spInit K C [.ref x, .ref a, .str b, .ref e] (upd (upd H1 dx (.own x)) x (.ins C dx [])) (fun v H2 => v = .non ∧ R x H2) E := by
  intro x dx nx ndx nxd
  have s1 : Same H1 (upd (upd H1 dx (.own x)) x (.ins C dx [])) := fun c o z => by
    rw [upd_ne (ne_of_none z nx), upd_ne (ne_of_none z ndx)]
    exact z
  refine ⟨x, dx, a, e, b, kvs, ls, es, rfl, upd_same, s1 _ _ ha, lk.same s1, s1 _ _ he, Gd, fun H' L S F s2 nL nS nF pr => ⟨rfl, ?_⟩⟩
  have fr : ∀ {y : Addr}, (upd (upd H1 dx (.own x)) x (.ins C dx [])) y = none → H1 y = none := fun {y} z => by
    cases q : H1 y with
    | none => rfl
    | some o => rw [s1 _ _ q] at z; cases z
  exact k H' x dx L S F (fun c o z => s2 c o (ne_of_none z nx) (s1 c o z)) nx (fr nL) (fr nS) (fr nF) pr
theorem ok_made {f C fI : Addr} {fd fdI : FuncData} (F : Fun K "_law_made" "_law_made" sMade f fd) (T : PT0 mg) (Tc : PTc K mg C) (M : Mk K C fI) (bI : Binds K fdI ["self", "ways", "begin", "exits"] []) (GI : FnOk P w K mg base CX0 4 fI fdI ["self", "ways", "begin", "exits"] (spInit K C)) : FnOk P w K mg base CX0 6 f fd ["prog"] (spMade K C) := by
  refine F.ok scMade (fun vs H Q E h => ?_) (fun cdv A outer s H vs Q E hr h => ?_)
  · obtain ⟨r, dp, ex, ls, b, es, rfl, _⟩ := h
    rfl
  · obtain ⟨r, dp, ex, ls, b, es, rfl, h, Gd, k⟩ := h
    have hu := hu_of hr
    obtain ⟨kvs, hd, lk⟩ := h.hw
    refine ⟨_, pss_one (ps_ret (pe_make M GI hr (by rfl) Tc.gC bI .nil pass0 (pa_cons (pe_callTy call_dictD (by rfl) T.dict (by decide +kernel) (pa_cons (pe_dget hu (pv 0) pe_str (fun _ _ => rfl)) pa_nil)) (pa_cons (pe_dget hu (pv 0) pe_str (fun _ _ => rfl)) (pa_cons (pe_callTy call_list_of (by rfl) T.list PyProof.Rows.boot_list (pa_cons (pe_dget hu (pv 0) pe_str (fun _ _ => rfl)) pa_nil)) pa_nil))))), ?_⟩
    refine ⟨_, rfl, r, _, rfl, get_ways h, dp, kvs, rfl, .inl hd, fun a na => ?_⟩
    have h1 := h.same (sm (o := .dK kvs) na)
    refine ⟨_, rfl, r, _, rfl, get_begin h1, _, rfl, r, _, rfl, get_exits h1, ex, _, rfl, .inl (SqL.of h1.he), fun e ne => ?_⟩
    have s2 : Same H (upd (upd H a (.dK kvs)) e (.lst (es.map V.str))) := (sm na).trans (sm ne)
    have fr : ∀ {y : Addr}, (upd (upd H a (.dK kvs)) e (.lst (es.map V.str))) y = none → H y = none := fun {y} z => by
      cases q : H y with
      | none => rfl
      | some o => rw [s2 _ _ q] at z; cases z
    exact init_new (sm ne _ _ upd_same) (lk.same s2) upd_same Gd fun H' x dx L S Fn s3 nx nL nS nF pr => k H' x dx L S Fn (s2.trans s3) (fr nx) (fr nL) (fr nS) (fr nF) pr
/-! ### _law_places -/
abbrev nsLP : List Str := ["prog", "found", "way", "place"]
theorem scLPlaces : FnScope nsLP ["prog"] (defScope sLPlaces) := ⟨rfl, rfl, rfl, by decide +kernel, rfl, by decide +kernel, by decide +kernel⟩
/-- one way more looked at -/
def lpStep (found : List Str) (l : Lk) : List Str := found ++ [l.2.1, l.2.2].filter fun x => !decide (x ∈ found)
def lpAll (ls : List Lk) : List Str := ls.foldl lpStep []
theorem lp_mem : ∀ (ls : List Lk) (f : List Str) (x : Str), x ∈ ls.foldl lpStep f ↔ x ∈ f ∨ x ∈ ends ls
  | [], f, x => ⟨.inl, fun h => h.elim id fun z => nomatch z⟩
  | l :: r, f, x => by
    rw [List.foldl_cons, lp_mem r]
    have e : x ∈ ends (l :: r) ↔ (x = l.2.1 ∨ x = l.2.2) ∨ x ∈ ends r := by
      show x ∈ [l.2.1, l.2.2] ++ ends r ↔ _
      rw [List.mem_append]
      simp
    have e2 : x ∈ lpStep f l ↔ x ∈ f ∨ (x = l.2.1 ∨ x = l.2.2) := by
      unfold lpStep
      rw [List.mem_append, List.mem_filter]
      constructor
      · rintro (h | ⟨h, _⟩)
        · exact .inl h
        · exact .inr (by simpa using h)
      · rintro (h | h)
        · exact .inl h
        · by_cases z : x ∈ f
          · exact .inl z
          · exact .inr ⟨by simpa using h, by simpa using z⟩
    rw [e, e2, or_assoc]
theorem lp_nodup1 : ∀ {ts : List Lk} {f : List Str}, (∀ l ∈ ts, l.2.1 ≠ l.2.2) → f.Nodup → (ts.foldl lpStep f).Nodup
  | [], _, _, h => h
  | l :: r, f, ne, h => by
    rw [List.foldl_cons]
    refine lp_nodup1 (fun l' hl => ne l' (List.mem_cons_of_mem _ hl)) ?_
    unfold lpStep
    have n2 : [l.2.1, l.2.2].Nodup := List.nodup_cons.mpr ⟨fun z => ne l List.mem_cons_self (List.mem_singleton.mp z), List.nodup_cons.mpr ⟨List.not_mem_nil, List.nodup_nil⟩⟩
    refine List.nodup_append.mpr ⟨h, n2.sublist List.filter_sublist, fun a ha b hb e => ?_⟩
    have z := (List.mem_filter.mp hb).2
    rw [← e] at z
    simp at z
    exact z ha
theorem lp_nodup2 : ∀ {ms : List Lk} {f : List Str}, (∀ x ∈ ends ms, x ∈ f) → ms.foldl lpStep f = f
  | [], _, _ => rfl
  | l :: r, f, h => by
    have h1 : ∀ x ∈ [l.2.1, l.2.2], x ∈ f := fun x hx => h x (List.mem_append_left _ hx)
    have e : lpStep f l = f := by
      unfold lpStep
      have : ([l.2.1, l.2.2].filter fun x => !decide (x ∈ f)) = [] := List.filter_eq_nil_iff.mpr fun x hx => by simpa using h1 x hx
      rw [this, List.append_nil]
    rw [List.foldl_cons, e]
    exact lp_nodup2 fun x hx => h x (List.mem_append_right [l.2.1, l.2.2] hx)
theorem lp_places {pls : List Str} {ls : List Lk} {es : List Str} (d : Drawn pls ls es) : srt (lpAll ls) = plc ls ∧ (lpAll ls).length ≤ 7 := by
  obtain ⟨ts, ms, e, a, b⟩ := d.tr
  have nd : (lpAll ls).Nodup := by
    unfold lpAll
    rw [e, List.foldl_append]
    have z := lp_nodup1 (f := []) a List.nodup_nil
    rw [lp_nodup2]
    · exact z
    · intro x hx
      refine (lp_mem ts [] x).mpr (.inr (b x ((d.ends x).mp ?_)))
      rw [e]
      obtain ⟨l, hl, q⟩ := ends_mem.mp hx
      exact ends_mem.mpr ⟨l, List.mem_append_right _ hl, q⟩
  have mm : ∀ x, x ∈ lpAll ls ↔ x ∈ ends ls := fun x => by
    unfold lpAll
    rw [lp_mem]
    exact ⟨fun h => h.elim (fun z => nomatch z) id, .inr⟩
  refine ⟨?_, ?_⟩
  · unfold plc
    refine srt_same nd (insAll_nd List.nodup_nil) fun x => ?_
    rw [mm, STX.insAll_mem]
    exact ⟨.inl, fun h => h.elim id fun z => nomatch z⟩
  · have z := nodup_le nd fun x hx => (d.ends x).mp ((mm x).mp hx)
    have := d.n7
    omega
theorem lp_len (f : List Str) (l : Lk) : (lpStep f l).length ≤ f.length + 2 := by
  unfold lpStep
  rw [List.length_append]
  have z := List.length_filter_le (fun x => !decide (x ∈ f)) [l.2.1, l.2.2]
  have e : [l.2.1, l.2.2].length = 2 := rfl
  omega
theorem lp_lenAll : ∀ (ls : List Lk) (f : List Str), (ls.foldl lpStep f).length ≤ f.length + 2 * ls.length
  | [], _ => Nat.le_refl _
  | l :: r, f => by
    rw [List.foldl_cons, List.length_cons]
    have a := lp_lenAll r (lpStep f l)
    have b := lp_len f l
    omega
theorem prg_ne {H : Hp} {r dp ex : Addr} {ls : List Lk} {b : Str} {es : List Str} (h : PrgAt K H r dp ex ls b es) : r ≠ dp := fun z => by
  obtain ⟨kvs, hd, lk⟩ := h.hw
  have e := h.hr
  rw [z, hd] at e
  have e2 := HO.dK.inj (Option.some.inj e)
  rw [e2] at lk
  cases lk with
  | cons _ rs =>
    cases rs with
    | cons q _ =>
      obtain ⟨_, t, q2, _⟩ := q
      cases q2
/-- prog["ways"] while they are walked -/
theorem get_waysL {H H' : Hp} {r dp ex : Addr} {ls : List Lk} {b : Str} {es : List Str} {od : Obj} {u : HO} (h : PrgAt K H r dp ex ls b es) (s : Same (upd H dp (.frz od u)) H') : DGet H' r (.str "ways") (some (.ref dp)) :=
  .inl ⟨_, Sum.inr "ways", .inl (s _ _ (by rw [upd_ne (prg_ne h)]; exact h.hr)), rfl, rfl⟩
theorem filt_snoc {xs : List Str} {j : Nat} {x : Str} (c : Str → Bool) (h : xs[j]? = some x) : ((xs.take (j + 1)).filter c).map V.str = ((xs.take j).filter c).map V.str ++ (if c x then [V.str x] else []) := by
  rw [List.take_add_one, h, List.filter_append, List.map_append]
  congr 1
  show List.map V.str (List.filter c [x]) = _
  by_cases e : c x = true
  · rw [List.filter_cons_of_pos e, if_pos e]
    rfl
  · rw [List.filter_cons_of_neg e, if_neg e]
    rfl
def spLP (K : PySem.W.Frag) : Sp := fun vs H Q _ => ∃ (r dp ex : Addr) (pls : List Str) (ls : List Lk) (b : Str) (es : List Str), vs = [.ref r] ∧ PrgAt K H r dp ex ls b es ∧ Drawn pls ls es ∧
  ∀ (H' : Hp) (p : Addr), Same H H' → H p = none → H' p = some (.lst ((plc ls).map V.str)) → Q (.ref p) H'
theorem ok_lplaces {f : Addr} {fd : FuncData} (F : Fun K "_law_places" "_law_places" sLPlaces f fd) (T : PT0 mg) : FnOk P w K mg base CX0 1 f fd ["prog"] (spLP K) := by
  refine F.ok scLPlaces (fun vs H Q E h => ?_) (fun cdv A outer s H vs Q E hr h => ?_)
  · obtain ⟨r, dp, ex, pls, ls, b, es, rfl, _⟩ := h
    rfl
  · obtain ⟨r, dp, ex, pls, ls, b, es, rfl, h, D, k⟩ := h
    have hu := hu_of hr
    have nd := scLPlaces.nd
    obtain ⟨kvs, hd, lk⟩ := h.hw
    refine ⟨_, pss_cons (ps_set (i := 1) nd rfl (Or.inr rfl) (pe_lst pa_nil))
      (pss_cons (ps_lock (ps_for PassesOwn.never rfl (pi_keys (pe_dget hu (pv 0) pe_str (fun _ _ => rfl))) (pg_name (i := 2) nd rfl (Or.inl rfl))
        (pss_one (ps_set (i := 1) nd rfl (Or.inr rfl) (pe_op op_cat (pv 1) (pe_lc (own := [("place", 3)]) (g := gName 3) (tt := tTest (tOp (rIn K true) (tVar 3) (tVar 1))) rfl nd (pi_tup (pe_dget hu (pe_dget hu (pv 0) pe_str (fun _ _ => rfl)) (pv 2) (fun _ _ => rfl))) (blkOk_by (own := [("place", 3)]) (N := nsLP) (sc := defScope sLPlaces) (by decide +kernel))
          (fun _ _ _ _ _ => pg_name (i := 3) nd rfl (Or.inl rfl)) (fun _ _ _ _ _ => pts_one (pt_cmpR op_notIn_seq (pv 3) (pv 1) rfl)) (fun _ _ _ _ _ => pv 3)))))))
      (pss_one (ps_ret (pe_callB cr_sortedS (by rfl) T.sorted PyProof.Rows.boot_sorted (pa_cons (pv 1) pa_nil))))), ?_⟩
    refine ⟨Nat.zero_le _, fun p0 np0 => ?_⟩
    have h0 := h.same (sm (o := .lst []) np0)
    have hd0 := sm (o := .lst []) np0 _ _ hd
    have lk0 := lk.same (sm (o := .lst []) np0)
    have s00 : Same H (upd H p0 (.lst [])) := sm np0
    have hp0 : (upd H p0 (.lst [])) p0 = some (.lst []) := upd_same
    show tSeq _ _ _ _ (upd H p0 (.lst []))
    generalize upd H p0 (.lst []) = H0 at h0 hd0 lk0 s00 hp0
    have lkn : kvs.length = ls.length := Paired.length lk
    have n12 := D.l2
    refine ⟨dp, .dK kvs, hd0, trivial, fun od => ⟨_, rfl, r, _, rfl, get_waysL h0 (Same.refl _), dp, od, rfl, .inl ⟨kvs, upd_same, for_it walk_keys (fun i σ H' => ∃ (pf : Addr) (v2 : Option V), σ = [some (.ref r), some (.ref pf), v2, none] ∧ Same (upd H0 dp (.frz od (.dK kvs))) H' ∧ H' pf = some (.lst (((ls.take i).foldl lpStep []).map V.str))) ?_ (fun i σ H' _ ⟨_, _, _, z, _⟩ => z _ _ upd_same) ?_ ?_⟩⟩⟩
    · exact ⟨p0, none, rfl, Same.refl _, by rw [upd_ne (ne_of hp0 hd0 (by intro z; cases z))]; exact hp0⟩
    · rintro i v σ H1 H2 hi ⟨pf, v2, rfl, s1, hf⟩ ⟨rfl, kk, vv, ekv, rfl⟩
      have lkL := Lks.lock (od := od) lk0 hd0
      obtain ⟨l, hl, e1, _⟩ := lks_at lkL ekv
      have e1' : kk = Sum.inr l.1 := e1
      subst e1'
      obtain ⟨t, hv, ht⟩ := pair_uniq lkL D.kn hl
      have hg : DGet H2 dp (.str l.1) (some (.ref t)) := by
        rw [← hv]
        exact .inl ⟨kvs, Sum.inr l.1, .inr ⟨od, s1 _ _ upd_same⟩, rfl, rfl⟩
      have hfl : ((ls.take i).foldl lpStep []).length ≤ 24 := by
        have z := lp_lenAll (ls.take i) []
        have z2 : (ls.take i).length ≤ ls.length := List.length_take_le' i ls
        rw [List.length_nil] at z
        omega
      have et : (ls.take (i + 1)).foldl lpStep [] = lpStep ((ls.take i).foldl lpStep []) l := by
        rw [List.take_add_one, hl, List.foldl_append]
        rfl
      rw [et]
      generalize (ls.take i).foldl lpStep [] = fnd at hf hfl
      refine ⟨_, rfl, _, rfl, r, _, rfl, get_waysL h0 s1, _, rfl, dp, _, rfl, hg, t, rfl, ⟨_, sqT_same ht s1⟩, fun B nB => ?_⟩
      refine lc_keep walk_tup nB (fun j => (([l.2.1, l.2.2].take j).filter fun x => !decide (x ∈ fnd)).map V.str) rfl (fun j _ => ?_) (fun H' s' => sqT_same (sqT_same ht s1) s') ?_ ?_
      · rw [List.length_map]
        exact Nat.le_trans (List.length_filter_le _ _) (Nat.le_trans (List.length_take_le' j _) (by show 2 ≤ 1000; decide))
      · rintro j v H3 H4 Pn hj s3 ⟨rfl, ev⟩ fin skip
        obtain ⟨x, hx, rfl⟩ : ∃ x, [l.2.1, l.2.2][j]? = some x ∧ v = .str x := by
          have : j = 0 ∨ j = 1 := by
            have z : j < 2 := hj
            omega
          rcases this with rfl | rfl
          · exact ⟨_, rfl, (Option.some.inj ev).symm⟩
          · exact ⟨_, rfl, (Option.some.inj ev).symm⟩
        refine ⟨rfl, _, rfl, _, rfl, pf, _, rfl, .inl (SqL.of (s3 _ _ hf)), rfl, PG.flat_strs _, _, rfl, ?_⟩
        rw [if_pos rfl, inV_strs]
        have sn := filt_snoc (fun x => !decide (x ∈ fnd)) hx
        refine iteB (fun c => ?_) (fun c => ?_)
        · refine ⟨_, rfl, fin H4 _ (Same.refl _) ?_⟩
          rw [sn, if_pos c]
        · refine skip H4 (Same.refl _) ?_
          rw [sn, if_neg (by rw [c]; exact Bool.false_ne_true), List.append_nil]
      · intro H3 s3 hB
        refine ⟨pf, B, _, _, rfl, rfl, s3 _ _ hf, hB, ?_, fun p2 np2 => ?_⟩
        · have e2 : ([V.str l.2.1, V.str l.2.2].length) = 2 := rfl
          rw [List.length_map, List.length_map, sizeLine_eq]
          have z := List.length_filter_le (fun x => !decide (x ∈ fnd)) ([l.2.1, l.2.2].take ([V.str l.2.1, V.str l.2.2].length))
          have z2 : ([l.2.1, l.2.2].take ([V.str l.2.1, V.str l.2.2].length)).length ≤ 2 := List.length_take_le' _ _
          omega
        · refine ⟨p2, _, rfl, fun c o z => sm np2 _ _ (s3 _ _ (s1 _ _ z)), ?_⟩
          rw [upd_same, ← List.map_append]
          rfl
    · rintro σ H1 ⟨pf, v2, rfl, s1, hf⟩
      rw [lkn, List.take_length] at hf
      refine ⟨s1 _ _ upd_same, _, rfl, pf, lpAll ls, rfl, SqL.of ?_, by have := (lp_places D).2; omega, fun ys p2 perm sr np2 => ?_⟩
      · rw [upd_ne (fun z => by rw [z, s1 _ _ upd_same] at hf; cases hf)]
        exact hf
      · have ey : ys = plc ls := (srt_of perm sr).trans (lp_places D).1
        subst ey
        have s2 : Same H (upd H1 dp (.dK kvs)) := s00.trans (unlock hd0 s1)
        refine k _ p2 (s2.trans (sm np2)) ?_ upd_same
        cases z : H p2 with
        | none => rfl
        | some o => rw [s2 _ _ z] at np2; cases np2
end
end LW


set_option Elab.async false
set_option linter.all false
set_option maxRecDepth 100000
set_option maxHeartbeats 4000000
namespace LC
open PySem L2 PG OW CT
open LH hiding sm top
open LW (But But.refl But.trans But.of But.upd pool_step Drawn PrgAt PrgAt.same LT spLP sLPlaces spMade get_ways get_begin get_exits okWords menuN nat_of)
abbrev sLAll : Stmt := LH.top 37
abbrev sSome : Stmt := LH.top 38
abbrev sSet : Stmt := LH.top 39
abbrev sLListed : Stmt := LH.top 40
abbrev sRight : Stmt := LH.top 41
abbrev sWaysR : Stmt := LH.top 42
abbrev sOdd : Stmt := LH.top 43
abbrev sLaw : Stmt := LH.top 44
theorem allC_of (ls : List Lk) (b : Str) (es : List Str) : allC (pdOf ls b es) = tag "way" (srt (keysL ls)) ++ (tag "place" (plc ls) ++ (tag "stop" (srt es) ++ [[("runs" : Str)]])) := by
  unfold allC pdOf
  dsimp only
  rw [srtL_keys]
theorem es_len {pls : List Str} {ls : List Lk} {es : List Str} (d : Drawn pls ls es) : es.length ≤ 7 := Nat.le_trans (nodup_leC d.exn d.ex1) d.n7
section
variable {P : Program} {w : World} {K : PySem.W.Frag} {mg : Str → Option Value} {base : Heap}
abbrev nsLA : List Str := ["prog", "found", "way", "place"]
theorem scLAll : FnScope nsLA ["prog"] (defScope sLAll) := ⟨rfl, rfl, rfl, by decide +kernel, rfl, by decide +kernel, by decide +kernel⟩
def spLAll (K : PySem.W.Frag) : Sp := fun vs H Q _ => ∃ (r dp ex : Addr) (pls : List Str) (ls : List Lk) (b : Str) (es : List Str), vs = [.ref r] ∧ PrgAt K H r dp ex ls b es ∧ Drawn pls ls es ∧
  ∀ (H' : Hp) (p : Addr) (us : List V), Same H H' → H p = none → H' p = some (.lst us) → TupLs K H' us (allC (pdOf ls b es)) → Q (.ref p) H'
theorem ok_lall {f fP : Addr} {fd fdP : FuncData} (Fn : Fun K "_law_all" "_law_all" sLAll f fd) (T : PT0 mg) (FP : Fun K "_law_places" "_law_places" sLPlaces fP fdP) (bP : Binds K fdP ["prog"] []) (gP : mg "_law_places" = some (.ref fP)) (GP : FnOk P w K mg base CX0 1 fP fdP ["prog"] (spLP K)) : FnOk P w K mg base CX0 2 f fd ["prog"] (spLAll K) := by
  refine Fn.ok scLAll (fun vs H Q E h => ?_) (fun cdv A outer s H vs Q E hr h => ?_)
  · obtain ⟨r, dp, ex, pls, ls, b, es, rfl, _⟩ := h
    rfl
  · obtain ⟨r, dp, ex, pls, ls, b, es, rfl, h, D, k⟩ := h
    have hu := hu_of hr
    have nd := scLAll.nd
    obtain ⟨kvs, hd, lk⟩ := h.hw
    refine ⟨_, pss_cons (ps_set (i := 1) nd rfl (Or.inl rfl) (pe_op op_cat (pe_lc (own := [("way", 2)]) (g := gName 2) (tt := tYes) rfl nd (pi_list (pe_callB (call_sortedD rfl) (by rfl) T.sorted PyProof.Rows.boot_sorted (pa_cons (pe_dget hu (pv 0) pe_str (fun _ _ => rfl)) pa_nil))) (blkOk_by (own := [("way", 2)]) (N := nsLA) (sc := defScope sLAll) (by decide +kernel)) (fun _ _ _ _ _ => pg_name (i := 2) nd rfl (Or.inl rfl)) (fun _ _ _ _ _ => pts_nil) (fun _ _ _ _ _ => pe_tup (pa_cons pe_str (pa_cons (pv 2) pa_nil))))
        (pe_lc (own := [("place", 3)]) (g := gName 3) (tt := tYes) rfl nd (pi_list (pe_call GP hr (by rfl) gP FP.kp bP .nil pass0 (pa_cons (pv 0) pa_nil))) (blkOk_by (own := [("place", 3)]) (N := nsLA) (sc := defScope sLAll) (by decide +kernel)) (fun _ _ _ _ _ => pg_name (i := 3) nd rfl (Or.inl rfl)) (fun _ _ _ _ _ => pts_nil) (fun _ _ _ _ _ => pe_tup (pa_cons pe_str (pa_cons (pv 3) pa_nil))))))
      (pss_one (ps_ret (pe_op op_cat (pe_op op_cat (pv 1) (pe_lc (own := [("place", 3)]) (g := gName 3) (tt := tYes) rfl nd (pi_list (pe_callB cr_sortedS (by rfl) T.sorted PyProof.Rows.boot_sorted (pa_cons (pe_dget hu (pv 0) pe_str (fun _ _ => rfl)) pa_nil))) (blkOk_by (own := [("place", 3)]) (N := nsLA) (sc := defScope sLAll) (by decide +kernel)) (fun _ _ _ _ _ => pg_name (i := 3) nd rfl (Or.inl rfl)) (fun _ _ _ _ _ => pts_nil) (fun _ _ _ _ _ => pe_tup (pa_cons pe_str (pa_cons (pv 3) pa_nil))))) (pe_lst (pa_cons (pe_tup (pa_cons pe_str pa_nil)) pa_nil))))), ?_⟩
    have kl : (keysL ls).length = ls.length := List.length_map _
    have n12 := D.l2
    have e7 := es_len D
    have p7 := D.plc
    refine ⟨_, rfl, r, _, rfl, get_ways h, dp, kvs, keysL ls, rfl, .inl hd, lks_keys lk, by omega, fun ys p0 perm sr np0 => ?_⟩
    obtain rfl := srt_of perm sr
    have s1 : Same H (upd H p0 (.lst ((srt (keysL ls)).map V.str))) := sm np0
    have hp0 : (upd H p0 (.lst ((srt (keysL ls)).map V.str))) p0 = some (.lst ((srt (keysL ls)).map V.str)) := upd_same
    generalize upd H p0 (.lst ((srt (keysL ls)).map V.str)) = H1 at s1 hp0
    refine ⟨p0, rfl, ⟨_, SqL.of hp0⟩, fun D1 nD1 => rd_tag (ws := srt (keysL ls)) hp0 (by rw [srt_len]; omega) nD1 (fun v => rfl) (fun v => rfl) fun H2 u1 s2 hD1 r1 => ?_⟩
    have s02 := s1.trans s2
    refine ⟨_, rfl, r, dp, ex, pls, ls, b, es, rfl, h.same s02, D, fun H3 p1 s3 np1 hp1 => ?_⟩
    refine ⟨p1, rfl, ⟨_, SqL.of hp1⟩, fun D2 nD2 => rd_tag (ws := plc ls) hp1 (by omega) nD2 (fun v => rfl) (fun v => rfl) fun H4 u2 s4 hD2 r2 => ?_⟩
    have s24 := s3.trans s4
    have l1 : u1.length ≤ 12 := by rw [Paired.length r1, tag_len, srt_len]; omega
    have l2 : u2.length ≤ 7 := by rw [Paired.length r2, tag_len]; exact p7
    refine ⟨D1, D2, u1, u2, rfl, rfl, s24 _ _ hD1, hD2, by rw [sizeLine_eq]; omega, fun q1 nq1 => ?_⟩
    have s5 : Same H4 (upd H4 q1 (.lst (u1 ++ u2))) := sm nq1
    have hq1 : (upd H4 q1 (.lst (u1 ++ u2))) q1 = some (.lst (u1 ++ u2)) := upd_same
    have r12 : TupLs K (upd H4 q1 (.lst (u1 ++ u2))) (u1 ++ u2) (tag "way" (srt (keysL ls)) ++ tag "place" (plc ls)) := paired_app (TupLs.same r1 (s24.trans s5)) (TupLs.same r2 s5)
    have s05 := s02.trans (s24.trans s5)
    generalize upd H4 q1 (.lst (u1 ++ u2)) = H5 at s5 hq1 r12 s05
    have h5 := h.same s05
    refine ⟨_, rfl, _, rfl, r, _, rfl, get_exits h5, ex, es, rfl, SqL.of h5.he, by omega, fun ys p2 perm2 sr2 np2 => ?_⟩
    obtain rfl := srt_of perm2 sr2
    have s6 : Same H5 (upd H5 p2 (.lst ((srt es).map V.str))) := sm np2
    have hp2 : (upd H5 p2 (.lst ((srt es).map V.str))) p2 = some (.lst ((srt es).map V.str)) := upd_same
    generalize upd H5 p2 (.lst ((srt es).map V.str)) = H6 at s6 hp2
    refine ⟨p2, rfl, ⟨_, SqL.of hp2⟩, fun D3 nD3 => rd_tag (ws := srt es) hp2 (by rw [srt_len]; omega) nD3 (fun v => rfl) (fun v => rfl) fun H7 u3 s7 hD3 r3 => ?_⟩
    have l3 : u3.length ≤ 7 := by rw [Paired.length r3, tag_len, srt_len]; exact e7
    have s57 := s6.trans s7
    refine ⟨q1, D3, _, u3, rfl, rfl, s57 _ _ hq1, hD3, by rw [List.length_append, sizeLine_eq]; omega, fun q2 nq2 => ?_⟩
    have s8 : Same H7 (upd H7 q2 (.lst (u1 ++ u2 ++ u3))) := sm nq2
    have hq2 : (upd H7 q2 (.lst (u1 ++ u2 ++ u3))) q2 = some (.lst (u1 ++ u2 ++ u3)) := upd_same
    have r123 : TupLs K (upd H7 q2 (.lst (u1 ++ u2 ++ u3))) (u1 ++ u2 ++ u3) (tag "way" (srt (keysL ls)) ++ tag "place" (plc ls) ++ tag "stop" (srt es)) := paired_app (TupLs.same r12 (s57.trans s8)) (TupLs.same r3 s8)
    have s08 := s05.trans (s57.trans s8)
    generalize upd H7 q2 (.lst (u1 ++ u2 ++ u3)) = H8 at s8 hq2 r123 s08
    refine ⟨by show 1 ≤ sizeLine; decide, fun t nt => ⟨by show 1 ≤ sizeLine; decide, fun l nl => ?_⟩⟩
    have s9 := sm (o := .tup [.str "runs"]) nt
    have s10 := sm (o := .lst [.ref t]) nl
    have s810 := s9.trans s10
    have ht := s10 _ _ (upd_same (H := H8) (a := t) (o := .tup [.str "runs"]))
    refine ⟨q2, l, _, _, rfl, rfl, s810 _ _ hq2, upd_same, ?_, fun q3 nq3 => ?_⟩
    · rw [List.length_append, List.length_append, sizeLine_eq]
      show _ + _ + _ + 1 ≤ _
      omega
    · have s11 := sm (o := .lst (u1 ++ u2 ++ u3 ++ [V.ref t])) nq3
      have sF := s08.trans (s810.trans s11)
      refine k _ q3 _ sF ?_ upd_same ?_
      · exact fr_of (s08.trans s810) nq3
      · rw [allC_of, ← List.append_assoc, ← List.append_assoc]
        exact paired_app (TupLs.same r123 (s810.trans s11)) (.cons (b := [("runs" : Str)]) ⟨t, rfl, SqT.of (s11 _ _ ht)⟩ .nil)
/-! ### what a draw keeps -/
theorem tup_but {p : Addr} {H H' : Hp} {l : List V} {v : V} {c : List Str} (b : But p H H') (hp : H p = some (.lst l)) (h : TupT K H v c) : TupT K H' v c := by
  obtain ⟨t, e, h⟩ := h
  refine ⟨t, e, ?_⟩
  have d : ∀ u, H t = some u → ((∃ l, u = .tup l) ∨ ∃ od l, u = .frz od (.tup l)) → t ≠ p := fun u hu hk z => by
    rw [z, hp] at hu
    cases hu
    rcases hk with ⟨l, e⟩ | ⟨od, l, e⟩ <;> cases e
  rcases h with (h | ⟨od, h⟩) | h
  · exact .inl (.inl (b _ _ (d _ h (.inl ⟨_, rfl⟩)) h))
  · exact .inl (.inr ⟨od, b _ _ (d _ h (.inr ⟨_, _, rfl⟩)) h⟩)
  · exact .inr h
theorem tups_but {p : Addr} {H H' : Hp} {l : List V} {vs : List V} {cs : List (List Str)} (b : But p H H') (hp : H p = some (.lst l)) (h : TupLs K H vs cs) : TupLs K H' vs cs := Paired.imp (fun _ _ q => tup_but b hp q) h
abbrev nsSm : List Str := ["pool", "prog", "chance", "counter"]
theorem scSome : FnScope nsSm ["pool", "prog", "chance"] (defScope sSome) := ⟨rfl, rfl, rfl, by decide +kernel, rfl, by decide +kernel, by decide +kernel⟩
def spSome (K : PySem.W.Frag) : Sp := fun vs H Q _ => ∃ (p q : Addr) (rs : List Int) (i ch : Int) (r dp ex : Addr) (pls : List Str) (ls : List Lk) (b : Str) (es : List Str), vs = [.ref p, .ref r, .int ch] ∧ PoolAt H p q rs i ∧ PrgAt K H r dp ex ls b es ∧ Drawn pls ls es ∧ (allC (pdOf ls b es)).length ≤ 200 ∧
  ∀ (H' : Hp) (D : Addr) (us : List V) (cs : List (List Str)) (i' : Int), But p H H' → H D = none → PoolAt H' p q rs i' → H' D = some (.lst us) → TupLs K H' us cs → cs.Sublist (allC (pdOf ls b es)) → Q (.ref D) H'
theorem ok_some {f fA fD : Addr} {fd fdA fdD : FuncData} (Fn : Fun K "_law_some" "_law_some" sSome f fd) (FA : Fun K "_law_all" "_law_all" sLAll fA fdA) (bA : Binds K fdA ["prog"] []) (gA : mg "_law_all" = some (.ref fA)) (GA : FnOk P w K mg base CX0 2 fA fdA ["prog"] (spLAll K))
    (FD : Fun K "_law_draw" "_law_draw" sDraw fD fdD) (bD : Binds K fdD ["pool", "many"] []) (gD : mg "_law_draw" = some (.ref fD)) (GD : FnOk P w K mg base CX0 1 fD fdD ["pool", "many"] spDraw) : FnOk P w K mg base CX0 3 f fd ["pool", "prog", "chance"] (spSome K) := by
  refine Fn.ok scSome (fun vs H Q E h => ?_) (fun cdv A outer s H vs Q E hr h => ?_)
  · obtain ⟨p, q, rs, i, ch, r, dp, ex, pls, ls, b, es, rfl, _⟩ := h
    rfl
  · obtain ⟨p, q, rs, i, ch, r, dp, ex, pls, ls, b, es, rfl, hP, h, D, few, k⟩ := h
    have nd := scSome.nd
    have hr1 : Room 1 _ := hr.mono (by decide)
    refine ⟨_, pss_one (ps_ret (pe_lc (own := [("counter", 3)]) (g := gName 3) (tt := tTest (tOp (rI0 fun i j => .bl (decide (i < j))) (tCall spDraw [] E0 (tCons (tVar 0) (tCons (tC (V.int 6)) tNil))) (tVar 2))) rfl nd (pi_list (pe_call GA hr (by rfl) gA FA.kp bA .nil pass0 (pa_cons (pv 1) pa_nil))) (blkOk_by (own := [("counter", 3)]) (N := nsSm) (sc := defScope sSome) (by decide +kernel)) (fun _ _ _ _ _ => pg_name (i := 3) nd rfl (Or.inl rfl))
      (fun _ _ _ _ _ => pts_one (pt_cmpR op_lt (pe_call GD hr1 (by rfl) gD FD.kp bD .nil pass0 (pa_cons (pv 0) (pa_cons pe_int pa_nil))) (pv 2) (nomark _))) (fun _ _ _ _ _ => pv 3))), ?_⟩
    refine ⟨_, rfl, r, dp, ex, pls, ls, b, es, rfl, h, D, fun H1 pA us s1 npA hpA hus => ?_⟩
    have hP1 := hP.same s1
    have nAp : pA ≠ p := fun z => by rw [z, hP.hp] at npA; cases npA
    generalize allC (pdOf ls b es) = all at hus few k
    have lu : us.length = all.length := Paired.length hus
    refine ⟨pA, rfl, ⟨_, SqL.of hpA⟩, fun B nB => ?_⟩
    have nBp : B ≠ p := fun z => by rw [z, hP1.hp] at nB; cases nB
    have nqB : q ≠ B := ne_of_none hP1.hq nB
    refine lc_it (walk_list (xs := us)) (fun j H' => But p H1 H' ∧ ∃ (i' : Int) (ts : List V) (cs : List (List Str)), PoolAt H' p q rs i' ∧ H' B = some (.lst ts) ∧ TupLs K H' ts cs ∧ cs.Sublist (all.take j)) ⟨But.of (sm nB), i, [], [], hP1.same (sm nB), upd_same, .nil, List.Sublist.refl _⟩ (fun j H' _ z => SqL.of (z.1 _ _ nAp hpA)) ?_ ?_
    · rintro j v H2 H3 hj ⟨b2, i', ts, cs, hP2, hB, hts, sub⟩ ⟨rfl, ev⟩
      obtain ⟨c, hc, tc⟩ := paired_at hus ev
      have tc2 := tup_but b2 hP1.hp tc
      have tk : all.take (j + 1) = all.take j ++ [c] := by rw [List.take_add_one, hc]; rfl
      have lts : ts.length ≤ 200 := by
        rw [Paired.length hts]
        exact Nat.le_trans sub.length_le (Nat.le_trans (List.length_take_le' j _) few)
      refine ⟨rfl, _, rfl, p, q, rs, i', 6, rfl, hP2, by decide, fun r0 r1 r2 => ?_⟩
      have hP3 := pool_step hP2
      have b3 : But p H3 (upd H3 p (.lst [.ref q, .int (i' + 1)])) := But.upd _
      generalize upd H3 p (.lst [.ref q, .int (i' + 1)]) = H4 at hP3 b3
      have tc4 := tup_but b3 hP2.hp tc2
      have hts4 := tups_but b3 hP2.hp hts
      have hB4 := b3 _ _ nBp hB
      have b14 := b2.trans b3
      refine ⟨_, rfl, _, _, rfl, rfl, _, rfl, iteB (fun _ => ?_) (fun _ => ?_)⟩
      · refine ⟨_, rfl, ts, hB4, small1000 (by omega), fun a o n e => ?_, i' + 1, _, cs ++ [c], LW.pool_upd hP3 nBp.symm nqB, upd_same, paired_snoc (tups_off hB4 (by intro l z; cases z) (by intro od l z; cases z) hts4) (tup_off hB4 (by intro l z; cases z) (by intro od l z; cases z) tc4), ?_⟩
        · rw [upd_ne (ne_of_none e nB)]
          exact b14 a o n e
        · rw [tk]
          exact List.Sublist.append sub (List.Sublist.refl _)
      · exact ⟨b14, i' + 1, ts, cs, hP3, hB4, hts4, by rw [tk]; exact List.Sublist.trans sub (List.sublist_append_left _ _)⟩
    · rintro H' ⟨b2, i', ts, cs, hP2, hB, hts, sub⟩
      rw [lu, List.take_length] at sub
      exact k H' B ts cs i' ((But.of s1).trans b2) (fr_of s1 nB) hP2 hB hts sub
end
end LC


set_option Elab.async false
set_option linter.all false
set_option maxRecDepth 100000
set_option maxHeartbeats 4000000
/-! counters of drawn programs, in plain mathematics -/
namespace LC
open PySem L2 PG OW CT
open LH hiding sm top
open LW (But Drawn PrgAt okWords menuN word_of)
theorem lay_word {x : Str} (h : isWord x = true) : PyData.canLay0 (.str x) = true := by
  unfold isWord at h
  rw [Bool.and_eq_true, Bool.and_eq_true] at h
  have h3 := List.all_eq_true.mp h.2.2
  show x.cps.all (· < 0x110000) = true
  rw [← Array.all_toList, List.all_eq_true]
  intro c hc
  have m : c ∈ alpha.cps.toList := of_decide_eq_true (h3 c hc)
  have all : ∀ c ∈ alpha.cps.toList, decide (c < 0x110000) = true := by decide +kernel
  exact all c m
theorem hits_eq (lb : List Lk) : ∀ la : List Lk, hitsL lb la = la.all fun l => decide (l.1 ∈ keysL lb) && decide (l.2 = lkp lb l.1)
  | [] => rfl
  | l :: r => by
    unfold hitsL
    rw [List.all_cons, hits_eq lb r]
    by_cases m : l.1 ∈ keysL lb
    · rw [if_pos m, decide_eq_true m, Bool.true_and]
    · rw [if_neg m, decide_eq_false m, Bool.false_and, Bool.false_and]
theorem hits_refl {ls : List Lk} (n : (keysL ls).Nodup) : hitsL ls ls = true := by
  rw [hits_eq, List.all_eq_true]
  intro l hl
  rw [decide_eq_true (key_mem hl), decide_eq_true (lkp_of n hl).symm]
  rfl
theorem hits_srt {la lb : List Lk} (na : (keysL la).Nodup) (nb : (keysL lb).Nodup) : hitsL (srtL lb) (srtL la) = hitsL lb la := by
  rw [hits_eq, hits_eq, Bool.eq_iff_iff, List.all_eq_true, List.all_eq_true]
  have kk : ∀ x, x ∈ keysL (srtL lb) ↔ x ∈ keysL lb := fun x => by rw [srtL_keys]; exact srt_mem
  constructor
  · intro h l hl
    have z := h l ((srtL_mem na).mpr hl)
    rw [Bool.and_eq_true, decide_eq_true_eq, decide_eq_true_eq] at z ⊢
    have m := (kk _).mp z.1
    exact ⟨m, by rw [z.2, srtL_lkp nb m]⟩
  · intro h l hl
    have z := h l ((srtL_mem na).mp hl)
    rw [Bool.and_eq_true, decide_eq_true_eq, decide_eq_true_eq] at z ⊢
    exact ⟨(kk _).mpr z.1, by rw [z.2, srtL_lkp nb z.1]⟩
theorem eqPD_of {la lb : List Lk} (na : (keysL la).Nodup) (nb : (keysL lb).Nodup) (b : Str) (es : List Str) : eqPD (pdOf la b es) (pdOf lb b es) = (decide (la.length = lb.length) && hitsL lb la) := by
  unfold eqPD pdOf
  dsimp only
  rw [srtL_len, srtL_len, hits_srt na nb, decide_eq_true rfl, decide_eq_true rfl, Bool.and_true, Bool.and_true]
theorem tag_nodup {t : Str} {ws : List Str} (n : ws.Nodup) : (tag t ws).Nodup := by
  unfold tag
  exact List.Pairwise.map _ (fun a b ne e => ne (List.cons.inj (List.cons.inj e).2).1) n
theorem tag_mem {t : Str} {ws : List Str} {c : List Str} : c ∈ tag t ws ↔ ∃ x ∈ ws, c = [t, x] := by
  unfold tag
  rw [List.mem_map]
  exact ⟨fun ⟨x, h, e⟩ => ⟨x, h, e.symm⟩, fun ⟨x, h, e⟩ => ⟨x, h, e.symm⟩⟩
theorem mem_allC {d : PD} {c : List Str} : c ∈ allC d ↔ (∃ x ∈ keysL d.ls, c = [("way" : Str), x]) ∨ (∃ x ∈ d.ps, c = [("place" : Str), x]) ∨ (∃ x ∈ d.fs, c = [("stop" : Str), x]) ∨ c = [("runs" : Str)] := by
  unfold allC
  rw [List.mem_append, List.mem_append, List.mem_append, tag_mem, tag_mem, tag_mem, List.mem_singleton]
theorem tags_ne : ("way" : Str) ≠ "place" ∧ ("way" : Str) ≠ "stop" ∧ ("place" : Str) ≠ "stop" := by decide +kernel
theorem tags_lay : PyData.canLay0 (.str "way") = true ∧ PyData.canLay0 (.str "place") = true ∧ PyData.canLay0 (.str "stop") = true ∧ PyData.canLay0 (.str "runs") = true := by decide +kernel
theorem pdok_of {ls : List Lk} {b : Str} {es : List Str} (g : GoodP ls b es) : PDok (pdOf ls b es) := by
  have we : ∀ x ∈ ends ls, isWord x = true := fun x hx => by
    obtain ⟨l, hl, q⟩ := ends_mem.mp hx
    obtain ⟨_, w1, w2⟩ := g.wd l hl
    rcases q with q | q
    · rw [q]; exact w1
    · rw [q]; exact w2
  refine ⟨fun x hx => lay_word (we x ?_), fun x hx => lay_word (we x (g.hs x (srt_mem.mp hx)))⟩
  obtain ⟨l, hl, q⟩ := ends_mem.mp hx
  exact ends_mem.mpr ⟨l, (srtL_mem g.nd).mp hl, q⟩
theorem pdg_of {ls : List Lk} {b : Str} {es : List Str} (g : GoodP ls b es) : PDg (pdOf ls b es) := by
  have we : ∀ x ∈ ends ls, isWord x = true := fun x hx => by
    obtain ⟨l, hl, q⟩ := ends_mem.mp hx
    obtain ⟨_, w1, w2⟩ := g.wd l hl
    rcases q with q | q
    · rw [q]; exact w1
    · rw [q]; exact w2
  have es64 : es.length ≤ 64 := by
    have z := nodup_leC g.hn fun x hx => plc_mem.mpr (g.hs x hx)
    have := g.sm
    omega
  have kw : ∀ x ∈ keysL (srtL ls), isWord x = true := fun x hx => by
    rw [srtL_keys] at hx
    obtain ⟨l, hl, rfl⟩ := List.mem_map.mp (srt_mem.mp hx)
    exact (g.wd l hl).1
  have mm : ∀ c ∈ allC (pdOf ls b es), TxOkk c ∧ c.length ≤ 2 := fun c hc => by
    rcases mem_allC.mp hc with ⟨x, hx, rfl⟩ | ⟨x, hx, rfl⟩ | ⟨x, hx, rfl⟩ | rfl
    · refine ⟨fun y hy => ?_, Nat.le_refl _⟩
      rcases List.mem_cons.mp hy with rfl | z
      · exact tags_lay.1
      · rw [List.mem_singleton.mp z]; exact lay_word (kw x hx)
    · refine ⟨fun y hy => ?_, Nat.le_refl _⟩
      rcases List.mem_cons.mp hy with rfl | z
      · exact tags_lay.2.1
      · rw [List.mem_singleton.mp z]; exact lay_word (we x (plc_mem.mp hx))
    · refine ⟨fun y hy => ?_, Nat.le_refl _⟩
      rcases List.mem_cons.mp hy with rfl | z
      · exact tags_lay.2.2.1
      · rw [List.mem_singleton.mp z]; exact lay_word (we x (g.hs x (srt_mem.mp hx)))
    · refine ⟨fun y hy => ?_, by show 1 ≤ 2; decide⟩
      rw [List.mem_singleton.mp hy]; exact tags_lay.2.2.2
  have sm := g.sm
  have n2 := g.n2
  have lk : (keysL (srtL ls)).length = ls.length := by rw [srtL_keys, srt_len]; exact List.length_map _
  exact {
    ok := pdok_of g
    sz := ⟨by show (srtL ls).length ≤ 40; rw [srtL_len]; exact n2, by show (plc ls).length ≤ 64; omega, by show (srt es).length ≤ 64; rw [srt_len]; exact es64⟩
    cok := fun c hc => (mm c hc).1
    sm := fun c hc => Nat.le_trans (mm c hc).2 (by decide)
    few := by
      unfold allC
      rw [List.length_append, List.length_append, List.length_append, tag_len, tag_len, tag_len]
      show (keysL (srtL ls)).length + ((plc ls).length + ((srt es).length + 1)) ≤ 200
      rw [lk, srt_len]
      omega
    eqr := by
      rw [eqPD_of g.nd g.nd, decide_eq_true rfl, hits_refl g.nd]
      rfl
    nd := by
      unfold allC
      refine List.nodup_append.mpr ⟨tag_nodup (srtL_nodup g.nd), List.nodup_append.mpr ⟨tag_nodup (plc_nodup ls), List.nodup_append.mpr ⟨tag_nodup (srt_nodup g.hn), List.nodup_cons.mpr ⟨List.not_mem_nil, List.nodup_nil⟩, ?_⟩, ?_⟩, ?_⟩
      · intro a ha c hc e
        obtain ⟨x, _, rfl⟩ := tag_mem.mp ha
        rw [List.mem_singleton.mp hc] at e
        cases e
      · intro a ha c hc e
        obtain ⟨x, _, rfl⟩ := tag_mem.mp ha
        rcases List.mem_append.mp hc with z | z
        · obtain ⟨y, _, rfl⟩ := tag_mem.mp z
          exact tags_ne.2.2 (List.cons.inj e).1
        · rw [List.mem_singleton.mp z] at e
          cases e
      · intro a ha c hc e
        obtain ⟨x, _, rfl⟩ := tag_mem.mp ha
        rcases List.mem_append.mp hc with z | z
        · obtain ⟨y, _, rfl⟩ := tag_mem.mp z
          exact tags_ne.1 (List.cons.inj e).1
        · rcases List.mem_append.mp z with z | z
          · obtain ⟨y, _, rfl⟩ := tag_mem.mp z
            exact tags_ne.2.1 (List.cons.inj e).1
          · rw [List.mem_singleton.mp z] at e
            cases e }
theorem selC_congr {d : PD} {as bs : List (List Str)} (h : ∀ c ∈ allC d, c ∈ as ↔ c ∈ bs) : selC d as = selC d bs := by
  unfold selC
  exact List.filter_congr fun c hc => by rw [decide_eq_decide]; exact h c hc
theorem selC_mem {d : PD} {as : List (List Str)} {c : List Str} : c ∈ selC d as ↔ c ∈ allC d ∧ c ∈ as := by
  unfold selC
  rw [List.mem_filter, decide_eq_true_eq]
theorem selC_len {d : PD} (g : PDg d) {as : List (List Str)} (h : CsIn d as) : (selC d as).length = as.length := by
  refine Nat.le_antisymm (nodup_leC (selC_in g as).nd fun c hc => (selC_mem.mp hc).2) (nodup_leC h.nd fun c hc => selC_mem.mpr ⟨h.sub c hc, hc⟩)
theorem selC_all (d : PD) : selC d (allC d) = allC d := by
  unfold selC
  exact List.filter_eq_self.mpr fun c hc => decide_eq_true hc
theorem selC_sel (d : PD) (as : List (List Str)) : selC d (selC d as) = selC d as := selC_congr fun c hc => by rw [selC_mem]; exact ⟨fun h => h.2, fun h => ⟨hc, h⟩⟩
theorem mem_addL {cs ds : List (List Str)} {c : List Str} : c ∈ addL cs ds ↔ c ∈ cs ∨ c ∈ ds := by
  unfold addL
  rw [List.mem_append, List.mem_filter]
  constructor
  · rintro (h | h)
    · exact .inl h
    · exact .inr h.1
  · rintro (h | h)
    · exact .inl h
    · by_cases e : c ∈ cs
      · exact .inl e
      · exact .inr ⟨h, by rw [decide_eq_false e]; rfl⟩
theorem mem_subL {cs ds : List (List Str)} {c : List Str} : c ∈ subL cs ds ↔ c ∈ cs ∧ c ∉ ds := by
  unfold subL
  rw [List.mem_filter, Bool.not_eq_true', decide_eq_false_iff_not]
theorem selC_add (d : PD) (as bs : List (List Str)) : selC d (addL (selC d as) (selC d bs)) = selC d (addL as bs) := selC_congr fun c hc => by
  rw [mem_addL, mem_addL, selC_mem, selC_mem]
  exact ⟨fun h => h.elim (fun z => .inl z.2) (fun z => .inr z.2), fun h => h.elim (fun z => .inl ⟨hc, z⟩) (fun z => .inr ⟨hc, z⟩)⟩
theorem selC_sub (d : PD) (as bs : List (List Str)) : selC d (subL (selC d as) (selC d bs)) = selC d (subL as bs) := selC_congr fun c hc => by
  rw [mem_subL, mem_subL, selC_mem, selC_mem]
  exact ⟨fun h => ⟨h.1.2, fun z => h.2 ⟨hc, z⟩⟩, fun h => ⟨⟨hc, h.1⟩, fun z => h.2 z.2⟩⟩
theorem sub_in {d : PD} (g : PDg d) {cs : List (List Str)} (h : cs.Sublist (allC d)) : CsIn d cs := ⟨fun c hc => h.subset hc, g.nd.sublist h⟩
theorem CsIn.rev {d : PD} {cs : List (List Str)} (h : CsIn d cs) : CsIn d cs.reverse := ⟨fun c hc => h.sub c (List.mem_reverse.mp hc), by rw [List.Nodup, List.pairwise_reverse]; exact h.nd.imp fun ne e => ne e.symm⟩
/-- the ways are more, the places the same -/
theorem good_more {ls ls' : List Lk} {b : Str} {es : List Str} (g : GoodP ls b es) (hp : ∀ pr ∈ ls.map (·.2), pr ∈ ls'.map (·.2)) (hq : ∀ l ∈ ls', l.2.1 ∈ ends ls ∧ l.2.2 ∈ ends ls) (n1 : 1 ≤ ls'.length) (n2 : ls'.length ≤ 40) (nd : (keysL ls').Nodup) (wk : ∀ x ∈ keysL ls', isWord x = true) : GoodP ls' b es := by
  have we : ∀ x ∈ ends ls, isWord x = true := fun x hx => by
    obtain ⟨l, hl, q⟩ := ends_mem.mp hx
    obtain ⟨_, w1, w2⟩ := g.wd l hl
    rcases q with q | q
    · rw [q]; exact w1
    · rw [q]; exact w2
  have he : ∀ x, x ∈ ends ls' ↔ x ∈ ends ls := fun x => by
    constructor
    · intro h
      obtain ⟨l, hl, q⟩ := ends_mem.mp h
      rcases q with q | q
      · rw [q]; exact (hq l hl).1
      · rw [q]; exact (hq l hl).2
    · intro h
      obtain ⟨l, hl, q⟩ := ends_mem.mp h
      obtain ⟨l2, h2, e⟩ := List.mem_map.mp (hp l.2 (List.mem_map.mpr ⟨l, hl, rfl⟩))
      exact ends_mem.mpr ⟨l2, h2, by rw [e]; exact q⟩
  have epl : plc ls' = plc ls := by
    unfold plc
    refine srt_same (insAll_nd List.nodup_nil) (insAll_nd List.nodup_nil) fun x => ?_
    rw [STX.insAll_mem, STX.insAll_mem]
    exact ⟨fun h => h.elim (fun z => .inl ((he x).mp z)) .inr, fun h => h.elim (fun z => .inl ((he x).mpr z)) .inr⟩
  exact {
    n1 := n1, n2 := n2, nd := nd
    sm := by rw [epl]; exact g.sm
    wd := fun l hl => ⟨wk _ (key_mem hl), we _ (hq l hl).1, we _ (hq l hl).2⟩
    hb := (he b).mpr g.hb
    he := g.he
    hs := fun e h => (he e).mpr (g.hs e h)
    hn := g.hn
    reach := fun x hx => (g.reach x ((he x).mp hx)).mono (fun _ z => z) hp
    leave := fun x hx => (g.leave x ((he x).mp hx)).mono (fun _ z => z) fun pr h => by
      obtain ⟨l, hl, e⟩ := List.mem_map.mp h
      obtain ⟨l2, h2, e2⟩ := List.mem_map.mp (hp l.2 (List.mem_map.mpr ⟨l, hl, rfl⟩))
      exact List.mem_map.mpr ⟨l2, h2, by show (l2.2.2, l2.2.1) = pr; rw [e2]; exact e⟩ }
end LC


set_option Elab.async false
set_option linter.all false
set_option maxRecDepth 100000
set_option maxHeartbeats 4000000
namespace LC
open PySem L2 PG OW CT
open LH hiding sm top
open LW (But Drawn PrgAt LT spMade sMade)
/-- what is known of both classes and their defs -/
structure CMs (P : Program) (w : World) (K : PySem.W.Frag) (mg : Str → Option Value) (base : Heap) (CP CC : Addr) : Prop where
  cl : CTc K mg CC
  clP : PTc K mg CP
  tt : PTt K CP
  ct : CTt K CP CC
  sf : PySem.W.selfFirst K CC = true
  nfC : PySem.W.notFirst K CC (.ref CC) = true
  nfI : PySem.W.notFirst K CC (.type "int") = true
  isI : PySem.W.kitOne K (.type "int") (.ref CC) = some false
  make : ∃ fI, Mk K CC fI ∧ FnR P w K mg base CX0 3 fI (spStar 2 (spInitC K CP CC))
  prog : ∃ p g fd, PropOf K CC "program" p g ∧ Binds K fd ["self"] [] ∧ FnOk P w K mg base CX0 1 g fd ["self"] (spCProg K CP CC)
  listed : ∃ g fd, Meth K CC "listed" g ∧ Binds K fd ["self"] [] ∧ FnOk P w K mg base CX0 1 g fd ["self"] (spListed K CP CC)
  len : ∃ g fd, PySem.W.findIn K (.ref CC) "__len__" = some (some (.ref g)) ∧ PySem.W.isFn K (.ref g) = true ∧ Binds K fd ["self"] [] ∧ FnOk P w K mg base CX0 1 g fd ["self"] (spCLen K CP CC)
  has : ∃ g fd, PySem.W.findIn K (.ref CC) "__contains__" = some (some (.ref g)) ∧ PySem.W.isFn K (.ref g) = true ∧ Binds K fd ["self", "x"] [] ∧ FnOk P w K mg base CX0 3 g fd ["self", "x"] (spCHas K CP CC)
  add : ∃ g fd, PySem.W.findIn K (.ref CC) "__add__" = some (some (.ref g)) ∧ PySem.W.isFn K (.ref g) = true ∧ Binds K fd ["self", "other"] [] ∧ FnOk P w K mg base CX0 5 g fd ["self", "other"] (spBin K CP CC addL)
  sub : ∃ g fd, PySem.W.findIn K (.ref CC) "__sub__" = some (some (.ref g)) ∧ PySem.W.isFn K (.ref g) = true ∧ Binds K fd ["self", "other"] [] ∧ FnOk P w K mg base CX0 5 g fd ["self", "other"] (spBin K CP CC subL)
  iadd : ∃ g fd, PySem.W.findIn K (.ref CC) "__iadd__" = some (some (.ref g)) ∧ PySem.W.isFn K (.ref g) = true ∧ Binds K fd ["self", "other"] [] ∧ FnOk P w K mg base CX0 6 g fd ["self", "other"] (spBin K CP CC addL)
  isub : ∃ g fd, PySem.W.findIn K (.ref CC) "__isub__" = some (some (.ref g)) ∧ PySem.W.isFn K (.ref g) = true ∧ Binds K fd ["self", "other"] [] ∧ FnOk P w K mg base CX0 6 g fd ["self", "other"] (spBin K CP CC subL)
  eq : ∃ g fd, PySem.W.findIn K (.ref CC) "__eq__" = some (some (.ref g)) ∧ PySem.W.isFn K (.ref g) = true ∧ Binds K fd ["self", "other"] [] ∧ FnOk P w K mg base CX0 2 g fd ["self", "other"] (spCEq K CP CC)
  rd : ∃ mc, ClX.CRead K CC mc ∧ (∃ p g, SMet K CC mc "of_ways" p g ∧ FnR P w K mg base CX0 5 g (spStar 1 (spOfW K CP CC))) ∧ (∃ p g, SMet K CC mc "everything" p g ∧ FnR P w K mg base CX0 5 g (spEvery K CP CC))
  eqP : ∃ g fd, PySem.W.findIn K (.ref CP) "__eq__" = some (some (.ref g)) ∧ PySem.W.isFn K (.ref g) = true ∧ Binds K fd ["self", "other"] [] ∧ FnOk P w K mg base CX0 1 g fd ["self", "other"] (spEqP K CP)
  getP : ∃ g fd, PySem.W.findIn K (.ref CP) "__getitem__" = some (some (.ref g)) ∧ PySem.W.isFn K (.ref g) = true ∧ PySem.W.fnIn K g = true ∧ Binds K fd ["self", "at"] [] ∧ FnOk P w K mg base CX0 2 g fd ["self", "at"] (spGet K CP)
  waysP : ∃ g fd, Meth K CP "ways" g ∧ Binds K fd ["self"] [] ∧ FnOk P w K mg base CX0 1 g fd ["self"] (spList K CP fun d => keysL d.ls)
  exitsP : ∃ g fd, Meth K CP "exits" g ∧ Binds K fd ["self"] [] ∧ FnOk P w K mg base CX0 1 g fd ["self"] (spList K CP fun d => d.fs)
  beginP : ∃ p g fd, PropOf K CP "begin" p g ∧ Binds K fd ["self"] [] ∧ FnOk P w K mg base CX0 1 g fd ["self"] (spBegin K CP)
  makeP : ∃ g fd, Mk K CP g ∧ Binds K fd ["self", "ways", "begin", "exits"] [] ∧ FnOk P w K mg base CX0 4 g fd ["self", "ways", "begin", "exits"] (spInit K CP)
/-- what is known of a def of the module -/
def Cl (P : Program) (w : World) (K : PySem.W.Frag) (mg : Str → Option Value) (base : Heap) (k : Nat) (x : Str) (ps : List Str) (sp : Sp) : Prop := ∃ g fd, mg x = some (.ref g) ∧ PySem.W.keepIn K (.ref g) = true ∧ Binds K fd ps [] ∧ FnOk P w K mg base CX0 k g fd ps sp
section
variable {P : Program} {w : World} {K : PySem.W.Frag} {mg : Str → Option Value} {base : Heap} {CP CC : Addr}
abbrev nsSet : List Str := ["prog", "some", "found", "counter"]
theorem scSet : FnScope nsSet ["prog", "some"] (defScope sSet) := ⟨rfl, rfl, rfl, by decide +kernel, rfl, by decide +kernel, by decide +kernel⟩
def spSetL (K : PySem.W.Frag) (CP CC : Addr) : Sp := fun vs H Q _ => ∃ (r dp ex : Addr) (ls : List Lk) (b : Str) (es : List Str) (a : Addr) (us : List V) (cs : List (List Str)), vs = [.ref r, .ref a] ∧ PrgAt K H r dp ex ls b es ∧ GoodP ls b es ∧ SqL K H a us ∧ TupLs K H us cs ∧ CsIn (pdOf ls b es) cs ∧
  ∀ (H' : Hp) (x dx y B : Addr), Same H H' → H x = none → CtrAt K CP CC H' x dx y B (pdOf ls b es) (selC (pdOf ls b es) cs) → Q (.ref x) H'
theorem take_snoc {α : Type} {xs : List α} {i : Nat} {x : α} (h : xs[i]? = some x) : xs.take (i + 1) = xs.take i ++ [x] := by
  rw [List.take_add_one, h]
  rfl
theorem ok_set {f : Addr} {fd : FuncData} (Fn : Fun K "_law_set" "_law_set" sSet f fd) (M : CMs P w K mg base CP CC) (cM : Cl P w K mg base 6 "_law_made" ["prog"] (spMade K CP)) : FnOk P w K mg base CX0 7 f fd ["prog", "some"] (spSetL K CP CC) := by
  refine Fn.ok scSet (fun vs H Q E h => ?_) (fun cdv A outer s H vs Q E hr h => ?_)
  · obtain ⟨r, dp, ex, ls, b, es, a, us, cs, rfl, _⟩ := h
    rfl
  · obtain ⟨r, dp, ex, ls, b, es, a, us, cs, rfl, h, Gd, ha, hus, ci, k⟩ := h
    have nd := scSet.nd
    have g := pdg_of Gd
    have hr4 : Room 4 _ := hr.mono (by decide)
    have hr5 : Room 5 _ := hr.mono (by decide)
    obtain ⟨gM, fdM, mM, kM, bM, GM⟩ := cM
    obtain ⟨fI, Mi, FI⟩ := M.make
    obtain ⟨gA, fdA, fA, iA, bA, GA⟩ := M.add
    refine ⟨_, pss_cons (ps_set (i := 2) nd rfl (Or.inl rfl) (StX.pe_makeR Mi FI hr4 (by rfl) M.cl.gC pass0 (pa_cons (pe_call GM hr (by rfl) mM kM bM .nil pass0 (pa_cons (pv 0) pa_nil)) pa_nil)))
      (pss_cons (ps_for PassesOwn.never rfl (pi_list (pv 1)) (pg_name (i := 3) nd rfl (Or.inl rfl)) (pss_one (ps_set (i := 2) nd rfl (Or.inl rfl) (pe_op (op_ownBin (op := .Add) GA bA pass0 hr5 M.sf fA iA) (pv 2) (StX.pe_makeR Mi FI hr4 (by rfl) M.cl.gC pass0 (pa_cons (pe_call GM hr (by rfl) mM kM bM .nil pass0 (pa_cons (pv 0) pa_nil)) (pa_cons (pv 3) pa_nil)))))))
      (pss_one (ps_ret (pv 2)))), ?_⟩
    have lu : us.length = cs.length := Paired.length hus
    refine ⟨_, rfl, r, dp, ex, ls, b, es, rfl, h, Gd, fun H1 y dy L S F s1 ny nL nS nF pr => ?_⟩
    refine cmk_new (us := []) (as := []) pr g .nil ⟨fun c hc => (nomatch hc), List.nodup_nil⟩ fun H2 x0 dx0 B0 s2 nx0 nB0 c0 => ?_
    have s02 := s1.trans s2
    refine ⟨_, rfl, a, rfl, ⟨_, s02.seq ha⟩, for_it (walk_list (xs := us)) (fun i σ H' => ∃ (x dx y B : Addr) (v3 : Option V), σ = [some (.ref r), some (.ref a), some (.ref x), v3] ∧ Same H H' ∧ H x = none ∧ CtrAt K CP CC H' x dx y B (pdOf ls b es) (selC (pdOf ls b es) (cs.take i))) ⟨x0, dx0, y, B0, none, rfl, s02, fr_of s1 nx0, c0⟩ (fun i σ H' _ ⟨_, _, _, _, _, _, z, _⟩ => z.seq ha) ?_ ?_⟩
    · rintro i v σ H3 H4 hi ⟨x, dx, y1, B, v3, rfl, s3, nx, cx⟩ ⟨rfl, ev⟩
      obtain ⟨c, hc, tc⟩ := paired_at hus ev
      refine ⟨_, rfl, _, rfl, r, dp, ex, ls, b, es, rfl, h.same s3, Gd, fun H5 y2 dy2 L2 S2 F2 s5 ny2 nL2 nS2 nF2 pr2 => ?_⟩
      have tc5 := tc.same (s3.trans s5)
      refine ⟨_, rfl, cmk_new (us := [v]) (as := [c]) pr2 g (.cons tc5 .nil) ⟨fun e he => by rw [List.mem_singleton.mp he]; exact ci.sub c (List.mem_of_getElem? hc), List.nodup_cons.mpr ⟨List.not_mem_nil, List.nodup_nil⟩⟩ fun H6 x2 dx2 B2 s6 nx2 nB2 c2 => ?_⟩
      have cx6 := cx.same (s5.trans s6)
      refine ⟨x, dx, _, rfl, cx6.ins, ty_ctr c2 M.cl.cl M.tt M.ct, x, dx, y1, B, x2, dx2, y2, B2, _, _, _, rfl, cx6, c2, g, selC_in g _, selC_in g _, fun H7 x3 dx3 B3 s7 nx3 nB3 c3 => ⟨⟨_, rfl⟩, ?_⟩⟩
      have s07 := s3.trans (s5.trans s6)
      refine ⟨x3, dx3, y1, B3, _, rfl, s07.trans s7, fr_of s07 nx3, ?_⟩
      rw [selC_add] at c3
      rw [take_snoc hc]
      rw [selC_congr (bs := cs.take i ++ [c])] at c3
      · exact c3
      · intro e he
        rw [mem_addL, List.mem_append]
    · rintro σ H3 ⟨x, dx, y1, B, v3, rfl, s3, nx, cx⟩
      rw [lu, List.take_length] at cx
      exact ⟨_, rfl, k H3 x dx y1 B s3 nx cx⟩
abbrev nsLL : List Str := ["prog", "some", "counter"]
theorem scLL : FnScope nsLL ["prog", "some"] (defScope sLListed) := ⟨rfl, rfl, rfl, by decide +kernel, rfl, by decide +kernel, by decide +kernel⟩
def spLL (K : PySem.W.Frag) : Sp := fun vs H Q _ => ∃ (r dp ex : Addr) (pls : List Str) (ls : List Lk) (b : Str) (es : List Str) (a : Addr) (us : List V) (cs : List (List Str)), vs = [.ref r, .ref a] ∧ PrgAt K H r dp ex ls b es ∧ Drawn pls ls es ∧ PDg (pdOf ls b es) ∧ SqL K H a us ∧ TupLs K H us cs ∧ CsIn (pdOf ls b es) cs ∧
  ∀ (H' : Hp) (p : Addr) (ts : List V), Same H H' → H p = none → H' p = some (.lst ts) → TupLs K H' ts (selC (pdOf ls b es) cs) → Q (.ref p) H'
theorem ok_llisted {f : Addr} {fd : FuncData} (Fn : Fun K "_law_listed" "_law_listed" sLListed f fd) (cA : Cl P w K mg base 2 "_law_all" ["prog"] (spLAll K)) : FnOk P w K mg base CX0 3 f fd ["prog", "some"] (spLL K) := by
  refine Fn.ok scLL (fun vs H Q E h => ?_) (fun cdv A outer s H vs Q E hr h => ?_)
  · obtain ⟨r, dp, ex, pls, ls, b, es, a, us, cs, rfl, _⟩ := h
    rfl
  · obtain ⟨r, dp, ex, pls, ls, b, es, a, us, cs, rfl, h, D, g, ha, hus, ci, k⟩ := h
    have nd := scLL.nd
    have hun := Nat.lt_of_succ_lt (room66 hr)
    obtain ⟨gA, fdA, mA, kA, bA, GA⟩ := cA
    refine ⟨_, pss_one (ps_ret (pe_lc (own := [("counter", 2)]) (g := gName 2) (tt := tTest (tOp (rInC K false) (tVar 2) (tVar 1))) rfl nd (pi_list (pe_call GA hr (by rfl) mA kA bA .nil pass0 (pa_cons (pv 0) pa_nil))) (blkOk_by (own := [("counter", 2)]) (N := nsLL) (sc := defScope sLListed) (by decide +kernel)) (fun _ _ _ _ _ => pg_name (i := 2) nd rfl (Or.inl rfl)) (fun _ _ _ _ _ => pts_one (pt_cmpR (op_inC hun) (pv 2) (pv 1) rfl)) (fun _ _ _ _ _ => pv 2))), ?_⟩
    refine ⟨_, rfl, r, dp, ex, pls, ls, b, es, rfl, h, D, fun H1 p ks s1 np hp hks => ?_⟩
    refine ⟨p, rfl, ⟨_, SqL.of hp⟩, fun B nB => rd_sel (fun c => decide (c ∈ cs)) (SqL.of hp) hks (by have := g.few; omega) nB (fun v => rfl) (fun v => rfl) (fun j c v H2 Q2 s2 hc tc q => ?_) fun H2 ts s2 hB hts => ?_⟩
    · have s12 := s1.trans s2
      exact ⟨_, rfl, _, rfl, c, a, us, cs, tc, rfl, s12.seq ha, TupLs.same hus s12, g.cok c (List.mem_of_getElem? hc), ci.ok g, _, rfl, q H2 (Same.refl _)⟩
    · exact k H2 B ts (s1.trans s2) (fr_of s1 nB) hB hts
abbrev nsRt : List Str := ["made", "prog", "some", "counter"]
theorem scRt : FnScope nsRt ["made", "prog", "some"] (defScope sRight) := ⟨rfl, rfl, rfl, by decide +kernel, rfl, by decide +kernel, by decide +kernel⟩
def spRt (K : PySem.W.Frag) (CP CC : Addr) : Sp := fun vs H Q _ => ∃ (x dx y B r dp ex : Addr) (pls : List Str) (ls : List Lk) (b : Str) (es : List Str) (a : Addr) (us : List V) (cs : List (List Str)), vs = [.ref x, .ref r, .ref a] ∧ CtrAt K CP CC H x dx y B (pdOf ls b es) (selC (pdOf ls b es) cs) ∧ PrgAt K H r dp ex ls b es ∧ Drawn pls ls es ∧ GoodP ls b es ∧ SqL K H a us ∧ TupLs K H us cs ∧ CsIn (pdOf ls b es) cs ∧ ∀ H', Same H H' → Q (.bl true) H'
theorem ok_right {f : Addr} {fd : FuncData} (Fn : Fun K "_law_right" "_law_right" sRight f fd) (T : PT0 mg) (M : CMs P w K mg base CP CC) (cA : Cl P w K mg base 2 "_law_all" ["prog"] (spLAll K)) (cL : Cl P w K mg base 3 "_law_listed" ["prog", "some"] (spLL K)) (cM : Cl P w K mg base 6 "_law_made" ["prog"] (spMade K CP)) : FnOk P w K mg base CX0 7 f fd ["made", "prog", "some"] (spRt K CP CC) := by
  refine Fn.ok scRt (fun vs H Q E h => ?_) (fun cdv A outer s H vs Q E hr h => ?_)
  · obtain ⟨x, dx, y, B, r, dp, ex, pls, ls, b, es, a, us, cs, rfl, _⟩ := h
    rfl
  · obtain ⟨x, dx, y, B, r, dp, ex, pls, ls, b, es, a, us, cs, rfl, c, h, D, Gd, ha, hus, ci, k⟩ := h
    have nd := scRt.nd
    have hun := Nat.lt_of_succ_lt (room66 hr)
    have g := pdg_of Gd
    have hr1 : Room 1 _ := hr.mono (by decide)
    have hr2 : Room 2 _ := hr.mono (by decide)
    have hr3 : Room 3 _ := hr.mono (by decide)
    obtain ⟨gA, fdA, mA, kA, bA, GA⟩ := cA
    obtain ⟨gL, fdL, mL, kL, bL, GL⟩ := cL
    obtain ⟨gM, fdM, mM, kM, bM, GM⟩ := cM
    obtain ⟨gT, fdT, mT, bT, GT⟩ := M.listed
    obtain ⟨gN, fdN, fN, iN, bN, GN⟩ := M.len
    obtain ⟨pP, gP, fdP, oP, bP, GP⟩ := M.prog
    obtain ⟨gQ, fdQ, fQ, iQ, bQ, GQ⟩ := M.eqP
    obtain ⟨gH, fdH, fH, iH, bH, GH⟩ := M.has
    refine ⟨_, pss_cons (ps_if (PW.pt (pw_or (pt_cmpR (op_neC hr.units) (pe_meth0 (pv 0) M.cl.cl mT GT hr1 bT .nil pass0) (pe_call GL hr3 (by rfl) mL kL bL .nil pass0 (pa_cons (pv 1) (pa_cons (pv 2) pa_nil))) (nomark _)) (pw_or1 (pt_cmpR op_ne (pe_callB (cr_ownLen (C := CC) GN bN pass0 hr2 fN iN) (by rfl) T.len PySem.boot_len (pa_cons (pv 0) pa_nil)) (pe_callB call_len_seq (by rfl) T.len PySem.boot_len (pa_cons (pv 2) pa_nil)) (nomark _))))) (pss_one (ps_ret pe_bl)) pss_nil)
      (pss_cons (ps_if (pt_not (pt_cmpR (op_ownEq (C := CP) GQ bQ pass0 hr1 fQ iQ) (pe_prop (pv 0) M.cl.cl oP GP hr2 bP .nil pass0 rfl) (pe_call GM hr (by rfl) mM kM bM .nil pass0 (pa_cons (pv 1) pa_nil)) (nomark _))) (pss_one (ps_ret pe_bl)) pss_nil)
      (pss_one (ps_ret (pe_cmpR (op_eqC hr.units) (pe_lc (own := [("counter", 3)]) (g := gName 3) (tt := tTest (tOp rNe (tOp (rOwnIn CC (spCHas K CP CC) E0 false) (tVar 3) (tVar 0)) (tOp (rInC K false) (tVar 3) (tVar 2)))) rfl nd (pi_list (pe_call GA hr2 (by rfl) mA kA bA .nil pass0 (pa_cons (pv 1) pa_nil))) (blkOk_by (own := [("counter", 3)]) (N := nsRt) (sc := defScope sRight) (by decide +kernel)) (fun _ _ _ _ _ => pg_name (i := 3) nd rfl (Or.inl rfl))
        (fun _ _ _ _ _ => pts_one (pt_cmpR op_ne (pe_cmpR (op_ownIn (C := CC) GH bH pass0 hr3 fH iH) (pv 3) (pv 0) rfl) (pe_cmpR (op_inC hun) (pv 3) (pv 2) rfl) (nomark _))) (fun _ _ _ _ _ => pv 3)) (pe_lst pa_nil) (nomark _))))), ?_⟩
    refine ⟨_, rfl, x, dx, _, rfl, c.ins, rfl, x, dx, y, B, _, _, rfl, c, fun p1 H1 u1 np1 s1 _ hp1 r1 => ?_⟩
    refine ⟨_, rfl, _, rfl, r, dp, ex, pls, ls, b, es, a, us, cs, rfl, h.same s1, D, g, s1.seq ha, TupLs.same hus s1, ci, fun H2 p2 u2 s2 np2 hp2 r2 => ?_⟩
    have sel := selC_in g cs
    refine ⟨p1, p2, u1, u2, _, _, rfl, rfl, SqL.of (s2 _ _ hp1), SqL.of hp2, TupLs.same r1 s2, r2, sel.ok g, sel.ok g, _, rfl, ?_⟩
    rw [decide_eq_true rfl]
    refine iteF ?_
    have s02 := s1.trans s2
    have c2 := c.same s02
    refine ⟨_, rfl, x, dx, _, rfl, c2.ins, x, dx, y, B, _, _, rfl, c2, _, rfl, ?_, _, rfl, a, _, rfl, .inl (s02.seq ha), rfl, _, rfl, ?_⟩
    · rw [selC_len g ci]
      have := ci.few g
      omega
    rw [selC_len g ci, Paired.length hus, decide_eq_true rfl]
    refine iteF ?_
    obtain ⟨dy, L, S, F, pr⟩ := c2.pr
    refine ⟨_, rfl, x, dx, _, rfl, c2.ins, x, dx, y, B, _, _, rfl, c2, _, rfl, r, dp, ex, ls, b, es, rfl, h.same s02, Gd, fun H3 y3 dy3 L3 S3 F3 s3 ny3 nL3 nS3 nF3 pr3 => ?_⟩
    have pr' := pr.same s3
    refine ⟨y, dy, _, _, rfl, pr'.ins, ty_prog pr3 M.clP.cl M.tt, M.ct.nfP, y, dy, L, S, F, _, .ref y3, rfl, pr', .inl ⟨y3, dy3, L3, S3, F3, _, rfl, pr3, g.ok, g.ok, _, rfl, _, rfl, ?_⟩⟩
    rw [g.eqr]
    refine iteNF ?_
    have s03 := s02.trans s3
    refine ⟨_, rfl, r, dp, ex, pls, ls, b, es, rfl, h.same s03, D, fun H4 p4 ks s4 np4 hp4 hks => ?_⟩
    have s04 := s03.trans s4
    refine ⟨p4, rfl, ⟨_, SqL.of hp4⟩, fun B5 nB5 => rd_sel (fun _ => false) (SqL.of hp4) hks (by have := g.few; omega) nB5 (fun v => rfl) (fun v => rfl) (fun j e v H5 Q5 s5 he te q => ?_) fun H5 ts s5 hB5 hts => ?_⟩
    · have me : e ∈ allC (pdOf ls b es) := List.mem_of_getElem? he
      have s05 := s04.trans s5
      have c5 := c.same s05
      refine ⟨_, rfl, _, rfl, x, dx, _, rfl, c5.ins, x, dx, y, B, _, _, v, some e, rfl, c5, sel.ok g, .txt te (g.cok e me) (g.sm e me), fun H6 s6 => ⟨_, rfl, _, rfl, _, rfl, e, a, us, cs, te.same s6, rfl, (s05.trans s6).seq ha, TupLs.same hus (s05.trans s6), g.cok e me, ci.ok g, rfl, _, rfl, ?_⟩⟩
      have eq : knB (selC (pdOf ls b es) cs) (some e) = decide (e ∈ cs) := by
        show decide (e ∈ selC _ cs) = _
        rw [decide_eq_decide, selC_mem]
        exact ⟨fun z => z.2, fun z => ⟨me, z⟩⟩
      rw [eq, decide_eq_true rfl]
      exact q H6 s6
    · rw [show (allC (pdOf ls b es)).filter (fun _ => false) = [] from List.filter_eq_nil_iff.mpr fun _ _ z => by cases z] at hts
      refine ⟨Nat.zero_le _, fun p6 np6 => ⟨B5, p6, ts, [], [], [], rfl, rfl, SqL.of (sm np6 _ _ hB5), SqL.of upd_same, TupLs.same hts (sm np6), .nil, fun _ z => (nomatch z), fun _ z => (nomatch z), ?_⟩⟩
      rw [decide_eq_true rfl]
      exact k _ (s04.trans (s5.trans (sm np6)))
end
end LC


set_option Elab.async false
set_option linter.all false
set_option maxRecDepth 100000
set_option maxHeartbeats 4000000
namespace LC
open PySem L2 PG OW CT
open LH hiding sm top
open LW (But Drawn PrgAt LT spMade get_ways)
theorem at_last {ws : List Str} {z : Str} (h : ws.getLast? = some z) : atI (ws.map V.str) (-1) = some (.str z) := by
  have hn : ws ≠ [] := fun e => by rw [e] at h; cases h
  have e := List.dropLast_concat_getLast hn
  have z2 : ws.getLast hn = z := by rw [List.getLast?_eq_some_getLast hn] at h; exact Option.some.inj h
  rw [← e, List.map_append, z2]
  exact atI_last _ _
section
variable {P : Program} {w : World} {K : PySem.W.Frag} {mg : Str → Option Value} {base : Heap} {CP CC : Addr}
abbrev nsWR : List Str := ["prog", "program", "names", "two"]
theorem scWR : FnScope nsWR ["prog", "program"] (defScope sWaysR) := ⟨rfl, rfl, rfl, by decide +kernel, rfl, by decide +kernel, by decide +kernel⟩
def spWR (K : PySem.W.Frag) (CP : Addr) : Sp := fun vs H Q _ => ∃ (r dp ex y dy L S F : Addr) (pls : List Str) (ls : List Lk) (b : Str) (es : List Str), vs = [.ref r, .ref y] ∧ PrgAt K H r dp ex ls b es ∧ Drawn pls ls es ∧ GoodP ls b es ∧ ProgAt K CP H y dy L S F (pdOf ls b es) ∧ ∀ H', Same H H' → Q (.bl true) H'
theorem ok_waysR {f : Addr} {fd : FuncData} (Fn : Fun K "_law_ways_right" "_law_ways_right" sWaysR f fd) (T : PT0 mg) (M : CMs P w K mg base CP CC) (cR : Cl P w K mg base 7 "_law_right" ["made", "prog", "some"] (spRt K CP CC)) : FnOk P w K mg base CX0 8 f fd ["prog", "program"] (spWR K CP) := by
  refine Fn.ok scWR (fun vs H Q E h => ?_) (fun cdv A outer s H vs Q E hr h => ?_)
  · obtain ⟨r, dp, ex, y, dy, L, S, F, pls, ls, b, es, rfl, _⟩ := h
    rfl
  · obtain ⟨r, dp, ex, y, dy, L, S, F, pls, ls, b, es, rfl, h, D, Gd, pr, k⟩ := h
    have nd := scWR.nd
    have hu := hu_of hr
    have g := pdg_of Gd
    have hr5 : Room 5 _ := hr.mono (by decide)
    obtain ⟨gR, fdR, mR, kR, bR, GR⟩ := cR
    obtain ⟨mc, rd, ⟨pW, gW, sW, FW⟩, _⟩ := M.rd
    obtain ⟨kvs, hd, lk⟩ := h.hw
    refine ⟨_, pss_cons (ps_set (i := 2) nd rfl (Or.inl rfl) (pe_callB (call_sortedD rfl) (by rfl) T.sorted PyProof.Rows.boot_sorted (pa_cons (pe_dget hu (pv 0) pe_str (fun _ _ => rfl)) pa_nil)))
      (pss_cons (ps_if (pt_not (pt_val (pe_call GR hr (by rfl) mR kR bR .nil pass0 (pa_cons (pe_smeth (pe_glob (v := .ref CC) (by rfl) M.cl.gC rfl) rd sW FW hr5 pass0 (pa_cons (pv 1) (pa_cons (pe_ix ix_list (pv 2) (pe_un un_neg pe_int) (fun _ _ => rfl)) pa_nil))) (pa_cons (pv 0) (pa_cons (pe_lst (pa_cons (pe_tup (pa_cons pe_str (pa_cons (pe_ix ix_list (pv 2) (pe_un un_neg pe_int) (fun _ _ => rfl)) pa_nil))) pa_nil)) pa_nil)))))) (pss_one (ps_ret pe_bl)) pss_nil)
      (pss_cons (ps_if (pt_cmpR op_gt (pe_callB call_len_seq (by rfl) T.len PySem.boot_len (pa_cons (pv 2) pa_nil)) pe_int (nomark _))
        (pss_cons (ps_set (i := 3) nd rfl (Or.inl rfl) (pe_smeth (pe_glob (v := .ref CC) (by rfl) M.cl.gC rfl) rd sW FW hr5 pass0 (pa_cons (pv 1) (pa_cons (pe_ix ix_list (pv 2) (pe_un un_neg pe_int) (fun _ _ => rfl)) (pa_cons (pe_ix ix_list (pv 2) pe_int (fun _ _ => rfl)) pa_nil)))))
        (pss_one (ps_if (pt_not (pt_val (pe_call GR hr (by rfl) mR kR bR .nil pass0 (pa_cons (pv 3) (pa_cons (pv 0) (pa_cons (pe_lst (pa_cons (pe_tup (pa_cons pe_str (pa_cons (pe_ix ix_list (pv 2) pe_int (fun _ _ => rfl)) pa_nil))) (pa_cons (pe_tup (pa_cons pe_str (pa_cons (pe_ix ix_list (pv 2) (pe_un un_neg pe_int) (fun _ _ => rfl)) pa_nil))) pa_nil))) pa_nil)))))) (pss_one (ps_ret pe_bl)) pss_nil))) pss_nil)
      (pss_one (ps_ret pe_bl)))), ?_⟩
    have kl : (keysL ls).length = ls.length := List.length_map _
    have n12 := D.l2
    have n1 := D.l1
    refine ⟨_, rfl, r, _, rfl, get_ways h, dp, kvs, keysL ls, rfl, .inl hd, lks_keys lk, by omega, fun ys p0 perm sr np0 => ?_⟩
    obtain rfl := srt_of perm sr
    have s1 : Same H (upd H p0 (.lst ((srt (keysL ls)).map V.str))) := sm np0
    have hp0 : (upd H p0 (.lst ((srt (keysL ls)).map V.str))) p0 = some (.lst ((srt (keysL ls)).map V.str)) := upd_same
    generalize upd H p0 (.lst ((srt (keysL ls)).map V.str)) = H1 at s1 hp0
    have ndw : (srt (keysL ls)).Nodup := srt_nodup D.kn
    have lw : (srt (keysL ls)).length = ls.length := by rw [srt_len]; exact kl
    have mw : ∀ x ∈ srt (keysL ls), x ∈ keysL (pdOf ls b es).ls := fun x hx => by
      show x ∈ keysL (srtL ls)
      rw [srtL_keys]
      exact hx
    generalize srt (keysL ls) = ws at hp0 ndw lw mw
    have hne : ws ≠ [] := fun z => by rw [z] at lw; simp at lw; omega
    obtain ⟨z, hz⟩ : ∃ z, ws.getLast? = some z := ⟨_, List.getLast?_eq_some_getLast hne⟩
    have mz : z ∈ ws := List.mem_of_getLast? hz
    have alz := at_last hz
    have one1 : ∀ {x : Str}, x ∈ ws → CsIn (pdOf ls b es) (tag "way" [x]) := fun {x} hx => tag_in (List.nodup_cons.mpr ⟨List.not_mem_nil, List.nodup_nil⟩) fun v hv => by rw [List.mem_singleton.mp hv]; exact mw x hx
    refine ⟨rfl, _, rfl, _, rfl, 1, rfl, p0, _, _, _, rfl, rfl, SqL.of hp0, alz, [.ref y], [.str z], rfl, rfl, by show 1 ≤ sizeLine; decide, fun t nt => ?_⟩
    refine ⟨y, dy, L, S, F, pdOf ls b es, t, [z], rfl, pr.same (s1.trans (sm nt)), g, SqT.of upd_same, List.nodup_cons.mpr ⟨List.not_mem_nil, List.nodup_nil⟩, fun v hv => by rw [List.mem_singleton.mp hv]; exact mw z mz, fun H2 x2 dx2 B2 s2' nx2 nB2 c2 => ?_⟩
    have s2 : Same H1 H2 := (sm nt).trans s2'
    have hp2 := s2 _ _ hp0
    refine ⟨_, rfl, _, rfl, 1, rfl, p0, _, _, _, rfl, rfl, SqL.of hp2, alz, by show 2 ≤ sizeLine; decide, fun tq ntq => ⟨by show 1 ≤ sizeLine; decide, fun lq nlq => ?_⟩⟩
    have s3 := sm (o := .tup [.str "way", .str z]) ntq
    have s4 := sm (o := .lst [.ref tq]) nlq
    have s24 := s3.trans s4
    have s04 := s1.trans (s2.trans s24)
    refine ⟨x2, dx2, y, B2, r, dp, ex, pls, ls, b, es, lq, [.ref tq], tag "way" [z], rfl, c2.same s24, h.same s04, D, Gd, SqL.of upd_same, .cons (b := [("way" : Str), z]) ⟨tq, rfl, SqT.of (s4 _ _ upd_same)⟩ .nil, one1 mz, fun H5 s5 => ⟨_, rfl, iteNF ?_⟩⟩
    have s15 := s2.trans (s24.trans s5)
    have hp5 := s15 _ _ hp0
    have s05 := s1.trans s15
    refine ⟨_, rfl, p0, _, rfl, .inl (SqL.of hp5), _, _, rfl, rfl, _, rfl, iteB (fun cnd => ?_) (fun cnd => ?_)⟩
    · have l2 : 1 < ws.length := by
        have q := of_decide_eq_true cnd
        rw [List.length_map] at q
        omega
      obtain ⟨a, ha⟩ : ∃ a, ws[0]? = some a := ⟨_, List.getElem?_eq_getElem (by omega)⟩
      have ma : a ∈ ws := List.mem_of_getElem? ha
      have ata : atI (ws.map V.str) ((0 : Nat) : Int) = some (.str a) := atI_nat (j := 0) (by rw [List.getElem?_map, ha]; rfl)
      have naz : z ≠ a := fun q => by
        have e1 : ws[ws.length - 1]? = some z := by rw [← List.getLast?_eq_getElem?]; exact hz
        rw [q] at e1
        have := (List.getElem?_inj (by omega) ndw).mp (e1.trans ha.symm)
        omega
      have nd2 : [z, a].Nodup := List.nodup_cons.mpr ⟨fun m => naz (List.mem_singleton.mp m), List.nodup_cons.mpr ⟨List.not_mem_nil, List.nodup_nil⟩⟩
      have nd3 : [a, z].Nodup := List.nodup_cons.mpr ⟨fun m => naz (List.mem_singleton.mp m).symm, List.nodup_cons.mpr ⟨List.not_mem_nil, List.nodup_nil⟩⟩
      have in2 : ∀ v ∈ [z, a], v ∈ keysL (pdOf ls b es).ls := fun v hv => by
        rcases List.mem_cons.mp hv with e | hv
        · rw [e]; exact mw z mz
        · rw [List.mem_singleton.mp hv]; exact mw a ma
      have in3 : ∀ v ∈ [a, z], v ∈ keysL (pdOf ls b es).ls := fun v hv => by
        rcases List.mem_cons.mp hv with e | hv
        · rw [e]; exact mw a ma
        · rw [List.mem_singleton.mp hv]; exact mw z mz
      refine ⟨rfl, _, rfl, _, rfl, 1, rfl, p0, _, _, _, rfl, rfl, SqL.of hp5, alz, _, rfl, p0, _, _, _, rfl, rfl, SqL.of hp5, ata, [.ref y], [.str z, .str a], rfl, rfl, by show 2 ≤ sizeLine; decide, fun t2 nt2 => ?_⟩
      refine ⟨y, dy, L, S, F, pdOf ls b es, t2, [z, a], rfl, pr.same (s05.trans (sm nt2)), g, SqT.of upd_same, nd2, in2, fun H6 x6 dx6 B6 s6' nx6 nB6 c6 => ?_⟩
      have s6 : Same H5 H6 := (sm nt2).trans s6'
      have hp6 := s6 _ _ hp5
      refine ⟨_, rfl, _, rfl, _, rfl, p0, _, _, _, rfl, rfl, SqL.of hp6, ata, by show 2 ≤ sizeLine; decide, fun tA ntA => ?_⟩
      have s7 := sm (o := .tup [.str "way", .str a]) ntA
      refine ⟨_, rfl, 1, rfl, p0, _, _, _, rfl, rfl, SqL.of (s7 _ _ hp6), alz, by show 2 ≤ sizeLine; decide, fun tZ ntZ => ⟨by show 2 ≤ sizeLine; decide, fun l8 nl8 => ?_⟩⟩
      have s8 := sm (o := .tup [.str "way", .str z]) ntZ
      have s9 := sm (o := .lst [.ref tA, .ref tZ]) nl8
      have s69 := s7.trans (s8.trans s9)
      have s09 := s05.trans (s6.trans s69)
      have c6' := c6.same s69
      rw [selC_congr (bs := tag "way" [a, z]) fun e _ => by
        rw [tag_mem, tag_mem]
        constructor
        · rintro ⟨v, hv, q⟩
          exact ⟨v, by rcases List.mem_cons.mp hv with e | hv; · rw [e]; exact List.mem_cons_of_mem _ List.mem_cons_self
                       · rw [List.mem_singleton.mp hv]; exact List.mem_cons_self, q⟩
        · rintro ⟨v, hv, q⟩
          exact ⟨v, by rcases List.mem_cons.mp hv with e | hv; · rw [e]; exact List.mem_cons_of_mem _ List.mem_cons_self
                       · rw [List.mem_singleton.mp hv]; exact List.mem_cons_self, q⟩] at c6'
      refine ⟨x6, dx6, y, B6, r, dp, ex, pls, ls, b, es, l8, [.ref tA, .ref tZ], tag "way" [a, z], rfl, c6', h.same s09, D, Gd, SqL.of upd_same, .cons (b := [("way" : Str), a]) ⟨tA, rfl, SqT.of (s9 _ _ (s8 _ _ upd_same))⟩ (.cons (b := [("way" : Str), z]) ⟨tZ, rfl, SqT.of (s9 _ _ upd_same)⟩ .nil), tag_in nd3 in3, fun H10 s10 => ⟨_, rfl, iteNF (k _ (s09.trans s10))⟩⟩
    · exact k _ s05
end
end LC


set_option Elab.async false
set_option linter.all false
set_option maxRecDepth 100000
set_option maxHeartbeats 4000000
/-! k05: the two programs put otherwise, in plain mathematics -/
namespace LC
open PySem L2 PG OW CT
open LH hiding sm top
open LW (Drawn menuN)
theorem zz_no : ("zza" : Str) ∉ menuN ∧ ("zzb" : Str) ∉ menuN ∧ ("zza" : Str) ≠ "zzb" ∧ isWord "zza" = true ∧ isWord "zzb" = true ∧ ("zzzzz" : Str) ∉ menuN := by decide +kernel
theorem menuN_word : ∀ x ∈ menuN, isWord x = true := by decide +kernel
def zzs (s g : Str) : List Lk := [("zza", s, g), ("zzb", g, s)]
theorem good_exits {ls : List Lk} {b : Str} {es es' : List Str} (g : GoodP ls b es) (p : es'.Perm es) : GoodP ls b es' := { g with
  he := fun z => g.he (by rw [z] at p; exact List.Perm.eq_nil p.symm)
  hs := fun e h => g.hs e (p.mem_iff.mp h)
  hn := p.nodup_iff.mpr g.hn
  leave := fun x hx => (g.leave x hx).mono (fun y hy => p.mem_iff.mpr hy) fun _ z => z }
section
variable {pls : List Str} {ls : List Lk} {es : List Str} {b w0 s0 g0 : Str} {rest : List Lk}
theorem keysA (e : srtL ls = (w0, s0, g0) :: rest) : keysL ((w0, g0, s0) :: rest) = keysL (srtL ls) := by rw [e]; rfl
theorem key_menu (d : Drawn pls ls es) {x : Str} (h : x ∈ keysL (srtL ls)) : x ∈ menuN := by
  rw [srtL_keys] at h
  exact d.km x (srt_mem.mp h)
theorem keys_app (la : List Lk) (s g : Str) : keysL (la ++ zzs s g) = keysL la ++ [("zza" : Str), "zzb"] := by
  unfold keysL zzs
  rw [List.map_append]
  rfl
theorem nodup_zz (d : Drawn pls ls es) {la : List Lk} (ek : keysL la = keysL (srtL ls)) (s g : Str) : (keysL (la ++ zzs s g)).Nodup := by
  rw [keys_app, ek]
  refine List.nodup_append.mpr ⟨srtL_nodup d.kn, List.nodup_cons.mpr ⟨fun m => zz_no.2.2.1 (List.mem_singleton.mp m), List.nodup_cons.mpr ⟨List.not_mem_nil, List.nodup_nil⟩⟩, fun a ha c hc e => ?_⟩
  have m := key_menu d ha
  rcases List.mem_cons.mp hc with z | z
  · rw [e, z] at m; exact zz_no.1 m
  · rw [e, List.mem_singleton.mp z] at m; exact zz_no.2.1 m
theorem word_zz (d : Drawn pls ls es) {la : List Lk} (ek : keysL la = keysL (srtL ls)) (s g : Str) : ∀ x ∈ keysL (la ++ zzs s g), isWord x = true := fun x hx => by
  rw [keys_app, ek] at hx
  rcases List.mem_append.mp hx with z | z
  · exact menuN_word x (key_menu d z)
  · rcases List.mem_cons.mp z with z | z
    · rw [z]; exact zz_no.2.2.2.1
    · rw [List.mem_singleton.mp z]; exact zz_no.2.2.2.2.1
theorem good_zz (d : Drawn pls ls es) (gd : GoodP ls b es) (e : srtL ls = (w0, s0, g0) :: rest) {la : List Lk} (ek : keysL la = keysL (srtL ls)) (hl : la = srtL ls ∨ la = (w0, g0, s0) :: rest) : GoodP (la ++ zzs s0 g0) b (srt es) := by
  have m0 : (w0, s0, g0) ∈ ls := (srtL_mem d.kn).mp (by rw [e]; exact List.mem_cons_self)
  have en : ∀ l ∈ ls, l.2.1 ∈ ends ls ∧ l.2.2 ∈ ends ls := fun l h => ⟨ends_mem.mpr ⟨l, h, .inl rfl⟩, ends_mem.mpr ⟨l, h, .inr rfl⟩⟩
  have mr : ∀ l ∈ rest, l ∈ ls := fun l h => (srtL_mem d.kn).mp (by rw [e]; exact List.mem_cons_of_mem _ h)
  have ml : ∀ l ∈ la, l ∈ ls ∨ l = (w0, g0, s0) := fun l h => by
    rcases hl with z | z
    · rw [z] at h; exact .inl ((srtL_mem d.kn).mp h)
    · rw [z] at h
      rcases List.mem_cons.mp h with q | q
      · exact .inr q
      · exact .inl (mr l q)
  have ll : la.length = ls.length := by
    have q := congrArg List.length ek
    unfold keysL at q
    rw [List.length_map, List.length_map, srtL_len] at q
    exact q
  refine good_exits (good_more gd (fun p hp => ?_) (fun l h => ?_) ?_ ?_ (nodup_zz d ek s0 g0) (word_zz d ek s0 g0)) (srt_perm es)
  · obtain ⟨l, h, rfl⟩ := List.mem_map.mp hp
    have h2 : l ∈ srtL ls := (srtL_mem d.kn).mpr h
    rw [List.map_append]
    rcases hl with z | z
    · rw [z]
      exact List.mem_append_left _ (List.mem_map.mpr ⟨l, h2, rfl⟩)
    · rw [e] at h2
      rcases List.mem_cons.mp h2 with q | q
      · rw [q]
        exact List.mem_append_right _ List.mem_cons_self
      · rw [z]
        exact List.mem_append_left _ (List.mem_map.mpr ⟨l, List.mem_cons_of_mem _ q, rfl⟩)
  · rcases List.mem_append.mp h with q | q
    · rcases ml l q with q | q
      · exact en l q
      · rw [q]; exact ⟨(en _ m0).2, (en _ m0).1⟩
    · rcases List.mem_cons.mp q with q | q
      · rw [q]; exact ⟨(en _ m0).1, (en _ m0).2⟩
      · rw [List.mem_singleton.mp q]; exact ⟨(en _ m0).2, (en _ m0).1⟩
  · rw [List.length_append]
    have := d.l1
    omega
  · rw [List.length_append, ll]
    show _ + 2 ≤ 40
    have := d.l2
    omega
theorem lkp_zz {la : List Lk} {s g : Str} (n : (keysL (la ++ zzs s g)).Nodup) : lkp (la ++ zzs s g) "zza" = (s, g) ∧ lkp (la ++ zzs s g) "zzb" = (g, s) :=
  ⟨lkp_of (l := (("zza" : Str), s, g)) n (List.mem_append_right _ List.mem_cons_self), lkp_of (l := (("zzb" : Str), g, s)) n (List.mem_append_right _ (List.mem_cons_of_mem _ List.mem_cons_self))⟩
theorem sel_runs (d : PD) : selC d [[("runs" : Str)]] = [[("runs" : Str)]] := by
  unfold selC allC
  have no : ∀ (t : Str) (ws : List Str), (tag t ws).filter (fun c => decide (c ∈ [[("runs" : Str)]])) = [] := fun t ws => List.filter_eq_nil_iff.mpr fun c hc z => by
    obtain ⟨x, _, rfl⟩ := tag_mem.mp hc
    have q := List.mem_singleton.mp (of_decide_eq_true z)
    cases q
  rw [List.filter_append, List.filter_append, List.filter_append, no, no, no, List.nil_append, List.nil_append, List.nil_append]
  exact List.filter_cons_of_pos (p := fun c => decide (c ∈ [[("runs" : Str)]])) (decide_eq_true List.mem_cons_self)
theorem runs_in (d : PD) : CsIn d [[("runs" : Str)]] := ⟨fun c hc => by rw [List.mem_singleton.mp hc]; exact mem_allC.mpr (.inr (.inr (.inr rfl))), List.nodup_cons.mpr ⟨List.not_mem_nil, List.nodup_nil⟩⟩
/-- what is no counter of the program -/
theorem odd_no (d : Drawn pls ls es) : ([] : List Str) ∉ allC (pdOf ls b es) ∧ [("way" : Str)] ∉ allC (pdOf ls b es) ∧ [("way" : Str), "zzzzz"] ∉ allC (pdOf ls b es) ∧ [("runs" : Str), "a"] ∉ allC (pdOf ls b es) ∧ [("far" : Str), "a"] ∉ allC (pdOf ls b es) := by
  have t1 : ("way" : Str) ≠ "place" ∧ ("way" : Str) ≠ "stop" ∧ ("runs" : Str) ≠ "way" ∧ ("runs" : Str) ≠ "place" ∧ ("runs" : Str) ≠ "stop" ∧ ("far" : Str) ≠ "way" ∧ ("far" : Str) ≠ "place" ∧ ("far" : Str) ≠ "stop" ∧ ("way" : Str) ≠ "runs" := by decide +kernel
  obtain ⟨a1, a2, a3, a4, a5, a6, a7, a8, a9⟩ := t1
  have two : ∀ (t x : Str), [t, x] ∈ allC (pdOf ls b es) → (t = "way" ∧ x ∈ keysL (srtL ls)) ∨ t = "place" ∨ t = "stop" := fun t x h => by
    rcases mem_allC.mp h with ⟨v, hv, e⟩ | ⟨v, hv, e⟩ | ⟨v, hv, e⟩ | e
    · obtain ⟨e1, e2⟩ := List.cons.inj e
      exact .inl ⟨e1, by rw [(List.cons.inj e2).1]; exact hv⟩
    · exact .inr (.inl (List.cons.inj e).1)
    · exact .inr (.inr (List.cons.inj e).1)
    · have := congrArg List.length e
      cases this
  refine ⟨fun h => ?_, fun h => ?_, fun h => ?_, fun h => ?_, fun h => ?_⟩
  · rcases mem_allC.mp h with ⟨v, hv, e⟩ | ⟨v, hv, e⟩ | ⟨v, hv, e⟩ | e <;> cases e
  · rcases mem_allC.mp h with ⟨v, hv, e⟩ | ⟨v, hv, e⟩ | ⟨v, hv, e⟩ | e
    · have := congrArg List.length e; cases this
    · have := congrArg List.length e; cases this
    · have := congrArg List.length e; cases this
    · exact a9 (List.cons.inj e).1
  · rcases two _ _ h with z | z | z
    · exact zz_no.2.2.2.2.2 (key_menu d z.2)
    · exact a1 z
    · exact a2 z
  · rcases two _ _ h with z | z | z
    · exact a3 z.1
    · exact a4 z
    · exact a5 z
  · rcases two _ _ h with z | z | z
    · exact a6 z.1
    · exact a7 z
    · exact a8 z
theorem putK_head {w0 : Str} {v u : V} {kr : List (Key × V)} (n : (Sum.inr w0 : Key) ∉ kr.map (·.1)) : putK ((Sum.inr w0, v) :: kr) (Sum.inr w0 : Key) u = (Sum.inr w0, u) :: kr := by
  unfold putK
  rw [List.any_cons, decide_eq_true rfl, Bool.true_or, if_pos rfl, List.map_cons, if_pos rfl]
  congr 1
  have : ∀ kv ∈ kr, (if kv.1 = (Sum.inr w0 : Key) then (kv.1, u) else kv) = kv := fun kv h => if_neg fun e => n (by rw [← e]; exact List.mem_map.mpr ⟨kv, h, rfl⟩)
  rw [List.map_congr_left this]
  exact List.map_id' _
end
end LC


set_option Elab.async false
set_option linter.all false
set_option maxRecDepth 100000
set_option maxHeartbeats 4000000
namespace LC
open PySem L2 PG OW CT
open LH hiding sm top
open LW (But Drawn PrgAt LT menuN)
/-! ### dicts of links made anew -/
section
variable {K : PySem.W.Frag}
theorem valV_none' {kvs : List (Key × V)} {k : Key} (h : k ∉ kvs.map (·.1)) : valV kvs k = none := by
  induction kvs with
  | nil => rfl
  | cons p r ih =>
    rw [List.map_cons, List.mem_cons] at h
    rw [valV_neg fun e => h (.inl e.symm)]
    exact ih fun m => h (.inr m)
theorem merge_app' : ∀ (kvs acc : List (Key × V)), ((acc ++ kvs).map (·.1)).Nodup → mergeK acc kvs = acc ++ kvs
  | [], acc, _ => (List.append_nil acc).symm
  | p :: r, acc, h => by
    have e : acc ++ p :: r = (acc ++ [(p.1, p.2)]) ++ r := by rw [List.append_assoc]; rfl
    have n : p.1 ∉ acc.map (·.1) := fun m => by
      rw [List.map_append, List.map_cons] at h
      exact (List.nodup_append.mp h).2.2 _ m _ List.mem_cons_self rfl
    show mergeK (putK acc p.1 p.2) r = _
    rw [putK_new _ (valV_none' n), e]
    refine merge_app' r (acc ++ [(p.1, p.2)]) ?_
    rw [e] at h
    exact h
theorem lks_nodup' {H : Hp} {kvs : List (Key × V)} {ls : List Lk} (h : Lks K H kvs ls) (n : (keysL ls).Nodup) : (kvs.map (·.1)).Nodup := by
  rw [lks_keys h]
  exact List.Pairwise.map _ (fun a b ne e => ne (Sum.inr.inj e)) n
theorem merge_lks' {H : Hp} {kvs : List (Key × V)} {ls : List Lk} (h : Lks K H kvs ls) (n : (keysL ls).Nodup) : mergeK [] kvs = kvs := by
  have z := merge_app' kvs [] (by rw [List.nil_append]; exact lks_nodup' h n)
  rw [List.nil_append] at z
  exact z
/-- (way, pair) -/
def LkP (K : PySem.W.Frag) (H : Hp) (v : V) (l : Lk) : Prop := ∃ q u, v = .ref q ∧ SqT K H q [.str l.1, u] ∧ TwoAt K H u l.2
theorem LkP.same {H H' : Hp} {v : V} {l : Lk} (s : Same H H') (h : LkP K H v l) : LkP K H' v l := by
  obtain ⟨q, u, e, h1, h2⟩ := h
  exact ⟨q, u, e, sqT_same h1 s, h2.same s⟩
theorem LkP.off {H : Hp} {D : Addr} {o z : HO} {v : V} {l : Lk} (hD : H D = some z) (n1 : ∀ l, z ≠ .tup l) (n2 : ∀ od l, z ≠ .frz od (.tup l)) (h : LkP K H v l) : LkP K (upd H D o) v l := by
  obtain ⟨q, u, e, h1, t, e2, h2⟩ := h
  exact ⟨q, u, e, sqT_at h1 (.inr ⟨_, hD, n1, n2⟩), t, e2, sqT_at h2 (.inr ⟨_, hD, n1, n2⟩)⟩
theorem lkp_refs {H : Hp} : ∀ {ts : List V} {ls : List Lk}, Paired (LkP K H) ts ls → ∃ (ps : List Addr) (kvs : List (Key × V)), ts = ps.map V.ref ∧ Paired (fun p kv => SqT K H p [kV kv.1, kv.2]) ps kvs ∧ Lks K H kvs ls
  | _, _, .nil => ⟨[], [], rfl, .nil, .nil⟩
  | _, _, .cons (b := l) ⟨q, u, e, h1, h2⟩ rs => by
    obtain ⟨ps, kvs, e2, p, k⟩ := lkp_refs rs
    exact ⟨q :: ps, (Sum.inr l.1, u) :: kvs, by rw [e, e2]; rfl, .cons h1 p, .cons ⟨rfl, h2⟩ k⟩
theorem lks_off {H : Hp} {D : Addr} {o z : HO} {kvs : List (Key × V)} {ls : List Lk} (hD : H D = some z) (n1 : ∀ l, z ≠ .tup l) (n2 : ∀ od l, z ≠ .frz od (.tup l)) (h : Lks K H kvs ls) : Lks K (upd H D o) kvs ls := Paired.imp (fun _ _ q => by
  obtain ⟨e, t, e2, h2⟩ := q
  exact ⟨e, t, e2, sqT_at h2 (.inr ⟨_, hD, n1, n2⟩)⟩) h
/-- [(way, ..) for way in ..] -/
theorem rd_lk {J : It} {n : Nat} {G : Hp → Prop} {Y : Nat → Hp → V → Hp → Prop} (wk : Walk J n G Y) {ls : List Lk} {i : Nat} {σ : L2.St} {te : TE} {Qd : Hp → Prop} {H1 : Hp} {D : Addr} (nD : H1 D = none) (hn : n = ls.length) (hz : ls.length ≤ 100) (hG : ∀ H, Same H1 H → G H) (hY : ∀ j H x H', Same H1 H → Y j H x H' → H' = H ∧ ∃ l, ls[j]? = some l ∧ x = .str l.1) (hw : ∀ v, wipe ((wipe σ [i]).set i (some v)) [i] = wipe σ [i])
    (he : ∀ (l : Lk) (H2 : Hp) (Q : VK), l ∈ ls → Same H1 H2 → (∀ u q, TwoAt K H2 u l.2 → H2 q = none → Q (.ref q) (upd H2 q (.tup [.str l.1, u]))) → te ((wipe σ [i]).set i (some (.str l.1))) H2 Q)
    (k : ∀ H' ts, Same H1 H' → H' D = some (.lst ts) → Paired (LkP K H') ts ls → Qd H') :
    ∃ W : Nat → Nat → Hp → Prop, (∃ m, W 0 m (upd H1 D (.lst []))) ∧ ∀ j m H, W j m H →
      (J.stop j H ∧ Qd H) ∨ (J.go j H ∧ ∃ Nx : Hp → Prop, (∀ H', Nx H' → ∃ m', m' < m ∧ W (j + 1) m' H') ∧ ∀ x H', J.yld j H x H' → gName i x (wipe σ [i]) H' fun σ2 H2 => wipe σ2 [i] = wipe σ [i] ∧ tYes σ2 H2 fun b H3 =>
        if b = true then te σ2 H3 fun y H4 => ∃ acc, H4 D = some (.lst acc) ∧ acc.length < sizeLine ∧ Nx (upd H4 D (.lst (acc ++ [y]))) else Nx H3) := by
  refine lc_rel wk nD (LkP K) (fun s h => h.same s) (fun hD h => h.off hD (by intro l z; cases z) (by intro od l z; cases z)) (fun j => ls.take j) rfl (fun j _ => Nat.le_trans (List.length_take_le' j ls) (by omega)) hG ?_ (fun H' ts s h r => k H' ts s h (by rw [hn, List.take_length] at r; exact r))
  rintro j v H2 H3 Pn hj s1 y fin skip
  obtain ⟨rfl, l, hl, rfl⟩ := hY j H2 v H3 s1 y
  refine ⟨hw _, ?_⟩
  unfold tYes
  dsimp only
  rw [if_pos rfl]
  refine he l H3 _ (List.mem_of_getElem? hl) s1 fun u q tu nq => ?_
  exact fin _ _ l (sm nq) ⟨q, u, rfl, SqT.of upd_same, tu.same (sm nq)⟩ (take_snoc hl)
end
theorem ends_ok {ls : List Lk} {b : Str} {es : List Str} (g : GoodP ls b es) : TxOkk (ends ls) := fun x hx => by
  obtain ⟨l, hl, q⟩ := ends_mem.mp hx
  obtain ⟨_, w1, w2⟩ := g.wd l hl
  rcases q with q | q
  · rw [q]; exact lay_word w1
  · rw [q]; exact lay_word w2
theorem odd_lay : ∀ c ∈ ([[], ["way"], ["way", "zzzzz"], ["runs", "a"], ["far", "a"]] : List (List Str)), ∀ x ∈ c, PyData.canLay0 (.str x) = true := by decide +kernel
section
variable {P : Program} {w : World} {K : PySem.W.Frag} {mg : Str → Option Value} {base : Heap} {CP CC : Addr}
abbrev nsOd : List Str := ["program", "kept", "pairs", "both", "other", "one", "two", "odd", "way"]
theorem scOd : FnScope nsOd ["program", "kept"] (defScope sOdd) := ⟨rfl, rfl, rfl, by decide +kernel, rfl, by decide +kernel, by decide +kernel⟩
def spOd (K : PySem.W.Frag) (CP CC : Addr) : Sp := fun vs H Q _ => ∃ (y dy L S F x dx yk B : Addr) (pls : List Str) (ls : List Lk) (b : Str) (es : List Str) (cs : List (List Str)), vs = [.ref y, .ref x] ∧ ProgAt K CP H y dy L S F (pdOf ls b es) ∧ Drawn pls ls es ∧ GoodP ls b es ∧ CtrAt K CP CC H x dx yk B (pdOf ls b es) cs ∧ CsIn (pdOf ls b es) cs ∧ ∀ H', Same H H' → Q (.bl true) H'
theorem ok_odd {f : Addr} {fd : FuncData} (Fn : Fun K "_law_odd_out" "_law_odd_out" sOdd f fd) (T : PT0 mg) (M : CMs P w K mg base CP CC) (cI : Cl P w K mg base 3 "is_counter" ["program", "value"] (spIsC K CP)) : FnOk P w K mg base CX0 6 f fd ["program", "kept"] (spOd K CP CC) := by
  refine Fn.ok scOd (fun vs H Q E h => ?_) (fun cdv A outer s H vs Q E hr h => ?_)
  · obtain ⟨y, dy, L, S, F, x, dx, yk, B, pls, ls, b, es, cs, rfl, _⟩ := h
    rfl
  · obtain ⟨y, dy, L, S, F, x, dx, yk, B, pls, ls, b, es, cs, rfl, pr, D, Gd, cx, ci, k⟩ := h
    have nd := scOd.nd
    have hu := hu_of hr
    have g := pdg_of Gd
    have hr1 : Room 1 _ := hr.mono (by decide)
    have hr2 : Room 2 _ := hr.mono (by decide)
    have hr3 : Room 3 _ := hr.mono (by decide)
    have hr4 : Room 4 _ := hr.mono (by decide)
    obtain ⟨gI, fdI, mI, kI, bI, GI⟩ := cI
    obtain ⟨gG, fdG, fG, iG, nG, bG, GG⟩ := M.getP
    obtain ⟨gW, fdW, mW, bW, GW⟩ := M.waysP
    obtain ⟨gE, fdE, mE, bE, GE⟩ := M.exitsP
    obtain ⟨pB, gB, fdB, oB, bB, GB⟩ := M.beginP
    obtain ⟨gP, fdP, Mp, bP, GP⟩ := M.makeP
    obtain ⟨fC, Mc, FC⟩ := M.make
    obtain ⟨gQ, fdQ, fQ, iQ, bQ, GQ⟩ := M.eq
    obtain ⟨gH, fdH, fH, iH, bH, GH⟩ := M.has
    refine ⟨_, pss_cons (ps_set (i := 2) nd rfl (Or.inr rfl) (pe_callTy (call_dictP rfl) (by rfl) T.dict (by decide +kernel) (pa_cons (pe_lc (own := [("way", 8)]) (g := gName 8) (tt := tYes) (te := tTup (tCons (tVar 8) (tCons (tOp (rOwnIx CP (spGet K CP) E0) (tVar 0) (tVar 8)) tNil))) rfl nd (pi_list (pe_meth0 (pv 0) M.clP.cl mW GW hr1 bW .nil pass0)) (blkOk_by (own := [("way", 8)]) (N := nsOd) (sc := defScope sOdd) (by decide +kernel)) (fun _ _ _ _ _ => pg_name (i := 8) nd rfl (Or.inl rfl)) (fun _ _ _ _ _ => pts_nil) (fun _ _ _ _ _ => pe_tup (pa_cons (pv 8) (pa_cons (pe_ownIx (C := CP) GG bG pass0 hr3 fG iG nG (pv 0) (pv 8)) pa_nil)))) pa_nil)))
      (pss_cons (ps_dput hu (pv 2) (pe_ix ix_list (pe_meth0 (pv 0) M.clP.cl mW GW hr1 bW .nil pass0) pe_int (fun _ _ => rfl)) (EN.pe_revP (pe_dget hu (pv 2) (pe_ix ix_list (pe_meth0 (pv 0) M.clP.cl mW GW hr1 bW .nil pass0) pe_int (fun _ _ => rfl)) (fun _ _ => rfl))) rfl)
      (pss_cons (ps_set (i := 3) nd rfl (Or.inl rfl) (pe_callTy (call_dictP rfl) (by rfl) T.dict (by decide +kernel) (pa_cons (pe_lock (pe_lc (own := [("way", 8)]) (g := gName 8) (tt := tYes) (te := tTup (tCons (tVar 8) (tCons (tDGet (tVar 2) (tVar 8)) tNil))) rfl nd (pi_keys (pv 2)) (blkOk_by (own := [("way", 8)]) (N := nsOd) (sc := defScope sOdd) (by decide +kernel)) (fun _ _ _ _ _ => pg_name (i := 8) nd rfl (Or.inl rfl)) (fun _ _ _ _ _ => pts_nil) (fun _ _ _ _ _ => pe_tup (pa_cons (pv 8) (pa_cons (pe_dget hu (pv 2) (pv 8) (fun _ _ => rfl)) pa_nil))))) pa_nil)))
      (pss_cons (ps_dput hu (pv 3) pe_str (pe_ownIx (C := CP) GG bG pass0 hr3 fG iG nG (pv 0) (pe_ix ix_list (pe_meth0 (pv 0) M.clP.cl mW GW hr1 bW .nil pass0) pe_int (fun _ _ => rfl))) rfl)
      (pss_cons (ps_dput hu (pv 3) pe_str (pe_dget hu (pv 2) (pe_ix ix_list (pe_meth0 (pv 0) M.clP.cl mW GW hr1 bW .nil pass0) pe_int (fun _ _ => rfl)) (fun _ _ => rfl)) rfl)
      (pss_cons (ps_set (i := 4) nd rfl (Or.inl rfl) (pe_callTy (call_dictP rfl) (by rfl) T.dict (by decide +kernel) (pa_cons (pe_lock (pe_lc (own := [("way", 8)]) (g := gName 8) (tt := tYes) (te := tTup (tCons (tVar 8) (tCons (tOp (rOwnIx CP (spGet K CP) E0) (tVar 0) (tVar 8)) tNil))) rfl nd (pi_keys (pv 2)) (blkOk_by (own := [("way", 8)]) (N := nsOd) (sc := defScope sOdd) (by decide +kernel)) (fun _ _ _ _ _ => pg_name (i := 8) nd rfl (Or.inl rfl)) (fun _ _ _ _ _ => pts_nil) (fun _ _ _ _ _ => pe_tup (pa_cons (pv 8) (pa_cons (pe_ownIx (C := CP) GG bG pass0 hr3 fG iG nG (pv 0) (pv 8)) pa_nil))))) pa_nil)))
      (pss_cons (ps_asg (pe_tup (pa_cons (pe_dget hu (pv 3) pe_str (fun _ _ => rfl)) (pa_cons (pe_dget hu (pv 3) pe_str (fun _ _ => rfl)) pa_nil))) (pg_tup rfl (pgs_cons (pg_sub (pv 4) pe_str (set_dict hu)) (pgs_cons (pg_sub (pv 4) pe_str (set_dict hu)) pgs_nil))))
      (pss_cons (ps_par (i := 5) (j := 6) (by rfl) nd rfl rfl (by decide) rfl rfl (pa_cons (pe_make Mp GP hr (by rfl) M.clP.gC bP .nil pass0 (pa_cons (pv 3) (pa_cons (pe_prop (pv 0) M.clP.cl oB GB hr2 bB .nil pass0 rfl) (pa_cons (pe_meth0 (pv 0) M.clP.cl mE GE hr1 bE .nil pass0) pa_nil)))) (pa_cons (pe_make Mp GP hr (by rfl) M.clP.gC bP .nil pass0 (pa_cons (pv 4) (pa_cons (pe_prop (pv 0) M.clP.cl oB GB hr2 bB .nil pass0 rfl) (pa_cons (pe_meth0 (pv 0) M.clP.cl mE GE hr1 bE .nil pass0) pa_nil)))) pa_nil)) (by rfl))
      (pss_cons (ps_if (pt_cmpR op_ne (pe_cmpR (op_ownEq (C := CC) GQ bQ pass0 hr2 fQ iQ) (StX.pe_makeR Mc FC hr4 (by rfl) M.cl.gC pass0 (pa_cons (pv 5) (pa_cons (pe_tup (pa_cons pe_str pa_nil)) pa_nil))) (StX.pe_makeR Mc FC hr4 (by rfl) M.cl.gC pass0 (pa_cons (pv 6) (pa_cons (pe_tup (pa_cons pe_str pa_nil)) pa_nil))) (nomark _)) (pe_cmpR (op_eqLk (room66 hr)) (pv 3) (pv 4) (nomark _)) (nomark _)) (pss_one (ps_ret pe_bl)) pss_nil)
      (pss_cons (ps_for PassesOwn.never rfl (pi_list (pe_lst (pa_cons pe_non (pa_cons pe_int (pa_cons (pe_tup pa_nil) (pa_cons (pe_tup (pa_cons pe_str pa_nil)) (pa_cons (pe_tup (pa_cons pe_str (pa_cons pe_str pa_nil))) (pa_cons (pe_tup (pa_cons pe_str (pa_cons pe_str pa_nil))) (pa_cons (pe_lst (pa_cons pe_str pa_nil)) (pa_cons pe_str (pa_cons (pe_tup (pa_cons pe_str (pa_cons pe_str pa_nil))) (pa_cons (pe_tup (pa_cons pe_str (pa_cons (pe_lst (pa_cons pe_str pa_nil)) pa_nil))) pa_nil)))))))))))) (pg_name (i := 7) nd rfl (Or.inl rfl))
        (pss_one (ps_if (PW.pt (pw_or (pt_val (pe_call GI hr3 (by rfl) mI kI bI .nil pass0 (pa_cons (pv 0) (pa_cons (pv 7) pa_nil)))) (pw_or1 (pt_cmpR (op_ownIn (C := CC) GH bH pass0 hr3 fH iH) (pv 7) (pv 1) rfl)))) (pss_one (ps_ret pe_bl)) pss_nil)))
      (pss_one (ps_ret pe_bl))))))))))), ?_⟩
    have nsl : (keysL (srtL ls)).Nodup := srtL_nodup D.kn
    have lsl : (srtL ls).length = ls.length := srtL_len ls
    have n12 := D.l2
    have n1 := D.l1
    have edl : (pdOf ls b es).ls = srtL ls := rfl
    obtain ⟨⟨w0, s0, g0⟩, rest, esl⟩ : ∃ l r, srtL ls = l :: r := by
      cases e : srtL ls with
      | nil => rw [e] at lsl; simp at lsl; omega
      | cons l r => exact ⟨l, r, rfl⟩
    have klen : (keysL (srtL ls)).length = (srtL ls).length := List.length_map _
    have at0 : atI ((keysL (srtL ls)).map V.str) ((0 : Nat) : Int) = some (.str w0) := atI_nat (j := 0) (by rw [esl]; rfl)
    -- program[way]
    have getW : ∀ (l : Lk) (H2 : Hp) (Q2 : VK), l ∈ srtL ls → Same H H2 → (∀ t, SqT K H2 t [.str l.2.1, .str l.2.2] → Q2 (.ref t) H2) → rOwnIx CP (spGet K CP) E0 (.ref y) (.str l.1) H2 Q2 := fun l H2 Q2 ml s2 q => by
      have p2 := pr.same s2
      refine ⟨y, dy, _, rfl, p2.ins, y, dy, L, S, F, _, l.1, rfl, p2, by rw [edl]; exact key_mem ml, fun t ht => q t ?_⟩
      rw [edl, lkp_of nsl ml] at ht
      exact ht
    -- pairs = dict(..)
    refine ⟨_, rfl, y, dy, _, rfl, pr.ins, rfl, y, dy, L, S, F, _, rfl, pr, fun p1 np1 => ?_⟩
    generalize eH1 : upd H p1 (.lst (((fun d : PD => keysL d.ls) (pdOf ls b es)).map V.str)) = H1
    have s1 : Same H H1 := by rw [← eH1]; exact sm np1
    have hp1 : H1 p1 = some (.lst ((keysL (srtL ls)).map V.str)) := by rw [← eH1]; exact upd_same
    clear eH1
    refine ⟨p1, rfl, ⟨_, SqL.of hp1⟩, fun B1 nB1 => rd_lk (K := K) (walk_list (xs := (keysL (srtL ls)).map V.str)) (ls := srtL ls) nB1 (by rw [List.length_map]; exact klen) (by omega) (fun H' s' => SqL.of (s' _ _ hp1)) (fun j H2 v H3 _ ⟨e, ev⟩ => ⟨e, ?_⟩) (fun v => rfl) (fun l H2 Q2 ml s2 q => ?_) fun H2 ts s2 hB1 hts => ?_⟩
    · rw [List.getElem?_map] at ev
      show ∃ l, (srtL ls)[j]? = some l ∧ v = .str l.1
      unfold keysL at ev
      rw [List.getElem?_map] at ev
      cases e2 : (srtL ls)[j]? with
      | none => rw [e2] at ev; cases ev
      | some l => rw [e2] at ev; exact ⟨l, rfl, (Option.some.inj ev).symm⟩
    · exact ⟨_, rfl, _, rfl, _, rfl, getW l H2 _ ml (s1.trans s2) fun t ht => ⟨by show 2 ≤ sizeLine; decide, fun qa nqa => q (.ref t) qa ⟨t, rfl, ht⟩ nqa⟩⟩
    obtain ⟨ps, kvs, rfl, hps, lk⟩ := lkp_refs hts
    refine ⟨B1, ps, kvs, rfl, SqL.of hB1, hps, fun pA npA => ?_⟩
    rw [merge_lks' lk nsl]
    have s23 : Same H2 (upd H2 pA (.dK kvs)) := sm npA
    have hA3 : (upd H2 pA (.dK kvs)) pA = some (.dK kvs) := upd_same
    have s03 : Same H (upd H2 pA (.dK kvs)) := (s1.trans s2).trans s23
    have lA3 : Lks K (upd H2 pA (.dK kvs)) kvs (srtL ls) := Lks.same lk s23
    have npA0 : H pA = none := fr_of (s1.trans s2) npA
    generalize upd H2 pA (.dK kvs) = H3 at s23 hA3 s03 lA3
    clear hps hts lk
    obtain ⟨t0, kr, rfl, ht0, lr⟩ : ∃ t0 kr, kvs = (Sum.inr w0, V.ref t0) :: kr ∧ SqT K H3 t0 [.str s0, .str g0] ∧ Lks K H3 kr rest := by
      rw [esl] at lA3
      cases lA3 with
      | cons h1 h2 =>
        rename_i kv kr
        obtain ⟨e1, t, e2, z⟩ := h1
        obtain ⟨ka, va⟩ := kv
        cases e1
        cases e2
        exact ⟨t, kr, rfl, z, h2⟩
    -- pairs[..] = pairs[..][::-1]
    refine ⟨_, rfl, _, rfl, y, dy, _, rfl, (pr.same s03).ins, rfl, y, dy, L, S, F, _, rfl, pr.same s03, fun p2 np2 => ⟨p2, _, _, _, rfl, rfl, SqL.of upd_same, at0, ?_⟩⟩
    generalize eH : upd H3 p2 (.lst (((fun d : PD => keysL d.ls) (pdOf ls b es)).map V.str)) = H4
    have s34 : Same H3 H4 := by rw [← eH]; exact sm np2
    clear eH
    have nkr : (Sum.inr w0 : Key) ∉ kr.map (·.1) := by
      rw [esl] at nsl
      rw [lks_keys lr]
      intro m
      obtain ⟨x0, hx0, e0⟩ := List.mem_map.mp m
      cases e0
      exact (List.nodup_cons.mp nsl).1 hx0
    have lkr : kr.length = rest.length := Paired.length lr
    have lres : rest.length + 1 = ls.length := by rw [← lsl, esl]; rfl
    refine ⟨pA, .ref t0, rfl, .inl ⟨_, Sum.inr w0, .inl (s34 _ _ hA3), rfl, (valV_pos (p := ((Sum.inr w0 : Key), V.ref t0)) (k := (Sum.inr w0 : Key)) rfl).symm⟩, t0, .str s0, .str g0, rfl, sqT_same ht0 s34, fun tR ntR => ?_⟩
    have s45 : Same H4 (upd H4 tR (.tup [.str g0, .str s0])) := sm ntR
    have htR : (upd H4 tR (.tup [.str g0, .str s0])) tR = some (.tup [.str g0, .str s0]) := upd_same
    generalize upd H4 tR (.tup [.str g0, .str s0]) = H5 at s45 htR
    have s35 := s34.trans s45
    have s05 := s03.trans s35
    refine ⟨_, rfl, _, rfl, y, dy, _, rfl, (pr.same s05).ins, rfl, y, dy, L, S, F, _, rfl, pr.same s05, fun p3 np3 => ⟨p3, _, _, _, rfl, rfl, SqL.of upd_same, at0, ?_⟩⟩
    generalize eH : upd H5 p3 (.lst (((fun d : PD => keysL d.ls) (pdOf ls b es)).map V.str)) = H6
    have s56 : Same H5 H6 := by rw [← eH]; exact sm np3
    clear eH
    have s36 := s35.trans s56
    have hA6 := s36 _ _ hA3
    have s06 := s03.trans s36
    refine ⟨pA, _, rfl, DPut.k (k := Sum.inr w0) hA6 (small1000 (by rw [List.length_cons]; omega)), ?_⟩
    rw [putK_head nkr]
    obtain ⟨kvA, ekA⟩ : ∃ kvA : List (Key × V), kvA = (Sum.inr w0, V.ref tR) :: kr := ⟨_, rfl⟩
    rw [← ekA]
    obtain ⟨LA, eLA⟩ : ∃ LA : List Lk, LA = (w0, g0, s0) :: rest := ⟨_, rfl⟩
    have ekL : keysL LA = keysL (srtL ls) := by rw [eLA]; exact keysA esl
    have nLA : (keysL LA).Nodup := by rw [ekL]; exact nsl
    have lLA : LA.length = ls.length := by rw [eLA, List.length_cons]; exact lres
    have hA7 : (upd H6 pA (.dK kvA)) pA = some (.dK kvA) := upd_same
    have s07 : Same H (upd H6 pA (.dK kvA)) := fun c o e => by rw [upd_ne (ne_of_none e npA0)]; exact s06 _ _ e
    have lA7 : Lks K (upd H6 pA (.dK kvA)) kvA LA := by
      rw [ekA, eLA]
      refine lks_off hA6 (by intro l z; cases z) (by intro od l z; cases z) (.cons ⟨rfl, tR, rfl, SqT.of (s56 _ _ htR)⟩ (Lks.same lr s36))
    generalize upd H6 pA (.dK kvA) = H7 at hA7 s07 lA7
    have lkA : kvA.length = LA.length := Paired.length lA7
    clear ht0 htR s03 s34 s45 s35 s05 s56 s36 s06 hA6 hA3 lA3 s23
    -- both = dict(..)
    refine ⟨pA, .dK kvA, hA7, trivial, fun od => ⟨_, rfl, pA, od, rfl, .inl ⟨kvA, upd_same, fun B2 nB2 => rd_lk (K := K) walk_keys (ls := LA) nB2 lkA (by omega) (fun H' s' => s' _ _ upd_same) (fun j Ha v Hb _ ⟨e, kk, vv, ekv, ev⟩ => ⟨e, ?_⟩) (fun v => rfl) (fun l Ha Q2 ml sa q => ?_) fun H9 ts s9 hB2 hts => ?_⟩⟩⟩
    · obtain ⟨l, hl, e1, _⟩ := lks_at lA7 ekv
      have e1' : kk = Sum.inr l.1 := e1
      subst e1'
      exact ⟨l, hl, ev⟩
    · obtain ⟨t, e, ht⟩ := lks_val (Lks.lock (od := od) lA7 hA7) (key_mem ml)
      rw [lkp_of nLA ml] at ht
      refine ⟨_, rfl, _, rfl, _, rfl, pA, .ref t, rfl, ?_, by show 2 ≤ sizeLine; decide, fun qa nqa => q (.ref t) qa ⟨t, rfl, sqT_same ht sa⟩ nqa⟩
      rw [← e]
      exact .inl ⟨kvA, Sum.inr l.1, .inr ⟨od, sa _ _ upd_same⟩, rfl, rfl⟩
    have hf9 : H9 pA = some (.frz od (.dK kvA)) := s9 _ _ upd_same
    refine ⟨hf9, ?_⟩
    have s7a : Same H7 (upd H9 pA (.dK kvA)) := unlock hA7 s9
    have hBa : (upd H9 pA (.dK kvA)) B2 = some (.lst ts) := by rw [upd_ne (ne_of hB2 hf9 (by intro z; cases z))]; exact hB2
    have hta : Paired (LkP K (upd H9 pA (.dK kvA))) ts LA := Paired.imp (fun _ _ q => q.off hf9 (by intro l z; cases z) (by intro od l z; cases z)) hts
    generalize upd H9 pA (.dK kvA) = Ha at s7a hBa hta
    obtain ⟨ps2, kvB, rfl, hps2, lkB⟩ := lkp_refs hta
    refine ⟨B2, ps2, kvB, rfl, SqL.of hBa, hps2, fun bA nbA => ?_⟩
    rw [merge_lks' lkB nLA]
    have sab : Same Ha (upd Ha bA (.dK kvB)) := sm nbA
    have s0a := s07.trans s7a
    have nbA0 : H bA = none := fr_of s0a nbA
    have nbp : pA ≠ bA := ne_of_none (s7a _ _ hA7) nbA
    have hBb : (upd Ha bA (.dK kvB)) bA = some (.dK kvB) := upd_same
    have lBb : Lks K (upd Ha bA (.dK kvB)) kvB LA := Lks.same lkB sab
    have hAb := sab _ _ (s7a _ _ hA7)
    have lAb := Lks.same lA7 (s7a.trans sab)
    have s0b := s0a.trans sab
    generalize upd Ha bA (.dK kvB) = Hb at sab hBb lBb hAb lAb s0b
    have lkB2 : kvB.length = LA.length := Paired.length lBb
    clear hta hps2 lkB hts
    -- both["zza"] = ..
    refine ⟨_, rfl, _, rfl, y, dy, _, rfl, (pr.same s0b).ins, rfl, y, dy, L, S, F, _, rfl, pr.same s0b, fun p4 np4 => ⟨p4, _, _, _, rfl, rfl, SqL.of upd_same, at0, ?_⟩⟩
    generalize eH : upd Hb p4 (.lst (((fun d : PD => keysL d.ls) (pdOf ls b es)).map V.str)) = Hc
    have sbc : Same Hb Hc := by rw [← eH]; exact sm np4
    clear eH
    have s0c := s0b.trans sbc
    refine getW (w0, s0, g0) Hc _ (by rw [esl]; exact List.mem_cons_self) s0c fun tz htz => ?_
    have hBc := sbc _ _ hBb
    refine ⟨_, rfl, bA, _, rfl, DPut.k (k := Sum.inr "zza") hBc (small1000 (by omega)), ?_⟩
    have z1 : valV kvB (Sum.inr "zza" : Key) = none := lks_none lBb fun m => zz_no.1 (key_menu D (by rw [← ekL]; exact m))
    rw [putK_new _ z1]
    obtain ⟨kv1, ek1⟩ : ∃ kv1 : List (Key × V), kv1 = kvB ++ [((Sum.inr ("zza" : Str) : Key), V.ref tz)] := ⟨_, rfl⟩
    rw [← ek1]
    have hBd : (upd Hc bA (.dK kv1)) bA = some (.dK kv1) := upd_same
    have hAd : (upd Hc bA (.dK kv1)) pA = some (.dK kvA) := by rw [upd_ne nbp]; exact sbc _ _ hAb
    have s0d : Same H (upd Hc bA (.dK kv1)) := fun c o e => by rw [upd_ne (ne_of_none e nbA0)]; exact s0c _ _ e
    have lBd : Lks K (upd Hc bA (.dK kv1)) kv1 (LA ++ [(("zza" : Str), s0, g0)]) := by
      rw [ek1]
      exact lks_off hBc (by intro l z; cases z) (by intro od l z; cases z) (paired_snoc (Lks.same lBb sbc) ⟨rfl, tz, rfl, htz⟩)
    have lAd : Lks K (upd Hc bA (.dK kv1)) kvA LA := lks_off hBc (by intro l z; cases z) (by intro od l z; cases z) (Lks.same lAb sbc)
    generalize upd Hc bA (.dK kv1) = Hd at hBd hAd s0d lBd lAd
    have lk1 : kv1.length = LA.length + 1 := by rw [Paired.length lBd, List.length_append]; rfl
    clear htz hBc sbc hBb lBb hAb lAb sab
    -- both["zzb"] = ..
    refine ⟨_, rfl, _, rfl, y, dy, _, rfl, (pr.same s0d).ins, rfl, y, dy, L, S, F, _, rfl, pr.same s0d, fun p5 np5 => ⟨p5, _, _, _, rfl, rfl, SqL.of upd_same, at0, ?_⟩⟩
    generalize eH : upd Hd p5 (.lst (((fun d : PD => keysL d.ls) (pdOf ls b es)).map V.str)) = He
    have sde : Same Hd He := by rw [← eH]; exact sm np5
    clear eH
    have s0e := s0d.trans sde
    obtain ⟨tR2, evR, htR2⟩ := lks_val (Lks.same lAd sde) (w := w0) (by rw [eLA]; exact List.mem_cons_self)
    rw [show lkp LA w0 = (g0, s0) from lkp_of (l := (w0, g0, s0)) nLA (by rw [eLA]; exact List.mem_cons_self)] at htR2
    have hBe := sde _ _ hBd
    refine ⟨pA, .ref tR2, rfl, ?_, _, rfl, bA, _, rfl, DPut.k (k := Sum.inr "zzb") hBe (small1000 (by omega)), ?_⟩
    · rw [← evR]
      exact .inl ⟨kvA, Sum.inr w0, .inl (sde _ _ hAd), rfl, rfl⟩
    have z2 : valV kv1 (Sum.inr "zzb" : Key) = none := lks_none lBd fun m => by
      unfold keysL at m
      rw [List.map_append] at m
      rcases List.mem_append.mp m with m | m
      · exact zz_no.2.1 (key_menu D (by rw [← ekL]; exact m))
      · exact zz_no.2.2.1 (List.mem_singleton.mp m).symm
    rw [putK_new _ z2]
    obtain ⟨kv2, ek2⟩ : ∃ kv2 : List (Key × V), kv2 = kv1 ++ [((Sum.inr ("zzb" : Str) : Key), V.ref tR2)] := ⟨_, rfl⟩
    rw [← ek2]
    have hBf : (upd He bA (.dK kv2)) bA = some (.dK kv2) := upd_same
    have hAf : (upd He bA (.dK kv2)) pA = some (.dK kvA) := by rw [upd_ne nbp]; exact sde _ _ hAd
    have s0f : Same H (upd He bA (.dK kv2)) := fun c o e => by rw [upd_ne (ne_of_none e nbA0)]; exact s0e _ _ e
    have lBf : Lks K (upd He bA (.dK kv2)) kv2 (LA ++ zzs s0 g0) := by
      rw [ek2]
      have q := lks_off (o := .dK (kv1 ++ [((Sum.inr ("zzb" : Str) : Key), V.ref tR2)])) hBe (by intro l z; cases z) (by intro od l z; cases z) (paired_snoc (Lks.same lBd sde) (b := (("zzb" : Str), g0, s0)) (a := ((Sum.inr ("zzb" : Str) : Key), V.ref tR2)) ⟨rfl, tR2, rfl, htR2⟩)
      rw [List.append_assoc] at q
      exact q
    have lAf : Lks K (upd He bA (.dK kv2)) kvA LA := lks_off hBe (by intro l z; cases z) (by intro od l z; cases z) (Lks.same lAd sde)
    generalize upd He bA (.dK kv2) = Hf at hBf hAf s0f lBf lAf
    clear htR2 hBe evR hBd lBd hAd lAd
    -- other = dict(..)
    refine ⟨pA, .dK kvA, hAf, trivial, fun od2 => ⟨_, rfl, pA, od2, rfl, .inl ⟨kvA, upd_same, fun B3 nB3 => rd_lk (K := K) walk_keys (ls := srtL ls) nB3 (by omega) (by omega) (fun H' s' => s' _ _ upd_same) (fun j Hx v Hy _ ⟨e, kk, vv, ekv, ev⟩ => ⟨e, ?_⟩) (fun v => rfl) (fun l Hx Q2 ml sx q => ?_) fun Hg ts sg hB3 hts => ?_⟩⟩⟩
    · obtain ⟨l, hl, e1, _⟩ := lks_at lAf ekv
      have e1' : kk = Sum.inr l.1 := e1
      subst e1'
      have kj : (keysL LA)[j]? = some l.1 := by unfold keysL; rw [List.getElem?_map, hl]; rfl
      rw [ekL] at kj
      unfold keysL at kj
      rw [List.getElem?_map] at kj
      cases e2 : (srtL ls)[j]? with
      | none => rw [e2] at kj; cases kj
      | some l2 =>
        rw [e2] at kj
        refine ⟨l2, rfl, ev.trans ?_⟩
        show V.str l.1 = V.str l2.1
        rw [← Option.some.inj kj]
    · refine ⟨_, rfl, _, rfl, _, rfl, getW l Hx _ ml (fun c o e => sx _ _ (by rw [upd_ne (ne_of_none e npA0)]; exact s0f _ _ e)) fun t ht => ⟨by show 2 ≤ sizeLine; decide, fun qa nqa => q (.ref t) qa ⟨t, rfl, ht⟩ nqa⟩⟩
    have hfg : Hg pA = some (.frz od2 (.dK kvA)) := sg _ _ upd_same
    refine ⟨hfg, ?_⟩
    have sfh : Same Hf (upd Hg pA (.dK kvA)) := unlock hAf sg
    have hBh : (upd Hg pA (.dK kvA)) B3 = some (.lst ts) := by rw [upd_ne (ne_of hB3 hfg (by intro z; cases z))]; exact hB3
    have hth : Paired (LkP K (upd Hg pA (.dK kvA))) ts (srtL ls) := Paired.imp (fun _ _ q => q.off hfg (by intro l z; cases z) (by intro od l z; cases z)) hts
    generalize upd Hg pA (.dK kvA) = Hh at sfh hBh hth
    obtain ⟨ps3, kvO, rfl, hps3, lkO⟩ := lkp_refs hth
    refine ⟨B3, ps3, kvO, rfl, SqL.of hBh, hps3, fun oA noA => ?_⟩
    rw [merge_lks' lkO nsl]
    have s0h := s0f.trans sfh
    have noA0 : H oA = none := fr_of s0h noA
    have nbo : bA ≠ oA := ne_of_none (sfh _ _ hBf) noA
    have shi : Same Hh (upd Hh oA (.dK kvO)) := sm noA
    have hOi : (upd Hh oA (.dK kvO)) oA = some (.dK kvO) := upd_same
    have lOi : Lks K (upd Hh oA (.dK kvO)) kvO (srtL ls) := Lks.same lkO shi
    have hBi := shi _ _ (sfh _ _ hBf)
    have lBi := Lks.same lBf (sfh.trans shi)
    have s0i := s0h.trans shi
    generalize upd Hh oA (.dK kvO) = Hi at shi hOi lOi hBi lBi s0i
    have lkO2 : kvO.length = (srtL ls).length := Paired.length lOi
    clear hth hps3 lkO hts
    have nLB := nodup_zz D ekL s0 g0
    have nLO := nodup_zz (la := srtL ls) D rfl s0 g0
    -- other["zza"], other["zzb"] = both["zza"], both["zzb"]
    obtain ⟨ta, eva, hta⟩ := lks_val lBi (w := "zza") (by rw [keys_app]; exact List.mem_append_right _ List.mem_cons_self)
    obtain ⟨tb, evb, htb⟩ := lks_val lBi (w := "zzb") (by rw [keys_app]; exact List.mem_append_right _ (List.mem_cons_of_mem _ List.mem_cons_self))
    rw [(lkp_zz nLB).1] at hta
    rw [(lkp_zz nLB).2] at htb
    have ga : DGet Hi bA (.str "zza") (some (.ref ta)) := by
      rw [← eva]
      exact .inl ⟨kv2, Sum.inr "zza", .inl hBi, rfl, rfl⟩
    have gb : DGet Hi bA (.str "zzb") (some (.ref tb)) := by
      rw [← evb]
      exact .inl ⟨kv2, Sum.inr "zzb", .inl hBi, rfl, rfl⟩
    refine ⟨_, rfl, bA, .ref ta, rfl, ga, _, rfl, bA, .ref tb, rfl, gb, by show 2 ≤ sizeLine; decide, fun t2 nt2 => ?_⟩
    have sij := sm (o := .tup [.ref ta, .ref tb]) nt2
    have hOj := sij _ _ hOi
    have zo : ∀ {x : Str}, x ∉ menuN → valV kvO (Sum.inr x : Key) = none := fun {x} hx => lks_none lOi fun m => hx (key_menu D m)
    refine ⟨t2, _, rfl, SqT.of upd_same, rfl, _, _, rfl, _, rfl, oA, _, rfl, DPut.k (k := Sum.inr ("zza" : Str)) hOj (small1000 (by omega)), _, _, rfl, _, rfl, oA, _, rfl, DPut.k (k := Sum.inr ("zzb" : Str)) upd_same (small1000 (by rw [putK_new _ (zo zz_no.1), List.length_append]; show _ + 1 ≤ 1000; omega)), rfl, ?_⟩
    have eO : putK (putK kvO (Sum.inr ("zza" : Str) : Key) (V.ref ta)) (Sum.inr ("zzb" : Str) : Key) (V.ref tb) = kvO ++ [((Sum.inr ("zza" : Str) : Key), V.ref ta), ((Sum.inr ("zzb" : Str) : Key), V.ref tb)] := by
      rw [putK_new _ (zo zz_no.1), putK_new, List.append_assoc]
      · rfl
      · have q : Lks K Hi (kvO ++ [((Sum.inr ("zza" : Str) : Key), V.ref ta)]) (srtL ls ++ [(("zza" : Str), s0, g0)]) := paired_snoc lOi ⟨rfl, ta, rfl, hta⟩
        refine lks_none q fun m => ?_
        unfold keysL at m
        rw [List.map_append] at m
        rcases List.mem_append.mp m with m | m
        · exact zz_no.2.1 (key_menu D m)
        · exact zz_no.2.2.1 (List.mem_singleton.mp m).symm
    rw [upd_upd, eO]
    obtain ⟨kvZ, ekZ⟩ : ∃ kvZ : List (Key × V), kvZ = kvO ++ [((Sum.inr ("zza" : Str) : Key), V.ref ta), ((Sum.inr ("zzb" : Str) : Key), V.ref tb)] := ⟨_, rfl⟩
    rw [← ekZ]
    have hOk : (upd (upd Hi t2 (.tup [.ref ta, .ref tb])) oA (.dK kvZ)) oA = some (.dK kvZ) := upd_same
    have s0k : Same H (upd (upd Hi t2 (.tup [.ref ta, .ref tb])) oA (.dK kvZ)) := fun c o e => by
      rw [upd_ne (ne_of_none e noA0)]
      exact sij _ _ (s0i _ _ e)
    have hBk : (upd (upd Hi t2 (.tup [.ref ta, .ref tb])) oA (.dK kvZ)) bA = some (.dK kv2) := by rw [upd_ne nbo]; exact sij _ _ hBi
    have lBk : Lks K (upd (upd Hi t2 (.tup [.ref ta, .ref tb])) oA (.dK kvZ)) kv2 (LA ++ zzs s0 g0) := lks_off hOj (by intro l z; cases z) (by intro od l z; cases z) (Lks.same lBi sij)
    have lOk : Lks K (upd (upd Hi t2 (.tup [.ref ta, .ref tb])) oA (.dK kvZ)) kvZ (srtL ls ++ zzs s0 g0) := by
      rw [ekZ]
      exact lks_off hOj (by intro l z; cases z) (by intro od l z; cases z) (paired_app (Lks.same lOi sij) (.cons ⟨rfl, ta, rfl, sqT_same hta sij⟩ (.cons ⟨rfl, tb, rfl, sqT_same htb sij⟩ .nil)))
    generalize upd (upd Hi t2 (.tup [.ref ta, .ref tb])) oA (.dK kvZ) = Hk at hOk s0k hBk lBk lOk
    have GB2 := good_zz D Gd esl ekL (.inr eLA)
    have GO2 := good_zz (la := srtL ls) D Gd esl rfl (.inl rfl)
    have gB2 := pdg_of GB2
    have gO2 := pdg_of GO2
    -- one, two = Program(both, ..), Program(other, ..)
    have prk := pr.same s0k
    refine ⟨_, rfl, _, rfl, y, dy, _, rfl, prk.ins, y, dy, L, S, F, _, rfl, prk, _, rfl, y, dy, _, rfl, prk.ins, rfl, y, dy, L, S, F, _, rfl, prk, fun e1 ne1 => ?_⟩
    generalize eH : upd Hk e1 (.lst (((fun d : PD => d.fs) (pdOf ls b es)).map V.str)) = Hl
    have skl : Same Hk Hl := by rw [← eH]; exact sm ne1
    have he1 : Hl e1 = some (.lst ((srt es).map V.str)) := by rw [← eH]; exact upd_same
    clear eH
    refine LW.init_new (skl _ _ hBk) (Lks.same lBk skl) he1 GB2 fun Hm y1 dy1 L1 S1 F1 slm ny1 nL1 nS1 nF1 pr1 => ?_
    have skm := skl.trans slm
    have prm := pr.same (s0k.trans skm)
    refine ⟨_, rfl, _, rfl, y, dy, _, rfl, prm.ins, y, dy, L, S, F, _, rfl, prm, _, rfl, y, dy, _, rfl, prm.ins, rfl, y, dy, L, S, F, _, rfl, prm, fun e2 ne2 => ?_⟩
    generalize eH : upd Hm e2 (.lst (((fun d : PD => d.fs) (pdOf ls b es)).map V.str)) = Hn
    have smn : Same Hm Hn := by rw [← eH]; exact sm ne2
    have he2 : Hn e2 = some (.lst ((srt es).map V.str)) := by rw [← eH]; exact upd_same
    clear eH
    have skn := skm.trans smn
    refine LW.init_new (skn _ _ hOk) (Lks.same lOk skn) he2 GO2 fun Ho y2 dy2 L2 S2 F2 sno ny2 nL2 nS2 nF2 pr2 => ?_
    have sko := skn.trans sno
    have s0o := s0k.trans sko
    have pr1o := pr1.same (smn.trans sno)
    refine ⟨_, _, rfl, ?_⟩
    -- Counters(one, ..) == Counters(two, ..)
    refine ⟨_, rfl, by show 1 ≤ sizeLine; decide, fun tr ntr => ?_⟩
    have sop := sm (o := .tup [.str "runs"]) ntr
    have htr : (upd Ho tr (.tup [.str "runs"])) tr = some (.tup [.str "runs"]) := upd_same
    generalize upd Ho tr (.tup [.str "runs"]) = Hp' at sop htr
    refine cmk_new (us := [.ref tr]) (as := [[("runs" : Str)]]) (pr1o.same sop) gB2 (.cons (b := [("runs" : Str)]) ⟨tr, rfl, SqT.of htr⟩ .nil) (runs_in _) fun Hq x1 dx1 B1' spq nx1 nB1' c1 => ?_
    refine ⟨_, rfl, by show 1 ≤ sizeLine; decide, fun tr2 ntr2 => ?_⟩
    have sqr := sm (o := .tup [.str "runs"]) ntr2
    have htr2 : (upd Hq tr2 (.tup [.str "runs"])) tr2 = some (.tup [.str "runs"]) := upd_same
    generalize upd Hq tr2 (.tup [.str "runs"]) = Hr at sqr htr2
    have sor := sop.trans (spq.trans sqr)
    refine cmk_new (us := [.ref tr2]) (as := [[("runs" : Str)]]) (pr2.same sor) gO2 (.cons (b := [("runs" : Str)]) ⟨tr2, rfl, SqT.of htr2⟩ .nil) (runs_in _) fun Hs x2 dx2 B2' srs nx2 nB2' c2 => ?_
    have c1s := c1.same (sqr.trans srs)
    have sks := sko.trans (sor.trans srs)
    rw [sel_runs] at c1s c2
    refine ⟨x1, dx1, _, _, rfl, c1s.ins, ty_ctr c2 M.cl.cl M.tt M.ct, M.nfC, x1, dx1, y1, B1', _, _, .ref x2, rfl, c1s, gB2, (runs_in _).ok gB2, .inl ⟨x2, dx2, y2, B2', _, _, rfl, c2, gO2, (runs_in _).ok gO2, _, rfl, ?_⟩⟩
    refine ⟨_, rfl, _, rfl, bA, oA, kv2, kvZ, _, _, rfl, rfl, sks _ _ hBk, sks _ _ hOk, Lks.same lBk sks, Lks.same lOk sks, ?_, ?_, rfl, _, rfl, ?_⟩
    · exact ends_ok GB2
    · exact ends_ok GO2
    rw [eqPD_of nLB nLO, decide_eq_true rfl, Bool.and_true, decide_eq_true rfl]
    refine iteF ?_
    -- odd values
    refine ⟨Nat.zero_le _, fun o1 no1 => ⟨by show 1 ≤ sizeLine; decide, fun o2 no2 => ⟨by show 2 ≤ sizeLine; decide, fun o3 no3 => ⟨by show 2 ≤ sizeLine; decide, fun o4 no4 => ⟨by show 1 ≤ sizeLine; decide, fun o5 no5 => ⟨by show 2 ≤ sizeLine; decide, fun o6 no6 => ⟨by show 1 ≤ sizeLine; decide, fun o7 no7 => ⟨by show 2 ≤ sizeLine; decide, fun o8 no8 => ⟨by show 10 ≤ sizeLine; decide, fun o9 no9 => ?_⟩⟩⟩⟩⟩⟩⟩⟩⟩
    have a1 := sm (o := .tup []) no1
    have a2 := sm (o := .tup [.str "way"]) no2
    have a3 := sm (o := .tup [.str "way", .str "zzzzz"]) no3
    have a4 := sm (o := .tup [.str "runs", .str "a"]) no4
    have a5 := sm (o := .lst [.str "runs"]) no5
    have a6 := sm (o := .tup [.str "far", .str "a"]) no6
    have a7 := sm (o := .lst [.str "p"]) no7
    have a8 := sm (o := .tup [.str "way", .ref o7]) no8
    have a9 := sm (o := .lst [.non, .int 5, .ref o1, .ref o2, .ref o3, .ref o4, .ref o5, .str "runs", .ref o6, .ref o8]) no9
    have k8 := a9 _ _ (upd_same (H := _) (a := o8) (o := .tup [.str "way", .ref o7]))
    have k7 := a9 _ _ (a8 _ _ (upd_same (H := _) (a := o7) (o := .lst [.str "p"])))
    have k6 := a9 _ _ (a8 _ _ (a7 _ _ (upd_same (H := _) (a := o6) (o := .tup [.str "far", .str "a"]))))
    have k5 := a9 _ _ (a8 _ _ (a7 _ _ (a6 _ _ (upd_same (H := _) (a := o5) (o := .lst [.str "runs"])))))
    have k4 := a9 _ _ (a8 _ _ (a7 _ _ (a6 _ _ (a5 _ _ (upd_same (H := _) (a := o4) (o := .tup [.str "runs", .str "a"]))))))
    have k3 := a9 _ _ (a8 _ _ (a7 _ _ (a6 _ _ (a5 _ _ (a4 _ _ (upd_same (H := _) (a := o3) (o := .tup [.str "way", .str "zzzzz"])))))))
    have k2 := a9 _ _ (a8 _ _ (a7 _ _ (a6 _ _ (a5 _ _ (a4 _ _ (a3 _ _ (upd_same (H := _) (a := o2) (o := .tup [.str "way"]))))))))
    have k1 := a9 _ _ (a8 _ _ (a7 _ _ (a6 _ _ (a5 _ _ (a4 _ _ (a3 _ _ (a2 _ _ (upd_same (H := Hs) (a := o1) (o := .tup [])))))))))
    have k9 := upd_same (H := (upd (upd (upd (upd (upd (upd (upd (upd Hs o1 (.tup [])) o2 (.tup [.str "way"])) o3 (.tup [.str "way", .str "zzzzz"])) o4 (.tup [.str "runs", .str "a"])) o5 (.lst [.str "runs"])) o6 (.tup [.str "far", .str "a"])) o7 (.lst [.str "p"])) o8 (.tup [.str "way", .ref o7]))) (a := o9) (o := .lst [.non, .int 5, .ref o1, .ref o2, .ref o3, .ref o4, .ref o5, .str "runs", .ref o6, .ref o8])
    have ssv := a1.trans (a2.trans (a3.trans (a4.trans (a5.trans (a6.trans (a7.trans (a8.trans a9)))))))
    generalize upd (upd (upd (upd (upd (upd (upd (upd (upd Hs o1 (.tup [])) o2 (.tup [.str "way"])) o3 (.tup [.str "way", .str "zzzzz"])) o4 (.tup [.str "runs", .str "a"])) o5 (.lst [.str "runs"])) o6 (.tup [.str "far", .str "a"])) o7 (.lst [.str "p"])) o8 (.tup [.str "way", .ref o7])) o9 (.lst [.non, .int 5, .ref o1, .ref o2, .ref o3, .ref o4, .ref o5, .str "runs", .ref o6, .ref o8]) = Hv at k1 k2 k3 k4 k5 k6 k7 k8 k9 ssv
    clear a1 a2 a3 a4 a5 a6 a7 a8 a9
    have s0v := s0k.trans (sks.trans ssv)
    obtain ⟨n1', n2', n3', n4', n5'⟩ := odd_no (b := b) D
    have odd : ∀ v ∈ [V.non, .int 5, .ref o1, .ref o2, .ref o3, .ref o4, .ref o5, .str "runs", .ref o6, .ref o8], ∃ o, KnV K Hv v o ∧ ∀ ds : List (List Str), (∀ c ∈ ds, c ∈ allC (pdOf ls b es)) → knB ds o = false := by
      intro v hv
      have yes : ∀ {t : Addr} {c : List Str}, Hv t = some (.tup (c.map V.str)) → c ∈ ([[], ["way"], ["way", "zzzzz"], ["runs", "a"], ["far", "a"]] : List (List Str)) → c.length ≤ 1000 → c ∉ allC (pdOf ls b es) → ∃ o, KnV K Hv (.ref t) o ∧ ∀ ds : List (List Str), (∀ c ∈ ds, c ∈ allC (pdOf ls b es)) → knB ds o = false := fun {t c} ht mc hl nc => ⟨some c, .txt ⟨t, rfl, SqT.of ht⟩ (odd_lay c mc) hl, fun ds hd => decide_eq_false fun m => nc (hd c m)⟩
      simp only [List.mem_cons, List.not_mem_nil, or_false] at hv
      rcases hv with rfl | rfl | rfl | rfl | rfl | rfl | rfl | rfl | rfl | rfl
      · exact ⟨none, .no (.base .non) (kit_ty (by decide +kernel)), fun _ _ => rfl⟩
      · exact ⟨none, .no (.base (.int 5)) (kit_ty (by decide +kernel)), fun _ _ => rfl⟩
      · exact yes (c := []) k1 (by decide +kernel) (by decide) n1'
      · exact yes (c := ["way"]) k2 (by decide +kernel) (by decide +kernel) n2'
      · exact yes (c := ["way", "zzzzz"]) k3 (by decide +kernel) (by decide +kernel) n3'
      · exact yes (c := ["runs", "a"]) k4 (by decide +kernel) (by decide +kernel) n4'
      · exact ⟨none, .no (.base (.lst k5)) (kit_ty (by decide +kernel)), fun _ _ => rfl⟩
      · exact ⟨none, .no (.base (.str "runs")) (kit_ty (by decide +kernel)), fun _ _ => rfl⟩
      · exact yes (c := ["far", "a"]) k6 (by decide +kernel) (by decide +kernel) n5'
      · exact ⟨none, .odd (xs := [.str "way", .ref o7]) (bs := [true, false]) (SqT.of k8) (by show 2 ≤ 1000; decide) (.cons (.inl ⟨_, rfl, rfl⟩) (.cons (.inr ⟨_, .base (.lst k7), kit_ty (by decide +kernel), rfl⟩) .nil)) rfl, fun _ _ => rfl⟩
    refine ⟨o9, rfl, ⟨_, SqL.of k9⟩, for_it (walk_list (xs := [V.non, .int 5, .ref o1, .ref o2, .ref o3, .ref o4, .ref o5, .str "runs", .ref o6, .ref o8])) (fun j σ H' => ∃ v7 : Option V, σ = [some (.ref y), some (.ref x), some (.ref pA), some (.ref bA), some (.ref oA), some (.ref y1), some (.ref y2), v7, none] ∧ Same Hv H') ⟨none, rfl, Same.refl _⟩ (fun j σ H' _ ⟨_, _, z⟩ => SqL.of (z _ _ k9)) ?_ ?_⟩
    · rintro j v σ Hw Hw' hj ⟨v7, rfl, sw⟩ ⟨rfl, ev⟩
      obtain ⟨o, kn, no⟩ := odd v (List.mem_of_getElem? ev)
      have s0w := s0v.trans sw
      refine ⟨_, rfl, _, rfl, y, dy, L, S, F, _, v, o, rfl, pr.same s0w, g, kn.same sw, fun Hx sx => ?_⟩
      rw [no _ fun c hc => hc]
      have cxx := cx.same (s0w.trans sx)
      refine ⟨_, rfl, iteF ⟨_, rfl, _, rfl, x, dx, _, rfl, cxx.ins, x, dx, yk, B, _, cs, v, o, rfl, cxx, ci.ok g, kn.same (sw.trans sx), fun Hy sy => ?_⟩⟩
      rw [no _ ci.sub]
      exact ⟨_, rfl, _, rfl, iteF ⟨_, rfl, sw.trans (sx.trans sy)⟩⟩
    · rintro σ Hw ⟨v7, rfl, sw⟩
      exact k _ (s0v.trans sw)
end
end LC


set_option Elab.async false
set_option linter.all false
set_option maxRecDepth 100000
set_option maxHeartbeats 8000000
namespace LC
open PySem L2 PG OW CT
open LH hiding sm top
open LW (But But.refl But.trans But.of But.upd Drawn PrgAt PrgAt.same LT spMade spProgram spLP menuN)
section
variable {K : PySem.W.Frag} {p q : Addr} {rs : List Int} {i : Int} {H H' : Hp}
theorem two_but {l : List V} {v : V} {x : Str × Str} (b : But p H H') (hp : H p = some (.lst l)) (h : TwoAt K H v x) : TwoAt K H' v x := by
  obtain ⟨t, e, h⟩ := h
  obtain ⟨t', e', h'⟩ := tup_but (K := K) (v := .ref t) (c := [x.1, x.2]) b hp ⟨t, rfl, h⟩
  cases e'
  exact ⟨t, e, h'⟩
theorem lks_but {l : List V} {kvs : List (Key × V)} {ls : List Lk} (b : But p H H') (hp : H p = some (.lst l)) (h : Lks K H kvs ls) : Lks K H' kvs ls := Paired.imp (fun _ _ q => ⟨q.1, two_but b hp q.2⟩) h
theorem prg_but {r dp ex : Addr} {ls : List Lk} {bg : Str} {es : List Str} (b : But p H H') (hP : PoolAt H p q rs i) (h : PrgAt K H r dp ex ls bg es) : PrgAt K H' r dp ex ls bg es := by
  obtain ⟨a, ⟨kvs, c, d⟩, e⟩ := h
  exact ⟨b _ _ (ne_of a hP.hp (by intro z; cases z)) a, ⟨kvs, b _ _ (ne_of c hP.hp (by intro z; cases z)) c, lks_but b hP.hp d⟩, b _ _ (LW.strs_ne e hP) e⟩
theorem prog_but {CP y dy L S F : Addr} {d : PD} (b : But p H H') (hP : PoolAt H p q rs i) (h : ProgAt K CP H y dy L S F d) : ProgAt K CP H' y dy L S F d := by
  obtain ⟨a, ⟨kvs, c, l⟩, s, f⟩ := h
  exact ⟨b _ _ (ne_of a hP.hp (by intro z; cases z)) a, ⟨kvs, b _ _ (ne_of c hP.hp (by intro z; cases z)) c, lks_but b hP.hp l⟩, b _ _ (LW.strs_ne s hP) s, b _ _ (LW.strs_ne f hP) f⟩
theorem paired_rev {α β : Type} {R : α → β → Prop} : ∀ {xs : List α} {ys : List β}, Paired R xs ys → Paired R xs.reverse ys.reverse
  | _, _, .nil => .nil
  | _, _, .cons r rs => by
    rw [List.reverse_cons, List.reverse_cons]
    exact paired_snoc (paired_rev rs) r
end
/-- one set less another, and what is left -/
theorem sub_add (d : PD) (as bs : List (List Str)) : selC d (subL (selC d (addL as bs)) (selC d bs)) = selC d (subL as bs) := selC_congr fun c hc => by
  rw [mem_subL, mem_subL, selC_mem, selC_mem, mem_addL]
  exact ⟨fun h => ⟨h.1.2.elim id fun z => absurd ⟨hc, z⟩ h.2, fun z => h.2 ⟨hc, z⟩⟩, fun h => ⟨⟨hc, .inl h.1⟩, fun z => h.2 z.2⟩⟩
theorem eq_left {d : PD} (g : PDg d) {as : List (List Str)} (ci : CsIn d as) (bs : List (List Str)) : decide (selC d (subL as bs) = selC d as) = decide (V.int ((subL as bs).length : Nat) = V.int (as.length : Nat)) := by
  rw [decide_eq_decide]
  constructor
  · intro e
    have z := congrArg List.length e
    rw [selC_len g (subL_in ci bs), selC_len g ci] at z
    rw [z]
  · intro e
    have z : (subL as bs).length = as.length := by injection e with e; omega
    have q : subL as bs = as := by
      unfold subL at z ⊢
      exact List.filter_eq_self.mpr (List.length_filter_eq_length_iff.mp z)
    rw [q]
section
variable {P : Program} {w : World} {K : PySem.W.Frag} {mg : Str → Option Value} {base : Heap} {CP CC : Addr}
abbrev nsLaw : List Str := ["script", "k", "pool", "prog", "program", "every", "one", "some", "others", "other", "both", "left", "kept", "counter"]
theorem scLaw : FnScope nsLaw ["script"] (defScope sLaw) := ⟨rfl, rfl, rfl, by decide +kernel, rfl, by decide +kernel, by decide +kernel⟩
def spLaw (K : PySem.W.Frag) : Sp := fun vs H Q _ => ∃ (a : Addr) (ns : List Int), vs = [.ref a] ∧ SqL K H a (ns.map V.int) ∧ ns.length ≤ 63 ∧ ∀ H', Q (.bl true) H'
/-- the law's own defs -/
structure LD (P : Program) (w : World) (K : PySem.W.Frag) (mg : Str → Option Value) (base : Heap) (CP CC : Addr) : Prop where
  op : Cl P w K mg base 3 "_law_opened" ["script", "k", "many"] (spOpen K)
  pr : Cl P w K mg base 3 "_law_program" ["pool", "most", "more", "rings"] (spProgram K)
  md : Cl P w K mg base 6 "_law_made" ["prog"] (spMade K CP)
  al : Cl P w K mg base 2 "_law_all" ["prog"] (spLAll K)
  ac : Cl P w K mg base 2 "all_counters" ["program"] (spAllC K CP)
  ic : Cl P w K mg base 3 "is_counter" ["program", "value"] (spIsC K CP)
  so : Cl P w K mg base 3 "_law_some" ["pool", "prog", "chance"] (spSome K)
  se : Cl P w K mg base 7 "_law_set" ["prog", "some"] (spSetL K CP CC)
  ri : Cl P w K mg base 7 "_law_right" ["made", "prog", "some"] (spRt K CP CC)
  wr : Cl P w K mg base 8 "_law_ways_right" ["prog", "program"] (spWR K CP)
  od : Cl P w K mg base 6 "_law_odd_out" ["program", "kept"] (spOd K CP CC)
theorem ok_law {f : Addr} {fd : FuncData} (Fn : Fun K "law" "law" sLaw f fd) (T : PT0 mg) (TL : LT mg) (M : CMs P w K mg base CP CC) (N : LD P w K mg base CP CC) : FnOk P w K mg base CX0 9 f fd ["script"] (spLaw K) := by
  refine Fn.ok scLaw (fun vs H Q E h => ?_) (fun cdv A outer s H vs Q E hr h => ?_)
  · obtain ⟨a, ns, rfl, _⟩ := h
    rfl
  · obtain ⟨a, ns, rfl, hS, hlen, k⟩ := h
    have hu := hu_of hr
    have hun := Nat.lt_of_succ_lt (room66 hr)
    have hr1 : Room 1 _ := hr.mono (by decide)
    have hr2 : Room 2 _ := hr.mono (by decide)
    have hr3 : Room 3 _ := hr.mono (by decide)
    have hr5 : Room 5 _ := hr.mono (by decide)
    have hr6 : Room 6 _ := hr.mono (by decide)
    have hr7 : Room 7 _ := hr.mono (by decide)
    have nd := scLaw.nd
    obtain ⟨gO, fdO, mO, kO, bO, GO⟩ := N.op
    obtain ⟨gP, fdP, mP, kP, bP, GP⟩ := N.pr
    obtain ⟨gM, fdM, mM, kM, bM, GM⟩ := N.md
    obtain ⟨gL, fdL, mL, kL, bL, GL⟩ := N.al
    obtain ⟨gC, fdC, mC, kC, bC, GC⟩ := N.ac
    obtain ⟨gI, fdI, mI, kI, bI, GI⟩ := N.ic
    obtain ⟨gS, fdS, mS, kS, bS, GS⟩ := N.so
    obtain ⟨gT, fdT, mT, kT, bT, GT⟩ := N.se
    obtain ⟨gR, fdR, mR, kR, bR, GR⟩ := N.ri
    obtain ⟨gW, fdW, mW, kW, bW, GW⟩ := N.wr
    obtain ⟨gD, fdD, mD, kD, bD, GD⟩ := N.od
    obtain ⟨gA, fdA, fA, iA, bA, GA⟩ := M.add
    obtain ⟨gB, fdB, fB, iB, bB, GB⟩ := M.sub
    obtain ⟨gU, fdU, fU, iU, bU, GU⟩ := M.iadd
    obtain ⟨gV, fdV, fV, iV, bV, GV⟩ := M.isub
    obtain ⟨gQ, fdQ, fQ, iQ, bQ, GQ⟩ := M.eq
    obtain ⟨gE, fdE, mE, bE, GE⟩ := M.listed
    obtain ⟨mc, rd, _, ⟨pY, gY, sY, FY⟩⟩ := M.rd
    refine ⟨_, pss_cons (ps_for PassesOwn.never rfl (pi_range1 (by rfl) TL.range (pa_cons (pe_callB (call_max2 rfl) (by rfl) TL.max PyProof.Rows.boot_max (pa_cons pe_int (pa_cons (pe_callB (call_min2 rfl) (by rfl) TL.min PyProof.Rows.boot_min (pa_cons (pe_callB call_len_seq (by rfl) TL.len PySem.boot_len (pa_cons (pv 0) pa_nil)) (pa_cons pe_int pa_nil))) pa_nil))) pa_nil)) (pg_name (i := 1) nd rfl (Or.inl rfl))
        (pss_cons (ps_set (i := 2) nd rfl (Or.inl rfl) (pe_call GO hr3 (by rfl) mO kO bO .nil pass0 (pa_cons (pv 0) (pa_cons (pv 1) (pa_cons pe_int pa_nil)))))
        (pss_cons (ps_set (i := 3) nd rfl (Or.inl rfl) (pe_call GP hr3 (by rfl) mP kP bP .nil pass0 (pa_cons (pv 2) (pa_cons pe_int (pa_cons pe_int (pa_cons pe_bl pa_nil))))))
        (pss_cons (ps_asg (pe_tup (pa_cons (pe_call GM hr6 (by rfl) mM kM bM .nil pass0 (pa_cons (pv 3) pa_nil)) (pa_cons (pe_call GL hr2 (by rfl) mL kL bL .nil pass0 (pa_cons (pv 3) pa_nil)) pa_nil))) (pg_tup rfl (pgs_cons (pg_name (i := 4) nd rfl (Or.inr rfl)) (pgs_cons (pg_name (i := 5) nd rfl (Or.inl rfl)) pgs_nil))))
        (pss_cons (ps_if (pt_cmpR (op_neC hr.units) (pe_call GC hr2 (by rfl) mC kC bC .nil pass0 (pa_cons (pv 4) pa_nil)) (pv 5) (nomark _)) (pss_one (ps_ret pe_bl)) pss_nil)
        (pss_cons (ps_if (pt_cmpR (op_neC hr.units) (pe_lc (own := [("one", 6)]) (g := gName 6) (tt := tNot (tB (tCall (spIsC K CP) [] E0 (tCons (tVar 4) (tCons (tVar 6) tNil))))) rfl nd (pi_list (pv 5)) (blkOk_by (own := [("one", 6)]) (N := nsLaw) (sc := defScope sLaw) (by decide +kernel)) (fun _ _ _ _ _ => pg_name (i := 6) nd rfl (Or.inl rfl)) (fun _ _ _ _ _ => pts_one (pt_not (pt_val (pe_call GI hr3 (by rfl) mI kI bI .nil pass0 (pa_cons (pv 4) (pa_cons (pv 6) pa_nil)))))) (fun _ _ _ _ _ => pv 6)) (pe_lst pa_nil) (nomark _)) (pss_one (ps_ret pe_bl)) pss_nil)
        (pss_cons (ps_asg (pe_tup (pa_cons (pe_revL (pe_call GS hr3 (by rfl) mS kS bS .nil pass0 (pa_cons (pv 2) (pa_cons (pv 3) (pa_cons pe_int pa_nil))))) (pa_cons (pe_call GS hr3 (by rfl) mS kS bS .nil pass0 (pa_cons (pv 2) (pa_cons (pv 3) (pa_cons pe_int pa_nil)))) pa_nil))) (pg_tup rfl (pgs_cons (pg_name (i := 7) nd rfl (Or.inr rfl)) (pgs_cons (pg_name (i := 8) nd rfl (Or.inr rfl)) pgs_nil))))
        (pss_cons (ps_par (i := 6) (j := 9) (by rfl) nd rfl rfl (by decide) rfl rfl (pa_cons (pe_call GT hr7 (by rfl) mT kT bT .nil pass0 (pa_cons (pv 3) (pa_cons (pv 7) pa_nil))) (pa_cons (pe_call GT hr7 (by rfl) mT kT bT .nil pass0 (pa_cons (pv 3) (pa_cons (pv 8) pa_nil))) pa_nil)) (by rfl))
        (pss_cons (ps_if (PW.pt (pw_or (pt_not (pt_val (pe_call GR hr7 (by rfl) mR kR bR .nil pass0 (pa_cons (pv 6) (pa_cons (pv 3) (pa_cons (pv 7) pa_nil)))))) (pw_or1 (pt_not (pt_val (pe_call GR hr7 (by rfl) mR kR bR .nil pass0 (pa_cons (pv 9) (pa_cons (pv 3) (pa_cons (pv 8) pa_nil))))))))) (pss_one (ps_ret pe_bl)) pss_nil)
        (pss_cons (ps_set (i := 10) nd rfl (Or.inl rfl) (pe_op op_cat (pv 7) (pe_lc (own := [("counter", 13)]) (g := gName 13) (tt := tTest (tOp (rInC K true) (tVar 13) (tVar 7))) rfl nd (pi_list (pv 8)) (blkOk_by (own := [("counter", 13)]) (N := nsLaw) (sc := defScope sLaw) (by decide +kernel)) (fun _ _ _ _ _ => pg_name (i := 13) nd rfl (Or.inl rfl)) (fun _ _ _ _ _ => pts_one (pt_cmpR (op_notInC hun) (pv 13) (pv 7) rfl)) (fun _ _ _ _ _ => pv 13))))
        (pss_cons (ps_setLc (i := 11) (own := [("counter", 13)]) (g := gName 13) (tt := tTest (tOp (rInC K true) (tVar 13) (tVar 8))) rfl nd rfl rfl (sw_true rfl rfl rfl (by decide +kernel)) (pi_list (pv 7)) (blkOk_by (own := [("counter", 13)]) (N := nsLaw) (sc := defScope sLaw) (by decide +kernel)) (fun _ _ _ _ _ => pg_name (i := 13) nd rfl (Or.inl rfl)) (fun _ _ _ _ _ => pts_one (pt_cmpR (op_notInC hun) (pv 13) (pv 8) rfl)) (fun _ _ _ _ _ => pv 13))
        (pss_cons (ps_if (PW.pt (pw_or (pt_not (pt_val (pe_call GR hr7 (by rfl) mR kR bR .nil pass0 (pa_cons (pe_op (op_ownBin (op := .Add) GA bA pass0 hr5 M.sf fA iA) (pv 6) (pv 9)) (pa_cons (pv 3) (pa_cons (pv 10) pa_nil)))))) (pw_or1 (pt_not (pt_val (pe_call GR hr7 (by rfl) mR kR bR .nil pass0 (pa_cons (pe_op (op_ownBin (op := .Sub) GB bB pass0 hr5 M.sf fB iB) (pv 6) (pv 9)) (pa_cons (pv 3) (pa_cons (pv 11) pa_nil))))))))) (pss_one (ps_ret pe_bl)) pss_nil)
        (pss_cons (ps_set (i := 12) nd rfl (Or.inl rfl) (pv 6))
        (pss_cons (ps_aug (i := 6) nd rfl (.inl rfl) (pv 9) (ip_own (op := .Add) GU bU pass0 hr6 M.sf fU iU))
        (pss_cons (ps_if (PW.pt (pw_or (pt_not (pt_val (pe_call GR hr7 (by rfl) mR kR bR .nil pass0 (pa_cons (pv 6) (pa_cons (pv 3) (pa_cons (pv 10) pa_nil)))))) (pw_or1 (pt_not (pt_val (pe_call GR hr7 (by rfl) mR kR bR .nil pass0 (pa_cons (pv 12) (pa_cons (pv 3) (pa_cons (pv 7) pa_nil))))))))) (pss_one (ps_ret pe_bl)) pss_nil)
        (pss_cons (ps_aug (i := 6) nd rfl (.inl rfl) (pv 9) (ip_own (op := .Sub) GV bV pass0 hr6 M.sf fV iV))
        (pss_cons (ps_if (PW.pt (pw_or (pt_not (pt_val (pe_call GR hr7 (by rfl) mR kR bR .nil pass0 (pa_cons (pv 6) (pa_cons (pv 3) (pa_cons (pv 11) pa_nil)))))) (pw_or1 (pt_cmpR op_ne (pe_cmpR (op_ownEq (C := CC) GQ bQ pass0 hr2 fQ iQ) (pv 6) (pv 12) (nomark _)) (pe_cmpR op_eq (pe_callB call_len_seq (by rfl) T.len PySem.boot_len (pa_cons (pv 11) pa_nil)) (pe_callB call_len_seq (by rfl) T.len PySem.boot_len (pa_cons (pv 7) pa_nil)) (nomark _)) (nomark _))))) (pss_one (ps_ret pe_bl)) pss_nil)
        (pss_cons (ps_if (pt_cmpR (op_ownEq (C := CC) GQ bQ pass0 hr2 fQ iQ) (pv 6) pe_int (nomark _)) (pss_one (ps_ret pe_bl)) pss_nil)
        (pss_cons (ps_if (pt_not (pt_val (pe_call GR hr7 (by rfl) mR kR bR .nil pass0 (pa_cons (pe_smeth (pe_glob (v := .ref CC) (by rfl) M.cl.gC rfl) rd sY FY hr5 pass0 (pa_cons (pv 4) pa_nil)) (pa_cons (pv 3) (pa_cons (pv 5) pa_nil)))))) (pss_one (ps_ret pe_bl)) pss_nil)
        (pss_cons (ps_if (PW.pt (pw_or (pt_not (pt_val (pe_call GW hr (by rfl) mW kW bW .nil pass0 (pa_cons (pv 3) (pa_cons (pv 4) pa_nil))))) (pw_or1 (pt_not (pt_val (pe_call GD hr6 (by rfl) mD kD bD .nil pass0 (pa_cons (pv 4) (pa_cons (pv 12) pa_nil)))))))) (pss_one (ps_ret pe_bl)) pss_nil)
        (pss_cons (ps_expr (pe_bm PySem.F.plainAttrs_list PySem.F.slot_list_append PySem.F.type_list_append mt_append (pe_meth0 (pv 12) M.cl.cl mE GE hr1 bE .nil pass0) (pa_cons (pe_tup (pa_cons pe_str pa_nil)) pa_nil)))
        (pss_one (ps_if (pt_not (pt_val (pe_call GR hr7 (by rfl) mR kR bR .nil pass0 (pa_cons (pv 12) (pa_cons (pv 3) (pa_cons (pv 7) pa_nil)))))) (pss_one (ps_ret pe_bl)) pss_nil)))))))))))))))))))))))
      (pss_one (ps_ret pe_bl)), ?_⟩
    refine ⟨_, rfl, a, _, rfl, .inl hS, _, _, rfl, _, _, rfl, ?_⟩
    rw [List.length_map]
    obtain ⟨mx, eM, hM6, hMn⟩ : ∃ M : Nat, (if (if (6 : Int) < ((ns.length : Nat) : Int) then (6 : Int) else ((ns.length : Nat) : Int)) > 1 then (if (6 : Int) < ((ns.length : Nat) : Int) then (6 : Int) else ((ns.length : Nat) : Int)) else 1) = (M : Int) ∧ M ≤ 6 ∧ (ns = [] ∨ M ≤ ns.length) := by
      cases ns with
      | nil => exact ⟨1, by simp, by decide, .inl rfl⟩
      | cons n ns =>
        by_cases h6 : (6 : Int) < (((n :: ns).length : Nat) : Int)
        · exact ⟨6, by rw [if_pos h6]; decide, Nat.le_refl _, .inr (by omega)⟩
        · by_cases h1 : (((n :: ns).length : Nat) : Int) > 1
          · exact ⟨(n :: ns).length, by rw [if_neg h6, if_pos h1], by omega, .inr (Nat.le_refl _)⟩
          · exact ⟨1, by rw [if_neg h6, if_neg h1]; rfl, by decide, .inr (by simp)⟩
    rw [eM]
    refine ⟨_, rfl, by omega, by omega, ?_⟩
    rw [Int.toNat_natCast]
    refine for_range (lo := 0) (n := mx) (fun i σ H' => ∃ (v1 v2 v3 v4 v5 v6 v7 v8 v9 v10 v11 v12 : Option V), σ = [some (.ref a), v1, v2, v3, v4, v5, v6, v7, v8, v9, v10, v11, v12, none] ∧ Same H H') ⟨_, _, _, _, _, _, _, _, _, _, _, _, rfl, Same.refl H⟩ ?_ ?_
    · rintro i σ H0 hi ⟨v1, v2, v3, v4, v5, v6, v7, v8, v9, v10, v11, v12, rfl, s0⟩
      refine ⟨_, rfl, _, rfl, a, ns, i, 90, by rw [Int.zero_add]; rfl, s0.seq hS, ?_, by omega, by decide, fun p q rs H1 np nq s1 hP hl => ?_⟩
      · rcases hMn with e | e
        · exact .inl e
        · exact .inr (by omega)
      have npH : ∀ c o, H c = some o → c ≠ p := fun c o e z => by rw [z] at e; rw [s0 _ _ e] at np; cases np
      refine ⟨_, rfl, p, q, rs, 0, 5, 3, rfl, hP, by decide, by decide, by decide, fun r dp ex pls ls es b H2 i' nr ndp nex D hb l6 b12 hP2 h => ?_⟩
      have s02 : Same H H2 := fun c o e => b12 c o (npH c o e) (s1 _ _ (s0 _ _ e))
      have Gd := D.good hb
      have g := pdg_of Gd
      -- program, every = ..
      refine ⟨_, rfl, r, dp, ex, ls, b, es, rfl, h, Gd, fun H3 y dy L S F s23 ny nL nS nF pr => ?_⟩
      refine ⟨_, rfl, r, dp, ex, pls, ls, b, es, rfl, h.same s23, D, fun H4 eA us s34 nE hE hus => ⟨by show 2 ≤ sizeLine; decide, fun t nt => ?_⟩⟩
      have s45 := sm (o := .tup [.ref y, .ref eA]) nt
      have ht : (upd H4 t (.tup [.ref y, .ref eA])) t = some (.tup [.ref y, .ref eA]) := upd_same
      generalize upd H4 t (.tup [.ref y, .ref eA]) = H5 at s45 ht
      refine ⟨t, _, rfl, SqT.of ht, rfl, _, _, rfl, _, _, rfl, rfl, ?_⟩
      have s25 := s23.trans (s34.trans s45)
      have pr5 := pr.same (s34.trans s45)
      have nEp : eA ≠ p := fun z => by rw [z] at nE; rw [s23 _ _ hP2.hp] at nE; cases nE
      -- all_counters(program) != every
      refine ⟨_, rfl, y, dy, L, S, F, _, rfl, pr5, g.sz, fun pC H6 ks npC s56 hpC hks => ?_⟩
      have s46 := s45.trans s56
      have hE6 := s46 _ _ hE
      have hus6 := TupLs.same hus s46
      refine ⟨_, rfl, pC, eA, ks, us, _, _, rfl, rfl, SqL.of hpC, SqL.of hE6, hks, hus6, g.cok, g.cok, _, rfl, ?_⟩
      rw [decide_eq_true rfl]
      refine iteF ?_
      have pr6 := pr5.same s56
      -- [one for one in every if not is_counter(program, one)] != []
      refine ⟨_, rfl, eA, rfl, ⟨_, SqL.of hE6⟩, fun B6 nB6 => rd_sel (fun _ => false) (SqL.of hE6) hus6 (by have := g.few; omega) nB6 (fun v => rfl) (fun v => rfl) (fun j e v Hx Qx sx he te qx => ?_) fun H7 ts s67 hB7 hts => ?_⟩
      · have me : e ∈ allC (pdOf ls b es) := List.mem_of_getElem? he
        refine ⟨_, rfl, _, rfl, y, dy, L, S, F, _, v, some e, rfl, pr6.same sx, g, .txt te (g.cok e me) (g.sm e me), fun Hy sy => ?_⟩
        rw [show knB (allC (pdOf ls b es)) (some e) = true from decide_eq_true me]
        exact ⟨_, rfl, qx Hy sy⟩
      rw [show (allC (pdOf ls b es)).filter (fun _ => false) = [] from List.filter_eq_nil_iff.mpr fun _ _ z => by cases z] at hts
      refine ⟨Nat.zero_le _, fun p7 np7 => ?_⟩
      have s78 := sm (o := .lst []) np7
      have hp7 : (upd H7 p7 (.lst [])) p7 = some (.lst []) := upd_same
      generalize upd H7 p7 (.lst []) = H8 at s78 hp7
      refine ⟨B6, p7, ts, [], [], [], rfl, rfl, SqL.of (s78 _ _ hB7), SqL.of hp7, TupLs.same hts s78, .nil, fun _ z => (nomatch z), fun _ z => (nomatch z), _, rfl, ?_⟩
      rw [decide_eq_true rfl]
      refine iteF ?_
      have s68 := s67.trans s78
      have s28 := s25.trans (s56.trans s68)
      have s08 := s02.trans s28
      have hP8 := hP2.same s28
      have h8 := h.same s28
      have pr8 := pr6.same s68
      have hE8 := s68 _ _ hE6
      have hus8 := TupLs.same hus6 s68
      clear hts hks hus hus6 pr pr5 pr6
      -- some, others = ..
      refine ⟨_, rfl, _, rfl, p, q, rs, i', 3, r, dp, ex, pls, ls, b, es, rfl, hP8, h8, D, g.few, fun H9 D1 u1 c1 i1 b89 nD1 hP9 hD1 hu1 sub1 => ?_⟩
      refine ⟨D1, _, rfl, SqL.of hD1, fun sA nsA => ?_⟩
      have s9a := sm (o := .lst u1.reverse) nsA
      have hsA : (upd H9 sA (.lst u1.reverse)) sA = some (.lst u1.reverse) := upd_same
      have hPa := hP9.same s9a
      have tsA : TupLs K (upd H9 sA (.lst u1.reverse)) u1.reverse c1.reverse := TupLs.same (paired_rev hu1) s9a
      have nsp : sA ≠ p := fun z => by rw [z, hP9.hp] at nsA; cases nsA
      have ha := (prg_but b89 hP8 h8).same s9a
      have pra := (prog_but b89 hP8 pr8).same s9a
      have hEa := s9a _ _ (b89 _ _ nEp hE8)
      have husa := TupLs.same (tups_but b89 hP8.hp hus8) s9a
      have s0a : Same H (upd H9 sA (.lst u1.reverse)) := fun c o e => s9a _ _ (b89 c o (npH c o e) (s08 _ _ e))
      generalize upd H9 sA (.lst u1.reverse) = Ha at s9a hsA hPa tsA ha pra hEa husa s0a
      refine ⟨_, rfl, _, rfl, p, q, rs, i1, 3, r, dp, ex, pls, ls, b, es, rfl, hPa, ha, D, g.few, fun Hb oA u2 c2 i2 bab noA hPb hoA hu2 sub2 => ⟨by show 2 ≤ sizeLine; decide, fun t3 nt3 => ?_⟩⟩
      have sbc := sm (o := .tup [.ref sA, .ref oA]) nt3
      have ht3 : (upd Hb t3 (.tup [.ref sA, .ref oA])) t3 = some (.tup [.ref sA, .ref oA]) := upd_same
      generalize upd Hb t3 (.tup [.ref sA, .ref oA]) = Hc at sbc ht3
      refine ⟨t3, _, rfl, SqT.of ht3, rfl, _, _, rfl, _, _, rfl, rfl, ?_⟩
      have i1c : CsIn (pdOf ls b es) c1.reverse := LC.CsIn.rev (sub_in g sub1)
      have i2c : CsIn (pdOf ls b es) c2 := sub_in g sub2
      generalize c1.reverse = cs at tsA i1c
      generalize u1.reverse = us1 at hsA tsA
      have hsc := sbc _ _ (bab _ _ nsp hsA)
      have tsc : TupLs K Hc us1 cs := TupLs.same (tups_but bab hPa.hp tsA) sbc
      have hoc := sbc _ _ hoA
      have toc : TupLs K Hc u2 c2 := TupLs.same hu2 sbc
      have hc := (prg_but bab hPa ha).same sbc
      have prc := (prog_but bab hPa pra).same sbc
      have hEc := sbc _ _ (bab _ _ nEp hEa)
      have husc := TupLs.same (tups_but bab hPa.hp husa) sbc
      have s0c : Same H Hc := fun c o e => sbc _ _ (bab c o (npH c o e) (s0a _ _ e))
      clear hu1 hu2 tsA husa hus8
      -- one, other = ..
      refine ⟨_, rfl, _, rfl, r, dp, ex, ls, b, es, sA, us1, cs, rfl, hc, Gd, SqL.of hsc, tsc, i1c, fun Hd x1 dx1 y1 B1 scd nx1 k1 => ?_⟩
      refine ⟨_, rfl, _, rfl, r, dp, ex, ls, b, es, oA, u2, c2, rfl, hc.same scd, Gd, SqL.of (scd _ _ hoc), TupLs.same toc scd, i2c, fun He x2 dx2 y2 B2 sde nx2 k2 => ?_⟩
      refine ⟨_, _, rfl, ?_⟩
      have sce := scd.trans sde
      have k1e := k1.same sde
      -- right twice
      refine ⟨_, rfl, _, rfl, _, rfl, x1, dx1, y1, B1, r, dp, ex, pls, ls, b, es, sA, us1, cs, rfl, k1e, hc.same sce, D, Gd, SqL.of (sce _ _ hsc), TupLs.same tsc sce, i1c, fun Hf sef => ⟨_, rfl, iteF ?_⟩⟩
      have scf := sce.trans sef
      refine ⟨_, rfl, _, rfl, _, rfl, x2, dx2, y2, B2, r, dp, ex, pls, ls, b, es, oA, u2, c2, rfl, k2.same sef, hc.same scf, D, Gd, SqL.of (scf _ _ hoc), TupLs.same toc scf, i2c, fun Hg sfg => ⟨_, rfl, iteNF ?_⟩⟩
      have scg := scf.trans sfg
      have k1g := k1e.same (sef.trans sfg)
      have k2g := k2.same (sef.trans sfg)
      have hsg := scg _ _ hsc
      have hog := scg _ _ hoc
      have tsg := TupLs.same tsc scg
      have tog := TupLs.same toc scg
      -- both
      refine ⟨_, rfl, _, rfl, oA, rfl, ⟨_, SqL.of hog⟩, fun B7 nB7 => rd_sel (fun c => !decide (c ∈ cs)) (SqL.of hog) tog (by have := i2c.few g; omega) nB7 (fun v => rfl) (fun v => rfl) (fun j e v Hx Qx sx he te qx => ?_) fun Hh th sgh hB7h hth => ?_⟩
      · exact ⟨_, rfl, _, rfl, e, sA, us1, cs, te, rfl, SqL.of (sx _ _ hsg), TupLs.same tsg sx, i2c.ok g e (List.mem_of_getElem? he), i1c.ok g, _, rfl, qx Hx (Same.refl _)⟩
      have lth : th.length ≤ 200 := by
        rw [Paired.length hth]
        exact Nat.le_trans (List.length_filter_le _ _) (i2c.few g)
      have lus1 : us1.length ≤ 200 := by rw [Paired.length tsc]; exact i1c.few g
      refine ⟨sA, B7, us1, th, rfl, rfl, sgh _ _ hsg, hB7h, by rw [sizeLine_eq]; omega, fun bA' nbA' => ?_⟩
      have shi := sm (o := .lst (us1 ++ th)) nbA'
      have hbi : (upd Hh bA' (.lst (us1 ++ th))) bA' = some (.lst (us1 ++ th)) := upd_same
      have tbi : TupLs K (upd Hh bA' (.lst (us1 ++ th))) (us1 ++ th) (addL cs c2) := TupLs.same (paired_app (TupLs.same tsg sgh) hth) shi
      generalize upd Hh bA' (.lst (us1 ++ th)) = Hi at shi hbi tbi
      generalize us1 ++ th = ub at hbi tbi
      have sgi := sgh.trans shi
      have hsi := sgi _ _ hsg
      have hoi := sgi _ _ hog
      have tsi := TupLs.same tsg sgi
      have toi := TupLs.same tog sgi
      have iB' : CsIn (pdOf ls b es) (addL cs c2) := addL_in i1c i2c
      have iL' : CsIn (pdOf ls b es) (subL cs c2) := subL_in i1c c2
      clear hth
      -- left
      refine ⟨_, rfl, sA, rfl, ⟨_, SqL.of hsi⟩, fun lA nlA => rd_sel (fun c => !decide (c ∈ c2)) (SqL.of hsi) tsi (by have := i1c.few g; omega) nlA (fun v => rfl) (fun v => rfl) (fun j e v Hx Qx sx he te qx => ?_) fun Hj tl sij hlj htl => ?_⟩
      · exact ⟨_, rfl, _, rfl, e, oA, u2, c2, te, rfl, SqL.of (sx _ _ hoi), TupLs.same toi sx, i1c.ok g e (List.mem_of_getElem? he), i2c.ok g, _, rfl, qx Hx (Same.refl _)⟩
      replace htl : TupLs K Hj tl (subL cs c2) := htl
      have sgj := sgi.trans sij
      have scj := scg.trans sgj
      have k1j := k1g.same sgj
      have k2j := k2g.same sgj
      have hbj := sij _ _ hbi
      have tbj := TupLs.same tbi sij
      have ty2 : ∀ {Hx}, Same Hj Hx → TyX K Hx (.ref x2) (.ref CC) := fun {Hx} sx => ty_ctr (k2j.same sx) M.cl.cl M.tt M.ct
      have sel1 := selC_in g cs
      have sel2 := selC_in g c2
      -- one + other, one - other
      refine ⟨_, rfl, _, rfl, x1, dx1, _, rfl, k1j.ins, ty2 (Same.refl _), x1, dx1, y1, B1, x2, dx2, y2, B2, _, _, _, rfl, k1j, k2j, g, sel1, sel2, fun Hk x3 dx3 B3 sjk nx3 nB3 k3 => ⟨⟨_, rfl⟩, ?_⟩⟩
      rw [selC_add] at k3
      refine ⟨_, rfl, _, rfl, x3, dx3, y1, B3, r, dp, ex, pls, ls, b, es, bA', ub, addL cs c2, rfl, k3, hc.same (scj.trans sjk), D, Gd, SqL.of (sjk _ _ hbj), TupLs.same tbj sjk, iB', fun Hl skl => ⟨_, rfl, iteF ?_⟩⟩
      have sjl := sjk.trans skl
      refine ⟨_, rfl, _, rfl, x1, dx1, _, rfl, (k1j.same sjl).ins, ty2 sjl, x1, dx1, y1, B1, x2, dx2, y2, B2, _, _, _, rfl, k1j.same sjl, k2j.same sjl, g, sel1, sel2, fun Hm x4 dx4 B4 slm nx4 nB4 k4 => ⟨⟨_, rfl⟩, ?_⟩⟩
      rw [selC_sub] at k4
      have sjm := sjl.trans slm
      refine ⟨_, rfl, _, rfl, x4, dx4, y1, B4, r, dp, ex, pls, ls, b, es, lA, tl, subL cs c2, rfl, k4, hc.same (scj.trans sjm), D, Gd, SqL.of (sjm _ _ hlj), TupLs.same htl sjm, iL', fun Hn smn => ⟨_, rfl, iteNF ?_⟩⟩
      have sjn := sjm.trans smn
      -- kept = one; one += other
      have k1n := k1j.same sjn
      have k2n := k2j.same sjn
      refine ⟨_, rfl, _, rfl, _, rfl, x1, dx1, _, rfl, k1n.ins, ty2 sjn, x1, dx1, y1, B1, x2, dx2, y2, B2, _, _, _, rfl, k1n, k2n, g, sel1, sel2, fun Ho x5 dx5 B5 sno nx5 nB5 k5 => ⟨⟨_, rfl⟩, ?_⟩⟩
      rw [selC_add] at k5
      have sjo := sjn.trans sno
      have sco := scj.trans sjo
      refine ⟨_, rfl, _, rfl, _, rfl, x5, dx5, y1, B5, r, dp, ex, pls, ls, b, es, bA', ub, addL cs c2, rfl, k5, hc.same sco, D, Gd, SqL.of (sjo _ _ hbj), TupLs.same tbj sjo, iB', fun Hp' sop => ⟨_, rfl, iteF ?_⟩⟩
      have sjp := sjo.trans sop
      have scp := scj.trans sjp
      refine ⟨_, rfl, _, rfl, _, rfl, x1, dx1, y1, B1, r, dp, ex, pls, ls, b, es, sA, us1, cs, rfl, k1j.same sjp, hc.same scp, D, Gd, SqL.of (scp _ _ hsc), TupLs.same tsc scp, i1c, fun Hq spq => ⟨_, rfl, iteNF ?_⟩⟩
      have sjq := sjp.trans spq
      have k5q := k5.same (sop.trans spq)
      -- one -= other
      refine ⟨_, rfl, _, rfl, x5, dx5, _, rfl, k5q.ins, ty2 sjq, x5, dx5, y1, B5, x2, dx2, y2, B2, _, _, _, rfl, k5q, k2j.same sjq, g, selC_in g _, sel2, fun Hr x6 dx6 B6' sqr nx6 nB6' k6 => ⟨⟨_, rfl⟩, ?_⟩⟩
      rw [sub_add] at k6
      have sjr := sjq.trans sqr
      have scr := scj.trans sjr
      refine ⟨_, rfl, _, rfl, _, rfl, x6, dx6, y1, B6', r, dp, ex, pls, ls, b, es, lA, tl, subL cs c2, rfl, k6, hc.same scr, D, Gd, SqL.of (sjr _ _ hlj), TupLs.same htl sjr, iL', fun Hs srs => ⟨_, rfl, iteF ?_⟩⟩
      have sjs := sjr.trans srs
      have scs := scj.trans sjs
      have k6s := k6.same srs
      have k1s := k1j.same sjs
      refine ⟨_, rfl, _, rfl, x6, dx6, _, _, rfl, k6s.ins, ty_ctr k1s M.cl.cl M.tt M.ct, M.nfC, x6, dx6, y1, B6', _, _, .ref x1, rfl, k6s, g, (selC_in g _).ok g, .inl ⟨x1, dx1, y1, B1, _, _, rfl, k1s, g, sel1.ok g, _, rfl, ?_⟩⟩
      refine ⟨_, rfl, lA, _, rfl, .inl (SqL.of (sjs _ _ hlj)), _, rfl, sA, _, rfl, .inl (SqL.of (scs _ _ hsc)), rfl, rfl, _, rfl, ?_⟩
      rw [g.eqr, Bool.true_and, eq_left g i1c c2, Paired.length htl, Paired.length tsc, decide_eq_true rfl]
      refine iteF ?_
      -- one == 5
      refine ⟨_, rfl, x6, dx6, _, _, rfl, k6s.ins, .base (.int 5), M.nfI, x6, dx6, y1, B6', _, _, .int 5, rfl, k6s, g, (selC_in g _).ok g, .inr ⟨_, .base (.int 5), M.isI, _, rfl, _, rfl, iteF ?_⟩⟩
      -- everything
      refine ⟨rfl, _, rfl, y, dy, L, S, F, _, rfl, prc.same scs, g, fun Ht x7 dx7 B7' sst nx7 nB7' k7 => ?_⟩
      have sct := scs.trans sst
      refine ⟨_, rfl, _, rfl, x7, dx7, y, B7', r, dp, ex, pls, ls, b, es, eA, us, allC (pdOf ls b es), rfl, k7, hc.same sct, D, Gd, SqL.of (sct _ _ hEc), TupLs.same husc sct, ⟨fun c hc => hc, g.nd⟩, fun Hu stu => ⟨_, rfl, iteNF ?_⟩⟩
      have scu := sct.trans stu
      -- ways, odd values
      refine ⟨_, rfl, _, rfl, r, dp, ex, y, dy, L, S, F, pls, ls, b, es, rfl, hc.same scu, D, Gd, prc.same scu, fun Hv suv => ⟨_, rfl, iteF ?_⟩⟩
      have scv := scu.trans suv
      have k1v := k1s.same (sst.trans (stu.trans suv))
      refine ⟨_, rfl, _, rfl, y, dy, L, S, F, x1, dx1, y1, B1, pls, ls, b, es, _, rfl, prc.same scv, D, Gd, k1v, sel1, fun Hw svw => ⟨_, rfl, iteNF ?_⟩⟩
      have scw := scv.trans svw
      have k1w := k1v.same svw
      -- kept.listed().append(..)
      refine ⟨_, rfl, x1, dx1, _, rfl, k1w.ins, rfl, x1, dx1, y1, B1, _, _, rfl, k1w, fun pz Hx uz npz swx onlyz hpz tz => ?_⟩
      refine ⟨.inl ⟨rfl, _, SqL.of hpz⟩, by show 1 ≤ sizeLine; decide, fun tq ntq => ?_⟩
      have sxy := sm (o := .tup [.str "runs"]) ntq
      have hpy := sxy _ _ hpz
      refine ⟨pz, _, _, rfl, rfl, hpy, small1000 (by rw [Paired.length tz]; have := sel1.few g; omega), ?_⟩
      have sZ : Same Hw (upd (upd Hx tq (.tup [.str "runs"])) pz (.lst (uz ++ [.ref tq]))) := fun c o e => by
        rw [upd_ne (ne_of_none e npz)]
        exact sxy _ _ (swx _ _ e)
      generalize upd (upd Hx tq (.tup [.str "runs"])) pz (.lst (uz ++ [.ref tq])) = Hz at sZ
      have scz := scw.trans sZ
      refine ⟨_, rfl, _, rfl, _, rfl, x1, dx1, y1, B1, r, dp, ex, pls, ls, b, es, sA, us1, cs, rfl, k1w.same sZ, hc.same scz, D, Gd, SqL.of (scz _ _ hsc), TupLs.same tsc scz, i1c, fun HH sH => ⟨_, rfl, iteNF ?_⟩⟩
      exact ⟨_, _, _, _, _, _, _, _, _, _, _, _, rfl, s0c.trans (scz.trans sH)⟩
    · rintro σ H' ⟨v1, v2, v3, v4, v5, v6, v7, v8, v9, v10, v11, v12, rfl, s0⟩
      exact k _
end
end LC




set_option Elab.async false
set_option linter.all false
set_option maxRecDepth 100000
set_option maxHeartbeats 4000000
/-! repr of data; promises of defs that are called where no repr is under way. -/
namespace RP
open PySem PySem.Spec PyProof.Rows L2
/-- as FnOk, where no repr is under way -/
structure FnG (P : Program) (w : World) (K : PySem.W.Frag) (mg : Str → Option Value) (base : Heap) (CX : CXT) (k : Nat) (f : Addr) (fd : FuncData) (ps : List Str) (sp : Sp) : Prop where
  len : ∀ vs H Q E, sp vs H Q E → vs.length = ps.length
  run : ∀ (A : Around) (outer : List Env) (s : Shared) (H : Hp) (args : Args) (us : List Value) (vs : List V) (Q : VK) (E : XK), A.guards = some [] → Room k A → Env0 P w K mg base A outer s H → BindsTo s fd args (ps.zip us) → Vals vs us → sp vs H Q E → codeAny (model P w) A (.call (.ref f) args) (CR CX outer P w H s Q E) s
section
variable {X : Cx} {CX : CXT} {k : Nat} {f C : Addr} {fd : FuncData} {ps : List Str} {sp : Sp} {E : XK} {x : Str} {p pos : Pos} {e : Expr} {es : List Expr} {t : TA}
/-- x(e, ..) -/
theorem pe_callG (F : FnG X.prog X.w X.K X.mg X.base CX k f fd ps sp) (gu : X.A.guards = some []) (hr : Room k X.A) (hg : Gl X x) (hm : X.mg x = some (.ref f)) (hk : PySem.W.keepIn X.K (.ref f) = true) (hb : Binds X.K fd ps []) (hx : Passes CX X E) (ha : PA X (e :: es) t) (hdb : (x == ("__debug__" : Str)) = false := by decide)
    (he : starEach (e :: es) X.env = (false, eval e X.env) :: starEach es X.env := by rfl) (hpl : (backTo pos (starEach es X.env)).any (·.1) = false := by rfl) : PE X (.Call (.Name x p) (e :: es) [] pos) (tCall sp [] E t) := by
  refine ⟨fun pins s σ H Q I h => wpAny_Call_Name_kw (ld_glob I hg hm (PySem.W.callWith_K (h₀ := X.base) I.ok.mod.kin hk (thn (ha.run pos pins s σ H _ I h) fun us s1 ⟨vs, H1, I1, r, q⟩ => ⟨I1.kIn, ?_⟩) he hpl) hdb)⟩
  have q' : sp vs H1 Q E := by
    have z : sp (vs ++ []) H1 Q E := q
    rw [List.append_nil] at z
    exact z
  have hl : us.length = ps.length := by rw [← r.length]; exact F.len _ _ _ _ q'
  have b := hb s1 us I1.kIn (by rw [List.append_nil]; exact hl)
  rw [List.append_nil] at b
  refine wpAny_call (codeAny_mono (F.run X.A X.stack s1 H1 ⟨us, []⟩ us vs Q E gu hr I1.env0 b r q') fun r s' hq => ?_)
  cases r with
  | error e => exact hx pins σ H1 s1 e s' I1 hq
  | ok fl =>
    cases fl with
    | ret u => exact I1.after hq
    | next => exact False.elim hq
    | brk => exact False.elim hq
    | cont => exact False.elim hq
end
section
variable {P : Program} {w : World} {K : PySem.W.Frag} {mg : Str → Option Value} {base : Heap}
/-- a body's walk to such a promise -/
theorem okG {x qual : Str} {st : Stmt} {f : Addr} {fd : FuncData} {N ps : List Str} {k : Nat} {sp : Sp} (F : Fun K x qual st f fd) (S : FnScope N ps (defScope st)) (len : ∀ vs H Q E, sp vs H Q E → vs.length = ps.length)
    (hbody : ∀ (cdv : Value) (A : Around) (outer : List Env) (s : Shared) (H : Hp) (vs : List V) (Q : VK) (E : XK), (A.deeper (envOfC qual (defScope st) s.heap.objs.size f cdv)).guards = some [] → Room k (A.deeper (envOfC qual (defScope st) s.heap.objs.size f cdv)) → sp vs H Q E →
      ∃ t, PSs (cxOf CX0 P w K mg base N qual (defScope st) f cdv A outer s H E).nox (defBody st) t ∧ t { nx := fun _ H' => Q .non H', rt := Q } (start N vs) H) : FnG P w K mg base CX0 (k + 1) f fd ps sp := by
  obtain ⟨oc, od, kV, doc, pm, an, cdv, ct, osl, rfl, lk, hcd⟩ := F.ex
  refine ⟨len, fun A outer s H args us vs Q E hgu hr e0 hb r hsp => ?_⟩
  have dg : ∀ env, (A.deeper env).guards = some [] := fun env => by
    unfold Around.deeper
    rw [← hgu]
  refine StX.run_bnd lk hcd S hr e0 (G := fun xs H2 => xs = vs ∧ H2 = H) (fun A' Ex Q' h => hb _ _ _ _ (h s H vs us e0 (Un.kept fun _ _ z => z) rfl (fun _ _ z => z) r (len _ _ _ _ hsp) ⟨rfl, rfl⟩)) fun s2 H2 xs ⟨e1, e2⟩ hr' => ?_
  subst e1 e2
  obtain ⟨t, h, q⟩ := hbody cdv A outer s2 _ _ Q E (dg _) hr' hsp
  exact ⟨t, h.nox, q⟩
end
section
variable {X : Cx}
def rRepr (K : PySem.W.Frag) : List V → Hp → VK → Prop := fun xs H Q => ∃ v d, xs = [v] ∧ Dp K H v d ∧ d.showable = true ∧ d.hasDict = false ∧ d.depth ≤ 8 ∧ d.shown.length ≤ sizeLine ∧ Q (.str d.shown) H
theorem call_repr (gu : X.A.guards = some []) (hu : X.A.units + 64 < cLine) : CallR X (.builtin "repr") (rRepr X.K) := by
  intro pins s σ H xs us Q I r h
  obtain ⟨v, d, rfl, hv, hs, hnd, hdp, hz, q⟩ := h
  obtain ⟨u, rfl, ru⟩ : ∃ u, us = [u] ∧ RelV v u := by
    cases r with
    | cons a b => cases b; exact ⟨_, rfl, a⟩
  have fin : ∀ h' t tk, (∀ b o, s.heap.get? b = some o → h'.get? b = some o) → EP X pins σ Q (.str d.shown t) { s with heap := h', toks := tk } := fun h' t tk hk => ⟨.str d.shown, H, I.kept hk, ⟨t, rfl⟩, q⟩
  have dat : ∀ a, u = .ref a → wpAny (model X.prog X.w) X.A (call (.builtin "repr") [u]) (EP X pins σ Q) X.xe s := fun a e => by
    obtain ⟨as, rd⟩ := Dp.reads I d v u hv ru
    subst e
    exact repr_of_reads' rd hs (PyData.noDict_hsm hnd) gu (by omega) (fun _ _ z => z) fin hz
  cases hv with
  | non =>
    obtain rfl : u = Value.none := ru
    exact PySem.P.repr_of_none (fin _ _ _ fun _ _ z => z)
  | bl b =>
    obtain rfl : u = Value.bool b := ru
    exact PySem.P.repr_of_bool (fin _ _ _ fun _ _ z => z)
  | int i =>
    obtain ⟨t, rfl⟩ := ru
    exact PySem.P.repr_of_int (of_decide_eq_true hs) (fin _ _ _ fun _ _ z => z)
  | str x =>
    obtain ⟨t, rfl⟩ := ru
    exact PySem.P.repr_of_str (fin _ _ _ fun _ _ z => z) hz
  | @lst a _ _ _ _ => exact dat a ru
  | @tup a _ _ _ _ => exact dat a ru
end
end RP


set_option Elab.async false
set_option linter.all false
set_option maxRecDepth 100000
set_option maxHeartbeats 4000000
/-! a law's end where its promise wants that no repr is under way. -/
namespace RP
open PySem PySem.Spec PyProof.Rows L2
section
variable {P : Program} {w : World} {K : PySem.W.Frag} {mg mb : Str → Option Value} {s : Shared}
/-- the place of a law's call, the things of H set apart -/
theorem env_at {H : Hp} (KX : K.In s.heap) (hns : s.heap.Ns mainGlobals mg) (hb : s.heap.Ns builtinsNs mb) (hbb : ∀ x : Str, x ≠ "__name__" → mb x = bootBuiltins x) (hlim : s.heap.NoLimit) (hg : s.gens = #[])
    (apart : ∀ (b : Addr) (o : Obj), H b ≠ none → s.heap.get? b = some o → K.lookup b = none ∧ ∀ (es : Array DictEntry) (ep : Nat), o.data ≠ .dict es ep) (hok : HOk P w H s.heap) :
    K.In (hidT s.heap H) ∧ (hidT s.heap H).Ns mainGlobals mg ∧ Env0 P w K mg (hidT s.heap H) callerA [] s H := by
  have free : ∀ (b : Addr) (o : Obj), s.heap.get? b = some o → (H b ≠ none → False) → (hidT s.heap H).get? b = some o := fun b o e n => hidT_get e (Classical.not_not.mp n)
  have ns : ∀ {b : Addr} {m : Str → Option Value}, s.heap.Ns b m → (hidT s.heap H).Ns b m := by
    rintro b m ⟨o, es, ep, e, d, r⟩
    exact ⟨o, es, ep, free b o e fun z => (apart b o z e).2 es ep d, d, r⟩
  have kb : K.In (hidT s.heap H) := fun b o e => free b o (KX b o e) fun z => by
    have q := (apart b o z (KX b o e)).1
    rw [e] at q
    cases q
  obtain ⟨mc, l1, l2⟩ := hlim
  refine ⟨kb, ns hns, rfl, ⟨kb, ns hns, ⟨mb, ns hb, hbb⟩, ⟨mc, ns l1, l2⟩⟩, fun b o e => of_hidT e, Nat.le_of_eq (hidT_size _ _), trivial, fun b z => ?_, hok, .of_eq hg⟩
  exact absurd (show b ∈ ([] : List Addr) from z) List.not_mem_nil
/-- nothing but one frozen list is held -/
theorem call_G {k : Nat} {fa a : Addr} {fd : FuncData} {x : Str} {sp : Sp} {vs : List Value} {ns : List Int} (KX : K.In s.heap) (hns : s.heap.Ns mainGlobals mg) (hb : s.heap.Ns builtinsNs mb) (hbb : ∀ x : Str, x ≠ "__name__" → mb x = bootBuiltins x) (hlim : s.heap.NoLimit) (hg : s.gens = #[])
    (ha : s.heap.get? a = some { cls := .type "list", data := .seq vs.toArray }) (hi : IntsAre vs ns) (hl : ns.length ≤ sizeLine) (hr : Room k callerA)
    (F : ∀ base : Heap, K.In base → base.Ns mainGlobals mg → FnG P w K mg base CX0 k fa fd [x] sp) (hbind : ∀ (s : Shared) (u : Value), BindsTo s fd ⟨[u], []⟩ [(x, u)])
    (hsp : ∀ H : Hp, SqL K H a (ns.map V.int) → sp [.ref a] H (fun v _ => v = .bl true) fun _ _ _ => False) :
    codeAny (model P w) callerA (.call (.ref fa) ⟨[.ref a], []⟩) (fun r s' => r = .ok (.ret (.bool true)) ∧ OldK s.heap s'.heap ∧ s'.os = s.os ∧ AllBare s'.gens) s := by
  have rv := vals_ints hi
  have lenV := hi.length
  have pick : ∃ H : Hp, SqL K H a (ns.map V.int) ∧ HOk P w H s.heap ∧ (∀ (b : Addr) (o : Obj), H b ≠ none → s.heap.get? b = some o → K.lookup b = none ∧ ∀ (es : Array DictEntry) (ep : Nat), o.data ≠ .dict es ep) ∧ ∀ b u, H b = some u → ∃ ob xs, u = .frz ob (.lst xs) := by
    cases hk : K.lookup a with
    | some o =>
      have e := (KX a o hk).symm.trans ha
      injection e with e
      subst e
      exact ⟨fun _ => none, .inr ⟨_, vs.toArray, _, hk, rfl, rfl, rfl, by rw [List.size_toArray, lenV]; exact hl, by simpa using rv⟩, (fun b u z => nomatch z), fun b o z => absurd rfl z, fun b u z => nomatch z⟩
    | none =>
      let fz : HO := .frz { cls := .type "list", data := .seq vs.toArray } (.lst (ns.map V.int))
      have at_a : ∀ (b : Addr) (u : HO), (if b = a then some fz else none) = some u → b = a ∧ u = fz := fun b u z => by
        by_cases q : b = a
        · rw [if_pos q] at z
          exact ⟨q, (Option.some.inj z).symm⟩
        · rw [if_neg q] at z
          cases z
      refine ⟨fun b => if b = a then some fz else none, .inl (.inr ⟨_, if_pos rfl⟩), fun b u z => ?_, fun b o z e => ?_, fun b u z => ⟨_, _, (at_a b u z).2⟩⟩
      · obtain ⟨rfl, rfl⟩ := at_a b u z
        exact ⟨ha, by rw [List.length_map]; exact hl, vs, _, rv, ha⟩
      · have q : b = a := Classical.byContradiction fun q => z (if_neg q)
        subst q
        rw [ha] at e
        injection e with e
        subst e
        exact ⟨hk, fun es ep z => by cases z⟩
  obtain ⟨H, hS, hok, apart, frz⟩ := pick
  obtain ⟨kb, nb, e0⟩ := env_at (P := P) (w := w) KX hns hb hbb hlim hg apart hok
  refine codeAny_mono ((F _ kb nb).run callerA [] s H ⟨[.ref a], []⟩ [.ref a] [.ref a] _ _ rfl hr e0 (hbind s (.ref a)) (.cons rfl .nil) (hsp H hS)) ?_
  rintro (e | fl) s' h
  · exact False.elim h
  · cases fl with
    | next => exact False.elim h
    | brk => exact False.elim h
    | cont => exact False.elim h
    | ret u =>
      obtain ⟨v, H', os, bare, un, hok', r', q⟩ := h
      cases (show v = .bl true from q)
      cases (show u = Value.bool true from r')
      refine ⟨rfl, OldK.of_keep fun b o e => ?_, os, bare⟩
      cases hb' : H b with
      | none => exact un.keep b o e hb' (fun z => absurd (show b ∈ ([] : List Addr) from z) List.not_mem_nil) (by simp)
      | some u =>
        obtain ⟨ob, xs, rfl⟩ := frz b u hb'
        obtain ⟨e1, _⟩ := hok b _ hb'
        obtain ⟨e2, _⟩ := hok' b _ (un.frzs b ob _ hb')
        rw [e] at e1
        cases e1
        exact e2
end
theorem walk_G {l : PySem.W.OpenLaw} {n k : Nat} {q : Program} {loose : List Str} {XP : (Str → Option Value) → Heap → Prop} {YP : World → Heap → Prop} {d : DefRec} {K : Params → PySem.W.Frag} {sp : World → Sp} {x : Str} (hn : l.most = some n) (hn2 : n ≤ sizeLine) (hdf : d.params.defaults = []) (hr : Room k callerA)
    (hY : ∀ (w : World) (h : Heap), YP w h → (K w.params).In h)
    (F : ∀ (w : World) (mg : Str → Option Value) (fa : Addr) (h : Heap), (K w.params).In h → h.Ns mainGlobals mg → mg d.name = some (.ref fa) → ∃ fd : FuncData, (∀ (s : Shared) (u : Value), BindsTo s fd ⟨[u], []⟩ [(x, u)]) ∧ ∀ base : Heap, (K w.params).In base → base.Ns mainGlobals mg → FnG l.prog w (K w.params) mg base CX0 k fa fd [x] (sp w))
    (hsp : ∀ (w : World) (H : Hp) (a : Addr) (ns : List Int), ns.length ≤ n → SqL (K w.params) H a (ns.map V.int) → sp w [.ref a] H (fun v _ => v = .bl true) fun _ _ _ => False) : PySem.W.WalkO q loose XP YP l.row.toRowW d [] (fun f vs => PySem.call f vs) :=
  Att.attach_call hn hdf fun w _ _ mg _ fa _ _ _ _ a _ ns G Y _ _ _ hmg hobj hints hlen hg => by
    obtain ⟨fd, hb, hF⟩ := F w mg fa _ (hY w _ Y) G.T.g hmg
    exact call_G (hY w _ Y) G.T.g G.T.b G.T.builtins G.T.nolimit hg hobj hints (Nat.le_trans hlen hn2) hr hF hb fun H hS => hsp w H a ns hlen hS
end RP


set_option Elab.async false
set_option linter.all false
set_option maxRecDepth 100000
set_option maxHeartbeats 4000000
/-! heads whose compiled file does not grow with the program: facts of one's own, looked at behind one kernel run. -/
namespace HD
open PySem PySem.Spec PyProof.Rows L2
instance decCF : DecidableEq PySem.W.CFound
  | .val v, .val u => decidable_of_iff (v = u) ⟨fun h => by rw [h], fun h => by injection h⟩
  | .get a b c d, .get a' b' c' d' => decidable_of_iff (a = a' ∧ b = b' ∧ c = c' ∧ d = d') ⟨fun ⟨h1, h2, h3, h4⟩ => by rw [h1, h2, h3, h4], fun h => by injection h with h1 h2 h3 h4; exact ⟨h1, h2, h3, h4⟩⟩
  | .val _, .get _ _ _ _ => isFalse fun h => by cases h
  | .get _ _ _ _, .val _ => isFalse fun h => by cases h
abbrev Fact : Type := PySem.W.Frag → Bool
abbrev FnV : Type := Option (Str × Str × Arguments × FuncBody × Scope × Addr × List (Str × Addr) × Value × Addr)
structure FD where
  at_ : PySem.W.Frag → Addr
  name : Str
  qual : Str
  params : Arguments
  body : List Stmt
  scope : Scope
def FD.val (d : FD) : FnV := some (d.name, d.qual, d.params, .stmts d.body, d.scope, mainGlobals, [], .none, builtinsNs)
def fnAt (K : PySem.W.Frag) (a : Addr) : FnV := match K.lookup a with
  | some ⟨_, _, .func fd, _⟩ => some (fd.name, fd.qualname, fd.params, fd.body, fd.scope, fd.globals, fd.closure, fd.defaults, fd.builtins)
  | _ => none
def FD.ok (K : PySem.W.Frag) (d : FD) : Bool := match K.lookup (d.at_ K) with
  | some ⟨_, _, .func fd, _⟩ => PySem.W.codeIn K fd.code d.qual
  | _ => false
theorem fn_ok {K : PySem.W.Frag} {d : FD} (e : fnAt K (d.at_ K) = d.val) (c : d.ok K = true) :
    ∃ oc od osl kV doc pm an cdv ct, K.lookup (d.at_ K) = some ⟨oc, od, .func (PySem.W.fnOf d.name d.qual d.params d.body d.scope .none kV doc pm an cdv ct), osl⟩ ∧ PySem.W.codeIn K cdv d.qual = true := by
  have c2 : (match K.lookup (d.at_ K) with
    | some ⟨_, _, .func fd, _⟩ => PySem.W.codeIn K fd.code d.qual
    | _ => false) = true := c
  unfold fnAt at e
  cases q : K.lookup (d.at_ K) with
  | none =>
    rw [q] at c2
    cases c2
  | some o =>
    obtain ⟨oc, od, dt, osl⟩ := o
    rw [q] at c2 e
    cases dt with
    | func fd =>
      obtain ⟨n1, n2, n3, n4, n5, n6, n7, n8, n9, n10, n11, n12, n13, n14, n15⟩ := fd
      have e2 : (some (n1, n2, n3, n4, n5, n6, n7, n8, n15) : FnV) = some (d.name, d.qual, d.params, .stmts d.body, d.scope, mainGlobals, [], .none, builtinsNs) := e
      simp only [Option.some.injEq, Prod.mk.injEq] at e2
      obtain ⟨h1, h2, h3, h4, h5, h6, h7, h8, h9⟩ := e2
      subst h1 h2 h3 h4 h5 h6 h7 h8 h9
      exact ⟨oc, od, osl, n9, n10, n11, n12, n13, n14, rfl, c2⟩
    | _ => cases c2
/-- the first thing a descriptor holds, and the rest -/
def rec0 (K : PySem.W.Frag) (p : Addr) (T : String) : Addr := match PySem.W.recIn K p T with
  | some (.ref a :: _) => a
  | _ => 0
def recR (K : PySem.W.Frag) (p : Addr) (T : String) : List Value := match PySem.W.recIn K p T with
  | some (_ :: r) => r
  | _ => []
/-- a text, a number of the module -/
def strT (K : PySem.W.Frag) (x : Str) : Tok := match PySem.W.nsIn K mainGlobals x with
  | some (some (.str _ t)) => t
  | _ => default
def intT (K : PySem.W.Frag) (x : Str) : Tok := match PySem.W.nsIn K mainGlobals x with
  | some (some (.int _ t)) => t
  | _ => default
theorem tup1 {K : PySem.W.Frag} {x z : Str} (h : He.tupB K x [.str z] = true) : ∃ od t n sl, K.lookup (He.ga K x) = some ⟨.type "tuple", od, .seq #[.str z t] n, sl⟩ := by
  unfold He.tupB at h
  cases q : K.lookup (He.ga K x) with
  | none =>
    rw [q] at h
    cases h
  | some o =>
    obtain ⟨oc, od, dt, osl⟩ := o
    rw [q] at h
    cases oc with
    | type c =>
      cases dt with
      | seq its n =>
        obtain ⟨h1, h2⟩ := He.ba (show (decide (c = "tuple") && (decide (its.size ≤ sizeLine) && He.relAll ([He.Dv.str z].map (He.Dv.v K)) its.toList)) = true from h)
        obtain ⟨h3, h4⟩ := He.ba h2
        have e1 : c = "tuple" := of_decide_eq_true h1
        subst e1
        obtain ⟨l⟩ := its
        have h5 : He.relAll [V.str z] l = true := h4
        match l, h5 with
        | [u], h5 =>
          obtain ⟨h6, _⟩ := He.ba (show (He.relB (.str z) u && He.relAll [] []) = true from h5)
          obtain ⟨t, rfl⟩ := He.relB_ok h6
          exact ⟨od, t, n, osl, rfl⟩
        | [], h5 => cases h5
        | u :: u' :: r, h5 =>
          obtain ⟨_, h7⟩ := He.ba (show (He.relB (.str z) u && He.relAll [] (u' :: r)) = true from h5)
          cases h7
      | _ => cases h
    | _ => cases dt <;> cases h
/-- the object of a static method -/
def stO (K : PySem.W.Frag) (C : Addr) (x : Str) : Addr := match PySem.W.findCls K (.ref C) (.type "type") x with
  | some (.get _ (.ref p) _ _) => p
  | _ => 0
/-- a list gone through once -/
def frcL {α β : Type} : List α → (List α → β) → β
  | [], k => k []
  | a :: r, k => frcL r fun r' => k (a :: r')
theorem frcL_eq {α β : Type} : ∀ (l : List α) (k : List α → β), frcL l k = k l
  | [], _ => rfl
  | a :: r, k => by
    show frcL r (fun r' => k (a :: r')) = _
    rw [frcL_eq r]
abbrev Al : Type := Bool × List FnV
def obs (fa : List Fact) (fn : List FD) (K : PySem.W.Frag) : Al := ((fa.all fun f => f K) && fn.all fun d => d.ok K, fn.map fun d => fnAt K (d.at_ K))
def val (fn : List FD) : Al := (true, fn.map FD.val)
def Says (fa : List Fact) (fn : List FD) (K : PySem.W.Frag) : Prop := obs fa fn K = val fn
def obsG (n : Nat) (fa : List Fact) (fn : List FD) (g : Addr → Option Obj) : Al := frcL (He.frG g (PySem.cStatics :: He.asD g n)) fun K => obs fa fn K
def hook (n : Nat) (fa : List Fact) (fn : List FD) : PySem.W.Hook where
  α := Al
  obs := fun s => obsG n fa fn s.heap.get?
  val := fun _ => val fn
  says := fun _ h => ∃ K : PySem.W.Frag, K.In h ∧ Says fa fn K
  of := fun _ _ e => ⟨_, He.frG_in, (frcL_eq _ _).symm.trans e⟩
  keeps := fun _ _ _ ⟨K, hK, c⟩ k => ⟨K, PySem.W.Frag.In.keeps hK k, c⟩
theorem obsG_eq {n : Nat} {fa : List Fact} {fn : List FD} {g : Addr → Option Obj} {s : Shared} (h : ∀ a, g a = s.heap.get? a) : obsG n fa fn g = (hook n fa fn).obs s := by
  have e : g = s.heap.get? := funext h
  rw [e] <;> rfl
section
variable {fa : List Fact} {fn : List FD} {K : PySem.W.Frag}
theorem Says.fact (c : Says fa fn K) (i : Nat) {f : Fact} (h : fa[i]? = some f) : f K = true := by
  have c1 := (He.ba (show ((fa.all fun f => f K) && fn.all fun d => d.ok K) = true from congrArg (fun z : Al => z.1) c)).1
  exact List.all_eq_true.mp c1 f (List.mem_of_getElem? h)
theorem Says.def_ (c : Says fa fn K) (i : Nat) {d : FD} (h : fn[i]? = some d) :
    ∃ oc od osl kV doc pm an cdv ct, K.lookup (d.at_ K) = some ⟨oc, od, .func (PySem.W.fnOf d.name d.qual d.params d.body d.scope .none kV doc pm an cdv ct), osl⟩ ∧ PySem.W.codeIn K cdv d.qual = true := by
  have c2 := (He.ba (show ((fa.all fun f => f K) && fn.all fun d => d.ok K) = true from congrArg (fun z : Al => z.1) c)).2
  have e : fn.map (fun d => fnAt K (d.at_ K)) = fn.map FD.val := congrArg (fun z : Al => z.2) c
  have e2 : (fn.map fun d => fnAt K (d.at_ K))[i]? = (fn.map FD.val)[i]? := by rw [e]
  rw [List.getElem?_map, List.getElem?_map, h] at e2
  exact fn_ok (Option.some.inj e2) (List.all_eq_true.mp c2 d (List.mem_of_getElem? h))
end
end HD
namespace RP
open PySem PySem.Spec PyProof.Rows L2
theorem walk_GE {l : PySem.W.OpenLaw} {n k : Nat} {q : Program} {loose : List Str} {XP : (Str → Option Value) → Heap → Prop} {YP : World → Heap → Prop} {d : DefRec} {x : Str} (hn : l.most = some n) (hn2 : n ≤ sizeLine) (hdf : d.params.defaults = []) (hr : Room k callerA)
    (F : ∀ (w : World) (mg : Str → Option Value) (fa : Addr) (h : Heap), YP w h → h.Ns mainGlobals mg → mg d.name = some (.ref fa) → ∃ (K : PySem.W.Frag) (fd : FuncData) (sp : Sp), K.In h ∧ (∀ (s : Shared) (u : Value), BindsTo s fd ⟨[u], []⟩ [(x, u)]) ∧
      (∀ (H : Hp) (a : Addr) (ns : List Int), ns.length ≤ n → SqL K H a (ns.map V.int) → sp [.ref a] H (fun v _ => v = .bl true) fun _ _ _ => False) ∧ ∀ base : Heap, K.In base → base.Ns mainGlobals mg → FnG l.prog w K mg base CX0 k fa fd [x] sp) :
    PySem.W.WalkO q loose XP YP l.row.toRowW d [] (fun f vs => PySem.call f vs) :=
  Att.attach_call hn hdf fun w _ _ mg _ fa _ _ _ _ a _ ns G Y _ _ _ hmg hobj hints hlen hg => by
    obtain ⟨K, fd, sp, KX, hb, hsp, hF⟩ := F w mg fa _ Y G.T.g hmg
    exact call_G KX G.T.g G.T.b G.T.builtins G.T.nolimit hg hobj hints (Nat.le_trans hlen hn2) hr hF hb fun H hS => hsp H a ns hlen hS
end RP


set_option Elab.async false
set_option linter.all false
set_option maxRecDepth 100000
set_option maxHeartbeats 4000000
namespace K05
open PySem L2

theorem all_mk {l : PySem.W.OpenLaw} {w : World} {K : PySem.W.Frag} {h : Heap} {mg : Str → Option Value} {fa C D pB pP pnW pnE fwo fam fli fwa fex fre frq fac fto fkn fic frp fNu fPo fDr fOp fWo fNa fPr fMa fPl fAl fSo fSe fLs fRi fWr fOd fLA fmI fmW fmP fmE fmG fmH fmQ fmB fnI fnL fnN fnH fnA fnU fnS fnV fnQ fnP fnW fnE : Addr} {tL tM tW tRu : Tok} {aR : Addr} {odR : Option Addr} {slR : Array (Option Value)} {nR : Nat} {restpB restpP restnW restnE : List Value} (X : K.In h) (G : h.Ns mainGlobals mg) (hfa : mg "law" = some (.ref fa))
    {odwo anwo odam anam odli anli odwa anwa odex anex odre anre odrq anrq odac anac odto anto odkn ankn odic anic odrp anrp odNu anNu odPo anPo odDr anDr odOp anOp odWo anWo odNa anNa odPr anPr odMa anMa odPl anPl odAl anAl odSo anSo odSe anSe odLs anLs odRi anRi odWr anWr odOd anOd odLA anLA odmI anmI odmW anmW odmP anmP odmE anmE odmG anmG odmH anmH odmQ anmQ odmB anmB odnI annI odnL annL odnN annN odnH annH odnA annA odnU annU odnS annS odnV annV odnQ annQ odnP annP odnW annW odnE annE : Option Addr} {slwo slam slli slwa slex slre slrq slac slto slkn slic slrp slNu slPo slDr slOp slWo slNa slPr slMa slPl slAl slSo slSe slLs slRi slWr slOd slLA slmI slmW slmP slmE slmG slmH slmQ slmB slnI slnL slnN slnH slnA slnU slnS slnV slnQ slnP slnW slnE : Array (Option Value)} {ocwo kVwo dcwo pmwo cdwo ctwo ocam kVam dcam pmam cdam ctam ocli kVli dcli pmli cdli ctli ocwa kVwa dcwa pmwa cdwa ctwa ocex kVex dcex pmex cdex ctex ocre kVre dcre pmre cdre ctre ocrq kVrq dcrq pmrq cdrq ctrq ocac kVac dcac pmac cdac ctac octo kVto dcto pmto cdto ctto ockn kVkn dckn pmkn cdkn ctkn ocic kVic dcic pmic cdic ctic ocrp kVrp dcrp pmrp cdrp ctrp ocNu kVNu dcNu pmNu cdNu ctNu ocPo kVPo dcPo pmPo cdPo ctPo ocDr kVDr dcDr pmDr cdDr ctDr ocOp kVOp dcOp pmOp cdOp ctOp ocWo kVWo dcWo pmWo cdWo ctWo ocNa kVNa dcNa pmNa cdNa ctNa ocPr kVPr dcPr pmPr cdPr ctPr ocMa kVMa dcMa pmMa cdMa ctMa ocPl kVPl dcPl pmPl cdPl ctPl ocAl kVAl dcAl pmAl cdAl ctAl ocSo kVSo dcSo pmSo cdSo ctSo ocSe kVSe dcSe pmSe cdSe ctSe ocLs kVLs dcLs pmLs cdLs ctLs ocRi kVRi dcRi pmRi cdRi ctRi ocWr kVWr dcWr pmWr cdWr ctWr ocOd kVOd dcOd pmOd cdOd ctOd ocLA kVLA dcLA pmLA cdLA ctLA ocmI kVmI dcmI pmmI cdmI ctmI ocmW kVmW dcmW pmmW cdmW ctmW ocmP kVmP dcmP pmmP cdmP ctmP ocmE kVmE dcmE pmmE cdmE ctmE ocmG kVmG dcmG pmmG cdmG ctmG ocmH kVmH dcmH pmmH cdmH ctmH ocmQ kVmQ dcmQ pmmQ cdmQ ctmQ ocmB kVmB dcmB pmmB cdmB ctmB ocnI kVnI dcnI pmnI cdnI ctnI ocnL kVnL dcnL pmnL cdnL ctnL ocnN kVnN dcnN pmnN cdnN ctnN ocnH kVnH dcnH pmnH cdnH ctnH ocnA kVnA dcnA pmnA cdnA ctnA ocnU kVnU dcnU pmnU cdnU ctnU ocnS kVnS dcnS pmnS cdnS ctnS ocnV kVnV dcnV pmnV cdnV ctnV ocnQ kVnQ dcnQ pmnQ cdnQ ctnQ ocnP kVnP dcnP pmnP cdnP ctnP ocnW kVnW dcnW pmnW cdnW ctnW ocnE kVnE dcnE pmnE cdnE ctnE : Value}
    (aC : PySem.W.nsIn K mainGlobals "Program" = some (some (.ref C)))
    (aD : PySem.W.nsIn K mainGlobals "Counters" = some (some (.ref D)))
    (awo : PySem.W.nsIn K mainGlobals "is_word" = some (some (.ref fwo)))
    (lwo : K.lookup fwo = some ⟨ocwo, odwo, .func (PySem.W.fnOf "is_word" "is_word" (defArgs PG.sWord) (defBody PG.sWord) (defScope PG.sWord) .none kVwo dcwo pmwo anwo cdwo ctwo), slwo⟩)
    (cwo : PySem.W.codeIn K cdwo "is_word" = true)
    (kwo : PySem.W.keepIn K (.ref fwo) = true)
    (aam : PySem.W.nsIn K mainGlobals "is_among" = some (some (.ref fam)))
    (lam : K.lookup fam = some ⟨ocam, odam, .func (PySem.W.fnOf "is_among" "is_among" (defArgs PG.sAmong) (defBody PG.sAmong) (defScope PG.sAmong) .none kVam dcam pmam anam cdam ctam), slam⟩)
    (cam : PySem.W.codeIn K cdam "is_among" = true)
    (kam : PySem.W.keepIn K (.ref fam) = true)
    (ali : PySem.W.nsIn K mainGlobals "is_link" = some (some (.ref fli)))
    (lli : K.lookup fli = some ⟨ocli, odli, .func (PySem.W.fnOf "is_link" "is_link" (defArgs PG.sLink) (defBody PG.sLink) (defScope PG.sLink) .none kVli dcli pmli anli cdli ctli), slli⟩)
    (cli : PySem.W.codeIn K cdli "is_link" = true)
    (kli : PySem.W.keepIn K (.ref fli) = true)
    (awa : PySem.W.nsIn K mainGlobals "are_ways" = some (some (.ref fwa)))
    (lwa : K.lookup fwa = some ⟨ocwa, odwa, .func (PySem.W.fnOf "are_ways" "are_ways" (defArgs PG.sWays) (defBody PG.sWays) (defScope PG.sWays) .none kVwa dcwa pmwa anwa cdwa ctwa), slwa⟩)
    (cwa : PySem.W.codeIn K cdwa "are_ways" = true)
    (kwa : PySem.W.keepIn K (.ref fwa) = true)
    (aex : PySem.W.nsIn K mainGlobals "are_exits" = some (some (.ref fex)))
    (lex : K.lookup fex = some ⟨ocex, odex, .func (PySem.W.fnOf "are_exits" "are_exits" (defArgs PG.sExits) (defBody PG.sExits) (defScope PG.sExits) .none kVex dcex pmex anex cdex ctex), slex⟩)
    (cex : PySem.W.codeIn K cdex "are_exits" = true)
    (kex : PySem.W.keepIn K (.ref fex) = true)
    (are : PySem.W.nsIn K mainGlobals "reached_from" = some (some (.ref fre)))
    (lre : K.lookup fre = some ⟨ocre, odre, .func (PySem.W.fnOf "reached_from" "reached_from" (defArgs PG.sReach) (defBody PG.sReach) (defScope PG.sReach) .none kVre dcre pmre anre cdre ctre), slre⟩)
    (cre : PySem.W.codeIn K cdre "reached_from" = true)
    (kre : PySem.W.keepIn K (.ref fre) = true)
    (arq : PySem.W.nsIn K mainGlobals "require_program" = some (some (.ref frq)))
    (lrq : K.lookup frq = some ⟨ocrq, odrq, .func (PySem.W.fnOf "require_program" "require_program" (defArgs CT.sReq) (defBody CT.sReq) (defScope CT.sReq) .none kVrq dcrq pmrq anrq cdrq ctrq), slrq⟩)
    (crq : PySem.W.codeIn K cdrq "require_program" = true)
    (krq : PySem.W.keepIn K (.ref frq) = true)
    (aac : PySem.W.nsIn K mainGlobals "all_counters" = some (some (.ref fac)))
    (lac : K.lookup fac = some ⟨ocac, odac, .func (PySem.W.fnOf "all_counters" "all_counters" (defArgs CT.sAll) (defBody CT.sAll) (defScope CT.sAll) .none kVac dcac pmac anac cdac ctac), slac⟩)
    (cac : PySem.W.codeIn K cdac "all_counters" = true)
    (kac : PySem.W.keepIn K (.ref fac) = true)
    (ato : PySem.W.nsIn K mainGlobals "is_tuple_of_texts" = some (some (.ref fto)))
    (lto : K.lookup fto = some ⟨octo, odto, .func (PySem.W.fnOf "is_tuple_of_texts" "is_tuple_of_texts" (defArgs CT.sTot) (defBody CT.sTot) (defScope CT.sTot) .none kVto dcto pmto anto cdto ctto), slto⟩)
    (cto : PySem.W.codeIn K cdto "is_tuple_of_texts" = true)
    (kto : PySem.W.keepIn K (.ref fto) = true)
    (akn : PySem.W.nsIn K mainGlobals "is_known" = some (some (.ref fkn)))
    (lkn : K.lookup fkn = some ⟨ockn, odkn, .func (PySem.W.fnOf "is_known" "is_known" (defArgs CT.sKnown) (defBody CT.sKnown) (defScope CT.sKnown) .none kVkn dckn pmkn ankn cdkn ctkn), slkn⟩)
    (ckn : PySem.W.codeIn K cdkn "is_known" = true)
    (kkn : PySem.W.keepIn K (.ref fkn) = true)
    (aic : PySem.W.nsIn K mainGlobals "is_counter" = some (some (.ref fic)))
    (lic : K.lookup fic = some ⟨ocic, odic, .func (PySem.W.fnOf "is_counter" "is_counter" (defArgs CT.sIsC) (defBody CT.sIsC) (defScope CT.sIsC) .none kVic dcic pmic anic cdic ctic), slic⟩)
    (cic : PySem.W.codeIn K cdic "is_counter" = true)
    (kic : PySem.W.keepIn K (.ref fic) = true)
    (arp : PySem.W.nsIn K mainGlobals "require_partner" = some (some (.ref frp)))
    (lrp : K.lookup frp = some ⟨ocrp, odrp, .func (PySem.W.fnOf "require_partner" "require_partner" (defArgs CT.sPart) (defBody CT.sPart) (defScope CT.sPart) .none kVrp dcrp pmrp anrp cdrp ctrp), slrp⟩)
    (crp : PySem.W.codeIn K cdrp "require_partner" = true)
    (krp : PySem.W.keepIn K (.ref frp) = true)
    (aNu : PySem.W.nsIn K mainGlobals "_law_numbers" = some (some (.ref fNu)))
    (lNu : K.lookup fNu = some ⟨ocNu, odNu, .func (PySem.W.fnOf "_law_numbers" "_law_numbers" (defArgs LH.sNum) (defBody LH.sNum) (defScope LH.sNum) .none kVNu dcNu pmNu anNu cdNu ctNu), slNu⟩)
    (cNu : PySem.W.codeIn K cdNu "_law_numbers" = true)
    (kNu : PySem.W.keepIn K (.ref fNu) = true)
    (aPo : PySem.W.nsIn K mainGlobals "_law_pool" = some (some (.ref fPo)))
    (lPo : K.lookup fPo = some ⟨ocPo, odPo, .func (PySem.W.fnOf "_law_pool" "_law_pool" (defArgs LH.sPool) (defBody LH.sPool) (defScope LH.sPool) .none kVPo dcPo pmPo anPo cdPo ctPo), slPo⟩)
    (cPo : PySem.W.codeIn K cdPo "_law_pool" = true)
    (kPo : PySem.W.keepIn K (.ref fPo) = true)
    (aDr : PySem.W.nsIn K mainGlobals "_law_draw" = some (some (.ref fDr)))
    (lDr : K.lookup fDr = some ⟨ocDr, odDr, .func (PySem.W.fnOf "_law_draw" "_law_draw" (defArgs LH.sDraw) (defBody LH.sDraw) (defScope LH.sDraw) .none kVDr dcDr pmDr anDr cdDr ctDr), slDr⟩)
    (cDr : PySem.W.codeIn K cdDr "_law_draw" = true)
    (kDr : PySem.W.keepIn K (.ref fDr) = true)
    (aOp : PySem.W.nsIn K mainGlobals "_law_opened" = some (some (.ref fOp)))
    (lOp : K.lookup fOp = some ⟨ocOp, odOp, .func (PySem.W.fnOf "_law_opened" "_law_opened" (defArgs LH.sOpen) (defBody LH.sOpen) (defScope LH.sOpen) .none kVOp dcOp pmOp anOp cdOp ctOp), slOp⟩)
    (cOp : PySem.W.codeIn K cdOp "_law_opened" = true)
    (kOp : PySem.W.keepIn K (.ref fOp) = true)
    (aWo : PySem.W.nsIn K mainGlobals "_law_words" = some (some (.ref fWo)))
    (lWo : K.lookup fWo = some ⟨ocWo, odWo, .func (PySem.W.fnOf "_law_words" "_law_words" (defArgs LW.sWords) (defBody LW.sWords) (defScope LW.sWords) .none kVWo dcWo pmWo anWo cdWo ctWo), slWo⟩)
    (cWo : PySem.W.codeIn K cdWo "_law_words" = true)
    (kWo : PySem.W.keepIn K (.ref fWo) = true)
    (aNa : PySem.W.nsIn K mainGlobals "_law_names" = some (some (.ref fNa)))
    (lNa : K.lookup fNa = some ⟨ocNa, odNa, .func (PySem.W.fnOf "_law_names" "_law_names" (defArgs LW.sNames) (defBody LW.sNames) (defScope LW.sNames) .none kVNa dcNa pmNa anNa cdNa ctNa), slNa⟩)
    (cNa : PySem.W.codeIn K cdNa "_law_names" = true)
    (kNa : PySem.W.keepIn K (.ref fNa) = true)
    (aPr : PySem.W.nsIn K mainGlobals "_law_program" = some (some (.ref fPr)))
    (lPr : K.lookup fPr = some ⟨ocPr, odPr, .func (PySem.W.fnOf "_law_program" "_law_program" (defArgs LW.sProgram) (defBody LW.sProgram) (defScope LW.sProgram) .none kVPr dcPr pmPr anPr cdPr ctPr), slPr⟩)
    (cPr : PySem.W.codeIn K cdPr "_law_program" = true)
    (kPr : PySem.W.keepIn K (.ref fPr) = true)
    (aMa : PySem.W.nsIn K mainGlobals "_law_made" = some (some (.ref fMa)))
    (lMa : K.lookup fMa = some ⟨ocMa, odMa, .func (PySem.W.fnOf "_law_made" "_law_made" (defArgs LW.sMade) (defBody LW.sMade) (defScope LW.sMade) .none kVMa dcMa pmMa anMa cdMa ctMa), slMa⟩)
    (cMa : PySem.W.codeIn K cdMa "_law_made" = true)
    (kMa : PySem.W.keepIn K (.ref fMa) = true)
    (aPl : PySem.W.nsIn K mainGlobals "_law_places" = some (some (.ref fPl)))
    (lPl : K.lookup fPl = some ⟨ocPl, odPl, .func (PySem.W.fnOf "_law_places" "_law_places" (defArgs LW.sLPlaces) (defBody LW.sLPlaces) (defScope LW.sLPlaces) .none kVPl dcPl pmPl anPl cdPl ctPl), slPl⟩)
    (cPl : PySem.W.codeIn K cdPl "_law_places" = true)
    (kPl : PySem.W.keepIn K (.ref fPl) = true)
    (aAl : PySem.W.nsIn K mainGlobals "_law_all" = some (some (.ref fAl)))
    (lAl : K.lookup fAl = some ⟨ocAl, odAl, .func (PySem.W.fnOf "_law_all" "_law_all" (defArgs LC.sLAll) (defBody LC.sLAll) (defScope LC.sLAll) .none kVAl dcAl pmAl anAl cdAl ctAl), slAl⟩)
    (cAl : PySem.W.codeIn K cdAl "_law_all" = true)
    (kAl : PySem.W.keepIn K (.ref fAl) = true)
    (aSo : PySem.W.nsIn K mainGlobals "_law_some" = some (some (.ref fSo)))
    (lSo : K.lookup fSo = some ⟨ocSo, odSo, .func (PySem.W.fnOf "_law_some" "_law_some" (defArgs LC.sSome) (defBody LC.sSome) (defScope LC.sSome) .none kVSo dcSo pmSo anSo cdSo ctSo), slSo⟩)
    (cSo : PySem.W.codeIn K cdSo "_law_some" = true)
    (kSo : PySem.W.keepIn K (.ref fSo) = true)
    (aSe : PySem.W.nsIn K mainGlobals "_law_set" = some (some (.ref fSe)))
    (lSe : K.lookup fSe = some ⟨ocSe, odSe, .func (PySem.W.fnOf "_law_set" "_law_set" (defArgs LC.sSet) (defBody LC.sSet) (defScope LC.sSet) .none kVSe dcSe pmSe anSe cdSe ctSe), slSe⟩)
    (cSe : PySem.W.codeIn K cdSe "_law_set" = true)
    (kSe : PySem.W.keepIn K (.ref fSe) = true)
    (aLs : PySem.W.nsIn K mainGlobals "_law_listed" = some (some (.ref fLs)))
    (lLs : K.lookup fLs = some ⟨ocLs, odLs, .func (PySem.W.fnOf "_law_listed" "_law_listed" (defArgs LC.sLListed) (defBody LC.sLListed) (defScope LC.sLListed) .none kVLs dcLs pmLs anLs cdLs ctLs), slLs⟩)
    (cLs : PySem.W.codeIn K cdLs "_law_listed" = true)
    (kLs : PySem.W.keepIn K (.ref fLs) = true)
    (aRi : PySem.W.nsIn K mainGlobals "_law_right" = some (some (.ref fRi)))
    (lRi : K.lookup fRi = some ⟨ocRi, odRi, .func (PySem.W.fnOf "_law_right" "_law_right" (defArgs LC.sRight) (defBody LC.sRight) (defScope LC.sRight) .none kVRi dcRi pmRi anRi cdRi ctRi), slRi⟩)
    (cRi : PySem.W.codeIn K cdRi "_law_right" = true)
    (kRi : PySem.W.keepIn K (.ref fRi) = true)
    (aWr : PySem.W.nsIn K mainGlobals "_law_ways_right" = some (some (.ref fWr)))
    (lWr : K.lookup fWr = some ⟨ocWr, odWr, .func (PySem.W.fnOf "_law_ways_right" "_law_ways_right" (defArgs LC.sWaysR) (defBody LC.sWaysR) (defScope LC.sWaysR) .none kVWr dcWr pmWr anWr cdWr ctWr), slWr⟩)
    (cWr : PySem.W.codeIn K cdWr "_law_ways_right" = true)
    (kWr : PySem.W.keepIn K (.ref fWr) = true)
    (aOd : PySem.W.nsIn K mainGlobals "_law_odd_out" = some (some (.ref fOd)))
    (lOd : K.lookup fOd = some ⟨ocOd, odOd, .func (PySem.W.fnOf "_law_odd_out" "_law_odd_out" (defArgs LC.sOdd) (defBody LC.sOdd) (defScope LC.sOdd) .none kVOd dcOd pmOd anOd cdOd ctOd), slOd⟩)
    (cOd : PySem.W.codeIn K cdOd "_law_odd_out" = true)
    (kOd : PySem.W.keepIn K (.ref fOd) = true)
    (aLA : PySem.W.nsIn K mainGlobals "law" = some (some (.ref fLA)))
    (lLA : K.lookup fLA = some ⟨ocLA, odLA, .func (PySem.W.fnOf "law" "law" (defArgs LC.sLaw) (defBody LC.sLaw) (defScope LC.sLaw) .none kVLA dcLA pmLA anLA cdLA ctLA), slLA⟩)
    (cLA : PySem.W.codeIn K cdLA "law" = true)
    (kLA : PySem.W.keepIn K (.ref fLA) = true)
    (amI : PySem.W.findIn K (.ref C) "__init__" = some (some (.ref fmI)))
    (imI : PySem.W.isFn K (.ref fmI) = true)
    (lmI : K.lookup fmI = some ⟨ocmI, odmI, .func (PySem.W.fnOf "__init__" "Program.__init__" (defArgs PG.sInit) (defBody PG.sInit) (defScope PG.sInit) .none kVmI dcmI pmmI anmI cdmI ctmI), slmI⟩)
    (cmI : PySem.W.codeIn K cdmI "Program.__init__" = true)
    (kmI : PySem.W.keepIn K (.ref fmI) = true)
    (amW : PySem.W.findIn K (.ref C) "ways" = some (some (.ref fmW)))
    (imW : PySem.W.isFn K (.ref fmW) = true)
    (lmW : K.lookup fmW = some ⟨ocmW, odmW, .func (PySem.W.fnOf "ways" "Program.ways" (defArgs PG.sMWays) (defBody PG.sMWays) (defScope PG.sMWays) .none kVmW dcmW pmmW anmW cdmW ctmW), slmW⟩)
    (cmW : PySem.W.codeIn K cdmW "Program.ways" = true)
    (kmW : PySem.W.keepIn K (.ref fmW) = true)
    (amP : PySem.W.findIn K (.ref C) "places" = some (some (.ref fmP)))
    (imP : PySem.W.isFn K (.ref fmP) = true)
    (lmP : K.lookup fmP = some ⟨ocmP, odmP, .func (PySem.W.fnOf "places" "Program.places" (defArgs PG.sMPlaces) (defBody PG.sMPlaces) (defScope PG.sMPlaces) .none kVmP dcmP pmmP anmP cdmP ctmP), slmP⟩)
    (cmP : PySem.W.codeIn K cdmP "Program.places" = true)
    (kmP : PySem.W.keepIn K (.ref fmP) = true)
    (amE : PySem.W.findIn K (.ref C) "exits" = some (some (.ref fmE)))
    (imE : PySem.W.isFn K (.ref fmE) = true)
    (lmE : K.lookup fmE = some ⟨ocmE, odmE, .func (PySem.W.fnOf "exits" "Program.exits" (defArgs PG.sMExits) (defBody PG.sMExits) (defScope PG.sMExits) .none kVmE dcmE pmmE anmE cdmE ctmE), slmE⟩)
    (cmE : PySem.W.codeIn K cdmE "Program.exits" = true)
    (kmE : PySem.W.keepIn K (.ref fmE) = true)
    (amG : PySem.W.findIn K (.ref C) "__getitem__" = some (some (.ref fmG)))
    (imG : PySem.W.isFn K (.ref fmG) = true)
    (lmG : K.lookup fmG = some ⟨ocmG, odmG, .func (PySem.W.fnOf "__getitem__" "Program.__getitem__" (defArgs PG.sGet) (defBody PG.sGet) (defScope PG.sGet) .none kVmG dcmG pmmG anmG cdmG ctmG), slmG⟩)
    (cmG : PySem.W.codeIn K cdmG "Program.__getitem__" = true)
    (kmG : PySem.W.keepIn K (.ref fmG) = true)
    (amH : PySem.W.findIn K (.ref C) "__contains__" = some (some (.ref fmH)))
    (imH : PySem.W.isFn K (.ref fmH) = true)
    (lmH : K.lookup fmH = some ⟨ocmH, odmH, .func (PySem.W.fnOf "__contains__" "Program.__contains__" (defArgs PG.sHas) (defBody PG.sHas) (defScope PG.sHas) .none kVmH dcmH pmmH anmH cdmH ctmH), slmH⟩)
    (cmH : PySem.W.codeIn K cdmH "Program.__contains__" = true)
    (kmH : PySem.W.keepIn K (.ref fmH) = true)
    (amQ : PySem.W.findIn K (.ref C) "__eq__" = some (some (.ref fmQ)))
    (imQ : PySem.W.isFn K (.ref fmQ) = true)
    (lmQ : K.lookup fmQ = some ⟨ocmQ, odmQ, .func (PySem.W.fnOf "__eq__" "Program.__eq__" (defArgs PG.sEq) (defBody PG.sEq) (defScope PG.sEq) .none kVmQ dcmQ pmmQ anmQ cdmQ ctmQ), slmQ⟩)
    (cmQ : PySem.W.codeIn K cdmQ "Program.__eq__" = true)
    (kmQ : PySem.W.keepIn K (.ref fmQ) = true)
    (anI : PySem.W.findIn K (.ref D) "__init__" = some (some (.ref fnI)))
    (inI : PySem.W.isFn K (.ref fnI) = true)
    (lnI : K.lookup fnI = some ⟨ocnI, odnI, .func (PySem.W.fnOf "__init__" "Counters.__init__" (defArgs CT.sInitC) (defBody CT.sInitC) (defScope CT.sInitC) .none kVnI dcnI pmnI annI cdnI ctnI), slnI⟩)
    (cnI : PySem.W.codeIn K cdnI "Counters.__init__" = true)
    (knI : PySem.W.keepIn K (.ref fnI) = true)
    (anL : PySem.W.findIn K (.ref D) "listed" = some (some (.ref fnL)))
    (inL : PySem.W.isFn K (.ref fnL) = true)
    (lnL : K.lookup fnL = some ⟨ocnL, odnL, .func (PySem.W.fnOf "listed" "Counters.listed" (defArgs CT.sListed) (defBody CT.sListed) (defScope CT.sListed) .none kVnL dcnL pmnL annL cdnL ctnL), slnL⟩)
    (cnL : PySem.W.codeIn K cdnL "Counters.listed" = true)
    (knL : PySem.W.keepIn K (.ref fnL) = true)
    (anN : PySem.W.findIn K (.ref D) "__len__" = some (some (.ref fnN)))
    (inN : PySem.W.isFn K (.ref fnN) = true)
    (lnN : K.lookup fnN = some ⟨ocnN, odnN, .func (PySem.W.fnOf "__len__" "Counters.__len__" (defArgs CT.sCLen) (defBody CT.sCLen) (defScope CT.sCLen) .none kVnN dcnN pmnN annN cdnN ctnN), slnN⟩)
    (cnN : PySem.W.codeIn K cdnN "Counters.__len__" = true)
    (knN : PySem.W.keepIn K (.ref fnN) = true)
    (anH : PySem.W.findIn K (.ref D) "__contains__" = some (some (.ref fnH)))
    (inH : PySem.W.isFn K (.ref fnH) = true)
    (lnH : K.lookup fnH = some ⟨ocnH, odnH, .func (PySem.W.fnOf "__contains__" "Counters.__contains__" (defArgs CT.sCHas) (defBody CT.sCHas) (defScope CT.sCHas) .none kVnH dcnH pmnH annH cdnH ctnH), slnH⟩)
    (cnH : PySem.W.codeIn K cdnH "Counters.__contains__" = true)
    (knH : PySem.W.keepIn K (.ref fnH) = true)
    (anA : PySem.W.findIn K (.ref D) "__add__" = some (some (.ref fnA)))
    (inA : PySem.W.isFn K (.ref fnA) = true)
    (lnA : K.lookup fnA = some ⟨ocnA, odnA, .func (PySem.W.fnOf "__add__" "Counters.__add__" (defArgs CT.sAdd) (defBody CT.sAdd) (defScope CT.sAdd) .none kVnA dcnA pmnA annA cdnA ctnA), slnA⟩)
    (cnA : PySem.W.codeIn K cdnA "Counters.__add__" = true)
    (knA : PySem.W.keepIn K (.ref fnA) = true)
    (anU : PySem.W.findIn K (.ref D) "__iadd__" = some (some (.ref fnU)))
    (inU : PySem.W.isFn K (.ref fnU) = true)
    (lnU : K.lookup fnU = some ⟨ocnU, odnU, .func (PySem.W.fnOf "__iadd__" "Counters.__iadd__" (defArgs CT.sIadd) (defBody CT.sIadd) (defScope CT.sIadd) .none kVnU dcnU pmnU annU cdnU ctnU), slnU⟩)
    (cnU : PySem.W.codeIn K cdnU "Counters.__iadd__" = true)
    (knU : PySem.W.keepIn K (.ref fnU) = true)
    (anS : PySem.W.findIn K (.ref D) "__sub__" = some (some (.ref fnS)))
    (inS : PySem.W.isFn K (.ref fnS) = true)
    (lnS : K.lookup fnS = some ⟨ocnS, odnS, .func (PySem.W.fnOf "__sub__" "Counters.__sub__" (defArgs CT.sSub) (defBody CT.sSub) (defScope CT.sSub) .none kVnS dcnS pmnS annS cdnS ctnS), slnS⟩)
    (cnS : PySem.W.codeIn K cdnS "Counters.__sub__" = true)
    (knS : PySem.W.keepIn K (.ref fnS) = true)
    (anV : PySem.W.findIn K (.ref D) "__isub__" = some (some (.ref fnV)))
    (inV : PySem.W.isFn K (.ref fnV) = true)
    (lnV : K.lookup fnV = some ⟨ocnV, odnV, .func (PySem.W.fnOf "__isub__" "Counters.__isub__" (defArgs CT.sIsub) (defBody CT.sIsub) (defScope CT.sIsub) .none kVnV dcnV pmnV annV cdnV ctnV), slnV⟩)
    (cnV : PySem.W.codeIn K cdnV "Counters.__isub__" = true)
    (knV : PySem.W.keepIn K (.ref fnV) = true)
    (anQ : PySem.W.findIn K (.ref D) "__eq__" = some (some (.ref fnQ)))
    (inQ : PySem.W.isFn K (.ref fnQ) = true)
    (lnQ : K.lookup fnQ = some ⟨ocnQ, odnQ, .func (PySem.W.fnOf "__eq__" "Counters.__eq__" (defArgs CT.sCEq) (defBody CT.sCEq) (defScope CT.sCEq) .none kVnQ dcnQ pmnQ annQ cdnQ ctnQ), slnQ⟩)
    (cnQ : PySem.W.codeIn K cdnQ "Counters.__eq__" = true)
    (knQ : PySem.W.keepIn K (.ref fnQ) = true)
    (apB : PySem.W.findIn K (.ref C) "begin" = some (some (.ref pB)))
    (gpB : PySem.W.specialIn K (.ref pB) "__get__" = some (some (.builtin "property.__get__")))
    (tpB : PySem.W.takesIn K (.ref pB) = some true)
    (rpB : PySem.W.recIn K pB "property" = some (.ref fmB :: restpB))
    (lmB : K.lookup fmB = some ⟨ocmB, odmB, .func (PySem.W.fnOf "begin" "Program.begin" (defArgs PG.sBegin) (defBody PG.sBegin) (defScope PG.sBegin) .none kVmB dcmB pmmB anmB cdmB ctmB), slmB⟩)
    (cmB : PySem.W.codeIn K cdmB "Program.begin" = true)
    (kmB : PySem.W.keepIn K (.ref fmB) = true)
    (apP : PySem.W.findIn K (.ref D) "program" = some (some (.ref pP)))
    (gpP : PySem.W.specialIn K (.ref pP) "__get__" = some (some (.builtin "property.__get__")))
    (tpP : PySem.W.takesIn K (.ref pP) = some true)
    (rpP : PySem.W.recIn K pP "property" = some (.ref fnP :: restpP))
    (lnP : K.lookup fnP = some ⟨ocnP, odnP, .func (PySem.W.fnOf "program" "Counters.program" (defArgs CT.sCProg) (defBody CT.sCProg) (defScope CT.sCProg) .none kVnP dcnP pmnP annP cdnP ctnP), slnP⟩)
    (cnP : PySem.W.codeIn K cdnP "Counters.program" = true)
    (knP : PySem.W.keepIn K (.ref fnP) = true)
    (rd : PySem.W.readsIn K D (.type "type") = true)
    (ga : PySem.W.specialIn K (.ref D) "__getattribute__" = some (some (.builtin "type.__getattribute__")))
    (snW : PySem.W.findCls K (.ref D) (.type "type") "of_ways" = some (.get (.builtin "staticmethod.__get__") (.ref pnW) .none (.ref D)))
    (rnW : PySem.W.recIn K pnW "staticmethod" = some (.ref fnW :: restnW))
    (lnW : K.lookup fnW = some ⟨ocnW, odnW, .func (PySem.W.fnOf "of_ways" "Counters.of_ways" (defArgs CT.sOfWays) (defBody CT.sOfWays) (defScope CT.sOfWays) .none kVnW dcnW pmnW annW cdnW ctnW), slnW⟩)
    (cnW : PySem.W.codeIn K cdnW "Counters.of_ways" = true)
    (knW : PySem.W.keepIn K (.ref fnW) = true)
    (snE : PySem.W.findCls K (.ref D) (.type "type") "everything" = some (.get (.builtin "staticmethod.__get__") (.ref pnE) .none (.ref D)))
    (rnE : PySem.W.recIn K pnE "staticmethod" = some (.ref fnE :: restnE))
    (lnE : K.lookup fnE = some ⟨ocnE, odnE, .func (PySem.W.fnOf "everything" "Counters.everything" (defArgs CT.sEvery) (defBody CT.sEvery) (defScope CT.sEvery) .none kVnE dcnE pmnE annE cdnE ctnE), slnE⟩)
    (cnE : PySem.W.codeIn K cdnE "Counters.everything" = true)
    (knE : PySem.W.keepIn K (.ref fnE) = true)
    (ng : PySem.W.fnIn K fmG = true)
    (pg : PySem.W.plainGet K C Str.empty = true)
    (hd : PySem.W.hasDictIn K C = true)
    (po : PySem.W.plainOver K C = true)
    (sa : PySem.W.findIn K (.ref C) "__setattr__" = some (some (.builtin "object.__setattr__")))
    (mk : PySem.W.makesIn K C = true)
    (kc : PySem.W.keepIn K (.ref C) = true)
    (pgD : PySem.W.plainGet K D Str.empty = true)
    (hdD : PySem.W.hasDictIn K D = true)
    (poD : PySem.W.plainOver K D = true)
    (saD : PySem.W.findIn K (.ref D) "__setattr__" = some (some (.builtin "object.__setattr__")))
    (mkD : PySem.W.makesIn K D = true)
    (kcD : PySem.W.keepIn K (.ref D) = true)
    (n1 : PySem.W.findIn K (.ref C) "links" = some none)
    (n2 : PySem.W.findIn K (.ref C) "spots" = some none)
    (n3 : PySem.W.findIn K (.ref C) "origin" = some none)
    (n4 : PySem.W.findIn K (.ref C) "finals" = some none)
    (d1 : PySem.W.findIn K (.ref D) "base" = some none)
    (d2 : PySem.W.findIn K (.ref D) "chosen" = some none)
    (t1 : PySem.W.findIn K (.ref C) "__class__" = some (some (.builtin "object.__class__")))
    (t2 : PySem.W.specialIn K (.builtin "object.__class__") "__get__" = some (some (.builtin "getset_descriptor.__get__")))
    (t3 : PySem.W.takesIn K (.builtin "object.__class__") = some true)
    (t4 : PySem.W.mroIn K C (.type "object") = some true)
    (t5 : PySem.W.findIn K (.ref D) "__class__" = some (some (.builtin "object.__class__")))
    (t6 : PySem.W.mroIn K D (.type "object") = some true)
    (u1 : PySem.W.notFirst K C (.ref C) = true)
    (u2 : PySem.W.findIn K (.ref C) "__ne__" = some (some (.builtin "object.__ne__")))
    (u3 : PySem.W.notFirst K D (.ref D) = true)
    (u4 : PySem.W.notFirst K D (.type "int") = true)
    (u5 : PySem.W.kitOne K (.type "int") (.ref D) = some false)
    (u6 : PySem.W.selfFirst K D = true)
    (aRu : PySem.W.nsIn K mainGlobals "RUNS" = some (some (.ref aR)))
    (lRu : K.lookup aR = some ⟨.type "tuple", odR, .seq #[.str "runs" tRu] nR, slR⟩)
    (vL : PySem.W.nsIn K mainGlobals "LETTERS" = some (some (.str "abcdefghijklmnopqrstuvwxyz" tL)))
    (vM : PySem.W.nsIn K mainGlobals "MOST_LETTERS" = some (some (.int 8 tM)))
    (vW : PySem.W.nsIn K mainGlobals "MOST_WAYS" = some (some (.int 40 tW)))
    (z_isinstance : PySem.W.nsIn K mainGlobals "isinstance" = some none)
    (z_str : PySem.W.nsIn K mainGlobals "str" = some none)
    (z_len : PySem.W.nsIn K mainGlobals "len" = some none)
    (z_all : PySem.W.nsIn K mainGlobals "all" = some none)
    (z_tuple : PySem.W.nsIn K mainGlobals "tuple" = some none)
    (z_dict : PySem.W.nsIn K mainGlobals "dict" = some none)
    (z_list : PySem.W.nsIn K mainGlobals "list" = some none)
    (z_set : PySem.W.nsIn K mainGlobals "set" = some none)
    (z_sorted : PySem.W.nsIn K mainGlobals "sorted" = some none)
    (z_range : PySem.W.nsIn K mainGlobals "range" = some none)
    (z_min : PySem.W.nsIn K mainGlobals "min" = some none)
    (z_max : PySem.W.nsIn K mainGlobals "max" = some none)
    (z_int : PySem.W.nsIn K mainGlobals "int" = some none)
    (z_enumerate : PySem.W.nsIn K mainGlobals "enumerate" = some none)
    : ∃ fd : FuncData, (∀ (s : Shared) (v : Value), BindsTo s fd ⟨[v], []⟩ [("script", v)]) ∧ ∀ base : Heap, K.In base → base.Ns mainGlobals mg → FnOk l.prog w K mg base CX0 9 fa fd ["script"] (LC.spLaw K) := by
  have e := hfa.symm.trans (PySem.W.mg_of X G aLA)
  cases e
  have T : PG.PT0 mg := ⟨PySem.W.mg_none_of X G z_isinstance, PySem.W.mg_none_of X G z_str, PySem.W.mg_none_of X G z_len, PySem.W.mg_none_of X G z_all, PySem.W.mg_none_of X G z_tuple, PySem.W.mg_none_of X G z_dict, PySem.W.mg_none_of X G z_list, PySem.W.mg_none_of X G z_set, PySem.W.mg_none_of X G z_sorted, ⟨_, PySem.W.mg_of X G vL⟩, ⟨_, PySem.W.mg_of X G vM⟩, ⟨_, PySem.W.mg_of X G vW⟩⟩
  have RT : CT.RunT K mg := ⟨aR, PySem.W.mg_of X G aRu, fun H => .inr ⟨_, _, _, lRu, rfl, rfl, (by show 1 ≤ sizeLine; decide), .cons ⟨_, rfl⟩ .nil⟩⟩
  have HT0 : LH.HT mg := ⟨PySem.W.mg_none_of X G z_max, PySem.W.mg_none_of X G z_min, PySem.W.mg_none_of X G z_int, PySem.W.mg_none_of X G z_range, PySem.W.mg_none_of X G z_len⟩
  have TL : LW.LT mg := ⟨PySem.W.mg_none_of X G z_range, PySem.W.mg_none_of X G z_len, PySem.W.mg_none_of X G z_min, PySem.W.mg_none_of X G z_max⟩
  have mEn := PySem.W.mg_none_of X G z_enumerate
  have Fwo := fun_mk (st := PG.sWord) lwo cwo kwo
  have bwo := Fwo.binds (ps := ["value"]) fun _ _ _ _ _ _ us hl => match us, hl with | [_], _ => rfl
  have Fam := fun_mk (st := PG.sAmong) lam cam kam
  have bam := Fam.binds (ps := ["value", "words"]) fun _ _ _ _ _ _ us hl => match us, hl with | [_, _], _ => rfl
  have Fli := fun_mk (st := PG.sLink) lli cli kli
  have bli := Fli.binds (ps := ["value"]) fun _ _ _ _ _ _ us hl => match us, hl with | [_], _ => rfl
  have Fwa := fun_mk (st := PG.sWays) lwa cwa kwa
  have bwa := Fwa.binds (ps := ["value"]) fun _ _ _ _ _ _ us hl => match us, hl with | [_], _ => rfl
  have Fex := fun_mk (st := PG.sExits) lex cex kex
  have bex := Fex.binds (ps := ["value", "places"]) fun _ _ _ _ _ _ us hl => match us, hl with | [_, _], _ => rfl
  have Fre := fun_mk (st := PG.sReach) lre cre kre
  have bre := Fre.binds (ps := ["places", "pairs"]) fun _ _ _ _ _ _ us hl => match us, hl with | [_, _], _ => rfl
  have Frq := fun_mk (st := CT.sReq) lrq crq krq
  have brq := Frq.binds (ps := ["program"]) fun _ _ _ _ _ _ us hl => match us, hl with | [_], _ => rfl
  have Fac := fun_mk (st := CT.sAll) lac cac kac
  have bac := Fac.binds (ps := ["program"]) fun _ _ _ _ _ _ us hl => match us, hl with | [_], _ => rfl
  have Fto := fun_mk (st := CT.sTot) lto cto kto
  have bto := Fto.binds (ps := ["value"]) fun _ _ _ _ _ _ us hl => match us, hl with | [_], _ => rfl
  have Fkn := fun_mk (st := CT.sKnown) lkn ckn kkn
  have bkn := Fkn.binds (ps := ["value", "known"]) fun _ _ _ _ _ _ us hl => match us, hl with | [_, _], _ => rfl
  have Fic := fun_mk (st := CT.sIsC) lic cic kic
  have bic := Fic.binds (ps := ["program", "value"]) fun _ _ _ _ _ _ us hl => match us, hl with | [_, _], _ => rfl
  have Frp := fun_mk (st := CT.sPart) lrp crp krp
  have brp := Frp.binds (ps := ["one", "other"]) fun _ _ _ _ _ _ us hl => match us, hl with | [_, _], _ => rfl
  have FNu := fun_mk (st := LH.sNum) lNu cNu kNu
  have bNu := FNu.binds (ps := ["cell", "salt", "sizes"]) fun _ _ _ _ _ _ us hl => match us, hl with | [_, _, _], _ => rfl
  have FPo := fun_mk (st := LH.sPool) lPo cPo kPo
  have bPo := FPo.binds (ps := ["cell", "salt", "many"]) fun _ _ _ _ _ _ us hl => match us, hl with | [_, _, _], _ => rfl
  have FDr := fun_mk (st := LH.sDraw) lDr cDr kDr
  have bDr := FDr.binds (ps := ["pool", "many"]) fun _ _ _ _ _ _ us hl => match us, hl with | [_, _], _ => rfl
  have FOp := fun_mk (st := LH.sOpen) lOp cOp kOp
  have bOp := FOp.binds (ps := ["script", "k", "many"]) fun _ _ _ _ _ _ us hl => match us, hl with | [_, _, _], _ => rfl
  have FWo := fun_mk (st := LW.sWords) lWo cWo kWo
  have bWo := FWo.binds (ps := ["pool", "many"]) fun _ _ _ _ _ _ us hl => match us, hl with | [_, _], _ => rfl
  have FNa := fun_mk (st := LW.sNames) lNa cNa kNa
  have bNa := FNa.binds (ps := ["pool", "many"]) fun _ _ _ _ _ _ us hl => match us, hl with | [_, _], _ => rfl
  have FPr := fun_mk (st := LW.sProgram) lPr cPr kPr
  have bPr := FPr.binds (ps := ["pool", "most", "more", "rings"]) fun _ _ _ _ _ _ us hl => match us, hl with | [_, _, _, _], _ => rfl
  have FMa := fun_mk (st := LW.sMade) lMa cMa kMa
  have bMa := FMa.binds (ps := ["prog"]) fun _ _ _ _ _ _ us hl => match us, hl with | [_], _ => rfl
  have FPl := fun_mk (st := LW.sLPlaces) lPl cPl kPl
  have bPl := FPl.binds (ps := ["prog"]) fun _ _ _ _ _ _ us hl => match us, hl with | [_], _ => rfl
  have FAl := fun_mk (st := LC.sLAll) lAl cAl kAl
  have bAl := FAl.binds (ps := ["prog"]) fun _ _ _ _ _ _ us hl => match us, hl with | [_], _ => rfl
  have FSo := fun_mk (st := LC.sSome) lSo cSo kSo
  have bSo := FSo.binds (ps := ["pool", "prog", "chance"]) fun _ _ _ _ _ _ us hl => match us, hl with | [_, _, _], _ => rfl
  have FSe := fun_mk (st := LC.sSet) lSe cSe kSe
  have bSe := FSe.binds (ps := ["prog", "some"]) fun _ _ _ _ _ _ us hl => match us, hl with | [_, _], _ => rfl
  have FLs := fun_mk (st := LC.sLListed) lLs cLs kLs
  have bLs := FLs.binds (ps := ["prog", "some"]) fun _ _ _ _ _ _ us hl => match us, hl with | [_, _], _ => rfl
  have FRi := fun_mk (st := LC.sRight) lRi cRi kRi
  have bRi := FRi.binds (ps := ["made", "prog", "some"]) fun _ _ _ _ _ _ us hl => match us, hl with | [_, _, _], _ => rfl
  have FWr := fun_mk (st := LC.sWaysR) lWr cWr kWr
  have bWr := FWr.binds (ps := ["prog", "program"]) fun _ _ _ _ _ _ us hl => match us, hl with | [_, _], _ => rfl
  have FOd := fun_mk (st := LC.sOdd) lOd cOd kOd
  have bOd := FOd.binds (ps := ["program", "kept"]) fun _ _ _ _ _ _ us hl => match us, hl with | [_, _], _ => rfl
  have FLA := fun_mk (st := LC.sLaw) lLA cLA kLA
  have bLA := FLA.binds (ps := ["script"]) fun _ _ _ _ _ _ us hl => match us, hl with | [_], _ => rfl
  have FmI := fun_mk (st := PG.sInit) lmI cmI kmI
  have bmI := FmI.binds (ps := ["self", "ways", "begin", "exits"]) fun _ _ _ _ _ _ us hl => match us, hl with | [_, _, _, _], _ => rfl
  have FmW := fun_mk (st := PG.sMWays) lmW cmW kmW
  have bmW := FmW.binds (ps := ["self"]) fun _ _ _ _ _ _ us hl => match us, hl with | [_], _ => rfl
  have FmP := fun_mk (st := PG.sMPlaces) lmP cmP kmP
  have bmP := FmP.binds (ps := ["self"]) fun _ _ _ _ _ _ us hl => match us, hl with | [_], _ => rfl
  have FmE := fun_mk (st := PG.sMExits) lmE cmE kmE
  have bmE := FmE.binds (ps := ["self"]) fun _ _ _ _ _ _ us hl => match us, hl with | [_], _ => rfl
  have FmG := fun_mk (st := PG.sGet) lmG cmG kmG
  have bmG := FmG.binds (ps := ["self", "at"]) fun _ _ _ _ _ _ us hl => match us, hl with | [_, _], _ => rfl
  have FmH := fun_mk (st := PG.sHas) lmH cmH kmH
  have bmH := FmH.binds (ps := ["self", "x"]) fun _ _ _ _ _ _ us hl => match us, hl with | [_, _], _ => rfl
  have FmQ := fun_mk (st := PG.sEq) lmQ cmQ kmQ
  have bmQ := FmQ.binds (ps := ["self", "other"]) fun _ _ _ _ _ _ us hl => match us, hl with | [_, _], _ => rfl
  have FmB := fun_mk (st := PG.sBegin) lmB cmB kmB
  have bmB := FmB.binds (ps := ["self"]) fun _ _ _ _ _ _ us hl => match us, hl with | [_], _ => rfl
  have FnI := fun_mk (st := CT.sInitC) lnI cnI knI
  have FnL := fun_mk (st := CT.sListed) lnL cnL knL
  have bnL := FnL.binds (ps := ["self"]) fun _ _ _ _ _ _ us hl => match us, hl with | [_], _ => rfl
  have FnN := fun_mk (st := CT.sCLen) lnN cnN knN
  have bnN := FnN.binds (ps := ["self"]) fun _ _ _ _ _ _ us hl => match us, hl with | [_], _ => rfl
  have FnH := fun_mk (st := CT.sCHas) lnH cnH knH
  have bnH := FnH.binds (ps := ["self", "x"]) fun _ _ _ _ _ _ us hl => match us, hl with | [_, _], _ => rfl
  have FnA := fun_mk (st := CT.sAdd) lnA cnA knA
  have bnA := FnA.binds (ps := ["self", "other"]) fun _ _ _ _ _ _ us hl => match us, hl with | [_, _], _ => rfl
  have FnU := fun_mk (st := CT.sIadd) lnU cnU knU
  have bnU := FnU.binds (ps := ["self", "other"]) fun _ _ _ _ _ _ us hl => match us, hl with | [_, _], _ => rfl
  have FnS := fun_mk (st := CT.sSub) lnS cnS knS
  have bnS := FnS.binds (ps := ["self", "other"]) fun _ _ _ _ _ _ us hl => match us, hl with | [_, _], _ => rfl
  have FnV := fun_mk (st := CT.sIsub) lnV cnV knV
  have bnV := FnV.binds (ps := ["self", "other"]) fun _ _ _ _ _ _ us hl => match us, hl with | [_, _], _ => rfl
  have FnQ := fun_mk (st := CT.sCEq) lnQ cnQ knQ
  have bnQ := FnQ.binds (ps := ["self", "other"]) fun _ _ _ _ _ _ us hl => match us, hl with | [_, _], _ => rfl
  have FnP := fun_mk (st := CT.sCProg) lnP cnP knP
  have bnP := FnP.binds (ps := ["self"]) fun _ _ _ _ _ _ us hl => match us, hl with | [_], _ => rfl
  have FnW := fun_mk (st := CT.sOfWays) lnW cnW knW
  have FnE := fun_mk (st := CT.sEvery) lnE cnE knE
  have bnE := FnE.binds (ps := ["program"]) fun _ _ _ _ _ _ us hl => match us, hl with | [_], _ => rfl
  have Tc : PG.PTc K mg C := ⟨⟨pg, hd, po, sa⟩, n1, n2, n3, n4, PySem.W.mg_of X G aC⟩
  have Td' : CT.CTc K mg D := ⟨⟨pgD, hdD, poD, saD⟩, d1, d2, PySem.W.mg_of X G aD⟩
  have Tt : PG.PTt K C := ⟨t1, t2, t3, t4⟩
  have Ct : CT.CTt K C D := ⟨t5, t6, u1, u2⟩
  have gwo := PySem.W.mg_of X G awo
  have gam := PySem.W.mg_of X G aam
  have gli := PySem.W.mg_of X G ali
  have gwa := PySem.W.mg_of X G awa
  have gex := PySem.W.mg_of X G aex
  have gre := PySem.W.mg_of X G are
  have grq := PySem.W.mg_of X G arq
  have gac := PySem.W.mg_of X G aac
  have gto := PySem.W.mg_of X G ato
  have gkn := PySem.W.mg_of X G akn
  have gic := PySem.W.mg_of X G aic
  have grp := PySem.W.mg_of X G arp
  have gNu := PySem.W.mg_of X G aNu
  have gPo := PySem.W.mg_of X G aPo
  have gDr := PySem.W.mg_of X G aDr
  have gOp := PySem.W.mg_of X G aOp
  have gWo := PySem.W.mg_of X G aWo
  have gNa := PySem.W.mg_of X G aNa
  have gPr := PySem.W.mg_of X G aPr
  have gMa := PySem.W.mg_of X G aMa
  have gPl := PySem.W.mg_of X G aPl
  have gAl := PySem.W.mg_of X G aAl
  have gSo := PySem.W.mg_of X G aSo
  have gSe := PySem.W.mg_of X G aSe
  have gLs := PySem.W.mg_of X G aLs
  have gRi := PySem.W.mg_of X G aRi
  have gWr := PySem.W.mg_of X G aWr
  have gOd := PySem.W.mg_of X G aOd
  have gLA := PySem.W.mg_of X G aLA
  refine ⟨PySem.W.fnOf "law" "law" (defArgs LC.sLaw) (defBody LC.sLaw) (defScope LC.sLaw) .none kVLA dcLA pmLA anLA cdLA ctLA, fun s v => .of_eq rfl, fun base _ _ => ?_⟩
  have Gwo : FnOk l.prog w K mg base CX0 1 fwo _ ["value"] (PG.spWord K) := PG.ok_word Fwo T
  have Gam : FnOk l.prog w K mg base CX0 1 fam _ ["value", "words"] (PG.spAmong K) := PG.ok_among Fam T
  have Gwa : FnOk l.prog w K mg base CX0 3 fwa _ ["value"] (PG.spWays K) := PG.ok_ways Fwa T Fwo bwo gwo Fli bli gli
  have Gex : FnOk l.prog w K mg base CX0 2 fex _ ["value", "places"] (PG.spExits K) := PG.ok_exits Fex T Fam bam gam
  have Gre : FnOk l.prog w K mg base CX0 1 fre _ ["places", "pairs"] (PG.spReach K) := PG.ok_reach Fre T
  have Td : PG.PTd K mg fam fwa fex fre _ _ _ _ := ⟨gam, bam, gwa, bwa, gex, bex, gre, bre⟩
  have GI : FnOk l.prog w K mg base CX0 4 fmI _ ["self", "ways", "begin", "exits"] (PG.spInit K C) := PG.ok_init FmI T Tc Td Fam Fwa Fex Fre Gam Gwa Gex Gre
  have GWs : FnOk l.prog w K mg base CX0 1 fmW _ ["self"] (PG.spList K C fun d => PG.keysL d.ls) := PG.ok_mways FmW T Tc
  have GPs : FnOk l.prog w K mg base CX0 1 fmP _ ["self"] (PG.spList K C fun d => d.ps) := PG.ok_mplaces FmP T Tc
  have GEs : FnOk l.prog w K mg base CX0 1 fmE _ ["self"] (PG.spList K C fun d => d.fs) := PG.ok_mexits FmE T Tc
  have Grq : FnOk l.prog w K mg base CX0 1 frq _ ["program"] (CT.spReq K C) := CT.ok_req Frq T Tc Tt
  have Gac : FnOk l.prog w K mg base CX0 2 fac _ ["program"] (CT.spAllC K C) := CT.ok_all Fac RT T Tc Frq brq grq Grq ⟨amW, imW, kmW⟩ bmW GWs ⟨amP, imP, kmP⟩ bmP GPs ⟨amE, imE, kmE⟩ bmE GEs
  have Gkn : FnOk l.prog w K mg base CX0 2 fkn _ ["value", "known"] (CT.spKnown K) := CT.ok_known Fkn kto bto gto (CT.ok_tot Fto T)
  have Gic : FnOk l.prog w K mg base CX0 3 fic _ ["program", "value"] (CT.spIsC K C) := CT.ok_isC Fic Fkn bkn gkn Gkn Fac bac gac Gac
  have RI : FnR l.prog w K mg base CX0 3 fnI (CT.spStar 2 (CT.spInitC K C D)) := CT.ok_initC FnI Td' mEn Fkn bkn gkn Gkn Fac bac gac Gac
  have MkD : Mk K D fnI := ⟨mkD, anI, inI, kcD⟩
  have GQ : FnOk l.prog w K mg base CX0 1 fmQ _ ["self", "other"] (PG.spEqP K C) := PG.ok_eqP FmQ T Tc Tt
  have GH : FnOk l.prog w K mg base CX0 2 fmH _ ["self", "x"] (PG.spHas K C) := PG.ok_has FmH Tc Fam bam gam Gam
  have Grp : FnOk l.prog w K mg base CX0 3 frp _ ["one", "other"] (CT.spPart K C D) := CT.ok_part Frp T Td' Tc.cl Tt Ct amQ imQ bmQ GQ
  have GA : FnOk l.prog w K mg base CX0 5 fnA _ ["self", "other"] (CT.spBin K C D CT.addL) := CT.ok_add FnA Td' MkD RI Frp brp grp Grp
  have GS : FnOk l.prog w K mg base CX0 5 fnS _ ["self", "other"] (CT.spBin K C D CT.subL) := CT.ok_sub FnS Td' MkD RI Frp brp grp Grp
  have GE : FnOk l.prog w K mg base CX0 5 fnE _ ["program"] (CT.spEvery K C D) := CT.ok_every FnE Td' MkD RI Fac bac gac Gac
  have RE : FnR l.prog w K mg base CX0 5 fnE (CT.spEvery K C D) := (GE.raw bnE .nil).imp fun vs H Q E h => by rw [List.append_nil]; exact h
  have RW : FnR l.prog w K mg base CX0 5 fnW (CT.spStar 1 (CT.spOfW K C D)) := CT.ok_ofW FnW T Td' mEn MkD RI Frq brq grq Grq amH imH bmH GH
  have MM : LC.CMs l.prog w K mg base C D := {
    cl := Td', clP := Tc, tt := Tt, ct := Ct, sf := u6, nfC := u3, nfI := u4, isI := u5
    make := ⟨fnI, MkD, RI⟩
    prog := ⟨pP, fnP, _, ⟨apP, gpP, tpP, ⟨restpP, rpP⟩⟩, bnP, CT.ok_cprog FnP Td'⟩
    listed := ⟨fnL, _, ⟨anL, inL, knL⟩, bnL, CT.ok_listed FnL T Td'⟩
    len := ⟨fnN, _, anN, inN, bnN, CT.ok_clen FnN T Td'⟩
    has := ⟨fnH, _, anH, inH, bnH, CT.ok_chas FnH Td' Fkn bkn gkn Gkn⟩
    add := ⟨fnA, _, anA, inA, bnA, GA⟩
    sub := ⟨fnS, _, anS, inS, bnS, GS⟩
    iadd := ⟨fnU, _, anU, inU, bnU, CT.ok_iadd FnU Td' Tt Ct u6 anA inA bnA GA⟩
    isub := ⟨fnV, _, anV, inV, bnV, CT.ok_isub FnV Td' Tt Ct u6 anS inS bnS GS⟩
    eq := ⟨fnQ, _, anQ, inQ, bnQ, CT.ok_ceq FnQ T Td' Tc.cl Tt Ct amQ imQ bmQ GQ⟩
    rd := ⟨.type "type", ⟨rd, ga⟩, ⟨pnW, fnW, ⟨snW, ⟨restnW, rnW⟩, knW⟩, RW⟩, ⟨pnE, fnE, ⟨snE, ⟨restnE, rnE⟩, knE⟩, RE⟩⟩
    eqP := ⟨fmQ, _, amQ, imQ, bmQ, GQ⟩
    getP := ⟨fmG, _, amG, imG, ng, bmG, PG.ok_get FmG Tc Fam bam gam Gam⟩
    waysP := ⟨fmW, _, ⟨amW, imW, kmW⟩, bmW, GWs⟩
    exitsP := ⟨fmE, _, ⟨amE, imE, kmE⟩, bmE, GEs⟩
    beginP := ⟨pB, fmB, _, ⟨apB, gpB, tpB, ⟨restpB, rpB⟩⟩, bmB, PG.ok_begin FmB Tc⟩
    makeP := ⟨fmI, _, ⟨mk, amI, imI, kc⟩, bmI, GI⟩ }
  have GD : FnOk l.prog w K mg base CX0 1 fDr _ ["pool", "many"] LH.spDraw := LH.ok_draw FDr HT0
  have GO : FnOk l.prog w K mg base CX0 3 fOp _ ["script", "k", "many"] (LH.spOpen K) := LH.ok_open FOp HT0 FPo bPo gPo FNu bNu gNu
  have GW := LW.ok_words (P := l.prog) (w := w) (base := base) FWo FDr bDr gDr GD
  have GN := LW.ok_names (P := l.prog) (w := w) (base := base) FNa FDr bDr gDr GD
  have GP := LW.ok_program FPr TL FDr bDr gDr GD FWo bWo gWo GW FNa bNa gNa GN
  have GM := LW.ok_made FMa T Tc ⟨mk, amI, imI, kc⟩ bmI GI
  have GL : FnOk l.prog w K mg base CX0 1 fPl _ ["prog"] (LW.spLP K) := LW.ok_lplaces FPl T
  have GAl := LC.ok_lall FAl T FPl bPl gPl GL
  have GSo := LC.ok_some FSo FAl bAl gAl GAl FDr bDr gDr GD
  have cMa : LC.Cl l.prog w K mg base 6 "_law_made" ["prog"] (LW.spMade K C) := ⟨fMa, _, gMa, kMa, bMa, GM⟩
  have cAl : LC.Cl l.prog w K mg base 2 "_law_all" ["prog"] (LC.spLAll K) := ⟨fAl, _, gAl, kAl, bAl, GAl⟩
  have cIc : LC.Cl l.prog w K mg base 3 "is_counter" ["program", "value"] (CT.spIsC K C) := ⟨fic, _, gic, kic, bic, Gic⟩
  have cSe : LC.Cl l.prog w K mg base 7 "_law_set" ["prog", "some"] (LC.spSetL K C D) := ⟨fSe, _, gSe, kSe, bSe, LC.ok_set FSe MM cMa⟩
  have cLs : LC.Cl l.prog w K mg base 3 "_law_listed" ["prog", "some"] (LC.spLL K) := ⟨fLs, _, gLs, kLs, bLs, LC.ok_llisted FLs cAl⟩
  have cRi : LC.Cl l.prog w K mg base 7 "_law_right" ["made", "prog", "some"] (LC.spRt K C D) := ⟨fRi, _, gRi, kRi, bRi, LC.ok_right FRi T MM cAl cLs cMa⟩
  exact LC.ok_law FLA T TL MM ⟨⟨fOp, _, gOp, kOp, bOp, GO⟩, ⟨fPr, _, gPr, kPr, bPr, GP⟩, cMa, cAl, ⟨fac, _, gac, kac, bac, Gac⟩, cIc, ⟨fSo, _, gSo, kSo, bSo, GSo⟩, cSe, cRi, ⟨fWr, _, gWr, kWr, bWr, LC.ok_waysR FWr T MM cRi⟩, ⟨fOd, _, gOd, kOd, bOd, LC.ok_odd FOd T MM cIc⟩⟩
/-! ### the head -/
open PySem.W in
def fa0 : List HD.Fact := [
  fun K => decide (PySem.W.nsIn K mainGlobals "Program" = some (some (.ref (He.ga K "Program")))),
  fun K => decide (PySem.W.nsIn K mainGlobals "Counters" = some (some (.ref (He.ga K "Counters")))),
  fun K => decide (PySem.W.nsIn K mainGlobals "is_word" = some (some (.ref (He.ga K "is_word")))),
  fun K => decide (PySem.W.keepIn K (.ref (He.ga K "is_word")) = true),
  fun K => decide (PySem.W.nsIn K mainGlobals "is_among" = some (some (.ref (He.ga K "is_among")))),
  fun K => decide (PySem.W.keepIn K (.ref (He.ga K "is_among")) = true),
  fun K => decide (PySem.W.nsIn K mainGlobals "is_link" = some (some (.ref (He.ga K "is_link")))),
  fun K => decide (PySem.W.keepIn K (.ref (He.ga K "is_link")) = true),
  fun K => decide (PySem.W.nsIn K mainGlobals "are_ways" = some (some (.ref (He.ga K "are_ways")))),
  fun K => decide (PySem.W.keepIn K (.ref (He.ga K "are_ways")) = true),
  fun K => decide (PySem.W.nsIn K mainGlobals "are_exits" = some (some (.ref (He.ga K "are_exits")))),
  fun K => decide (PySem.W.keepIn K (.ref (He.ga K "are_exits")) = true),
  fun K => decide (PySem.W.nsIn K mainGlobals "reached_from" = some (some (.ref (He.ga K "reached_from")))),
  fun K => decide (PySem.W.keepIn K (.ref (He.ga K "reached_from")) = true),
  fun K => decide (PySem.W.nsIn K mainGlobals "require_program" = some (some (.ref (He.ga K "require_program")))),
  fun K => decide (PySem.W.keepIn K (.ref (He.ga K "require_program")) = true),
  fun K => decide (PySem.W.nsIn K mainGlobals "all_counters" = some (some (.ref (He.ga K "all_counters")))),
  fun K => decide (PySem.W.keepIn K (.ref (He.ga K "all_counters")) = true),
  fun K => decide (PySem.W.nsIn K mainGlobals "is_tuple_of_texts" = some (some (.ref (He.ga K "is_tuple_of_texts")))),
  fun K => decide (PySem.W.keepIn K (.ref (He.ga K "is_tuple_of_texts")) = true),
  fun K => decide (PySem.W.nsIn K mainGlobals "is_known" = some (some (.ref (He.ga K "is_known")))),
  fun K => decide (PySem.W.keepIn K (.ref (He.ga K "is_known")) = true),
  fun K => decide (PySem.W.nsIn K mainGlobals "is_counter" = some (some (.ref (He.ga K "is_counter")))),
  fun K => decide (PySem.W.keepIn K (.ref (He.ga K "is_counter")) = true),
  fun K => decide (PySem.W.nsIn K mainGlobals "require_partner" = some (some (.ref (He.ga K "require_partner")))),
  fun K => decide (PySem.W.keepIn K (.ref (He.ga K "require_partner")) = true),
  fun K => decide (PySem.W.nsIn K mainGlobals "_law_numbers" = some (some (.ref (He.ga K "_law_numbers")))),
  fun K => decide (PySem.W.keepIn K (.ref (He.ga K "_law_numbers")) = true),
  fun K => decide (PySem.W.nsIn K mainGlobals "_law_pool" = some (some (.ref (He.ga K "_law_pool")))),
  fun K => decide (PySem.W.keepIn K (.ref (He.ga K "_law_pool")) = true),
  fun K => decide (PySem.W.nsIn K mainGlobals "_law_draw" = some (some (.ref (He.ga K "_law_draw")))),
  fun K => decide (PySem.W.keepIn K (.ref (He.ga K "_law_draw")) = true),
  fun K => decide (PySem.W.nsIn K mainGlobals "_law_opened" = some (some (.ref (He.ga K "_law_opened")))),
  fun K => decide (PySem.W.keepIn K (.ref (He.ga K "_law_opened")) = true),
  fun K => decide (PySem.W.nsIn K mainGlobals "_law_words" = some (some (.ref (He.ga K "_law_words")))),
  fun K => decide (PySem.W.keepIn K (.ref (He.ga K "_law_words")) = true),
  fun K => decide (PySem.W.nsIn K mainGlobals "_law_names" = some (some (.ref (He.ga K "_law_names")))),
  fun K => decide (PySem.W.keepIn K (.ref (He.ga K "_law_names")) = true),
  fun K => decide (PySem.W.nsIn K mainGlobals "_law_program" = some (some (.ref (He.ga K "_law_program")))),
  fun K => decide (PySem.W.keepIn K (.ref (He.ga K "_law_program")) = true),
  fun K => decide (PySem.W.nsIn K mainGlobals "_law_made" = some (some (.ref (He.ga K "_law_made")))),
  fun K => decide (PySem.W.keepIn K (.ref (He.ga K "_law_made")) = true),
  fun K => decide (PySem.W.nsIn K mainGlobals "_law_places" = some (some (.ref (He.ga K "_law_places")))),
  fun K => decide (PySem.W.keepIn K (.ref (He.ga K "_law_places")) = true),
  fun K => decide (PySem.W.nsIn K mainGlobals "_law_all" = some (some (.ref (He.ga K "_law_all")))),
  fun K => decide (PySem.W.keepIn K (.ref (He.ga K "_law_all")) = true),
  fun K => decide (PySem.W.nsIn K mainGlobals "_law_some" = some (some (.ref (He.ga K "_law_some")))),
  fun K => decide (PySem.W.keepIn K (.ref (He.ga K "_law_some")) = true),
  fun K => decide (PySem.W.nsIn K mainGlobals "_law_set" = some (some (.ref (He.ga K "_law_set")))),
  fun K => decide (PySem.W.keepIn K (.ref (He.ga K "_law_set")) = true),
  fun K => decide (PySem.W.nsIn K mainGlobals "_law_listed" = some (some (.ref (He.ga K "_law_listed")))),
  fun K => decide (PySem.W.keepIn K (.ref (He.ga K "_law_listed")) = true),
  fun K => decide (PySem.W.nsIn K mainGlobals "_law_right" = some (some (.ref (He.ga K "_law_right")))),
  fun K => decide (PySem.W.keepIn K (.ref (He.ga K "_law_right")) = true),
  fun K => decide (PySem.W.nsIn K mainGlobals "_law_ways_right" = some (some (.ref (He.ga K "_law_ways_right")))),
  fun K => decide (PySem.W.keepIn K (.ref (He.ga K "_law_ways_right")) = true),
  fun K => decide (PySem.W.nsIn K mainGlobals "_law_odd_out" = some (some (.ref (He.ga K "_law_odd_out")))),
  fun K => decide (PySem.W.keepIn K (.ref (He.ga K "_law_odd_out")) = true),
  fun K => decide (PySem.W.nsIn K mainGlobals "law" = some (some (.ref (He.ga K "law")))),
  fun K => decide (PySem.W.keepIn K (.ref (He.ga K "law")) = true),
  fun K => decide (PySem.W.findIn K (.ref (He.ga K "Program")) "__init__" = some (some (.ref (He.ma K (He.ga K "Program") "__init__")))),
  fun K => decide (PySem.W.isFn K (.ref (He.ma K (He.ga K "Program") "__init__")) = true),
  fun K => decide (PySem.W.keepIn K (.ref (He.ma K (He.ga K "Program") "__init__")) = true),
  fun K => decide (PySem.W.findIn K (.ref (He.ga K "Program")) "ways" = some (some (.ref (He.ma K (He.ga K "Program") "ways")))),
  fun K => decide (PySem.W.isFn K (.ref (He.ma K (He.ga K "Program") "ways")) = true),
  fun K => decide (PySem.W.keepIn K (.ref (He.ma K (He.ga K "Program") "ways")) = true),
  fun K => decide (PySem.W.findIn K (.ref (He.ga K "Program")) "places" = some (some (.ref (He.ma K (He.ga K "Program") "places")))),
  fun K => decide (PySem.W.isFn K (.ref (He.ma K (He.ga K "Program") "places")) = true),
  fun K => decide (PySem.W.keepIn K (.ref (He.ma K (He.ga K "Program") "places")) = true),
  fun K => decide (PySem.W.findIn K (.ref (He.ga K "Program")) "exits" = some (some (.ref (He.ma K (He.ga K "Program") "exits")))),
  fun K => decide (PySem.W.isFn K (.ref (He.ma K (He.ga K "Program") "exits")) = true),
  fun K => decide (PySem.W.keepIn K (.ref (He.ma K (He.ga K "Program") "exits")) = true),
  fun K => decide (PySem.W.findIn K (.ref (He.ga K "Program")) "__getitem__" = some (some (.ref (He.ma K (He.ga K "Program") "__getitem__")))),
  fun K => decide (PySem.W.isFn K (.ref (He.ma K (He.ga K "Program") "__getitem__")) = true),
  fun K => decide (PySem.W.keepIn K (.ref (He.ma K (He.ga K "Program") "__getitem__")) = true),
  fun K => decide (PySem.W.findIn K (.ref (He.ga K "Program")) "__contains__" = some (some (.ref (He.ma K (He.ga K "Program") "__contains__")))),
  fun K => decide (PySem.W.isFn K (.ref (He.ma K (He.ga K "Program") "__contains__")) = true),
  fun K => decide (PySem.W.keepIn K (.ref (He.ma K (He.ga K "Program") "__contains__")) = true),
  fun K => decide (PySem.W.findIn K (.ref (He.ga K "Program")) "__eq__" = some (some (.ref (He.ma K (He.ga K "Program") "__eq__")))),
  fun K => decide (PySem.W.isFn K (.ref (He.ma K (He.ga K "Program") "__eq__")) = true),
  fun K => decide (PySem.W.keepIn K (.ref (He.ma K (He.ga K "Program") "__eq__")) = true),
  fun K => decide (PySem.W.findIn K (.ref (He.ga K "Counters")) "__init__" = some (some (.ref (He.ma K (He.ga K "Counters") "__init__")))),
  fun K => decide (PySem.W.isFn K (.ref (He.ma K (He.ga K "Counters") "__init__")) = true),
  fun K => decide (PySem.W.keepIn K (.ref (He.ma K (He.ga K "Counters") "__init__")) = true),
  fun K => decide (PySem.W.findIn K (.ref (He.ga K "Counters")) "listed" = some (some (.ref (He.ma K (He.ga K "Counters") "listed")))),
  fun K => decide (PySem.W.isFn K (.ref (He.ma K (He.ga K "Counters") "listed")) = true),
  fun K => decide (PySem.W.keepIn K (.ref (He.ma K (He.ga K "Counters") "listed")) = true),
  fun K => decide (PySem.W.findIn K (.ref (He.ga K "Counters")) "__len__" = some (some (.ref (He.ma K (He.ga K "Counters") "__len__")))),
  fun K => decide (PySem.W.isFn K (.ref (He.ma K (He.ga K "Counters") "__len__")) = true),
  fun K => decide (PySem.W.keepIn K (.ref (He.ma K (He.ga K "Counters") "__len__")) = true),
  fun K => decide (PySem.W.findIn K (.ref (He.ga K "Counters")) "__contains__" = some (some (.ref (He.ma K (He.ga K "Counters") "__contains__")))),
  fun K => decide (PySem.W.isFn K (.ref (He.ma K (He.ga K "Counters") "__contains__")) = true),
  fun K => decide (PySem.W.keepIn K (.ref (He.ma K (He.ga K "Counters") "__contains__")) = true),
  fun K => decide (PySem.W.findIn K (.ref (He.ga K "Counters")) "__add__" = some (some (.ref (He.ma K (He.ga K "Counters") "__add__")))),
  fun K => decide (PySem.W.isFn K (.ref (He.ma K (He.ga K "Counters") "__add__")) = true),
  fun K => decide (PySem.W.keepIn K (.ref (He.ma K (He.ga K "Counters") "__add__")) = true),
  fun K => decide (PySem.W.findIn K (.ref (He.ga K "Counters")) "__iadd__" = some (some (.ref (He.ma K (He.ga K "Counters") "__iadd__")))),
  fun K => decide (PySem.W.isFn K (.ref (He.ma K (He.ga K "Counters") "__iadd__")) = true),
  fun K => decide (PySem.W.keepIn K (.ref (He.ma K (He.ga K "Counters") "__iadd__")) = true),
  fun K => decide (PySem.W.findIn K (.ref (He.ga K "Counters")) "__sub__" = some (some (.ref (He.ma K (He.ga K "Counters") "__sub__")))),
  fun K => decide (PySem.W.isFn K (.ref (He.ma K (He.ga K "Counters") "__sub__")) = true),
  fun K => decide (PySem.W.keepIn K (.ref (He.ma K (He.ga K "Counters") "__sub__")) = true),
  fun K => decide (PySem.W.findIn K (.ref (He.ga K "Counters")) "__isub__" = some (some (.ref (He.ma K (He.ga K "Counters") "__isub__")))),
  fun K => decide (PySem.W.isFn K (.ref (He.ma K (He.ga K "Counters") "__isub__")) = true),
  fun K => decide (PySem.W.keepIn K (.ref (He.ma K (He.ga K "Counters") "__isub__")) = true),
  fun K => decide (PySem.W.findIn K (.ref (He.ga K "Counters")) "__eq__" = some (some (.ref (He.ma K (He.ga K "Counters") "__eq__")))),
  fun K => decide (PySem.W.isFn K (.ref (He.ma K (He.ga K "Counters") "__eq__")) = true),
  fun K => decide (PySem.W.keepIn K (.ref (He.ma K (He.ga K "Counters") "__eq__")) = true),
  fun K => decide (PySem.W.findIn K (.ref (He.ga K "Program")) "begin" = some (some (.ref (He.ma K (He.ga K "Program") "begin")))),
  fun K => decide (PySem.W.specialIn K (.ref (He.ma K (He.ga K "Program") "begin")) "__get__" = some (some (.builtin "property.__get__"))),
  fun K => decide (PySem.W.takesIn K (.ref (He.ma K (He.ga K "Program") "begin")) = some true),
  fun K => decide (PySem.W.recIn K (He.ma K (He.ga K "Program") "begin") "property" = some (.ref (HD.rec0 K (He.ma K (He.ga K "Program") "begin") "property") :: (HD.recR K (He.ma K (He.ga K "Program") "begin") "property"))),
  fun K => decide (PySem.W.keepIn K (.ref (HD.rec0 K (He.ma K (He.ga K "Program") "begin") "property")) = true),
  fun K => decide (PySem.W.findIn K (.ref (He.ga K "Counters")) "program" = some (some (.ref (He.ma K (He.ga K "Counters") "program")))),
  fun K => decide (PySem.W.specialIn K (.ref (He.ma K (He.ga K "Counters") "program")) "__get__" = some (some (.builtin "property.__get__"))),
  fun K => decide (PySem.W.takesIn K (.ref (He.ma K (He.ga K "Counters") "program")) = some true),
  fun K => decide (PySem.W.recIn K (He.ma K (He.ga K "Counters") "program") "property" = some (.ref (HD.rec0 K (He.ma K (He.ga K "Counters") "program") "property") :: (HD.recR K (He.ma K (He.ga K "Counters") "program") "property"))),
  fun K => decide (PySem.W.keepIn K (.ref (HD.rec0 K (He.ma K (He.ga K "Counters") "program") "property")) = true),
  fun K => decide (PySem.W.readsIn K (He.ga K "Counters") (.type "type") = true),
  fun K => decide (PySem.W.specialIn K (.ref (He.ga K "Counters")) "__getattribute__" = some (some (.builtin "type.__getattribute__"))),
  fun K => decide (PySem.W.findCls K (.ref (He.ga K "Counters")) (.type "type") "of_ways" = some (.get (.builtin "staticmethod.__get__") (.ref (HD.stO K (He.ga K "Counters") "of_ways")) .none (.ref (He.ga K "Counters")))),
  fun K => decide (PySem.W.recIn K (HD.stO K (He.ga K "Counters") "of_ways") "staticmethod" = some (.ref (HD.rec0 K (HD.stO K (He.ga K "Counters") "of_ways") "staticmethod") :: (HD.recR K (HD.stO K (He.ga K "Counters") "of_ways") "staticmethod"))),
  fun K => decide (PySem.W.keepIn K (.ref (HD.rec0 K (HD.stO K (He.ga K "Counters") "of_ways") "staticmethod")) = true),
  fun K => decide (PySem.W.findCls K (.ref (He.ga K "Counters")) (.type "type") "everything" = some (.get (.builtin "staticmethod.__get__") (.ref (HD.stO K (He.ga K "Counters") "everything")) .none (.ref (He.ga K "Counters")))),
  fun K => decide (PySem.W.recIn K (HD.stO K (He.ga K "Counters") "everything") "staticmethod" = some (.ref (HD.rec0 K (HD.stO K (He.ga K "Counters") "everything") "staticmethod") :: (HD.recR K (HD.stO K (He.ga K "Counters") "everything") "staticmethod"))),
  fun K => decide (PySem.W.keepIn K (.ref (HD.rec0 K (HD.stO K (He.ga K "Counters") "everything") "staticmethod")) = true),
  fun K => decide (PySem.W.fnIn K (He.ma K (He.ga K "Program") "__getitem__") = true),
  fun K => decide (PySem.W.plainGet K (He.ga K "Program") Str.empty = true),
  fun K => decide (PySem.W.hasDictIn K (He.ga K "Program") = true),
  fun K => decide (PySem.W.plainOver K (He.ga K "Program") = true),
  fun K => decide (PySem.W.findIn K (.ref (He.ga K "Program")) "__setattr__" = some (some (.builtin "object.__setattr__"))),
  fun K => decide (PySem.W.makesIn K (He.ga K "Program") = true),
  fun K => decide (PySem.W.keepIn K (.ref (He.ga K "Program")) = true),
  fun K => decide (PySem.W.plainGet K (He.ga K "Counters") Str.empty = true),
  fun K => decide (PySem.W.hasDictIn K (He.ga K "Counters") = true),
  fun K => decide (PySem.W.plainOver K (He.ga K "Counters") = true),
  fun K => decide (PySem.W.findIn K (.ref (He.ga K "Counters")) "__setattr__" = some (some (.builtin "object.__setattr__"))),
  fun K => decide (PySem.W.makesIn K (He.ga K "Counters") = true),
  fun K => decide (PySem.W.keepIn K (.ref (He.ga K "Counters")) = true),
  fun K => decide (PySem.W.findIn K (.ref (He.ga K "Program")) "links" = some none),
  fun K => decide (PySem.W.findIn K (.ref (He.ga K "Program")) "spots" = some none),
  fun K => decide (PySem.W.findIn K (.ref (He.ga K "Program")) "origin" = some none),
  fun K => decide (PySem.W.findIn K (.ref (He.ga K "Program")) "finals" = some none),
  fun K => decide (PySem.W.findIn K (.ref (He.ga K "Counters")) "base" = some none),
  fun K => decide (PySem.W.findIn K (.ref (He.ga K "Counters")) "chosen" = some none),
  fun K => decide (PySem.W.findIn K (.ref (He.ga K "Program")) "__class__" = some (some (.builtin "object.__class__"))),
  fun K => decide (PySem.W.specialIn K (.builtin "object.__class__") "__get__" = some (some (.builtin "getset_descriptor.__get__"))),
  fun K => decide (PySem.W.takesIn K (.builtin "object.__class__") = some true),
  fun K => decide (PySem.W.mroIn K (He.ga K "Program") (.type "object") = some true),
  fun K => decide (PySem.W.findIn K (.ref (He.ga K "Counters")) "__class__" = some (some (.builtin "object.__class__"))),
  fun K => decide (PySem.W.mroIn K (He.ga K "Counters") (.type "object") = some true),
  fun K => decide (PySem.W.notFirst K (He.ga K "Program") (.ref (He.ga K "Program")) = true),
  fun K => decide (PySem.W.findIn K (.ref (He.ga K "Program")) "__ne__" = some (some (.builtin "object.__ne__"))),
  fun K => decide (PySem.W.notFirst K (He.ga K "Counters") (.ref (He.ga K "Counters")) = true),
  fun K => decide (PySem.W.notFirst K (He.ga K "Counters") (.type "int") = true),
  fun K => decide (PySem.W.kitOne K (.type "int") (.ref (He.ga K "Counters")) = some false),
  fun K => decide (PySem.W.selfFirst K (He.ga K "Counters") = true),
  fun K => decide (PySem.W.nsIn K mainGlobals "RUNS" = some (some (.ref (He.ga K "RUNS")))),
  fun K => He.tupB K "RUNS" [.str "runs"],
  fun K => decide (PySem.W.nsIn K mainGlobals "LETTERS" = some (some (.str "abcdefghijklmnopqrstuvwxyz" (HD.strT K "LETTERS")))),
  fun K => decide (PySem.W.nsIn K mainGlobals "MOST_LETTERS" = some (some (.int 8 (HD.intT K "MOST_LETTERS")))),
  fun K => decide (PySem.W.nsIn K mainGlobals "MOST_WAYS" = some (some (.int 40 (HD.intT K "MOST_WAYS")))),
  fun K => decide (PySem.W.nsIn K mainGlobals "isinstance" = some none),
  fun K => decide (PySem.W.nsIn K mainGlobals "str" = some none),
  fun K => decide (PySem.W.nsIn K mainGlobals "len" = some none),
  fun K => decide (PySem.W.nsIn K mainGlobals "all" = some none),
  fun K => decide (PySem.W.nsIn K mainGlobals "tuple" = some none),
  fun K => decide (PySem.W.nsIn K mainGlobals "dict" = some none),
  fun K => decide (PySem.W.nsIn K mainGlobals "list" = some none),
  fun K => decide (PySem.W.nsIn K mainGlobals "set" = some none),
  fun K => decide (PySem.W.nsIn K mainGlobals "sorted" = some none),
  fun K => decide (PySem.W.nsIn K mainGlobals "range" = some none),
  fun K => decide (PySem.W.nsIn K mainGlobals "min" = some none),
  fun K => decide (PySem.W.nsIn K mainGlobals "max" = some none),
  fun K => decide (PySem.W.nsIn K mainGlobals "int" = some none),
  fun K => decide (PySem.W.nsIn K mainGlobals "enumerate" = some none)]
def dwo_ : HD.FD := ⟨fun K => (He.ga K "is_word"), "is_word", "is_word", defArgs PG.sWord, defBody PG.sWord, defScope PG.sWord⟩
def dam_ : HD.FD := ⟨fun K => (He.ga K "is_among"), "is_among", "is_among", defArgs PG.sAmong, defBody PG.sAmong, defScope PG.sAmong⟩
def dli_ : HD.FD := ⟨fun K => (He.ga K "is_link"), "is_link", "is_link", defArgs PG.sLink, defBody PG.sLink, defScope PG.sLink⟩
def dwa_ : HD.FD := ⟨fun K => (He.ga K "are_ways"), "are_ways", "are_ways", defArgs PG.sWays, defBody PG.sWays, defScope PG.sWays⟩
def dex_ : HD.FD := ⟨fun K => (He.ga K "are_exits"), "are_exits", "are_exits", defArgs PG.sExits, defBody PG.sExits, defScope PG.sExits⟩
def dre_ : HD.FD := ⟨fun K => (He.ga K "reached_from"), "reached_from", "reached_from", defArgs PG.sReach, defBody PG.sReach, defScope PG.sReach⟩
def drq_ : HD.FD := ⟨fun K => (He.ga K "require_program"), "require_program", "require_program", defArgs CT.sReq, defBody CT.sReq, defScope CT.sReq⟩
def dac_ : HD.FD := ⟨fun K => (He.ga K "all_counters"), "all_counters", "all_counters", defArgs CT.sAll, defBody CT.sAll, defScope CT.sAll⟩
def dto_ : HD.FD := ⟨fun K => (He.ga K "is_tuple_of_texts"), "is_tuple_of_texts", "is_tuple_of_texts", defArgs CT.sTot, defBody CT.sTot, defScope CT.sTot⟩
def dkn_ : HD.FD := ⟨fun K => (He.ga K "is_known"), "is_known", "is_known", defArgs CT.sKnown, defBody CT.sKnown, defScope CT.sKnown⟩
def dic_ : HD.FD := ⟨fun K => (He.ga K "is_counter"), "is_counter", "is_counter", defArgs CT.sIsC, defBody CT.sIsC, defScope CT.sIsC⟩
def drp_ : HD.FD := ⟨fun K => (He.ga K "require_partner"), "require_partner", "require_partner", defArgs CT.sPart, defBody CT.sPart, defScope CT.sPart⟩
def dNu_ : HD.FD := ⟨fun K => (He.ga K "_law_numbers"), "_law_numbers", "_law_numbers", defArgs LH.sNum, defBody LH.sNum, defScope LH.sNum⟩
def dPo_ : HD.FD := ⟨fun K => (He.ga K "_law_pool"), "_law_pool", "_law_pool", defArgs LH.sPool, defBody LH.sPool, defScope LH.sPool⟩
def dDr_ : HD.FD := ⟨fun K => (He.ga K "_law_draw"), "_law_draw", "_law_draw", defArgs LH.sDraw, defBody LH.sDraw, defScope LH.sDraw⟩
def dOp_ : HD.FD := ⟨fun K => (He.ga K "_law_opened"), "_law_opened", "_law_opened", defArgs LH.sOpen, defBody LH.sOpen, defScope LH.sOpen⟩
def dWo_ : HD.FD := ⟨fun K => (He.ga K "_law_words"), "_law_words", "_law_words", defArgs LW.sWords, defBody LW.sWords, defScope LW.sWords⟩
def dNa_ : HD.FD := ⟨fun K => (He.ga K "_law_names"), "_law_names", "_law_names", defArgs LW.sNames, defBody LW.sNames, defScope LW.sNames⟩
def dPr_ : HD.FD := ⟨fun K => (He.ga K "_law_program"), "_law_program", "_law_program", defArgs LW.sProgram, defBody LW.sProgram, defScope LW.sProgram⟩
def dMa_ : HD.FD := ⟨fun K => (He.ga K "_law_made"), "_law_made", "_law_made", defArgs LW.sMade, defBody LW.sMade, defScope LW.sMade⟩
def dPl_ : HD.FD := ⟨fun K => (He.ga K "_law_places"), "_law_places", "_law_places", defArgs LW.sLPlaces, defBody LW.sLPlaces, defScope LW.sLPlaces⟩
def dAl_ : HD.FD := ⟨fun K => (He.ga K "_law_all"), "_law_all", "_law_all", defArgs LC.sLAll, defBody LC.sLAll, defScope LC.sLAll⟩
def dSo_ : HD.FD := ⟨fun K => (He.ga K "_law_some"), "_law_some", "_law_some", defArgs LC.sSome, defBody LC.sSome, defScope LC.sSome⟩
def dSe_ : HD.FD := ⟨fun K => (He.ga K "_law_set"), "_law_set", "_law_set", defArgs LC.sSet, defBody LC.sSet, defScope LC.sSet⟩
def dLs_ : HD.FD := ⟨fun K => (He.ga K "_law_listed"), "_law_listed", "_law_listed", defArgs LC.sLListed, defBody LC.sLListed, defScope LC.sLListed⟩
def dRi_ : HD.FD := ⟨fun K => (He.ga K "_law_right"), "_law_right", "_law_right", defArgs LC.sRight, defBody LC.sRight, defScope LC.sRight⟩
def dWr_ : HD.FD := ⟨fun K => (He.ga K "_law_ways_right"), "_law_ways_right", "_law_ways_right", defArgs LC.sWaysR, defBody LC.sWaysR, defScope LC.sWaysR⟩
def dOd_ : HD.FD := ⟨fun K => (He.ga K "_law_odd_out"), "_law_odd_out", "_law_odd_out", defArgs LC.sOdd, defBody LC.sOdd, defScope LC.sOdd⟩
def dLA_ : HD.FD := ⟨fun K => (He.ga K "law"), "law", "law", defArgs LC.sLaw, defBody LC.sLaw, defScope LC.sLaw⟩
def dmI_ : HD.FD := ⟨fun K => (He.ma K (He.ga K "Program") "__init__"), "__init__", "Program.__init__", defArgs PG.sInit, defBody PG.sInit, defScope PG.sInit⟩
def dmW_ : HD.FD := ⟨fun K => (He.ma K (He.ga K "Program") "ways"), "ways", "Program.ways", defArgs PG.sMWays, defBody PG.sMWays, defScope PG.sMWays⟩
def dmP_ : HD.FD := ⟨fun K => (He.ma K (He.ga K "Program") "places"), "places", "Program.places", defArgs PG.sMPlaces, defBody PG.sMPlaces, defScope PG.sMPlaces⟩
def dmE_ : HD.FD := ⟨fun K => (He.ma K (He.ga K "Program") "exits"), "exits", "Program.exits", defArgs PG.sMExits, defBody PG.sMExits, defScope PG.sMExits⟩
def dmG_ : HD.FD := ⟨fun K => (He.ma K (He.ga K "Program") "__getitem__"), "__getitem__", "Program.__getitem__", defArgs PG.sGet, defBody PG.sGet, defScope PG.sGet⟩
def dmH_ : HD.FD := ⟨fun K => (He.ma K (He.ga K "Program") "__contains__"), "__contains__", "Program.__contains__", defArgs PG.sHas, defBody PG.sHas, defScope PG.sHas⟩
def dmQ_ : HD.FD := ⟨fun K => (He.ma K (He.ga K "Program") "__eq__"), "__eq__", "Program.__eq__", defArgs PG.sEq, defBody PG.sEq, defScope PG.sEq⟩
def dnI_ : HD.FD := ⟨fun K => (He.ma K (He.ga K "Counters") "__init__"), "__init__", "Counters.__init__", defArgs CT.sInitC, defBody CT.sInitC, defScope CT.sInitC⟩
def dnL_ : HD.FD := ⟨fun K => (He.ma K (He.ga K "Counters") "listed"), "listed", "Counters.listed", defArgs CT.sListed, defBody CT.sListed, defScope CT.sListed⟩
def dnN_ : HD.FD := ⟨fun K => (He.ma K (He.ga K "Counters") "__len__"), "__len__", "Counters.__len__", defArgs CT.sCLen, defBody CT.sCLen, defScope CT.sCLen⟩
def dnH_ : HD.FD := ⟨fun K => (He.ma K (He.ga K "Counters") "__contains__"), "__contains__", "Counters.__contains__", defArgs CT.sCHas, defBody CT.sCHas, defScope CT.sCHas⟩
def dnA_ : HD.FD := ⟨fun K => (He.ma K (He.ga K "Counters") "__add__"), "__add__", "Counters.__add__", defArgs CT.sAdd, defBody CT.sAdd, defScope CT.sAdd⟩
def dnU_ : HD.FD := ⟨fun K => (He.ma K (He.ga K "Counters") "__iadd__"), "__iadd__", "Counters.__iadd__", defArgs CT.sIadd, defBody CT.sIadd, defScope CT.sIadd⟩
def dnS_ : HD.FD := ⟨fun K => (He.ma K (He.ga K "Counters") "__sub__"), "__sub__", "Counters.__sub__", defArgs CT.sSub, defBody CT.sSub, defScope CT.sSub⟩
def dnV_ : HD.FD := ⟨fun K => (He.ma K (He.ga K "Counters") "__isub__"), "__isub__", "Counters.__isub__", defArgs CT.sIsub, defBody CT.sIsub, defScope CT.sIsub⟩
def dnQ_ : HD.FD := ⟨fun K => (He.ma K (He.ga K "Counters") "__eq__"), "__eq__", "Counters.__eq__", defArgs CT.sCEq, defBody CT.sCEq, defScope CT.sCEq⟩
def dmB_ : HD.FD := ⟨fun K => (HD.rec0 K (He.ma K (He.ga K "Program") "begin") "property"), "begin", "Program.begin", defArgs PG.sBegin, defBody PG.sBegin, defScope PG.sBegin⟩
def dnP_ : HD.FD := ⟨fun K => (HD.rec0 K (He.ma K (He.ga K "Counters") "program") "property"), "program", "Counters.program", defArgs CT.sCProg, defBody CT.sCProg, defScope CT.sCProg⟩
def dnW_ : HD.FD := ⟨fun K => (HD.rec0 K (HD.stO K (He.ga K "Counters") "of_ways") "staticmethod"), "of_ways", "Counters.of_ways", defArgs CT.sOfWays, defBody CT.sOfWays, defScope CT.sOfWays⟩
def dnE_ : HD.FD := ⟨fun K => (HD.rec0 K (HD.stO K (He.ga K "Counters") "everything") "staticmethod"), "everything", "Counters.everything", defArgs CT.sEvery, defBody CT.sEvery, defScope CT.sEvery⟩
def fn0 : List HD.FD := [dwo_, dam_, dli_, dwa_, dex_, dre_, drq_, dac_, dto_, dkn_, dic_, drp_, dNu_, dPo_, dDr_, dOp_, dWo_, dNa_, dPr_, dMa_, dPl_, dAl_, dSo_, dSe_, dLs_, dRi_, dWr_, dOd_, dLA_, dmI_, dmW_, dmP_, dmE_, dmG_, dmH_, dmQ_, dnI_, dnL_, dnN_, dnH_, dnA_, dnU_, dnS_, dnV_, dnQ_, dmB_, dnP_, dnW_, dnE_]
abbrev R0 : PySem.W.OpenRow := PySem.W.OpenLaw.row PySem.Challenge.rw_countededges_k05_counters_in_sets
abbrev hk0 : PySem.W.Hook := HD.hook 5 fa0 fn0
def ob0 (s : PySem.W.SharedT) : HD.Al := HD.obsG 5 fa0 fn0 (HandSHeadRun.getT s)
theorem ob_eq0 (s : PySem.W.SharedT) : ob0 s = hk0.obs s.abs := HD.obsG_eq (HandSHeadRun.getT_eq s)
def loose0 : List PySem.Str := ["_wall", "CountError", "BadArgument", "BadProgram", "BadWay", "BadCounter", "LETTERS", "MOST_LETTERS", "MOST_WAYS", "is_word", "is_among", "is_link", "are_ways", "are_exits", "reached_from", "Program", "require_program", "RUNS", "all_counters", "is_tuple_of_texts", "is_known", "is_counter", "Counters", "require_partner", "_law_numbers", "_law_pool", "_law_draw", "_law_opened", "_law_words", "_law_names"]
def loose1 : List PySem.Str := ["_law_program", "_law_made", "_law_places", "_law_all", "_law_some", "_law_set", "_law_listed", "_law_right", "_law_ways_right", "_law_odd_out"]
def loose_ : List PySem.Str := loose0 ++ loose1
theorem run0 (w : World) : HandSHeadRun.RunEq R0 (PySem.W.view R0.prog [44]) hk0 ob0 20000 loose_ w := by
  intro os
  kernel_rfl
theorem facts0 {P : PySem.W.OpenLaw} {w : World} {K : PySem.W.Frag} {h : Heap} {mg : Str → Option Value} {fa : Addr} (X : K.In h) (G : h.Ns mainGlobals mg) (hfa : mg "law" = some (.ref fa)) (c : HD.Says fa0 fn0 K) :
    ∃ fd : FuncData, (∀ (s : Shared) (v : Value), BindsTo s fd ⟨[v], []⟩ [("script", v)]) ∧ ∀ base : Heap, K.In base → base.Ns mainGlobals mg → FnOk P.prog w K mg base CX0 9 fa fd ["script"] (LC.spLaw K) := by
  obtain ⟨_, _, _, _, _, _, _, _, _, lwo, cwo⟩ := c.def_ 0 (d := dwo_) rfl
  obtain ⟨_, _, _, _, _, _, _, _, _, lam, cam⟩ := c.def_ 1 (d := dam_) rfl
  obtain ⟨_, _, _, _, _, _, _, _, _, lli, cli⟩ := c.def_ 2 (d := dli_) rfl
  obtain ⟨_, _, _, _, _, _, _, _, _, lwa, cwa⟩ := c.def_ 3 (d := dwa_) rfl
  obtain ⟨_, _, _, _, _, _, _, _, _, lex, cex⟩ := c.def_ 4 (d := dex_) rfl
  obtain ⟨_, _, _, _, _, _, _, _, _, lre, cre⟩ := c.def_ 5 (d := dre_) rfl
  obtain ⟨_, _, _, _, _, _, _, _, _, lrq, crq⟩ := c.def_ 6 (d := drq_) rfl
  obtain ⟨_, _, _, _, _, _, _, _, _, lac, cac⟩ := c.def_ 7 (d := dac_) rfl
  obtain ⟨_, _, _, _, _, _, _, _, _, lto, cto⟩ := c.def_ 8 (d := dto_) rfl
  obtain ⟨_, _, _, _, _, _, _, _, _, lkn, ckn⟩ := c.def_ 9 (d := dkn_) rfl
  obtain ⟨_, _, _, _, _, _, _, _, _, lic, cic⟩ := c.def_ 10 (d := dic_) rfl
  obtain ⟨_, _, _, _, _, _, _, _, _, lrp, crp⟩ := c.def_ 11 (d := drp_) rfl
  obtain ⟨_, _, _, _, _, _, _, _, _, lNu, cNu⟩ := c.def_ 12 (d := dNu_) rfl
  obtain ⟨_, _, _, _, _, _, _, _, _, lPo, cPo⟩ := c.def_ 13 (d := dPo_) rfl
  obtain ⟨_, _, _, _, _, _, _, _, _, lDr, cDr⟩ := c.def_ 14 (d := dDr_) rfl
  obtain ⟨_, _, _, _, _, _, _, _, _, lOp, cOp⟩ := c.def_ 15 (d := dOp_) rfl
  obtain ⟨_, _, _, _, _, _, _, _, _, lWo, cWo⟩ := c.def_ 16 (d := dWo_) rfl
  obtain ⟨_, _, _, _, _, _, _, _, _, lNa, cNa⟩ := c.def_ 17 (d := dNa_) rfl
  obtain ⟨_, _, _, _, _, _, _, _, _, lPr, cPr⟩ := c.def_ 18 (d := dPr_) rfl
  obtain ⟨_, _, _, _, _, _, _, _, _, lMa, cMa⟩ := c.def_ 19 (d := dMa_) rfl
  obtain ⟨_, _, _, _, _, _, _, _, _, lPl, cPl⟩ := c.def_ 20 (d := dPl_) rfl
  obtain ⟨_, _, _, _, _, _, _, _, _, lAl, cAl⟩ := c.def_ 21 (d := dAl_) rfl
  obtain ⟨_, _, _, _, _, _, _, _, _, lSo, cSo⟩ := c.def_ 22 (d := dSo_) rfl
  obtain ⟨_, _, _, _, _, _, _, _, _, lSe, cSe⟩ := c.def_ 23 (d := dSe_) rfl
  obtain ⟨_, _, _, _, _, _, _, _, _, lLs, cLs⟩ := c.def_ 24 (d := dLs_) rfl
  obtain ⟨_, _, _, _, _, _, _, _, _, lRi, cRi⟩ := c.def_ 25 (d := dRi_) rfl
  obtain ⟨_, _, _, _, _, _, _, _, _, lWr, cWr⟩ := c.def_ 26 (d := dWr_) rfl
  obtain ⟨_, _, _, _, _, _, _, _, _, lOd, cOd⟩ := c.def_ 27 (d := dOd_) rfl
  obtain ⟨_, _, _, _, _, _, _, _, _, lLA, cLA⟩ := c.def_ 28 (d := dLA_) rfl
  obtain ⟨_, _, _, _, _, _, _, _, _, lmI, cmI⟩ := c.def_ 29 (d := dmI_) rfl
  obtain ⟨_, _, _, _, _, _, _, _, _, lmW, cmW⟩ := c.def_ 30 (d := dmW_) rfl
  obtain ⟨_, _, _, _, _, _, _, _, _, lmP, cmP⟩ := c.def_ 31 (d := dmP_) rfl
  obtain ⟨_, _, _, _, _, _, _, _, _, lmE, cmE⟩ := c.def_ 32 (d := dmE_) rfl
  obtain ⟨_, _, _, _, _, _, _, _, _, lmG, cmG⟩ := c.def_ 33 (d := dmG_) rfl
  obtain ⟨_, _, _, _, _, _, _, _, _, lmH, cmH⟩ := c.def_ 34 (d := dmH_) rfl
  obtain ⟨_, _, _, _, _, _, _, _, _, lmQ, cmQ⟩ := c.def_ 35 (d := dmQ_) rfl
  obtain ⟨_, _, _, _, _, _, _, _, _, lnI, cnI⟩ := c.def_ 36 (d := dnI_) rfl
  obtain ⟨_, _, _, _, _, _, _, _, _, lnL, cnL⟩ := c.def_ 37 (d := dnL_) rfl
  obtain ⟨_, _, _, _, _, _, _, _, _, lnN, cnN⟩ := c.def_ 38 (d := dnN_) rfl
  obtain ⟨_, _, _, _, _, _, _, _, _, lnH, cnH⟩ := c.def_ 39 (d := dnH_) rfl
  obtain ⟨_, _, _, _, _, _, _, _, _, lnA, cnA⟩ := c.def_ 40 (d := dnA_) rfl
  obtain ⟨_, _, _, _, _, _, _, _, _, lnU, cnU⟩ := c.def_ 41 (d := dnU_) rfl
  obtain ⟨_, _, _, _, _, _, _, _, _, lnS, cnS⟩ := c.def_ 42 (d := dnS_) rfl
  obtain ⟨_, _, _, _, _, _, _, _, _, lnV, cnV⟩ := c.def_ 43 (d := dnV_) rfl
  obtain ⟨_, _, _, _, _, _, _, _, _, lnQ, cnQ⟩ := c.def_ 44 (d := dnQ_) rfl
  obtain ⟨_, _, _, _, _, _, _, _, _, lmB, cmB⟩ := c.def_ 45 (d := dmB_) rfl
  obtain ⟨_, _, _, _, _, _, _, _, _, lnP, cnP⟩ := c.def_ 46 (d := dnP_) rfl
  obtain ⟨_, _, _, _, _, _, _, _, _, lnW, cnW⟩ := c.def_ 47 (d := dnW_) rfl
  obtain ⟨_, _, _, _, _, _, _, _, _, lnE, cnE⟩ := c.def_ 48 (d := dnE_) rfl
  have aC : PySem.W.nsIn K mainGlobals "Program" = some (some (.ref (He.ga K "Program"))) := of_decide_eq_true (c.fact 0 rfl)
  have aD : PySem.W.nsIn K mainGlobals "Counters" = some (some (.ref (He.ga K "Counters"))) := of_decide_eq_true (c.fact 1 rfl)
  have awo : PySem.W.nsIn K mainGlobals "is_word" = some (some (.ref (He.ga K "is_word"))) := of_decide_eq_true (c.fact 2 rfl)
  have kwo : PySem.W.keepIn K (.ref (He.ga K "is_word")) = true := of_decide_eq_true (c.fact 3 rfl)
  have aam : PySem.W.nsIn K mainGlobals "is_among" = some (some (.ref (He.ga K "is_among"))) := of_decide_eq_true (c.fact 4 rfl)
  have kam : PySem.W.keepIn K (.ref (He.ga K "is_among")) = true := of_decide_eq_true (c.fact 5 rfl)
  have ali : PySem.W.nsIn K mainGlobals "is_link" = some (some (.ref (He.ga K "is_link"))) := of_decide_eq_true (c.fact 6 rfl)
  have kli : PySem.W.keepIn K (.ref (He.ga K "is_link")) = true := of_decide_eq_true (c.fact 7 rfl)
  have awa : PySem.W.nsIn K mainGlobals "are_ways" = some (some (.ref (He.ga K "are_ways"))) := of_decide_eq_true (c.fact 8 rfl)
  have kwa : PySem.W.keepIn K (.ref (He.ga K "are_ways")) = true := of_decide_eq_true (c.fact 9 rfl)
  have aex : PySem.W.nsIn K mainGlobals "are_exits" = some (some (.ref (He.ga K "are_exits"))) := of_decide_eq_true (c.fact 10 rfl)
  have kex : PySem.W.keepIn K (.ref (He.ga K "are_exits")) = true := of_decide_eq_true (c.fact 11 rfl)
  have are : PySem.W.nsIn K mainGlobals "reached_from" = some (some (.ref (He.ga K "reached_from"))) := of_decide_eq_true (c.fact 12 rfl)
  have kre : PySem.W.keepIn K (.ref (He.ga K "reached_from")) = true := of_decide_eq_true (c.fact 13 rfl)
  have arq : PySem.W.nsIn K mainGlobals "require_program" = some (some (.ref (He.ga K "require_program"))) := of_decide_eq_true (c.fact 14 rfl)
  have krq : PySem.W.keepIn K (.ref (He.ga K "require_program")) = true := of_decide_eq_true (c.fact 15 rfl)
  have aac : PySem.W.nsIn K mainGlobals "all_counters" = some (some (.ref (He.ga K "all_counters"))) := of_decide_eq_true (c.fact 16 rfl)
  have kac : PySem.W.keepIn K (.ref (He.ga K "all_counters")) = true := of_decide_eq_true (c.fact 17 rfl)
  have ato : PySem.W.nsIn K mainGlobals "is_tuple_of_texts" = some (some (.ref (He.ga K "is_tuple_of_texts"))) := of_decide_eq_true (c.fact 18 rfl)
  have kto : PySem.W.keepIn K (.ref (He.ga K "is_tuple_of_texts")) = true := of_decide_eq_true (c.fact 19 rfl)
  have akn : PySem.W.nsIn K mainGlobals "is_known" = some (some (.ref (He.ga K "is_known"))) := of_decide_eq_true (c.fact 20 rfl)
  have kkn : PySem.W.keepIn K (.ref (He.ga K "is_known")) = true := of_decide_eq_true (c.fact 21 rfl)
  have aic : PySem.W.nsIn K mainGlobals "is_counter" = some (some (.ref (He.ga K "is_counter"))) := of_decide_eq_true (c.fact 22 rfl)
  have kic : PySem.W.keepIn K (.ref (He.ga K "is_counter")) = true := of_decide_eq_true (c.fact 23 rfl)
  have arp : PySem.W.nsIn K mainGlobals "require_partner" = some (some (.ref (He.ga K "require_partner"))) := of_decide_eq_true (c.fact 24 rfl)
  have krp : PySem.W.keepIn K (.ref (He.ga K "require_partner")) = true := of_decide_eq_true (c.fact 25 rfl)
  have aNu : PySem.W.nsIn K mainGlobals "_law_numbers" = some (some (.ref (He.ga K "_law_numbers"))) := of_decide_eq_true (c.fact 26 rfl)
  have kNu : PySem.W.keepIn K (.ref (He.ga K "_law_numbers")) = true := of_decide_eq_true (c.fact 27 rfl)
  have aPo : PySem.W.nsIn K mainGlobals "_law_pool" = some (some (.ref (He.ga K "_law_pool"))) := of_decide_eq_true (c.fact 28 rfl)
  have kPo : PySem.W.keepIn K (.ref (He.ga K "_law_pool")) = true := of_decide_eq_true (c.fact 29 rfl)
  have aDr : PySem.W.nsIn K mainGlobals "_law_draw" = some (some (.ref (He.ga K "_law_draw"))) := of_decide_eq_true (c.fact 30 rfl)
  have kDr : PySem.W.keepIn K (.ref (He.ga K "_law_draw")) = true := of_decide_eq_true (c.fact 31 rfl)
  have aOp : PySem.W.nsIn K mainGlobals "_law_opened" = some (some (.ref (He.ga K "_law_opened"))) := of_decide_eq_true (c.fact 32 rfl)
  have kOp : PySem.W.keepIn K (.ref (He.ga K "_law_opened")) = true := of_decide_eq_true (c.fact 33 rfl)
  have aWo : PySem.W.nsIn K mainGlobals "_law_words" = some (some (.ref (He.ga K "_law_words"))) := of_decide_eq_true (c.fact 34 rfl)
  have kWo : PySem.W.keepIn K (.ref (He.ga K "_law_words")) = true := of_decide_eq_true (c.fact 35 rfl)
  have aNa : PySem.W.nsIn K mainGlobals "_law_names" = some (some (.ref (He.ga K "_law_names"))) := of_decide_eq_true (c.fact 36 rfl)
  have kNa : PySem.W.keepIn K (.ref (He.ga K "_law_names")) = true := of_decide_eq_true (c.fact 37 rfl)
  have aPr : PySem.W.nsIn K mainGlobals "_law_program" = some (some (.ref (He.ga K "_law_program"))) := of_decide_eq_true (c.fact 38 rfl)
  have kPr : PySem.W.keepIn K (.ref (He.ga K "_law_program")) = true := of_decide_eq_true (c.fact 39 rfl)
  have aMa : PySem.W.nsIn K mainGlobals "_law_made" = some (some (.ref (He.ga K "_law_made"))) := of_decide_eq_true (c.fact 40 rfl)
  have kMa : PySem.W.keepIn K (.ref (He.ga K "_law_made")) = true := of_decide_eq_true (c.fact 41 rfl)
  have aPl : PySem.W.nsIn K mainGlobals "_law_places" = some (some (.ref (He.ga K "_law_places"))) := of_decide_eq_true (c.fact 42 rfl)
  have kPl : PySem.W.keepIn K (.ref (He.ga K "_law_places")) = true := of_decide_eq_true (c.fact 43 rfl)
  have aAl : PySem.W.nsIn K mainGlobals "_law_all" = some (some (.ref (He.ga K "_law_all"))) := of_decide_eq_true (c.fact 44 rfl)
  have kAl : PySem.W.keepIn K (.ref (He.ga K "_law_all")) = true := of_decide_eq_true (c.fact 45 rfl)
  have aSo : PySem.W.nsIn K mainGlobals "_law_some" = some (some (.ref (He.ga K "_law_some"))) := of_decide_eq_true (c.fact 46 rfl)
  have kSo : PySem.W.keepIn K (.ref (He.ga K "_law_some")) = true := of_decide_eq_true (c.fact 47 rfl)
  have aSe : PySem.W.nsIn K mainGlobals "_law_set" = some (some (.ref (He.ga K "_law_set"))) := of_decide_eq_true (c.fact 48 rfl)
  have kSe : PySem.W.keepIn K (.ref (He.ga K "_law_set")) = true := of_decide_eq_true (c.fact 49 rfl)
  have aLs : PySem.W.nsIn K mainGlobals "_law_listed" = some (some (.ref (He.ga K "_law_listed"))) := of_decide_eq_true (c.fact 50 rfl)
  have kLs : PySem.W.keepIn K (.ref (He.ga K "_law_listed")) = true := of_decide_eq_true (c.fact 51 rfl)
  have aRi : PySem.W.nsIn K mainGlobals "_law_right" = some (some (.ref (He.ga K "_law_right"))) := of_decide_eq_true (c.fact 52 rfl)
  have kRi : PySem.W.keepIn K (.ref (He.ga K "_law_right")) = true := of_decide_eq_true (c.fact 53 rfl)
  have aWr : PySem.W.nsIn K mainGlobals "_law_ways_right" = some (some (.ref (He.ga K "_law_ways_right"))) := of_decide_eq_true (c.fact 54 rfl)
  have kWr : PySem.W.keepIn K (.ref (He.ga K "_law_ways_right")) = true := of_decide_eq_true (c.fact 55 rfl)
  have aOd : PySem.W.nsIn K mainGlobals "_law_odd_out" = some (some (.ref (He.ga K "_law_odd_out"))) := of_decide_eq_true (c.fact 56 rfl)
  have kOd : PySem.W.keepIn K (.ref (He.ga K "_law_odd_out")) = true := of_decide_eq_true (c.fact 57 rfl)
  have aLA : PySem.W.nsIn K mainGlobals "law" = some (some (.ref (He.ga K "law"))) := of_decide_eq_true (c.fact 58 rfl)
  have kLA : PySem.W.keepIn K (.ref (He.ga K "law")) = true := of_decide_eq_true (c.fact 59 rfl)
  have amI : PySem.W.findIn K (.ref (He.ga K "Program")) "__init__" = some (some (.ref (He.ma K (He.ga K "Program") "__init__"))) := of_decide_eq_true (c.fact 60 rfl)
  have imI : PySem.W.isFn K (.ref (He.ma K (He.ga K "Program") "__init__")) = true := of_decide_eq_true (c.fact 61 rfl)
  have kmI : PySem.W.keepIn K (.ref (He.ma K (He.ga K "Program") "__init__")) = true := of_decide_eq_true (c.fact 62 rfl)
  have amW : PySem.W.findIn K (.ref (He.ga K "Program")) "ways" = some (some (.ref (He.ma K (He.ga K "Program") "ways"))) := of_decide_eq_true (c.fact 63 rfl)
  have imW : PySem.W.isFn K (.ref (He.ma K (He.ga K "Program") "ways")) = true := of_decide_eq_true (c.fact 64 rfl)
  have kmW : PySem.W.keepIn K (.ref (He.ma K (He.ga K "Program") "ways")) = true := of_decide_eq_true (c.fact 65 rfl)
  have amP : PySem.W.findIn K (.ref (He.ga K "Program")) "places" = some (some (.ref (He.ma K (He.ga K "Program") "places"))) := of_decide_eq_true (c.fact 66 rfl)
  have imP : PySem.W.isFn K (.ref (He.ma K (He.ga K "Program") "places")) = true := of_decide_eq_true (c.fact 67 rfl)
  have kmP : PySem.W.keepIn K (.ref (He.ma K (He.ga K "Program") "places")) = true := of_decide_eq_true (c.fact 68 rfl)
  have amE : PySem.W.findIn K (.ref (He.ga K "Program")) "exits" = some (some (.ref (He.ma K (He.ga K "Program") "exits"))) := of_decide_eq_true (c.fact 69 rfl)
  have imE : PySem.W.isFn K (.ref (He.ma K (He.ga K "Program") "exits")) = true := of_decide_eq_true (c.fact 70 rfl)
  have kmE : PySem.W.keepIn K (.ref (He.ma K (He.ga K "Program") "exits")) = true := of_decide_eq_true (c.fact 71 rfl)
  have amG : PySem.W.findIn K (.ref (He.ga K "Program")) "__getitem__" = some (some (.ref (He.ma K (He.ga K "Program") "__getitem__"))) := of_decide_eq_true (c.fact 72 rfl)
  have imG : PySem.W.isFn K (.ref (He.ma K (He.ga K "Program") "__getitem__")) = true := of_decide_eq_true (c.fact 73 rfl)
  have kmG : PySem.W.keepIn K (.ref (He.ma K (He.ga K "Program") "__getitem__")) = true := of_decide_eq_true (c.fact 74 rfl)
  have amH : PySem.W.findIn K (.ref (He.ga K "Program")) "__contains__" = some (some (.ref (He.ma K (He.ga K "Program") "__contains__"))) := of_decide_eq_true (c.fact 75 rfl)
  have imH : PySem.W.isFn K (.ref (He.ma K (He.ga K "Program") "__contains__")) = true := of_decide_eq_true (c.fact 76 rfl)
  have kmH : PySem.W.keepIn K (.ref (He.ma K (He.ga K "Program") "__contains__")) = true := of_decide_eq_true (c.fact 77 rfl)
  have amQ : PySem.W.findIn K (.ref (He.ga K "Program")) "__eq__" = some (some (.ref (He.ma K (He.ga K "Program") "__eq__"))) := of_decide_eq_true (c.fact 78 rfl)
  have imQ : PySem.W.isFn K (.ref (He.ma K (He.ga K "Program") "__eq__")) = true := of_decide_eq_true (c.fact 79 rfl)
  have kmQ : PySem.W.keepIn K (.ref (He.ma K (He.ga K "Program") "__eq__")) = true := of_decide_eq_true (c.fact 80 rfl)
  have anI : PySem.W.findIn K (.ref (He.ga K "Counters")) "__init__" = some (some (.ref (He.ma K (He.ga K "Counters") "__init__"))) := of_decide_eq_true (c.fact 81 rfl)
  have inI : PySem.W.isFn K (.ref (He.ma K (He.ga K "Counters") "__init__")) = true := of_decide_eq_true (c.fact 82 rfl)
  have knI : PySem.W.keepIn K (.ref (He.ma K (He.ga K "Counters") "__init__")) = true := of_decide_eq_true (c.fact 83 rfl)
  have anL : PySem.W.findIn K (.ref (He.ga K "Counters")) "listed" = some (some (.ref (He.ma K (He.ga K "Counters") "listed"))) := of_decide_eq_true (c.fact 84 rfl)
  have inL : PySem.W.isFn K (.ref (He.ma K (He.ga K "Counters") "listed")) = true := of_decide_eq_true (c.fact 85 rfl)
  have knL : PySem.W.keepIn K (.ref (He.ma K (He.ga K "Counters") "listed")) = true := of_decide_eq_true (c.fact 86 rfl)
  have anN : PySem.W.findIn K (.ref (He.ga K "Counters")) "__len__" = some (some (.ref (He.ma K (He.ga K "Counters") "__len__"))) := of_decide_eq_true (c.fact 87 rfl)
  have inN : PySem.W.isFn K (.ref (He.ma K (He.ga K "Counters") "__len__")) = true := of_decide_eq_true (c.fact 88 rfl)
  have knN : PySem.W.keepIn K (.ref (He.ma K (He.ga K "Counters") "__len__")) = true := of_decide_eq_true (c.fact 89 rfl)
  have anH : PySem.W.findIn K (.ref (He.ga K "Counters")) "__contains__" = some (some (.ref (He.ma K (He.ga K "Counters") "__contains__"))) := of_decide_eq_true (c.fact 90 rfl)
  have inH : PySem.W.isFn K (.ref (He.ma K (He.ga K "Counters") "__contains__")) = true := of_decide_eq_true (c.fact 91 rfl)
  have knH : PySem.W.keepIn K (.ref (He.ma K (He.ga K "Counters") "__contains__")) = true := of_decide_eq_true (c.fact 92 rfl)
  have anA : PySem.W.findIn K (.ref (He.ga K "Counters")) "__add__" = some (some (.ref (He.ma K (He.ga K "Counters") "__add__"))) := of_decide_eq_true (c.fact 93 rfl)
  have inA : PySem.W.isFn K (.ref (He.ma K (He.ga K "Counters") "__add__")) = true := of_decide_eq_true (c.fact 94 rfl)
  have knA : PySem.W.keepIn K (.ref (He.ma K (He.ga K "Counters") "__add__")) = true := of_decide_eq_true (c.fact 95 rfl)
  have anU : PySem.W.findIn K (.ref (He.ga K "Counters")) "__iadd__" = some (some (.ref (He.ma K (He.ga K "Counters") "__iadd__"))) := of_decide_eq_true (c.fact 96 rfl)
  have inU : PySem.W.isFn K (.ref (He.ma K (He.ga K "Counters") "__iadd__")) = true := of_decide_eq_true (c.fact 97 rfl)
  have knU : PySem.W.keepIn K (.ref (He.ma K (He.ga K "Counters") "__iadd__")) = true := of_decide_eq_true (c.fact 98 rfl)
  have anS : PySem.W.findIn K (.ref (He.ga K "Counters")) "__sub__" = some (some (.ref (He.ma K (He.ga K "Counters") "__sub__"))) := of_decide_eq_true (c.fact 99 rfl)
  have inS : PySem.W.isFn K (.ref (He.ma K (He.ga K "Counters") "__sub__")) = true := of_decide_eq_true (c.fact 100 rfl)
  have knS : PySem.W.keepIn K (.ref (He.ma K (He.ga K "Counters") "__sub__")) = true := of_decide_eq_true (c.fact 101 rfl)
  have anV : PySem.W.findIn K (.ref (He.ga K "Counters")) "__isub__" = some (some (.ref (He.ma K (He.ga K "Counters") "__isub__"))) := of_decide_eq_true (c.fact 102 rfl)
  have inV : PySem.W.isFn K (.ref (He.ma K (He.ga K "Counters") "__isub__")) = true := of_decide_eq_true (c.fact 103 rfl)
  have knV : PySem.W.keepIn K (.ref (He.ma K (He.ga K "Counters") "__isub__")) = true := of_decide_eq_true (c.fact 104 rfl)
  have anQ : PySem.W.findIn K (.ref (He.ga K "Counters")) "__eq__" = some (some (.ref (He.ma K (He.ga K "Counters") "__eq__"))) := of_decide_eq_true (c.fact 105 rfl)
  have inQ : PySem.W.isFn K (.ref (He.ma K (He.ga K "Counters") "__eq__")) = true := of_decide_eq_true (c.fact 106 rfl)
  have knQ : PySem.W.keepIn K (.ref (He.ma K (He.ga K "Counters") "__eq__")) = true := of_decide_eq_true (c.fact 107 rfl)
  have apB : PySem.W.findIn K (.ref (He.ga K "Program")) "begin" = some (some (.ref (He.ma K (He.ga K "Program") "begin"))) := of_decide_eq_true (c.fact 108 rfl)
  have gpB : PySem.W.specialIn K (.ref (He.ma K (He.ga K "Program") "begin")) "__get__" = some (some (.builtin "property.__get__")) := of_decide_eq_true (c.fact 109 rfl)
  have tpB : PySem.W.takesIn K (.ref (He.ma K (He.ga K "Program") "begin")) = some true := of_decide_eq_true (c.fact 110 rfl)
  have rpB : PySem.W.recIn K (He.ma K (He.ga K "Program") "begin") "property" = some (.ref (HD.rec0 K (He.ma K (He.ga K "Program") "begin") "property") :: (HD.recR K (He.ma K (He.ga K "Program") "begin") "property")) := of_decide_eq_true (c.fact 111 rfl)
  have kmB : PySem.W.keepIn K (.ref (HD.rec0 K (He.ma K (He.ga K "Program") "begin") "property")) = true := of_decide_eq_true (c.fact 112 rfl)
  have apP : PySem.W.findIn K (.ref (He.ga K "Counters")) "program" = some (some (.ref (He.ma K (He.ga K "Counters") "program"))) := of_decide_eq_true (c.fact 113 rfl)
  have gpP : PySem.W.specialIn K (.ref (He.ma K (He.ga K "Counters") "program")) "__get__" = some (some (.builtin "property.__get__")) := of_decide_eq_true (c.fact 114 rfl)
  have tpP : PySem.W.takesIn K (.ref (He.ma K (He.ga K "Counters") "program")) = some true := of_decide_eq_true (c.fact 115 rfl)
  have rpP : PySem.W.recIn K (He.ma K (He.ga K "Counters") "program") "property" = some (.ref (HD.rec0 K (He.ma K (He.ga K "Counters") "program") "property") :: (HD.recR K (He.ma K (He.ga K "Counters") "program") "property")) := of_decide_eq_true (c.fact 116 rfl)
  have knP : PySem.W.keepIn K (.ref (HD.rec0 K (He.ma K (He.ga K "Counters") "program") "property")) = true := of_decide_eq_true (c.fact 117 rfl)
  have rd : PySem.W.readsIn K (He.ga K "Counters") (.type "type") = true := of_decide_eq_true (c.fact 118 rfl)
  have ga : PySem.W.specialIn K (.ref (He.ga K "Counters")) "__getattribute__" = some (some (.builtin "type.__getattribute__")) := of_decide_eq_true (c.fact 119 rfl)
  have snW : PySem.W.findCls K (.ref (He.ga K "Counters")) (.type "type") "of_ways" = some (.get (.builtin "staticmethod.__get__") (.ref (HD.stO K (He.ga K "Counters") "of_ways")) .none (.ref (He.ga K "Counters"))) := of_decide_eq_true (c.fact 120 rfl)
  have rnW : PySem.W.recIn K (HD.stO K (He.ga K "Counters") "of_ways") "staticmethod" = some (.ref (HD.rec0 K (HD.stO K (He.ga K "Counters") "of_ways") "staticmethod") :: (HD.recR K (HD.stO K (He.ga K "Counters") "of_ways") "staticmethod")) := of_decide_eq_true (c.fact 121 rfl)
  have knW : PySem.W.keepIn K (.ref (HD.rec0 K (HD.stO K (He.ga K "Counters") "of_ways") "staticmethod")) = true := of_decide_eq_true (c.fact 122 rfl)
  have snE : PySem.W.findCls K (.ref (He.ga K "Counters")) (.type "type") "everything" = some (.get (.builtin "staticmethod.__get__") (.ref (HD.stO K (He.ga K "Counters") "everything")) .none (.ref (He.ga K "Counters"))) := of_decide_eq_true (c.fact 123 rfl)
  have rnE : PySem.W.recIn K (HD.stO K (He.ga K "Counters") "everything") "staticmethod" = some (.ref (HD.rec0 K (HD.stO K (He.ga K "Counters") "everything") "staticmethod") :: (HD.recR K (HD.stO K (He.ga K "Counters") "everything") "staticmethod")) := of_decide_eq_true (c.fact 124 rfl)
  have knE : PySem.W.keepIn K (.ref (HD.rec0 K (HD.stO K (He.ga K "Counters") "everything") "staticmethod")) = true := of_decide_eq_true (c.fact 125 rfl)
  have ng : PySem.W.fnIn K (He.ma K (He.ga K "Program") "__getitem__") = true := of_decide_eq_true (c.fact 126 rfl)
  have pg : PySem.W.plainGet K (He.ga K "Program") Str.empty = true := of_decide_eq_true (c.fact 127 rfl)
  have hd : PySem.W.hasDictIn K (He.ga K "Program") = true := of_decide_eq_true (c.fact 128 rfl)
  have po : PySem.W.plainOver K (He.ga K "Program") = true := of_decide_eq_true (c.fact 129 rfl)
  have sa : PySem.W.findIn K (.ref (He.ga K "Program")) "__setattr__" = some (some (.builtin "object.__setattr__")) := of_decide_eq_true (c.fact 130 rfl)
  have mk : PySem.W.makesIn K (He.ga K "Program") = true := of_decide_eq_true (c.fact 131 rfl)
  have kc : PySem.W.keepIn K (.ref (He.ga K "Program")) = true := of_decide_eq_true (c.fact 132 rfl)
  have pgD : PySem.W.plainGet K (He.ga K "Counters") Str.empty = true := of_decide_eq_true (c.fact 133 rfl)
  have hdD : PySem.W.hasDictIn K (He.ga K "Counters") = true := of_decide_eq_true (c.fact 134 rfl)
  have poD : PySem.W.plainOver K (He.ga K "Counters") = true := of_decide_eq_true (c.fact 135 rfl)
  have saD : PySem.W.findIn K (.ref (He.ga K "Counters")) "__setattr__" = some (some (.builtin "object.__setattr__")) := of_decide_eq_true (c.fact 136 rfl)
  have mkD : PySem.W.makesIn K (He.ga K "Counters") = true := of_decide_eq_true (c.fact 137 rfl)
  have kcD : PySem.W.keepIn K (.ref (He.ga K "Counters")) = true := of_decide_eq_true (c.fact 138 rfl)
  have n1 : PySem.W.findIn K (.ref (He.ga K "Program")) "links" = some none := of_decide_eq_true (c.fact 139 rfl)
  have n2 : PySem.W.findIn K (.ref (He.ga K "Program")) "spots" = some none := of_decide_eq_true (c.fact 140 rfl)
  have n3 : PySem.W.findIn K (.ref (He.ga K "Program")) "origin" = some none := of_decide_eq_true (c.fact 141 rfl)
  have n4 : PySem.W.findIn K (.ref (He.ga K "Program")) "finals" = some none := of_decide_eq_true (c.fact 142 rfl)
  have d1 : PySem.W.findIn K (.ref (He.ga K "Counters")) "base" = some none := of_decide_eq_true (c.fact 143 rfl)
  have d2 : PySem.W.findIn K (.ref (He.ga K "Counters")) "chosen" = some none := of_decide_eq_true (c.fact 144 rfl)
  have t1 : PySem.W.findIn K (.ref (He.ga K "Program")) "__class__" = some (some (.builtin "object.__class__")) := of_decide_eq_true (c.fact 145 rfl)
  have t2 : PySem.W.specialIn K (.builtin "object.__class__") "__get__" = some (some (.builtin "getset_descriptor.__get__")) := of_decide_eq_true (c.fact 146 rfl)
  have t3 : PySem.W.takesIn K (.builtin "object.__class__") = some true := of_decide_eq_true (c.fact 147 rfl)
  have t4 : PySem.W.mroIn K (He.ga K "Program") (.type "object") = some true := of_decide_eq_true (c.fact 148 rfl)
  have t5 : PySem.W.findIn K (.ref (He.ga K "Counters")) "__class__" = some (some (.builtin "object.__class__")) := of_decide_eq_true (c.fact 149 rfl)
  have t6 : PySem.W.mroIn K (He.ga K "Counters") (.type "object") = some true := of_decide_eq_true (c.fact 150 rfl)
  have u1 : PySem.W.notFirst K (He.ga K "Program") (.ref (He.ga K "Program")) = true := of_decide_eq_true (c.fact 151 rfl)
  have u2 : PySem.W.findIn K (.ref (He.ga K "Program")) "__ne__" = some (some (.builtin "object.__ne__")) := of_decide_eq_true (c.fact 152 rfl)
  have u3 : PySem.W.notFirst K (He.ga K "Counters") (.ref (He.ga K "Counters")) = true := of_decide_eq_true (c.fact 153 rfl)
  have u4 : PySem.W.notFirst K (He.ga K "Counters") (.type "int") = true := of_decide_eq_true (c.fact 154 rfl)
  have u5 : PySem.W.kitOne K (.type "int") (.ref (He.ga K "Counters")) = some false := of_decide_eq_true (c.fact 155 rfl)
  have u6 : PySem.W.selfFirst K (He.ga K "Counters") = true := of_decide_eq_true (c.fact 156 rfl)
  have aRu : PySem.W.nsIn K mainGlobals "RUNS" = some (some (.ref (He.ga K "RUNS"))) := of_decide_eq_true (c.fact 157 rfl)
  obtain ⟨odR, tRu, nR, slR, lRu⟩ := HD.tup1 (c.fact 158 rfl)
  have vL : PySem.W.nsIn K mainGlobals "LETTERS" = some (some (.str "abcdefghijklmnopqrstuvwxyz" (HD.strT K "LETTERS"))) := of_decide_eq_true (c.fact 159 rfl)
  have vM : PySem.W.nsIn K mainGlobals "MOST_LETTERS" = some (some (.int 8 (HD.intT K "MOST_LETTERS"))) := of_decide_eq_true (c.fact 160 rfl)
  have vW : PySem.W.nsIn K mainGlobals "MOST_WAYS" = some (some (.int 40 (HD.intT K "MOST_WAYS"))) := of_decide_eq_true (c.fact 161 rfl)
  have z_isinstance : PySem.W.nsIn K mainGlobals "isinstance" = some none := of_decide_eq_true (c.fact 162 rfl)
  have z_str : PySem.W.nsIn K mainGlobals "str" = some none := of_decide_eq_true (c.fact 163 rfl)
  have z_len : PySem.W.nsIn K mainGlobals "len" = some none := of_decide_eq_true (c.fact 164 rfl)
  have z_all : PySem.W.nsIn K mainGlobals "all" = some none := of_decide_eq_true (c.fact 165 rfl)
  have z_tuple : PySem.W.nsIn K mainGlobals "tuple" = some none := of_decide_eq_true (c.fact 166 rfl)
  have z_dict : PySem.W.nsIn K mainGlobals "dict" = some none := of_decide_eq_true (c.fact 167 rfl)
  have z_list : PySem.W.nsIn K mainGlobals "list" = some none := of_decide_eq_true (c.fact 168 rfl)
  have z_set : PySem.W.nsIn K mainGlobals "set" = some none := of_decide_eq_true (c.fact 169 rfl)
  have z_sorted : PySem.W.nsIn K mainGlobals "sorted" = some none := of_decide_eq_true (c.fact 170 rfl)
  have z_range : PySem.W.nsIn K mainGlobals "range" = some none := of_decide_eq_true (c.fact 171 rfl)
  have z_min : PySem.W.nsIn K mainGlobals "min" = some none := of_decide_eq_true (c.fact 172 rfl)
  have z_max : PySem.W.nsIn K mainGlobals "max" = some none := of_decide_eq_true (c.fact 173 rfl)
  have z_int : PySem.W.nsIn K mainGlobals "int" = some none := of_decide_eq_true (c.fact 174 rfl)
  have z_enumerate : PySem.W.nsIn K mainGlobals "enumerate" = some none := of_decide_eq_true (c.fact 175 rfl)
  exact all_mk (l := P) X G hfa aC aD awo lwo cwo kwo aam lam cam kam ali lli cli kli awa lwa cwa kwa aex lex cex kex are lre cre kre arq lrq crq krq aac lac cac kac ato lto cto kto akn lkn ckn kkn aic lic cic kic arp lrp crp krp aNu lNu cNu kNu aPo lPo cPo kPo aDr lDr cDr kDr aOp lOp cOp kOp aWo lWo cWo kWo aNa lNa cNa kNa aPr lPr cPr kPr aMa lMa cMa kMa aPl lPl cPl kPl aAl lAl cAl kAl aSo lSo cSo kSo aSe lSe cSe kSe aLs lLs cLs kLs aRi lRi cRi kRi aWr lWr cWr kWr aOd lOd cOd kOd aLA lLA cLA kLA amI imI lmI cmI kmI amW imW lmW cmW kmW amP imP lmP cmP kmP amE imE lmE cmE kmE amG imG lmG cmG kmG amH imH lmH cmH kmH amQ imQ lmQ cmQ kmQ anI inI lnI cnI knI anL inL lnL cnL knL anN inN lnN cnN knN anH inH lnH cnH knH anA inA lnA cnA knA anU inU lnU cnU knU anS inS lnS cnS knS anV inV lnV cnV knV anQ inQ lnQ cnQ knQ apB gpB tpB rpB lmB cmB kmB apP gpP tpP rpP lnP cnP knP rd ga snW rnW lnW cnW knW snE rnE lnE cnE knE ng pg hd po sa mk kc pgD hdD poD saD mkD kcD n1 n2 n3 n4 d1 d2 t1 t2 t3 t4 t5 t6 u1 u2 u3 u4 u5 u6 aRu lRu vL vM vW z_isinstance z_str z_len z_all z_tuple z_dict z_list z_set z_sorted z_range z_min z_max z_int z_enumerate
end K05
open PySem PySem.W PySem.Calls PyProof.Rows
set_option maxRecDepth 100000 in
set_option maxHeartbeats 0 in
theorem PySem.Challenge.cw_countededges_k05_counters_in_sets_holds : PySem.Challenge.rw_countededges_k05_counters_in_sets.Holds := by
  w_on; o_law
  refine HandSHeadRun.head_any (r := OpenLaw.row PySem.Challenge.rw_countededges_k05_counters_in_sets) (q := view (OpenLaw.row PySem.Challenge.rw_countededges_k05_counters_in_sets).prog [44]) (H := K05.hk0) (ob := K05.ob0) (M := 20000) (loose := K05.loose_) (d := HandSHeadRun.topDef (OpenLaw.row PySem.Challenge.rw_countededges_k05_counters_in_sets).prog 44) (kwd := []) K05.ob_eq0
    (by kernel_rfl) (fun s => by kernel_rfl) K05.run0 (by kernel_rfl) (by kernel_rfl) (by kernel_rfl) (by rfl) (by first | assumption | decide +kernel) (by decide +kernel) ⟨rfl, rfl, rfl, rfl, rfl, by decide +kernel⟩ ?hw ?hc
  case hw => w_witness2
  case hc =>
    refine L2.walk_ofE (l := PySem.Challenge.rw_countededges_k05_counters_in_sets) (n := 63) (k := 9) (x := "script") (CX := L2.CX0) rfl (by decide) (by kernel_rfl) ⟨rfl, by decide, by decide⟩ ?F (fun _ _ _ _ z => z)
    intro w mg fa h Y G hmg0
    obtain ⟨K, KX, c⟩ := Y
    have hmg : mg ("law" : PySem.Str) = some (.ref fa) := by
      have e : (HandSHeadRun.topDef (OpenLaw.row PySem.Challenge.rw_countededges_k05_counters_in_sets).prog 44).name = ("law" : PySem.Str) := by kernel_rfl
      rw [← e]
      exact hmg0
    obtain ⟨fd, hb, hF⟩ := K05.facts0 (P := PySem.Challenge.rw_countededges_k05_counters_in_sets) (w := w) KX G hmg c
    exact ⟨K, fd, LC.spLaw K, KX, hb, fun H a ns hl _ hS => ⟨a, ns, rfl, hS, hl, fun _ => rfl⟩, hF⟩
#print axioms PySem.Challenge.cw_countededges_k05_counters_in_sets_holds

