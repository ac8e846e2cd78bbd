import PyProof.Rows.All
import Wide.All
import OpenK.AllK
import Wide.FinOn
import PyProof.EqAt
import PyProof.EqKinds
import PyProof.TupleCall
import KE.KOwnIter
import KE.KFromBytes
import KE.KDictIter
import HandS.Base
import HandS.Call
import HandS.List
import HandS.OwnEq
import HandS.OwnIter
import HandS.SlotsOwn
import HandS.Words
import HandS.WordsList
import HandS.WordsExc
import HandS.ForMost
import HandS.Exc
import HandS.IsInst
import HandS.Deep
import HandS.Evl
import HandS.Walk
import HandS.Defaults
import HandS.Style
import HandS.TupAny
import HandS.TryOnly
import HandS.ExcOwn
import HandS.ExcInit
import HandS.ExcField
import HandS.ExcIs
import HandS.ClsMeth
import KE.KIsAll
import KE.KExcIs
import PySem.Challenge.RW_keptpairs_k04_bad_pairs
set_option Elab.async false
set_option linter.all false
set_option maxRecDepth 100000
set_option maxHeartbeats 2000000
namespace KpX
open PySem PySem.W PySem.Calls PyProof.Rows

section
variable {prog : Program} {w : World} {A : Around} {E : Value → Shared → Prop} {s : Shared} {K : Frag} {x C L f : Addr} {h₀ : Heap} {m : Str → Option Value} {ox : Obj} {od : Option Obj}
theorem contains_own {y : Value} {Q : Bool → Shared → Prop} (X : K.In s.heap) (I : InstAt s.heap x ox C od) (hs : findIn K (.ref C) "__contains__" = some (some (.ref f))) (hf : isFn K (.ref f) = true)
    (h : wpAny (model prog w) A (call (.ref f) [.ref x, y]) (fun r s' => wpAny (model prog w) A (truthy r) Q E s') E s) : wpAny (model prog w) A (contains (.ref x) y) Q E s := by
  unfold contains
  refine wpAny_holding ?_
  rw [show stdlibNamesSay? (.ref x) y = none from rfl]
  refine wpAny_bind (wpAny_bind (I.type.here ((looks_findIn X hs).here ?_)))
  show wpAny _ _ (if (some (Value.ref f) == some Value.none) = true then _ else _) _ _ _
  rw [if_neg (by simp)]
  refine wpAny_bind ?_
  simp only [callSpecialUnlessNone?]
  refine wpAny_bind (wpAny_bind (I.type.here ((looks_findIn X hs).here ?_)))
  refine wpAny_holding (wpAny_bind ((bind_fn X _ (beq_iff_eq.mp hf)).here ?_))
  show wpAny _ _ (if (Value.ref f == Value.none) = true then _ else _) _ _ _
  rw [if_neg (show ¬ ((Value.ref f == Value.none) = true) from Bool.false_ne_true)]
  exact wpAny_bind (wpAny_mono h (fun v s' h' => wpAny_pure h') fun _ _ h' => h')
/-- an iterator over a tuple has come to its end: the record stays, read no more -/
theorem tupIt_end {it t : Addr} {i : Nat} {items : Array Value} {Q : Option Value → Shared → Prop} (quiet : A.handled = none) (rec0 : s.heap.IsTupleIter it t i) (tu : s.heap.IsTuple t items) (off : items[i]? = none)
    (q : ∀ h', Heap.ExtBut it s.heap h' → (∃ o, h'.get? it = some o) → Q none { s with heap := h' }) : wpAny (model prog w) A (pyNext (.ref it)) Q E s := by
  obtain ⟨ob, g0, gc, gd⟩ := id rec0
  obtain ⟨ot, g1, _, kk, gt⟩ := tu
  unfold pyNext
  refine wpAny_bind (wpAny_attempt (wpAny_callSpecial?_slot (name := Str.ofString "__next__") rec0.typeIs F.slot_tuple_iterator_next (wpAny_call_entry F.slot_tuple_iterator_next rec0.typeIs F.entry_tuple_iterator_next ?_ (F.args_tuple_iterator_next_1 _))))
  show wpAny _ _ (field (Value.ref it) 0 >>= _) _ _ _
  refine wpAny_bind (wpAny_field g0 gd (x := Value.ref t) rfl ?_)
  show wpAny _ _ (if (Value.ref t == .none) = true then _ else _) _ _ _
  refine PySem.W.KFB.if_not rfl ?_
  show wpAny _ _ (field (Value.ref it) 1 >>= _) _ _ _
  refine wpAny_bind (wpAny_field g0 gd (x := Value.int i 0) rfl ?_)
  show wpAny _ _ (seqItems? (Value.ref t) >>= _) _ _ _
  refine wpAny_bind (wpAny_seqItems g1 gt ?_)
  simp only [off, Int.toNat_natCast]
  refine wpAny_bind (wpAny_rule (wpAny_bind (wpAny_setField g0 gd (by simp) ?_)))
  show wpAny _ _ (newExc (Value.type "StopIteration") [] >>= _) _ _ _
  refine wpAny_bind ?_
  simp only [newTuple, newExc]
  refine wpAny_bind (wpAny_newObj_type ?_ (by size_fits))
  refine wpAny_bind (m := firstArgMember _ _) (wpAny_of_eq (a := Value.none) (by first | rfl | (simp only [firstArgMember] <;> rfl)) ?_)
  refine wpAny_newObj_type ?_ (by size_fits)
  simp only [raiseNew]
  refine wpAny_bind (wpAny_handled ?_)
  first | rw [quiet] | rw [show A.in1.handled = none from quiet]
  refine wpAny_bind (wpAny_pure (wpAny_throw ?_))
  refine wpAny_bind (wpAny_isInstance (T := "StopIteration") (b := true) ⟨_, Heap.get?_push_size _ rfl, rfl⟩ isSubtype_stop ?_)
  refine wpAny_pure (q _ (((Heap.SameBut.update ..).extBut.push _).push _) ⟨_, Heap.get?_push_of_some _ (Heap.get?_push_of_some _ (Heap.get?_update_self _ g0 (Obj.isFreed_of_fields (Obj.data_mapFields gd _))))⟩)
/-- iter(t), t a tuple -/
theorem call_iterTup {t : Addr} {items : Array Value} {Q : Value → Shared → Prop} (tu : s.heap.IsTuple t items) (q : Q (.ref s.heap.objs.size) { s with heap := s.heap.push { cls := .type "tuple_iterator", data := .fields #[.ref t, .int 0 0] } }) : wpAny (model prog w) A (call (.builtin "iter") [.ref t]) Q E s := by
  refine Calls.call_function_entry (by decide +kernel) (by decide +kernel) PySem.W.kdk_entry_iter (PySem.W.kdk_args_iter _) ?_
  unfold Builtin.«iter»
  refine wpAny_bind (m := someArgs "iter" 1 2 _) (wpAny_of_eq (a := [Value.ref t]) (by first | rfl | kernel_rfl!) ?_)
  show wpAny _ _ (pyIter (Value.ref t) >>= _) _ _ _
  refine wpAny_bind (wpAny_pyIter_tuple tu ?_)
  exact wpAny_pure ⟨_, rfl, q⟩
/-- the length that list(o) asks ahead, by an own __len__ -/
theorem hint_own {Q : Bool → Shared → Prop} (X : K.In s.heap) (I : InstAt s.heap x ox C od) (hs : findIn K (.ref C) "__len__" = some (some (.ref f))) 
    (h : wpAny (model prog w) A (call (.builtin "len") [.ref x]) (fun r s' => ∃ n u, r = Value.int n u ∧ n.toNat ≤ sizeLine ∧ Q (n != 0) s') (fun _ _ => False) s) : wpAny (model prog w) A (Builtin.List.listLengthHint (.ref x)) Q E s := by
  unfold Builtin.List.listLengthHint
  refine wpAny_bind (wpAny_bind (I.type.here ((looks_findIn X hs).here ?_)))
  refine PySem.W.KFB.if_not rfl ?_
  refine PySem.W.KFB.if_so rfl ?_
  refine wpAny_bind (wpAny_rule (wpAny_bind (wpAny_attempt (wpAny_mono h (fun r s' z => ?_) fun _ _ z => z.elim))))
  obtain ⟨n, u, rfl, hl, q⟩ := z
  refine wpAny_bind (wpAny_pure ?_)
  refine PySem.W.KFB.if_not (by unfold Builtin.List.listTooLong; exact decide_eq_false (by omega)) ?_
  exact wpAny_pure q
end
end KpX

namespace L2
open PySem PySem.Spec PyProof.Rows
section
variable {X : Cx} {pins : List (Addr × Obj)} {σ : St} {H : Hp} {s : Shared} {CX : CXT} {C f a dx : Addr} {fd : FuncData} {ps : List Str} {sp : Sp} {E : XK} {n : Nat} {A1 : Around}
/-- an own def is called from inside a built-in -/
theorem own_call {Q : VK} {vs : List V} {us : List Value} (sb : Sub X n A1) (F : FnOk X.prog X.w X.K X.mg X.base CX n f fd ps sp) (hb : Binds X.K fd ps []) (hx : Passes CX X E) (I : Inv X pins σ H s) (r : Vals vs us) (h : sp vs H Q E) :
    wpAny (model X.prog X.w) A1 (call (.ref f) us) (EP X pins σ Q) X.xe s := by
  have e0 : Env0 X.prog X.w X.K X.mg X.base A1 X.stack s H := by
    have e := I.env0
    exact ⟨sb.fr.trans e.frames, e.mod, e.bs, e.bsz, e.funs, e.frf, e.hok, e.bare⟩
  have hl := F.len _ _ _ _ h
  refine wpAny_call (codeAny_mono (F.run A1 X.stack s H ⟨us, []⟩ us vs Q E sb.room e0 (by
    have := hb s us I.kIn (by rw [List.append_nil, ← r.length]; exact hl)
    simpa using this) r h) fun r s' hq => ?_)
  cases r with
  | error e => exact hx pins σ H s e s' I hq
  | ok fl =>
    cases fl with
    | ret w => exact I.after hq
    | next => exact False.elim hq
    | brk => exact False.elim hq
    | cont => exact False.elim hq
/-- one that raises nothing -/
theorem own_call0 {Q : VK} {vs : List V} {us : List Value} {EE : Value → Shared → Prop} (sb : Sub X n A1) (F : FnOk X.prog X.w X.K X.mg X.base CX0 n f fd ps sp) (hb : Binds X.K fd ps []) (I : Inv X pins σ H s) (r : Vals vs us) (h : sp vs H Q E0) :
    wpAny (model X.prog X.w) A1 (call (.ref f) us) (EP X pins σ Q) EE s := by
  have e0 : Env0 X.prog X.w X.K X.mg X.base A1 X.stack s H := by
    have e := I.env0
    exact ⟨sb.fr.trans e.frames, e.mod, e.bs, e.bsz, e.funs, e.frf, e.hok, e.bare⟩
  have hl := F.len _ _ _ _ h
  refine wpAny_call (codeAny_mono (F.run A1 X.stack s H ⟨us, []⟩ us vs Q E0 sb.room e0 (by
    have := hb s us I.kIn (by rw [List.append_nil, ← r.length]; exact hl)
    simpa using this) r h) fun r s' hq => ?_)
  cases r with
  | error e => exact False.elim hq
  | ok fl =>
    cases fl with
    | ret w => exact I.after hq
    | next => exact False.elim hq
    | brk => exact False.elim hq
    | cont => exact False.elim hq
theorem ins_inst (I : Inv X pins σ H s) {fs : List (Str × V)} (ha : H a = some (.ins C dx fs)) : ∃ ox od, PySem.W.InstAt s.heap a ox C (some od) := by
  obtain ⟨mA, J, _⟩ := ins_get I.hok ha
  obtain ⟨od, J, _⟩ := J.look
  exact ⟨_, od, J⟩

/-! ### x in o, x not in o, by an own __contains__ -/
def rInOwn (C : Addr) (sp : Sp) (E : XK) : R2 := fun x y H Q => ∃ a dx fs, y = .ref a ∧ H a = some (.ins C dx fs) ∧ sp [.ref a, x] H (fun z H' => ∃ b, z = .bl b ∧ Q (.bl b) H') E
def rNotInOwn (C : Addr) (sp : Sp) (E : XK) : R2 := fun x y H Q => ∃ a dx fs, y = .ref a ∧ H a = some (.ins C dx fs) ∧ sp [.ref a, x] H (fun z H' => ∃ b, z = .bl b ∧ Q (.bl (!b)) H') E
theorem in_own {x : V} {v : Value} {Q : Bool → Hp → Prop} {fs : List (Str × V)} (hs : PySem.W.findIn X.K (.ref C) "__contains__" = some (some (.ref f))) (hf : PySem.W.isFn X.K (.ref f) = true) (F : FnOk X.prog X.w X.K X.mg X.base CX n f fd ps sp) (hb : Binds X.K fd ps []) (hx : Passes CX X E) (hr : Room n X.A)
    (I : Inv X pins σ H s) (rx : RelV x v) (ha : H a = some (.ins C dx fs)) (q : sp [.ref a, x] H (fun z H' => ∃ b, z = .bl b ∧ Q b H') E) :
    wpAny (model X.prog X.w) X.A (contains (.ref a) v) (fun r s' => ∃ H', Inv X pins σ H' s' ∧ Q r H') X.xe s := by
  obtain ⟨ox, od, J⟩ := ins_inst I ha
  refine KpX.contains_own I.kIn J hs hf ?_
  refine wpAny_mono (own_call (vs := [.ref a, x]) (us := [.ref a, v]) ⟨hr, rfl⟩ F hb hx I (.cons rfl (.cons rx .nil)) q) (fun r s' z => ?_) fun _ _ z => z
  obtain ⟨u, H', I', ru, b, rfl, qb⟩ := z
  cases ru
  exact wpAny_truthy_bool ⟨H', I', qb⟩
theorem op_inOwn (hs : PySem.W.findIn X.K (.ref C) "__contains__" = some (some (.ref f))) (hf : PySem.W.isFn X.K (.ref f) = true) (F : FnOk X.prog X.w X.K X.mg X.base CX n f fd ps sp) (hb : Binds X.K fd ps []) (hx : Passes CX X E) (hr : Room n X.A) :
    OpR X (compareOp .In) (rInOwn C sp E) := by
  intro pins s σ H x y v u Q I rx ry h
  obtain ⟨a, dx, fs, rfl, ha, q⟩ := h
  cases (show u = Value.ref a from ry)
  show wpAny _ _ (contains (.ref a) v >>= fun b => pure (Value.bool b)) _ _ _
  refine wpAny_bind (wpAny_mono (in_own (Q := fun b H' => Q (.bl b) H') hs hf F hb hx hr I rx ha q) (fun r s' z => ?_) fun _ _ z => z)
  obtain ⟨H', I', qb⟩ := z
  exact wpAny_pure ⟨.bl r, H', I', rfl, qb⟩
theorem op_notInOwn (hs : PySem.W.findIn X.K (.ref C) "__contains__" = some (some (.ref f))) (hf : PySem.W.isFn X.K (.ref f) = true) (F : FnOk X.prog X.w X.K X.mg X.base CX n f fd ps sp) (hb : Binds X.K fd ps []) (hx : Passes CX X E) (hr : Room n X.A) :
    OpR X (compareOp .NotIn) (rNotInOwn C sp E) := by
  intro pins s σ H x y v u Q I rx ry h
  obtain ⟨a, dx, fs, rfl, ha, q⟩ := h
  cases (show u = Value.ref a from ry)
  show wpAny _ _ (contains (.ref a) v >>= fun b => pure (Value.bool (!b))) _ _ _
  refine wpAny_bind (wpAny_mono (in_own (Q := fun b H' => Q (.bl (!b)) H') hs hf F hb hx hr I rx ha q) (fun r s' z => ?_) fun _ _ z => z)
  obtain ⟨H', I', qb⟩ := z
  exact wpAny_pure ⟨.bl (!r), H', I', rfl, qb⟩

/-! ### len(o) -/
def rLenOwn (C : Addr) (sp : Sp) (E : XK) : List V → Hp → VK → Prop := fun xs H Q => ∃ a dx fs, xs = [.ref a] ∧ H a = some (.ins C dx fs) ∧ sp [.ref a] H (fun z H' => ∃ i : Int, z = .int i ∧ (0 ≤ i ∧ i < 2 ^ 63) ∧ Q (.int i) H') E
theorem call_lenOwn (hs : PySem.W.findIn X.K (.ref C) "__len__" = some (some (.ref f))) (hf : PySem.W.isFn X.K (.ref f) = true) (F : FnOk X.prog X.w X.K X.mg X.base CX n f fd ps sp) (hb : Binds X.K fd ps []) (hx : Passes CX X E) (hr : Room (n + 1) X.A) :
    CallR X (.builtin "len") (rLenOwn C sp E) := by
  intro pins s σ H xs us Q I r h
  obtain ⟨a, dx, fs, rfl, ha, q⟩ := h
  obtain ⟨u, rfl, ru⟩ := r.one
  cases (show u = Value.ref a from ru)
  obtain ⟨ox, od, J⟩ := ins_inst I ha
  obtain ⟨m, hF⟩ := I.fr
  refine PySem.W.len_K hF I.ok.mod.kin J hs hf ?_
  refine wpAny_mono (own_call (vs := [.ref a]) (us := [.ref a]) ⟨hr.in1, rfl⟩ F hb hx I (.cons rfl .nil) q) (fun r s' z => ?_) fun _ _ z => z
  obtain ⟨v, H', I', rv, i, rfl, hi, qi⟩ := z
  obtain ⟨t, rfl⟩ := (show ∃ t, r = Value.int i t from rv)
  exact ⟨hi, .int i, H', I'.tok _, ⟨_, rfl⟩, qi⟩

/-! ### o & p, o | p, o - p of two instances of one class -/
def rBinOwn (C : Addr) (sp : Sp) (E : XK) : R2 := fun x y H Q => ∃ a dx fs b dy gs, x = .ref a ∧ y = .ref b ∧ H a = some (.ins C dx fs) ∧ H b = some (.ins C dy gs) ∧ sp [.ref a, .ref b] H Q E
theorem op_binOwn {op : Operator} (hc : PySem.W.selfFirst X.K C = true) (hs : PySem.W.findIn X.K (.ref C) (PySem.dunder op.info.2) = some (some (.ref f))) (hf : PySem.W.isFn X.K (.ref f) = true) (F : FnOk X.prog X.w X.K X.mg X.base CX n f fd ps sp) (hb : Binds X.K fd ps []) (hx : Passes CX X E) (hr : Room n X.A) :
    OpR X (binaryOp op) (rBinOwn C sp E) := by
  intro pins s σ H x y v u Q I rx ry h
  obtain ⟨a, dx, fs, b, dy, gs, rfl, rfl, ha, hb', q⟩ := h
  cases (show v = Value.ref a from rx)
  cases (show u = Value.ref b from ry)
  obtain ⟨ox, od, J⟩ := ins_inst I ha
  obtain ⟨oy, oe, J'⟩ := ins_inst I hb'
  obtain ⟨m, hF⟩ := I.fr
  refine PySem.W.binop_K hF I.ok.mod.kin J J'.type hc hs hf ?_
  refine wpAny_mono (own_call (vs := [.ref a, .ref b]) (us := [.ref a, .ref b]) ⟨hr, rfl⟩ F hb hx I (.cons rfl (.cons rfl .nil)) q) (fun r s' z => ?_) fun _ _ z => z
  obtain ⟨z', H', I', rz, qz⟩ := z
  exact SlX.cmpback rz ⟨z', H', I', rz, qz⟩
/-! ### o == p, o <= p .. of two instances of one class -/
theorem op_cmpOwn {op : CmpOp} (hop : ∀ a b, compareOp op a b = richCompare op a b) (hs : PySem.W.findIn X.K (.ref C) (cmpInfo op).2.1 = some (some (.ref f))) (hf : PySem.W.isFn X.K (.ref f) = true) (F : FnOk X.prog X.w X.K X.mg X.base CX n f fd ps sp) (hb : Binds X.K fd ps []) (hx : Passes CX X E) (hr : Room n X.A) :
    OpR X (compareOp op) (rBinOwn C sp E) := by
  intro pins s σ H x y v u Q I rx ry h
  obtain ⟨a, dx, fs, b, dy, gs, rfl, rfl, ha, hb', q⟩ := h
  cases (show v = Value.ref a from rx)
  cases (show u = Value.ref b from ry)
  obtain ⟨ox, od, J⟩ := ins_inst I ha
  obtain ⟨oy, oe, J'⟩ := ins_inst I hb'
  obtain ⟨m, hF⟩ := I.fr
  rw [hop]
  refine PySem.W.cmp_K (op := op) (tb := .ref C) hr.units0 hF I.ok.mod.kin J J'.type (by simp [PySem.W.notFirst]) hs hf ?_
  refine wpAny_mono (own_call (vs := [.ref a, .ref b]) (us := [.ref a, .ref b]) ⟨hr, rfl⟩ F hb hx I (.cons rfl (.cons rfl .nil)) q) (fun r s' z => ?_) fun _ _ z => z
  obtain ⟨z', H', I', rz, qz⟩ := z
  exact SlX.cmpback rz ⟨z', H', I', rz, qz⟩

/-! ### iter(t), list(o) where o's __iter__ gives an iterator over a tuple -/
def TitO (t it : Addr) (i : Nat) : HO := .ext fun h => h.IsTupleIter it t i
def TitE (it : Addr) : HO := .ext fun h => ∃ o, h.get? it = some o
theorem titO_ok {P : Program} {w : World} {H : Hp} {h : Heap} {t it : Addr} {i : Nat} (e : h.IsTupleIter it t i) : ObjOk P w H h it (TitO t it i) := by
  obtain ⟨o, ho, r⟩ := id e
  exact ⟨e, ⟨o, ho⟩, fun h1 h2 ⟨o1, q1, r1⟩ k => ⟨o1, k _ q1, r1⟩⟩
theorem titE_ok {P : Program} {w : World} {H : Hp} {h : Heap} {it : Addr} (e : ∃ o, h.get? it = some o) : ObjOk P w H h it (TitE it) := ⟨e, e, fun h1 h2 ⟨o1, q1⟩ k => ⟨o1, k _ q1⟩⟩
theorem titO_get {t it : Addr} {i : Nat} (I : Inv X pins σ H s) (e : H it = some (TitO t it i)) : s.heap.IsTupleIter it t i := (I.hok it _ e).1
def rIterT (K : PySem.W.Frag) : List V → Hp → VK → Prop := fun xs H Q => ∃ (t : Addr) (zs : List V), xs = [.ref t] ∧ SqT K H t zs ∧ ∀ it, H it = none → Q (.ref it) (upd H it (TitO t it 0))
theorem call_iterT : CallR X (.builtin "iter") (rIterT X.K) := by
  intro pins s σ H xs us Q I r h
  obtain ⟨t, zs, rfl, hq, q⟩ := h
  obtain ⟨u, rfl, ru⟩ := r.one
  cases (show u = Value.ref t from ru)
  obtain ⟨its, rv, p, hz⟩ := I.tuple hq
  refine KpX.call_iterTup (show s.heap.IsTuple t its.toArray from p) ?_
  exact ⟨.ref s.heap.objs.size, _, I.laid (t' := s.toks) (fun b u e => Heap.get?_push_of_some _ e) (Nat.le_refl _) (titO_ok ⟨_, Heap.get?_push_size _ rfl, rfl, rfl⟩), rfl, q _ (I.hok.fresh (Nat.le_refl _))⟩
/-- what __iter__ promises -/
def spIterT (K : PySem.W.Frag) (T : Addr → Hp → Addr → List V → Prop) : Sp := fun vs H Q _ => ∃ a t xs, vs = [.ref a] ∧ T a H t xs ∧ SqT K H t xs ∧ ∀ it, H it = none → Q (.ref it) (upd H it (TitO t it 0))
/-- what __len__ promises -/
def spLenT (T : Addr → Hp → Addr → List V → Prop) : Sp := fun vs H Q _ => ∃ a t xs, vs = [.ref a] ∧ T a H t xs ∧ xs.length ≤ sizeLine ∧ Q (.int xs.length) H
theorem titLoop {t it q : Addr} {xs : List V} {Rs : Result → Shared → Prop} {H0 : Hp} (hne : q ≠ it) (hh : A1.in1.handled = none) (hlen : xs.length ≤ sizeLine) (herr : ∀ e s, X.xe e s → Rs (.error e) s)
    (h0t : SqT X.K H0 t xs) (h0i : H0 it = none) (h0q : H0 q = none)
    (hdone : ∀ H' s', Inv X pins σ H' s' → Same H0 H' → H' q = some (.lst xs) → Rs (.ok (.ret .none)) s') :
    ∀ (m i : Nat) (H : Hp) (s : Shared), i + m = xs.length → Inv X pins σ H s → Same H0 H → H it = some (TitO t it i) → H q = some (.lst (xs.take i)) →
      codeAny (model X.prog X.w) A1 (.builtin "list.extend.loop" ⟨[.ref q, .ref it, .none], []⟩) Rs s := by
  intro m
  induction m with
  | zero =>
    intro i H s hi I sm hit hq
    refine codeAny_builtin PySem.F.entry_extend_loop ?_
    rw [Around.under_plainId PySem.F.plain_extend_loop _]
    show wpAny _ A1.in1 (pyNext (.ref it) >>= _) _ _ s
    obtain ⟨its, rv, p, hz⟩ := I.tuple (SqT.ext h0t sm)
    have hl := rv.length
    refine wpAny_bind (KpX.tupIt_end hh (titO_get I hit) (show s.heap.IsTuple t its.toArray from p) (by simp; omega) fun h' eb ho => ?_)
    have mu : Mut (H it) := by rw [hit]; exact True.intro
    have I2 : Inv X pins σ (upd H it (TitE it)) { s with heap := h' } := I.write (x := it) (e := it) (t' := s.toks) mu (.inl rfl) (fun b o nb z => eb b o nb z) ho (titE_ok ho)
    refine wpAny_pure (hdone _ _ I2 (fun b o e => ?_) ?_)
    · rw [upd_ne (ne_of_none e h0i)]
      exact sm b o e
    · rw [upd_ne hne, hq, List.take_of_length_le (by omega)]
  | succ m ih =>
    intro i H s hi I sm hit hq
    refine codeAny_builtin PySem.F.entry_extend_loop ?_
    rw [Around.under_plainId PySem.F.plain_extend_loop _]
    show wpAny _ A1.in1 (pyNext (.ref it) >>= _) _ _ s
    have hlt : i < xs.length := by omega
    obtain ⟨its, rv, p, hz⟩ := I.tuple (SqT.ext h0t sm)
    obtain ⟨u, hu, ru⟩ := rv.get (List.getElem?_eq_getElem hlt)
    refine wpAny_bind (wpAny_pyNext_tuple_item (titO_get I hit) (show s.heap.IsTuple t its.toArray from p) (x := u) (by simpa using hu) fun h' st' sb => ?_)
    have mu : Mut (H it) := by rw [hit]; exact True.intro
    have ho : ∃ o, h'.get? it = some o := let ⟨o, e, _⟩ := id st'; ⟨o, e⟩
    have I2 : Inv X pins σ (upd H it (TitO t it (i + 1))) { s with heap := h' } := I.write (x := it) (e := it) (t' := s.toks) mu (.inl rfl) (fun b o nb z => (sb.2 b nb).trans z) ho (titO_ok st')
    have hq2 : upd H it (TitO t it (i + 1)) q = some (.lst (xs.take i)) := by rw [upd_ne hne]; exact hq
    obtain ⟨z, its2, k, r2, hl, e⟩ := I2.lstM hq2
    show wpAny _ A1.in1 (updateSeq q (·.push u) >>= _) _ _ _
    have lt2 : its2.length = i := by rw [← hl, List.length_take]; omega
    refine wpAny_bind (wpAny_updateSeq e rfl (wpAny_pure ⟨plainId_quiet PySem.F.plain_extend_loop _, ?_⟩) (by rw [List.size_toArray]; omega) (by show (its2.toArray.push u).size ≤ sizeLine + 1; rw [Array.size_push, List.size_toArray]; omega))
    have I3 := I2.lset (f := (·.push u)) (its' := its2 ++ [u]) (ys := xs.take (i + 1)) (t' := s.toks) hq2 e (by simp) (by rw [List.take_add_one, List.getElem?_eq_getElem hlt]; exact r2.append (.cons ru .nil)) (by rw [List.length_take]; omega)
    refine ih (i + 1) _ _ (by omega) I3 (fun b o e => ?_) ?_ upd_same
    · rw [upd_ne (ne_of_none e h0q), upd_ne (ne_of_none e h0i)]
      exact sm b o e
    · rw [upd_ne hne.symm]
      exact upd_same

/-- list(o), o of a class with __len__ whose __iter__ gives an iterator over a tuple -/
def rListIt (K : PySem.W.Frag) (C : Addr) (T : Addr → Hp → Addr → List V → Prop) : List V → Hp → VK → Prop := fun vs H Q => ∃ a dx fs t xs, vs = [.ref a] ∧ H a = some (.ins C dx fs) ∧ T a H t xs ∧ SqT K H t xs ∧
  ∀ q H', H q = none → Same H H' → H' q = some (.lst xs) → Q (.ref q) H'
theorem listIt_extend {T : Addr → Hp → Addr → List V → Prop} {fi fl : Addr} {fdI fdL : FuncData} {psI psL : List Str} {q t : Addr} {xs : List V} {Rs : Result → Shared → Prop} {fs : List (Str × V)} {G : Hp}
    (hi : PySem.W.findIn X.K (.ref C) "__iter__" = some (some (.ref fi))) (hif : PySem.W.isFn X.K (.ref fi) = true) (hl : PySem.W.findIn X.K (.ref C) "__len__" = some (some (.ref fl))) (hlf : PySem.W.isFn X.K (.ref fl) = true)
    (FI : FnOk X.prog X.w X.K X.mg X.base CX0 n fi fdI psI (spIterT X.K T)) (bI : Binds X.K fdI psI []) (FL : FnOk X.prog X.w X.K X.mg X.base CX0 n fl fdL psL (spLenT T)) (bL : Binds X.K fdL psL []) (Tm : ∀ a H H' t xs, Same H H' → T a H t xs → T a H' t xs)
    (sb : Sub X (n + 1) A1.in1) (hh : A1.in1.handled = none) (herr : ∀ e s, X.xe e s → Rs (.error e) s) (I : Inv X pins σ G s) (fr : H q = none) (eG : G = upd H q (.lst [])) (ha : H a = some (.ins C dx fs)) (hT : T a H t xs) (hS : SqT X.K H t xs)
    (hdone : ∀ H' s', Inv X pins σ H' s' → Same H H' → H' q = some (.lst xs) → Rs (.ok (.ret .none)) s') :
    wpAny (model X.prog X.w) A1.in1 (Builtin.List.listExtendWith (.ref q) (.ref a) .none)
      (fun fin s' => match fin with
        | .done f => Rs (.ok f) s'
        | .again c' => c'.quiet = true ∧ codeAny (model X.prog X.w) A1 c' Rs s') (fun e s' => Rs (.error e) s') s := by
  have sG : Same H G := fun b o e => by rw [eG, upd_ne (ne_of_none e fr)]; exact e
  have gq : G q = some (.lst []) := by rw [eG, upd_same]
  have ga := sG _ _ ha
  have qa : q ≠ a := ne_of gq ga (fun z => nomatch z)
  obtain ⟨ox, od, J⟩ := ins_inst I ga
  obtain ⟨m0, hF⟩ := I.fr
  unfold Builtin.List.listExtendWith
  refine wpAny_bind (J.type.here ?_)
  have k1 : Builtin.List.listSameRef (.ref q) (.ref a) = false := by simp [Builtin.List.listSameRef, qa]
  simp only [k1, show (Value.ref C == Value.type "list") = false from rfl, show (Value.ref C == Value.type "tuple") = false from rfl, Bool.or_false, Bool.false_eq_true, if_false]
  refine wpAny_bind (PySem.W.owit_iter hF I.ok.mod.kin J hi hif (wpAny_mono (own_call (vs := [.ref a]) (us := [.ref a]) (Q := fun v H' => ∃ it, v = .ref it ∧ G it = none ∧ H' = upd G it (TitO t it 0)) (sb.mono (Nat.le_succ _)) FI bI pass0 I (.cons rfl .nil) ⟨a, t, xs, rfl, Tm _ _ _ _ _ sG hT, SqT.ext hS sG, fun it z => ⟨it, rfl, z, rfl⟩⟩) (fun u s' z => ?_) fun e s' z => herr e s' z))
  obtain ⟨v, H', I', rv, it, rfl, nit, rfl⟩ := z
  cases rv
  have sG' : Same G (upd G it (TitO t it 0)) := fun b o e => by rw [upd_ne (ne_of_none e nit)]; exact e
  have nqi : q ≠ it := ne_of_none gq nit
  unfold PySem.W.OwitIt
  refine wpAny_specialOf (titO_get I' upd_same).typeIs F.slot_tuple_iterator_next.lookup ?_
  obtain ⟨ox', od', J'⟩ := ins_inst I' (sG' _ _ ga)
  refine wpAny_bind (wpAny_holding (KpX.hint_own I'.kIn J' hl ?_))
  obtain ⟨m1, hF'⟩ := I'.fr
  have hxl : xs.length ≤ sizeLine := (I'.tuple (SqT.ext hS (sG.trans sG'))).choose_spec.2.2
  refine PySem.W.len_K hF' I'.ok.mod.kin J' hl hlf ?_
  refine wpAny_mono (own_call0 (vs := [.ref a]) (us := [.ref a]) (Q := fun v H' => v = .int xs.length ∧ H' = upd G it (TitO t it 0)) sb.in1 FL bL I' (.cons rfl .nil) ⟨a, t, xs, rfl, Tm _ _ _ _ _ (sG.trans sG') hT, hxl, rfl, rfl⟩) (fun r s2 z => ?_) fun _ _ z => z
  obtain ⟨w, H2, I2, rw2, rfl, rfl⟩ := z
  obtain ⟨tk, rfl⟩ := (show ∃ t, r = Value.int xs.length t from rw2)
  have hsz : (xs.length : Int) < 2 ^ 63 := by have := sizeLine_eq; omega
  refine ⟨⟨by omega, hsz⟩, _, _, rfl, by omega, ?_⟩
  have I3 := I2.tok (s2.toks + 1)
  have gq2 : upd G it (TitO t it 0) q = some (.lst []) := by rw [upd_ne nqi]; exact gq
  have hit0 : H it = none := sG.free nit
  have go : ∀ s3, Inv X pins σ (upd G it (TitO t it 0)) s3 → codeAny (model X.prog X.w) A1 (.builtin "list.extend.loop" ⟨[.ref q, .ref it, .none], []⟩) Rs s3 := fun s3 J3 =>
    titLoop nqi hh hxl herr hS hit0 fr hdone xs.length 0 _ _ (by omega) J3 (sG.trans sG') upd_same (by rw [List.take_zero]; exact gq2)
  refine wpAny_ite_split (fun _ => ?_) (fun _ => wpAny_pure ⟨plainId_quiet PySem.F.plain_extend_loop _, go _ I3⟩)
  refine wpAny_bind (wpAny_rule ?_)
  refine wpAny_bind ?_
  show wpAny _ _ (updateSeq q (·.push .none) >>= fun _ => updateSeq q (·.pop)) _ _ _
  obtain ⟨z3, its, k, r3, hl3, e3⟩ := I3.lstM gq2
  cases r3
  refine wpAny_bind (wpAny_updateSeq e3 rfl ?_)
  have I4 := I3.lset (f := (·.push Value.none)) (its' := [Value.none]) (ys := [.non]) (t' := s2.toks + 1) gq2 e3 (by simp) (.cons rfl .nil) (by rw [List.length_singleton, sizeLine_eq]; decide)
  obtain ⟨z4, its4, k4, r4, hl4, e4⟩ := I4.lstM upd_same
  obtain ⟨u4, rfl, ru4⟩ := r4.one
  refine wpAny_updateSeq e4 rfl (wpAny_pure ⟨plainId_quiet PySem.F.plain_extend_loop _, go _ ?_⟩) (by show 1 ≤ sizeLine; rw [sizeLine_eq]; decide) (by show 0 ≤ sizeLine + 1; exact Nat.zero_le _)
  have I5 := I4.lset (f := (·.pop)) (its := [u4]) (its' := []) (ys := []) (t' := s2.toks + 1) upd_same e4 (by rfl) .nil (Nat.zero_le _)
  rw [upd_upd] at I5
  have back : upd (upd G it (TitO t it 0)) q (.lst []) = upd G it (TitO t it 0) := by
    funext b
    by_cases hb : b = q
    · rw [hb, upd_same, gq2]
    · rw [upd_ne hb]
  rw [back] at I5
  exact I5
theorem call_listIt {T : Addr → Hp → Addr → List V → Prop} {fi fl : Addr} {fdI fdL : FuncData} {psI psL : List Str}
    (hi : PySem.W.findIn X.K (.ref C) "__iter__" = some (some (.ref fi))) (hif : PySem.W.isFn X.K (.ref fi) = true) (hl : PySem.W.findIn X.K (.ref C) "__len__" = some (some (.ref fl))) (hlf : PySem.W.isFn X.K (.ref fl) = true)
    (FI : FnOk X.prog X.w X.K X.mg X.base CX0 n fi fdI psI (spIterT X.K T)) (bI : Binds X.K fdI psI []) (FL : FnOk X.prog X.w X.K X.mg X.base CX0 n fl fdL psL (spLenT T)) (bL : Binds X.K fdL psL []) (Tm : ∀ a H H' t xs, Same H H' → T a H t xs → T a H' t xs)
    (hr : Room (n + 3) X.A) (hc : X.calm = true) : CallR X (.type "list") (rListIt X.K C T) := by
  intro pins s σ H vs us Q I rv h
  obtain ⟨a, dx, fs, t, xs, rfl, ha, hT, hS, q⟩ := h
  obtain ⟨u, rfl, ru⟩ := rv.one
  cases (show u = Value.ref a from ru)
  have sb : Sub X (n + 1) X.A.in1.in1 := Sub.in1 (Sub.in1 (⟨hr, rfl⟩ : Sub X (n + 3) X.A))
  have hh : X.A.in1.in1.handled = none := I.ok.hd hc
  refine callType_codes (Q₁ := fun obj s₁ => obj = .ref s.heap.objs.size ∧ s₁ = { s with heap := s.heap.push { cls := .type "list", data := .seq #[] } }) PySem.F.called_list (PySem.F.typeCall_list_1 _) PySem.F.entry_list_init (code_list_new _ ⟨rfl, rfl⟩) fun obj s₁ z => ?_
  obtain ⟨rfl, rfl⟩ := z
  have at_ : (s.heap.push { cls := .type "list", data := .seq #[] }).get? s.heap.objs.size = some { cls := .type "list", data := .seq #[] } := Heap.get?_push_size _ rfl
  refine ⟨⟨_, at_, rfl⟩, PySem.F.args_list_init_2 _ _, ?_⟩
  have fr := I.hok.fresh (Nat.le_refl s.heap.objs.size)
  have I1 := I.lnew (its := []) (t' := s.toks) .nil (Nat.zero_le _)
  show wpAny _ _ (do let old ← Builtin.List.listItems (.ref s.heap.objs.size); Builtin.List.listUpdate (.ref s.heap.objs.size) (fun _ => #[]); letGo old.toList.reverse; Builtin.List.listExtendWith (.ref s.heap.objs.size) (.ref a) .none) _ _ _
  unfold Builtin.List.listItems
  refine wpAny_bind (wpAny_bind (wpAny_seqItems at_ rfl (wpAny_pure ?_)))
  show wpAny _ _ (updateSeq s.heap.objs.size (fun _ => #[]) >>= fun _ => letGo (#[] : Array Value).toList.reverse >>= fun _ => Builtin.List.listExtendWith (.ref s.heap.objs.size) (.ref a) .none) _ _ _
  refine wpAny_bind (wpAny_updateSeq at_ rfl (wpAny_bind (wpAny_letGo ?_)))
  have I2 := I1.lset (f := fun _ => #[]) (its := []) (its' := []) (ys := []) (t' := s.toks) upd_same at_ rfl .nil (Nat.zero_le _)
  rw [upd_upd] at I2
  exact listIt_extend (A1 := X.A.in1) (Rs := wants (fun r s₂ => r = .none ∧ EP X pins σ Q (.ref s.heap.objs.size) s₂) X.xe) hi hif hl hlf FI bI FL bL Tm sb hh (fun e s' z => z) I2 fr rfl ha hT hS
    (fun H' s' J sm e => ⟨rfl, .ref s.heap.objs.size, H', J, rfl, q _ H' fr sm e⟩)
end
end L2

set_option Elab.async false
set_option linter.all false
set_option maxRecDepth 100000
namespace KP
open PySem PySem.Spec PyProof.Rows L2
abbrev S := L2.St
section
variable {σ : S} {H : Hp} {Q : VK} {QT : Bool → Hp → Prop} {QA : List V → Hp → Prop} {v x y : V} {ta tb te tl : TE} {t u : TT} {r : R2} {i : Nat} {D : Ends} {s1 s2 : TS} {g : TG} {K : PySem.W.Frag} {ar : TA} {vs : List V} {sp : Sp} {E : XK}
theorem i_var (h : σ[i]? = some (some v)) (q : Q v H) : tVar i σ H Q := ⟨v, h, q⟩
theorem i_c (q : Q v H) : tC v σ H Q := q
theorem i_op (q : ta σ H fun x H1 => tb σ H1 fun y H2 => r x y H2 Q) : tOp r ta tb σ H Q := q
theorem i_un {r : V → Hp → VK → Prop} (q : ta σ H fun x H1 => r x H1 Q) : tUn r ta σ H Q := q
theorem i_test (q : te σ H fun x H' => ∃ k, x = .bl k ∧ QT k H') : tTest te σ H QT := q
theorem i_B (q : te σ H fun x H' => ∃ k, x = .bl k ∧ QT k H') : tB te σ H QT := q
theorem i_and (q : t σ H fun c H1 => if c = true then u σ H1 QT else QT false H1) : tAnd t u σ H QT := q
theorem i_or (q : t σ H fun c H1 => if c = true then QT true H1 else u σ H1 QT) : tOr t u σ H QT := q
theorem i_not (q : t σ H fun c H1 => QT (!c) H1) : tNot t σ H QT := q
theorem i_andV (q : ta σ H fun x H1 => ∃ c, x = .bl c ∧ if c = true then tb σ H1 Q else Q (.bl false) H1) : tAndV ta tb σ H Q := q
theorem i_orV (q : ta σ H fun x H1 => ∃ c, x = .bl c ∧ if c = true then Q (.bl true) H1 else tb σ H1 Q) : tOrV ta tb σ H Q := q
theorem i_notV (q : ta σ H fun x H1 => ∃ c, x = .bl c ∧ Q (.bl (!c)) H1) : tNotV ta σ H Q := q
theorem i_tif (q : t σ H fun c H1 => if c = true then ta σ H1 Q else tb σ H1 Q) : tIf t ta tb σ H Q := q
theorem i_exb {b : Bool} {A : Bool → Prop} (q : A b) : ∃ k, V.bl b = .bl k ∧ A k := ⟨b, rfl, q⟩
theorem i_seq (q : s1 { D with nx := s2 D } σ H) : tSeq s1 s2 D σ H := q
theorem i_asg (q : te σ H fun x H1 => g x σ H1 D.nx) : tAsg te g D σ H := q
theorem i_gname {QN : S → Hp → Prop} (q : QN (σ.set i (some v)) H) : gName i v σ H QN := q
theorem i_drop (q : te σ H fun _ H1 => D.nx σ H1) : tDrop te D σ H := q
theorem i_ret (q : te σ H D.rt) : tRet te D σ H := q
theorem i_retN (q : D.rt .non H) : tRetN D σ H := q
theorem i_next (q : D.nx σ H) : tNext D σ H := q
theorem i_ifS (q : t σ H fun b H1 => if b = true then s1 D σ H1 else s2 D σ H1) : tIfS t s1 s2 D σ H := q
theorem i_nil (q : QA [] H) : tNil σ H QA := q
theorem i_cons (q : te σ H fun x H1 => ar σ H1 fun xs H2 => QA (x :: xs) H2) : tCons te ar σ H QA := q
theorem i_cb {r : List V → Hp → VK → Prop} (q : ar σ H fun vs H1 => r vs H1 Q) : tCB r ar σ H Q := q
theorem i_call {dvs : List V} (q : ar σ H fun vs H1 => sp (vs ++ dvs) H1 Q E) : tCall sp dvs E ar σ H Q := q
theorem i_rI0 {g : Int → Int → V} {i j : Int} (q : Q (g i j) H) : rI0 g (.int i) (.int j) H Q := ⟨i, j, rfl, rfl, q⟩
theorem i_rI {C : Int → Int → Prop} {g : Int → Int → V} {i j : Int} (c : C i j) (q : Q (g i j) H) : rI C g (.int i) (.int j) H Q := ⟨i, j, rfl, rfl, c, q⟩
theorem i_rU {g : Int → V} {i : Int} (q : Q (g i) H) : rU g (.int i) H Q := ⟨i, rfl, q⟩
theorem i_eq (h : scal x y = true) (q : Q (.bl (decide (x = y))) H) : rEq x y H Q := ⟨h, q⟩
theorem i_ne (h : scal x y = true) (q : Q (.bl (!decide (x = y))) H) : rNe x y H Q := ⟨h, q⟩
theorem i_bm {T : String} {r : V → List V → Hp → VK → Prop} (q : te σ H fun x H1 => tyV K T x H1 ∧ ar σ H1 fun xs H2 => r x xs H2 Q) : tBM K T r te ar σ H Q := q
theorem i_append {l : Addr} {xs : List V} (h : H l = some (.lst xs)) (z : xs.length ≤ 1000) (q : Q .non (upd H l (.lst (xs ++ [y])))) : rAppend (.ref l) [y] H Q := ⟨l, xs, y, rfl, rfl, h, small1000 z, q⟩
theorem i_tyL {l : Addr} {xs : List V} {A : Prop} (h : SqL K H l xs) (q : A) : tyV K "list" (.ref l) H ∧ A := ⟨.inl ⟨rfl, _, h⟩, q⟩
theorem i_ixL {p : Addr} {xs : List V} {j : Int} (h : SqL K H p xs) (e : atI xs j = some v) (q : Q v H) : rIxL K (.ref p) (.int j) H Q := ⟨p, xs, j, v, rfl, rfl, h, e, q⟩
theorem i_ixT {p : Addr} {xs : List V} {j : Int} (h : SqT K H p xs) (e : atI xs j = some v) (q : Q v H) : rIxT K (.ref p) (.int j) H Q := ⟨p, xs, j, v, rfl, rfl, h, e, q⟩
theorem i_fld {a C dx : Addr} {fs : List (Str × V)} {f : Str} (q : te σ H fun x H1 => ∃ a C dx fs v, x = .ref a ∧ H1 a = some (.ins C dx fs) ∧ Cls K C ∧ NoAttr K C f ∧ fs.lookup f = some v ∧ Q v H1) : tFld K te f σ H Q := q
theorem i_yes {Q : Bool → Hp → Prop} (q : Q true H) : tYes σ H Q := q
end
theorem same_new {H : Hp} {p : Addr} {o : HO} (h : H p = none) : Same H (upd H p o) := fun b x e => by
  rw [upd_ne (ne_of_none e h)]
  exact e
/-- what is ours changes -/
theorem same_own {H H' : Hp} {p : Addr} {o : HO} (h : H p = none) (sm : Same H H') : Same H (upd H' p o) := fun b x e => by
  rw [upd_ne (ne_of_none e h)]
  exact sm b x e
/-- the names that are still the built-ins' -/
structure Blt (mg : Str → Option Value) : Prop where
  len : mg "len" = none
  int : mg "int" = none
  abs : mg "abs" = none
  range : mg "range" = none
  list : mg "list" = none
  tuple : mg "tuple" = none
  isinstance : mg "isinstance" = none
  iter : mg "iter" = none
  all : mg "all" = none
  any : mg "any" = none
  bool : mg "bool" = none
  str : mg "str" = none
  sorted : mg "sorted" = none
  ValueError : mg "ValueError" = none
  dict : mg "dict" = none
  enumerate : mg "enumerate" = none
  set : mg "set" = none
/-- a def of the module, called by its name -/
structure OkF (P : Program) (w : World) (K : PySem.W.Frag) (mg : Str → Option Value) (base : Heap) (CX : CXT) (k : Nat) (x : Str) (ps : List Str) (sp : Sp) : Prop where
  ex : ∃ f fd, mg x = some (.ref f) ∧ PySem.W.keepIn K (.ref f) = true ∧ Binds K fd ps [] ∧ FnOk P w K mg base CX k f fd ps sp
/-- where a def of the module stands -/
structure FnAt (K : PySem.W.Frag) (mg : Str → Option Value) (x : Str) (st : Stmt) (ps : List Str) : Prop where
  ex : ∃ f fd, mg x = some (.ref f) ∧ Binds K fd ps [] ∧ Fun K x x st f fd
theorem FnAt.ok {P : Program} {w : World} {K : PySem.W.Frag} {mg : Str → Option Value} {base : Heap} {CX : CXT} {k : Nat} {x : Str} {st : Stmt} {ps : List Str} {sp : Sp} (A : FnAt K mg x st ps) (h : ∀ f fd, Fun K x x st f fd → FnOk P w K mg base CX k f fd ps sp) : OkF P w K mg base CX k x ps sp := by
  obtain ⟨f, fd, e, b, F⟩ := A.ex
  exact ⟨f, fd, e, F.kp, b, h f fd F⟩
section
variable {X : Cx} {CX : CXT} {k : Nat} {ps : List Str} {sp : Sp} {E : XK} {x : Str} {p pos : Pos} {e : Expr} {es : List Expr} {t : TA}
theorem pe_callO (O : OkF X.prog X.w X.K X.mg X.base CX k x ps sp) (hr : Room k X.A) (ha : PA X (e :: es) t) (hx : Passes CX X E := by exact pass0) (hg : Gl X x := by rfl)
    (he : starEach (e :: es) X.env = (false, eval e X.env) :: starEach es X.env := by rfl) (hpl : (backTo pos (starEach es X.env)).any (·.1) = false := by rfl) (hdb : (x == ("__debug__" : Str)) = false := by decide) :
    PE X (.Call (.Name x p) (e :: es) [] pos) (tCall sp [] E t) := by
  obtain ⟨f, fd, hm, hk, hb, F⟩ := O.ex
  exact pe_call F hr hg hm hk hb .nil hx ha hdb he hpl
theorem pe_callO0 (O : OkF X.prog X.w X.K X.mg X.base CX k x ps sp) (hr : Room k X.A) (hx : Passes CX X E := by exact pass0) (hg : Gl X x := by rfl) (hdb : (x == ("__debug__" : Str)) = false := by decide) :
    PE X (.Call (.Name x p) [] [] pos) (tCall sp [] E tNil) := by
  obtain ⟨f, fd, hm, hk, hb, F⟩ := O.ex
  exact pe_call0 F hr hg hm hk hb .nil hx hdb
end
theorem _root_.L2.Room.units1 {A : Around} {k : Nat} (hr : Room k A) : A.units + 65 < cLine := by have := hr.un; omega
theorem hu1 {A : Around} {k : Nat} (hr : Room k A) : A.units + 65 < cLine := by have := hr.un; omega

/-! ### calls by names of their own -/
section
variable {X : Cx} {K : PySem.W.Frag} {H : Hp} {Q : VK} {a : Addr} {xs : List V} {i : Int} {b : Bool} {z : Str}
def rLenL (K : PySem.W.Frag) : List V → Hp → VK → Prop := fun vs H Q => ∃ p ys, vs = [V.ref p] ∧ SqL K H p ys ∧ Q (.int ys.length) H
def rLenT (K : PySem.W.Frag) : List V → Hp → VK → Prop := fun vs H Q => ∃ p ys, vs = [V.ref p] ∧ SqT K H p ys ∧ Q (.int ys.length) H
theorem call_lenL : CallR X (.builtin "len") (rLenL X.K) := fun pins s σ H xs us Q I r ⟨p, ys, e, h, q⟩ => call_len_seq pins s σ H xs us Q I r ⟨p, ys, e, .inl h, q⟩
theorem call_lenT : CallR X (.builtin "len") (rLenT X.K) := fun pins s σ H xs us Q I r ⟨p, ys, e, h, q⟩ => call_len_seq pins s σ H xs us Q I r ⟨p, ys, e, .inr h, q⟩
theorem i_lenL (h : SqL K H a xs) (q : Q (.int xs.length) H) : rLenL K [.ref a] H Q := ⟨a, xs, rfl, h, q⟩
theorem i_lenT (h : SqT K H a xs) (q : Q (.int xs.length) H) : rLenT K [.ref a] H Q := ⟨a, xs, rfl, h, q⟩
def rIntI : List V → Hp → VK → Prop := fun vs H Q => ∃ i, vs = [V.int i] ∧ Q (.int i) H
def rIntB : List V → Hp → VK → Prop := fun vs H Q => ∃ k, vs = [V.bl k] ∧ Q (.int (if k then 1 else 0)) H
theorem call_intI : CallR X (.type "int") rIntI := fun pins s σ H xs us Q I r h => call_int1 pins s σ H xs us Q I r (.inl h)
theorem call_intB : CallR X (.type "int") rIntB := fun pins s σ H xs us Q I r h => call_int1 pins s σ H xs us Q I r (.inr h)
theorem i_intI (q : Q (.int i) H) : rIntI [.int i] H Q := ⟨i, rfl, q⟩
theorem i_intB (q : Q (.int (if b then 1 else 0)) H) : rIntB [.bl b] H Q := ⟨b, rfl, q⟩
def rAbsI : List V → Hp → VK → Prop := fun vs H Q => ∃ i, vs = [V.int i] ∧ Q (.int (if i < 0 then -i else i)) H
theorem call_absI : CallR X (.builtin "abs") rAbsI := fun pins s σ H xs us Q I r h => call_abs pins s σ H xs us Q I r h
theorem i_absI (q : Q (.int (if i < 0 then -i else i)) H) : rAbsI [.int i] H Q := ⟨i, rfl, q⟩
/-- list(l), list(t); tuple(l) -/
def rListL (K : PySem.W.Frag) : List V → Hp → VK → Prop := fun vs H Q => ∃ p ys, vs = [V.ref p] ∧ SqL K H p ys ∧ ∀ l H', H l = none → Same H H' → H' l = some (.lst ys) → Q (.ref l) H'
def rListT (K : PySem.W.Frag) : List V → Hp → VK → Prop := fun vs H Q => ∃ p ys, vs = [V.ref p] ∧ SqT K H p ys ∧ ∀ l H', H l = none → Same H H' → H' l = some (.lst ys) → Q (.ref l) H'
def rTupL (K : PySem.W.Frag) : List V → Hp → VK → Prop := fun vs H Q => ∃ p ys, vs = [V.ref p] ∧ SqL K H p ys ∧ ∀ l H', H l = none → Same H H' → H' l = some (.tup ys) → Q (.ref l) H'
def rTupT (K : PySem.W.Frag) : List V → Hp → VK → Prop := fun vs H Q => ∃ p ys, vs = [V.ref p] ∧ SqT K H p ys ∧ Q (.ref p) H
theorem call_listL : CallR X (.type "list") (rListL X.K) := fun pins s σ H xs us Q I r ⟨p, ys, e, h, q⟩ => call_list_of pins s σ H xs us Q I r ⟨p, ys, e, .inl h, fun l hl => q l _ hl (same_new hl) upd_same⟩
theorem call_listT : CallR X (.type "list") (rListT X.K) := fun pins s σ H xs us Q I r ⟨p, ys, e, h, q⟩ => call_list_of pins s σ H xs us Q I r ⟨p, ys, e, .inr h, fun l hl => q l _ hl (same_new hl) upd_same⟩
theorem call_tupL : CallR X (.type "tuple") (rTupL X.K) := fun pins s σ H xs us Q I r ⟨p, ys, e, h, q⟩ => call_tuple_of pins s σ H xs us Q I r ⟨p, ys, e, .inl ⟨h, fun l hl => q l _ hl (same_new hl) upd_same⟩⟩
theorem call_tupT : CallR X (.type "tuple") (rTupT X.K) := fun pins s σ H xs us Q I r ⟨p, ys, e, h, q⟩ => call_tuple_of pins s σ H xs us Q I r ⟨p, ys, e, .inr ⟨h, q⟩⟩
theorem i_listL (h : SqL K H a xs) (q : ∀ l H', H l = none → Same H H' → H' l = some (.lst xs) → Q (.ref l) H') : rListL K [.ref a] H Q := ⟨a, xs, rfl, h, q⟩
theorem i_listT (h : SqT K H a xs) (q : ∀ l H', H l = none → Same H H' → H' l = some (.lst xs) → Q (.ref l) H') : rListT K [.ref a] H Q := ⟨a, xs, rfl, h, q⟩
theorem i_tupL (h : SqL K H a xs) (q : ∀ l H', H l = none → Same H H' → H' l = some (.tup xs) → Q (.ref l) H') : rTupL K [.ref a] H Q := ⟨a, xs, rfl, h, q⟩
theorem i_tupT (h : SqT K H a xs) (q : Q (.ref a) H) : rTupT K [.ref a] H Q := ⟨a, xs, rfl, h, q⟩
end
section
variable {K : PySem.W.Frag} {σ : S} {H : Hp} {Q : VK} {ar : TA} {te : TE} {xs : List V}
/-- a new list, a new tuple: the heap behind it by what it holds -/
def RawL (Q : VK) (xs : List V) (H1 : Hp) : Prop := xs.length ≤ sizeLine ∧ ∀ p, H1 p = none → Q (.ref p) (upd H1 p (.lst xs))
def RawT (Q : VK) (xs : List V) (H1 : Hp) : Prop := xs.length ≤ sizeLine ∧ ∀ p, H1 p = none → Q (.ref p) (upd H1 p (.tup xs))
theorem i_tup (q : ar σ H (RawT Q)) : tTup ar σ H Q := q
theorem i_lst (q : ar σ H (RawL Q)) : tLst ar σ H Q := q
theorem fr_tup {H1 : Hp} (z : xs.length ≤ 1000) (h : ∀ p H2, H1 p = none → Same H1 H2 → H2 p = some (.tup xs) → Q (.ref p) H2) : RawT Q xs H1 := ⟨Nat.le_of_lt (small1000 z), fun p hp => h p _ hp (same_new hp) upd_same⟩
theorem fr_lst {H1 : Hp} (z : xs.length ≤ 1000) (h : ∀ p H2, H1 p = none → Same H1 H2 → H2 p = some (.lst xs) → Q (.ref p) H2) : RawL Q xs H1 := ⟨Nat.le_of_lt (small1000 z), fun p hp => h p _ hp (same_new hp) upd_same⟩
end
theorem Same.at {G H : Hp} {a : Addr} {o : HO} (s : Same G H) (g : G a = some o) : H a = some o := s a o g
theorem Same.sl {K : PySem.W.Frag} {G H : Hp} {a : Addr} {xs : List V} (s : Same G H) (g : SqL K G a xs) : SqL K H a xs := s.seq g
theorem Same.st {K : PySem.W.Frag} {G H : Hp} {a : Addr} {xs : List V} (s : Same G H) (g : SqT K G a xs) : SqT K H a xs := SqT.ext g s
theorem sl_of {K : PySem.W.Frag} {H : Hp} {a : Addr} {xs : List V} (h : H a = some (.lst xs)) : SqL K H a xs := .inl (.inl h)
theorem st_of {K : PySem.W.Frag} {H : Hp} {a : Addr} {xs : List V} (h : H a = some (.tup xs)) : SqT K H a xs := .inl (.inl h)

theorem i_cut {t u : TS} {D : Ends} {σ : S} {H : Hp} (Mid : S → Hp → Prop) (a : t { D with nx := Mid } σ H) (b : ∀ σ' H', Mid σ' H' → u D σ' H') : Evl.tCut t u D σ H := ⟨Mid, a, b⟩
section
variable {K : PySem.W.Frag} {ta : TA} {tl : TE} {D : Ends} {σ : S} {H : Hp} {i : Nat} {tb : TS} {g : TG}
def RawFor (g : TG) (tb : TS) (D : Ends) (σ : S) (J : It) (H1 : Hp) : Prop := tFor (fun _ _ R => R J H1) g tb D σ H1
def RawR1 (g : TG) (tb : TS) (D : Ends) (σ : S) (vs : List V) (H1 : Hp) : Prop := ∃ j : Int, vs = [.int j] ∧ -(2 ^ 62) ≤ j ∧ j < 2 ^ 62 ∧ RawFor g tb D σ (Itr 0 j.toNat) H1
def RawFL (K : PySem.W.Frag) (g : TG) (tb : TS) (D : Ends) (σ : S) (x : V) (H1 : Hp) : Prop := ∃ a, x = .ref a ∧ (∃ xs, SqL K H1 a xs) ∧ RawFor g tb D σ (Itl K a) H1
def RawFT (K : PySem.W.Frag) (g : TG) (tb : TS) (D : Ends) (σ : S) (x : V) (H1 : Hp) : Prop := ∃ a, x = .ref a ∧ (∃ xs, SqT K H1 a xs) ∧ RawFor g tb D σ (Itt K a) H1
theorem i_forR1 (q : ta σ H (RawR1 g tb D σ)) : tFor (iRng1 ta) g tb D σ H := q
theorem i_forL (q : tl σ H (RawFL K g tb D σ)) : tFor (iList K tl) g tb D σ H := q
theorem i_forT (q : tl σ H (RawFT K g tb D σ)) : tFor (iTup K tl) g tb D σ H := q
/-- for k in range(j): the invariant, its start, a turn, the end -/
theorem raw_r1 {j : Int} (h1 : 0 ≤ j) (h2 : j ≤ 1000000) (Pv : Nat → S → Hp → Prop) (p0 : Pv 0 σ H) (hs : ∀ (n : Nat) σ H, (n : Int) < j → Pv n σ H → tb { D with nx := Pv (n + 1), ct := Pv (n + 1), bk := D.nx } (σ.set i (some (.int (n : Int)))) H)
    (hd : ∀ (n : Nat) σ H, (n : Int) = j → Pv n σ H → D.nx σ H) : RawR1 (gName i) tb D σ [.int j] H := by
  refine ⟨j, rfl, by omega, by omega, for_range (lo := 0) (n := j.toNat) Pv p0 (fun n σ H hn p => ?_) (fun σ H p => hd _ σ H (by omega) p)⟩
  have := hs n σ H (by omega) p
  show tb _ (σ.set i (some (.int (0 + (n : Int))))) H
  rw [Int.zero_add]
  exact this
theorem raw_fl {a : Addr} {xs : List V} (hS : SqL K H a xs) (Pv : Nat → S → Hp → Prop) (p0 : Pv 0 σ H) (hl : ∀ i σ H, i ≤ xs.length → Pv i σ H → SqL K H a xs)
    (hs : ∀ i x σ H, xs[i]? = some x → Pv i σ H → g x σ H fun σ2 H2 => tb { D with nx := Pv (i + 1), ct := Pv (i + 1), bk := D.nx } σ2 H2) (hd : ∀ σ H, Pv xs.length σ H → D.nx σ H) : RawFL K g tb D σ (.ref a) H :=
  ⟨a, rfl, ⟨_, hS⟩, for_list (xs := xs) Pv p0 hl hs hd⟩
theorem raw_ft {a : Addr} {xs : List V} (hS : SqT K H a xs) (Pv : Nat → S → Hp → Prop) (p0 : Pv 0 σ H) (hl : ∀ i σ H, i ≤ xs.length → Pv i σ H → SqT K H a xs)
    (hs : ∀ i x σ H, xs[i]? = some x → Pv i σ H → g x σ H fun σ2 H2 => tb { D with nx := Pv (i + 1), ct := Pv (i + 1), bk := D.nx } σ2 H2) (hd : ∀ σ H, Pv xs.length σ H → D.nx σ H) : RawFT K g tb D σ (.ref a) H :=
  ⟨a, rfl, ⟨_, hS⟩, for_tup (xs := xs) Pv p0 hl hs hd⟩
end

/-! ### comprehensions -/
/-- the tuples stay -/
def TupK (H H' : Hp) : Prop := ∀ t xs, H t = some (.tup xs) → H' t = some (.tup xs)
theorem TupK.refl (H : Hp) : TupK H H := fun _ _ h => h
theorem TupK.trans {H H1 H2 : Hp} (a : TupK H H1) (b : TupK H1 H2) : TupK H H2 := fun t xs h => b t xs (a t xs h)
theorem Same.tk {H H' : Hp} (s : Same H H') : TupK H H' := fun t xs h => s t _ h
theorem tk_upd {H : Hp} {p : Addr} {o o' : HO} (h : H p = some o) (n : ∀ xs, o ≠ .tup xs) : TupK H (upd H p o') := fun t xs e => by
  by_cases q : t = p
  · subst q
    rw [h] at e
    exact absurd (Option.some.inj e) (n xs)
  · rw [upd_ne q]
    exact e
section
variable {K : PySem.W.Frag} {tl tl2 te : TE} {σ : S} {H : Hp} {Q : VK} {g g2 : TG} {tt tt2 : TT} {vs vs2 : List Nat} {ta : TA}
def RawLc (g : TG) (tt : TT) (te : TE) (vs : List Nat) (σ : S) (Q : VK) (J : It) (H1 : Hp) : Prop := tLc (fun _ _ R => R J H1) g tt te vs σ H1 Q
def RawLcL (K : PySem.W.Frag) (g : TG) (tt : TT) (te : TE) (vs : List Nat) (σ : S) (Q : VK) (x : V) (H1 : Hp) : Prop := ∃ a, x = .ref a ∧ (∃ xs, SqL K H1 a xs) ∧ RawLc g tt te vs σ Q (Itl K a) H1
def RawLcT (K : PySem.W.Frag) (g : TG) (tt : TT) (te : TE) (vs : List Nat) (σ : S) (Q : VK) (x : V) (H1 : Hp) : Prop := ∃ a, x = .ref a ∧ (∃ xs, SqT K H1 a xs) ∧ RawLc g tt te vs σ Q (Itt K a) H1
def RawLcR (g : TG) (tt : TT) (te : TE) (vs : List Nat) (σ : S) (Q : VK) (xs : List V) (H1 : Hp) : Prop := ∃ j : Int, xs = [.int j] ∧ -(2 ^ 62) ≤ j ∧ j < 2 ^ 62 ∧ RawLc g tt te vs σ Q (Itr 0 j.toNat) H1
theorem i_lcL (q : tl σ H (RawLcL K g tt te vs σ Q)) : tLc (iList K tl) g tt te vs σ H Q := q
theorem i_lcT (q : tl σ H (RawLcT K g tt te vs σ Q)) : tLc (iTup K tl) g tt te vs σ H Q := q
theorem i_lcR (q : ta σ H (RawLcR g tt te vs σ Q)) : tLc (iRng1 ta) g tt te vs σ H Q := q
/-- one turn of a comprehension, for any wish: it keeps, or it does not -/
def LcTurn (g : TG) (tt : TT) (te : TE) (vs : List Nat) (σ : S) (Pv : Nat → List V → Hp → Prop) (i : Nat) (x : V) (acc : List V) (H' : Hp) : Prop :=
  ∀ (Y : VK) (N : Hp → Prop), (∀ y H4, Same H' H4 → Pv (i + 1) (acc ++ [y]) H4 → Y y H4) → (∀ H3, Same H' H3 → Pv (i + 1) acc H3 → N H3) →
    g x (wipe σ vs) H' fun σ2 H2 => wipe σ2 vs = wipe σ vs ∧ tt σ2 H2 fun b H3 => if b = true then te σ2 H3 Y else N H3
theorem raw_lc {J : It} {n : Nat} {G : Hp → Prop} {Yl : Nat → V → Prop} (w : Walk J n G fun i H x H' => H' = H ∧ Yl i x) (hn : n ≤ 1000) (gm : ∀ H', Same H H' → G H') (Pv : Nat → List V → Hp → Prop) (mono : ∀ i acc H H', TupK H H' → Pv i acc H → Pv i acc H') (p0 : Pv 0 [] H)
    (hs : ∀ i x acc H', i < n → Yl i x → Same H H' → Pv i acc H' → LcTurn g tt te vs σ Pv i x acc H') (hd : ∀ D acc H', H D = none → Same H H' → H' D = some (.lst acc) → Pv n acc H' → Q (.ref D) H') : RawLc g tt te vs σ Q J H := fun D hD => by
  refine lc_it w (fun i H' => ∃ acc, H' D = some (.lst acc) ∧ acc.length ≤ i ∧ Same H H' ∧ Pv i acc H') ⟨[], upd_same, Nat.le_refl _, same_new hD, mono _ _ _ _ (Same.tk (same_new hD)) p0⟩ (fun i H' _ ⟨_, _, _, sm, _⟩ => gm H' sm) ?_ ?_
  · rintro i x H1 H2 hi ⟨acc, e, hl, sm, p⟩ ⟨rfl, y⟩
    refine hs i x acc H2 hi y sm p _ _ (fun y H4 s4 p4 => ?_) fun H3 s3 p3 => ?_
    · have e4 : H4 D = some (.lst acc) := s4 D _ e
      refine ⟨acc, e4, small1000 (by omega), acc ++ [y], upd_same, by simp; omega, same_own hD (sm.trans s4), mono _ _ _ _ (tk_upd e4 fun xs z => nomatch z) p4⟩
    · exact ⟨acc, s3 D _ e, by omega, sm.trans s3, p3⟩
  · rintro H' ⟨acc, e, hl, sm, p⟩
    exact hd D acc H' hD sm e p
theorem raw_lcL {a : Addr} {xs : List V} (hS : SqL K H a xs) (hn : xs.length ≤ 1000) (Pv : Nat → List V → Hp → Prop) (mono : ∀ i acc H H', TupK H H' → Pv i acc H → Pv i acc H') (p0 : Pv 0 [] H)
    (hs : ∀ i x acc H', xs[i]? = some x → Same H H' → Pv i acc H' → LcTurn g tt te vs σ Pv i x acc H') (hd : ∀ D acc H', H D = none → Same H H' → H' D = some (.lst acc) → Pv xs.length acc H' → Q (.ref D) H') : RawLcL K g tt te vs σ Q (.ref a) H :=
  ⟨a, rfl, ⟨_, hS⟩, raw_lc (Yl := fun i x => xs[i]? = some x) walk_list hn (fun H' s => s.seq hS) Pv mono p0 (fun i x acc H' _ => hs i x acc H') hd⟩
theorem raw_lcT {a : Addr} {xs : List V} (hS : SqT K H a xs) (hn : xs.length ≤ 1000) (Pv : Nat → List V → Hp → Prop) (mono : ∀ i acc H H', TupK H H' → Pv i acc H → Pv i acc H') (p0 : Pv 0 [] H)
    (hs : ∀ i x acc H', xs[i]? = some x → Same H H' → Pv i acc H' → LcTurn g tt te vs σ Pv i x acc H') (hd : ∀ D acc H', H D = none → Same H H' → H' D = some (.lst acc) → Pv xs.length acc H' → Q (.ref D) H') : RawLcT K g tt te vs σ Q (.ref a) H :=
  ⟨a, rfl, ⟨_, hS⟩, raw_lc (Yl := fun i x => xs[i]? = some x) walk_tup hn (fun H' s => SqT.ext hS s) Pv mono p0 (fun i x acc H' _ => hs i x acc H') hd⟩
theorem raw_lcR {j : Int} (h0 : 0 ≤ j) (hn : j ≤ 1000) (Pv : Nat → List V → Hp → Prop) (mono : ∀ i acc H H', TupK H H' → Pv i acc H → Pv i acc H') (p0 : Pv 0 [] H)
    (hs : ∀ (i : Nat) acc H', (i : Int) < j → Same H H' → Pv i acc H' → LcTurn g tt te vs σ Pv i (.int i) acc H') (hd : ∀ D acc H', H D = none → Same H H' → H' D = some (.lst acc) → Pv j.toNat acc H' → Q (.ref D) H') : RawLcR g tt te vs σ Q [.int j] H := by
  refine ⟨j, rfl, by omega, by omega, raw_lc (Yl := fun i x => x = .int (0 + (i : Int))) walk_range (by omega) (fun _ _ => trivial) Pv mono p0 (fun i x acc H' hi e => ?_) hd⟩
  subst e
  rw [Int.zero_add]
  exact hs i acc H' (by omega)
/-! two clauses -/
def RawLc2 (wi1 : TI) (g : TG) (tt : TT) (g1 : TG) (tt1 : TT) (te : TE) (vs vs1 : List Nat) (σ : S) (Q : VK) (J : It) (H1 : Hp) : Prop := tLc2 (fun _ _ R => R J H1) g tt wi1 g1 tt1 te vs vs1 σ H1 Q
/-- the inner walk: it has come, for any wish R of it -/
def InnerAt (wi : TI) (σ : S) (H' : Hp) (ys : List V) (G : Hp → Prop) : Prop := ∀ R : It → Hp → Prop, (∀ J1 H4, Walk J1 ys.length G (YAt ys) → Same H' H4 → R J1 H4) → wi σ H' R
/-- one turn within -/
def Lc2Turn (g1 : TG) (tt1 : TT) (te : TE) (vs1 : List Nat) (σ2 : S) (Pv : Nat → Nat → List V → Hp → Prop) (i j : Nat) (y : V) (acc : List V) (H' : Hp) : Prop :=
  ∀ (Y : VK) (N : Hp → Prop), (∀ y H4, Same H' H4 → Pv i (j + 1) (acc ++ [y]) H4 → Y y H4) → (∀ H3, Same H' H3 → Pv i (j + 1) acc H3 → N H3) →
    g1 y (wipe σ2 vs1) H' fun σ3 H5 => wipe σ3 vs1 = wipe σ2 vs1 ∧ tt1 σ3 H5 fun b H6 => if b = true then te σ3 H6 Y else N H6
theorem raw_lc2 {wi1 : TI} {J : It} {xs ys : List V} {G G1 : Hp → Prop} {i0 : Nat} (w : Walk J xs.length G (YAt xs)) (hn : xs.length * ys.length ≤ 1000) (gm : ∀ H', Same H H' → G H') (Pv : Nat → Nat → List V → Hp → Prop)
    (mono : ∀ i j acc H H', TupK H H' → Pv i j acc H → Pv i j acc H') (p0 : Pv 0 0 [] H) (next : ∀ i acc H', Pv i ys.length acc H' → Pv (i + 1) 0 acc H') (gm1 : ∀ H', Same H H' → G1 H') (hwi : ∀ x, wipe ((wipe σ vs).set i0 (some x)) vs = wipe σ vs)
    (hin : ∀ x H', Same H H' → InnerAt wi1 ((wipe σ vs).set i0 (some x)) H' ys G1)
    (hs : ∀ i j x y acc H', xs[i]? = some x → ys[j]? = some y → Same H H' → Pv i j acc H' → Lc2Turn g2 tt2 te vs2 ((wipe σ vs).set i0 (some x)) Pv i j y acc H')
    (hd : ∀ D acc H', H D = none → Same H H' → H' D = some (.lst acc) → Pv xs.length 0 acc H' → Q (.ref D) H') : RawLc2 wi1 (gName i0) tYes g2 tt2 te vs vs2 σ Q J H := fun D hD => by
  refine ⟨fun i m H' => m = xs.length - i ∧ i ≤ xs.length ∧ ∃ acc, H' D = some (.lst acc) ∧ acc.length ≤ i * ys.length ∧ Same H H' ∧ Pv i 0 acc H', ⟨xs.length, rfl, Nat.zero_le _, [], upd_same, Nat.zero_le _, same_new hD, mono _ _ _ _ _ (Same.tk (same_new hD)) p0⟩, ?_⟩
  rintro i m H' ⟨rfl, hi, acc, e, hl, sm, p⟩
  have q := gm H' sm
  by_cases hlt : i < xs.length
  · refine .inr ⟨w.goes i H' hlt q, fun H'' => ∃ acc, H'' D = some (.lst acc) ∧ acc.length ≤ (i + 1) * ys.length ∧ Same H H'' ∧ Pv (i + 1) 0 acc H'', fun H'' ⟨acc', z⟩ => ⟨xs.length - (i + 1), by omega, rfl, hlt, acc', z⟩, fun x H2 y => ?_⟩
    obtain ⟨rfl, hx⟩ := w.yields i H' x H2 hlt q y
    show wipe ((wipe σ vs).set i0 (some x)) vs = wipe σ vs ∧ _
    refine ⟨hwi x, ?_⟩
    refine i_yes ?_
    refine iteT ?_
    refine hin x H2 sm _ fun J1 H4 w1 s4 => ?_
    refine ⟨fun j k H' => k = ys.length - j ∧ j ≤ ys.length ∧ ∃ acc, H' D = some (.lst acc) ∧ acc.length ≤ i * ys.length + j ∧ Same H H' ∧ Pv i j acc H', ⟨ys.length, rfl, Nat.zero_le _, acc, s4 D _ e, hl, sm.trans s4, mono _ _ _ _ _ (Same.tk s4) p⟩, ?_⟩
    rintro j k H5 ⟨rfl, hj, acc, e, hl, sm, p⟩
    have g5 := gm1 H5 sm
    by_cases hjl : j < ys.length
    · refine .inr ⟨w1.goes j H5 hjl g5, fun H'' => ∃ acc, H'' D = some (.lst acc) ∧ acc.length ≤ i * ys.length + (j + 1) ∧ Same H H'' ∧ Pv i (j + 1) acc H'', fun H'' ⟨acc', z⟩ => ⟨ys.length - (j + 1), by omega, rfl, hjl, acc', z⟩, fun y H6 yy => ?_⟩
      obtain ⟨rfl, hy⟩ := w1.yields j H5 y H6 hjl g5 yy
      have hbig : i * ys.length + j < xs.length * ys.length := by
        have : (i + 1) * ys.length ≤ xs.length * ys.length := Nat.mul_le_mul_right _ hlt
        rw [Nat.add_mul] at this
        omega
      refine hs i j x y acc H6 hx hy sm p _ _ (fun z H7 s7 p7 => ?_) fun H7 s7 p7 => ?_
      · have e7 : H7 D = some (.lst acc) := s7 D _ e
        exact ⟨acc, e7, small1000 (by omega), acc ++ [z], upd_same, by simp; omega, same_own hD (sm.trans s7), mono _ _ _ _ _ (tk_upd e7 fun xs z => nomatch z) p7⟩
      · exact ⟨acc, s7 D _ e, by omega, sm.trans s7, p7⟩
    · have ej : j = ys.length := by omega
      subst ej
      exact .inl ⟨w1.stops H5 g5, acc, e, by rw [Nat.add_mul]; omega, sm, next i acc H5 p⟩
  · have ei : i = xs.length := by omega
    subst ei
    exact .inl ⟨w.stops H' q, hd D acc H' hD sm e p⟩
end
end KP

set_option Elab.async false
set_option linter.all false
set_option maxRecDepth 100000
namespace KP
open PySem PySem.Spec PyProof.Rows L2
/-! ### pairs -/
abbrev Pr := Str × Str
def kinds : List Str := ["read", "acquire", "write", "release"]
def kindsV : List V := kinds.map V.str
def kindB (x : Str) : Bool := decide (x ∈ kinds)
def allPairs : List Pr := [("read", "read"), ("read", "acquire"), ("read", "write"), ("read", "release"), ("acquire", "read"), ("acquire", "acquire"), ("acquire", "write"), ("acquire", "release"), ("write", "read"), ("write", "acquire"), ("write", "write"), ("write", "release"), ("release", "read"), ("release", "acquire"), ("release", "write"), ("release", "release")]
theorem all_at : ∀ i < 4, ∀ j < 4, allPairs[i * 4 + j]? = (kinds[i]?).bind fun a => (kinds[j]?).map fun b => (a, b) := by decide +kernel
theorem all_mem : ∀ p : Pr, p ∈ allPairs ↔ kindB p.1 = true ∧ kindB p.2 = true := by
  rintro ⟨a, b⟩
  constructor
  · intro h
    have : ∀ p ∈ allPairs, kindB p.1 = true ∧ kindB p.2 = true := by decide +kernel
    exact this _ h
  · rintro ⟨h1, h2⟩
    have e : ∀ x ∈ kinds, ∀ y ∈ kinds, (x, y) ∈ allPairs := by decide +kernel
    exact e a (of_decide_eq_true h1) b (of_decide_eq_true h2)
theorem all_nodup : allPairs.Nodup := by decide +kernel
def PairV (H : Hp) (v : V) (p : Pr) : Prop := ∃ t, v = .ref t ∧ H t = some (.tup [.str p.1, .str p.2])
abbrev PairsV (H : Hp) : List V → List Pr → Prop := Paired (PairV H)
theorem PairV.mono {H H' : Hp} {v : V} {p : Pr} (k : TupK H H') (h : PairV H v p) : PairV H' v p := let ⟨t, e, g⟩ := h; ⟨t, e, k _ _ g⟩
theorem PairsV.mono {H H' : Hp} (k : TupK H H') : ∀ {vs : List V} {ps : List Pr}, PairsV H vs ps → PairsV H' vs ps
  | _, _, .nil => .nil
  | _, _, .cons a b => .cons (a.mono k) (PairsV.mono k b)
theorem paired_app {α β : Type} {F : α → β → Prop} : ∀ {l1 : List α} {m1 : List β} {l2 : List α} {m2 : List β}, Paired F l1 m1 → Paired F l2 m2 → Paired F (l1 ++ l2) (m1 ++ m2)
  | _, _, _, _, .nil, h => h
  | _, _, _, _, .cons a b, h => .cons a (paired_app b h)
theorem paired_get {α β : Type} {F : α → β → Prop} : ∀ {l : List α} {m : List β} {i : Nat} {x : α}, Paired F l m → l[i]? = some x → ∃ y, m[i]? = some y ∧ F x y
  | _, _, _, _, .nil, e => by simp at e
  | _, _, 0, x, .cons a b, e => by simp at e; subst e; exact ⟨_, rfl, a⟩
  | _, _, i + 1, x, .cons a b, e => paired_get (i := i) b (by simpa using e)
theorem paired_get' {α β : Type} {F : α → β → Prop} : ∀ {l : List α} {m : List β} {i : Nat} {y : β}, Paired F l m → m[i]? = some y → ∃ x, l[i]? = some x ∧ F x y
  | _, _, _, _, .nil, e => by simp at e
  | _, _, 0, x, .cons a b, e => by simp at e; subst e; exact ⟨_, rfl, a⟩
  | _, _, i + 1, x, .cons a b, e => paired_get' (i := i) b (by simpa using e)
theorem paired_len {α β : Type} {F : α → β → Prop} : ∀ {l : List α} {m : List β}, Paired F l m → l.length = m.length
  | _, _, .nil => rfl
  | _, _, .cons _ b => congrArg Nat.succ (paired_len b)
theorem paired_snoc {α β : Type} {F : α → β → Prop} {l : List α} {m : List β} {x : α} {y : β} (h : Paired F l m) (r : F x y) : Paired F (l ++ [x]) (m ++ [y]) := paired_app h (.cons r .nil)
theorem paired_mono {α β : Type} {F G : α → β → Prop} (k : ∀ a b, F a b → G a b) : ∀ {l : List α} {m : List β}, Paired F l m → Paired G l m
  | _, _, .nil => .nil
  | _, _, .cons a b => .cons (k _ _ a) (paired_mono k b)
theorem take_snoc {α : Type} {l : List α} {i : Nat} {x : α} (h : l[i]? = some x) : l.take (i + 1) = l.take i ++ [x] := by rw [List.take_add_one, h]; rfl

/-! ### as data -/
def dPair (p : Pr) : PyData := .tuple [.str p.1, .str p.2]
theorem dp_pair {K : PySem.W.Frag} {H : Hp} {v : V} {p : Pr} (h : PairV H v p) : Dp K H v (dPair p) := by
  obtain ⟨t, rfl, e⟩ := h
  exact .tup (.inl (.inl e)) (.cons (.str _) (.cons (.str _) .nil))
theorem dp_pairs {K : PySem.W.Frag} {H : Hp} : ∀ {vs : List V} {ps : List Pr}, PairsV H vs ps → DpAll K H vs (ps.map dPair)
  | _, _, .nil => .nil
  | _, _, .cons a b => .cons (dp_pair a) (dp_pairs b)
theorem eqv_pair (p q : Pr) : PyData.eqv (dPair p) (dPair q) = decide (p = q) := by
  obtain ⟨a, b⟩ := p
  obtain ⟨c, d⟩ := q
  have e : PyData.eqv (dPair (a, b)) (dPair (c, d)) = ((a == c) && ((b == d) && true)) := by simp only [dPair, PyData.eqv, PyData.eqvAll]
  rw [e, Bool.and_true]
  by_cases h1 : a = c
  · by_cases h2 : b = d
    · subst h1 h2; simp
    · have : ¬ ((a, b) : Pr) = (c, d) := fun z => h2 (Prod.mk.inj z).2
      simp [this, h2]
  · have : ¬ ((a, b) : Pr) = (c, d) := fun z => h1 (Prod.mk.inj z).1
    simp [this, h1]
theorem eqv_pairs : ∀ ps qs : List Pr, PyData.eqvAll (ps.map dPair) (qs.map dPair) = decide (ps = qs)
  | [], [] => by simp [PyData.eqvAll]
  | [], _ :: _ => by simp [PyData.eqvAll]
  | _ :: _, [] => by simp [PyData.eqvAll]
  | p :: ps, q :: qs => by
    simp only [List.map_cons, PyData.eqvAll, eqv_pair, eqv_pairs ps qs]
    by_cases h1 : p = q
    · by_cases h2 : ps = qs
      · simp [h1, h2]
      · simp [h1, h2]
    · simp [h1]
theorem any_pairs (p : Pr) : ∀ ps : List Pr, ((ps.map dPair).any fun z => PyData.eqv z (dPair p)) = decide (p ∈ ps)
  | [] => by simp
  | q :: ps => by
    rw [List.map_cons, List.any_cons, any_pairs p ps, eqv_pair]
    by_cases h : q = p
    · subst h; simp
    · have h' : ¬ p = q := fun z => h z.symm
      simp [h, h']
def GoodP (p : Pr) : Bool := PyData.strOk p.1 && PyData.strOk p.2
theorem good_all : ∀ p ∈ allPairs, GoodP p = true := by decide +kernel
theorem lay_pair {p : Pr} (h : GoodP p = true) : (dPair p).canLay0 = true := by
  obtain ⟨h1, h2⟩ := Bool.and_eq_true_iff.mp h
  simp [dPair, PyData.canLay0, PyData.canLayAll0, h1, h2]
theorem lay_pairs : ∀ {ps : List Pr}, (∀ p ∈ ps, GoodP p = true) → PyData.canLayAll0 (ps.map dPair) = true
  | [], _ => by simp [PyData.canLayAll0]
  | p :: ps, h => by
    simp only [List.map_cons, PyData.canLayAll0]
    rw [lay_pair (h p (List.mem_cons_self ..)), lay_pairs fun q hq => h q (List.mem_cons_of_mem _ hq)] <;> rfl
theorem depth_pair (p : Pr) : (dPair p).depth = 1 := by simp [dPair, PyData.depth, PyData.depthAll]
theorem depth_pairs : ∀ ps : List Pr, PyData.depthAll (ps.map dPair) ≤ 1
  | [] => by simp [PyData.depthAll]
  | p :: ps => by
    have h1 := depth_pairs ps
    have h2 := depth_pair p
    simp only [List.map_cons, PyData.depthAll]
    omega
theorem shaped_pair {p : Pr} (h : GoodP p = true) : SeqAt.shaped (dPair p) = true := by
  show ((dPair p).canLay0 && decide ((dPair p).depth ≤ 64)) = true
  rw [lay_pair h, depth_pair] <;> rfl
theorem shaped_pairsL {ps : List Pr} (h : ∀ p ∈ ps, GoodP p = true) : SeqAt.shaped (.list (ps.map dPair)) = true := by
  have h1 := depth_pairs ps
  have h2 : PyData.depth (.list (ps.map dPair)) ≤ 64 := by simp only [PyData.depth]; omega
  show (PyData.canLay0 (.list (ps.map dPair)) && decide (PyData.depth (.list (ps.map dPair)) ≤ 64)) = true
  rw [Bool.and_eq_true]
  exact ⟨by simp only [PyData.canLay0]; exact lay_pairs h, decide_eq_true h2⟩
theorem shaped_pairsT {ps : List Pr} (h : ∀ p ∈ ps, GoodP p = true) : SeqAt.shaped (.tuple (ps.map dPair)) = true := by
  have h1 := depth_pairs ps
  have h2 : PyData.depth (.tuple (ps.map dPair)) ≤ 64 := by simp only [PyData.depth]; omega
  show (PyData.canLay0 (.tuple (ps.map dPair)) && decide (PyData.depth (.tuple (ps.map dPair)) ≤ 64)) = true
  rw [Bool.and_eq_true]
  exact ⟨by simp only [PyData.canLay0]; exact lay_pairs h, decide_eq_true h2⟩
/-- a list, a tuple of pairs stands at a -/
def PL (K : PySem.W.Frag) (H : Hp) (a : Addr) (ps : List Pr) : Prop := ∃ vs, SqL K H a vs ∧ PairsV H vs ps
def PT2 (K : PySem.W.Frag) (H : Hp) (a : Addr) (ps : List Pr) : Prop := ∃ vs, SqT K H a vs ∧ PairsV H vs ps
section
variable {K : PySem.W.Frag} {H H' : Hp} {Q : VK} {a b : Addr} {ps qs : List Pr} {x : V} {p : Pr}
theorem PL.mono (s : Same H H') (h : PL K H a ps) : PL K H' a ps := let ⟨vs, e, r⟩ := h; ⟨vs, s.seq e, r.mono (Same.tk s)⟩
theorem PT2.mono (s : Same H H') (h : PT2 K H a ps) : PT2 K H' a ps := let ⟨vs, e, r⟩ := h; ⟨vs, SqT.ext e s, r.mono (Same.tk s)⟩
theorem PL.dp (h : PL K H a ps) : Dp K H (.ref a) (.list (ps.map dPair)) := let ⟨_, e, r⟩ := h; .lst e (dp_pairs r)
theorem PT2.dp (h : PT2 K H a ps) : Dp K H (.ref a) (.tuple (ps.map dPair)) := let ⟨_, e, r⟩ := h; .tup e (dp_pairs r)
theorem i_eqPL (ha : PL K H a ps) (hb : PL K H b qs) (ga : ∀ p ∈ ps, GoodP p = true) (gb : ∀ p ∈ qs, GoodP p = true) (q : Q (.bl (decide (ps = qs))) H) : rEqD K (.ref a) (.ref b) H Q :=
  ⟨_, _, ha.dp, hb.dp, shaped_pairsL ga, shaped_pairsL gb, by simp only [PyData.eqv]; rw [eqv_pairs]; exact q⟩
theorem i_nePL (ha : PL K H a ps) (hb : PL K H b qs) (ga : ∀ p ∈ ps, GoodP p = true) (gb : ∀ p ∈ qs, GoodP p = true) (q : Q (.bl (!decide (ps = qs))) H) : rNeD K (.ref a) (.ref b) H Q :=
  ⟨_, _, ha.dp, hb.dp, shaped_pairsL ga, shaped_pairsL gb, by simp only [PyData.eqv]; rw [eqv_pairs]; exact q⟩
theorem i_eqPT (ha : PT2 K H a ps) (hb : PT2 K H b qs) (ga : ∀ p ∈ ps, GoodP p = true) (gb : ∀ p ∈ qs, GoodP p = true) (q : Q (.bl (decide (ps = qs))) H) : rEqD K (.ref a) (.ref b) H Q :=
  ⟨_, _, ha.dp, hb.dp, shaped_pairsT ga, shaped_pairsT gb, by simp only [PyData.eqv]; rw [eqv_pairs]; exact q⟩
theorem i_inPL (hx : PairV H x p) (ha : PL K H a ps) (gp : GoodP p = true) (ga : ∀ p ∈ ps, GoodP p = true) (q : Q (.bl (decide (p ∈ ps))) H) : rInD K x (.ref a) H Q :=
  ⟨_, _, dp_pair hx, ha.dp, shaped_pair gp, shaped_pairsL ga, by rw [any_pairs]; exact q⟩
theorem i_notInPL (hx : PairV H x p) (ha : PL K H a ps) (gp : GoodP p = true) (ga : ∀ p ∈ ps, GoodP p = true) (q : Q (.bl (!decide (p ∈ ps))) H) : rNotInD K x (.ref a) H Q :=
  ⟨_, _, dp_pair hx, ha.dp, shaped_pair gp, shaped_pairsL ga, by rw [any_pairs]; exact q⟩
end
section
variable {X : Cx}
/-- x in t, t a tuple of data -/
def rInTD (K : PySem.W.Frag) : R2 := fun x y H Q => ∃ d ds, Dp K H x d ∧ Dp K H y (.tuple ds) ∧ SeqAt.shaped d = true ∧ SeqAt.shaped (.tuple ds) = true ∧ Q (.bl (ds.any fun z => PyData.eqv z d)) H
def rNotInTD (K : PySem.W.Frag) : R2 := fun x y H Q => ∃ d ds, Dp K H x d ∧ Dp K H y (.tuple ds) ∧ SeqAt.shaped d = true ∧ SeqAt.shaped (.tuple ds) = true ∧ Q (.bl (!ds.any fun z => PyData.eqv z d)) H
theorem op_inTD (room : X.A.units + 65 < cLine) : OpR X (compareOp .In) (rInTD X.K) := by
  rintro pins s σ H x y v u Q I rx ry ⟨d, ds, hd, he, sd, se, q⟩
  obtain ⟨as, r1⟩ := Dp.reads I d x v hd rx
  obtain ⟨bs, r2⟩ := Dp.reads I (.tuple ds) y u he ry
  exact SeqAt.in_tuple_reads r2 r1 (SeqAt.canLay_of_shaped se) (SeqAt.canLay_of_shaped sd) (room_in_shaped sd room) ⟨.bl _, H, I, rfl, q⟩
theorem op_notInTD (room : X.A.units + 65 < cLine) : OpR X (compareOp .NotIn) (rNotInTD X.K) := by
  rintro pins s σ H x y v u Q I rx ry ⟨d, ds, hd, he, sd, se, q⟩
  obtain ⟨as, r1⟩ := Dp.reads I d x v hd rx
  obtain ⟨bs, r2⟩ := Dp.reads I (.tuple ds) y u he ry
  exact SeqAt.notIn_tuple_reads r2 r1 (SeqAt.canLay_of_shaped se) (SeqAt.canLay_of_shaped sd) (room_in_shaped sd room) ⟨.bl _, H, I, rfl, q⟩
end
section
variable {K : PySem.W.Frag} {H H' : Hp} {Q : VK} {a b : Addr} {ps qs : List Pr} {x : V} {p : Pr}
theorem i_inPT (hx : PairV H x p) (ha : PT2 K H a ps) (gp : GoodP p = true) (ga : ∀ p ∈ ps, GoodP p = true) (q : Q (.bl (decide (p ∈ ps))) H) : rInTD K x (.ref a) H Q :=
  ⟨_, _, dp_pair hx, ha.dp, shaped_pair gp, shaped_pairsT ga, by rw [any_pairs]; exact q⟩
theorem i_notInPT (hx : PairV H x p) (ha : PT2 K H a ps) (gp : GoodP p = true) (ga : ∀ p ∈ ps, GoodP p = true) (q : Q (.bl (!decide (p ∈ ps))) H) : rNotInTD K x (.ref a) H Q :=
  ⟨_, _, dp_pair hx, ha.dp, shaped_pair gp, shaped_pairsT ga, by rw [any_pairs]; exact q⟩
end
/-! ### methods of a class -/
structure MAt (K : PySem.W.Frag) (C : Addr) (m qual : Str) (st : Stmt) (ps : List Str) : Prop where
  ex : ∃ f fd, PySem.W.findIn K (.ref C) m = some (some (.ref f)) ∧ PySem.W.isFn K (.ref f) = true ∧ Binds K fd ps [] ∧ Fun K m qual st f fd
structure OkM (P : Program) (w : World) (K : PySem.W.Frag) (mg : Str → Option Value) (base : Heap) (CX : CXT) (k : Nat) (C : Addr) (m : Str) (ps : List Str) (sp : Sp) : Prop where
  ex : ∃ f fd, PySem.W.findIn K (.ref C) m = some (some (.ref f)) ∧ PySem.W.isFn K (.ref f) = true ∧ PySem.W.keepIn K (.ref f) = true ∧ Binds K fd ps [] ∧ FnOk P w K mg base CX k f fd ps sp
theorem MAt.ok {P : Program} {w : World} {K : PySem.W.Frag} {mg : Str → Option Value} {base : Heap} {CX : CXT} {k : Nat} {C : Addr} {m qual : Str} {st : Stmt} {ps : List Str} {sp : Sp} (A : MAt K C m qual st ps) (h : ∀ f fd, Fun K m qual st f fd → FnOk P w K mg base CX k f fd ps sp) : OkM P w K mg base CX k C m ps sp := by
  obtain ⟨f, fd, e, i, b, F⟩ := A.ex
  exact ⟨f, fd, e, i, F.kp, b, h f fd F⟩
section
variable {X : Cx} {CX : CXT} {k : Nat} {C : Addr} {ps : List Str} {sp : Sp} {E : XK}
theorem op_inM (O : OkM X.prog X.w X.K X.mg X.base CX k C "__contains__" ps sp) (hr : Room k X.A) (hx : Passes CX X E := by exact pass0) : OpR X (compareOp .In) (rInOwn C sp E) := by
  obtain ⟨f, fd, e, i, kp, b, F⟩ := O.ex
  exact op_inOwn e i F b hx hr
theorem op_notInM (O : OkM X.prog X.w X.K X.mg X.base CX k C "__contains__" ps sp) (hr : Room k X.A) (hx : Passes CX X E := by exact pass0) : OpR X (compareOp .NotIn) (rNotInOwn C sp E) := by
  obtain ⟨f, fd, e, i, kp, b, F⟩ := O.ex
  exact op_notInOwn e i F b hx hr
theorem call_lenM (O : OkM X.prog X.w X.K X.mg X.base CX k C "__len__" ps sp) (hr : Room (k + 1) X.A) (hx : Passes CX X E := by exact pass0) : CallR X (.builtin "len") (rLenOwn C sp E) := by
  obtain ⟨f, fd, e, i, kp, b, F⟩ := O.ex
  exact call_lenOwn e i F b hx hr
theorem call_listM {T : Addr → Hp → Addr → List V → Prop} {psI psL : List Str} (OI : OkM X.prog X.w X.K X.mg X.base CX0 k C "__iter__" psI (spIterT X.K T)) (OL : OkM X.prog X.w X.K X.mg X.base CX0 k C "__len__" psL (spLenT T)) (Tm : ∀ a H H' t xs, Same H H' → T a H t xs → T a H' t xs)
    (hr : Room (k + 3) X.A) (hc : X.calm = true := by rfl) : CallR X (.type "list") (rListIt X.K C T) := by
  obtain ⟨f, fd, e, i, kp, b, F⟩ := OI.ex
  obtain ⟨f2, fd2, e2, i2, kp2, b2, F2⟩ := OL.ex
  exact call_listIt e i e2 i2 F b F2 b2 Tm hr hc
end

/-! ### more readings -/
theorem ite_no {c : Bool} {A B : Prop} (h : c = false) (q : B) : if c = true then A else B := by rw [h, if_neg Bool.false_ne_true]; exact q
theorem ite_ok {c : Bool} {A B : Prop} (h : c = true) (q : A) : if c = true then A else B := by rw [h, if_pos rfl]; exact q
section
variable {K : PySem.W.Frag} {σ : S} {H : Hp} {Q : VK} {QT : Bool → Hp → Prop} {ta tb te td tv ty tl : TE} {D : Ends} {a b C dx : Addr} {xs : List V} {x y : V} {f : Str} {fs : List (Str × V)}
theorem i_isiTup (h : H a = some (.tup xs)) (q : Q (.bl true) H) : rIsi K [.ref a, .ty "tuple"] H Q := ⟨_, _, _, _, true, rfl, .ty _, .base (.tup h), kit_ty (by decide +kernel), q⟩
theorem inV_kinds (z : Str) : inV (.str z) kindsV = kindB z := by
  show ((kindsV).any fun y => eqV y (.str z)) = decide (z ∈ kinds)
  rw [show kindsV = kinds.map V.str from rfl, List.any_map]
  have e : ((fun y => eqV y (V.str z)) ∘ V.str) = fun y => (y == z) := by funext y; rfl
  rw [e, List.any_beq']
  exact List.contains_eq_mem z kinds
theorem flat_kinds : kindsV.all flatV = true := by decide
theorem i_inKinds {z : Str} (h : SqT K H a kindsV) (q : Q (.bl (kindB z)) H) : rIn K false (.str z) (.ref a) H Q := ⟨a, _, rfl, .inr h, rfl, flat_kinds, by
  show Q (.bl (if false = true then _ else inV _ _)) H
  rw [if_neg Bool.false_ne_true, inV_kinds]; exact q⟩
theorem i_dnewT (q : ∀ p H2, H p = none → Same H H2 → H2 p = some (.dT []) → Q (.ref p) H2) : tDNewT σ H Q := fun p hp => q p _ hp (same_new hp) upd_same
theorem i_dnewK (q : ∀ p H2, H p = none → Same H H2 → H2 p = some (.dK []) → Q (.ref p) H2) : tDNewK σ H Q := fun p hp => q p _ hp (same_new hp) upd_same
def RawDPut (D : Ends) (σ : S) (x y v : V) (H3 : Hp) : Prop := ∃ a H4, x = .ref a ∧ DPut H3 a y v H4 ∧ D.nx σ H4
theorem i_dput (q : tv σ H fun v H1 => td σ H1 fun x H2 => ty σ H2 fun y H3 => RawDPut D σ x y v H3) : sDPut td ty tv D σ H := q
theorem raw_dputT {kvs : List (List L2.Key × V)} {k : List L2.Key} {v : V} {d t : Addr} (h : H d = some (.dT kvs)) (hk : H t = some (.tup (k.map kV))) (z : kvs.length ≤ 1000) (q : D.nx σ (upd H d (.dT (putK kvs k v)))) : RawDPut D σ (.ref d) (.ref t) v H :=
  ⟨d, _, rfl, .t h hk (small1000 z), q⟩
theorem raw_dputS {kvs : List (L2.Key × V)} {k : Str} {v : V} {d : Addr} (h : H d = some (.dK kvs)) (z : kvs.length ≤ 1000) (q : D.nx σ (upd H d (.dK (putK kvs (Sum.inr k) v)))) : RawDPut D σ (.ref d) (.str k) v H :=
  ⟨d, _, rfl, .k (k := Sum.inr k) h (small1000 z), q⟩
def RawDIn (Q : VK) (x y : V) (H2 : Hp) : Prop := ∃ a o, x = .ref a ∧ DGet H2 a y o ∧ Q (.bl o.isSome) H2
theorem i_din (q : ty σ H fun y H1 => td σ H1 fun x H2 => RawDIn Q x y H2) : tDIn ty td σ H Q := q
theorem raw_dinT {kvs : List (List L2.Key × V)} {k : List L2.Key} {d t : Addr} (h : H d = some (.dT kvs)) (hk : H t = some (.tup (k.map kV))) (q : Q (.bl (valV kvs k).isSome) H) : RawDIn Q (.ref d) (.ref t) H := ⟨d, _, rfl, .t h hk, q⟩
theorem raw_dinS {kvs : List (L2.Key × V)} {k : Str} {d : Addr} (h : H d = some (.dK kvs)) (q : Q (.bl (valV kvs (Sum.inr k)).isSome) H) : RawDIn Q (.ref d) (.str k) H := ⟨d, _, rfl, DGet.k (k := Sum.inr k) h, q⟩
def RawFld (K : PySem.W.Frag) (Q : VK) (f : Str) (x : V) (H1 : Hp) : Prop := ∃ a C dx fs v, x = .ref a ∧ H1 a = some (.ins C dx fs) ∧ Cls K C ∧ NoAttr K C f ∧ fs.lookup f = some v ∧ Q v H1
theorem i_fldR (q : te σ H (RawFld K Q f)) : tFld K te f σ H Q := q
theorem raw_fld (h : H a = some (.ins C dx fs)) (c : Cls K C) (n : NoAttr K C f) {v : V} (l : fs.lookup f = some v) (q : Q v H) : RawFld K Q f (.ref a) H := ⟨a, C, dx, fs, v, rfl, h, c, n, l, q⟩
def RawSFld (K : PySem.W.Frag) (D : Ends) (σ : S) (f : Str) (y x : V) (H2 : Hp) : Prop := ∃ a C dx fs, x = .ref a ∧ H2 a = some (.ins C dx fs) ∧ Cls K C ∧ NoAttr K C f ∧ fs.length < 1000 ∧ D.nx σ (upd H2 a (.ins C dx (putF f y fs)))
theorem i_sfld (q : tv σ H fun y H1 => ta σ H1 fun x H2 => RawSFld K D σ f y x H2) : sFld K ta tv f D σ H := q
theorem raw_sfld (h : H a = some (.ins C dx fs)) (c : Cls K C) (n : NoAttr K C f) (z : fs.length < 1000) (q : D.nx σ (upd H a (.ins C dx (putF f y fs)))) : RawSFld K D σ f y (.ref a) H := ⟨a, C, dx, fs, rfl, h, c, n, z, q⟩
def RawLc2T (K : PySem.W.Frag) (wi1 : TI) (g : TG) (tt : TT) (g1 : TG) (tt1 : TT) (te : TE) (vs vs1 : List Nat) (σ : S) (Q : VK) (x : V) (H1 : Hp) : Prop := ∃ a, x = .ref a ∧ (∃ xs, SqT K H1 a xs) ∧ RawLc2 wi1 g tt g1 tt1 te vs vs1 σ Q (Itt K a) H1
def RawLc2L (K : PySem.W.Frag) (wi1 : TI) (g : TG) (tt : TT) (g1 : TG) (tt1 : TT) (te : TE) (vs vs1 : List Nat) (σ : S) (Q : VK) (x : V) (H1 : Hp) : Prop := ∃ a, x = .ref a ∧ (∃ xs, SqL K H1 a xs) ∧ RawLc2 wi1 g tt g1 tt1 te vs vs1 σ Q (Itl K a) H1
theorem i_lc2T {wi1 : TI} {g g1 : TG} {tt tt1 : TT} {vs vs1 : List Nat} (q : tl σ H (RawLc2T K wi1 g tt g1 tt1 te vs vs1 σ Q)) : tLc2 (iTup K tl) g tt wi1 g1 tt1 te vs vs1 σ H Q := q
theorem i_lc2L {wi1 : TI} {g g1 : TG} {tt tt1 : TT} {vs vs1 : List Nat} (q : tl σ H (RawLc2L K wi1 g tt g1 tt1 te vs vs1 σ Q)) : tLc2 (iList K tl) g tt wi1 g1 tt1 te vs vs1 σ H Q := q
theorem inner_tupC (h : SqT K H a xs) : InnerAt (iTup K (tC (.ref a))) σ H xs (fun H => SqT K H a xs) := fun R k => ⟨a, rfl, ⟨_, h⟩, k _ _ walk_tup (Same.refl _)⟩
theorem inner_tupV {i : Nat} (e : σ[i]? = some (some (.ref a))) (h : SqT K H a xs) : InnerAt (iTup K (tVar i)) σ H xs (fun H => SqT K H a xs) := fun R k => ⟨_, e, a, rfl, ⟨_, h⟩, k _ _ walk_tup (Same.refl _)⟩
theorem inner_listV {i : Nat} (e : σ[i]? = some (some (.ref a))) (h : SqL K H a xs) : InnerAt (iList K (tVar i)) σ H xs (fun H => SqL K H a xs) := fun R k => ⟨_, e, a, rfl, ⟨_, h⟩, k _ _ walk_list (Same.refl _)⟩
theorem i_iterT {t : Addr} (h : SqT K H t xs) (q : ∀ it, H it = none → Q (.ref it) (upd H it (TitO t it 0))) : rIterT K [.ref t] H Q := ⟨t, xs, rfl, h, q⟩
theorem i_eqI {i j : Int} (q : Q (.bl (decide (i = j))) H) : rEq (.int i) (.int j) H Q := ⟨rfl, by rw [show decide (V.int i = V.int j) = decide (i = j) from by by_cases h : i = j <;> simp [h]]; exact q⟩
theorem i_neI {i j : Int} (q : Q (.bl (!decide (i = j))) H) : rNe (.int i) (.int j) H Q := ⟨rfl, by rw [show decide (V.int i = V.int j) = decide (i = j) from by by_cases h : i = j <;> simp [h]]; exact q⟩
theorem i_eqS {i j : Str} (q : Q (.bl (decide (i = j))) H) : rEq (.str i) (.str j) H Q := ⟨rfl, by rw [show decide (V.str i = V.str j) = decide (i = j) from by by_cases h : i = j <;> simp [h]]; exact q⟩
theorem i_neS {i j : Str} (q : Q (.bl (!decide (i = j))) H) : rNe (.str i) (.str j) H Q := ⟨rfl, by rw [show decide (V.str i = V.str j) = decide (i = j) from by by_cases h : i = j <;> simp [h]]; exact q⟩
theorem i_eqB {i j : Bool} (q : Q (.bl (decide (i = j))) H) : rEq (.bl i) (.bl j) H Q := ⟨rfl, by rw [show decide (V.bl i = V.bl j) = decide (i = j) from by by_cases h : i = j <;> simp [h]]; exact q⟩
theorem i_neB {i j : Bool} (q : Q (.bl (!decide (i = j))) H) : rNe (.bl i) (.bl j) H Q := ⟨rfl, by rw [show decide (V.bl i = V.bl j) = decide (i = j) from by by_cases h : i = j <;> simp [h]]; exact q⟩
end
/-- a module's tuple -/
def GlT (K : PySem.W.Frag) (mg : Str → Option Value) (x : Str) (xs : List V) : Prop := ∃ a, mg x = some (.ref a) ∧ ∀ H, SqT K H a xs
/-! ### the class Pairs -/
def PairsAt (C : Addr) (H : Hp) (p : Addr) (ps : List Pr) : Prop := ∃ dx t vs, H p = some (.ins C dx [("_pairs", .ref t)]) ∧ H t = some (.tup vs) ∧ PairsV H vs ps
theorem PairsAt.mono {C : Addr} {H H' : Hp} {p : Addr} {ps : List Pr} (s : Same H H') (h : PairsAt C H p ps) : PairsAt C H' p ps := let ⟨dx, t, vs, a, b, c⟩ := h; ⟨dx, t, vs, s _ _ a, s _ _ b, c.mono (Same.tk s)⟩
/-- the pairs of ps in the order of the kinds -/
def norm (ps : List Pr) : List Pr := allPairs.filter fun p => decide (p ∈ ps)
theorem norm_mem {ps : List Pr} {p : Pr} : p ∈ norm ps ↔ p ∈ allPairs ∧ p ∈ ps := by unfold norm; rw [List.mem_filter]; simp
theorem norm_good {ps : List Pr} : ∀ p ∈ norm ps, GoodP p = true := fun p h => good_all p (norm_mem.mp h).1
theorem norm_len (ps : List Pr) : (norm ps).length ≤ 16 := by
  have h := List.length_filter_le (fun p => decide (p ∈ ps)) allPairs
  exact h
theorem norm_norm (ps : List Pr) : norm (norm ps) = norm ps := by
  unfold norm
  refine List.filter_congr fun p hp => ?_
  have : p ∈ allPairs.filter (fun p => decide (p ∈ ps)) ↔ p ∈ ps := by rw [List.mem_filter]; simp [hp]
  simp [this]
def pairsT (C : Addr) : Addr → Hp → Addr → List V → Prop := fun a H t xs => (∃ dx, H a = some (.ins C dx [("_pairs", .ref t)])) ∧ H t = some (.tup xs)
theorem pairsT_mono {C : Addr} : ∀ a H H' t xs, Same H H' → pairsT C a H t xs → pairsT C a H' t xs := fun a H H' t xs s ⟨⟨dx, e⟩, f⟩ => ⟨⟨dx, s _ _ e⟩, s _ _ f⟩
structure PairsCl (K : PySem.W.Frag) (mg : Str → Option Value) (C : Addr) : Prop where
  cl : Cls K C
  nP : NoAttr K C "_pairs"
  gP : mg "Pairs" = some (.ref C)
def keyP (p : Pr) : List L2.Key := [Sum.inr p.1, Sum.inr p.2]
theorem keyP_inj {p q : Pr} : keyP p = keyP q ↔ p = q := by
  obtain ⟨a, b⟩ := p
  obtain ⟨c, d⟩ := q
  simp [keyP]
/-- the dict of the given ones -/
def Given (kvs : List (List L2.Key × V)) (ps : List Pr) : Prop := ∀ p : Pr, (valV kvs (keyP p)).isSome = decide (p ∈ ps)
theorem given_put {kvs : List (List L2.Key × V)} {ps : List Pr} {p : Pr} (g : Given kvs ps) : Given (putK kvs (keyP p) (.bl true)) (ps ++ [p]) := fun q => by
  rw [valV_put]
  by_cases h : keyP q = keyP p
  · rw [if_pos h]
    have : q = p := keyP_inj.mp h
    simp [this]
  · rw [if_neg h, g q]
    have : ¬ q = p := fun z => h (by rw [z])
    simp [this]
theorem putK_len {kvs : List (List L2.Key × V)} {k : List L2.Key} {v : V} : (putK kvs k v).length ≤ kvs.length + 1 := by
  unfold putK
  split
  · rw [List.length_map]; omega
  · rw [List.length_append]; simp
end KP
namespace KP
open PySem PySem.Spec PyProof.Rows L2
/-! ### draws -/
def nth (ds : List Int) (i : Nat) : Int := ds.getD i 0
theorem nth_at {ds : List Int} {i : Int} (j : Nat) (e : i = (j : Int)) (h : j < ds.length) : atI (ds.map V.int) i = some (.int (nth ds j)) :=
  at_of e (by rw [List.getElem?_map, List.getElem?_eq_getElem h]; simp [nth, List.getD, List.getElem?_eq_getElem h])
theorem nth_ok {ds : List Int} {i : Nat} (hd : ∀ d ∈ ds, 0 ≤ d ∧ d < 1000) : 0 ≤ nth ds i ∧ nth ds i < 1000 := by
  unfold nth
  rw [List.getD_eq_getElem?_getD]
  cases e : ds[i]? with
  | none => simp
  | some d => exact hd d (List.mem_of_getElem? e)
/-! ### making a Pairs -/
section
variable {K : PySem.W.Frag} {σ : S} {H : Hp} {Q : VK} {ar : TA} {C a : Addr} {sp : Sp} {dvs : List V} {E : XK}
def RawMk (C : Addr) (sp : Sp) (dvs : List V) (E : XK) (Q : VK) (vs : List V) (H1 : Hp) : Prop := tMake C sp dvs E (fun _ _ R => R vs H1) [] H1 Q
theorem i_make (q : ar σ H (RawMk C sp dvs E Q)) : tMake C sp dvs E ar σ H Q := q
/-- all but what stands at l is as it was -/
def But (l : Addr) (H H' : Hp) : Prop := ∀ b o, b ≠ l → H b = some o → H' b = some o
theorem but_upd {l : Addr} {o : HO} : But l H (upd H l o) := fun b x hb e => by rw [upd_ne hb]; exact e
theorem But.pl {l : Addr} {xs : List V} {H' : Hp} {ps : List Pr} (b : But l H H') (e : H l = some (.lst xs)) (ha : a ≠ l) {vs : List V} (h : H a = some (.lst vs)) (pr : PairsV H vs ps) : H' a = some (.lst vs) ∧ PairsV H' vs ps :=
  ⟨b _ _ ha h, pr.mono fun t xs z => b t _ (ne_of z e (fun q => nomatch q)) z⟩
theorem But.pa {l m : Addr} {xs : List V} {H' : Hp} {ps : List Pr} (b : But l H H') (e : H l = some (.lst xs)) (h : PairsAt C H m ps) : PairsAt C H' m ps := by
  obtain ⟨dx, t, vs, h1, h2, h3⟩ := h
  exact ⟨dx, t, vs, b _ _ (ne_of h1 e fun q => nomatch q) h1, b _ _ (ne_of h2 e fun q => nomatch q) h2, h3.mono fun t xs z => b t _ (ne_of z e (fun q => nomatch q)) z⟩
theorem But.tk {l : Addr} {xs : List V} {H' : Hp} (b : But l H H') (e : H l = some (.lst xs)) : TupK H H' := fun t xs z => b t _ (ne_of z e (fun q => nomatch q)) z
end
/-- Pairs(..) and what it needs -/
structure PMk (P : Program) (w : World) (K : PySem.W.Frag) (mg : Str → Option Value) (base : Heap) (k : Nat) (C aE : Addr) (sp : Sp) : Prop where
  ex : ∃ f fd ds, Mk K C f ∧ Binds K fd ["self", "pairs"] [] ∧ Vals [.ref aE] ds ∧ Binds K fd ["self", "pairs"] ds ∧ FnOk P w K mg base CX0 k f fd ["self", "pairs"] sp
  gP : mg "Pairs" = some (.ref C)
  em : ∀ H, SqT K H aE []
section
variable {X : Cx} {k : Nat} {C aE : Addr} {sp : Sp} {E : XK} {p pos : Pos} {e : Expr} {es : List Expr} {t : TA}
theorem pe_makeP (O : PMk X.prog X.w X.K X.mg X.base k C aE sp) (hr : Room (k + 1) X.A) (ha : PA X (e :: es) t) (hx : Passes CX0 X E := by exact pass0) (hg : Gl X "Pairs" := by rfl)
    (he : starEach (e :: es) X.env = (false, eval e X.env) :: starEach es X.env := by rfl) (hpl : (backTo pos (starEach es X.env)).any (·.1) = false := by rfl) :
    PE X (.Call (.Name "Pairs" p) (e :: es) [] pos) (tMake C sp [] E t) := by
  obtain ⟨f, fd, ds, M, b, v, b1, F⟩ := O.ex
  exact pe_make M F hr hg O.gP b .nil hx ha (by decide) he hpl
theorem pe_makeP0 (O : PMk X.prog X.w X.K X.mg X.base k C aE sp) (hr : Room (k + 1) X.A) (hx : Passes CX0 X E := by exact pass0) (hg : Gl X "Pairs" := by rfl) :
    PE X (.Call (.Name "Pairs" p) [] [] pos) (tMake C sp [.ref aE] E tNil) := by
  obtain ⟨f, fd, ds, M, b, v, b1, F⟩ := O.ex
  exact pe_make0 M F hr hg O.gP b1 v hx (by decide)
end
end KP
namespace KP
open PySem PySem.Spec PyProof.Rows L2
/-! ### rules with the written part named -/
section
variable (K : PySem.W.Frag) {X : Cx}
theorem op_inDK (e : X.K = K) (room : X.A.units + 65 < cLine) : OpR X (compareOp .In) (rInD K) := by subst e; exact op_inD room
theorem op_notInDK (e : X.K = K) (room : X.A.units + 65 < cLine) : OpR X (compareOp .NotIn) (rNotInD K) := by subst e; exact op_notInD room
theorem op_inTDK (e : X.K = K) (room : X.A.units + 65 < cLine) : OpR X (compareOp .In) (rInTD K) := by subst e; exact op_inTD room
theorem op_notInTDK (e : X.K = K) (room : X.A.units + 65 < cLine) : OpR X (compareOp .NotIn) (rNotInTD K) := by subst e; exact op_notInTD room
theorem op_eqDK (e : X.K = K) (room : X.A.units + 64 < cLine) : OpR X (compareOp .Eq) (rEqD K) := by subst e; exact op_eqD room
theorem op_neDK (e : X.K = K) (room : X.A.units + 64 < cLine) : OpR X (compareOp .NotEq) (rNeD K) := by subst e; exact op_neD room
theorem op_in_seqK (e : X.K = K) : OpR X (compareOp .In) (rIn K false) := by subst e; exact op_in_seq
theorem op_notIn_seqK (e : X.K = K) : OpR X (compareOp .NotIn) (rIn K true) := by subst e; exact op_notIn_seq
theorem ix_listK (e : X.K = K) : IxR X (rIxL K) := by subst e; exact ix_list
theorem ix_tupK (e : X.K = K) : IxR X (rIxT K) := by subst e; exact ix_tup
theorem call_lenLK (e : X.K = K) : CallR X (.builtin "len") (rLenL K) := by subst e; exact call_lenL
theorem call_lenTK (e : X.K = K) : CallR X (.builtin "len") (rLenT K) := by subst e; exact call_lenT
theorem call_listLK (e : X.K = K) : CallR X (.type "list") (rListL K) := by subst e; exact call_listL
theorem call_listTK (e : X.K = K) : CallR X (.type "list") (rListT K) := by subst e; exact call_listT
theorem call_isiKK (e : X.K = K) : CallR X (.builtin "isinstance") (rIsi K) := by subst e; exact call_isi
end
end KP
namespace KP
open PySem PySem.Spec PyProof.Rows L2
section
variable {K : PySem.W.Frag} {σ : S} {H : Hp} {Q : VK} {te : TE} {a b : Addr} {xs ys : List V} {i j : Bool} {p q : Pr} {x y : V}
theorem i_catL (h1 : H a = some (.lst xs)) (h2 : H b = some (.lst ys)) (z : xs.length + ys.length ≤ 1000) (k : ∀ p H', H p = none → Same H H' → H' p = some (.lst (xs ++ ys)) → Q (.ref p) H') : rCat (.ref a) (.ref b) H Q :=
  ⟨a, b, xs, ys, rfl, rfl, h1, h2, Nat.le_of_lt (small1000 z), fun p hp => k p _ hp (same_new hp) upd_same⟩
def RawRev (K : PySem.W.Frag) (Q : VK) (x : V) (H1 : Hp) : Prop := tRevL K (fun _ _ R => R x H1) [] H1 Q
theorem i_revL (q : te σ H (RawRev K Q)) : tRevL K te σ H Q := q
theorem raw_rev (h : SqL K H a xs) (k : ∀ p H', H p = none → Same H H' → H' p = some (.lst xs.reverse) → Q (.ref p) H') : RawRev K Q (.ref a) H := ⟨a, xs, rfl, h, fun p hp => k p _ hp (same_new hp) upd_same⟩
theorem i_isB (q : Q (.bl (decide (i = j))) H) : rIsB (.bl i) (.bl j) H Q := ⟨i, j, rfl, rfl, q⟩
theorem i_notB (q : Q (.bl (!decide (i = j))) H) : rNotB (.bl i) (.bl j) H Q := ⟨i, j, rfl, rfl, q⟩
theorem i_isiBool (q : Q (.bl true) H) : rIsi K [.bl i, .ty "bool"] H Q := ⟨_, _, _, _, true, rfl, .ty _, .base (.bl i), kit_ty (by decide +kernel), q⟩
theorem i_nePP (hx : PairV H x p) (hy : PairV H y q) (gp : GoodP p = true) (gq : GoodP q = true) (k : Q (.bl (!decide (p = q))) H) : rNeD K x y H Q := ⟨_, _, dp_pair hx, dp_pair hy, shaped_pair gp, shaped_pair gq, by rw [eqv_pair]; exact k⟩
theorem i_all {bs : List Bool} (h : SqL K H a (bs.map V.bl)) (q : Q (.bl (bs.all id)) H) : rAll K [.ref a] H Q := ⟨a, bs, rfl, h, q⟩
/-- a flat thing in a list of texts -/
def inStr (z : Str) (l : List Str) : Bool := decide (z ∈ l)
theorem inV_strs (z : Str) (l : List Str) : inV (.str z) (l.map V.str) = decide (z ∈ l) := by
  show ((l.map V.str).any fun y => eqV y (.str z)) = decide (z ∈ l)
  rw [List.any_map]
  have e : ((fun y => eqV y (V.str z)) ∘ V.str) = fun y => (y == z) := by funext y; rfl
  rw [e, List.any_beq']
  exact List.contains_eq_mem z l
theorem flat_strs : ∀ l : List Str, (l.map V.str).all flatV = true
  | [] => rfl
  | _ :: l => by rw [List.map_cons, List.all_cons, flat_strs l]; rfl
theorem i_inStrs {z : Str} {l : List Str} (h : SqL K H a (l.map V.str)) (q : Q (.bl (decide (z ∈ l))) H) : rIn K false (.str z) (.ref a) H Q := ⟨a, _, rfl, .inl h, rfl, flat_strs l, by
  show Q (.bl (if false = true then _ else inV _ _)) H
  rw [if_neg Bool.false_ne_true, inV_strs]; exact q⟩
theorem i_notInStrs {z : Str} {l : List Str} (h : SqL K H a (l.map V.str)) (q : Q (.bl (!decide (z ∈ l))) H) : rIn K true (.str z) (.ref a) H Q := ⟨a, _, rfl, .inl h, rfl, flat_strs l, by
  show Q (.bl (if true = true then !inV _ _ else _)) H
  rw [if_pos rfl, inV_strs]; exact q⟩
end
section
variable {X : Cx} {CX : CXT} {k : Nat} {C : Addr} {ps : List Str} {sp : Sp} {E : XK} {m : Str}
theorem op_cmpM {op : CmpOp} (hop : ∀ a b, compareOp op a b = richCompare op a b) (O : OkM X.prog X.w X.K X.mg X.base CX k C (cmpInfo op).2.1 ps sp) (hr : Room k X.A) (hx : Passes CX X E := by exact pass0) : OpR X (compareOp op) (rBinOwn C sp E) := by
  obtain ⟨f, fd, e, i, kp, b, F⟩ := O.ex
  exact op_cmpOwn hop e i F b hx hr
theorem op_binM {op : Operator} (hc : PySem.W.selfFirst X.K C = true) (O : OkM X.prog X.w X.K X.mg X.base CX k C (PySem.dunder op.info.2) ps sp) (hr : Room k X.A) (hx : Passes CX X E := by exact pass0) : OpR X (binaryOp op) (rBinOwn C sp E) := by
  obtain ⟨f, fd, e, i, kp, b, F⟩ := O.ex
  exact op_binOwn hc e i F b hx hr
end
/-- what isinstance asks of an own class -/
structure IsiC (K : PySem.W.Frag) (C : Addr) : Prop where
  ca : PySem.W.findIn K (.ref C) "__class__" = some (some (.builtin "object.__class__"))
  cn : PySem.W.specialIn K (.builtin "object.__class__") "__get__" = some (some (.builtin "getset_descriptor.__get__"))
  ct : PySem.W.takesIn K (.builtin "object.__class__") = some true
  cm : PySem.W.mroIn K C (.type "object") = some true
  self : PySem.W.kitOne K (.ref C) (.ref C) = some true
theorem i_isiOwn {K : PySem.W.Frag} {H : Hp} {Q : VK} {a C dx : Addr} {fs : List (Str × V)} (h : H a = some (.ins C dx fs)) (c : Cls K C) (i : IsiC K C) (q : Q (.bl true) H) : rIsi K [.ref a, .ref C] H Q :=
  ⟨_, _, _, _, true, rfl, .own _, .base (.ins h c i.ca i.cn i.ct i.cm), i.self, q⟩
/-! ### some pairs by a style and a mask -/
def readsK : List Str := ["read", "acquire"]
def maskBit (mask : Int) (p : Pr) : Bool := decide (mask / 2 ^ (allPairs.idxOf p) % 2 = 1)
def fitsL (bit : Bool) (p : Pr) : List Bool := [false, true, (decide (p.1 ∈ readsK) || !decide (p.2 ∈ readsK)), (decide (p.1 = "acquire") || decide (p.2 = "release"))] ++ [(bit && decide (p.1 ∈ readsK)), bit, bit, bit]
def someF (style mask : Int) (p : Pr) : Bool := (fitsL (maskBit mask p) p).getD style.toNat false
def someP (style mask : Int) : List Pr := allPairs.filter (someF style mask)
theorem someP_norm (s m : Int) : norm (someP s m) = someP s m := by
  unfold norm someP
  refine List.filter_congr fun p hp => ?_
  have : p ∈ allPairs.filter (someF s m) ↔ someF s m p = true := by rw [List.mem_filter]; simp [hp]
  by_cases h : someF s m p = true
  · simp [this, h]
  · have h' : someF s m p = false := by simpa using h
    simp [this, h']
theorem someP_mem {s m : Int} : ∀ p ∈ someP s m, p ∈ allPairs := fun p h => (List.mem_filter.mp h).1
theorem someP_len (s m : Int) : (someP s m).length ≤ 16 := List.length_filter_le (someF s m) allPairs
theorem idx_at {i : Nat} {p : Pr} (h : allPairs[i]? = some p) : allPairs.idxOf p = i := by
  have hi : i < 16 := (List.getElem?_eq_some_iff.mp h).1
  have all : ∀ i < 16, ∀ p ∈ allPairs, allPairs[i]? = some p → allPairs.idxOf p = i := by decide +kernel
  exact all i hi p (List.mem_of_getElem? h) h
theorem pow_step (m : Int) (i : Nat) : m / 2 ^ i / 2 = m / 2 ^ (i + 1) := by
  rw [Int.ediv_ediv_of_nonneg (by exact Int.le_of_lt (Int.pow_pos (by decide))), Int.pow_succ]
end KP
namespace KP
open PySem PySem.Spec PyProof.Rows L2
theorem bl_at {L : List Bool} {s : Int} (h0 : 0 ≤ s) (h1 : s < L.length) : atI (L.map V.bl) s = some (.bl (L.getD s.toNat false)) :=
  at_of (j := s.toNat) (by omega) (by rw [List.getElem?_map, List.getD_eq_getElem?_getD, List.getElem?_eq_getElem (by omega)]; rfl)
end KP
namespace KP
open PySem PySem.Spec PyProof.Rows L2
theorem all_get {j : Int} (h0 : 0 ≤ j) (h1 : j < 16) {H : Hp} {us : List V} (pr : PairsV H us allPairs) : ∃ v p, atI us j = some v ∧ PairV H v p ∧ p ∈ allPairs := by
  have hl := paired_len pr
  have hj : j.toNat < us.length := by rw [hl]; show j.toNat < 16; omega
  obtain ⟨p, hp, r⟩ := paired_get pr (List.getElem?_eq_getElem hj)
  exact ⟨_, p, at_of (j := j.toNat) (by omega) (List.getElem?_eq_getElem hj), r, List.mem_of_getElem? hp⟩
end KP
namespace KP
open PySem PySem.Spec PyProof.Rows L2
theorem pe_fldK (K : PySem.W.Frag) {X : Cx} {e : Expr} {f : Str} {pos : Pos} {ta : TE} (h : X.K = K) (he : PE X e ta) (hb : attributeBase e f X.env (eval e X.env) = eval e X.env) : PE X (.Attribute e f pos) (tFld K ta f) := by subst h; exact pe_fld he hb
end KP
namespace KP
open PySem PySem.Spec PyProof.Rows L2
theorem i_ixD {K : PySem.W.Frag} {H : Hp} {Q : VK} {p : Addr} {i : Int} {ds : List Int} (h : SqL K H p (ds.map V.int)) (h0 : 0 ≤ i) (h1 : i < ds.length) (q : Q (.int (nth ds i.toNat)) H) : rIxL K (.ref p) (.int i) H Q :=
  i_ixL h (nth_at i.toNat (by omega) (by omega)) q
end KP
namespace KP
open PySem PySem.Spec PyProof.Rows L2
theorem paired_rev {α β : Type} {F : α → β → Prop} : ∀ {l : List α} {m : List β}, Paired F l m → Paired F l.reverse m.reverse
  | _, _, .nil => .nil
  | _, _, .cons a b => by rw [List.reverse_cons, List.reverse_cons]; exact paired_snoc (paired_rev b) a
end KP
namespace KP
open PySem PySem.Spec PyProof.Rows L2
section
variable {K : PySem.W.Frag}
/-- a comprehension over a list of pairs that keeps some of them -/
theorem lc_filter {σ : S} {H : Hp} {Q : VK} {a : Addr} {us : List V} {ps : List Pr} {g : TG} {tt : TT} {te : TE} {vs : List Nat} (f : Pr → Bool) (hS : SqL K H a us) (pr : PairsV H us ps) (hl : ps.length ≤ 1000)
    (hs : ∀ (i : Nat) (x : V) (r : Pr) (H' : Hp) (Y : VK) (N : Hp → Prop), us[i]? = some x → ps[i]? = some r → PairV H' x r → Same H H' → (f r = true → ∀ H4, Same H' H4 → Y x H4) → (f r = false → ∀ H3, Same H' H3 → N H3) → g x (wipe σ vs) H' fun σ2 H2 => wipe σ2 vs = wipe σ vs ∧ tt σ2 H2 fun b H3 => if b = true then te σ2 H3 Y else N H3)
    (hd : ∀ D acc H', H D = none → Same H H' → H' D = some (.lst acc) → PairsV H' acc (ps.filter f) → Q (.ref D) H') : RawLcL K g tt te vs σ Q (.ref a) H := by
  refine raw_lcL hS (by rw [paired_len pr]; exact hl) (fun i acc H' => PairsV H' acc ((ps.take i).filter f)) (fun i acc H H' k h => h.mono k) .nil ?_ fun D acc H' nD s e p => hd D acc H' nD s e (by rw [paired_len pr, List.take_length] at p; exact p)
  intro i x acc H' hx s pa Y N hY hN
  obtain ⟨r, hr, pv⟩ := paired_get pr hx
  have e1 : ps.take (i + 1) = ps.take i ++ [r] := take_snoc hr
  refine hs i x r H' Y N hx hr (pv.mono (Same.tk s)) s (fun hf H4 s4 => hY x H4 s4 ?_) fun hf H3 s3 => hN H3 s3 ?_
  · show PairsV H4 (acc ++ [x]) ((ps.take (i + 1)).filter f)
    rw [e1, List.filter_append, List.filter_cons, if_pos hf]
    exact paired_snoc (pa.mono (Same.tk s4)) ((pv.mono (Same.tk s)).mono (Same.tk s4))
  · show PairsV H3 acc ((ps.take (i + 1)).filter f)
    rw [e1, List.filter_append, List.filter_cons, if_neg (by rw [hf]; exact Bool.false_ne_true), List.filter_nil, List.append_nil]
    exact pa.mono (Same.tk s3)
/-- the same over a tuple of pairs that keeps some of them -/
theorem lc_filterT {σ : S} {H : Hp} {Q : VK} {a : Addr} {us : List V} {ps : List Pr} {g : TG} {tt : TT} {te : TE} {vs : List Nat} (f : Pr → Bool) (hS : SqT K H a us) (pr : PairsV H us ps) (hl : ps.length ≤ 1000)
    (hs : ∀ (i : Nat) (x : V) (r : Pr) (H' : Hp) (Y : VK) (N : Hp → Prop), us[i]? = some x → ps[i]? = some r → PairV H' x r → Same H H' → (f r = true → ∀ H4, Same H' H4 → Y x H4) → (f r = false → ∀ H3, Same H' H3 → N H3) → g x (wipe σ vs) H' fun σ2 H2 => wipe σ2 vs = wipe σ vs ∧ tt σ2 H2 fun b H3 => if b = true then te σ2 H3 Y else N H3)
    (hd : ∀ D acc H', H D = none → Same H H' → H' D = some (.lst acc) → PairsV H' acc (ps.filter f) → Q (.ref D) H') : RawLcT K g tt te vs σ Q (.ref a) H := by
  refine raw_lcT hS (by rw [paired_len pr]; exact hl) (fun i acc H' => PairsV H' acc ((ps.take i).filter f)) (fun i acc H H' k h => h.mono k) .nil ?_ fun D acc H' nD s e p => hd D acc H' nD s e (by rw [paired_len pr, List.take_length] at p; exact p)
  intro i x acc H' hx s pa Y N hY hN
  obtain ⟨r, hr, pv⟩ := paired_get pr hx
  have e1 : ps.take (i + 1) = ps.take i ++ [r] := take_snoc hr
  refine hs i x r H' Y N hx hr (pv.mono (Same.tk s)) s (fun hf H4 s4 => hY x H4 s4 ?_) fun hf H3 s3 => hN H3 s3 ?_
  · show PairsV H4 (acc ++ [x]) ((ps.take (i + 1)).filter f)
    rw [e1, List.filter_append, List.filter_cons, if_pos hf]
    exact paired_snoc (pa.mono (Same.tk s4)) ((pv.mono (Same.tk s)).mono (Same.tk s4))
  · show PairsV H3 acc ((ps.take (i + 1)).filter f)
    rw [e1, List.filter_append, List.filter_cons, if_neg (by rw [hf]; exact Bool.false_ne_true), List.filter_nil, List.append_nil]
    exact pa.mono (Same.tk s3)
end
end KP
namespace KP
open PySem PySem.Spec PyProof.Rows L2
theorem raw_catTA {K : PySem.W.Frag} {H : Hp} {Q : VK} {a b : Addr} {xs ys : List V} (ha : SqT K H a xs) (hb : SqT K H b ys) (z : xs.length + ys.length ≤ 1000) (q : ∀ t H', Same H H' → SqT K H' t (xs ++ ys) → Q (.ref t) H') : rCatA K (.ref a) (.ref b) H Q := by
  refine ⟨a, b, xs, ys, rfl, rfl, ha, hb, Nat.le_of_lt (small1000 z), fun e => ?_, fun _ e => ?_, fun _ _ p np => q p _ (same_new np) (st_of upd_same)⟩
  · subst e
    exact q b H (Same.refl _) hb
  · subst e
    exact q a H (Same.refl _) (by rw [List.append_nil]; exact ha)
end KP

set_option Elab.async false
set_option linter.all false
set_option maxRecDepth 100000
set_option maxHeartbeats 2000000
namespace KP
open PySem PySem.Spec PyProof.Rows L2
/-! ### a class whose __init__ may raise, made where what is raised is wished for -/
section
variable {X : Cx} {CX : CXT} {k : Nat} {f C : Addr} {fd : FuncData} {ps : List Str} {sp : Sp} {E : S → XK} {x m : Str} {p pos apos : Pos} {e o : Expr} {es : List Expr} {te ta : TE} {t : TA} {ds : List Value} {dvs : List V}
theorem run_makeS {pins : List (Addr × Obj)} {σ : S} {H : Hp} {s : Shared} {Q : VK} {us : List Value} {vs : List V} (M : Mk X.K C f) (F : FnOk X.prog X.w X.K X.mg X.base CX k f fd ps sp) (hr : Room (k + 1) X.A) (hb : Binds X.K fd ps ds) (hd : Vals dvs ds)
    (hx : PassesAt CX X σ (E σ)) (I : Inv X pins σ H s) (r : Vals vs us)
    (h : ∀ x dx, H x = none → H dx = none → dx ≠ x → sp (.ref x :: (vs ++ dvs)) (upd (upd H dx (.own x)) x (.ins C dx [])) (fun v H2 => v = .non ∧ Q (.ref x) H2) (fun cls d H' => E σ cls d H')) :
    wpAny (model X.prog X.w) X.A (call (.ref C) us) (EP X pins σ Q) X.xe s := by
  have hq := h (s.heap.objs.size + 1) s.heap.objs.size (I.hok.fresh (Nat.le_succ _)) (I.hok.fresh (Nat.le_refl _)) (Nat.ne_of_lt (Nat.lt_succ_self _))
  have I2 := Inv.made (C := C) I
  have r2 : Vals (V.ref (s.heap.objs.size + 1) :: (vs ++ dvs)) (Value.ref (s.heap.objs.size + 1) :: (us ++ ds)) := .cons rfl (r.append hd)
  have hl : (Value.ref (s.heap.objs.size + 1) :: us ++ ds).length = ps.length := by
    have e := r2.length
    rw [F.len _ _ _ _ hq] at e
    exact e.symm
  refine wpAny_call (make_map (f := f) I.kIn M.makes M.init (beq_iff_eq.mp M.fn) (codeAny_mono (F.run _ X.stack _ _ ⟨Value.ref (s.heap.objs.size + 1) :: us, []⟩ (Value.ref (s.heap.objs.size + 1) :: (us ++ ds)) _ _ (fun cls d H' => E σ cls d H') (hr.make C us [])
    (I2.env0.make C us []) (hb _ (Value.ref (s.heap.objs.size + 1) :: us) I2.kIn hl) r2 hq) fun r s' hq' => ?_))
  cases r with
  | error e => exact hx pins _ _ e s' I2 hq'
  | ok fl =>
    cases fl with
    | ret u =>
      obtain ⟨v, H', I3, rv, ev, q3⟩ := I2.after hq'
      subst ev
      exact ⟨rv, ⟨V.ref (s.heap.objs.size + 1), H', I3, rfl, q3⟩⟩
    | next => exact False.elim hq'
    | brk => exact False.elim hq'
    | cont => exact False.elim hq'
def tMakeS (C : Addr) (sp : Sp) (dvs : List V) (E : S → XK) (t : TA) : TE := fun σ H Q => t σ H fun vs H1 => ∀ x dx, H1 x = none → H1 dx = none → dx ≠ x →
  sp (.ref x :: (vs ++ dvs)) (upd (upd H1 dx (.own x)) x (.ins C dx [])) (fun v H2 => v = .non ∧ Q (.ref x) H2) (fun cls d H' => E σ cls d H')
theorem pe_makeS (M : Mk X.K C f) (F : FnOk X.prog X.w X.K X.mg X.base CX k f fd ps sp) (hr : Room (k + 1) X.A) (hg : Gl X x) (hm : X.mg x = some (.ref C)) (hb : Binds X.K fd ps ds) (hd : Vals dvs ds) (hx : ∀ σ, PassesAt CX X σ (E σ))
    (ha : PA X (e :: es) t) (hdb : (x == ("__debug__" : Str)) = false := by decide) (he : starEach (e :: es) X.env = (false, eval e X.env) :: starEach es X.env := by rfl) (hpl : (backTo pos (starEach es X.env)).any (·.1) = false := by rfl) :
    PE X (.Call (.Name x p) (e :: es) [] pos) (tMakeS C sp dvs E t) := by
  refine ⟨fun pins s σ H Q I h => ?_⟩
  refine wpAny_Call_Name_kw (ld_glob I hg hm ?_ hdb)
  refine PySem.W.callWith_K (h₀ := X.base) I.ok.mod.kin M.kp (thn (ha.run pos pins s σ H _ I h) fun us s1 ⟨vs, H1, I1, r, q⟩ => ⟨I1.kIn, ?_⟩) he hpl
  exact run_makeS M F hr hb hd (hx σ) I1 r q
end
/-! ### a def and a built-in read off an own class -/
section
variable {X : Cx} {CX : CXT} {k : Nat} {f C q : Addr} {mc : Value} {fd : FuncData} {ps : List Str} {sp : Sp} {E : XK} {x m : Str} {p1 p2 pos : Pos} {e : Expr} {es : List Expr} {t ta : TA}
/-- a static method of the class x -/
structure SmAt (K : PySem.W.Frag) (mg : Str → Option Value) (x m qual : Str) (st : Stmt) (ps : List Str) : Prop where
  ex : ∃ C mc q f fd rest, mg x = some (.ref C) ∧ ClX.CRead K C mc ∧ PySem.W.findCls K (.ref C) mc m = some (.get (.builtin "staticmethod.__get__") (.ref q) .none (.ref C)) ∧ PySem.W.recIn K q "staticmethod" = some (.ref f :: rest) ∧ Binds K fd ps [] ∧ Fun K m qual st f fd
structure OkS (P : Program) (w : World) (K : PySem.W.Frag) (mg : Str → Option Value) (base : Heap) (CX : CXT) (k : Nat) (x m : Str) (ps : List Str) (sp : Sp) : Prop where
  ex : ∃ C mc q f fd rest, mg x = some (.ref C) ∧ ClX.CRead K C mc ∧ PySem.W.findCls K (.ref C) mc m = some (.get (.builtin "staticmethod.__get__") (.ref q) .none (.ref C)) ∧ PySem.W.recIn K q "staticmethod" = some (.ref f :: rest) ∧ PySem.W.keepIn K (.ref f) = true ∧ Binds K fd ps [] ∧ FnOk P w K mg base CX k f fd ps sp
theorem SmAt.ok {P : Program} {w : World} {K : PySem.W.Frag} {mg : Str → Option Value} {base : Heap} {CX : CXT} {k : Nat} {x m qual : Str} {st : Stmt} {ps : List Str} {sp : Sp} (A : SmAt K mg x m qual st ps) (h : ∀ f fd, Fun K m qual st f fd → FnOk P w K mg base CX k f fd ps sp) : OkS P w K mg base CX k x m ps sp := by
  obtain ⟨C, mc, q, f, fd, rest, h1, h2, h3, h4, b, F⟩ := A.ex
  exact ⟨C, mc, q, f, fd, rest, h1, h2, h3, h4, F.kp, b, h f fd F⟩
theorem pe_sm {pl : Sem Bool} (O : OkS X.prog X.w X.K X.mg X.base CX k x m ps sp) (hr : Room k X.A) (ha : PA X (e :: es) t) (hx : Passes CX X E := by exact pass0) (hg : Gl X x := by rfl) (hdb : (x == ("__debug__" : Str)) = false := by decide)
    (he : starEach (e :: es) X.env = (false, eval e X.env) :: starEach es X.env := by rfl) (hpl : (backTo pos (starEach es X.env)).any (·.1) = false := by rfl)
    (hc : eval (.Call (.Attribute (.Name x p1) m p2) (e :: es) [] pos) X.env = (do
      let ov ← eval (.Name x p1) X.env
      standAt p2.atName
      let (f, first) ← holding [ov] (getMethod ov m pl)
      callWith pos f first (backTo pos (starEach (e :: es) X.env)) (backToKw pos (keywordEach [] X.env))) := by rfl) :
    PE X (.Call (.Attribute (.Name x p1) m p2) (e :: es) [] pos) (tCall sp [] E t) := by
  obtain ⟨C, mc, q, f, fd, rest, hm, rd, hf, hp, hk, hb, F⟩ := O.ex
  refine ⟨fun pins s σ H Q I h => ?_⟩
  refine PySem.W.methodCall_KW (pl := pl) (ld_glob I hg hm ?_ hdb) hc
  refine PySem.W.method_cls I.kIn rd.ga ?_
  refine PySem.W.cls_bind I.kIn rd.rd hf ?_
  refine wpAny_call (PySem.W.sm_get (s := { s with toks := s.toks + 1 }) I.kIn hp (PySem.W.handed_on rfl ?_))
  show wpAny _ _ (callWith pos (Value.ref f) [] (backTo pos (starEach (e :: es) X.env)) []) _ _ _
  refine PySem.W.callWith_K (h₀ := X.base) I.ok.mod.kin hk (thn (ha.run pos pins _ σ H _ (I.tok _) h) fun us s1 ⟨vs, H1, I1, r, q⟩ => ⟨I1.kIn, ?_⟩) he hpl
  exact run_fn F hr hb .nil hx I1 r q
/-- C.__init__(self, ..), C's __init__ being ValueError's -/
theorem pe_oinit {pl : Sem Bool} (hm : X.mg x = some (.ref C)) (rd : ClX.CRead X.K C mc) (vV : PySem.W.findCls X.K (.ref C) mc "__init__" = some (.val (.builtin "ValueError.__init__"))) (ha : PA X (e :: es) ta) (hg : Gl X x := by rfl) (hdb : (x == ("__debug__" : Str)) = false := by decide)
    (hc : eval (.Call (.Attribute (.Name x p1) "__init__" p2) (e :: es) [] pos) X.env = (do
      let ov ← eval (.Name x p1) X.env
      standAt p2.atName
      let (f, first) ← holding [ov] (getMethod ov "__init__" pl)
      callWith pos f first (backTo pos (starEach (e :: es) X.env)) (backToKw pos (keywordEach [] X.env))) := by rfl)
    (he : starEach (e :: es) X.env = (false, eval e X.env) :: starEach es X.env := by rfl) (hpl : (backTo pos (starEach es X.env)).any (·.1) = false := by rfl) :
    PE X (.Call (.Attribute (.Name x p1) "__init__" p2) (e :: es) [] pos) (tVeI X.K ta) := by
  refine ⟨fun pins s σ H Q I h => ?_⟩
  refine PySem.W.methodCall_KW (pl := pl) (ld_glob I hg hm ?_ hdb) hc
  refine PySem.W.method_cls I.kIn rd.ga ?_
  refine PySem.W.cls_value I.kIn rd.rd vV rfl ?_
  show wpAny _ _ (callWith pos (Value.builtin "ValueError.__init__") [] (backTo pos (starEach (e :: es) X.env)) []) _ _ _
  refine PyProof.Rows.callWith_method1 (thn (ha.run pos pins _ σ H _ (I.tok _) h) fun us s1 ⟨vs, H1, I1, r1, a, C, ws, ev, hl, T, ea, q⟩ => ?_) he hpl
  subst ev
  cases r1 with
  | @cons _ u0 _ ur ra rw' =>
    obtain rfl : u0 = Value.ref a := ra
    have hlen : ur.length ≤ sizeLine := by
      rw [← Paired.length rw', sizeLine_eq]
      omega
    exact oinit_ok T I1 ea hlen fun s' J => ⟨.non, H1, J, rfl, q⟩
end
/-! ### isinstance of a caught exception that has fields -/
structure ExcD (K : PySem.W.Frag) (D : Addr) : Prop where
  hc : (PySem.W.clsIn K D).isSome = true
  hg : PySem.W.findIn K (.ref D) "__getattribute__" = some (some (.builtin "BaseException.__getattribute__"))
  hk : PySem.W.findIn K (.ref D) "__getattr__" = some none
  hs : PySem.W.subIn K (.ref D) (.type "BaseException") = some true
  ha : PySem.W.findIn K (.ref D) "__class__" = some (some (.builtin "object.__class__"))
  hn : PySem.W.specialIn K (.builtin "object.__class__") "__get__" = some (some (.builtin "getset_descriptor.__get__"))
  ht : PySem.W.takesIn K (.builtin "object.__class__") = some true
  hm : PySem.W.mroIn K D (.type "object") = some true
/-- isinstance(e, c), e the exception of the class at D that the suite holds; its dict at dd -/
def rIsED (K : PySem.W.Frag) (a : Addr) (cls : Value) (d : Option Addr) : List V → Hp → VK → Prop := fun xs H Q => ∃ (c : V) (cv : Value) (b : Bool) (D dd : Addr) (fs : List (Str × V)), xs = [.ref a, c] ∧ cls = .ref D ∧ d = some dd ∧ H dd = some (.xd fs) ∧ ExcD K D ∧ ClsV c cv ∧ PySem.W.kitOne K (.ref D) cv = some b ∧ Q (.bl b) H
theorem call_isED {X : Cx} {a : Addr} {oe : Obj} {cls : Value} {d : Option Addr} {pn : List (Addr × Obj)} (hz : Zc cls d oe) (hf : ∃ vs, oe.data = .fields vs) : CallR (X.suite a ((a, oe) :: pn)) (.builtin "isinstance") (rIsED X.K a cls d) := by
  intro pins s σ H xs us Q I r h
  obtain ⟨c, cv, b, D, dd, fs, rfl, rfl, rfl, hd, C, hcv, e, q⟩ := h
  cases r with
  | cons rx rr =>
    cases rr with
    | cons rt rr =>
      cases rr
      cases rx
      have ec := hcv.eq rt
      subst ec
      obtain ⟨hget, _⟩ := I.pin (a, oe) (List.mem_append.mpr (.inl List.mem_cons_self))
      obtain ⟨vs, hv⟩ := hf
      have hx : ObjOk X.prog X.w H s.heap dd (.xd fs) := I.hok dd _ hd
      obtain ⟨mA, hns, _⟩ := hx
      obtain ⟨od, ho, _⟩ := lookIn_ns hns
      have J : PySem.W.InstAt s.heap a oe D (some od) := by
        obtain ⟨oc, odd, oda, osl⟩ := oe
        obtain ⟨h1, h2⟩ := hz
        dsimp only at h1 h2 hv
        subst h1 h2 hv
        exact ⟨hget, rfl, rfl, ho⟩
      exact PySem.W.kia_one (PySem.W.kitx_exc (od := some od) C.hc C.hg C.hk C.hs C.ha C.hn C.ht C.hm) I.kIn J e (fun z => nomatch z) fun tk => ⟨.bl b, H, I.kept (t' := tk) fun _ _ z => z, rfl, q⟩
end KP

set_option Elab.async false
set_option linter.all false
set_option maxRecDepth 100000
set_option maxHeartbeats 1000000
namespace KP
open PySem PySem.Spec PyProof.Rows L2
/-! ### items that are no pairs -/
def kinds2 : List Str → Bool
  | [a, b] => kindB a && kindB b
  | _ => false
def okStrs (xs : List Str) : Bool := xs.all PyData.strOk
inductive BadV (H : Hp) : V → Bool → Prop
  | tup {t : Addr} {xs : List Str} : H t = some (.tup (xs.map V.str)) → okStrs xs = true → kinds2 xs = false → BadV H (.ref t) true
  | lst {t : Addr} {xs : List Str} : H t = some (.lst (xs.map V.str)) → okStrs xs = true → BadV H (.ref t) false
  | str {x : Str} : PyData.strOk x = true → BadV H (.str x) false
  | non : BadV H .non false
  | seven : BadV H (.int 7) false
theorem BadV.mono {H H' : Hp} {v : V} {b : Bool} (s : Same H H') : BadV H v b → BadV H' v b
  | .tup e o k => .tup (s _ _ e) o k
  | .lst e o => .lst (s _ _ e) o
  | .str o => .str o
  | .non => .non
  | .seven => .seven
theorem dp_strs {K : PySem.W.Frag} {H : Hp} : ∀ xs : List Str, DpAll K H (xs.map V.str) (xs.map PyData.str)
  | [] => .nil
  | x :: xs => .cons (.str x) (dp_strs xs)
theorem eqv_strs : ∀ xs ys : List Str, PyData.eqvAll (xs.map PyData.str) (ys.map PyData.str) = decide (xs = ys)
  | [], [] => by simp [PyData.eqvAll]
  | [], _ :: _ => by simp [PyData.eqvAll]
  | _ :: _, [] => by simp [PyData.eqvAll]
  | x :: xs, y :: ys => by
    simp only [List.map_cons, PyData.eqvAll, eqv_strs xs ys, PyData.eqv]
    by_cases h1 : x = y
    · by_cases h2 : xs = ys
      · simp [h1, h2]
      · simp [h1, h2]
    · simp [h1]
theorem lay_strs : ∀ {xs : List Str}, okStrs xs = true → PyData.canLayAll0 (xs.map PyData.str) = true
  | [], _ => by simp [PyData.canLayAll0]
  | x :: xs, h => by
    have h' : (PyData.strOk x && okStrs xs) = true := h
    obtain ⟨h1, h2⟩ := Bool.and_eq_true_iff.mp h'
    simp only [List.map_cons, PyData.canLayAll0]
    rw [lay_strs h2] <;> simp [PyData.canLay0, h1]
theorem depth_strs : ∀ xs : List Str, PyData.depthAll (xs.map PyData.str) = 0
  | [] => by simp [PyData.depthAll]
  | x :: xs => by simp only [List.map_cons, PyData.depthAll, depth_strs xs, PyData.depth]; rfl
theorem shaped_strsT {xs : List Str} (h : okStrs xs = true) : SeqAt.shaped (.tuple (xs.map PyData.str)) = true := by
  have h2 : PyData.depth (.tuple (xs.map PyData.str)) ≤ 64 := by simp only [PyData.depth, depth_strs]; decide
  show (PyData.canLay0 (.tuple (xs.map PyData.str)) && decide (PyData.depth (.tuple (xs.map PyData.str)) ≤ 64)) = true
  rw [Bool.and_eq_true]
  exact ⟨by simp only [PyData.canLay0]; exact lay_strs h, decide_eq_true h2⟩
theorem shaped_strsL {xs : List Str} (h : okStrs xs = true) : SeqAt.shaped (.list (xs.map PyData.str)) = true := by
  have h2 : PyData.depth (.list (xs.map PyData.str)) ≤ 64 := by simp only [PyData.depth, depth_strs]; decide
  show (PyData.canLay0 (.list (xs.map PyData.str)) && decide (PyData.depth (.list (xs.map PyData.str)) ≤ 64)) = true
  rw [Bool.and_eq_true]
  exact ⟨by simp only [PyData.canLay0]; exact lay_strs h, decide_eq_true h2⟩
section
variable {K : PySem.W.Frag} {σ : S} {H : Hp} {Q : VK} {te : TE} {a b : Addr} {xs ys : List V} {v : V} {c : Bool}
theorem i_eqStrsT {ss zs : List Str} (ha : SqT K H a (ss.map V.str)) (hb : SqT K H b (zs.map V.str)) (oa : okStrs ss = true) (ob : okStrs zs = true) (q : Q (.bl (decide (ss = zs))) H) : rEqD K (.ref a) (.ref b) H Q :=
  ⟨_, _, .tup ha (dp_strs ss), .tup hb (dp_strs zs), shaped_strsT oa, shaped_strsT ob, by simp only [PyData.eqv]; rw [eqv_strs]; exact q⟩
/-- a thing differs not from itself -/
theorem i_neBad (h : BadV H v c) (q : Q (.bl false) H) : rNeD K v v H Q := by
  cases h with
  | @tup t xs e o k => exact ⟨_, _, .tup (st_of e) (dp_strs xs), .tup (st_of e) (dp_strs xs), shaped_strsT o, shaped_strsT o, by simp only [PyData.eqv]; rw [eqv_strs]; simpa using q⟩
  | @lst t xs e o => exact ⟨_, _, .lst (sl_of e) (dp_strs xs), .lst (sl_of e) (dp_strs xs), shaped_strsL o, shaped_strsL o, by simp only [PyData.eqv]; rw [eqv_strs]; simpa using q⟩
  | @str x o =>
    have s : SeqAt.shaped (.str x) = true := by show (PyData.canLay0 (.str x) && _) = true; simp [PyData.canLay0, o, PyData.depth]
    exact ⟨_, _, .str x, .str x, s, s, by simp only [PyData.eqv]; simpa using q⟩
  | non => exact ⟨_, _, .non, .non, by decide +kernel, by decide +kernel, by simp only [PyData.eqv]; exact q⟩
  | seven => exact ⟨_, _, .int 7, .int 7, by decide +kernel, by decide +kernel, by simp only [PyData.eqv]; simpa using q⟩
theorem i_isiBad (h : BadV H v c) (q : Q (.bl c) H) : rIsi K [v, .ty "tuple"] H Q := by
  cases h with
  | tup e o k => exact i_isiTup e q
  | lst e o => exact ⟨_, _, _, _, false, rfl, .ty _, .base (.lst e), kit_ty (by decide +kernel), q⟩
  | str o => exact ⟨_, _, _, _, false, rfl, .ty _, .base (.str _), kit_ty (by decide +kernel), q⟩
  | non => exact ⟨_, _, _, _, false, rfl, .ty _, .base .non, kit_ty (by decide +kernel), q⟩
  | seven => exact ⟨_, _, _, _, false, rfl, .ty _, .base (.int 7), kit_ty (by decide +kernel), q⟩
/-! ### slices of lists -/
def RawSl (K : PySem.W.Frag) (Q : VK) (lo hi : Option Int) (x : V) (H1 : Hp) : Prop := rSlL K x lo hi H1 Q
theorem i_slTo {th : TE} (q : te σ H fun x H1 => th σ H1 fun y H2 => ∃ i, y = .int i ∧ RawSl K Q none (some i) x H2) : tSl (rSlL K) te tNoPart (tPart th) σ H Q := q
theorem i_slFrom {tl : TE} (q : te σ H fun x H1 => tl σ H1 fun y H2 => ∃ i, y = .int i ∧ RawSl K Q (some i) none x H2) : tSl (rSlL K) te (tPart tl) tNoPart σ H Q := q
theorem i_exi {i : Int} {A : Int → Prop} (q : A i) : ∃ k, V.int i = .int k ∧ A k := ⟨i, rfl, q⟩
end
section
variable {X : Cx}
theorem sl_listK (K : PySem.W.Frag) (e : X.K = K) : SlR X (rSlL K) := by subst e; exact sl_list
theorem sl_tupK (K : PySem.W.Frag) (e : X.K = K) : SlR X (rSlT K) := by subst e; exact sl_tup
end
section
variable {K : PySem.W.Frag} {σ : S} {H : Hp} {Q : VK} {te : TE} {a b : Addr} {xs ys : List V} {v : V} {c : Bool}
theorem raw_slTo {i : Int} (h : SqL K H a xs) (h0 : 0 ≤ i) (h1 : i ≤ xs.length) (q : ∀ p H', H p = none → Same H H' → H' p = some (.lst (xs.take i.toNat)) → Q (.ref p) H') : RawSl K Q none (some i) (.ref a) H := by
  obtain ⟨n, rfl⟩ := Int.eq_ofNat_of_zero_le h0
  refine ⟨a, xs, rfl, h, fun p hp => ?_⟩
  have e : cutV xs none (some (n : Int)) = xs.take n := by
    unfold cutV
    rw [HT.sIx_none, HT.sIx_nat, List.drop_zero, Nat.sub_zero, Nat.min_eq_left (by omega)]
  rw [e]
  exact q p _ hp (same_new hp) upd_same
theorem raw_slFrom {i : Int} (h : SqL K H a xs) (h0 : 0 ≤ i) (h1 : i ≤ xs.length) (q : ∀ p H', H p = none → Same H H' → H' p = some (.lst (xs.drop i.toNat)) → Q (.ref p) H') : RawSl K Q (some i) none (.ref a) H := by
  obtain ⟨n, rfl⟩ := Int.eq_ofNat_of_zero_le h0
  refine ⟨a, xs, rfl, h, fun p hp => ?_⟩
  have e : cutV xs (some (n : Int)) none = xs.drop n := by
    unfold cutV
    rw [HT.sIx_none, HT.sIx_nat, Nat.min_eq_left (by omega)]
    exact List.take_of_length_le (by rw [List.length_drop]; omega)
  rw [e]
  exact q p _ hp (same_new hp) upd_same
/-! ### exceptions: readings -/
def RawVe (K : PySem.W.Frag) (Q : VK) (vs : List V) (H1 : Hp) : Prop := ∃ (a C : Addr) (ws : List V), vs = .ref a :: ws ∧ ws.length ≤ 1000 ∧ OexC K C ∧ H1 a = some (exo a C none) ∧ Q .non H1
theorem i_vei {ta : TA} (q : ta σ H (RawVe K Q)) : tVeI K ta σ H Q := q
def RawOst (K : PySem.W.Frag) (D : Ends) (σ : S) (f : Str) (y x : V) (H2 : Hp) : Prop := ∃ a C : Addr, x = .ref a ∧ OexC K C ∧ PySem.W.findIn K (.ref C) f = some none ∧
  ((H2 a = some (exo a C none) ∧ ∀ dx, H2 dx = none → dx ≠ a → D.nx σ (upd (upd H2 dx (exd dx [(f, y)])) a (exo a C (some dx)))) ∨
    ∃ (dx : Addr) (fs : List (Str × V)), H2 a = some (exo a C (some dx)) ∧ H2 dx = some (exd dx fs) ∧ fs.length ≤ 900 ∧ D.nx σ (upd H2 dx (exd dx ((f, y) :: fs))))
theorem i_ost {to : TE} {f : Str} {D : Ends} (q : te σ H fun y H1 => to σ H1 fun x H2 => RawOst K D σ f y x H2) : tOst K f to te D σ H := q
def RawMkO (C : Addr) (sp : Sp) (dvs : List V) (Q : XK) (vs : List V) (H1 : Hp) : Prop := vs.length ≤ 1000 ∧ ∀ a, H1 a = none → sp (.ref a :: (vs ++ dvs)) (upd H1 a (exo a C none))
  (fun v H2 => v = .non ∧ ∃ (d : Addr) (fs : List (Str × V)), H2 a = some (exo a C (some d)) ∧ H2 d = some (exd d fs) ∧ H1 d = none ∧ Q (.ref C) (some d) (upd (del H2 a) d (.xd fs))) (fun _ _ _ => False)
def RawMkS (C : Addr) (sp : Sp) (dvs : List V) (E : S → XK) (σ : S) (Q : VK) (vs : List V) (H1 : Hp) : Prop := ∀ x dx, H1 x = none → H1 dx = none → dx ≠ x →
  sp (.ref x :: (vs ++ dvs)) (upd (upd H1 dx (.own x)) x (.ins C dx [])) (fun v H2 => v = .non ∧ Q (.ref x) H2) (fun cls d H' => E σ cls d H')
theorem i_makeS {C : Addr} {sp : Sp} {dvs : List V} {E : S → XK} {ta : TA} (q : ta σ H (RawMkS C sp dvs E σ Q)) : tMakeS C sp dvs E ta σ H Q := q
theorem i_mko {C : Addr} {sp : Sp} {dvs : List V} {ta : TA} {QX : XK} (q : ta σ H (RawMkO C sp dvs QX)) : tMkO C sp dvs ta σ H QX := q
/-- isinstance(e, c) of the exception that is held -/
theorem i_isED {e D dd : Addr} {fs : List (Str × V)} {cv : Value} (h : H dd = some (.xd fs)) (x : ExcD K D) (k : ClsV v cv) (z : PySem.W.kitOne K (.ref D) cv = some c) (q : Q (.bl c) H) : rIsED K e (.ref D) (some dd) [.ref e, v] H Q :=
  ⟨_, _, _, _, _, _, rfl, rfl, rfl, h, x, k, z, q⟩
end
/-- what the text says of the errors -/
structure ErrCl (K : PySem.W.Frag) (mg : Str → Option Value) (CO CI : Addr) (mc : Value) : Prop where
  gO : mg "OrderError" = some (.ref CO)
  rdO : ClX.CRead K CO mc
  vVO : PySem.W.findCls K (.ref CO) mc "__init__" = some (.val (.builtin "ValueError.__init__"))
  gI : mg "InvalidPair" = some (.ref CI)
  T : OexC K CI
  nI : PySem.W.findIn K (.ref CI) "pair" = some none
  X : XfC K CI
  D : ExcD K CI
def spIPI (CI : Addr) : Sp := fun vs H Q _ => ∃ a v, vs = [.ref a, v] ∧ H a = some (exo a CI none) ∧ ∀ d, H d = none → d ≠ a → Q .non (upd (upd H d (exd d [("pair", v)])) a (exo a CI (some d)))
/-- InvalidPair(..) and what it needs -/
structure EMk (P : Program) (w : World) (K : PySem.W.Frag) (mg : Str → Option Value) (base : Heap) (k : Nat) (CI : Addr) : Prop where
  ex : ∃ fI fd, PySem.W.findIn K (.ref CI) "__init__" = some (some (.ref fI)) ∧ PySem.W.typeIn K (.ref fI) = some (.type "function") ∧ Binds K fd ["self", "pair"] [] ∧ FnOk P w K mg base CX0 k fI fd ["self", "pair"] (spIPI CI)
end KP
namespace KP
open PySem PySem.Spec PyProof.Rows L2
section
variable {K : PySem.W.Frag} {σ : S} {H : Hp} {Q : VK} {te : TE}
def RawXf (a : Addr) (cls : Value) (d : Option Addr) (C : Addr) (f : Str) (Q : VK) (x : V) (H1 : Hp) : Prop := x = .ref a ∧ cls = .ref C ∧ ∃ (dd : Addr) (fs : List (Str × V)) (v : V), d = some dd ∧ H1 dd = some (.xd fs) ∧ fs.lookup f = some v ∧ Q v H1
theorem i_xf {a C : Addr} {cls : Value} {d : Option Addr} {f : Str} (q : te σ H (RawXf a cls d C f Q)) : tXf a cls d C f te σ H Q := q
end
/-! ### all pairs of two lists -/
def prodP (fs ss : List Str) : List Pr := fs.flatMap fun a => ss.map fun b => (a, b)
def prodAt (fs ss : List Str) (i j : Nat) : List Pr := prodP (fs.take i) ss ++ (fs[i]?).toList.flatMap fun a => (ss.take j).map fun b => (a, b)
theorem prodP_mem {fs ss : List Str} {p : Pr} : p ∈ prodP fs ss ↔ p.1 ∈ fs ∧ p.2 ∈ ss := by
  obtain ⟨a, b⟩ := p
  unfold prodP
  simp
theorem prodP_len : ∀ fs ss : List Str, (prodP fs ss).length = fs.length * ss.length
  | [], ss => by simp [prodP]
  | a :: fs, ss => by
    have e : prodP (a :: fs) ss = (ss.map fun b => (a, b)) ++ prodP fs ss := by simp [prodP]
    rw [e, List.length_append, List.length_map, prodP_len fs ss, List.length_cons, Nat.add_mul]
    omega
theorem prodAt_zero (fs ss : List Str) (i : Nat) : prodAt fs ss i 0 = prodP (fs.take i) ss := by
  unfold prodAt
  cases fs[i]? <;> simp
theorem prodAt_next (fs ss : List Str) (i : Nat) : prodAt fs ss i ss.length = prodAt fs ss (i + 1) 0 := by
  rw [prodAt_zero]
  unfold prodAt prodP
  rw [List.take_add_one, List.flatMap_append, List.take_length]
theorem prodAt_snoc {fs ss : List Str} {i j : Nat} {a b : Str} (ha : fs[i]? = some a) (hb : ss[j]? = some b) : prodAt fs ss i (j + 1) = prodAt fs ss i j ++ [(a, b)] := by
  unfold prodAt
  rw [ha, take_snoc hb]
  simp
theorem prodAt_end (fs ss : List Str) : prodAt fs ss fs.length 0 = prodP fs ss := by rw [prodAt_zero, List.take_length]
theorem norm_prod (fs ss : List Str) : norm (prodP fs ss) = allPairs.filter fun p => decide (p.1 ∈ fs) && decide (p.2 ∈ ss) := by
  unfold norm
  refine List.filter_congr fun p _ => ?_
  rw [Bool.eq_iff_iff]
  simp [prodP_mem]
theorem str_at {l : List Str} {i : Nat} {x : V} (h : (l.map V.str)[i]? = some x) : ∃ z, l[i]? = some z ∧ x = .str z := by
  rw [List.getElem?_map] at h
  cases e : l[i]? with
  | none => rw [e] at h; cases h
  | some z => rw [e] at h; exact ⟨z, rfl, (Option.some.inj h).symm⟩
end KP
namespace KP
open PySem PySem.Spec PyProof.Rows L2
theorem paired_take {α β : Type} {F : α → β → Prop} : ∀ {l : List α} {m : List β} (n : Nat), Paired F l m → Paired F (l.take n) (m.take n)
  | _, _, 0, _ => .nil
  | _, _, _ + 1, .nil => .nil
  | _, _, n + 1, .cons a b => .cons a (paired_take n b)
theorem mid_at {us ext r : List V} {v : V} {n : Nat} (h : n ≤ us.length) : (us.take n ++ (v :: ext) ++ r)[n]? = some v := by
  have e : (us.take n).length = n := by rw [List.length_take, Nat.min_eq_left h]
  rw [List.append_assoc, List.getElem?_append_right (by omega), e, Nat.sub_self]
  rfl
theorem mid_take {us ext r : List V} {v : V} {n : Nat} (h : n ≤ us.length) : (us.take n ++ (v :: ext) ++ r).take n = us.take n := by
  have e : (us.take n).length = n := by rw [List.length_take, Nat.min_eq_left h]
  rw [List.append_assoc, List.take_append_of_le_length (by omega), List.take_of_length_le (by omega)]
theorem kind_get {j : Int} (h0 : 0 ≤ j) (h1 : j < 4) : ∃ z, atI kindsV j = some (.str z) ∧ kindB z = true := by
  obtain ⟨n, rfl⟩ := Int.eq_ofNat_of_zero_le h0
  have hn : n < 4 := by omega
  match n, hn with
  | 0, _ => exact ⟨_, rfl, by decide +kernel⟩
  | 1, _ => exact ⟨_, rfl, by decide +kernel⟩
  | 2, _ => exact ⟨_, rfl, by decide +kernel⟩
  | 3, _ => exact ⟨_, rfl, by decide +kernel⟩
theorem norm_kinds : norm (prodP kinds kinds) = allPairs := by decide +kernel
end KP
set_option Elab.async false
set_option linter.all false
set_option maxRecDepth 100000
set_option maxHeartbeats 1000000
namespace KP
open PySem PySem.Spec PyProof.Rows L2
local macro_rules | `(tactic| walk_at "hpH") => `(tactic| first
  | assumption
  | exact upd_same
  | exact Same.at (by assumption) (by walk_at "hpH"))
local macro_rules | `(tactic| walk_at "hpL") => `(tactic| first
  | assumption
  | exact sl_of (by walk_at "hpH")
  | exact Same.sl (by assumption) (by walk_at "hpL"))
local macro_rules | `(tactic| walk_at "hpT") => `(tactic| first
  | assumption
  | exact st_of (by walk_at "hpH")
  | exact Same.st (by assumption) (by walk_at "hpT"))
local macro_rules | `(tactic| walk_at "hp") => `(tactic| first
  | ((with_reducible show SqL _ _ _ _); walk_at "hpL")
  | ((with_reducible show SqT _ _ _ _); walk_at "hpT")
  | walk_at "hpH")
local macro_rules | `(tactic| walk_at "ar") => `(tactic| first
  | decide
  | omega
  | exact ⟨by decide, by decide⟩
  | exact Or.inl ⟨by decide, by decide⟩
  | exact Or.inl ⟨by omega, by omega⟩
  | exact Or.inr ⟨by decide, by decide⟩
  | exact Or.inr ⟨by omega, by omega⟩
  | exact ⟨by decide, by decide, by decide⟩
  | (simp only [List.length_map, List.length_append, List.length_cons, List.length_nil, List.length_reverse]; omega))
local macro_rules | `(tactic| walk_at "kp1") => `(tactic| first
  | (with_reducible refine' i_seq ?_)
  | (with_reducible refine' i_asg ?_)
  | (with_reducible refine' i_gname ?_)
  | ((with_reducible refine' i_var ?hv ?_); (case hv => exact rfl))
  | (with_reducible refine' i_c ?_)
  | (with_reducible refine' i_op ?_)
  | (with_reducible refine' i_un ?_)
  | (with_reducible refine' i_test ?_)
  | (with_reducible refine' i_B ?_)
  | (with_reducible refine' i_and ?_)
  | (with_reducible refine' i_or ?_)
  | (with_reducible refine' i_not ?_)
  | (with_reducible refine' i_andV ?_)
  | (with_reducible refine' i_orV ?_)
  | (with_reducible refine' i_notV ?_)
  | (with_reducible refine' i_tif ?_)
  | (with_reducible refine' i_exb ?_)
  | (with_reducible refine' i_drop ?_)
  | (with_reducible refine' i_ret ?_)
  | (with_reducible refine' i_retN ?_)
  | (with_reducible refine' i_next ?_)
  | (with_reducible refine' i_ifS ?_)
  | (with_reducible refine' i_nil ?_)
  | (with_reducible refine' i_cons ?_)
  | (with_reducible refine' i_cb ?_)
  | (with_reducible refine' i_call ?_)
  | (with_reducible refine' i_rI0 ?_)
  | (with_reducible refine' i_rU ?_)
  | (with_reducible refine' i_eqI ?_)
  | (with_reducible refine' i_neI ?_)
  | (with_reducible refine' i_eqS ?_)
  | (with_reducible refine' i_neS ?_)
  | (with_reducible refine' i_eqB ?_)
  | (with_reducible refine' i_neB ?_)
  | (with_reducible refine' i_tup ?_)
  | (with_reducible refine' i_lst ?_)
  | (with_reducible refine' i_bm ?_)
  | (with_reducible refine' i_fldR ?_)
  | (with_reducible refine' i_yes ?_)
  | (with_reducible refine' i_forR1 ?_)
  | (with_reducible refine' i_forL ?_)
  | (with_reducible refine' i_forT ?_)
  | ((with_reducible refine' i_lenL ?hs ?_); (case hs => walk_at "hp"))
  | ((with_reducible refine' i_lenT ?hs ?_); (case hs => walk_at "hp"))
  | (with_reducible refine' i_intI ?_)
  | (with_reducible refine' i_intB ?_)
  | (with_reducible refine' i_absI ?_)
  | ((with_reducible refine' i_rI ?hc ?_); (case hc => walk_at "ar"))
  | ((with_reducible refine' i_tyL ?hs ?_); (case hs => walk_at "hp"))
  | ((with_reducible refine' i_append ?hs ?hz ?_); (case hs => walk_at "hp"); (case hz => walk_at "ar"))
  | ((with_reducible refine' i_isiTup ?hs ?_); (case hs => walk_at "hp"))
  | ((with_reducible refine' i_inKinds ?hs ?_); (case hs => walk_at "hp"))
  | (with_reducible refine' iteT ?_)
  | (with_reducible refine' iteF ?_)
  | ((with_reducible refine' i_dnewT ?_))
  | ((with_reducible refine' i_dnewK ?_))
  | (with_reducible refine' i_make ?_)
  | ((with_reducible refine' i_ixD ?hs ?hz ?hy ?_); (case hs => walk_at "hpL"); (case hz => first | decide | omega); (case hy => omega))
  | (with_reducible refine' i_revL ?_)
  | ((with_reducible refine' raw_rev ?hs ?_); (case hs => walk_at "hp"))
  | (with_reducible refine' i_isB ?_)
  | (with_reducible refine' i_notB ?_)
  | (with_reducible refine' i_isiBool ?_)
  | ((with_reducible refine' i_catL ?ha ?hb ?hz ?_); (case ha => walk_at "hp"); (case hb => walk_at "hp"); (case hz => walk_at "ar"))
  | (with_reducible refine' i_dput ?_)
  | (with_reducible refine' i_din ?_)
  | (with_reducible refine' i_sfld ?_)
  | (with_reducible refine' i_lc2T ?_)
  | (with_reducible refine' i_lc2L ?_)
  | (with_reducible refine' i_lcL ?_)
  | (with_reducible refine' i_lcT ?_)
  | (with_reducible refine' i_lcR ?_)
  | ((with_reducible refine' i_tupL ?hs ?_); (case hs => walk_at "hp"))
  | ((with_reducible refine' i_listL ?hs ?_); (case hs => walk_at "hp"))
  | ((with_reducible refine' i_listT ?hs ?_); (case hs => walk_at "hp"))
  | ((with_reducible refine' i_tupT ?hs ?_); (case hs => walk_at "hp"))
  | ((with_reducible refine' fr_tup ?hz ?_); (case hz => exact Nat.le_of_ble_eq_true rfl))
  | ((with_reducible refine' fr_lst ?hz ?_); (case hz => exact Nat.le_of_ble_eq_true rfl)))
local macro_rules | `(tactic| walk_at "kp") => `(tactic| repeat (walk_at "kp1"))

local macro_rules | `(tactic| walk_at "kp1") => `(tactic| first
  | (with_reducible refine' i_vei ?_)
  | (with_reducible refine' i_ost ?_)
  | (with_reducible refine' i_makeS ?_)
  | (with_reducible refine' i_mko ?_)
  | (with_reducible refine' i_slTo ?_)
  | (with_reducible refine' i_slFrom ?_)
  | (with_reducible refine' i_exi ?_)
  | (with_reducible refine' i_xf ?_))

def topS (i : Nat) : Stmt := PySem.Challenge.pw_keptpairs_k04_bad_pairs.main.body.getD i (.Pass ⟨0, 0, 0, 0⟩)

section
variable {P : Program} {w : World} {K : PySem.W.Frag} {mg : Str → Option Value} {base : Heap}
/-! ### the draws -/
def spDraws (K : PySem.W.Frag) : Sp := fun vs H Q _ => ∃ (a : Addr) (ns : List Int) (k c : Int), vs = [.ref a, .int k, .int c] ∧ SqL K H a (ns.map V.int) ∧ 0 ≤ k ∧ k ≤ 100 ∧ 0 ≤ c ∧ c ≤ 1000 ∧
  ∀ (ds : List Int) H' p, (ds.length : Int) = c → (∀ d ∈ ds, 0 ≤ d ∧ d < 1000) → Same H H' → H p = none → H' p = some (.lst (ds.map V.int)) → Q (.ref p) H'
abbrev sDraws : Stmt := topS 13
theorem scDraws : FnScope ["script", "k", "count", "cell", "number", "great", "mixed", "out", "n"] ["script", "k", "count"] (defScope sDraws) := ⟨rfl, rfl, rfl, by decide +kernel, rfl, by decide +kernel, by decide +kernel⟩
/-- what the names hold in the loop -/
def DrawsAt (H : Hp) (a p : Addr) (k c : Int) (i : Nat) (σ : S) (H' : Hp) : Prop := ∃ (x3 x8 : Option V) (number mixed : Int) (g : Bool) (ds : List Int), σ = [some (.ref a), some (.int k), some (.int c), x3, some (.int number), some (.bl g), some (.int mixed), some (.ref p), x8] ∧
  0 ≤ mixed ∧ mixed < 10000000000 ∧ ds.length = i ∧ (∀ d ∈ ds, 0 ≤ d ∧ d < 1000) ∧ Same H H' ∧ H p = none ∧ H' p = some (.lst (ds.map V.int))
theorem ok_draws (At : FnAt K mg "_law_draws" sDraws ["script", "k", "count"]) (B : Blt mg) : OkF P w K mg base CX0 1 "_law_draws" ["script", "k", "count"] (spDraws K) := At.ok fun f fd F => by
  refine F.ok scDraws (fun vs H Q E h => ?_) (fun cdv A outer s H vs Q E hr h => ?_)
  · obtain ⟨a, ns, k, c, rfl, _⟩ := h
    rfl
  · obtain ⟨a, ns, k, c, rfl, hS, k0, k1, c0, c1, q⟩ := h
    refine ⟨_, (pss_cons (ps_set (i := 3) scDraws.nd rfl (.inl rfl) pe_int)
      (Evl.pss_cut (ps_if (pt_cmpR op_lt (pv 1) (pe_callB (call_lenLK K rfl) (by rfl) B.len (by decide +kernel) (pa_cons (pv 0) pa_nil)) (nomark _))
        (pss_one (ps_set (i := 3) scDraws.nd rfl (.inl rfl) (pe_callTy call_intI (by rfl) B.int (by decide +kernel) (pa_cons (pe_ix (ix_listK K rfl) (pv 0) (pv 1) (fun _ _ => rfl)) pa_nil)))) pss_nil)
      (pss_cons (ps_set (i := 4) scDraws.nd rfl (.inl rfl) (pe_op op_add (pe_op op_mul pe_int (pe_callB call_absI (by rfl) B.abs (by decide +kernel) (pa_cons (pv 3) pa_nil))) (pe_callTy call_intB (by rfl) B.int (by decide +kernel) (pa_cons (pe_cmpR op_lt (pv 3) pe_int (nomark _)) pa_nil))))
      (pss_cons (ps_set (i := 5) scDraws.nd rfl (.inl rfl) (pe_cmpR op_ge (pv 4) (pe_op op_mul pe_int (pe_op op_pow pe_int pe_int)) (nomark _)))
      (pss_cons (ps_set (i := 6) scDraws.nd rfl (.inl rfl) (pe_op op_add (pe_op op_add (pe_op op_mod (pe_callTy call_intI (by rfl) B.int (by decide +kernel) (pa_cons (pv 4) pa_nil)) pe_int) (pe_op op_mul pe_int (pv 1))) pe_int))
      (pss_cons (ps_set (i := 7) scDraws.nd rfl (.inl rfl) (pe_lst pa_nil))
      (pss_cons (ps_for PassesOwn.never rfl (pi_range1 rfl B.range (pa_cons (pv 2) pa_nil)) (pg_name (i := 8) scDraws.nd rfl (.inl rfl))
        (pss_one (ps_if (PW.pt (pw_and (pt_val (pv 5)) (pw_and1 (pt_cmpR op_gt (pv 4) pe_int (nomark _)))))
        (pss_cons (ps_expr (pe_bm PySem.F.plainAttrs_list PySem.F.slot_list_append PySem.F.type_list_append mt_append (pv 7) (pa_cons (pe_op op_mod (pe_callTy call_intI (by rfl) B.int (by decide +kernel) (pa_cons (pv 4) pa_nil)) pe_int) pa_nil)))
      (pss_one (ps_set (i := 4) scDraws.nd rfl (.inl rfl) (pe_op op_fdiv (pv 4) pe_int)))) (pss_cons (ps_set (i := 6) scDraws.nd rfl (.inl rfl) (pe_op op_mod (pe_callTy call_intI (by rfl) B.int (by decide +kernel) (pa_cons (pe_op op_add (pe_op op_mul (pv 6) pe_int) (pe_op op_mul pe_int (pv 8))) pa_nil)) pe_int))
      (pss_one (ps_expr (pe_bm PySem.F.plainAttrs_list PySem.F.slot_list_append PySem.F.type_list_append mt_append (pv 7) (pa_cons (pe_op op_mod (pe_callTy call_intI (by rfl) B.int (by decide +kernel) (pa_cons (pe_op op_fdiv (pv 6) pe_int) pa_nil)) pe_int) pa_nil))))))))
      (pss_one (ps_ret (pv 7)))))))))), ?_⟩
    walk_at "kp"
    refine i_cut (fun σ' H' => H' = H ∧ ∃ cell, σ' = [some (.ref a), some (.int k), some (.int c), some (.int cell), none, none, none, none, none]) ?_ ?_
    · walk_at "kp"
      refine ite2 (fun h => ?_) (fun h => ⟨rfl, _, rfl⟩)
      walk_at "kp"
      have hk : k.toNat < ns.length := by have := of_decide_eq_true h; rw [List.length_map] at this; omega
      refine i_ixL hS (at_of (j := k.toNat) (by omega) (by rw [List.getElem?_map, List.getElem?_eq_getElem hk]; rfl)) ?_
      walk_at "kp"
      exact ⟨rfl, _, rfl⟩
    · rintro σ' H' ⟨rfl, cell, rfl⟩
      walk_at "kp"
      intro p H1 np s1 hp
      try walk_at "kp"
      have e0 := Int.emod_nonneg (2 * (if cell < 0 then -cell else cell) + (if decide (cell < 0) = true then 1 else 0)) (show (2147483629 : Int) ≠ 0 by decide)
      have e1 := Int.emod_lt_of_pos (2 * (if cell < 0 then -cell else cell) + (if decide (cell < 0) = true then 1 else 0)) (show (0 : Int) < 2147483629 by decide)
      refine raw_r1 c0 (by omega) (DrawsAt H' a p k c) ⟨_, _, _, _, _, [], rfl, by omega, by omega, rfl, (fun _ h => nomatch h), s1, np, hp⟩ ?_ ?_
      · rintro n σ H2 hn ⟨x3, x8, number, mixed, g, ds, rfl, m0, m1, hl, hd, sm, np, hp2⟩
        have hlen : ds.length < 1000 := by omega
        have grow : ∀ (v : Int) (ds' : List Int), ds' = ds ++ [v] → 0 ≤ v → v < 1000 → ds'.length = n + 1 ∧ (∀ d ∈ ds', 0 ≤ d ∧ d < 1000) ∧ ds'.map V.int = ds.map V.int ++ [V.int v] := by
          rintro v ds' rfl h0 h1
          refine ⟨by simp [hl], fun d hm => ?_, by simp⟩
          rcases List.mem_append.mp hm with h | h
          · exact hd d h
          · rw [List.mem_singleton.mp h]; exact ⟨h0, h1⟩
        have step1 : ∀ (number' : Int) (x8 : Option V), DrawsAt H' a p k c (n + 1) [some (.ref a), some (.int k), some (.int c), x3, some (.int number'), some (.bl g), some (.int mixed), some (.ref p), x8] (upd H2 p (.lst (ds.map V.int ++ [V.int (number % 1000)]))) := fun number' x8 => by
          obtain ⟨g1, g2, g3⟩ := grow (number % 1000) _ rfl (by omega) (by omega)
          exact ⟨_, _, _, _, _, _, rfl, m0, m1, g1, g2, same_own np sm, np, by rw [upd_same, g3]⟩
        have step2 : ∀ x8 : Option V, DrawsAt H' a p k c (n + 1) [some (.ref a), some (.int k), some (.int c), x3, some (.int number), some (.bl g), some (.int ((mixed * 48271 + 69621 * n) % 2147483647)), some (.ref p), x8] (upd H2 p (.lst (ds.map V.int ++ [V.int (((mixed * 48271 + 69621 * n) % 2147483647) / 11 % 1000)]))) := fun x8 => by
          obtain ⟨g1, g2, g3⟩ := grow (((mixed * 48271 + 69621 * n) % 2147483647) / 11 % 1000) _ rfl (by omega) (by omega)
          exact ⟨_, _, _, _, _, _, rfl, by omega, by omega, g1, g2, same_own np sm, np, by rw [upd_same, g3]⟩
        cases g with
        | false =>
          walk_at "kp"
          exact step2 _
        | true =>
          walk_at "kp"
          refine ite2 (fun _ => ?_) (fun _ => ?_)
          · walk_at "kp"
            exact step1 _ _
          · walk_at "kp"
            exact step2 _
      · rintro n σ H2 hn ⟨x3, x8, number, mixed, g, ds, rfl, m0, m1, hl, hd, sm, np, hp2⟩
        walk_at "kp"
        exact q ds H2 p (by omega) hd sm np hp2

/-! ### the kinds, all pairs -/
def spKinds : Sp := fun vs H Q _ => vs = [] ∧ ∀ p H', H p = none → Same H H' → H' p = some (.lst kindsV) → Q (.ref p) H'
abbrev sKinds : Stmt := topS 14
theorem scKinds : FnScope [] [] (defScope sKinds) := ⟨rfl, rfl, rfl, by decide +kernel, rfl, by decide +kernel, by decide +kernel⟩
theorem ok_kinds (At : FnAt K mg "_law_kinds" sKinds []) : OkF P w K mg base CX0 1 "_law_kinds" [] spKinds := At.ok fun f fd F => by
  refine F.ok scKinds (fun vs H Q E h => ?_) (fun cdv A outer s H vs Q E hr h => ?_)
  · obtain ⟨rfl, _⟩ := h
    rfl
  · obtain ⟨rfl, q⟩ := h
    refine ⟨_, (pss_one (ps_ret (pe_lst (pa_cons pe_str (pa_cons pe_str (pa_cons pe_str (pa_cons pe_str pa_nil))))))), ?_⟩
    walk_at "kp"
    intro p H1 np s1 hp
    try walk_at "kp"
    exact q p H1 np s1 hp
def spAll : Sp := fun vs H Q _ => vs = [] ∧ ∀ p H' us, H p = none → Same H H' → H' p = some (.lst us) → PairsV H' us allPairs → Q (.ref p) H'
abbrev sAll : Stmt := topS 15
theorem scAll : FnScope ["out", "first", "second"] [] (defScope sAll) := ⟨rfl, rfl, rfl, by decide +kernel, rfl, by decide +kernel, by decide +kernel⟩
def AllAt (H1 : Hp) (o p : Addr) (i : Nat) (σ : S) (H' : Hp) : Prop := ∃ (x1 x2 : Option V) (us : List V), σ = [some (.ref o), x1, x2] ∧ Same H1 H' ∧ H1 o = none ∧ H' o = some (.lst us) ∧ H' p = some (.lst kindsV) ∧ PairsV H' us (allPairs.take (i * 4))
def AllIn (H1 : Hp) (o p p2 : Addr) (i : Nat) (x : V) (j : Nat) (σ : S) (H' : Hp) : Prop := ∃ (x2 : Option V) (us : List V), σ = [some (.ref o), some x, x2] ∧ Same H1 H' ∧ H1 o = none ∧ H' o = some (.lst us) ∧ H' p = some (.lst kindsV) ∧ H' p2 = some (.lst kindsV) ∧ PairsV H' us (allPairs.take (i * 4 + j))
theorem ok_all (At : FnAt K mg "_law_all_pairs" sAll []) (Okinds : OkF P w K mg base CX0 1 "_law_kinds" [] spKinds) : OkF P w K mg base CX0 2 "_law_all_pairs" [] spAll := At.ok fun f fd F => by
  refine F.ok scAll (fun vs H Q E h => ?_) (fun cdv A outer s H vs Q E hr h => ?_)
  · obtain ⟨rfl, _⟩ := h
    rfl
  · obtain ⟨rfl, q⟩ := h
    refine ⟨_, (pss_cons (ps_set (i := 0) scAll.nd rfl (.inl rfl) (pe_lst pa_nil))
      (pss_cons (ps_for PassesOwn.never rfl (pi_list (pe_callO0 Okinds (hr.mono (by decide)))) (pg_name (i := 1) scAll.nd rfl (.inl rfl))
        (pss_one (ps_for PassesOwn.never rfl (pi_list (pe_callO0 Okinds (hr.mono (by decide)))) (pg_name (i := 2) scAll.nd rfl (.inl rfl))
        (pss_one (ps_expr (pe_bm PySem.F.plainAttrs_list PySem.F.slot_list_append PySem.F.type_list_append mt_append (pv 0) (pa_cons (pe_tup (pa_cons (pv 1) (pa_cons (pv 2) pa_nil))) pa_nil)))))))
      (pss_one (ps_ret (pv 0))))), ?_⟩
    walk_at "kp"
    intro o H1 no s1 ho
    try walk_at "kp"
    refine ⟨rfl, fun p H2 np s2 hp => ?_⟩
    have kl : ∀ i : Nat, i < 4 → ∃ z, kinds[i]? = some z ∧ kindsV[i]? = some (.str z) := fun i hi => by
      match i, hi with
      | 0, _ => exact ⟨_, rfl, rfl⟩
      | 1, _ => exact ⟨_, rfl, rfl⟩
      | 2, _ => exact ⟨_, rfl, rfl⟩
      | 3, _ => exact ⟨_, rfl, rfl⟩
    have npo : p ≠ o := fun e => by rw [e, ho] at np; cases np
    refine raw_fl (sl_of hp) (AllAt H o p) ⟨_, _, [], rfl, s1.trans s2, no, s2 _ _ ho, hp, .nil⟩ (fun i σ H' _ ⟨_, _, _, _, _, _, _, e, _⟩ => sl_of e) ?_ ?_
    · rintro i x σ H3 hx ⟨x1, x2, us, rfl, sm, no, eo, ep, pr⟩
      have hi : i < 4 := (List.getElem?_eq_some_iff.mp hx).1
      obtain ⟨z, hz, hz2⟩ := kl i hi
      obtain rfl : x = .str z := Option.some.inj (hx.symm.trans hz2)
      walk_at "kp"
      refine ⟨rfl, fun p2 H4 np2 s4 hp2 => ?_⟩
      have np2o : p2 ≠ o := fun e => by rw [e, eo] at np2; cases np2
      refine raw_fl (sl_of hp2) (AllIn H o p p2 i (.str z)) ⟨_, us, rfl, sm.trans s4, no, s4 _ _ eo, s4 _ _ ep, hp2, pr.mono (Same.tk s4)⟩ (fun i σ H' _ ⟨_, _, _, _, _, _, _, e, _⟩ => sl_of e) ?_ ?_
      · rintro j y σ H5 hy ⟨x2, us, rfl, sm, no, eo, ep, ep2, pr⟩
        have hj : j < 4 := (List.getElem?_eq_some_iff.mp hy).1
        obtain ⟨z2, hz3, hz4⟩ := kl j hj
        obtain rfl : y = .str z2 := Option.some.inj (hy.symm.trans hz4)
        have lus : us.length ≤ 1000 := by rw [paired_len pr, List.length_take]; exact Nat.le_trans (Nat.min_le_right _ _) (by decide)
        walk_at "kp"
        intro t H6 nt s6 ht
        try walk_at "kp"
        have e6 := s6 _ _ eo
        refine ⟨_, us ++ [.ref t], rfl, same_own no (sm.trans s6), no, upd_same, by rw [upd_ne npo]; exact s6 _ _ ep, by rw [upd_ne np2o]; exact s6 _ _ ep2, ?_⟩
        have g : allPairs[i * 4 + j]? = some (z, z2) := by rw [all_at i hi j hj, hz, hz3]; rfl
        have hT := tk_upd (o' := .lst (us ++ [.ref t])) e6 fun xs z => nomatch z
        show PairsV _ _ (allPairs.take (i * 4 + j + 1))
        rw [take_snoc g]
        exact paired_snoc ((pr.mono (Same.tk s6)).mono hT) ⟨t, rfl, hT _ _ ht⟩
      · rintro σ H5 ⟨x2, us, rfl, sm, no, eo, ep, ep2, pr⟩
        exact ⟨_, _, us, rfl, sm, no, eo, ep, by rw [Nat.add_mul]; exact pr⟩
    · rintro σ H3 ⟨x1, x2, us, rfl, sm, no, eo, ep, pr⟩
      walk_at "kp"
      exact q o H3 us no sm eo pr

/-! ### is_pair, the class Pairs -/
def spIsPair : Sp := fun vs H Q _ => ∃ t a b, vs = [.ref t] ∧ H t = some (.tup [.str a, .str b]) ∧ Q (.bl (kindB a && kindB b)) H
abbrev sIsPair : Stmt := topS 10
theorem scIsPair : FnScope ["item"] ["item"] (defScope sIsPair) := ⟨rfl, rfl, rfl, by decide +kernel, rfl, by decide +kernel, by decide +kernel⟩
theorem ok_ispair (At : FnAt K mg "is_pair" sIsPair ["item"]) (B : Blt mg) (GK : GlT K mg "KINDS" kindsV) : OkF P w K mg base CX0 1 "is_pair" ["item"] spIsPair := At.ok fun f fd F => by
  obtain ⟨aK, gK, hK⟩ := GK
  refine F.ok scIsPair (fun vs H Q E h => ?_) (fun cdv A outer s H vs Q E hr h => ?_)
  · obtain ⟨t, a, b, rfl, _⟩ := h
    rfl
  · obtain ⟨t, a, b, rfl, ht, q⟩ := h
    have hKH := hK H
    refine ⟨_, (pss_one (ps_ret (pe_and (pe_callB (call_isiKK K rfl) (by rfl) B.isinstance (by decide +kernel) (pa_cons (pv 0) (pa_cons (pe_bltn (v := .ty "tuple") (by rfl) B.tuple (by decide +kernel) rfl) pa_nil))) (pe_and (pe_cmpR op_eq (pe_callB (call_lenTK K rfl) (by rfl) B.len (by decide +kernel) (pa_cons (pv 0) pa_nil)) pe_int (nomark _)) (pe_and (pe_cmpR (op_in_seqK K rfl) (pe_ix (ix_tupK K rfl) (pv 0) pe_int (fun _ _ => rfl)) (pe_glob (v := .ref aK) (by rfl) gK (by rfl)) (by rfl)) (pe_one (pe_cmpR (op_in_seqK K rfl) (pe_ix (ix_tupK K rfl) (pv 0) pe_int (fun _ _ => rfl)) (pe_glob (v := .ref aK) (by rfl) gK (by rfl)) (by rfl)))))))), ?_⟩
    walk_at "kp"
    refine ite_ok rfl ?_
    walk_at "kp"
    refine i_ixT (st_of ht) (atI_nat (j := 0) rfl) ?_
    walk_at "kp"
    cases e : kindB a with
    | false =>
      rw [e] at q
      exact iteF q
    | true =>
      rw [e] at q
      refine iteT ?_
      walk_at "kp"
      refine i_ixT (st_of ht) (atI_nat (j := 1) rfl) ?_
      walk_at "kp"
      exact q
def spPInit (K : PySem.W.Frag) (C : Addr) : Sp := fun vs H Q _ => ∃ (p dx a : Addr) (us : List V) (ps : List Pr), vs = [.ref p, .ref a] ∧ H p = some (.ins C dx []) ∧ (SqL K H a us ∨ SqT K H a us) ∧ PairsV H us ps ∧ (∀ r ∈ ps, r ∈ allPairs) ∧ ps.length ≤ 900 ∧
  ∀ H', PairsAt C H' p (norm ps) → (∀ b o, b ≠ p → H b = some o → H' b = some o) → Q .non H'
abbrev sPInit : Stmt := inClass (topS 11) 0
theorem scPInit : FnScope ["self", "pairs", "given", "pair", "first", "second"] ["self", "pairs"] (defScope sPInit) := ⟨rfl, rfl, rfl, by decide +kernel, rfl, by decide +kernel, by decide +kernel⟩
def PInAt (H : Hp) (p a d : Addr) (us : List V) (ps : List Pr) (i : Nat) (σ : S) (H' : Hp) : Prop := ∃ (x3 : Option V) (kvs : List (List L2.Key × V)), σ = [some (.ref p), some (.ref a), some (.ref d), x3, none, none] ∧ Same H H' ∧ H d = none ∧ H' d = some (.dT kvs) ∧ kvs.length ≤ i ∧ Given kvs (ps.take i)
theorem spPInit_args {C : Addr} : ∀ vs H Q E, spPInit K C vs H Q E → vs.length = (["self", "pairs"] : List Str).length := fun vs H Q E ⟨_, _, _, _, _, e, _⟩ => by rw [e]; rfl

theorem ok_pinit {C aE f : Addr} {fd : FuncData} (F : FunD K "__init__" "Pairs.__init__" (defArgs sPInit) (defBody sPInit) (defScope sPInit) [.ref aE] [] f fd) (B : Blt mg) (GK : GlT K mg "KINDS" kindsV) (T : PairsCl K mg C) (Oip : OkF P w K mg base CX0 1 "is_pair" ["item"] spIsPair) : FnOk P w K mg base CX0 2 f fd ["self", "pairs"] (spPInit K C) := by
  obtain ⟨aK, gK, hK⟩ := GK
  refine F.ok scPInit spPInit_args (fun cdv A outer s H vs Q E hr h => ?_)
  obtain ⟨p, dx, a, us, ps, rfl, hp, hS, hpr, hv, hlen, q⟩ := h
  have hu := hu_of hr
  have ulen : us.length = ps.length := paired_len hpr
  -- behind the loop
  have last : ∀ (D : Ends) (d : Addr) (σ : S) (H2 : Hp), D.nx = (fun _ H' => Q .non H') → PInAt H p a d us ps ps.length σ H2 → (sFld K (tVar 0) (tCB (rTupL K) (tCons (tLc2 (iTup K (tC (.ref aK))) (gName 4) tYes (iTup K (tC (.ref aK))) (gName 5) (tB (tDIn (tTup (tCons (tVar 4) (tCons (tVar 5) tNil))) (tVar 2))) (tTup (tCons (tVar 4) (tCons (tVar 5) tNil))) [4, 5] [5]) tNil)) "_pairs") D σ H2 := by
    rintro D d σ H2 hD ⟨x3, kvs, rfl, sm, nd, ed, kl, gv⟩
    walk_at "kp"
    rw [List.take_length] at gv
    have hp2 := sm _ _ hp
    refine ⟨aK, rfl, ⟨_, hK H2⟩, raw_lc2 (G := fun H => SqT K H aK kindsV) (G1 := fun H => SqT K H aK kindsV) walk_tup (by decide) (fun H' _ => hK H') (fun i j acc H' => PairsV H' acc ((allPairs.take (i * 4 + j)).filter fun r => decide (r ∈ ps))) (fun i j acc H H' k h => h.mono k) .nil (fun i acc H' h => by
        have e : (i + 1) * 4 + 0 = i * 4 + kindsV.length := by show (i + 1) * 4 = i * 4 + 4; omega
        rw [e]; exact h) (fun H' _ => hK H') (fun x => rfl) (fun x H' _ => inner_tupC (hK H')) ?_ ?_⟩
    · rintro i j x y acc H3 hx hy s3 pr Y N hY hN
      have hi : i < 4 := (List.getElem?_eq_some_iff.mp hx).1
      have hj : j < 4 := (List.getElem?_eq_some_iff.mp hy).1
      have kl : ∀ (i : Nat) (x : V), i < 4 → kindsV[i]? = some x → ∃ z, kinds[i]? = some z ∧ x = .str z := fun i x hi hx => by
        match i, hi, hx with
        | 0, _, h => exact ⟨_, rfl, (Option.some.inj h).symm⟩
        | 1, _, h => exact ⟨_, rfl, (Option.some.inj h).symm⟩
        | 2, _, h => exact ⟨_, rfl, (Option.some.inj h).symm⟩
        | 3, _, h => exact ⟨_, rfl, (Option.some.inj h).symm⟩
      obtain ⟨z, hz, rfl⟩ := kl i x hi hx
      obtain ⟨z2, hz2, rfl⟩ := kl j y hj hy
      have g : allPairs[i * 4 + j]? = some (z, z2) := by rw [all_at i hi j hj, hz, hz2]; rfl
      refine ⟨rfl, ?_⟩
      walk_at "kp"
      intro t H4 nt s4 ht
      try walk_at "kp"
      refine raw_dinT (k := keyP (z, z2)) (s4 _ _ (s3 _ _ ed)) ht ?_
      rw [gv (z, z2)]
      have e1 : allPairs.take (i * 4 + (j + 1)) = allPairs.take (i * 4 + j) ++ [(z, z2)] := take_snoc g
      walk_at "kp"
      refine ite2 (fun hm => ?_) (fun hm => ?_)
      · walk_at "kp"
        intro t2 H5 nt2 s5 ht2
        try walk_at "kp"
        refine hY _ H5 (s4.trans s5) ?_
        show PairsV H5 (acc ++ [.ref t2]) ((allPairs.take (i * 4 + (j + 1))).filter fun r => decide (r ∈ ps))
        rw [e1, List.filter_append, List.filter_cons, if_pos hm]
        exact paired_snoc (pr.mono (Same.tk (s4.trans s5))) ⟨t2, rfl, ht2⟩
      · refine hN H4 s4 ?_
        show PairsV H4 acc ((allPairs.take (i * 4 + (j + 1))).filter fun r => decide (r ∈ ps))
        rw [e1, List.filter_append, List.filter_cons, if_neg hm, List.filter_nil, List.append_nil]
        exact pr.mono (Same.tk s4)
    · rintro Dl acc H3 nD s3 eD pr
      walk_at "kp"
      intro t H4 nt s4 ht
      try walk_at "kp"
      refine raw_sfld (s4 _ _ (s3 _ _ hp2)) T.cl T.nP (by decide) ?_
      rw [hD]
      have ntp : t ≠ p := fun e => by rw [e, s3 _ _ hp2] at nt; cases nt
      have tk : TupK H4 (upd H4 p (.ins C dx (putF "_pairs" (.ref t) []))) := tk_upd (s4 _ _ (s3 _ _ hp2)) fun xs z => nomatch z
      refine q _ ⟨dx, t, acc, upd_same, by rw [upd_ne ntp]; exact ht, ?_⟩ fun b o hb e => by rw [upd_ne hb]; exact s4 _ _ (s3 _ _ (sm _ _ e))
      exact (pr.mono (Same.tk s4)).mono tk
  have turn : ∀ (D : Ends) (d : Addr) (i : Nat) (x : V) (σ : S) (H2 : Hp), us[i]? = some x → D.nx = PInAt H p a d us ps (i + 1) → PInAt H p a d us ps i σ H2 →
      tSeq (tIfS (tNot (tB (tCall spIsPair [] E0 (tCons (tVar 3) tNil)))) tNever tNext) (sDPut (tVar 2) (tVar 3) (tC (.bl true))) D (σ.set 3 (some x)) H2 := by
    rintro D d i x σ H2 hx hD ⟨x3, kvs, rfl, sm, nd, ed, kl, gv⟩
    obtain ⟨r, hr2, t, rfl, ht⟩ := paired_get hpr hx
    have hil : i < us.length := (List.getElem?_eq_some_iff.mp hx).1
    have hr3 := (all_mem r).mp (hv r (List.mem_of_getElem? hr2))
    walk_at "kp"
    refine ⟨t, r.1, r.2, rfl, sm _ _ ht, ?_⟩
    rw [hr3.1, hr3.2]
    walk_at "kp"
    refine ite_no rfl ?_
    walk_at "kp"
    refine raw_dputT (k := keyP r) ed (sm _ _ ht) (by omega) ?_
    rw [hD]
    exact ⟨_, _, rfl, same_own nd sm, nd, upd_same, Nat.le_trans putK_len (by omega), by rw [take_snoc hr2]; exact given_put gv⟩
  rcases hS with hS | hS
  · refine ⟨_, PSs.nox (pss_cons (ps_set (i := 2) scPInit.nd rfl (.inr rfl) pe_dnewT)
      (pss_cons (ps_for PassesOwn.never rfl (pi_list (pv 1)) (pg_name (i := 3) scPInit.nd rfl (.inl rfl))
        (pss_cons (ps_if (pt_not (pt_val (pe_callO Oip (hr.mono (by decide)) (pa_cons (pv 3) pa_nil))))
        (pss_one ps_never) pss_nil)
      (pss_one (ps_dput hu (pv 2) (pv 3) pe_bl rfl))))
      (pss_one (ps_fld (pv 0) (pe_callTy call_tupL (by rfl) B.tuple (by decide +kernel) (pa_cons (pe_lc2 (own := [("first", 4), ("second", 5)]) (vs1 := [5]) (g := gName 4) (g1 := gName 5) (tt := tYes) (wi1 := (iTup K (tC (.ref aK)))) rfl scPInit.nd (by exact (pi_tup (pe_glob (v := .ref aK) (by rfl) gK (by rfl)))) (blkOk_by (N := ["self", "pairs", "given", "pair", "first", "second"]) (sc := (defScope sPInit)) (by decide +kernel)) (by decide) (fun _ _ _ _ _ => pg_name (i := 4) scPInit.nd rfl (Or.inl rfl)) (fun _ _ _ _ _ => by exact pts_nil) (fun _ _ _ _ _ => by exact (pi_tup (pe_glob (v := .ref aK) (by rfl) gK (by rfl)))) (fun _ _ _ _ _ => pg_name (i := 5) scPInit.nd rfl (Or.inl rfl)) (fun _ _ _ _ _ => by exact (pts_one (pt_cmp (pc_din hu (pe_tup (pa_cons (pv 4) (pa_cons (pv 5) pa_nil))) (pv 2))))) (fun _ _ _ _ _ => by exact (pe_tup (pa_cons (pv 4) (pa_cons (pv 5) pa_nil))))) pa_nil)) rfl)))), ?_⟩
    walk_at "kp"
    intro d H1 nd s1 hd
    try walk_at "kp"
    refine raw_fl (s1.seq hS) (PInAt H p a d us ps) ⟨_, [], rfl, s1, nd, hd, Nat.le_refl _, fun r => rfl⟩ (fun i σ H' _ ⟨_, _, _, sm, _⟩ => sm.seq hS) (fun i x σ H2 hx h => turn _ d i x σ H2 hx rfl h) (fun σ H2 h => last _ d σ H2 rfl (by rw [← ulen]; exact h))
  · refine ⟨_, PSs.nox (pss_cons (ps_set (i := 2) scPInit.nd rfl (.inr rfl) pe_dnewT)
      (pss_cons (ps_for PassesOwn.never rfl (pi_tup (pv 1)) (pg_name (i := 3) scPInit.nd rfl (.inl rfl))
        (pss_cons (ps_if (pt_not (pt_val (pe_callO Oip (hr.mono (by decide)) (pa_cons (pv 3) pa_nil))))
        (pss_one ps_never) pss_nil)
      (pss_one (ps_dput hu (pv 2) (pv 3) pe_bl rfl))))
      (pss_one (ps_fld (pv 0) (pe_callTy call_tupL (by rfl) B.tuple (by decide +kernel) (pa_cons (pe_lc2 (own := [("first", 4), ("second", 5)]) (vs1 := [5]) (g := gName 4) (g1 := gName 5) (tt := tYes) (wi1 := (iTup K (tC (.ref aK)))) rfl scPInit.nd (by exact (pi_tup (pe_glob (v := .ref aK) (by rfl) gK (by rfl)))) (blkOk_by (N := ["self", "pairs", "given", "pair", "first", "second"]) (sc := (defScope sPInit)) (by decide +kernel)) (by decide) (fun _ _ _ _ _ => pg_name (i := 4) scPInit.nd rfl (Or.inl rfl)) (fun _ _ _ _ _ => by exact pts_nil) (fun _ _ _ _ _ => by exact (pi_tup (pe_glob (v := .ref aK) (by rfl) gK (by rfl)))) (fun _ _ _ _ _ => pg_name (i := 5) scPInit.nd rfl (Or.inl rfl)) (fun _ _ _ _ _ => by exact (pts_one (pt_cmp (pc_din hu (pe_tup (pa_cons (pv 4) (pa_cons (pv 5) pa_nil))) (pv 2))))) (fun _ _ _ _ _ => by exact (pe_tup (pa_cons (pv 4) (pa_cons (pv 5) pa_nil))))) pa_nil)) rfl)))), ?_⟩
    walk_at "kp"
    intro d H1 nd s1 hd
    try walk_at "kp"
    refine raw_ft (SqT.ext hS s1) (PInAt H p a d us ps) ⟨_, [], rfl, s1, nd, hd, Nat.le_refl _, fun r => rfl⟩ (fun i σ H' _ ⟨_, _, _, sm, _⟩ => SqT.ext hS sm) (fun i x σ H2 hx h => turn _ d i x σ H2 hx rfl h) (fun σ H2 h => last _ d σ H2 rfl (by rw [← ulen]; exact h))

abbrev sIter : Stmt := inClass (topS 11) 2
theorem scIter : FnScope ["self"] ["self"] (defScope sIter) := ⟨rfl, rfl, rfl, by decide +kernel, rfl, by decide +kernel, by decide +kernel⟩
theorem ok_iter {C : Addr} (At : MAt K C "__iter__" "Pairs.__iter__" sIter ["self"]) (B : Blt mg) (T : PairsCl K mg C) : OkM P w K mg base CX0 1 C "__iter__" ["self"] (spIterT K (pairsT C)) := At.ok fun f fd F => by
  refine F.ok scIter (fun vs H Q E h => ?_) (fun cdv A outer s H vs Q E hr h => ?_)
  · obtain ⟨a, t, xs, rfl, _⟩ := h
    rfl
  · obtain ⟨a, t, xs, rfl, ⟨⟨dx, ea⟩, et⟩, hS, q⟩ := h
    refine ⟨_, (pss_one (ps_ret (pe_callB call_iterT (by rfl) B.iter (by decide +kernel) (pa_cons (pe_fldK K rfl (pv 0) rfl) pa_nil)))), ?_⟩
    walk_at "kp"
    refine raw_fld ea T.cl T.nP (v := .ref t) (by rfl) ?_
    walk_at "kp"
    exact i_iterT hS q
abbrev sLen : Stmt := inClass (topS 11) 3
theorem scLen : FnScope ["self"] ["self"] (defScope sLen) := ⟨rfl, rfl, rfl, by decide +kernel, rfl, by decide +kernel, by decide +kernel⟩
theorem ok_len {C : Addr} (At : MAt K C "__len__" "Pairs.__len__" sLen ["self"]) (B : Blt mg) (T : PairsCl K mg C) : OkM P w K mg base CX0 1 C "__len__" ["self"] (spLenT (pairsT C)) := At.ok fun f fd F => by
  refine F.ok scLen (fun vs H Q E h => ?_) (fun cdv A outer s H vs Q E hr h => ?_)
  · obtain ⟨a, t, xs, rfl, _⟩ := h
    rfl
  · obtain ⟨a, t, xs, rfl, ⟨⟨dx, ea⟩, et⟩, hz, q⟩ := h
    refine ⟨_, (pss_one (ps_ret (pe_callB (call_lenTK K rfl) (by rfl) B.len (by decide +kernel) (pa_cons (pe_fldK K rfl (pv 0) rfl) pa_nil)))), ?_⟩
    walk_at "kp"
    refine raw_fld ea T.cl T.nP (v := .ref t) (by rfl) ?_
    walk_at "kp"
    exact q
def spCont (C : Addr) : Sp := fun vs H Q _ => ∃ m v ps p, vs = [.ref m, v] ∧ PairsAt C H m ps ∧ PairV H v p ∧ (∀ r ∈ ps, GoodP r = true) ∧ GoodP p = true ∧ Q (.bl (decide (p ∈ ps))) H
abbrev sCont : Stmt := inClass (topS 11) 4
theorem scCont : FnScope ["self", "x"] ["self", "x"] (defScope sCont) := ⟨rfl, rfl, rfl, by decide +kernel, rfl, by decide +kernel, by decide +kernel⟩
theorem ok_cont {C : Addr} (At : MAt K C "__contains__" "Pairs.__contains__" sCont ["self", "x"]) (B : Blt mg) (T : PairsCl K mg C) : OkM P w K mg base CX0 1 C "__contains__" ["self", "x"] (spCont C) := At.ok fun f fd F => by
  refine F.ok scCont (fun vs H Q E h => ?_) (fun cdv A outer s H vs Q E hr h => ?_)
  · obtain ⟨m, v, ps, p, rfl, _⟩ := h
    rfl
  · obtain ⟨m, v, ps, p, rfl, ⟨dx, t, us, em, et, pr⟩, pv2, gs, gp, q⟩ := h
    refine ⟨_, (pss_one (ps_ret (pe_cmpR (op_inTDK K rfl hr.units1) (pv 1) (pe_fldK K rfl (pv 0) rfl) (by rfl)))), ?_⟩
    walk_at "kp"
    refine raw_fld em T.cl T.nP (v := .ref t) (by rfl) ?_
    exact i_inPT pv2 ⟨us, st_of et, pr⟩ gp gs q

theorem raw_mkP {C : Addr} {H : Hp} {Q : VK} {a : Addr} {us : List V} {ps : List Pr} (hS : SqL K H a us ∨ SqT K H a us) (pr : PairsV H us ps) (hv : ∀ r ∈ ps, r ∈ allPairs) (hl : ps.length ≤ 900)
    (q : ∀ x H', H x = none → Same H H' → PairsAt C H' x (norm ps) → Q (.ref x) H') : RawMk C (spPInit K C) [] E0 Q [.ref a] H := by
  intro x dx nx ndx nex
  have s0 : Same H (upd (upd H dx (.own x)) x (.ins C dx [])) := fun b o e => by
    rw [upd_ne (ne_of_none e nx), upd_ne (ne_of_none e ndx)]
    exact e
  refine ⟨x, dx, a, us, ps, rfl, upd_same, hS.imp s0.seq fun h => SqT.ext h s0, pr.mono (Same.tk s0), hv, hl, fun H' hP hk => ⟨rfl, q x H' nx (fun b o e => hk b o (ne_of_none e nx) (s0 b o e)) hP⟩⟩
theorem raw_mkP0 {C aE : Addr} {H : Hp} {Q : VK} (em : ∀ H, SqT K H aE []) (q : ∀ x H', H x = none → Same H H' → PairsAt C H' x [] → Q (.ref x) H') : RawMk C (spPInit K C) [.ref aE] E0 Q [] H := by
  intro x dx nx ndx nex
  have s0 : Same H (upd (upd H dx (.own x)) x (.ins C dx [])) := fun b o e => by
    rw [upd_ne (ne_of_none e nx), upd_ne (ne_of_none e ndx)]
    exact e
  have nn : norm [] = [] := by decide +kernel
  refine ⟨x, dx, aE, [], [], rfl, upd_same, .inr (em _), .nil, (fun _ h => nomatch h), Nat.zero_le _, fun H' hP hk => ⟨rfl, q x H' nx (fun b o e => hk b o (ne_of_none e nx) (s0 b o e)) ?_⟩⟩
  rw [nn] at hP
  exact hP
theorem raw_list {C a : Addr} {H : Hp} {Q : VK} {ps : List Pr} (h : PairsAt C H a ps) (q : ∀ l H' us, H l = none → Same H H' → H' l = some (.lst us) → PairsV H' us ps → Q (.ref l) H') : rListIt K C (pairsT C) [.ref a] H Q := by
  obtain ⟨dx, t, vs, h1, h2, h3⟩ := h
  exact ⟨a, dx, _, t, vs, rfl, h1, ⟨⟨dx, h1⟩, h2⟩, st_of h2, fun l H' nl sm e => q l H' vs nl sm e (h3.mono (Same.tk sm))⟩
theorem raw_len {C a : Addr} {H : Hp} {Q : VK} {ps : List Pr} (h : PairsAt C H a ps) (z : ps.length ≤ 1000) (q : Q (.int ps.length) H) : rLenOwn C (spLenT (pairsT C)) E0 [.ref a] H Q := by
  obtain ⟨dx, t, vs, h1, h2, h3⟩ := h
  have e := paired_len h3
  refine ⟨a, dx, _, rfl, h1, a, t, vs, rfl, ⟨⟨dx, h1⟩, h2⟩, Nat.le_of_lt (small1000 (by omega)), (vs.length : Int), rfl, by omega, ?_⟩
  rw [e]
  exact q
theorem raw_in {C a : Addr} {H : Hp} {Q : VK} {ps : List Pr} {x : V} {p : Pr} (h : PairsAt C H a ps) (hx : PairV H x p) (gs : ∀ r ∈ ps, GoodP r = true) (gp : GoodP p = true) (q : Q (.bl (decide (p ∈ ps))) H) : rInOwn C (spCont C) E0 x (.ref a) H Q := by
  obtain ⟨dx, t, vs, h1, h2, h3⟩ := id h
  exact ⟨a, dx, _, rfl, h1, a, x, ps, p, rfl, h, hx, gs, gp, _, rfl, q⟩
theorem raw_notIn {C a : Addr} {H : Hp} {Q : VK} {ps : List Pr} {x : V} {p : Pr} (h : PairsAt C H a ps) (hx : PairV H x p) (gs : ∀ r ∈ ps, GoodP r = true) (gp : GoodP p = true) (q : Q (.bl (!decide (p ∈ ps))) H) : rNotInOwn C (spCont C) E0 x (.ref a) H Q := by
  obtain ⟨dx, t, vs, h1, h2, h3⟩ := id h
  exact ⟨a, dx, _, rfl, h1, a, x, ps, p, rfl, h, hx, gs, gp, _, rfl, q⟩

/-! ### InvalidPair(pair) -/
abbrev sIPI : Stmt := inClass (topS 2) 0
theorem scIPI : FnScope ["self", "pair"] ["self", "pair"] (defScope sIPI) := ⟨rfl, rfl, rfl, by decide +kernel, rfl, by decide +kernel, by decide +kernel⟩
theorem ok_ipinit {CO CI f : Addr} {mc : Value} {fd : FuncData} (F : Fun K "__init__" "InvalidPair.__init__" sIPI f fd) (EC : ErrCl K mg CO CI mc) : FnOk P w K mg base CX0 1 f fd ["self", "pair"] (spIPI CI) := by
  refine F.ok scIPI (fun vs H Q E h => ?_) (fun cdv A outer s H vs Q E hr h => ?_)
  · obtain ⟨a, v, rfl, _⟩ := h
    rfl
  · obtain ⟨a, v, rfl, ea, q⟩ := h
    refine ⟨_, (pss_cons (ps_expr (pe_oinit EC.gO EC.rdO EC.vVO (pa_cons (pv 0) (pa_cons pe_str pa_nil))))
      (pss_one (ps_ost (pv 0) (pv 1)))), ?_⟩
    walk_at "kp"
    refine ⟨a, CI, [.str "this is not a tuple of two kinds"], rfl, by decide, EC.T, ea, ?_⟩
    walk_at "kp"
    exact ⟨a, CI, rfl, EC.T, EC.nI, .inl ⟨ea, fun d nd nda => q d nd nda⟩⟩
/-! ### is_pair of any item of the law -/
def spIsItem : Sp := fun vs H Q _ => ∃ v, vs = [v] ∧ ((∃ r, PairV H v r ∧ r ∈ allPairs ∧ Q (.bl true) H) ∨ (∃ b, BadV H v b ∧ Q (.bl false) H))
theorem ok_isitem (At : FnAt K mg "is_pair" sIsPair ["item"]) (B : Blt mg) (GK : GlT K mg "KINDS" kindsV) : OkF P w K mg base CX0 1 "is_pair" ["item"] spIsItem := At.ok fun f fd F => by
  obtain ⟨aK, gK, hK⟩ := GK
  refine F.ok scIsPair (fun vs H Q E h => ?_) (fun cdv A outer s H vs Q E hr h => ?_)
  · obtain ⟨v, rfl, _⟩ := h
    rfl
  · obtain ⟨v, rfl, h⟩ := h
    have hKH := hK H
    refine ⟨_, (pss_one (ps_ret (pe_and (pe_callB (call_isiKK K rfl) (by rfl) B.isinstance (by decide +kernel) (pa_cons (pv 0) (pa_cons (pe_bltn (v := .ty "tuple") (by rfl) B.tuple (by decide +kernel) rfl) pa_nil))) (pe_and (pe_cmpR op_eq (pe_callB (call_lenTK K rfl) (by rfl) B.len (by decide +kernel) (pa_cons (pv 0) pa_nil)) pe_int (nomark _)) (pe_and (pe_cmpR (op_in_seqK K rfl) (pe_ix (ix_tupK K rfl) (pv 0) pe_int (fun _ _ => rfl)) (pe_glob (v := .ref aK) (by rfl) gK (by rfl)) (by rfl)) (pe_one (pe_cmpR (op_in_seqK K rfl) (pe_ix (ix_tupK K rfl) (pv 0) pe_int (fun _ _ => rfl)) (pe_glob (v := .ref aK) (by rfl) gK (by rfl)) (by rfl)))))))), ?_⟩
    rcases h with ⟨r, ⟨t, rfl, ht⟩, hr2, q⟩ | ⟨b, hb, q⟩
    · obtain ⟨k1, k2⟩ := (all_mem r).mp hr2
      walk_at "kp"
      refine ite_ok rfl ?_
      walk_at "kp"
      refine i_ixT (st_of ht) (atI_nat (j := 0) rfl) ?_
      walk_at "kp"
      refine ite_ok k1 ?_
      walk_at "kp"
      refine i_ixT (st_of ht) (atI_nat (j := 1) rfl) ?_
      walk_at "kp"
      rw [k2]
      exact q
    · walk_at "kp"
      refine i_isiBad hb ?_
      walk_at "kp"
      cases hb with
      | @tup t xs e o k =>
        refine ite_ok rfl ?_
        match xs, e, o, k with
        | [], e, _, _ =>
          walk_at "kp"
          exact ite_no rfl q
        | [x], e, _, _ =>
          walk_at "kp"
          exact ite_no rfl q
        | x :: y :: z :: l, e, _, _ =>
          walk_at "kp"
          refine ite_no ?_ q
          simp only [List.map_cons, List.length_cons]
          exact decide_eq_false (by omega)
        | [x, y], e, _, k =>
          have k : (kindB x && kindB y) = false := k
          walk_at "kp"
          refine ite_ok rfl ?_
          walk_at "kp"
          refine i_ixT (st_of e) (atI_nat (j := 0) rfl) ?_
          walk_at "kp"
          cases e1 : kindB x with
          | false => exact ite_no rfl q
          | true =>
            rw [e1] at k
            refine ite_ok rfl ?_
            walk_at "kp"
            refine i_ixT (st_of e) (atI_nat (j := 1) rfl) ?_
            walk_at "kp"
            rw [show kindB y = false from k]
            exact q
      | lst e o => exact ite_no rfl q
      | str o => exact ite_no rfl q
      | non => exact ite_no rfl q
      | seven => exact ite_no rfl q

/-! ### the items that are no pairs -/
def spBad : Sp := fun vs H Q _ => ∃ n : Int, vs = [.int n] ∧ ∀ v b H', Same H H' → BadV H' v b → Q v H'
abbrev sBad : Stmt := topS 16
theorem scBad : FnScope ["number", "menu"] ["number"] (defScope sBad) := ⟨rfl, rfl, rfl, by decide +kernel, rfl, by decide +kernel, by decide +kernel⟩
theorem ok_bad (At : FnAt K mg "_law_bad_pair" sBad ["number"]) (B : Blt mg) : OkF P w K mg base CX0 1 "_law_bad_pair" ["number"] spBad := At.ok fun f fd F => by
  refine F.ok scBad (fun vs H Q E h => ?_) (fun cdv A outer s H vs Q E hr h => ?_)
  · obtain ⟨n, rfl, _⟩ := h
    rfl
  · obtain ⟨n, rfl, q⟩ := h
    refine ⟨_, (pss_cons (ps_set (i := 1) scBad.nd rfl (.inl rfl) (pe_lst (pa_cons (pe_tup (pa_cons pe_str pa_nil)) (pa_cons (pe_tup (pa_cons pe_str (pa_cons pe_str (pa_cons pe_str pa_nil)))) (pa_cons (pe_lst (pa_cons pe_str (pa_cons pe_str pa_nil))) (pa_cons (pe_tup (pa_cons pe_str (pa_cons pe_str pa_nil))) (pa_cons (pe_tup (pa_cons pe_str (pa_cons pe_str pa_nil))) pa_nil)))))))
      (pss_cons (ps_set (i := 1) scBad.nd rfl (.inl rfl) (pe_op op_cat (pv 1) (pe_lst (pa_cons (pe_tup (pa_cons pe_str (pa_cons pe_str pa_nil))) (pa_cons (pe_tup (pa_cons pe_str (pa_cons pe_str pa_nil))) (pa_cons pe_str (pa_cons pe_non (pa_cons pe_int (pa_cons (pe_tup pa_nil) (pa_cons (pe_tup (pa_cons pe_str (pa_cons pe_str pa_nil))) (pa_cons (pe_tup (pa_cons pe_str (pa_cons pe_str pa_nil))) pa_nil)))))))))))
      (pss_one (ps_ret (pe_ix (ix_listK K rfl) (pv 1) (pe_op op_mod (pe_callTy call_intI (by rfl) B.int (by decide +kernel) (pa_cons (pv 0) pa_nil)) pe_int) (fun _ _ => rfl)))))), ?_⟩
    walk_at "kp"
    intro t1 H1 n1 s1 e1
    walk_at "kp"
    intro t2 H2 n2 s2 e2
    walk_at "kp"
    intro t3 H3 n3 s3 e3
    walk_at "kp"
    intro t4 H4 n4 s4 e4
    walk_at "kp"
    intro t5 H5 n5 s5 e5
    walk_at "kp"
    intro m1 H6 n6 s6 e6
    walk_at "kp"
    intro u1 H7 n7 s7 e7
    walk_at "kp"
    intro u2 H8 n8 s8 e8
    walk_at "kp"
    intro u3 H9 n9 s9 e9
    walk_at "kp"
    intro u4 H10 n10 s10 e10
    walk_at "kp"
    intro u5 H11 n11 s11 e11
    walk_at "kp"
    intro m2 H12 n12 s12 e12
    walk_at "kp"
    intro m3 H13 n13 s13 e13
    walk_at "kp"
    have z1 := Int.emod_nonneg n (show (13 : Int) ≠ 0 by decide)
    have z2 := Int.emod_lt_of_pos n (show (0 : Int) < 13 by decide)
    obtain ⟨j, hj⟩ := Int.eq_ofNat_of_zero_le z1
    have hj13 : j < 13 := by omega
    have r11 := s12.trans s13
    have r10 := s11.trans r11
    have r9 := s10.trans r10
    have r8 := s9.trans r9
    have r7 := s8.trans r8
    have r5 := s6.trans (s7.trans r7)
    have r4 := s5.trans r5
    have r3 := s4.trans r4
    have r2 := s3.trans r3
    have r1 := s2.trans r2
    have key : ∃ v b, ([V.ref t1, V.ref t2, V.ref t3, V.ref t4, V.ref t5] ++ [V.ref u1, V.ref u2, V.str "read", V.non, V.int 7, V.ref u3, V.ref u4, V.ref u5])[j]? = some v ∧ BadV H13 v b := by
      match j, hj13 with
      | 0, _ => exact ⟨_, _, rfl, BadV.tup (xs := ["read"]) (r1 _ _ e1) (by decide +kernel) (by decide +kernel)⟩
      | 1, _ => exact ⟨_, _, rfl, BadV.tup (xs := ["read", "write", "read"]) (r2 _ _ e2) (by decide +kernel) (by decide +kernel)⟩
      | 2, _ => exact ⟨_, _, rfl, BadV.lst (xs := ["read", "write"]) (r3 _ _ e3) (by decide +kernel)⟩
      | 3, _ => exact ⟨_, _, rfl, BadV.tup (xs := ["read", "load"]) (r4 _ _ e4) (by decide +kernel) (by decide +kernel)⟩
      | 4, _ => exact ⟨_, _, rfl, BadV.tup (xs := ["Read", "write"]) (r5 _ _ e5) (by decide +kernel) (by decide +kernel)⟩
      | 5, _ => exact ⟨_, _, rfl, BadV.tup (xs := ["read", ""]) (r7 _ _ e7) (by decide +kernel) (by decide +kernel)⟩
      | 6, _ => exact ⟨_, _, rfl, BadV.tup (xs := ["full", "read"]) (r8 _ _ e8) (by decide +kernel) (by decide +kernel)⟩
      | 7, _ => exact ⟨_, _, rfl, BadV.str (by decide +kernel)⟩
      | 8, _ => exact ⟨_, _, rfl, BadV.non⟩
      | 9, _ => exact ⟨_, _, rfl, BadV.seven⟩
      | 10, _ => exact ⟨_, _, rfl, BadV.tup (xs := []) (r9 _ _ e9) (by decide +kernel) (by decide +kernel)⟩
      | 11, _ => exact ⟨_, _, rfl, BadV.tup (xs := ["write", "write "]) (r10 _ _ e10) (by decide +kernel) (by decide +kernel)⟩
      | 12, _ => exact ⟨_, _, rfl, BadV.tup (xs := ["acquires", "read"]) (r11 _ _ e11) (by decide +kernel) (by decide +kernel)⟩
    obtain ⟨v, b, hv, bv⟩ := key
    refine i_ixL (sl_of e13) (at_of (j := j) hj hv) ?_
    exact q v b H13 (s1.trans r1) bv
/-! ### Pairs(..) that raises -/
def spPInitX (K : PySem.W.Frag) (C CI : Addr) : Sp := fun vs H Q E => ∃ (p dx a : Addr) (us : List V) (ps : List Pr) (n : Nat) (v : V) (b : Bool), vs = [.ref p, .ref a] ∧ H p = some (.ins C dx []) ∧ SqL K H a us ∧ us[n]? = some v ∧ BadV H v b ∧ PairsV H (us.take n) ps ∧ (∀ r ∈ ps, r ∈ allPairs) ∧ us.length ≤ 900 ∧
  ∀ d H', H d = none → Same H H' → H' d = some (.xd [("pair", v)]) → E (.ref CI) (some d) H'
def PInXAt (H : Hp) (p a d : Addr) (n : Nat) (i : Nat) (σ : S) (H' : Hp) : Prop := ∃ (x3 : Option V) (kvs : List (List L2.Key × V)), σ = [some (.ref p), some (.ref a), some (.ref d), x3, none, none] ∧ Same H H' ∧ H d = none ∧ H' d = some (.dT kvs) ∧ kvs.length ≤ i ∧ i ≤ n
theorem ok_pinitX {C aE f CO CI : Addr} {mc : Value} {fd : FuncData} (F : FunD K "__init__" "Pairs.__init__" (defArgs sPInit) (defBody sPInit) (defScope sPInit) [.ref aE] [] f fd) (B : Blt mg) (GK : GlT K mg "KINDS" kindsV) (T : PairsCl K mg C) (EC : ErrCl K mg CO CI mc) (EM : EMk P w K mg base 1 CI)
    (Oit : OkF P w K mg base CX0 1 "is_pair" ["item"] spIsItem) : FnOk P w K mg base (L2.CX P w) 4 f fd ["self", "pairs"] (spPInitX K C CI) := by
  obtain ⟨aK, gK, hK⟩ := GK
  obtain ⟨fI, fdI, iC, tI, bI, FI⟩ := EM.ex
  refine F.ok scPInit (fun vs H Q E ⟨_, _, _, _, _, _, _, _, e, _⟩ => by rw [e]; rfl) (fun cdv A outer s H vs Q E hr h => ?_)
  obtain ⟨p, dx, a, us, ps, n, v, b, rfl, hp, hS, hn, bad, hpr, hv, hlen, q⟩ := h
  have hu := hu_of hr
  have hnl : n < us.length := (List.getElem?_eq_some_iff.mp hn).1
  refine ⟨_, (pss_cons (ps_set (i := 2) scPInit.nd rfl (.inr rfl) pe_dnewT)
      (pss_cons (ps_for (passes_of rfl) rfl (pi_list (pv 1)) (pg_name (i := 3) scPInit.nd rfl (.inl rfl))
        (pss_cons (ps_if (pt_not (pt_val (pe_callO Oit (hr.mono (by decide)) (pa_cons (pv 3) pa_nil))))
        (pss_one (ps_raise rfl (takes_of rfl rfl rfl rfl) (pmk_oex EC.T iC tI FI (hr.mono (by decide)) bI .nil pass0 rfl EC.gI (pa_cons (pv 3) pa_nil)))) pss_nil)
      (pss_one (ps_dput hu (pv 2) (pv 3) pe_bl rfl))))
      (pss_one (ps_fld (pv 0) (pe_callTy call_tupL (by rfl) B.tuple (by decide +kernel) (pa_cons (pe_lc2 (own := [("first", 4), ("second", 5)]) (vs1 := [5]) (g := gName 4) (g1 := gName 5) (tt := tYes) (wi1 := (iTup K (tC (.ref aK)))) rfl scPInit.nd (by exact (pi_tup (pe_glob (v := .ref aK) (by rfl) gK (by rfl)))) (blkOk_by (N := ["self", "pairs", "given", "pair", "first", "second"]) (sc := (defScope sPInit)) (by decide +kernel)) (by decide) (fun _ _ _ _ _ => pg_name (i := 4) scPInit.nd rfl (Or.inl rfl)) (fun _ _ _ _ _ => by exact pts_nil) (fun _ _ _ _ _ => by exact (pi_tup (pe_glob (v := .ref aK) (by rfl) gK (by rfl)))) (fun _ _ _ _ _ => pg_name (i := 5) scPInit.nd rfl (Or.inl rfl)) (fun _ _ _ _ _ => by exact (pts_one (pt_cmp (pc_din hu (pe_tup (pa_cons (pv 4) (pa_cons (pv 5) pa_nil))) (pv 2))))) (fun _ _ _ _ _ => by exact (pe_tup (pa_cons (pv 4) (pa_cons (pv 5) pa_nil))))) pa_nil)) rfl)))), ?_⟩
  walk_at "kp"
  intro d H1 nd s1 hd
  walk_at "kp"
  refine raw_fl (s1.seq hS) (PInXAt H p a d n) ⟨_, [], rfl, s1, nd, hd, Nat.le_refl _, Nat.zero_le _⟩ (fun i σ H' _ ⟨_, _, _, sm, _⟩ => sm.seq hS) ?_ ?_
  · rintro i x σ H2 hx ⟨x3, kvs, rfl, sm, nd, ed, kl, hin⟩
    walk_at "kp"
    refine ⟨x, rfl, ?_⟩
    by_cases hi : i = n
    · subst hi
      obtain rfl : x = v := Option.some.inj (hx.symm.trans hn)
      refine .inr ⟨b, bad.mono sm, ?_⟩
      walk_at "kp"
      refine ite_ok rfl ?_
      walk_at "kp"
      refine ⟨Nat.le_of_ble_eq_true rfl, fun ae nae => ⟨ae, x, rfl, upd_same, fun dd ndd nda => ⟨rfl, dd, [("pair", x)], upd_same, by rw [upd_ne nda]; exact upd_same, by rw [upd_ne nda] at ndd; exact ndd, ?_⟩⟩⟩
      rw [upd_ne nda] at ndd
      have nHd : H dd = none := by
        cases e : H dd with
        | none => rfl
        | some o => rw [sm _ _ e] at ndd; cases ndd
      refine q dd _ nHd (fun c o e => ?_) upd_same
      have e2 := sm _ _ e
      have h1 : c ≠ dd := ne_of_none e2 ndd
      have h2 : c ≠ ae := ne_of_none e2 nae
      rw [upd_ne h1, del_ne h2, upd_ne h2, upd_ne h1, upd_ne h2]
      exact e2
    · have hin' : i < n := by omega
      have hx2 : (us.take n)[i]? = some x := by rw [List.getElem?_take, if_pos hin']; exact hx
      obtain ⟨r, hr2, t, rfl, ht⟩ := paired_get hpr hx2
      refine .inl ⟨r, ⟨t, rfl, sm _ _ ht⟩, hv r (List.mem_of_getElem? hr2), ?_⟩
      walk_at "kp"
      refine ite_no rfl ?_
      walk_at "kp"
      refine raw_dputT (k := keyP r) ed (sm _ _ ht) (by omega) ?_
      exact ⟨_, _, rfl, same_own nd sm, nd, upd_same, Nat.le_trans putK_len (by omega), hin'⟩
  · rintro σ H2 ⟨x3, kvs, rfl, sm, nd, ed, kl, hin⟩
    omega

/-! ### the refused -/
/-- which errors are which -/
structure ErrIs (K : PySem.W.Frag) (mg : Str → Option Value) (CO CI CU CB CW : Addr) : Prop where
  gU : mg "UnknownName" = some (.ref CU)
  gB : mg "InvalidBook" = some (.ref CB)
  gR : mg "InvalidRow" = some (.ref CW)
  te : PySem.W.exmOne K (.ref CI) (.ref CI) = some true
  kU : PySem.W.kitOne K (.ref CI) (.ref CU) = some false
  kB : PySem.W.kitOne K (.ref CI) (.ref CB) = some false
  kR : PySem.W.kitOne K (.ref CI) (.ref CW) = some false
  kV : PySem.W.kitOne K (.ref CI) (.type "ValueError") = some true
  kO : PySem.W.kitOne K (.ref CI) (.ref CO) = some true
def spRef (K : PySem.W.Frag) : Sp := fun vs H Q _ => ∃ (a : Addr) (us : List V) (ps : List Pr) (n : Nat) (v : V) (b : Bool), vs = [.ref a] ∧ SqL K H a us ∧ us[n]? = some v ∧ BadV H v b ∧ PairsV H (us.take n) ps ∧ (∀ r ∈ ps, r ∈ allPairs) ∧ us.length ≤ 900 ∧
  ∀ l H', H l = none → Same H H' → H' l = some (.lst [.bl true, v]) → Q (.ref l) H'
/-- Pairs(..) that raises, and what it needs -/
structure PMkX (P : Program) (w : World) (K : PySem.W.Frag) (mg : Str → Option Value) (base : Heap) (k : Nat) (C CI : Addr) : Prop where
  ex : ∃ f fd, Mk K C f ∧ Binds K fd ["self", "pairs"] [] ∧ FnOk P w K mg base (L2.CX P w) k f fd ["self", "pairs"] (spPInitX K C CI)
  gP : mg "Pairs" = some (.ref C)
abbrev sRef : Stmt := topS 17
theorem scRef : FnScope ["given", "e"] ["given"] (defScope sRef) := ⟨rfl, rfl, rfl, by decide +kernel, rfl, by decide +kernel, by decide +kernel⟩
theorem ok_refused {C CO CI CU CB CW : Addr} {mc : Value} (At : FnAt K mg "_law_refused" sRef ["given"]) (B : Blt mg) (EC : ErrCl K mg CO CI mc) (EI : ErrIs K mg CO CI CU CB CW) (OPX : PMkX P w K mg base 4 C CI) : OkF P w K mg base CX0 6 "_law_refused" ["given"] (spRef K) := At.ok fun f fd F => by
  obtain ⟨gU, gB, gR, te, kU, kB, kR, kV, kO⟩ := EI
  obtain ⟨⟨fP, fdP, mkP, bP, F1⟩, gP⟩ := OPX
  refine F.ok scRef (fun vs H Q E h => ?_) (fun cdv A outer s H vs Q E hr h => ?_)
  · obtain ⟨a, us, ps, n, v, b, rfl, _⟩ := h
    rfl
  · obtain ⟨a, us, ps, n, v, b, rfl, hS, hn, bad, pr, hv, hl, q⟩ := h
    refine ⟨_, (pss_cons (ps_try_as (i := 1) (Wout := fun _ _ _ _ => False) rfl rfl scRef.nd rfl rfl ⟨rfl, by decide, Or.inl EC.gI⟩ takes0
   (fun W pn xe tk _ => (pss_one (ps_expr (pe_makeS mkP F1 (hr.mono (by decide)) rfl gP bP .nil (fun σ => passAt tk σ) (pa_cons (pv 0) pa_nil)))))
   (fun a oe cls d pn hz hf => (pss_cons (ps_if (PW.pt (pw_or (pt_val (pe_callB (call_isED hz hf) (by rfl) B.isinstance (by decide +kernel) (pa_cons (pv 1) (pa_cons (pe_glob (v := .ref CU) (by rfl) gU (by rfl)) pa_nil)))) (pw_or (pt_val (pe_callB (call_isED hz hf) (by rfl) B.isinstance (by decide +kernel) (pa_cons (pv 1) (pa_cons (pe_glob (v := .ref CB) (by rfl) gB (by rfl)) pa_nil)))) (pw_or1 (pt_val (pe_callB (call_isED hz hf) (by rfl) B.isinstance (by decide +kernel) (pa_cons (pv 1) (pa_cons (pe_glob (v := .ref CW) (by rfl) gR (by rfl)) pa_nil))))))))
        (pss_one (ps_ret (pe_lst (pa_cons pe_bl (pa_cons pe_non pa_nil))))) pss_nil)
      (pss_one (ps_ret (pe_lst (pa_cons (pe_and (pe_callB (call_isED hz hf) (by rfl) B.isinstance (by decide +kernel) (pa_cons (pv 1) (pa_cons (pe_bltn (v := .ty "ValueError") (by rfl) B.ValueError (by decide +kernel) rfl) pa_nil))) (pe_one (pe_callB (call_isED hz hf) (by rfl) B.isinstance (by decide +kernel) (pa_cons (pv 1) (pa_cons (pe_glob (v := .ref CO) (by rfl) EC.gO (by rfl)) pa_nil))))) (pa_cons (pe_xf EC.X EC.nI hz hf (pv 1)) pa_nil))))))))
      (pss_one (ps_ret (pe_lst (pa_cons pe_bl (pa_cons pe_non pa_nil)))))), ?_⟩
    walk_at "kp"
    intro x dx nx ndx nex
    have s0 : Same H (upd (upd H dx (.own x)) x (.ins C dx [])) := fun b o e => by
      rw [upd_ne (ne_of_none e nx), upd_ne (ne_of_none e ndx)]
      exact e
    refine ⟨x, dx, a, us, ps, n, v, b, rfl, upd_same, s0.seq hS, hn, bad.mono s0, pr.mono (Same.tk s0), hv, hl, fun d H' nd s1 ed => ?_⟩
    refine ⟨true, te, fun _ ae nae => ?_, fun z => Bool.noConfusion z⟩
    walk_at "kp"
    refine i_isED ed EC.D (.own _) kU ?_
    walk_at "kp"
    refine i_isED ed EC.D (.own _) kB ?_
    walk_at "kp"
    refine i_isED ed EC.D (.own _) kR ?_
    walk_at "kp"
    refine i_isED ed EC.D (.ty _) kV ?_
    walk_at "kp"
    refine i_isED ed EC.D (.own _) kO ?_
    walk_at "kp"
    refine ⟨rfl, rfl, d, _, v, rfl, ed, rfl, ?_⟩
    walk_at "kp"
    intro l H2 nl s2 el
    walk_at "kp"
    refine q l H2 ?_ ((s0.trans s1).trans s2) el
    exact (s0.trans s1).free nl
/-! ### Pairs.product -/
def spProd (K : PySem.W.Frag) (C : Addr) : Sp := fun vs H Q _ => ∃ (a b : Addr) (fs ss : List Str), vs = [.ref a, .ref b] ∧ (SqL K H a (fs.map V.str) ∨ SqT K H a (fs.map V.str)) ∧ SqT K H b (ss.map V.str) ∧ (∀ x ∈ fs, kindB x = true) ∧ (∀ x ∈ ss, kindB x = true) ∧ fs.length ≤ 8 ∧ ss.length ≤ 8 ∧
  ∀ x H', H x = none → Same H H' → PairsAt C H' x (norm (prodP fs ss)) → Q (.ref x) H'
abbrev sProd : Stmt := inClass (topS 11) 1
theorem scProd : FnScope ["firsts", "seconds", "first", "second"] ["firsts", "seconds"] (defScope sProd) := ⟨rfl, rfl, rfl, by decide +kernel, rfl, by decide +kernel, by decide +kernel⟩
theorem ok_prod {C aE : Addr} (At : SmAt K mg "Pairs" "product" "Pairs.product" sProd ["firsts", "seconds"]) (B : Blt mg) (OPairs : PMk P w K mg base 2 C aE (spPInit K C)) : OkS P w K mg base CX0 4 "Pairs" "product" ["firsts", "seconds"] (spProd K C) := At.ok fun f fd F => by
  refine F.ok scProd (fun vs H Q E h => ?_) (fun cdv A outer s H vs Q E hr h => ?_)
  · obtain ⟨a, b, fs, ss, rfl, _⟩ := h
    rfl
  · obtain ⟨a, b, fs, ss, rfl, hF, hT, kF, kT, lF, lT, q⟩ := h
    have big : (fs.map V.str).length * (ss.map V.str).length ≤ 1000 := by
      rw [List.length_map, List.length_map]
      exact Nat.le_trans (Nat.mul_le_mul lF lT) (by decide)
    have goodAll : ∀ r ∈ prodP fs ss, r ∈ allPairs := fun r h => (all_mem r).mpr ⟨kF _ (prodP_mem.mp h).1, kT _ (prodP_mem.mp h).2⟩
    have lenAll : (prodP fs ss).length ≤ 900 := by rw [prodP_len]; exact Nat.le_trans (Nat.mul_le_mul lF lT) (by decide)
    rcases hF with hF | hF
    · refine ⟨_, (pss_one (ps_ret (pe_makeP OPairs (hr.mono (by decide)) (pa_cons (pe_lc2 (own := [("first", 2), ("second", 3)]) (vs1 := [3]) (g := gName 2) (g1 := gName 3) (tt := tYes) (wi1 := (iTup K (tVar 1))) (tt1 := tYes) rfl scProd.nd (by exact (pi_list (pv 0))) (blkOk_by (N := ["firsts", "seconds", "first", "second"]) (sc := (defScope sProd)) (by decide +kernel)) (by decide) (fun _ _ _ _ _ => pg_name (i := 2) scProd.nd rfl (Or.inl rfl)) (fun _ _ _ _ _ => by exact pts_nil) (fun _ _ _ _ _ => by exact (pi_tup (pv 1))) (fun _ _ _ _ _ => pg_name (i := 3) scProd.nd rfl (Or.inl rfl)) (fun _ _ _ _ _ => by exact pts_nil) (fun _ _ _ _ _ => by exact (pe_tup (pa_cons (pv 2) (pa_cons (pv 3) pa_nil))))) pa_nil)))), ?_⟩
      walk_at "kp"
      refine ⟨a, rfl, ⟨_, hF⟩, raw_lc2 (G := fun H => SqL K H a (fs.map V.str)) (G1 := fun H => SqT K H b (ss.map V.str)) walk_list big (fun H' s => s.seq hF) (fun i j acc H' => PairsV H' acc (prodAt fs ss i j)) (fun i j acc H H' k h => h.mono k) (by rw [prodAt_zero]; exact .nil) (fun i acc H' h => by rw [List.length_map, prodAt_next] at h; exact h) (fun H' s => SqT.ext hT s) (fun x => rfl) (fun x H' s => inner_tupV rfl (SqT.ext hT s)) ?_ ?_⟩
      · rintro i j x y acc H3 hx hy s3 pr Y N hY hN
        obtain ⟨z, hz, rfl⟩ := str_at hx
        obtain ⟨z2, hz2, rfl⟩ := str_at hy
        refine ⟨rfl, ?_⟩
        walk_at "kp"
        intro t H4 nt s4 ht
        walk_at "kp"
        refine hY _ H4 s4 ?_
        show PairsV H4 (acc ++ [V.ref t]) (prodAt fs ss i (j + 1))
        rw [prodAt_snoc hz hz2]
        exact paired_snoc (pr.mono (Same.tk s4)) ⟨t, rfl, ht⟩
      · rintro Dl acc H3 nD s3 eD pr
        rw [List.length_map, prodAt_end] at pr
        walk_at "kp"
        refine raw_mkP (.inl (sl_of eD)) pr goodAll lenAll fun m H4 nm s4 am => ?_
        exact q m H4 (s3.free nm) (s3.trans s4) am
    · refine ⟨_, (pss_one (ps_ret (pe_makeP OPairs (hr.mono (by decide)) (pa_cons (pe_lc2 (own := [("first", 2), ("second", 3)]) (vs1 := [3]) (g := gName 2) (g1 := gName 3) (tt := tYes) (wi1 := (iTup K (tVar 1))) (tt1 := tYes) rfl scProd.nd (by exact (pi_tup (pv 0))) (blkOk_by (N := ["firsts", "seconds", "first", "second"]) (sc := (defScope sProd)) (by decide +kernel)) (by decide) (fun _ _ _ _ _ => pg_name (i := 2) scProd.nd rfl (Or.inl rfl)) (fun _ _ _ _ _ => by exact pts_nil) (fun _ _ _ _ _ => by exact (pi_tup (pv 1))) (fun _ _ _ _ _ => pg_name (i := 3) scProd.nd rfl (Or.inl rfl)) (fun _ _ _ _ _ => by exact pts_nil) (fun _ _ _ _ _ => by exact (pe_tup (pa_cons (pv 2) (pa_cons (pv 3) pa_nil))))) pa_nil)))), ?_⟩
      walk_at "kp"
      refine ⟨a, rfl, ⟨_, hF⟩, raw_lc2 (G := fun H => SqT K H a (fs.map V.str)) (G1 := fun H => SqT K H b (ss.map V.str)) walk_tup big (fun H' s => SqT.ext hF s) (fun i j acc H' => PairsV H' acc (prodAt fs ss i j)) (fun i j acc H H' k h => h.mono k) (by rw [prodAt_zero]; exact .nil) (fun i acc H' h => by rw [List.length_map, prodAt_next] at h; exact h) (fun H' s => SqT.ext hT s) (fun x => rfl) (fun x H' s => inner_tupV rfl (SqT.ext hT s)) ?_ ?_⟩
      · rintro i j x y acc H3 hx hy s3 pr Y N hY hN
        obtain ⟨z, hz, rfl⟩ := str_at hx
        obtain ⟨z2, hz2, rfl⟩ := str_at hy
        refine ⟨rfl, ?_⟩
        walk_at "kp"
        intro t H4 nt s4 ht
        walk_at "kp"
        refine hY _ H4 s4 ?_
        show PairsV H4 (acc ++ [V.ref t]) (prodAt fs ss i (j + 1))
        rw [prodAt_snoc hz hz2]
        exact paired_snoc (pr.mono (Same.tk s4)) ⟨t, rfl, ht⟩
      · rintro Dl acc H3 nD s3 eD pr
        rw [List.length_map, prodAt_end] at pr
        walk_at "kp"
        refine raw_mkP (.inl (sl_of eD)) pr goodAll lenAll fun m H4 nm s4 am => ?_
        exact q m H4 (s3.free nm) (s3.trans s4) am

/-! ### the law -/
def spLaw (K : PySem.W.Frag) : Sp := fun vs H Q _ => ∃ (a : Addr) (ns : List Int), vs = [.ref a] ∧ SqL K H a (ns.map V.int) ∧ ns.length ≤ 63 ∧ ∀ H', Q (.bl true) H'
abbrev sLaw : Stmt := topS 18
theorem scLaw : FnScope ["script", "draws", "good", "k", "bad", "place", "given", "told", "firsts", "seconds", "due", "pair"] ["script"] (defScope sLaw) := ⟨rfl, rfl, rfl, by decide +kernel, rfl, by decide +kernel, by decide +kernel⟩
def GoodAt (H0 : Hp) (a d g : Addr) (i : Nat) (σ : S) (H' : Hp) : Prop := ∃ (x3 : Option V) (us : List V) (ps : List Pr), σ = [some (.ref a), some (.ref d), some (.ref g), x3, none, none, none, none, none, none, none, none] ∧ Same H0 H' ∧ H0 g = none ∧ H' g = some (.lst us) ∧ PairsV H' us ps ∧ (∀ r ∈ ps, r ∈ allPairs) ∧ ps.length = i
def StrsAt (i : Nat) (acc : List V) (H' : Hp) : Prop := ∃ fs : List Str, acc = fs.map V.str ∧ fs.length = i ∧ ∀ x ∈ fs, kindB x = true
theorem ok_law {C aE f : Addr} {fd : FuncData} (F : Fun K "law" "law" sLaw f fd) (B : Blt mg) (GK : GlT K mg "KINDS" kindsV) (GR : GlT K mg "READS" (List.map V.str ["read", "acquire"])) (GW : GlT K mg "WRITES" (List.map V.str ["write", "release"])) (Odraws : OkF P w K mg base CX0 1 "_law_draws" ["script", "k", "count"] (spDraws K)) (Okinds : OkF P w K mg base CX0 1 "_law_kinds" [] spKinds) (Oall : OkF P w K mg base CX0 2 "_law_all_pairs" [] spAll)
    (Obad : OkF P w K mg base CX0 1 "_law_bad_pair" ["number"] spBad) (Oref : OkF P w K mg base CX0 6 "_law_refused" ["given"] (spRef K)) (Oprod : OkS P w K mg base CX0 4 "Pairs" "product" ["firsts", "seconds"] (spProd K C)) (OPairs : PMk P w K mg base 2 C aE (spPInit K C))
    (Olen : OkM P w K mg base CX0 1 C "__len__" ["self"] (spLenT (pairsT C))) (Oiter : OkM P w K mg base CX0 1 C "__iter__" ["self"] (spIterT K (pairsT C))) : FnOk P w K mg base CX0 10 f fd ["script"] (spLaw K) := by
  obtain ⟨aK, gK, hK⟩ := GK
  obtain ⟨aR, gR, hR⟩ := GR
  obtain ⟨aW, gW, hW⟩ := GW
  refine F.ok scLaw (fun vs H Q E h => ?_) (fun cdv A outer s H vs Q E hr h => ?_)
  · obtain ⟨a, ns, rfl, _⟩ := h
    rfl
  · obtain ⟨a, ns, rfl, hS, hlen, q⟩ := h
    refine ⟨_, (pss_cons (ps_set (i := 1) scLaw.nd rfl (.inr rfl) (pe_callO Odraws (hr.mono (by decide)) (pa_cons (pv 0) (pa_cons pe_int (pa_cons pe_int pa_nil)))))
      (pss_cons (ps_set (i := 2) scLaw.nd rfl (.inr rfl) (pe_lst pa_nil))
      (pss_cons (ps_for PassesOwn.never rfl (pi_range1 rfl B.range (pa_cons (pe_op op_mod (pe_ix (ix_listK K rfl) (pv 1) pe_int (fun _ _ => rfl)) pe_int) pa_nil)) (pg_name (i := 3) scLaw.nd rfl (.inl rfl))
        (pss_one (ps_expr (pe_bm PySem.F.plainAttrs_list PySem.F.slot_list_append PySem.F.type_list_append mt_append (pv 2) (pa_cons (pe_ix (ix_listK K rfl) (pe_callO0 Oall (hr.mono (by decide))) (pe_op op_mod (pe_ix (ix_listK K rfl) (pv 1) (pe_op op_add pe_int (pv 3)) (fun _ _ => rfl)) pe_int) (fun _ _ => rfl)) pa_nil)))))
      (pss_cons (ps_set (i := 4) scLaw.nd rfl (.inl rfl) (pe_callO Obad (hr.mono (by decide)) (pa_cons (pe_ix (ix_listK K rfl) (pv 1) pe_int (fun _ _ => rfl)) pa_nil)))
      (pss_cons (ps_set (i := 5) scLaw.nd rfl (.inl rfl) (pe_op op_mod (pe_ix (ix_listK K rfl) (pv 1) pe_int (fun _ _ => rfl)) (pe_op op_add (pe_callB (call_lenLK K rfl) (by rfl) B.len (by decide +kernel) (pa_cons (pv 2) pa_nil)) pe_int)))
      (pss_cons (ps_set (i := 6) scLaw.nd rfl (.inl rfl) (pe_op op_cat (pe_slice (sl_listK K rfl) (pv 2) po_none (po_some (pv 5))) (pe_lst (pa_cons (pv 4) pa_nil))))
      (Evl.pss_cut (ps_if (pt_cmpR op_eq (pe_op op_mod (pe_ix (ix_listK K rfl) (pv 1) pe_int (fun _ _ => rfl)) pe_int) pe_int (nomark _))
        (pss_one (ps_set (i := 6) scLaw.nd rfl (.inl rfl) (pe_op op_cat (pv 6) (pe_lst (pa_cons (pe_callO Obad (hr.mono (by decide)) (pa_cons (pe_ix (ix_listK K rfl) (pv 1) pe_int (fun _ _ => rfl)) pa_nil)) pa_nil))))) pss_nil)
      (pss_cons (ps_set (i := 6) scLaw.nd rfl (.inl rfl) (pe_op op_cat (pv 6) (pe_slice (sl_listK K rfl) (pv 2) (po_some (pv 5)) po_none)))
      (pss_cons (ps_set (i := 7) scLaw.nd rfl (.inl rfl) (pe_callO Oref (hr.mono (by decide)) (pa_cons (pe_callTy (call_listLK K rfl) (by rfl) B.list (by decide +kernel) (pa_cons (pv 6) pa_nil)) pa_nil)))
      (pss_cons (ps_if (PW.pt (pw_or (pt_not (pt_val (pe_ix (ix_listK K rfl) (pv 7) pe_int (fun _ _ => rfl)))) (pw_or (pt_cmpR (op_neDK K rfl hr.units) (pe_ix (ix_listK K rfl) (pv 7) pe_int (fun _ _ => rfl)) (pv 4) (nomark _)) (pw_or1 (pt_cmpR op_ne (pe_callB (call_isiKK K rfl) (by rfl) B.isinstance (by decide +kernel) (pa_cons (pe_ix (ix_listK K rfl) (pv 7) pe_int (fun _ _ => rfl)) (pa_cons (pe_bltn (v := .ty "tuple") (by rfl) B.tuple (by decide +kernel) rfl) pa_nil))) (pe_callB (call_isiKK K rfl) (by rfl) B.isinstance (by decide +kernel) (pa_cons (pv 4) (pa_cons (pe_bltn (v := .ty "tuple") (by rfl) B.tuple (by decide +kernel) rfl) pa_nil))) (nomark _))))))
        (pss_one (ps_ret pe_bl)) pss_nil)
      (pss_cons (ps_if (pt_cmpR op_ne (pe_callB (call_lenM Olen (hr.mono (by decide))) (by rfl) B.len (by decide +kernel) (pa_cons (pe_makeP OPairs (hr.mono (by decide)) (pa_cons (pv 2) pa_nil)) pa_nil)) (pe_callB (call_lenLK K rfl) (by rfl) B.len (by decide +kernel) (pa_cons (pe_lc (own := [("pair", 11)]) (g := gName 11) rfl scLaw.nd (by exact (pi_list (pe_callO0 Oall (hr.mono (by decide))))) (blkOk_by (N := ["script", "draws", "good", "k", "bad", "place", "given", "told", "firsts", "seconds", "due", "pair"]) (sc := (defScope sLaw)) (by decide +kernel)) (fun _ _ _ _ _ => pg_name (i := 11) scLaw.nd rfl (Or.inl rfl)) (fun _ _ _ _ _ => by exact (pts_one (pt_cmpR (op_inDK K rfl hr.units1) (pv 11) (pv 2) (by rfl)))) (fun _ _ _ _ _ => by exact (pv 11))) pa_nil)) (nomark _))
        (pss_one (ps_ret pe_bl)) pss_nil)
      (pss_cons (ps_set (i := 8) scLaw.nd rfl (.inr rfl) (pe_lc (own := [("k", 3)]) (g := gName 3) (tt := tYes) rfl scLaw.nd (by exact (pi_range1 rfl B.range (pa_cons (pe_op op_mod (pe_ix (ix_listK K rfl) (pv 1) pe_int (fun _ _ => rfl)) pe_int) pa_nil))) (blkOk_by (N := ["script", "draws", "good", "k", "bad", "place", "given", "told", "firsts", "seconds", "due", "pair"]) (sc := (defScope sLaw)) (by decide +kernel)) (fun _ _ _ _ _ => pg_name (i := 3) scLaw.nd rfl (Or.inl rfl)) (fun _ _ _ _ _ => by exact pts_nil) (fun _ _ _ _ _ => by exact (pe_ix (ix_listK K rfl) (pe_callO0 Okinds (hr.mono (by decide))) (pe_op op_mod (pe_ix (ix_listK K rfl) (pv 1) (pe_op op_add pe_int (pv 3)) (fun _ _ => rfl)) pe_int) (fun _ _ => rfl)))))
      (pss_cons (ps_set (i := 9) scLaw.nd rfl (.inr rfl) (pe_lc (own := [("k", 3)]) (g := gName 3) (tt := tYes) rfl scLaw.nd (by exact (pi_range1 rfl B.range (pa_cons (pe_op op_mod (pe_ix (ix_listK K rfl) (pv 1) pe_int (fun _ _ => rfl)) pe_int) pa_nil))) (blkOk_by (N := ["script", "draws", "good", "k", "bad", "place", "given", "told", "firsts", "seconds", "due", "pair"]) (sc := (defScope sLaw)) (by decide +kernel)) (fun _ _ _ _ _ => pg_name (i := 3) scLaw.nd rfl (Or.inl rfl)) (fun _ _ _ _ _ => by exact pts_nil) (fun _ _ _ _ _ => by exact (pe_ix (ix_listK K rfl) (pe_callO0 Okinds (hr.mono (by decide))) (pe_op op_mod (pe_ix (ix_listK K rfl) (pv 1) (pe_op op_add pe_int (pv 3)) (fun _ _ => rfl)) pe_int) (fun _ _ => rfl)))))
      (pss_cons (ps_setLc (i := 10) (own := [("pair", 11)]) (g := gName 11) rfl scLaw.nd rfl rfl (sw_true rfl rfl rfl (by decide +kernel)) (by exact (pi_list (pe_callO0 Oall (hr.mono (by decide))))) (blkOk_by (N := ["script", "draws", "good", "k", "bad", "place", "given", "told", "firsts", "seconds", "due", "pair"]) (sc := (defScope sLaw)) (by decide +kernel)) (fun _ _ _ _ _ => pg_name (i := 11) scLaw.nd rfl (Or.inl rfl)) (fun _ _ _ _ _ => by exact (pts_one (PW.pt (pw_and (pt_cmpR (op_in_seqK K rfl) (pe_ix (ix_tupK K rfl) (pv 11) pe_int (fun _ _ => rfl)) (pv 8) (by rfl)) (pw_and1 (pt_cmpR (op_in_seqK K rfl) (pe_ix (ix_tupK K rfl) (pv 11) pe_int (fun _ _ => rfl)) (pv 9) (by rfl))))))) (fun _ _ _ _ _ => by exact (pv 11)))
      (pss_cons (ps_if (PW.pt (pw_or (pt_cmpR (op_neDK K rfl hr.units) (pe_callTy (call_listM Oiter Olen pairsT_mono (hr.mono (by decide))) (by rfl) B.list (by decide +kernel) (pa_cons (pe_sm Oprod (hr.mono (by decide)) (pa_cons (pv 8) (pa_cons (pe_callTy call_tupL (by rfl) B.tuple (by decide +kernel) (pa_cons (pv 9) pa_nil)) pa_nil))) pa_nil)) (pv 10) (nomark _)) (pw_or1 (pt_cmpR (op_neDK K rfl hr.units) (pe_callTy (call_listM Oiter Olen pairsT_mono (hr.mono (by decide))) (by rfl) B.list (by decide +kernel) (pa_cons (pe_sm Oprod (hr.mono (by decide)) (pa_cons (pe_glob (v := .ref aK) (by rfl) gK (by rfl)) (pa_cons (pe_glob (v := .ref aK) (by rfl) gK (by rfl)) pa_nil))) pa_nil)) (pe_callO0 Oall (hr.mono (by decide))) (nomark _)))))
        (pss_one (ps_ret pe_bl)) pss_nil)
      (pss_one (ps_ret (pe_and (pe_cmpR (op_eqDK K rfl hr.units) (pe_glob (v := .ref aK) (by rfl) gK (by rfl)) (pe_callTy call_tupL (by rfl) B.tuple (by decide +kernel) (pa_cons (pe_callO0 Okinds (hr.mono (by decide))) pa_nil)) (nomark _)) (pe_and (pe_cmpR (op_eqDK K rfl hr.units) (pe_glob (v := .ref aR) (by rfl) gR (by rfl)) (pe_tup (pa_cons pe_str (pa_cons pe_str pa_nil))) (nomark _)) (pe_one (pe_cmpR (op_eqDK K rfl hr.units) (pe_glob (v := .ref aW) (by rfl) gW (by rfl)) (pe_tup (pa_cons pe_str (pa_cons pe_str pa_nil))) (nomark _)))))))))))))))))))))), ?_⟩
    walk_at "kp"
    refine ⟨a, ns, 0, 24, rfl, hS, by decide, by decide, by decide, by decide, fun ds H1 d hdl hd s1 nd ed => ?_⟩
    have hdl' : ds.length = 24 := by omega
    have lD : SqL K H1 d (ds.map V.int) := sl_of ed
    walk_at "kp"
    intro g H2 ng s2 eg
    walk_at "kp"
    have b0 := nth_ok (i := Int.toNat 0) hd
    have b18 := nth_ok (i := Int.toNat 18) hd
    have b23 := nth_ok (i := Int.toNat 23) hd
    refine raw_r1 (by omega) (by omega) (GoodAt H1 a d g) ⟨_, [], [], rfl, s2, ng, eg, .nil, (fun _ h => nomatch h), rfl⟩ ?_ ?_
    · rintro n σ H3 hn ⟨x3, us, ps, rfl, sm, ng, eg, pr, hv, hl⟩
      have lus := paired_len pr
      walk_at "kp"
      refine ⟨rfl, fun p H4 vs np s4 ep pr4 => ?_⟩
      walk_at "kp"
      obtain ⟨v, r, hv2, pv, hr2⟩ := all_get (j := nth ds (1 + (n : Int)).toNat % 16) (by omega) (by omega) pr4
      refine i_ixL (sl_of ep) hv2 ?_
      walk_at "kp"
      have e4 := s4 _ _ eg
      have tk := tk_upd (o' := .lst (us ++ [v])) e4 fun xs z => nomatch z
      refine ⟨_, us ++ [v], ps ++ [r], rfl, same_own ng (sm.trans s4), ng, upd_same, paired_snoc ((pr.mono (Same.tk s4)).mono tk) (pv.mono tk), fun r' h => ?_, by simp [hl]⟩
      rcases List.mem_append.mp h with h | h
      · exact hv r' h
      · rw [List.mem_singleton.mp h]; exact hr2
    · rintro n σ H3 hn ⟨x3, us, ps, rfl, sm, ng, eg, pr, hv, hl⟩
      have lus := paired_len pr
      have good : ∀ r ∈ ps, GoodP r = true := fun r h => good_all r (hv r h)
      walk_at "kp"
      refine ⟨_, rfl, fun v b H4 s4 bv => ?_⟩
      have eg4 := s4 _ _ eg
      walk_at "kp"
      have pl0 := Int.emod_nonneg (nth ds (Int.toNat 11)) (show ((us.length : Int) + 1) ≠ 0 by omega)
      have pl1 := Int.emod_lt_of_pos (nth ds (Int.toNat 11)) (show (0 : Int) < (us.length : Int) + 1 by omega)
      generalize nth ds (Int.toNat 11) % ((us.length : Int) + 1) = pl at *
      obtain ⟨m, rfl⟩ := Int.eq_ofNat_of_zero_le pl0
      have hm : m ≤ us.length := by omega
      have etm : (Int.ofNat m).toNat = m := rfl
      refine raw_slTo (sl_of eg4) pl0 (by omega) fun p1 H5 np1 s5 ep1 => ?_
      have ltm : (us.take m).length = m := by rw [List.length_take, Nat.min_eq_left hm]
      walk_at "kp"
      intro p2 H6 np2 s6 ep2
      walk_at "kp"
      refine i_catL (s6 _ _ ep1) ep2 (by show (us.take m).length + 1 ≤ 1000; omega) fun p3 H7 np3 s7 ep3 => ?_
      walk_at "kp"
      have k7 : Same H4 H7 := s5.trans (s6.trans s7)
      refine i_cut (fun σ' H' => ∃ l ext, σ' = [some (.ref a), some (.ref d), some (.ref g), x3, some v, some (.int m), some (.ref l), none, none, none, none, none] ∧ Same H7 H' ∧ H' l = some (.lst (us.take m ++ (v :: ext))) ∧ ext.length ≤ 1) ?_ ?_
      · walk_at "kp"
        refine ite2 (fun _ => ?_) (fun _ => ⟨p3, [], rfl, Same.refl _, ep3, Nat.zero_le _⟩)
        walk_at "kp"
        refine ⟨_, rfl, fun v2 b2 H8 s8 bv2 => ?_⟩
        walk_at "kp"
        intro p4 H9 np4 s9 ep4
        walk_at "kp"
        refine i_catL (s9 _ _ (s8 _ _ ep3)) ep4 (by show (us.take m ++ [v]).length + 1 ≤ 1000; rw [List.length_append, ltm]; simp; omega) fun p5 H10 np5 s10 ep5 => ?_
        walk_at "kp"
        exact ⟨p5, [v2], rfl, s8.trans (s9.trans s10), by rw [ep5]; simp, Nat.le_refl _⟩
      · rintro σ' H8 ⟨l, ext, rfl, s8, el, hext⟩
        have k8 : Same H4 H8 := k7.trans s8
        walk_at "kp"
        refine raw_slFrom (sl_of (k8 _ _ eg4)) pl0 (by omega) fun q1 H9 nq1 s9 eq1 => ?_
        walk_at "kp"
        refine i_catL (s9 _ _ el) eq1 (by rw [List.length_append, ltm, List.length_cons, List.length_drop]; omega) fun q2 H10 nq2 s10 eq2 => ?_
        walk_at "kp"
        intro q3 H11 nq3 s11 eq3
        have k11 : Same H4 H11 := k8.trans (s9.trans (s10.trans s11))
        have pr11 := pr.mono (Same.tk (s4.trans k11))
        walk_at "kp"
        refine ⟨q3, us.take m ++ (v :: ext) ++ us.drop m, ps.take m, m, v, b, rfl, sl_of eq3, mid_at hm, bv.mono k11, by rw [mid_take hm]; exact paired_take m pr11, fun r h => hv r (List.mem_of_mem_take h), by rw [List.length_append, List.length_append, ltm, List.length_cons, List.length_drop]; omega, fun t H12 nt s12 et => ?_⟩
        have k12 : Same H4 H12 := k11.trans s12
        have bv12 := bv.mono k12
        have eg12 := k12 _ _ eg4
        have pr12 := pr11.mono (Same.tk s12)
        walk_at "kp"
        refine i_ixL (sl_of et) (atI_nat (j := 0) rfl) ?_
        walk_at "kp"
        refine ite_no rfl ?_
        walk_at "kp"
        refine i_ixL (sl_of et) (atI_nat (j := 1) rfl) ?_
        walk_at "kp"
        refine i_neBad bv12 ?_
        walk_at "kp"
        refine i_ixL (sl_of et) (atI_nat (j := 1) rfl) ?_
        walk_at "kp"
        refine i_isiBad bv12 ?_
        walk_at "kp"
        refine i_isiBad bv12 ?_
        walk_at "kp"
        refine ite_no (by simp) ?_
        walk_at "kp"
        refine raw_mkP (.inl (sl_of eg12)) pr12 hv (by omega) fun x H13 nx s13 am => ?_
        walk_at "kp"
        refine raw_len am (Nat.le_trans (norm_len ps) (by decide)) ?_
        walk_at "kp"
        refine ⟨rfl, fun y H14 ws ny s14 ey pry => ?_⟩
        have eg14 := s14 _ _ (s13 _ _ eg12)
        have pr14 := pr12.mono (Same.tk (s13.trans s14))
        refine lc_filter (fun r => decide (r ∈ ps)) (sl_of ey) pry (by decide) ?_ fun z w0 H15 nz s15 ez prz => ?_
        · rintro i x' r H' Y N hx hr7 pv s' hY hN
          refine ⟨rfl, ?_⟩
          walk_at "kp"
          refine i_inPL pv ⟨us, sl_of (s' _ _ eg14), pr14.mono (Same.tk s')⟩ (good_all r (List.mem_of_getElem? hr7)) good ?_
          walk_at "kp"
          refine ite2 (fun hm2 => ?_) (fun hm2 => hN (by simpa using hm2) H' (Same.refl _))
          walk_at "kp"
          exact hY hm2 H' (Same.refl _)
        · have lw : w0.length = (norm ps).length := paired_len prz
          walk_at "kp"
          refine ite_no (by rw [lw]; simp) ?_
          walk_at "kp"
          have k15 : Same H1 H15 := sm.trans (s4.trans (k12.trans (s13.trans (s14.trans s15))))
          refine raw_lcR (by omega) (by omega) (fun i acc H' => StrsAt i acc H') (fun i acc H H' k h => h) ⟨[], rfl, rfl, fun _ h => nomatch h⟩ ?_ ?_
          · rintro i acc H16 hi s16 ⟨fs, rfl, hfl, hfk⟩ Y N hY hN
            refine ⟨rfl, ?_⟩
            have k16 := k15.trans s16
            walk_at "kp"
            refine ⟨rfl, fun p H17 np s17 ep => ?_⟩
            walk_at "kp"
            obtain ⟨c, hc, kc⟩ := kind_get (j := nth ds (14 + (i : Int)).toNat % 4) (by omega) (by omega)
            refine i_ixL (sl_of ep) hc ?_
            exact hY _ H17 s17 ⟨fs ++ [c], by simp, by simp [hfl], fun x hx => by
              rcases List.mem_append.mp hx with h | h
              · exact hfk x h
              · rw [List.mem_singleton.mp h]; exact kc⟩
          · rintro fa acc H16 nfa s16 efa ⟨fs, rfl, hfl, hfk⟩
            walk_at "kp"
            have k16 := k15.trans s16
            refine raw_lcR (by omega) (by omega) (fun i acc H' => StrsAt i acc H') (fun i acc H H' k h => h) ⟨[], rfl, rfl, fun _ h => nomatch h⟩ ?_ ?_
            · rintro i acc H17 hi s17 ⟨ss, rfl, hsl, hsk⟩ Y N hY hN
              refine ⟨rfl, ?_⟩
              have k17 := k16.trans s17
              walk_at "kp"
              refine ⟨rfl, fun p H18 np s18 ep => ?_⟩
              walk_at "kp"
              obtain ⟨c, hc, kc⟩ := kind_get (j := nth ds (19 + (i : Int)).toNat % 4) (by omega) (by omega)
              refine i_ixL (sl_of ep) hc ?_
              exact hY _ H18 s18 ⟨ss ++ [c], by simp, by simp [hsl], fun x hx => by
                rcases List.mem_append.mp hx with h | h
                · exact hsk x h
                · rw [List.mem_singleton.mp h]; exact kc⟩
            · rintro sa acc2 H17 nsa s17 esa ⟨ss, rfl, hsl, hsk⟩
              have k17 := k16.trans s17
              have efa := s17 _ _ efa
              have lfs : fs.length ≤ 8 := by omega
              have lss : ss.length ≤ 8 := by omega
              walk_at "kp"
              refine ⟨rfl, fun y2 H18 us2 ny2 s18 ey2 pry2 => ?_⟩
              have efa := s18 _ _ efa
              have esa := s18 _ _ esa
              refine lc_filter (fun r => decide (r.1 ∈ fs) && decide (r.2 ∈ ss)) (sl_of ey2) pry2 (by decide) ?_ fun due wd H19 nd2 s19 edue prd => ?_
              · rintro i x' r H' Y N hx hr7 pv s' hY hN
                obtain ⟨tt, rfl, ett⟩ := id pv
                refine ⟨rfl, ?_⟩
                walk_at "kp"
                refine i_ixT (st_of ett) (atI_nat (j := 0) rfl) ?_
                walk_at "kp"
                refine i_inStrs (sl_of (s' _ _ efa)) ?_
                walk_at "kp"
                refine ite2 (fun h1 => ?_) (fun h1 => ?_)
                · walk_at "kp"
                  refine i_ixT (st_of ett) (atI_nat (j := 1) rfl) ?_
                  walk_at "kp"
                  refine i_inStrs (sl_of (s' _ _ esa)) ?_
                  walk_at "kp"
                  refine ite2 (fun h2 => ?_) (fun h2 => ?_)
                  · walk_at "kp"
                    exact hY (by rw [h1, h2]; rfl) H' (Same.refl _)
                  · exact hN (by rw [Bool.not_eq_true] at h2; rw [h2, Bool.and_false]) H' (Same.refl _)
                · walk_at "kp"
                  exact hN (by rw [Bool.not_eq_true] at h1; rw [h1, Bool.false_and]) H' (Same.refl _)
              · walk_at "kp"
                intro tp H20 ntp s20 etp
                walk_at "kp"
                refine ⟨fa, tp, fs, ss, rfl, .inl (sl_of (s20 _ _ (s19 _ _ efa))), st_of etp, hfk, hsk, lfs, lss, fun x1 H21 nx1 s21 ax1 => ?_⟩
                walk_at "kp"
                refine raw_list ax1 fun l1 H22 v22 nl1 s22 el1 pl1 => ?_
                walk_at "kp"
                have edue22 := s22 _ _ (s21 _ _ (s20 _ _ edue))
                have prd22 := prd.mono (Same.tk (s20.trans (s21.trans s22)))
                refine i_nePL ⟨v22, sl_of el1, pl1⟩ ⟨wd, sl_of edue22, prd22⟩ norm_good (fun r h => good_all r (List.mem_filter.mp h).1) ?_
                rw [norm_prod]
                walk_at "kp"
                refine ite_no (by simp) ?_
                walk_at "kp"
                refine ⟨aK, aK, kinds, kinds, rfl, .inr (hK H22), hK H22, (by decide +kernel), (by decide +kernel), by decide, by decide, fun x2 H23 nx2 s23 ax2 => ?_⟩
                walk_at "kp"
                refine raw_list ax2 fun l2 H24 v24 nl2 s24 el2 pl2 => ?_
                walk_at "kp"
                refine ⟨rfl, fun y3 H25 us3 ny3 s25 ey3 pry3 => ?_⟩
                rw [norm_kinds] at pl2
                refine i_nePL ⟨v24, sl_of (s25 _ _ el2), pl2.mono (Same.tk s25)⟩ ⟨us3, sl_of ey3, pry3⟩ good_all good_all ?_
                walk_at "kp"
                refine ite_no (by simp) ?_
                walk_at "kp"
                refine ⟨rfl, fun p6 H26 np6 s26 ep6 => ?_⟩
                walk_at "kp"
                intro t6 H27 nt6 s27 et6
                walk_at "kp"
                refine i_eqStrsT (ss := kinds) (zs := kinds) (hK H27) (st_of et6) (by decide +kernel) (by decide +kernel) ?_
                walk_at "kp"
                refine ite_ok (by simp) ?_
                walk_at "kp"
                intro t7 H28 nt7 s28 et7
                walk_at "kp"
                refine i_eqStrsT (ss := ["read", "acquire"]) (zs := ["read", "acquire"]) (hR H28) (st_of et7) (by decide +kernel) (by decide +kernel) ?_
                walk_at "kp"
                refine ite_ok (by simp) ?_
                walk_at "kp"
                intro t8 H29 nt8 s29 et8
                walk_at "kp"
                refine i_eqStrsT (ss := ["write", "release"]) (zs := ["write", "release"]) (hW H29) (st_of et8) (by decide +kernel) (by decide +kernel) ?_
                rw [decide_eq_true rfl]
                exact q H29

end
theorem all_mk {l : PySem.W.OpenLaw} {w : World} {K : PySem.W.Frag} {h : Heap} {mg : Str → Option Value} {fa : Addr} {f_law_draws : Addr} {od_law_draws an_law_draws : Option Addr} {sl_law_draws : Array (Option Value)} {oc_law_draws kV_law_draws dc_law_draws pm_law_draws cd_law_draws ct_law_draws : Value} {f_law_kinds : Addr} {od_law_kinds an_law_kinds : Option Addr} {sl_law_kinds : Array (Option Value)} {oc_law_kinds kV_law_kinds dc_law_kinds pm_law_kinds cd_law_kinds ct_law_kinds : Value} {f_law_all_pairs : Addr} {od_law_all_pairs an_law_all_pairs : Option Addr} {sl_law_all_pairs : Array (Option Value)} {oc_law_all_pairs kV_law_all_pairs dc_law_all_pairs pm_law_all_pairs cd_law_all_pairs ct_law_all_pairs : Value} {f_law_bad_pair : Addr} {od_law_bad_pair an_law_bad_pair : Option Addr} {sl_law_bad_pair : Array (Option Value)} {oc_law_bad_pair kV_law_bad_pair dc_law_bad_pair pm_law_bad_pair cd_law_bad_pair ct_law_bad_pair : Value} {f_law_refused : Addr} {od_law_refused an_law_refused : Option Addr} {sl_law_refused : Array (Option Value)} {oc_law_refused kV_law_refused dc_law_refused pm_law_refused cd_law_refused ct_law_refused : Value} {f_is_pair : Addr} {od_is_pair an_is_pair : Option Addr} {sl_is_pair : Array (Option Value)} {oc_is_pair kV_is_pair dc_is_pair pm_is_pair cd_is_pair ct_is_pair : Value} {f_law : Addr} {od_law an_law : Option Addr} {sl_law : Array (Option Value)} {oc_law kV_law dc_law pm_law cd_law ct_law : Value} {q_KINDS : Addr} {o_KINDS : Obj} {its_KINDS : Array Value} {n_KINDS : Nat} {q_READS : Addr} {o_READS : Obj} {its_READS : Array Value} {n_READS : Nat} {q_WRITES : Addr} {o_WRITES : Obj} {its_WRITES : Array Value} {n_WRITES : Nat} {C_Pairs : Addr} {T_Pairs_init : Addr} {oT_Pairs_init : Obj} {nT_Pairs_init : Nat} {f_Pairs_init : Addr} {od_Pairs_init an_Pairs_init : Option Addr} {sl_Pairs_init : Array (Option Value)} {oc_Pairs_init kV_Pairs_init dc_Pairs_init pm_Pairs_init cd_Pairs_init ct_Pairs_init : Value} {aE : Addr} {oE : Obj} {nE : Nat} {f_Pairs_iter : Addr} {od_Pairs_iter an_Pairs_iter : Option Addr} {sl_Pairs_iter : Array (Option Value)} {oc_Pairs_iter kV_Pairs_iter dc_Pairs_iter pm_Pairs_iter cd_Pairs_iter ct_Pairs_iter : Value} {f_Pairs_len : Addr} {od_Pairs_len an_Pairs_len : Option Addr} {sl_Pairs_len : Array (Option Value)} {oc_Pairs_len kV_Pairs_len dc_Pairs_len pm_Pairs_len cd_Pairs_len ct_Pairs_len : Value} {CO CI CU CB CW : Addr} {nmI qI : Str} {NI : Addr} {bsI : List Value} {snI : List Str} {subI : List Value} {abI : Bool} {colI : Option Bool} {ddI : Option Addr} {m0I m1I m2I m3I m5I : Option Value} {f_IP : Addr} {od_IP an_IP : Option Addr} {sl_IP : Array (Option Value)} {oc_IP kV_IP dc_IP pm_IP cd_IP ct_IP : Value} {q_Sm : Addr} {rest_Sm : List Value} {f_prod : Addr} {od_prod an_prod : Option Addr} {sl_prod : Array (Option Value)} {oc_prod kV_prod dc_prod pm_prod cd_prod ct_prod : Value}
    (X : K.In h) (G : h.Ns mainGlobals mg) (hfa : mg "law" = some (.ref fa))
    (z_len : PySem.W.nsIn K mainGlobals "len" = some none)
    (z_int : PySem.W.nsIn K mainGlobals "int" = some none)
    (z_abs : PySem.W.nsIn K mainGlobals "abs" = some none)
    (z_range : PySem.W.nsIn K mainGlobals "range" = some none)
    (z_list : PySem.W.nsIn K mainGlobals "list" = some none)
    (z_tuple : PySem.W.nsIn K mainGlobals "tuple" = some none)
    (z_isinstance : PySem.W.nsIn K mainGlobals "isinstance" = some none)
    (z_iter : PySem.W.nsIn K mainGlobals "iter" = some none)
    (z_all : PySem.W.nsIn K mainGlobals "all" = some none)
    (z_any : PySem.W.nsIn K mainGlobals "any" = some none)
    (z_bool : PySem.W.nsIn K mainGlobals "bool" = some none)
    (z_str : PySem.W.nsIn K mainGlobals "str" = some none)
    (z_sorted : PySem.W.nsIn K mainGlobals "sorted" = some none)
    (z_ValueError : PySem.W.nsIn K mainGlobals "ValueError" = some none)
    (z_dict : PySem.W.nsIn K mainGlobals "dict" = some none)
    (z_enumerate : PySem.W.nsIn K mainGlobals "enumerate" = some none)
    (z_set : PySem.W.nsIn K mainGlobals "set" = some none)
    (a_law_draws : PySem.W.nsIn K mainGlobals "_law_draws" = some (some (.ref f_law_draws)))
    (l_law_draws : K.lookup f_law_draws = some ⟨oc_law_draws, od_law_draws, .func (PySem.W.fnOf "_law_draws" "_law_draws" (defArgs sDraws) (defBody sDraws) (defScope sDraws) .none kV_law_draws dc_law_draws pm_law_draws an_law_draws cd_law_draws ct_law_draws), sl_law_draws⟩)
    (c_law_draws : PySem.W.codeIn K cd_law_draws "_law_draws" = true)
    (k_law_draws : PySem.W.keepIn K (.ref f_law_draws) = true)
    (a_law_kinds : PySem.W.nsIn K mainGlobals "_law_kinds" = some (some (.ref f_law_kinds)))
    (l_law_kinds : K.lookup f_law_kinds = some ⟨oc_law_kinds, od_law_kinds, .func (PySem.W.fnOf "_law_kinds" "_law_kinds" (defArgs sKinds) (defBody sKinds) (defScope sKinds) .none kV_law_kinds dc_law_kinds pm_law_kinds an_law_kinds cd_law_kinds ct_law_kinds), sl_law_kinds⟩)
    (c_law_kinds : PySem.W.codeIn K cd_law_kinds "_law_kinds" = true)
    (k_law_kinds : PySem.W.keepIn K (.ref f_law_kinds) = true)
    (a_law_all_pairs : PySem.W.nsIn K mainGlobals "_law_all_pairs" = some (some (.ref f_law_all_pairs)))
    (l_law_all_pairs : K.lookup f_law_all_pairs = some ⟨oc_law_all_pairs, od_law_all_pairs, .func (PySem.W.fnOf "_law_all_pairs" "_law_all_pairs" (defArgs sAll) (defBody sAll) (defScope sAll) .none kV_law_all_pairs dc_law_all_pairs pm_law_all_pairs an_law_all_pairs cd_law_all_pairs ct_law_all_pairs), sl_law_all_pairs⟩)
    (c_law_all_pairs : PySem.W.codeIn K cd_law_all_pairs "_law_all_pairs" = true)
    (k_law_all_pairs : PySem.W.keepIn K (.ref f_law_all_pairs) = true)
    (a_law_bad_pair : PySem.W.nsIn K mainGlobals "_law_bad_pair" = some (some (.ref f_law_bad_pair)))
    (l_law_bad_pair : K.lookup f_law_bad_pair = some ⟨oc_law_bad_pair, od_law_bad_pair, .func (PySem.W.fnOf "_law_bad_pair" "_law_bad_pair" (defArgs sBad) (defBody sBad) (defScope sBad) .none kV_law_bad_pair dc_law_bad_pair pm_law_bad_pair an_law_bad_pair cd_law_bad_pair ct_law_bad_pair), sl_law_bad_pair⟩)
    (c_law_bad_pair : PySem.W.codeIn K cd_law_bad_pair "_law_bad_pair" = true)
    (k_law_bad_pair : PySem.W.keepIn K (.ref f_law_bad_pair) = true)
    (a_law_refused : PySem.W.nsIn K mainGlobals "_law_refused" = some (some (.ref f_law_refused)))
    (l_law_refused : K.lookup f_law_refused = some ⟨oc_law_refused, od_law_refused, .func (PySem.W.fnOf "_law_refused" "_law_refused" (defArgs sRef) (defBody sRef) (defScope sRef) .none kV_law_refused dc_law_refused pm_law_refused an_law_refused cd_law_refused ct_law_refused), sl_law_refused⟩)
    (c_law_refused : PySem.W.codeIn K cd_law_refused "_law_refused" = true)
    (k_law_refused : PySem.W.keepIn K (.ref f_law_refused) = true)
    (a_is_pair : PySem.W.nsIn K mainGlobals "is_pair" = some (some (.ref f_is_pair)))
    (l_is_pair : K.lookup f_is_pair = some ⟨oc_is_pair, od_is_pair, .func (PySem.W.fnOf "is_pair" "is_pair" (defArgs sIsPair) (defBody sIsPair) (defScope sIsPair) .none kV_is_pair dc_is_pair pm_is_pair an_is_pair cd_is_pair ct_is_pair), sl_is_pair⟩)
    (c_is_pair : PySem.W.codeIn K cd_is_pair "is_pair" = true)
    (k_is_pair : PySem.W.keepIn K (.ref f_is_pair) = true)
    (a_law : PySem.W.nsIn K mainGlobals "law" = some (some (.ref f_law)))
    (l_law : K.lookup f_law = some ⟨oc_law, od_law, .func (PySem.W.fnOf "law" "law" (defArgs sLaw) (defBody sLaw) (defScope sLaw) .none kV_law dc_law pm_law an_law cd_law ct_law), sl_law⟩)
    (c_law : PySem.W.codeIn K cd_law "law" = true)
    (k_law : PySem.W.keepIn K (.ref f_law) = true)
    (a_KINDS : PySem.W.nsIn K mainGlobals "KINDS" = some (some (.ref q_KINDS)))
    (l_KINDS : K.lookup q_KINDS = some o_KINDS)
    (y_KINDS : o_KINDS.cls = .type "tuple")
    (d_KINDS : o_KINDS.data = .seq its_KINDS n_KINDS)
    (s_KINDS : its_KINDS.size ≤ sizeLine)
    (v_KINDS : Vals kindsV its_KINDS.toList)
    (a_READS : PySem.W.nsIn K mainGlobals "READS" = some (some (.ref q_READS)))
    (l_READS : K.lookup q_READS = some o_READS)
    (y_READS : o_READS.cls = .type "tuple")
    (d_READS : o_READS.data = .seq its_READS n_READS)
    (s_READS : its_READS.size ≤ sizeLine)
    (v_READS : Vals (List.map V.str ["read", "acquire"]) its_READS.toList)
    (a_WRITES : PySem.W.nsIn K mainGlobals "WRITES" = some (some (.ref q_WRITES)))
    (l_WRITES : K.lookup q_WRITES = some o_WRITES)
    (y_WRITES : o_WRITES.cls = .type "tuple")
    (d_WRITES : o_WRITES.data = .seq its_WRITES n_WRITES)
    (s_WRITES : its_WRITES.size ≤ sizeLine)
    (v_WRITES : Vals (List.map V.str ["write", "release"]) its_WRITES.toList)
    (a_Pairs : PySem.W.nsIn K mainGlobals "Pairs" = some (some (.ref C_Pairs)))
    (pg_Pairs : PySem.W.plainGet K C_Pairs Str.empty = true)
    (hd_Pairs : PySem.W.hasDictIn K C_Pairs = true)
    (po_Pairs : PySem.W.plainOver K C_Pairs = true)
    (sa_Pairs : PySem.W.findIn K (.ref C_Pairs) "__setattr__" = some (some (.builtin "object.__setattr__")))
    (mk_Pairs : PySem.W.makesIn K C_Pairs = true)
    (kc_Pairs : PySem.W.keepIn K (.ref C_Pairs) = true)
    (na_Pairs_pairs : PySem.W.findIn K (.ref C_Pairs) "_pairs" = some none)
    (i_Pairs_init : PySem.W.findIn K (.ref C_Pairs) "__init__" = some (some (.ref f_Pairs_init)))
    (l_Pairs_init : K.lookup f_Pairs_init = some ⟨oc_Pairs_init, od_Pairs_init, .func (PySem.W.fnOf "__init__" "Pairs.__init__" (defArgs sPInit) (defBody sPInit) (defScope sPInit) (.ref T_Pairs_init) kV_Pairs_init dc_Pairs_init pm_Pairs_init an_Pairs_init cd_Pairs_init ct_Pairs_init), sl_Pairs_init⟩)
    (c_Pairs_init : PySem.W.codeIn K cd_Pairs_init "Pairs.__init__" = true)
    (k_Pairs_init : PySem.W.keepIn K (.ref f_Pairs_init) = true)
    (j_Pairs_init : PySem.W.isFn K (.ref f_Pairs_init) = true)
    (lT_Pairs_init : K.lookup T_Pairs_init = some oT_Pairs_init)
    (d_T_Pairs_init : oT_Pairs_init.data = .seq #[.ref aE] nT_Pairs_init)
    (lE_Pairs_init : K.lookup aE = some oE)
    (y_E_Pairs_init : oE.cls = .type "tuple")
    (d_E_Pairs_init : oE.data = .seq #[] nE)
    (i_Pairs_iter : PySem.W.findIn K (.ref C_Pairs) "__iter__" = some (some (.ref f_Pairs_iter)))
    (l_Pairs_iter : K.lookup f_Pairs_iter = some ⟨oc_Pairs_iter, od_Pairs_iter, .func (PySem.W.fnOf "__iter__" "Pairs.__iter__" (defArgs sIter) (defBody sIter) (defScope sIter) .none kV_Pairs_iter dc_Pairs_iter pm_Pairs_iter an_Pairs_iter cd_Pairs_iter ct_Pairs_iter), sl_Pairs_iter⟩)
    (c_Pairs_iter : PySem.W.codeIn K cd_Pairs_iter "Pairs.__iter__" = true)
    (k_Pairs_iter : PySem.W.keepIn K (.ref f_Pairs_iter) = true)
    (j_Pairs_iter : PySem.W.isFn K (.ref f_Pairs_iter) = true)
    (i_Pairs_len : PySem.W.findIn K (.ref C_Pairs) "__len__" = some (some (.ref f_Pairs_len)))
    (l_Pairs_len : K.lookup f_Pairs_len = some ⟨oc_Pairs_len, od_Pairs_len, .func (PySem.W.fnOf "__len__" "Pairs.__len__" (defArgs sLen) (defBody sLen) (defScope sLen) .none kV_Pairs_len dc_Pairs_len pm_Pairs_len an_Pairs_len cd_Pairs_len ct_Pairs_len), sl_Pairs_len⟩)
    (c_Pairs_len : PySem.W.codeIn K cd_Pairs_len "Pairs.__len__" = true)
    (k_Pairs_len : PySem.W.keepIn K (.ref f_Pairs_len) = true)
    (j_Pairs_len : PySem.W.isFn K (.ref f_Pairs_len) = true)
    (a_OrderError : PySem.W.nsIn K mainGlobals "OrderError" = some (some (.ref CO)))
    (rd_O : PySem.W.readsIn K CO (.type "type") = true)
    (sg_O : PySem.W.specialIn K (.ref CO) "__getattribute__" = some (some (.builtin "type.__getattribute__")))
    (vv_O : PySem.W.findCls K (.ref CO) (.type "type") "__init__" = some (.val (.builtin "ValueError.__init__")))
    (a_InvalidPair : PySem.W.nsIn K mainGlobals "InvalidPair" = some (some (.ref CI)))
    (xL_I : K.lookup CI = some (excClassObj nmI qI CI NI bsI [.ref CO, .type "ValueError", .type "Exception", .type "BaseException", .type "object"] true snI subI abI colI ddI m0I m1I m2I m3I m5I "ValueError.__new__"))
    (sa_I : PySem.W.findIn K (.ref CI) "__setattr__" = some (some (.builtin "object.__setattr__")))
    (ga_I : PySem.W.findIn K (.ref CI) "__getattribute__" = some (some (.builtin "BaseException.__getattribute__")))
    (gg_I : PySem.W.findIn K (.ref CI) "__getattr__" = some none)
    (nb_I : PySem.W.findIn K (.ref CI) "pair" = some none)
    (eC_I : PySem.W.subIn K (.ref CI) (.type "BaseException") = some true)
    (tC_I : PySem.W.typeIn K (.ref CI) = some (.type "type"))
    (hC_I : PySem.W.hasDictIn K CI = true)
    (kC_I : PySem.W.keepIn K (.ref CI) = true)
    (xc0 : (PySem.W.clsIn K CI).isSome = true)
    (sC_I : PySem.W.subIn K (.ref CI) (.ref CI) = some true)
    (xc1 : PySem.W.findIn K (.ref CI) "__class__" = some (some (.builtin "object.__class__")))
    (xc2 : PySem.W.specialIn K (.builtin "object.__class__") "__get__" = some (some (.builtin "getset_descriptor.__get__")))
    (xc3 : PySem.W.takesIn K (.builtin "object.__class__") = some true)
    (xc4 : PySem.W.mroIn K CI (.type "object") = some true)
    (i_IP : PySem.W.findIn K (.ref CI) "__init__" = some (some (.ref f_IP)))
    (t_IP : PySem.W.typeIn K (.ref f_IP) = some (.type "function"))
    (l_IP : K.lookup f_IP = some ⟨oc_IP, od_IP, .func (PySem.W.fnOf "__init__" "InvalidPair.__init__" (defArgs sIPI) (defBody sIPI) (defScope sIPI) .none kV_IP dc_IP pm_IP an_IP cd_IP ct_IP), sl_IP⟩)
    (c_IP : PySem.W.codeIn K cd_IP "InvalidPair.__init__" = true)
    (k_IP : PySem.W.keepIn K (.ref f_IP) = true)
    (a_UnknownName : PySem.W.nsIn K mainGlobals "UnknownName" = some (some (.ref CU)))
    (a_InvalidBook : PySem.W.nsIn K mainGlobals "InvalidBook" = some (some (.ref CB)))
    (a_InvalidRow : PySem.W.nsIn K mainGlobals "InvalidRow" = some (some (.ref CW)))
    (kIU : PySem.W.kitOne K (.ref CI) (.ref CU) = some false)
    (kIB : PySem.W.kitOne K (.ref CI) (.ref CB) = some false)
    (kIR : PySem.W.kitOne K (.ref CI) (.ref CW) = some false)
    (kIV : PySem.W.kitOne K (.ref CI) (.type "ValueError") = some true)
    (kIO : PySem.W.kitOne K (.ref CI) (.ref CO) = some true)
    (rd_Pa : PySem.W.readsIn K C_Pairs (.type "type") = true)
    (sg_Pa : PySem.W.specialIn K (.ref C_Pairs) "__getattribute__" = some (some (.builtin "type.__getattribute__")))
    (sm_Pa : PySem.W.findCls K (.ref C_Pairs) (.type "type") "product" = some (.get (.builtin "staticmethod.__get__") (.ref q_Sm) .none (.ref C_Pairs)))
    (rc_prod : PySem.W.recIn K q_Sm "staticmethod" = some (.ref f_prod :: rest_Sm))
    (l_prod : K.lookup f_prod = some ⟨oc_prod, od_prod, .func (PySem.W.fnOf "product" "Pairs.product" (defArgs sProd) (defBody sProd) (defScope sProd) .none kV_prod dc_prod pm_prod an_prod cd_prod ct_prod), sl_prod⟩)
    (c_prod : PySem.W.codeIn K cd_prod "Pairs.product" = true)
    (k_prod : PySem.W.keepIn K (.ref f_prod) = true)
    : ∃ fd : FuncData, (∀ (s : Shared) (v : Value), BindsTo s fd ⟨[v], []⟩ [("script", v)]) ∧ ∀ base : Heap, K.In base → base.Ns mainGlobals mg → FnOk l.prog w K mg base CX0 10 fa fd ["script"] (spLaw K) := by
  have e := hfa.symm.trans (PySem.W.mg_of X G a_law)
  cases e
  have B : Blt mg := ⟨PySem.W.mg_none_of X G z_len, PySem.W.mg_none_of X G z_int, PySem.W.mg_none_of X G z_abs, PySem.W.mg_none_of X G z_range, PySem.W.mg_none_of X G z_list, PySem.W.mg_none_of X G z_tuple, PySem.W.mg_none_of X G z_isinstance, PySem.W.mg_none_of X G z_iter, PySem.W.mg_none_of X G z_all, PySem.W.mg_none_of X G z_any, PySem.W.mg_none_of X G z_bool, PySem.W.mg_none_of X G z_str, PySem.W.mg_none_of X G z_sorted, PySem.W.mg_none_of X G z_ValueError, PySem.W.mg_none_of X G z_dict, PySem.W.mg_none_of X G z_enumerate, PySem.W.mg_none_of X G z_set⟩
  have At_law_draws : FnAt K mg "_law_draws" sDraws ["script", "k", "count"] := ⟨_, _, PySem.W.mg_of X G a_law_draws, (fun_mk (st := sDraws) l_law_draws c_law_draws k_law_draws).binds (fun _ _ _ _ _ _ us hl => match us, hl with | [_, _, _], _ => rfl), fun_mk (st := sDraws) l_law_draws c_law_draws k_law_draws⟩
  have At_law_kinds : FnAt K mg "_law_kinds" sKinds [] := ⟨_, _, PySem.W.mg_of X G a_law_kinds, (fun_mk (st := sKinds) l_law_kinds c_law_kinds k_law_kinds).binds (fun _ _ _ _ _ _ us hl => match us, hl with | [], _ => rfl), fun_mk (st := sKinds) l_law_kinds c_law_kinds k_law_kinds⟩
  have At_law_all_pairs : FnAt K mg "_law_all_pairs" sAll [] := ⟨_, _, PySem.W.mg_of X G a_law_all_pairs, (fun_mk (st := sAll) l_law_all_pairs c_law_all_pairs k_law_all_pairs).binds (fun _ _ _ _ _ _ us hl => match us, hl with | [], _ => rfl), fun_mk (st := sAll) l_law_all_pairs c_law_all_pairs k_law_all_pairs⟩
  have At_law_bad_pair : FnAt K mg "_law_bad_pair" sBad ["number"] := ⟨_, _, PySem.W.mg_of X G a_law_bad_pair, (fun_mk (st := sBad) l_law_bad_pair c_law_bad_pair k_law_bad_pair).binds (fun _ _ _ _ _ _ us hl => match us, hl with | [_], _ => rfl), fun_mk (st := sBad) l_law_bad_pair c_law_bad_pair k_law_bad_pair⟩
  have At_law_refused : FnAt K mg "_law_refused" sRef ["given"] := ⟨_, _, PySem.W.mg_of X G a_law_refused, (fun_mk (st := sRef) l_law_refused c_law_refused k_law_refused).binds (fun _ _ _ _ _ _ us hl => match us, hl with | [_], _ => rfl), fun_mk (st := sRef) l_law_refused c_law_refused k_law_refused⟩
  have At_is_pair : FnAt K mg "is_pair" sIsPair ["item"] := ⟨_, _, PySem.W.mg_of X G a_is_pair, (fun_mk (st := sIsPair) l_is_pair c_is_pair k_is_pair).binds (fun _ _ _ _ _ _ us hl => match us, hl with | [_], _ => rfl), fun_mk (st := sIsPair) l_is_pair c_is_pair k_is_pair⟩
  have At_law : FnAt K mg "law" sLaw ["script"] := ⟨_, _, PySem.W.mg_of X G a_law, (fun_mk (st := sLaw) l_law c_law k_law).binds (fun _ _ _ _ _ _ us hl => match us, hl with | [_], _ => rfl), fun_mk (st := sLaw) l_law c_law k_law⟩
  have G_KINDS : GlT K mg "KINDS" kindsV := ⟨_, PySem.W.mg_of X G a_KINDS, fun H => .inr ⟨_, _, _, l_KINDS, y_KINDS, d_KINDS, s_KINDS, v_KINDS⟩⟩
  have G_READS : GlT K mg "READS" (List.map V.str ["read", "acquire"]) := ⟨_, PySem.W.mg_of X G a_READS, fun H => .inr ⟨_, _, _, l_READS, y_READS, d_READS, s_READS, v_READS⟩⟩
  have G_WRITES : GlT K mg "WRITES" (List.map V.str ["write", "release"]) := ⟨_, PySem.W.mg_of X G a_WRITES, fun H => .inr ⟨_, _, _, l_WRITES, y_WRITES, d_WRITES, s_WRITES, v_WRITES⟩⟩
  have cl_Pairs : Cls K C_Pairs := ⟨pg_Pairs, hd_Pairs, po_Pairs, sa_Pairs⟩
  have F_init : FunD K "__init__" "Pairs.__init__" (defArgs sPInit) (defBody sPInit) (defScope sPInit) [.ref aE] [] f_Pairs_init _ := ⟨⟨_, _, _, _, _, _, _, _, _, _, rfl, l_Pairs_init, c_Pairs_init, .inr ⟨by simp, _, _, [.ref aE], _, rfl, lT_Pairs_init, d_T_Pairs_init, .cons rfl .nil⟩, .inl rfl⟩, k_Pairs_init⟩
  obtain ⟨ds2, v2, b2⟩ := F_init.binds1 (ps := ["self", "pairs"]) 2 1 (by simp) (by rfl) (fun T kV doc pm an cdv ct us its h1 h2 => match us, its, h1, h2 with | [_, _], [_], _, _ => ⟨_, rfl, rfl⟩)
  obtain ⟨ds1, v1, b1⟩ := F_init.binds1 (ps := ["self", "pairs"]) 1 0 (by simp) (by rfl) (fun T kV doc pm an cdv ct us its h1 h2 => match us, its, h1, h2 with | [_], [_], _, _ => ⟨_, rfl, rfl⟩)
  cases v2
  have mkP : Mk K C_Pairs f_Pairs_init := ⟨mk_Pairs, i_Pairs_init, j_Pairs_init, kc_Pairs⟩
  have emE : ∀ H, SqT K H aE [] := fun H => .inr ⟨_, _, _, lE_Pairs_init, y_E_Pairs_init, d_E_Pairs_init, Nat.zero_le _, .nil⟩
  have TP : PairsCl K mg C_Pairs := ⟨cl_Pairs, na_Pairs_pairs, PySem.W.mg_of X G a_Pairs⟩
  have At_Pairs_iter : MAt K C_Pairs "__iter__" "Pairs.__iter__" sIter ["self"] := ⟨_, _, i_Pairs_iter, j_Pairs_iter, (fun_mk (st := sIter) l_Pairs_iter c_Pairs_iter k_Pairs_iter).binds (fun _ _ _ _ _ _ us hl => match us, hl with | [_], _ => rfl), fun_mk (st := sIter) l_Pairs_iter c_Pairs_iter k_Pairs_iter⟩
  have At_Pairs_len : MAt K C_Pairs "__len__" "Pairs.__len__" sLen ["self"] := ⟨_, _, i_Pairs_len, j_Pairs_len, (fun_mk (st := sLen) l_Pairs_len c_Pairs_len k_Pairs_len).binds (fun _ _ _ _ _ _ us hl => match us, hl with | [_], _ => rfl), fun_mk (st := sLen) l_Pairs_len c_Pairs_len k_Pairs_len⟩
  have EC : ErrCl K mg CO CI (.type "type") := ⟨PySem.W.mg_of X G a_OrderError, ⟨rd_O, sg_O⟩, vv_O, PySem.W.mg_of X G a_InvalidPair, ⟨⟨nmI, qI, NI, bsI, _, snI, subI, abI, colI, ddI, m0I, m1I, m2I, m3I, m5I, xL_I, by show PySem.HandSPX.refsVE PySem.HandSPX.veTail = true; decide +kernel⟩, sa_I, eC_I, tC_I, kC_I⟩, nb_I, ⟨ga_I, gg_I, eC_I, hC_I⟩, ⟨xc0, ga_I, gg_I, eC_I, xc1, xc2, xc3, xc4⟩⟩
  have EI : ErrIs K mg CO CI CU CB CW := ⟨PySem.W.mg_of X G a_UnknownName, PySem.W.mg_of X G a_InvalidBook, PySem.W.mg_of X G a_InvalidRow, PySem.W.exm_ref eC_I hC_I tC_I sC_I, kIU, kIB, kIR, kIV, kIO⟩
  have At_prod : SmAt K mg "Pairs" "product" "Pairs.product" sProd ["firsts", "seconds"] := ⟨⟨_, _, _, _, _, _, PySem.W.mg_of X G a_Pairs, ⟨rd_Pa, sg_Pa⟩, sm_Pa, rc_prod, (fun_mk (st := sProd) l_prod c_prod k_prod).binds (fun _ _ _ _ _ _ us hl => match us, hl with | [_, _], _ => rfl), fun_mk (st := sProd) l_prod c_prod k_prod⟩⟩
  exact ⟨PySem.W.fnOf "law" "law" (defArgs sLaw) (defBody sLaw) (defScope sLaw) .none kV_law dc_law pm_law an_law cd_law ct_law, fun s v => .of_eq rfl, fun base _ _ => by have Odraws := ok_draws (P := l.prog) (w := w) (base := base) At_law_draws B; have Okinds := ok_kinds (P := l.prog) (w := w) (base := base) At_law_kinds; have Oall := ok_all (P := l.prog) (w := w) (base := base) At_law_all_pairs Okinds; have Oip := ok_ispair (P := l.prog) (w := w) (base := base) At_is_pair B G_KINDS; have OPairs : PMk l.prog w K mg base 2 C_Pairs aE (spPInit K C_Pairs) := ⟨⟨_, _, _, mkP, b2, v1, b1, ok_pinit F_init B G_KINDS TP Oip⟩, PySem.W.mg_of X G a_Pairs, emE⟩; have Olen := ok_len (P := l.prog) (w := w) (base := base) At_Pairs_len B TP; have Oiter := ok_iter (P := l.prog) (w := w) (base := base) At_Pairs_iter B TP; have Obad := ok_bad (P := l.prog) (w := w) (base := base) At_law_bad_pair B; have Oit := ok_isitem (P := l.prog) (w := w) (base := base) At_is_pair B G_KINDS; have EM : EMk l.prog w K mg base 1 CI := ⟨⟨_, _, i_IP, t_IP, (fun_mk (st := sIPI) l_IP c_IP k_IP).binds (fun _ _ _ _ _ _ us hl => match us, hl with | [_, _], _ => rfl), ok_ipinit (fun_mk (st := sIPI) l_IP c_IP k_IP) EC⟩⟩; have OPX : PMkX l.prog w K mg base 4 C_Pairs CI := ⟨⟨_, _, mkP, b2, ok_pinitX F_init B G_KINDS TP EC EM Oit⟩, PySem.W.mg_of X G a_Pairs⟩; have Oref := ok_refused (P := l.prog) (w := w) (base := base) At_law_refused B EC EI OPX; have Oprod := ok_prod (P := l.prog) (w := w) (base := base) At_prod B OPairs; exact ok_law (fun_mk (st := sLaw) l_law c_law k_law) B G_KINDS G_READS G_WRITES Odraws Okinds Oall Obad Oref Oprod OPairs Olen Oiter⟩
end KP
open PySem PySem.W PyProof.Rows
set_option maxHeartbeats 0 in
theorem PySem.Challenge.cw_keptpairs_k04_bad_pairs_holds : PySem.Challenge.rw_keptpairs_k04_bad_pairs.Holds := by
  w_on; o_law; k_head; (case hw => w_witness2)
  k_fill
  refine L2.walk_of (l := PySem.Challenge.rw_keptpairs_k04_bad_pairs) (n := 63) (k := 10) (x := "script") (CX := fun _ => L2.CX0) (sp := fun w => KP.spLaw _) rfl (by decide) rfl ⟨rfl, by decide, by decide⟩ (fun w h Y => PySem.W.kIn_of Y) ?F (fun _ _ a ns hl _ hS => ⟨a, ns, rfl, hS, hl, fun _ => rfl⟩) (fun _ _ _ _ _ h => h)
  case F =>
    intro w mg fa h KX G hmg
    refine' KP.all_mk KX G hmg ?z_len ?z_int ?z_abs ?z_range ?z_list ?z_tuple ?z_isinstance ?z_iter ?z_all ?z_any ?z_bool ?z_str ?z_sorted ?z_ValueError ?z_dict ?z_enumerate ?z_set ?a_law_draws ?l_law_draws ?c_law_draws ?k_law_draws ?a_law_kinds ?l_law_kinds ?c_law_kinds ?k_law_kinds ?a_law_all_pairs ?l_law_all_pairs ?c_law_all_pairs ?k_law_all_pairs ?a_law_bad_pair ?l_law_bad_pair ?c_law_bad_pair ?k_law_bad_pair ?a_law_refused ?l_law_refused ?c_law_refused ?k_law_refused ?a_is_pair ?l_is_pair ?c_is_pair ?k_is_pair ?a_law ?l_law ?c_law ?k_law ?a_KINDS ?l_KINDS ?y_KINDS ?d_KINDS ?s_KINDS ?v_KINDS ?a_READS ?l_READS ?y_READS ?d_READS ?s_READS ?v_READS ?a_WRITES ?l_WRITES ?y_WRITES ?d_WRITES ?s_WRITES ?v_WRITES ?a_Pairs ?pg_Pairs ?hd_Pairs ?po_Pairs ?sa_Pairs ?mk_Pairs ?kc_Pairs ?na_Pairs_pairs ?i_Pairs_init ?l_Pairs_init ?c_Pairs_init ?k_Pairs_init ?j_Pairs_init ?lT_Pairs_init ?d_T_Pairs_init ?lE_Pairs_init ?y_E_Pairs_init ?d_E_Pairs_init ?i_Pairs_iter ?l_Pairs_iter ?c_Pairs_iter ?k_Pairs_iter ?j_Pairs_iter ?i_Pairs_len ?l_Pairs_len ?c_Pairs_len ?k_Pairs_len ?j_Pairs_len ?a_OrderError ?rd_O ?sg_O ?vv_O ?a_InvalidPair ?xL_I ?sa_I ?ga_I ?gg_I ?nb_I ?eC_I ?tC_I ?hC_I ?kC_I ?xc0 ?sC_I ?xc1 ?xc2 ?xc3 ?xc4 ?i_IP ?t_IP ?l_IP ?c_IP ?k_IP ?a_UnknownName ?a_InvalidBook ?a_InvalidRow ?kIU ?kIB ?kIR ?kIV ?kIO ?rd_Pa ?sg_Pa ?sm_Pa ?rc_prod ?l_prod ?c_prod ?k_prod
    (case z_len => k_is)
    (case z_int => k_is)
    (case z_abs => k_is)
    (case z_range => k_is)
    (case z_list => k_is)
    (case z_tuple => k_is)
    (case z_isinstance => k_is)
    (case z_iter => k_is)
    (case z_all => k_is)
    (case z_any => k_is)
    (case z_bool => k_is)
    (case z_str => k_is)
    (case z_sorted => k_is)
    (case z_ValueError => k_is)
    (case z_dict => k_is)
    (case z_enumerate => k_is)
    (case z_set => k_is)
    (case a_law_draws => k_is)
    (case l_law_draws => k_is)
    (case c_law_draws => k_is)
    (case k_law_draws => k_is)
    (case a_law_kinds => k_is)
    (case l_law_kinds => k_is)
    (case c_law_kinds => k_is)
    (case k_law_kinds => k_is)
    (case a_law_all_pairs => k_is)
    (case l_law_all_pairs => k_is)
    (case c_law_all_pairs => k_is)
    (case k_law_all_pairs => k_is)
    (case a_law_bad_pair => k_is)
    (case l_law_bad_pair => k_is)
    (case c_law_bad_pair => k_is)
    (case k_law_bad_pair => k_is)
    (case a_law_refused => k_is)
    (case l_law_refused => k_is)
    (case c_law_refused => k_is)
    (case k_law_refused => k_is)
    (case a_is_pair => k_is)
    (case l_is_pair => k_is)
    (case c_is_pair => k_is)
    (case k_is_pair => k_is)
    (case a_law => k_is)
    (case l_law => k_is)
    (case c_law => k_is)
    (case k_law => k_is)
    (case a_KINDS => k_is)
    (case l_KINDS => k_is)
    (case y_KINDS => first | k_is | rfl)
    (case d_KINDS => first | k_is | rfl)
    (case s_KINDS => first | decide | (rw [sizeLine_eq]; decide) | k_is)
    (case v_KINDS => repeat (first | exact .nil | refine .cons ⟨_, rfl⟩ ?_ | refine .cons rfl ?_))
    (case a_READS => k_is)
    (case l_READS => k_is)
    (case y_READS => first | k_is | rfl)
    (case d_READS => first | k_is | rfl)
    (case s_READS => first | decide | (rw [sizeLine_eq]; decide) | k_is)
    (case v_READS => repeat (first | exact .nil | refine .cons ⟨_, rfl⟩ ?_ | refine .cons rfl ?_))
    (case a_WRITES => k_is)
    (case l_WRITES => k_is)
    (case y_WRITES => first | k_is | rfl)
    (case d_WRITES => first | k_is | rfl)
    (case s_WRITES => first | decide | (rw [sizeLine_eq]; decide) | k_is)
    (case v_WRITES => repeat (first | exact .nil | refine .cons ⟨_, rfl⟩ ?_ | refine .cons rfl ?_))
    (case a_Pairs => k_is)
    (case pg_Pairs => k_is)
    (case hd_Pairs => k_is)
    (case po_Pairs => k_is)
    (case sa_Pairs => k_is)
    (case mk_Pairs => k_is)
    (case kc_Pairs => k_is)
    (case na_Pairs_pairs => k_is)
    (case i_Pairs_init => k_is)
    (case l_Pairs_init => k_is)
    (case c_Pairs_init => k_is)
    (case k_Pairs_init => k_is)
    (case j_Pairs_init => k_is)
    (case lT_Pairs_init => k_is)
    (case d_T_Pairs_init => first | k_is | rfl)
    (case lE_Pairs_init => k_is)
    (case y_E_Pairs_init => first | k_is | rfl)
    (case d_E_Pairs_init => first | k_is | rfl)
    (case i_Pairs_iter => k_is)
    (case l_Pairs_iter => k_is)
    (case c_Pairs_iter => k_is)
    (case k_Pairs_iter => k_is)
    (case j_Pairs_iter => k_is)
    (case i_Pairs_len => k_is)
    (case l_Pairs_len => k_is)
    (case c_Pairs_len => k_is)
    (case k_Pairs_len => k_is)
    (case j_Pairs_len => k_is)
    (case a_OrderError => k_is)
    (case rd_O => k_is)
    (case sg_O => k_is)
    (case vv_O => k_is)
    (case a_InvalidPair => k_is)
    (case xL_I => k_is)
    (case sa_I => k_is)
    (case ga_I => k_is)
    (case gg_I => k_is)
    (case nb_I => k_is)
    (case eC_I => k_is)
    (case tC_I => k_is)
    (case hC_I => k_is)
    (case kC_I => k_is)
    (case xc0 => first | k_is | rfl)
    (case sC_I => k_is)
    (case xc1 => first | k_is | rfl)
    (case xc2 => first | k_is | rfl)
    (case xc3 => first | k_is | rfl)
    (case xc4 => first | k_is | rfl)
    (case i_IP => k_is)
    (case t_IP => k_is)
    (case l_IP => k_is)
    (case c_IP => k_is)
    (case k_IP => k_is)
    (case a_UnknownName => k_is)
    (case a_InvalidBook => k_is)
    (case a_InvalidRow => k_is)
    (case kIU => first | k_is | rfl)
    (case kIB => first | k_is | rfl)
    (case kIR => first | k_is | rfl)
    (case kIV => first | k_is | rfl)
    (case kIO => first | k_is | rfl)
    (case rd_Pa => k_is)
    (case sg_Pa => k_is)
    (case sm_Pa => k_is)
    (case rc_prod => k_is)
    (case l_prod => k_is)
    (case c_prod => k_is)
    (case k_prod => k_is)

