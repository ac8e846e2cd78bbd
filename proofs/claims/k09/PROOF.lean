import PyProof.Rows.All
import Wide.All
import OpenK.AllK
import Wide.FinOn
import PyProof.EqAt
import PyProof.EqKinds
import PyProof.TupleCall
import KE.KOwnIter
import KE.KFromBytes
import KE.KDictIter
import HandS.Base
import HandS.Call
import HandS.List
import HandS.OwnEq
import HandS.OwnIter
import HandS.SlotsOwn
import HandS.Words
import HandS.WordsList
import HandS.WordsExc
import HandS.ForMost
import HandS.Exc
import HandS.IsInst
import HandS.Deep
import HandS.Evl
import HandS.Walk
import HandS.Defaults
import HandS.Style
import HandS.TupAny
import HandS.TryOnly
import HandS.ExcOwn
import HandS.ExcInit
import HandS.ExcField
import HandS.ExcIs
import HandS.ClsMeth
import KE.KIsAll
import KE.KExcIs
import HandS.MakeKwOnly
import HandS.Property
import HandS.Iter
import HandS.RaiseMore
import HandS.Dict
import PySem.Challenge.RW_keptpairs_k09_usual_books
set_option Elab.async false
set_option linter.all false
set_option maxRecDepth 100000
set_option maxHeartbeats 2000000
namespace KpX
open PySem PySem.W PySem.Calls PyProof.Rows

section
variable {prog : Program} {w : World} {A : Around} {E : Value → Shared → Prop} {s : Shared} {K : Frag} {x C L f : Addr} {h₀ : Heap} {m : Str → Option Value} {ox : Obj} {od : Option Obj}
theorem contains_own {y : Value} {Q : Bool → Shared → Prop} (X : K.In s.heap) (I : InstAt s.heap x ox C od) (hs : findIn K (.ref C) "__contains__" = some (some (.ref f))) (hf : isFn K (.ref f) = true)
    (h : wpAny (model prog w) A (call (.ref f) [.ref x, y]) (fun r s' => wpAny (model prog w) A (truthy r) Q E s') E s) : wpAny (model prog w) A (contains (.ref x) y) Q E s := by
  unfold contains
  refine wpAny_holding ?_
  rw [show stdlibNamesSay? (.ref x) y = none from rfl]
  refine wpAny_bind (wpAny_bind (I.type.here ((looks_findIn X hs).here ?_)))
  show wpAny _ _ (if (some (Value.ref f) == some Value.none) = true then _ else _) _ _ _
  rw [if_neg (by simp)]
  refine wpAny_bind ?_
  simp only [callSpecialUnlessNone?]
  refine wpAny_bind (wpAny_bind (I.type.here ((looks_findIn X hs).here ?_)))
  refine wpAny_holding (wpAny_bind ((bind_fn X _ (beq_iff_eq.mp hf)).here ?_))
  show wpAny _ _ (if (Value.ref f == Value.none) = true then _ else _) _ _ _
  rw [if_neg (show ¬ ((Value.ref f == Value.none) = true) from Bool.false_ne_true)]
  exact wpAny_bind (wpAny_mono h (fun v s' h' => wpAny_pure h') fun _ _ h' => h')
/-- an iterator over a tuple has come to its end: the record stays, read no more -/
theorem tupIt_end {it t : Addr} {i : Nat} {items : Array Value} {Q : Option Value → Shared → Prop} (quiet : A.handled = none) (rec0 : s.heap.IsTupleIter it t i) (tu : s.heap.IsTuple t items) (off : items[i]? = none)
    (q : ∀ h', Heap.ExtBut it s.heap h' → (∃ o, h'.get? it = some o) → Q none { s with heap := h' }) : wpAny (model prog w) A (pyNext (.ref it)) Q E s := by
  obtain ⟨ob, g0, gc, gd⟩ := id rec0
  obtain ⟨ot, g1, _, kk, gt⟩ := tu
  unfold pyNext
  refine wpAny_bind (wpAny_attempt (wpAny_callSpecial?_slot (name := Str.ofString "__next__") rec0.typeIs F.slot_tuple_iterator_next (wpAny_call_entry F.slot_tuple_iterator_next rec0.typeIs F.entry_tuple_iterator_next ?_ (F.args_tuple_iterator_next_1 _))))
  show wpAny _ _ (field (Value.ref it) 0 >>= _) _ _ _
  refine wpAny_bind (wpAny_field g0 gd (x := Value.ref t) rfl ?_)
  show wpAny _ _ (if (Value.ref t == .none) = true then _ else _) _ _ _
  refine PySem.W.KFB.if_not rfl ?_
  show wpAny _ _ (field (Value.ref it) 1 >>= _) _ _ _
  refine wpAny_bind (wpAny_field g0 gd (x := Value.int i 0) rfl ?_)
  show wpAny _ _ (seqItems? (Value.ref t) >>= _) _ _ _
  refine wpAny_bind (wpAny_seqItems g1 gt ?_)
  simp only [off, Int.toNat_natCast]
  refine wpAny_bind (wpAny_rule (wpAny_bind (wpAny_setField g0 gd (by simp) ?_)))
  show wpAny _ _ (newExc (Value.type "StopIteration") [] >>= _) _ _ _
  refine wpAny_bind ?_
  simp only [newTuple, newExc]
  refine wpAny_bind (wpAny_newObj_type ?_ (by size_fits))
  refine wpAny_bind (m := firstArgMember _ _) (wpAny_of_eq (a := Value.none) (by first | rfl | (simp only [firstArgMember] <;> rfl)) ?_)
  refine wpAny_newObj_type ?_ (by size_fits)
  simp only [raiseNew]
  refine wpAny_bind (wpAny_handled ?_)
  first | rw [quiet] | rw [show A.in1.handled = none from quiet]
  refine wpAny_bind (wpAny_pure (wpAny_throw ?_))
  refine wpAny_bind (wpAny_isInstance (T := "StopIteration") (b := true) ⟨_, Heap.get?_push_size _ rfl, rfl⟩ isSubtype_stop ?_)
  refine wpAny_pure (q _ (((Heap.SameBut.update ..).extBut.push _).push _) ⟨_, Heap.get?_push_of_some _ (Heap.get?_push_of_some _ (Heap.get?_update_self _ g0 (Obj.isFreed_of_fields (Obj.data_mapFields gd _))))⟩)
/-- iter(t), t a tuple -/
theorem call_iterTup {t : Addr} {items : Array Value} {Q : Value → Shared → Prop} (tu : s.heap.IsTuple t items) (q : Q (.ref s.heap.objs.size) { s with heap := s.heap.push { cls := .type "tuple_iterator", data := .fields #[.ref t, .int 0 0] } }) : wpAny (model prog w) A (call (.builtin "iter") [.ref t]) Q E s := by
  refine Calls.call_function_entry (by decide +kernel) (by decide +kernel) PySem.W.kdk_entry_iter (PySem.W.kdk_args_iter _) ?_
  unfold Builtin.«iter»
  refine wpAny_bind (m := someArgs "iter" 1 2 _) (wpAny_of_eq (a := [Value.ref t]) (by first | rfl | kernel_rfl!) ?_)
  show wpAny _ _ (pyIter (Value.ref t) >>= _) _ _ _
  refine wpAny_bind (wpAny_pyIter_tuple tu ?_)
  exact wpAny_pure ⟨_, rfl, q⟩
/-- the length that list(o) asks ahead, by an own __len__ -/
theorem hint_own {Q : Bool → Shared → Prop} (X : K.In s.heap) (I : InstAt s.heap x ox C od) (hs : findIn K (.ref C) "__len__" = some (some (.ref f))) 
    (h : wpAny (model prog w) A (call (.builtin "len") [.ref x]) (fun r s' => ∃ n u, r = Value.int n u ∧ n.toNat ≤ sizeLine ∧ Q (n != 0) s') (fun _ _ => False) s) : wpAny (model prog w) A (Builtin.List.listLengthHint (.ref x)) Q E s := by
  unfold Builtin.List.listLengthHint
  refine wpAny_bind (wpAny_bind (I.type.here ((looks_findIn X hs).here ?_)))
  refine PySem.W.KFB.if_not rfl ?_
  refine PySem.W.KFB.if_so rfl ?_
  refine wpAny_bind (wpAny_rule (wpAny_bind (wpAny_attempt (wpAny_mono h (fun r s' z => ?_) fun _ _ z => z.elim))))
  obtain ⟨n, u, rfl, hl, q⟩ := z
  refine wpAny_bind (wpAny_pure ?_)
  refine PySem.W.KFB.if_not (by unfold Builtin.List.listTooLong; exact decide_eq_false (by omega)) ?_
  exact wpAny_pure q
end
end KpX

namespace L2
open PySem PySem.Spec PyProof.Rows
section
variable {X : Cx} {pins : List (Addr × Obj)} {σ : St} {H : Hp} {s : Shared} {CX : CXT} {C f a dx : Addr} {fd : FuncData} {ps : List Str} {sp : Sp} {E : XK} {n : Nat} {A1 : Around}
/-- an own def is called from inside a built-in -/
theorem own_call {Q : VK} {vs : List V} {us : List Value} (sb : Sub X n A1) (F : FnOk X.prog X.w X.K X.mg X.base CX n f fd ps sp) (hb : Binds X.K fd ps []) (hx : Passes CX X E) (I : Inv X pins σ H s) (r : Vals vs us) (h : sp vs H Q E) :
    wpAny (model X.prog X.w) A1 (call (.ref f) us) (EP X pins σ Q) X.xe s := by
  have e0 : Env0 X.prog X.w X.K X.mg X.base A1 X.stack s H := by
    have e := I.env0
    exact ⟨sb.fr.trans e.frames, e.mod, e.bs, e.bsz, e.funs, e.frf, e.hok, e.bare⟩
  have hl := F.len _ _ _ _ h
  refine wpAny_call (codeAny_mono (F.run A1 X.stack s H ⟨us, []⟩ us vs Q E sb.room e0 (by
    have := hb s us I.kIn (by rw [List.append_nil, ← r.length]; exact hl)
    simpa using this) r h) fun r s' hq => ?_)
  cases r with
  | error e => exact hx pins σ H s e s' I hq
  | ok fl =>
    cases fl with
    | ret w => exact I.after hq
    | next => exact False.elim hq
    | brk => exact False.elim hq
    | cont => exact False.elim hq
/-- one that raises nothing -/
theorem own_call0 {Q : VK} {vs : List V} {us : List Value} {EE : Value → Shared → Prop} (sb : Sub X n A1) (F : FnOk X.prog X.w X.K X.mg X.base CX0 n f fd ps sp) (hb : Binds X.K fd ps []) (I : Inv X pins σ H s) (r : Vals vs us) (h : sp vs H Q E0) :
    wpAny (model X.prog X.w) A1 (call (.ref f) us) (EP X pins σ Q) EE s := by
  have e0 : Env0 X.prog X.w X.K X.mg X.base A1 X.stack s H := by
    have e := I.env0
    exact ⟨sb.fr.trans e.frames, e.mod, e.bs, e.bsz, e.funs, e.frf, e.hok, e.bare⟩
  have hl := F.len _ _ _ _ h
  refine wpAny_call (codeAny_mono (F.run A1 X.stack s H ⟨us, []⟩ us vs Q E0 sb.room e0 (by
    have := hb s us I.kIn (by rw [List.append_nil, ← r.length]; exact hl)
    simpa using this) r h) fun r s' hq => ?_)
  cases r with
  | error e => exact False.elim hq
  | ok fl =>
    cases fl with
    | ret w => exact I.after hq
    | next => exact False.elim hq
    | brk => exact False.elim hq
    | cont => exact False.elim hq
theorem ins_inst (I : Inv X pins σ H s) {fs : List (Str × V)} (ha : H a = some (.ins C dx fs)) : ∃ ox od, PySem.W.InstAt s.heap a ox C (some od) := by
  obtain ⟨mA, J, _⟩ := ins_get I.hok ha
  obtain ⟨od, J, _⟩ := J.look
  exact ⟨_, od, J⟩

/-! ### x in o, x not in o, by an own __contains__ -/
def rInOwn (C : Addr) (sp : Sp) (E : XK) : R2 := fun x y H Q => ∃ a dx fs, y = .ref a ∧ H a = some (.ins C dx fs) ∧ sp [.ref a, x] H (fun z H' => ∃ b, z = .bl b ∧ Q (.bl b) H') E
def rNotInOwn (C : Addr) (sp : Sp) (E : XK) : R2 := fun x y H Q => ∃ a dx fs, y = .ref a ∧ H a = some (.ins C dx fs) ∧ sp [.ref a, x] H (fun z H' => ∃ b, z = .bl b ∧ Q (.bl (!b)) H') E
theorem in_own {x : V} {v : Value} {Q : Bool → Hp → Prop} {fs : List (Str × V)} (hs : PySem.W.findIn X.K (.ref C) "__contains__" = some (some (.ref f))) (hf : PySem.W.isFn X.K (.ref f) = true) (F : FnOk X.prog X.w X.K X.mg X.base CX n f fd ps sp) (hb : Binds X.K fd ps []) (hx : Passes CX X E) (hr : Room n X.A)
    (I : Inv X pins σ H s) (rx : RelV x v) (ha : H a = some (.ins C dx fs)) (q : sp [.ref a, x] H (fun z H' => ∃ b, z = .bl b ∧ Q b H') E) :
    wpAny (model X.prog X.w) X.A (contains (.ref a) v) (fun r s' => ∃ H', Inv X pins σ H' s' ∧ Q r H') X.xe s := by
  obtain ⟨ox, od, J⟩ := ins_inst I ha
  refine KpX.contains_own I.kIn J hs hf ?_
  refine wpAny_mono (own_call (vs := [.ref a, x]) (us := [.ref a, v]) ⟨hr, rfl⟩ F hb hx I (.cons rfl (.cons rx .nil)) q) (fun r s' z => ?_) fun _ _ z => z
  obtain ⟨u, H', I', ru, b, rfl, qb⟩ := z
  cases ru
  exact wpAny_truthy_bool ⟨H', I', qb⟩
theorem op_inOwn (hs : PySem.W.findIn X.K (.ref C) "__contains__" = some (some (.ref f))) (hf : PySem.W.isFn X.K (.ref f) = true) (F : FnOk X.prog X.w X.K X.mg X.base CX n f fd ps sp) (hb : Binds X.K fd ps []) (hx : Passes CX X E) (hr : Room n X.A) :
    OpR X (compareOp .In) (rInOwn C sp E) := by
  intro pins s σ H x y v u Q I rx ry h
  obtain ⟨a, dx, fs, rfl, ha, q⟩ := h
  cases (show u = Value.ref a from ry)
  show wpAny _ _ (contains (.ref a) v >>= fun b => pure (Value.bool b)) _ _ _
  refine wpAny_bind (wpAny_mono (in_own (Q := fun b H' => Q (.bl b) H') hs hf F hb hx hr I rx ha q) (fun r s' z => ?_) fun _ _ z => z)
  obtain ⟨H', I', qb⟩ := z
  exact wpAny_pure ⟨.bl r, H', I', rfl, qb⟩
theorem op_notInOwn (hs : PySem.W.findIn X.K (.ref C) "__contains__" = some (some (.ref f))) (hf : PySem.W.isFn X.K (.ref f) = true) (F : FnOk X.prog X.w X.K X.mg X.base CX n f fd ps sp) (hb : Binds X.K fd ps []) (hx : Passes CX X E) (hr : Room n X.A) :
    OpR X (compareOp .NotIn) (rNotInOwn C sp E) := by
  intro pins s σ H x y v u Q I rx ry h
  obtain ⟨a, dx, fs, rfl, ha, q⟩ := h
  cases (show u = Value.ref a from ry)
  show wpAny _ _ (contains (.ref a) v >>= fun b => pure (Value.bool (!b))) _ _ _
  refine wpAny_bind (wpAny_mono (in_own (Q := fun b H' => Q (.bl (!b)) H') hs hf F hb hx hr I rx ha q) (fun r s' z => ?_) fun _ _ z => z)
  obtain ⟨H', I', qb⟩ := z
  exact wpAny_pure ⟨.bl (!r), H', I', rfl, qb⟩

/-! ### len(o) -/
def rLenOwn (C : Addr) (sp : Sp) (E : XK) : List V → Hp → VK → Prop := fun xs H Q => ∃ a dx fs, xs = [.ref a] ∧ H a = some (.ins C dx fs) ∧ sp [.ref a] H (fun z H' => ∃ i : Int, z = .int i ∧ (0 ≤ i ∧ i < 2 ^ 63) ∧ Q (.int i) H') E
theorem call_lenOwn (hs : PySem.W.findIn X.K (.ref C) "__len__" = some (some (.ref f))) (hf : PySem.W.isFn X.K (.ref f) = true) (F : FnOk X.prog X.w X.K X.mg X.base CX n f fd ps sp) (hb : Binds X.K fd ps []) (hx : Passes CX X E) (hr : Room (n + 1) X.A) :
    CallR X (.builtin "len") (rLenOwn C sp E) := by
  intro pins s σ H xs us Q I r h
  obtain ⟨a, dx, fs, rfl, ha, q⟩ := h
  obtain ⟨u, rfl, ru⟩ := r.one
  cases (show u = Value.ref a from ru)
  obtain ⟨ox, od, J⟩ := ins_inst I ha
  obtain ⟨m, hF⟩ := I.fr
  refine PySem.W.len_K hF I.ok.mod.kin J hs hf ?_
  refine wpAny_mono (own_call (vs := [.ref a]) (us := [.ref a]) ⟨hr.in1, rfl⟩ F hb hx I (.cons rfl .nil) q) (fun r s' z => ?_) fun _ _ z => z
  obtain ⟨v, H', I', rv, i, rfl, hi, qi⟩ := z
  obtain ⟨t, rfl⟩ := (show ∃ t, r = Value.int i t from rv)
  exact ⟨hi, .int i, H', I'.tok _, ⟨_, rfl⟩, qi⟩

/-! ### o & p, o | p, o - p of two instances of one class -/
def rBinOwn (C : Addr) (sp : Sp) (E : XK) : R2 := fun x y H Q => ∃ a dx fs b dy gs, x = .ref a ∧ y = .ref b ∧ H a = some (.ins C dx fs) ∧ H b = some (.ins C dy gs) ∧ sp [.ref a, .ref b] H Q E
theorem op_binOwn {op : Operator} (hc : PySem.W.selfFirst X.K C = true) (hs : PySem.W.findIn X.K (.ref C) (PySem.dunder op.info.2) = some (some (.ref f))) (hf : PySem.W.isFn X.K (.ref f) = true) (F : FnOk X.prog X.w X.K X.mg X.base CX n f fd ps sp) (hb : Binds X.K fd ps []) (hx : Passes CX X E) (hr : Room n X.A) :
    OpR X (binaryOp op) (rBinOwn C sp E) := by
  intro pins s σ H x y v u Q I rx ry h
  obtain ⟨a, dx, fs, b, dy, gs, rfl, rfl, ha, hb', q⟩ := h
  cases (show v = Value.ref a from rx)
  cases (show u = Value.ref b from ry)
  obtain ⟨ox, od, J⟩ := ins_inst I ha
  obtain ⟨oy, oe, J'⟩ := ins_inst I hb'
  obtain ⟨m, hF⟩ := I.fr
  refine PySem.W.binop_K hF I.ok.mod.kin J J'.type hc hs hf ?_
  refine wpAny_mono (own_call (vs := [.ref a, .ref b]) (us := [.ref a, .ref b]) ⟨hr, rfl⟩ F hb hx I (.cons rfl (.cons rfl .nil)) q) (fun r s' z => ?_) fun _ _ z => z
  obtain ⟨z', H', I', rz, qz⟩ := z
  exact SlX.cmpback rz ⟨z', H', I', rz, qz⟩
/-! ### o == p, o <= p .. of two instances of one class -/
theorem op_cmpOwn {op : CmpOp} (hop : ∀ a b, compareOp op a b = richCompare op a b) (hs : PySem.W.findIn X.K (.ref C) (cmpInfo op).2.1 = some (some (.ref f))) (hf : PySem.W.isFn X.K (.ref f) = true) (F : FnOk X.prog X.w X.K X.mg X.base CX n f fd ps sp) (hb : Binds X.K fd ps []) (hx : Passes CX X E) (hr : Room n X.A) :
    OpR X (compareOp op) (rBinOwn C sp E) := by
  intro pins s σ H x y v u Q I rx ry h
  obtain ⟨a, dx, fs, b, dy, gs, rfl, rfl, ha, hb', q⟩ := h
  cases (show v = Value.ref a from rx)
  cases (show u = Value.ref b from ry)
  obtain ⟨ox, od, J⟩ := ins_inst I ha
  obtain ⟨oy, oe, J'⟩ := ins_inst I hb'
  obtain ⟨m, hF⟩ := I.fr
  rw [hop]
  refine PySem.W.cmp_K (op := op) (tb := .ref C) hr.units0 hF I.ok.mod.kin J J'.type (by simp [PySem.W.notFirst]) hs hf ?_
  refine wpAny_mono (own_call (vs := [.ref a, .ref b]) (us := [.ref a, .ref b]) ⟨hr, rfl⟩ F hb hx I (.cons rfl (.cons rfl .nil)) q) (fun r s' z => ?_) fun _ _ z => z
  obtain ⟨z', H', I', rz, qz⟩ := z
  exact SlX.cmpback rz ⟨z', H', I', rz, qz⟩

/-! ### iter(t), list(o) where o's __iter__ gives an iterator over a tuple -/
def TitO (t it : Addr) (i : Nat) : HO := .ext fun h => h.IsTupleIter it t i
def TitE (it : Addr) : HO := .ext fun h => ∃ o, h.get? it = some o
theorem titO_ok {P : Program} {w : World} {H : Hp} {h : Heap} {t it : Addr} {i : Nat} (e : h.IsTupleIter it t i) : ObjOk P w H h it (TitO t it i) := by
  obtain ⟨o, ho, r⟩ := id e
  exact ⟨e, ⟨o, ho⟩, fun h1 h2 ⟨o1, q1, r1⟩ k => ⟨o1, k _ q1, r1⟩⟩
theorem titE_ok {P : Program} {w : World} {H : Hp} {h : Heap} {it : Addr} (e : ∃ o, h.get? it = some o) : ObjOk P w H h it (TitE it) := ⟨e, e, fun h1 h2 ⟨o1, q1⟩ k => ⟨o1, k _ q1⟩⟩
theorem titO_get {t it : Addr} {i : Nat} (I : Inv X pins σ H s) (e : H it = some (TitO t it i)) : s.heap.IsTupleIter it t i := (I.hok it _ e).1
def rIterT (K : PySem.W.Frag) : List V → Hp → VK → Prop := fun xs H Q => ∃ (t : Addr) (zs : List V), xs = [.ref t] ∧ SqT K H t zs ∧ ∀ it, H it = none → Q (.ref it) (upd H it (TitO t it 0))
theorem call_iterT : CallR X (.builtin "iter") (rIterT X.K) := by
  intro pins s σ H xs us Q I r h
  obtain ⟨t, zs, rfl, hq, q⟩ := h
  obtain ⟨u, rfl, ru⟩ := r.one
  cases (show u = Value.ref t from ru)
  obtain ⟨its, rv, p, hz⟩ := I.tuple hq
  refine KpX.call_iterTup (show s.heap.IsTuple t its.toArray from p) ?_
  exact ⟨.ref s.heap.objs.size, _, I.laid (t' := s.toks) (fun b u e => Heap.get?_push_of_some _ e) (Nat.le_refl _) (titO_ok ⟨_, Heap.get?_push_size _ rfl, rfl, rfl⟩), rfl, q _ (I.hok.fresh (Nat.le_refl _))⟩
/-- what __iter__ promises -/
def spIterT (K : PySem.W.Frag) (T : Addr → Hp → Addr → List V → Prop) : Sp := fun vs H Q _ => ∃ a t xs, vs = [.ref a] ∧ T a H t xs ∧ SqT K H t xs ∧ ∀ it, H it = none → Q (.ref it) (upd H it (TitO t it 0))
/-- what __len__ promises -/
def spLenT (T : Addr → Hp → Addr → List V → Prop) : Sp := fun vs H Q _ => ∃ a t xs, vs = [.ref a] ∧ T a H t xs ∧ xs.length ≤ sizeLine ∧ Q (.int xs.length) H
theorem titLoop {t it q : Addr} {xs : List V} {Rs : Result → Shared → Prop} {H0 : Hp} (hne : q ≠ it) (hh : A1.in1.handled = none) (hlen : xs.length ≤ sizeLine) (herr : ∀ e s, X.xe e s → Rs (.error e) s)
    (h0t : SqT X.K H0 t xs) (h0i : H0 it = none) (h0q : H0 q = none)
    (hdone : ∀ H' s', Inv X pins σ H' s' → Same H0 H' → H' q = some (.lst xs) → Rs (.ok (.ret .none)) s') :
    ∀ (m i : Nat) (H : Hp) (s : Shared), i + m = xs.length → Inv X pins σ H s → Same H0 H → H it = some (TitO t it i) → H q = some (.lst (xs.take i)) →
      codeAny (model X.prog X.w) A1 (.builtin "list.extend.loop" ⟨[.ref q, .ref it, .none], []⟩) Rs s := by
  intro m
  induction m with
  | zero =>
    intro i H s hi I sm hit hq
    refine codeAny_builtin PySem.F.entry_extend_loop ?_
    rw [Around.under_plainId PySem.F.plain_extend_loop _]
    show wpAny _ A1.in1 (pyNext (.ref it) >>= _) _ _ s
    obtain ⟨its, rv, p, hz⟩ := I.tuple (SqT.ext h0t sm)
    have hl := rv.length
    refine wpAny_bind (KpX.tupIt_end hh (titO_get I hit) (show s.heap.IsTuple t its.toArray from p) (by simp; omega) fun h' eb ho => ?_)
    have mu : Mut (H it) := by rw [hit]; exact True.intro
    have I2 : Inv X pins σ (upd H it (TitE it)) { s with heap := h' } := I.write (x := it) (e := it) (t' := s.toks) mu (.inl rfl) (fun b o nb z => eb b o nb z) ho (titE_ok ho)
    refine wpAny_pure (hdone _ _ I2 (fun b o e => ?_) ?_)
    · rw [upd_ne (ne_of_none e h0i)]
      exact sm b o e
    · rw [upd_ne hne, hq, List.take_of_length_le (by omega)]
  | succ m ih =>
    intro i H s hi I sm hit hq
    refine codeAny_builtin PySem.F.entry_extend_loop ?_
    rw [Around.under_plainId PySem.F.plain_extend_loop _]
    show wpAny _ A1.in1 (pyNext (.ref it) >>= _) _ _ s
    have hlt : i < xs.length := by omega
    obtain ⟨its, rv, p, hz⟩ := I.tuple (SqT.ext h0t sm)
    obtain ⟨u, hu, ru⟩ := rv.get (List.getElem?_eq_getElem hlt)
    refine wpAny_bind (wpAny_pyNext_tuple_item (titO_get I hit) (show s.heap.IsTuple t its.toArray from p) (x := u) (by simpa using hu) fun h' st' sb => ?_)
    have mu : Mut (H it) := by rw [hit]; exact True.intro
    have ho : ∃ o, h'.get? it = some o := let ⟨o, e, _⟩ := id st'; ⟨o, e⟩
    have I2 : Inv X pins σ (upd H it (TitO t it (i + 1))) { s with heap := h' } := I.write (x := it) (e := it) (t' := s.toks) mu (.inl rfl) (fun b o nb z => (sb.2 b nb).trans z) ho (titO_ok st')
    have hq2 : upd H it (TitO t it (i + 1)) q = some (.lst (xs.take i)) := by rw [upd_ne hne]; exact hq
    obtain ⟨z, its2, k, r2, hl, e⟩ := I2.lstM hq2
    show wpAny _ A1.in1 (updateSeq q (·.push u) >>= _) _ _ _
    have lt2 : its2.length = i := by rw [← hl, List.length_take]; omega
    refine wpAny_bind (wpAny_updateSeq e rfl (wpAny_pure ⟨plainId_quiet PySem.F.plain_extend_loop _, ?_⟩) (by rw [List.size_toArray]; omega) (by show (its2.toArray.push u).size ≤ sizeLine + 1; rw [Array.size_push, List.size_toArray]; omega))
    have I3 := I2.lset (f := (·.push u)) (its' := its2 ++ [u]) (ys := xs.take (i + 1)) (t' := s.toks) hq2 e (by simp) (by rw [List.take_add_one, List.getElem?_eq_getElem hlt]; exact r2.append (.cons ru .nil)) (by rw [List.length_take]; omega)
    refine ih (i + 1) _ _ (by omega) I3 (fun b o e => ?_) ?_ upd_same
    · rw [upd_ne (ne_of_none e h0q), upd_ne (ne_of_none e h0i)]
      exact sm b o e
    · rw [upd_ne hne.symm]
      exact upd_same

/-- list(o), o of a class with __len__ whose __iter__ gives an iterator over a tuple -/
def rListIt (K : PySem.W.Frag) (C : Addr) (T : Addr → Hp → Addr → List V → Prop) : List V → Hp → VK → Prop := fun vs H Q => ∃ a dx fs t xs, vs = [.ref a] ∧ H a = some (.ins C dx fs) ∧ T a H t xs ∧ SqT K H t xs ∧
  ∀ q H', H q = none → Same H H' → H' q = some (.lst xs) → Q (.ref q) H'
theorem listIt_extend {T : Addr → Hp → Addr → List V → Prop} {fi fl : Addr} {fdI fdL : FuncData} {psI psL : List Str} {q t : Addr} {xs : List V} {Rs : Result → Shared → Prop} {fs : List (Str × V)} {G : Hp}
    (hi : PySem.W.findIn X.K (.ref C) "__iter__" = some (some (.ref fi))) (hif : PySem.W.isFn X.K (.ref fi) = true) (hl : PySem.W.findIn X.K (.ref C) "__len__" = some (some (.ref fl))) (hlf : PySem.W.isFn X.K (.ref fl) = true)
    (FI : FnOk X.prog X.w X.K X.mg X.base CX0 n fi fdI psI (spIterT X.K T)) (bI : Binds X.K fdI psI []) (FL : FnOk X.prog X.w X.K X.mg X.base CX0 n fl fdL psL (spLenT T)) (bL : Binds X.K fdL psL []) (Tm : ∀ a H H' t xs, Same H H' → T a H t xs → T a H' t xs)
    (sb : Sub X (n + 1) A1.in1) (hh : A1.in1.handled = none) (herr : ∀ e s, X.xe e s → Rs (.error e) s) (I : Inv X pins σ G s) (fr : H q = none) (eG : G = upd H q (.lst [])) (ha : H a = some (.ins C dx fs)) (hT : T a H t xs) (hS : SqT X.K H t xs)
    (hdone : ∀ H' s', Inv X pins σ H' s' → Same H H' → H' q = some (.lst xs) → Rs (.ok (.ret .none)) s') :
    wpAny (model X.prog X.w) A1.in1 (Builtin.List.listExtendWith (.ref q) (.ref a) .none)
      (fun fin s' => match fin with
        | .done f => Rs (.ok f) s'
        | .again c' => c'.quiet = true ∧ codeAny (model X.prog X.w) A1 c' Rs s') (fun e s' => Rs (.error e) s') s := by
  have sG : Same H G := fun b o e => by rw [eG, upd_ne (ne_of_none e fr)]; exact e
  have gq : G q = some (.lst []) := by rw [eG, upd_same]
  have ga := sG _ _ ha
  have qa : q ≠ a := ne_of gq ga (fun z => nomatch z)
  obtain ⟨ox, od, J⟩ := ins_inst I ga
  obtain ⟨m0, hF⟩ := I.fr
  unfold Builtin.List.listExtendWith
  refine wpAny_bind (J.type.here ?_)
  have k1 : Builtin.List.listSameRef (.ref q) (.ref a) = false := by simp [Builtin.List.listSameRef, qa]
  simp only [k1, show (Value.ref C == Value.type "list") = false from rfl, show (Value.ref C == Value.type "tuple") = false from rfl, Bool.or_false, Bool.false_eq_true, if_false]
  refine wpAny_bind (PySem.W.owit_iter hF I.ok.mod.kin J hi hif (wpAny_mono (own_call (vs := [.ref a]) (us := [.ref a]) (Q := fun v H' => ∃ it, v = .ref it ∧ G it = none ∧ H' = upd G it (TitO t it 0)) (sb.mono (Nat.le_succ _)) FI bI pass0 I (.cons rfl .nil) ⟨a, t, xs, rfl, Tm _ _ _ _ _ sG hT, SqT.ext hS sG, fun it z => ⟨it, rfl, z, rfl⟩⟩) (fun u s' z => ?_) fun e s' z => herr e s' z))
  obtain ⟨v, H', I', rv, it, rfl, nit, rfl⟩ := z
  cases rv
  have sG' : Same G (upd G it (TitO t it 0)) := fun b o e => by rw [upd_ne (ne_of_none e nit)]; exact e
  have nqi : q ≠ it := ne_of_none gq nit
  unfold PySem.W.OwitIt
  refine wpAny_specialOf (titO_get I' upd_same).typeIs F.slot_tuple_iterator_next.lookup ?_
  obtain ⟨ox', od', J'⟩ := ins_inst I' (sG' _ _ ga)
  refine wpAny_bind (wpAny_holding (KpX.hint_own I'.kIn J' hl ?_))
  obtain ⟨m1, hF'⟩ := I'.fr
  have hxl : xs.length ≤ sizeLine := (I'.tuple (SqT.ext hS (sG.trans sG'))).choose_spec.2.2
  refine PySem.W.len_K hF' I'.ok.mod.kin J' hl hlf ?_
  refine wpAny_mono (own_call0 (vs := [.ref a]) (us := [.ref a]) (Q := fun v H' => v = .int xs.length ∧ H' = upd G it (TitO t it 0)) sb.in1 FL bL I' (.cons rfl .nil) ⟨a, t, xs, rfl, Tm _ _ _ _ _ (sG.trans sG') hT, hxl, rfl, rfl⟩) (fun r s2 z => ?_) fun _ _ z => z
  obtain ⟨w, H2, I2, rw2, rfl, rfl⟩ := z
  obtain ⟨tk, rfl⟩ := (show ∃ t, r = Value.int xs.length t from rw2)
  have hsz : (xs.length : Int) < 2 ^ 63 := by have := sizeLine_eq; omega
  refine ⟨⟨by omega, hsz⟩, _, _, rfl, by omega, ?_⟩
  have I3 := I2.tok (s2.toks + 1)
  have gq2 : upd G it (TitO t it 0) q = some (.lst []) := by rw [upd_ne nqi]; exact gq
  have hit0 : H it = none := sG.free nit
  have go : ∀ s3, Inv X pins σ (upd G it (TitO t it 0)) s3 → codeAny (model X.prog X.w) A1 (.builtin "list.extend.loop" ⟨[.ref q, .ref it, .none], []⟩) Rs s3 := fun s3 J3 =>
    titLoop nqi hh hxl herr hS hit0 fr hdone xs.length 0 _ _ (by omega) J3 (sG.trans sG') upd_same (by rw [List.take_zero]; exact gq2)
  refine wpAny_ite_split (fun _ => ?_) (fun _ => wpAny_pure ⟨plainId_quiet PySem.F.plain_extend_loop _, go _ I3⟩)
  refine wpAny_bind (wpAny_rule ?_)
  refine wpAny_bind ?_
  show wpAny _ _ (updateSeq q (·.push .none) >>= fun _ => updateSeq q (·.pop)) _ _ _
  obtain ⟨z3, its, k, r3, hl3, e3⟩ := I3.lstM gq2
  cases r3
  refine wpAny_bind (wpAny_updateSeq e3 rfl ?_)
  have I4 := I3.lset (f := (·.push Value.none)) (its' := [Value.none]) (ys := [.non]) (t' := s2.toks + 1) gq2 e3 (by simp) (.cons rfl .nil) (by rw [List.length_singleton, sizeLine_eq]; decide)
  obtain ⟨z4, its4, k4, r4, hl4, e4⟩ := I4.lstM upd_same
  obtain ⟨u4, rfl, ru4⟩ := r4.one
  refine wpAny_updateSeq e4 rfl (wpAny_pure ⟨plainId_quiet PySem.F.plain_extend_loop _, go _ ?_⟩) (by show 1 ≤ sizeLine; rw [sizeLine_eq]; decide) (by show 0 ≤ sizeLine + 1; exact Nat.zero_le _)
  have I5 := I4.lset (f := (·.pop)) (its := [u4]) (its' := []) (ys := []) (t' := s2.toks + 1) upd_same e4 (by rfl) .nil (Nat.zero_le _)
  rw [upd_upd] at I5
  have back : upd (upd G it (TitO t it 0)) q (.lst []) = upd G it (TitO t it 0) := by
    funext b
    by_cases hb : b = q
    · rw [hb, upd_same, gq2]
    · rw [upd_ne hb]
  rw [back] at I5
  exact I5
theorem call_listIt {T : Addr → Hp → Addr → List V → Prop} {fi fl : Addr} {fdI fdL : FuncData} {psI psL : List Str}
    (hi : PySem.W.findIn X.K (.ref C) "__iter__" = some (some (.ref fi))) (hif : PySem.W.isFn X.K (.ref fi) = true) (hl : PySem.W.findIn X.K (.ref C) "__len__" = some (some (.ref fl))) (hlf : PySem.W.isFn X.K (.ref fl) = true)
    (FI : FnOk X.prog X.w X.K X.mg X.base CX0 n fi fdI psI (spIterT X.K T)) (bI : Binds X.K fdI psI []) (FL : FnOk X.prog X.w X.K X.mg X.base CX0 n fl fdL psL (spLenT T)) (bL : Binds X.K fdL psL []) (Tm : ∀ a H H' t xs, Same H H' → T a H t xs → T a H' t xs)
    (hr : Room (n + 3) X.A) (hc : X.calm = true) : CallR X (.type "list") (rListIt X.K C T) := by
  intro pins s σ H vs us Q I rv h
  obtain ⟨a, dx, fs, t, xs, rfl, ha, hT, hS, q⟩ := h
  obtain ⟨u, rfl, ru⟩ := rv.one
  cases (show u = Value.ref a from ru)
  have sb : Sub X (n + 1) X.A.in1.in1 := Sub.in1 (Sub.in1 (⟨hr, rfl⟩ : Sub X (n + 3) X.A))
  have hh : X.A.in1.in1.handled = none := I.ok.hd hc
  refine callType_codes (Q₁ := fun obj s₁ => obj = .ref s.heap.objs.size ∧ s₁ = { s with heap := s.heap.push { cls := .type "list", data := .seq #[] } }) PySem.F.called_list (PySem.F.typeCall_list_1 _) PySem.F.entry_list_init (code_list_new _ ⟨rfl, rfl⟩) fun obj s₁ z => ?_
  obtain ⟨rfl, rfl⟩ := z
  have at_ : (s.heap.push { cls := .type "list", data := .seq #[] }).get? s.heap.objs.size = some { cls := .type "list", data := .seq #[] } := Heap.get?_push_size _ rfl
  refine ⟨⟨_, at_, rfl⟩, PySem.F.args_list_init_2 _ _, ?_⟩
  have fr := I.hok.fresh (Nat.le_refl s.heap.objs.size)
  have I1 := I.lnew (its := []) (t' := s.toks) .nil (Nat.zero_le _)
  show wpAny _ _ (do let old ← Builtin.List.listItems (.ref s.heap.objs.size); Builtin.List.listUpdate (.ref s.heap.objs.size) (fun _ => #[]); letGo old.toList.reverse; Builtin.List.listExtendWith (.ref s.heap.objs.size) (.ref a) .none) _ _ _
  unfold Builtin.List.listItems
  refine wpAny_bind (wpAny_bind (wpAny_seqItems at_ rfl (wpAny_pure ?_)))
  show wpAny _ _ (updateSeq s.heap.objs.size (fun _ => #[]) >>= fun _ => letGo (#[] : Array Value).toList.reverse >>= fun _ => Builtin.List.listExtendWith (.ref s.heap.objs.size) (.ref a) .none) _ _ _
  refine wpAny_bind (wpAny_updateSeq at_ rfl (wpAny_bind (wpAny_letGo ?_)))
  have I2 := I1.lset (f := fun _ => #[]) (its := []) (its' := []) (ys := []) (t' := s.toks) upd_same at_ rfl .nil (Nat.zero_le _)
  rw [upd_upd] at I2
  exact listIt_extend (A1 := X.A.in1) (Rs := wants (fun r s₂ => r = .none ∧ EP X pins σ Q (.ref s.heap.objs.size) s₂) X.xe) hi hif hl hlf FI bI FL bL Tm sb hh (fun e s' z => z) I2 fr rfl ha hT hS
    (fun H' s' J sm e => ⟨rfl, .ref s.heap.objs.size, H', J, rfl, q _ H' fr sm e⟩)
end
end L2

set_option Elab.async false
set_option linter.all false
set_option maxRecDepth 100000
namespace KP
open PySem PySem.Spec PyProof.Rows L2
abbrev S := L2.St
section
variable {σ : S} {H : Hp} {Q : VK} {QT : Bool → Hp → Prop} {QA : List V → Hp → Prop} {v x y : V} {ta tb te tl : TE} {t u : TT} {r : R2} {i : Nat} {D : Ends} {s1 s2 : TS} {g : TG} {K : PySem.W.Frag} {ar : TA} {vs : List V} {sp : Sp} {E : XK}
theorem i_var (h : σ[i]? = some (some v)) (q : Q v H) : tVar i σ H Q := ⟨v, h, q⟩
theorem i_c (q : Q v H) : tC v σ H Q := q
theorem i_op (q : ta σ H fun x H1 => tb σ H1 fun y H2 => r x y H2 Q) : tOp r ta tb σ H Q := q
theorem i_un {r : V → Hp → VK → Prop} (q : ta σ H fun x H1 => r x H1 Q) : tUn r ta σ H Q := q
theorem i_test (q : te σ H fun x H' => ∃ k, x = .bl k ∧ QT k H') : tTest te σ H QT := q
theorem i_B (q : te σ H fun x H' => ∃ k, x = .bl k ∧ QT k H') : tB te σ H QT := q
theorem i_and (q : t σ H fun c H1 => if c = true then u σ H1 QT else QT false H1) : tAnd t u σ H QT := q
theorem i_or (q : t σ H fun c H1 => if c = true then QT true H1 else u σ H1 QT) : tOr t u σ H QT := q
theorem i_not (q : t σ H fun c H1 => QT (!c) H1) : tNot t σ H QT := q
theorem i_andV (q : ta σ H fun x H1 => ∃ c, x = .bl c ∧ if c = true then tb σ H1 Q else Q (.bl false) H1) : tAndV ta tb σ H Q := q
theorem i_orV (q : ta σ H fun x H1 => ∃ c, x = .bl c ∧ if c = true then Q (.bl true) H1 else tb σ H1 Q) : tOrV ta tb σ H Q := q
theorem i_notV (q : ta σ H fun x H1 => ∃ c, x = .bl c ∧ Q (.bl (!c)) H1) : tNotV ta σ H Q := q
theorem i_tif (q : t σ H fun c H1 => if c = true then ta σ H1 Q else tb σ H1 Q) : tIf t ta tb σ H Q := q
theorem i_exb {b : Bool} {A : Bool → Prop} (q : A b) : ∃ k, V.bl b = .bl k ∧ A k := ⟨b, rfl, q⟩
theorem i_seq (q : s1 { D with nx := s2 D } σ H) : tSeq s1 s2 D σ H := q
theorem i_asg (q : te σ H fun x H1 => g x σ H1 D.nx) : tAsg te g D σ H := q
theorem i_gname {QN : S → Hp → Prop} (q : QN (σ.set i (some v)) H) : gName i v σ H QN := q
theorem i_drop (q : te σ H fun _ H1 => D.nx σ H1) : tDrop te D σ H := q
theorem i_ret (q : te σ H D.rt) : tRet te D σ H := q
theorem i_retN (q : D.rt .non H) : tRetN D σ H := q
theorem i_next (q : D.nx σ H) : tNext D σ H := q
theorem i_ifS (q : t σ H fun b H1 => if b = true then s1 D σ H1 else s2 D σ H1) : tIfS t s1 s2 D σ H := q
theorem i_nil (q : QA [] H) : tNil σ H QA := q
theorem i_cons (q : te σ H fun x H1 => ar σ H1 fun xs H2 => QA (x :: xs) H2) : tCons te ar σ H QA := q
theorem i_cb {r : List V → Hp → VK → Prop} (q : ar σ H fun vs H1 => r vs H1 Q) : tCB r ar σ H Q := q
theorem i_call {dvs : List V} (q : ar σ H fun vs H1 => sp (vs ++ dvs) H1 Q E) : tCall sp dvs E ar σ H Q := q
theorem i_rI0 {g : Int → Int → V} {i j : Int} (q : Q (g i j) H) : rI0 g (.int i) (.int j) H Q := ⟨i, j, rfl, rfl, q⟩
theorem i_rI {C : Int → Int → Prop} {g : Int → Int → V} {i j : Int} (c : C i j) (q : Q (g i j) H) : rI C g (.int i) (.int j) H Q := ⟨i, j, rfl, rfl, c, q⟩
theorem i_rU {g : Int → V} {i : Int} (q : Q (g i) H) : rU g (.int i) H Q := ⟨i, rfl, q⟩
theorem i_eq (h : scal x y = true) (q : Q (.bl (decide (x = y))) H) : rEq x y H Q := ⟨h, q⟩
theorem i_ne (h : scal x y = true) (q : Q (.bl (!decide (x = y))) H) : rNe x y H Q := ⟨h, q⟩
theorem i_bm {T : String} {r : V → List V → Hp → VK → Prop} (q : te σ H fun x H1 => tyV K T x H1 ∧ ar σ H1 fun xs H2 => r x xs H2 Q) : tBM K T r te ar σ H Q := q
theorem i_append {l : Addr} {xs : List V} (h : H l = some (.lst xs)) (z : xs.length ≤ 1000) (q : Q .non (upd H l (.lst (xs ++ [y])))) : rAppend (.ref l) [y] H Q := ⟨l, xs, y, rfl, rfl, h, small1000 z, q⟩
theorem i_tyL {l : Addr} {xs : List V} {A : Prop} (h : SqL K H l xs) (q : A) : tyV K "list" (.ref l) H ∧ A := ⟨.inl ⟨rfl, _, h⟩, q⟩
theorem i_ixL {p : Addr} {xs : List V} {j : Int} (h : SqL K H p xs) (e : atI xs j = some v) (q : Q v H) : rIxL K (.ref p) (.int j) H Q := ⟨p, xs, j, v, rfl, rfl, h, e, q⟩
theorem i_ixT {p : Addr} {xs : List V} {j : Int} (h : SqT K H p xs) (e : atI xs j = some v) (q : Q v H) : rIxT K (.ref p) (.int j) H Q := ⟨p, xs, j, v, rfl, rfl, h, e, q⟩
theorem i_fld {a C dx : Addr} {fs : List (Str × V)} {f : Str} (q : te σ H fun x H1 => ∃ a C dx fs v, x = .ref a ∧ H1 a = some (.ins C dx fs) ∧ Cls K C ∧ NoAttr K C f ∧ fs.lookup f = some v ∧ Q v H1) : tFld K te f σ H Q := q
theorem i_yes {Q : Bool → Hp → Prop} (q : Q true H) : tYes σ H Q := q
end
theorem same_new {H : Hp} {p : Addr} {o : HO} (h : H p = none) : Same H (upd H p o) := fun b x e => by
  rw [upd_ne (ne_of_none e h)]
  exact e
/-- what is ours changes -/
theorem same_own {H H' : Hp} {p : Addr} {o : HO} (h : H p = none) (sm : Same H H') : Same H (upd H' p o) := fun b x e => by
  rw [upd_ne (ne_of_none e h)]
  exact sm b x e
/-- the names that are still the built-ins' -/
structure Blt (mg : Str → Option Value) : Prop where
  len : mg "len" = none
  int : mg "int" = none
  abs : mg "abs" = none
  range : mg "range" = none
  list : mg "list" = none
  tuple : mg "tuple" = none
  isinstance : mg "isinstance" = none
  iter : mg "iter" = none
  all : mg "all" = none
  any : mg "any" = none
  bool : mg "bool" = none
  str : mg "str" = none
  sorted : mg "sorted" = none
  ValueError : mg "ValueError" = none
  dict : mg "dict" = none
  enumerate : mg "enumerate" = none
  set : mg "set" = none
/-- a def of the module, called by its name -/
structure OkF (P : Program) (w : World) (K : PySem.W.Frag) (mg : Str → Option Value) (base : Heap) (CX : CXT) (k : Nat) (x : Str) (ps : List Str) (sp : Sp) : Prop where
  ex : ∃ f fd, mg x = some (.ref f) ∧ PySem.W.keepIn K (.ref f) = true ∧ Binds K fd ps [] ∧ FnOk P w K mg base CX k f fd ps sp
/-- where a def of the module stands -/
structure FnAt (K : PySem.W.Frag) (mg : Str → Option Value) (x : Str) (st : Stmt) (ps : List Str) : Prop where
  ex : ∃ f fd, mg x = some (.ref f) ∧ Binds K fd ps [] ∧ Fun K x x st f fd
theorem FnAt.ok {P : Program} {w : World} {K : PySem.W.Frag} {mg : Str → Option Value} {base : Heap} {CX : CXT} {k : Nat} {x : Str} {st : Stmt} {ps : List Str} {sp : Sp} (A : FnAt K mg x st ps) (h : ∀ f fd, Fun K x x st f fd → FnOk P w K mg base CX k f fd ps sp) : OkF P w K mg base CX k x ps sp := by
  obtain ⟨f, fd, e, b, F⟩ := A.ex
  exact ⟨f, fd, e, F.kp, b, h f fd F⟩
section
variable {X : Cx} {CX : CXT} {k : Nat} {ps : List Str} {sp : Sp} {E : XK} {x : Str} {p pos : Pos} {e : Expr} {es : List Expr} {t : TA}
theorem pe_callO (O : OkF X.prog X.w X.K X.mg X.base CX k x ps sp) (hr : Room k X.A) (ha : PA X (e :: es) t) (hx : Passes CX X E := by exact pass0) (hg : Gl X x := by rfl)
    (he : starEach (e :: es) X.env = (false, eval e X.env) :: starEach es X.env := by rfl) (hpl : (backTo pos (starEach es X.env)).any (·.1) = false := by rfl) (hdb : (x == ("__debug__" : Str)) = false := by decide) :
    PE X (.Call (.Name x p) (e :: es) [] pos) (tCall sp [] E t) := by
  obtain ⟨f, fd, hm, hk, hb, F⟩ := O.ex
  exact pe_call F hr hg hm hk hb .nil hx ha hdb he hpl
theorem pe_callO0 (O : OkF X.prog X.w X.K X.mg X.base CX k x ps sp) (hr : Room k X.A) (hx : Passes CX X E := by exact pass0) (hg : Gl X x := by rfl) (hdb : (x == ("__debug__" : Str)) = false := by decide) :
    PE X (.Call (.Name x p) [] [] pos) (tCall sp [] E tNil) := by
  obtain ⟨f, fd, hm, hk, hb, F⟩ := O.ex
  exact pe_call0 F hr hg hm hk hb .nil hx hdb
end
theorem _root_.L2.Room.units1 {A : Around} {k : Nat} (hr : Room k A) : A.units + 65 < cLine := by have := hr.un; omega
theorem hu1 {A : Around} {k : Nat} (hr : Room k A) : A.units + 65 < cLine := by have := hr.un; omega

/-! ### calls by names of their own -/
section
variable {X : Cx} {K : PySem.W.Frag} {H : Hp} {Q : VK} {a : Addr} {xs : List V} {i : Int} {b : Bool} {z : Str}
def rLenL (K : PySem.W.Frag) : List V → Hp → VK → Prop := fun vs H Q => ∃ p ys, vs = [V.ref p] ∧ SqL K H p ys ∧ Q (.int ys.length) H
def rLenT (K : PySem.W.Frag) : List V → Hp → VK → Prop := fun vs H Q => ∃ p ys, vs = [V.ref p] ∧ SqT K H p ys ∧ Q (.int ys.length) H
theorem call_lenL : CallR X (.builtin "len") (rLenL X.K) := fun pins s σ H xs us Q I r ⟨p, ys, e, h, q⟩ => call_len_seq pins s σ H xs us Q I r ⟨p, ys, e, .inl h, q⟩
theorem call_lenT : CallR X (.builtin "len") (rLenT X.K) := fun pins s σ H xs us Q I r ⟨p, ys, e, h, q⟩ => call_len_seq pins s σ H xs us Q I r ⟨p, ys, e, .inr h, q⟩
theorem i_lenL (h : SqL K H a xs) (q : Q (.int xs.length) H) : rLenL K [.ref a] H Q := ⟨a, xs, rfl, h, q⟩
theorem i_lenT (h : SqT K H a xs) (q : Q (.int xs.length) H) : rLenT K [.ref a] H Q := ⟨a, xs, rfl, h, q⟩
def rIntI : List V → Hp → VK → Prop := fun vs H Q => ∃ i, vs = [V.int i] ∧ Q (.int i) H
def rIntB : List V → Hp → VK → Prop := fun vs H Q => ∃ k, vs = [V.bl k] ∧ Q (.int (if k then 1 else 0)) H
theorem call_intI : CallR X (.type "int") rIntI := fun pins s σ H xs us Q I r h => call_int1 pins s σ H xs us Q I r (.inl h)
theorem call_intB : CallR X (.type "int") rIntB := fun pins s σ H xs us Q I r h => call_int1 pins s σ H xs us Q I r (.inr h)
theorem i_intI (q : Q (.int i) H) : rIntI [.int i] H Q := ⟨i, rfl, q⟩
theorem i_intB (q : Q (.int (if b then 1 else 0)) H) : rIntB [.bl b] H Q := ⟨b, rfl, q⟩
def rAbsI : List V → Hp → VK → Prop := fun vs H Q => ∃ i, vs = [V.int i] ∧ Q (.int (if i < 0 then -i else i)) H
theorem call_absI : CallR X (.builtin "abs") rAbsI := fun pins s σ H xs us Q I r h => call_abs pins s σ H xs us Q I r h
theorem i_absI (q : Q (.int (if i < 0 then -i else i)) H) : rAbsI [.int i] H Q := ⟨i, rfl, q⟩
/-- list(l), list(t); tuple(l) -/
def rListL (K : PySem.W.Frag) : List V → Hp → VK → Prop := fun vs H Q => ∃ p ys, vs = [V.ref p] ∧ SqL K H p ys ∧ ∀ l H', H l = none → Same H H' → H' l = some (.lst ys) → Q (.ref l) H'
def rListT (K : PySem.W.Frag) : List V → Hp → VK → Prop := fun vs H Q => ∃ p ys, vs = [V.ref p] ∧ SqT K H p ys ∧ ∀ l H', H l = none → Same H H' → H' l = some (.lst ys) → Q (.ref l) H'
def rTupL (K : PySem.W.Frag) : List V → Hp → VK → Prop := fun vs H Q => ∃ p ys, vs = [V.ref p] ∧ SqL K H p ys ∧ ∀ l H', H l = none → Same H H' → H' l = some (.tup ys) → Q (.ref l) H'
def rTupT (K : PySem.W.Frag) : List V → Hp → VK → Prop := fun vs H Q => ∃ p ys, vs = [V.ref p] ∧ SqT K H p ys ∧ Q (.ref p) H
theorem call_listL : CallR X (.type "list") (rListL X.K) := fun pins s σ H xs us Q I r ⟨p, ys, e, h, q⟩ => call_list_of pins s σ H xs us Q I r ⟨p, ys, e, .inl h, fun l hl => q l _ hl (same_new hl) upd_same⟩
theorem call_listT : CallR X (.type "list") (rListT X.K) := fun pins s σ H xs us Q I r ⟨p, ys, e, h, q⟩ => call_list_of pins s σ H xs us Q I r ⟨p, ys, e, .inr h, fun l hl => q l _ hl (same_new hl) upd_same⟩
theorem call_tupL : CallR X (.type "tuple") (rTupL X.K) := fun pins s σ H xs us Q I r ⟨p, ys, e, h, q⟩ => call_tuple_of pins s σ H xs us Q I r ⟨p, ys, e, .inl ⟨h, fun l hl => q l _ hl (same_new hl) upd_same⟩⟩
theorem call_tupT : CallR X (.type "tuple") (rTupT X.K) := fun pins s σ H xs us Q I r ⟨p, ys, e, h, q⟩ => call_tuple_of pins s σ H xs us Q I r ⟨p, ys, e, .inr ⟨h, q⟩⟩
theorem i_listL (h : SqL K H a xs) (q : ∀ l H', H l = none → Same H H' → H' l = some (.lst xs) → Q (.ref l) H') : rListL K [.ref a] H Q := ⟨a, xs, rfl, h, q⟩
theorem i_listT (h : SqT K H a xs) (q : ∀ l H', H l = none → Same H H' → H' l = some (.lst xs) → Q (.ref l) H') : rListT K [.ref a] H Q := ⟨a, xs, rfl, h, q⟩
theorem i_tupL (h : SqL K H a xs) (q : ∀ l H', H l = none → Same H H' → H' l = some (.tup xs) → Q (.ref l) H') : rTupL K [.ref a] H Q := ⟨a, xs, rfl, h, q⟩
theorem i_tupT (h : SqT K H a xs) (q : Q (.ref a) H) : rTupT K [.ref a] H Q := ⟨a, xs, rfl, h, q⟩
end
section
variable {K : PySem.W.Frag} {σ : S} {H : Hp} {Q : VK} {ar : TA} {te : TE} {xs : List V}
/-- a new list, a new tuple: the heap behind it by what it holds -/
def RawL (Q : VK) (xs : List V) (H1 : Hp) : Prop := xs.length ≤ sizeLine ∧ ∀ p, H1 p = none → Q (.ref p) (upd H1 p (.lst xs))
def RawT (Q : VK) (xs : List V) (H1 : Hp) : Prop := xs.length ≤ sizeLine ∧ ∀ p, H1 p = none → Q (.ref p) (upd H1 p (.tup xs))
theorem i_tup (q : ar σ H (RawT Q)) : tTup ar σ H Q := q
theorem i_lst (q : ar σ H (RawL Q)) : tLst ar σ H Q := q
theorem fr_tup {H1 : Hp} (z : xs.length ≤ 1000) (h : ∀ p H2, H1 p = none → Same H1 H2 → H2 p = some (.tup xs) → Q (.ref p) H2) : RawT Q xs H1 := ⟨Nat.le_of_lt (small1000 z), fun p hp => h p _ hp (same_new hp) upd_same⟩
theorem fr_lst {H1 : Hp} (z : xs.length ≤ 1000) (h : ∀ p H2, H1 p = none → Same H1 H2 → H2 p = some (.lst xs) → Q (.ref p) H2) : RawL Q xs H1 := ⟨Nat.le_of_lt (small1000 z), fun p hp => h p _ hp (same_new hp) upd_same⟩
end
theorem Same.at {G H : Hp} {a : Addr} {o : HO} (s : Same G H) (g : G a = some o) : H a = some o := s a o g
theorem Same.sl {K : PySem.W.Frag} {G H : Hp} {a : Addr} {xs : List V} (s : Same G H) (g : SqL K G a xs) : SqL K H a xs := s.seq g
theorem Same.st {K : PySem.W.Frag} {G H : Hp} {a : Addr} {xs : List V} (s : Same G H) (g : SqT K G a xs) : SqT K H a xs := SqT.ext g s
theorem sl_of {K : PySem.W.Frag} {H : Hp} {a : Addr} {xs : List V} (h : H a = some (.lst xs)) : SqL K H a xs := .inl (.inl h)
theorem st_of {K : PySem.W.Frag} {H : Hp} {a : Addr} {xs : List V} (h : H a = some (.tup xs)) : SqT K H a xs := .inl (.inl h)

theorem i_cut {t u : TS} {D : Ends} {σ : S} {H : Hp} (Mid : S → Hp → Prop) (a : t { D with nx := Mid } σ H) (b : ∀ σ' H', Mid σ' H' → u D σ' H') : Evl.tCut t u D σ H := ⟨Mid, a, b⟩
section
variable {K : PySem.W.Frag} {ta : TA} {tl : TE} {D : Ends} {σ : S} {H : Hp} {i : Nat} {tb : TS} {g : TG}
def RawFor (g : TG) (tb : TS) (D : Ends) (σ : S) (J : It) (H1 : Hp) : Prop := tFor (fun _ _ R => R J H1) g tb D σ H1
def RawR1 (g : TG) (tb : TS) (D : Ends) (σ : S) (vs : List V) (H1 : Hp) : Prop := ∃ j : Int, vs = [.int j] ∧ -(2 ^ 62) ≤ j ∧ j < 2 ^ 62 ∧ RawFor g tb D σ (Itr 0 j.toNat) H1
def RawFL (K : PySem.W.Frag) (g : TG) (tb : TS) (D : Ends) (σ : S) (x : V) (H1 : Hp) : Prop := ∃ a, x = .ref a ∧ (∃ xs, SqL K H1 a xs) ∧ RawFor g tb D σ (Itl K a) H1
def RawFT (K : PySem.W.Frag) (g : TG) (tb : TS) (D : Ends) (σ : S) (x : V) (H1 : Hp) : Prop := ∃ a, x = .ref a ∧ (∃ xs, SqT K H1 a xs) ∧ RawFor g tb D σ (Itt K a) H1
theorem i_forR1 (q : ta σ H (RawR1 g tb D σ)) : tFor (iRng1 ta) g tb D σ H := q
theorem i_forL (q : tl σ H (RawFL K g tb D σ)) : tFor (iList K tl) g tb D σ H := q
theorem i_forT (q : tl σ H (RawFT K g tb D σ)) : tFor (iTup K tl) g tb D σ H := q
/-- for k in range(j): the invariant, its start, a turn, the end -/
theorem raw_r1 {j : Int} (h1 : 0 ≤ j) (h2 : j ≤ 1000000) (Pv : Nat → S → Hp → Prop) (p0 : Pv 0 σ H) (hs : ∀ (n : Nat) σ H, (n : Int) < j → Pv n σ H → tb { D with nx := Pv (n + 1), ct := Pv (n + 1), bk := D.nx } (σ.set i (some (.int (n : Int)))) H)
    (hd : ∀ (n : Nat) σ H, (n : Int) = j → Pv n σ H → D.nx σ H) : RawR1 (gName i) tb D σ [.int j] H := by
  refine ⟨j, rfl, by omega, by omega, for_range (lo := 0) (n := j.toNat) Pv p0 (fun n σ H hn p => ?_) (fun σ H p => hd _ σ H (by omega) p)⟩
  have := hs n σ H (by omega) p
  show tb _ (σ.set i (some (.int (0 + (n : Int))))) H
  rw [Int.zero_add]
  exact this
theorem raw_fl {a : Addr} {xs : List V} (hS : SqL K H a xs) (Pv : Nat → S → Hp → Prop) (p0 : Pv 0 σ H) (hl : ∀ i σ H, i ≤ xs.length → Pv i σ H → SqL K H a xs)
    (hs : ∀ i x σ H, xs[i]? = some x → Pv i σ H → g x σ H fun σ2 H2 => tb { D with nx := Pv (i + 1), ct := Pv (i + 1), bk := D.nx } σ2 H2) (hd : ∀ σ H, Pv xs.length σ H → D.nx σ H) : RawFL K g tb D σ (.ref a) H :=
  ⟨a, rfl, ⟨_, hS⟩, for_list (xs := xs) Pv p0 hl hs hd⟩
theorem raw_ft {a : Addr} {xs : List V} (hS : SqT K H a xs) (Pv : Nat → S → Hp → Prop) (p0 : Pv 0 σ H) (hl : ∀ i σ H, i ≤ xs.length → Pv i σ H → SqT K H a xs)
    (hs : ∀ i x σ H, xs[i]? = some x → Pv i σ H → g x σ H fun σ2 H2 => tb { D with nx := Pv (i + 1), ct := Pv (i + 1), bk := D.nx } σ2 H2) (hd : ∀ σ H, Pv xs.length σ H → D.nx σ H) : RawFT K g tb D σ (.ref a) H :=
  ⟨a, rfl, ⟨_, hS⟩, for_tup (xs := xs) Pv p0 hl hs hd⟩
end

/-! ### comprehensions -/
/-- the tuples stay -/
def TupK (H H' : Hp) : Prop := ∀ t xs, H t = some (.tup xs) → H' t = some (.tup xs)
theorem TupK.refl (H : Hp) : TupK H H := fun _ _ h => h
theorem TupK.trans {H H1 H2 : Hp} (a : TupK H H1) (b : TupK H1 H2) : TupK H H2 := fun t xs h => b t xs (a t xs h)
theorem Same.tk {H H' : Hp} (s : Same H H') : TupK H H' := fun t xs h => s t _ h
theorem tk_upd {H : Hp} {p : Addr} {o o' : HO} (h : H p = some o) (n : ∀ xs, o ≠ .tup xs) : TupK H (upd H p o') := fun t xs e => by
  by_cases q : t = p
  · subst q
    rw [h] at e
    exact absurd (Option.some.inj e) (n xs)
  · rw [upd_ne q]
    exact e
section
variable {K : PySem.W.Frag} {tl tl2 te : TE} {σ : S} {H : Hp} {Q : VK} {g g2 : TG} {tt tt2 : TT} {vs vs2 : List Nat} {ta : TA}
def RawLc (g : TG) (tt : TT) (te : TE) (vs : List Nat) (σ : S) (Q : VK) (J : It) (H1 : Hp) : Prop := tLc (fun _ _ R => R J H1) g tt te vs σ H1 Q
def RawLcL (K : PySem.W.Frag) (g : TG) (tt : TT) (te : TE) (vs : List Nat) (σ : S) (Q : VK) (x : V) (H1 : Hp) : Prop := ∃ a, x = .ref a ∧ (∃ xs, SqL K H1 a xs) ∧ RawLc g tt te vs σ Q (Itl K a) H1
def RawLcT (K : PySem.W.Frag) (g : TG) (tt : TT) (te : TE) (vs : List Nat) (σ : S) (Q : VK) (x : V) (H1 : Hp) : Prop := ∃ a, x = .ref a ∧ (∃ xs, SqT K H1 a xs) ∧ RawLc g tt te vs σ Q (Itt K a) H1
def RawLcR (g : TG) (tt : TT) (te : TE) (vs : List Nat) (σ : S) (Q : VK) (xs : List V) (H1 : Hp) : Prop := ∃ j : Int, xs = [.int j] ∧ -(2 ^ 62) ≤ j ∧ j < 2 ^ 62 ∧ RawLc g tt te vs σ Q (Itr 0 j.toNat) H1
theorem i_lcL (q : tl σ H (RawLcL K g tt te vs σ Q)) : tLc (iList K tl) g tt te vs σ H Q := q
theorem i_lcT (q : tl σ H (RawLcT K g tt te vs σ Q)) : tLc (iTup K tl) g tt te vs σ H Q := q
theorem i_lcR (q : ta σ H (RawLcR g tt te vs σ Q)) : tLc (iRng1 ta) g tt te vs σ H Q := q
/-- one turn of a comprehension, for any wish: it keeps, or it does not -/
def LcTurn (g : TG) (tt : TT) (te : TE) (vs : List Nat) (σ : S) (Pv : Nat → List V → Hp → Prop) (i : Nat) (x : V) (acc : List V) (H' : Hp) : Prop :=
  ∀ (Y : VK) (N : Hp → Prop), (∀ y H4, Same H' H4 → Pv (i + 1) (acc ++ [y]) H4 → Y y H4) → (∀ H3, Same H' H3 → Pv (i + 1) acc H3 → N H3) →
    g x (wipe σ vs) H' fun σ2 H2 => wipe σ2 vs = wipe σ vs ∧ tt σ2 H2 fun b H3 => if b = true then te σ2 H3 Y else N H3
theorem raw_lc {J : It} {n : Nat} {G : Hp → Prop} {Yl : Nat → V → Prop} (w : Walk J n G fun i H x H' => H' = H ∧ Yl i x) (hn : n ≤ 1000) (gm : ∀ H', Same H H' → G H') (Pv : Nat → List V → Hp → Prop) (mono : ∀ i acc H H', TupK H H' → Pv i acc H → Pv i acc H') (p0 : Pv 0 [] H)
    (hs : ∀ i x acc H', i < n → Yl i x → Same H H' → Pv i acc H' → LcTurn g tt te vs σ Pv i x acc H') (hd : ∀ D acc H', H D = none → Same H H' → H' D = some (.lst acc) → Pv n acc H' → Q (.ref D) H') : RawLc g tt te vs σ Q J H := fun D hD => by
  refine lc_it w (fun i H' => ∃ acc, H' D = some (.lst acc) ∧ acc.length ≤ i ∧ Same H H' ∧ Pv i acc H') ⟨[], upd_same, Nat.le_refl _, same_new hD, mono _ _ _ _ (Same.tk (same_new hD)) p0⟩ (fun i H' _ ⟨_, _, _, sm, _⟩ => gm H' sm) ?_ ?_
  · rintro i x H1 H2 hi ⟨acc, e, hl, sm, p⟩ ⟨rfl, y⟩
    refine hs i x acc H2 hi y sm p _ _ (fun y H4 s4 p4 => ?_) fun H3 s3 p3 => ?_
    · have e4 : H4 D = some (.lst acc) := s4 D _ e
      refine ⟨acc, e4, small1000 (by omega), acc ++ [y], upd_same, by simp; omega, same_own hD (sm.trans s4), mono _ _ _ _ (tk_upd e4 fun xs z => nomatch z) p4⟩
    · exact ⟨acc, s3 D _ e, by omega, sm.trans s3, p3⟩
  · rintro H' ⟨acc, e, hl, sm, p⟩
    exact hd D acc H' hD sm e p
theorem raw_lcL {a : Addr} {xs : List V} (hS : SqL K H a xs) (hn : xs.length ≤ 1000) (Pv : Nat → List V → Hp → Prop) (mono : ∀ i acc H H', TupK H H' → Pv i acc H → Pv i acc H') (p0 : Pv 0 [] H)
    (hs : ∀ i x acc H', xs[i]? = some x → Same H H' → Pv i acc H' → LcTurn g tt te vs σ Pv i x acc H') (hd : ∀ D acc H', H D = none → Same H H' → H' D = some (.lst acc) → Pv xs.length acc H' → Q (.ref D) H') : RawLcL K g tt te vs σ Q (.ref a) H :=
  ⟨a, rfl, ⟨_, hS⟩, raw_lc (Yl := fun i x => xs[i]? = some x) walk_list hn (fun H' s => s.seq hS) Pv mono p0 (fun i x acc H' _ => hs i x acc H') hd⟩
theorem raw_lcT {a : Addr} {xs : List V} (hS : SqT K H a xs) (hn : xs.length ≤ 1000) (Pv : Nat → List V → Hp → Prop) (mono : ∀ i acc H H', TupK H H' → Pv i acc H → Pv i acc H') (p0 : Pv 0 [] H)
    (hs : ∀ i x acc H', xs[i]? = some x → Same H H' → Pv i acc H' → LcTurn g tt te vs σ Pv i x acc H') (hd : ∀ D acc H', H D = none → Same H H' → H' D = some (.lst acc) → Pv xs.length acc H' → Q (.ref D) H') : RawLcT K g tt te vs σ Q (.ref a) H :=
  ⟨a, rfl, ⟨_, hS⟩, raw_lc (Yl := fun i x => xs[i]? = some x) walk_tup hn (fun H' s => SqT.ext hS s) Pv mono p0 (fun i x acc H' _ => hs i x acc H') hd⟩
theorem raw_lcR {j : Int} (h0 : 0 ≤ j) (hn : j ≤ 1000) (Pv : Nat → List V → Hp → Prop) (mono : ∀ i acc H H', TupK H H' → Pv i acc H → Pv i acc H') (p0 : Pv 0 [] H)
    (hs : ∀ (i : Nat) acc H', (i : Int) < j → Same H H' → Pv i acc H' → LcTurn g tt te vs σ Pv i (.int i) acc H') (hd : ∀ D acc H', H D = none → Same H H' → H' D = some (.lst acc) → Pv j.toNat acc H' → Q (.ref D) H') : RawLcR g tt te vs σ Q [.int j] H := by
  refine ⟨j, rfl, by omega, by omega, raw_lc (Yl := fun i x => x = .int (0 + (i : Int))) walk_range (by omega) (fun _ _ => trivial) Pv mono p0 (fun i x acc H' hi e => ?_) hd⟩
  subst e
  rw [Int.zero_add]
  exact hs i acc H' (by omega)
/-! two clauses -/
def RawLc2 (wi1 : TI) (g : TG) (tt : TT) (g1 : TG) (tt1 : TT) (te : TE) (vs vs1 : List Nat) (σ : S) (Q : VK) (J : It) (H1 : Hp) : Prop := tLc2 (fun _ _ R => R J H1) g tt wi1 g1 tt1 te vs vs1 σ H1 Q
/-- the inner walk: it has come, for any wish R of it -/
def InnerAt (wi : TI) (σ : S) (H' : Hp) (ys : List V) (G : Hp → Prop) : Prop := ∀ R : It → Hp → Prop, (∀ J1 H4, Walk J1 ys.length G (YAt ys) → Same H' H4 → R J1 H4) → wi σ H' R
/-- one turn within -/
def Lc2Turn (g1 : TG) (tt1 : TT) (te : TE) (vs1 : List Nat) (σ2 : S) (Pv : Nat → Nat → List V → Hp → Prop) (i j : Nat) (y : V) (acc : List V) (H' : Hp) : Prop :=
  ∀ (Y : VK) (N : Hp → Prop), (∀ y H4, Same H' H4 → Pv i (j + 1) (acc ++ [y]) H4 → Y y H4) → (∀ H3, Same H' H3 → Pv i (j + 1) acc H3 → N H3) →
    g1 y (wipe σ2 vs1) H' fun σ3 H5 => wipe σ3 vs1 = wipe σ2 vs1 ∧ tt1 σ3 H5 fun b H6 => if b = true then te σ3 H6 Y else N H6
theorem raw_lc2 {wi1 : TI} {J : It} {xs ys : List V} {G G1 : Hp → Prop} {i0 : Nat} (w : Walk J xs.length G (YAt xs)) (hn : xs.length * ys.length ≤ 1000) (gm : ∀ H', Same H H' → G H') (Pv : Nat → Nat → List V → Hp → Prop)
    (mono : ∀ i j acc H H', TupK H H' → Pv i j acc H → Pv i j acc H') (p0 : Pv 0 0 [] H) (next : ∀ i acc H', Pv i ys.length acc H' → Pv (i + 1) 0 acc H') (gm1 : ∀ H', Same H H' → G1 H') (hwi : ∀ x, wipe ((wipe σ vs).set i0 (some x)) vs = wipe σ vs)
    (hin : ∀ x H', Same H H' → InnerAt wi1 ((wipe σ vs).set i0 (some x)) H' ys G1)
    (hs : ∀ i j x y acc H', xs[i]? = some x → ys[j]? = some y → Same H H' → Pv i j acc H' → Lc2Turn g2 tt2 te vs2 ((wipe σ vs).set i0 (some x)) Pv i j y acc H')
    (hd : ∀ D acc H', H D = none → Same H H' → H' D = some (.lst acc) → Pv xs.length 0 acc H' → Q (.ref D) H') : RawLc2 wi1 (gName i0) tYes g2 tt2 te vs vs2 σ Q J H := fun D hD => by
  refine ⟨fun i m H' => m = xs.length - i ∧ i ≤ xs.length ∧ ∃ acc, H' D = some (.lst acc) ∧ acc.length ≤ i * ys.length ∧ Same H H' ∧ Pv i 0 acc H', ⟨xs.length, rfl, Nat.zero_le _, [], upd_same, Nat.zero_le _, same_new hD, mono _ _ _ _ _ (Same.tk (same_new hD)) p0⟩, ?_⟩
  rintro i m H' ⟨rfl, hi, acc, e, hl, sm, p⟩
  have q := gm H' sm
  by_cases hlt : i < xs.length
  · refine .inr ⟨w.goes i H' hlt q, fun H'' => ∃ acc, H'' D = some (.lst acc) ∧ acc.length ≤ (i + 1) * ys.length ∧ Same H H'' ∧ Pv (i + 1) 0 acc H'', fun H'' ⟨acc', z⟩ => ⟨xs.length - (i + 1), by omega, rfl, hlt, acc', z⟩, fun x H2 y => ?_⟩
    obtain ⟨rfl, hx⟩ := w.yields i H' x H2 hlt q y
    show wipe ((wipe σ vs).set i0 (some x)) vs = wipe σ vs ∧ _
    refine ⟨hwi x, ?_⟩
    refine i_yes ?_
    refine iteT ?_
    refine hin x H2 sm _ fun J1 H4 w1 s4 => ?_
    refine ⟨fun j k H' => k = ys.length - j ∧ j ≤ ys.length ∧ ∃ acc, H' D = some (.lst acc) ∧ acc.length ≤ i * ys.length + j ∧ Same H H' ∧ Pv i j acc H', ⟨ys.length, rfl, Nat.zero_le _, acc, s4 D _ e, hl, sm.trans s4, mono _ _ _ _ _ (Same.tk s4) p⟩, ?_⟩
    rintro j k H5 ⟨rfl, hj, acc, e, hl, sm, p⟩
    have g5 := gm1 H5 sm
    by_cases hjl : j < ys.length
    · refine .inr ⟨w1.goes j H5 hjl g5, fun H'' => ∃ acc, H'' D = some (.lst acc) ∧ acc.length ≤ i * ys.length + (j + 1) ∧ Same H H'' ∧ Pv i (j + 1) acc H'', fun H'' ⟨acc', z⟩ => ⟨ys.length - (j + 1), by omega, rfl, hjl, acc', z⟩, fun y H6 yy => ?_⟩
      obtain ⟨rfl, hy⟩ := w1.yields j H5 y H6 hjl g5 yy
      have hbig : i * ys.length + j < xs.length * ys.length := by
        have : (i + 1) * ys.length ≤ xs.length * ys.length := Nat.mul_le_mul_right _ hlt
        rw [Nat.add_mul] at this
        omega
      refine hs i j x y acc H6 hx hy sm p _ _ (fun z H7 s7 p7 => ?_) fun H7 s7 p7 => ?_
      · have e7 : H7 D = some (.lst acc) := s7 D _ e
        exact ⟨acc, e7, small1000 (by omega), acc ++ [z], upd_same, by simp; omega, same_own hD (sm.trans s7), mono _ _ _ _ _ (tk_upd e7 fun xs z => nomatch z) p7⟩
      · exact ⟨acc, s7 D _ e, by omega, sm.trans s7, p7⟩
    · have ej : j = ys.length := by omega
      subst ej
      exact .inl ⟨w1.stops H5 g5, acc, e, by rw [Nat.add_mul]; omega, sm, next i acc H5 p⟩
  · have ei : i = xs.length := by omega
    subst ei
    exact .inl ⟨w.stops H' q, hd D acc H' hD sm e p⟩
end
end KP

set_option Elab.async false
set_option linter.all false
set_option maxRecDepth 100000
namespace KP
open PySem PySem.Spec PyProof.Rows L2
/-! ### pairs -/
abbrev Pr := Str × Str
def kinds : List Str := ["read", "acquire", "write", "release"]
def kindsV : List V := kinds.map V.str
def kindB (x : Str) : Bool := decide (x ∈ kinds)
def allPairs : List Pr := [("read", "read"), ("read", "acquire"), ("read", "write"), ("read", "release"), ("acquire", "read"), ("acquire", "acquire"), ("acquire", "write"), ("acquire", "release"), ("write", "read"), ("write", "acquire"), ("write", "write"), ("write", "release"), ("release", "read"), ("release", "acquire"), ("release", "write"), ("release", "release")]
theorem all_at : ∀ i < 4, ∀ j < 4, allPairs[i * 4 + j]? = (kinds[i]?).bind fun a => (kinds[j]?).map fun b => (a, b) := by decide +kernel
theorem all_mem : ∀ p : Pr, p ∈ allPairs ↔ kindB p.1 = true ∧ kindB p.2 = true := by
  rintro ⟨a, b⟩
  constructor
  · intro h
    have : ∀ p ∈ allPairs, kindB p.1 = true ∧ kindB p.2 = true := by decide +kernel
    exact this _ h
  · rintro ⟨h1, h2⟩
    have e : ∀ x ∈ kinds, ∀ y ∈ kinds, (x, y) ∈ allPairs := by decide +kernel
    exact e a (of_decide_eq_true h1) b (of_decide_eq_true h2)
theorem all_nodup : allPairs.Nodup := by decide +kernel
def PairV (H : Hp) (v : V) (p : Pr) : Prop := ∃ t, v = .ref t ∧ H t = some (.tup [.str p.1, .str p.2])
abbrev PairsV (H : Hp) : List V → List Pr → Prop := Paired (PairV H)
theorem PairV.mono {H H' : Hp} {v : V} {p : Pr} (k : TupK H H') (h : PairV H v p) : PairV H' v p := let ⟨t, e, g⟩ := h; ⟨t, e, k _ _ g⟩
theorem PairsV.mono {H H' : Hp} (k : TupK H H') : ∀ {vs : List V} {ps : List Pr}, PairsV H vs ps → PairsV H' vs ps
  | _, _, .nil => .nil
  | _, _, .cons a b => .cons (a.mono k) (PairsV.mono k b)
theorem paired_app {α β : Type} {F : α → β → Prop} : ∀ {l1 : List α} {m1 : List β} {l2 : List α} {m2 : List β}, Paired F l1 m1 → Paired F l2 m2 → Paired F (l1 ++ l2) (m1 ++ m2)
  | _, _, _, _, .nil, h => h
  | _, _, _, _, .cons a b, h => .cons a (paired_app b h)
theorem paired_get {α β : Type} {F : α → β → Prop} : ∀ {l : List α} {m : List β} {i : Nat} {x : α}, Paired F l m → l[i]? = some x → ∃ y, m[i]? = some y ∧ F x y
  | _, _, _, _, .nil, e => by simp at e
  | _, _, 0, x, .cons a b, e => by simp at e; subst e; exact ⟨_, rfl, a⟩
  | _, _, i + 1, x, .cons a b, e => paired_get (i := i) b (by simpa using e)
theorem paired_get' {α β : Type} {F : α → β → Prop} : ∀ {l : List α} {m : List β} {i : Nat} {y : β}, Paired F l m → m[i]? = some y → ∃ x, l[i]? = some x ∧ F x y
  | _, _, _, _, .nil, e => by simp at e
  | _, _, 0, x, .cons a b, e => by simp at e; subst e; exact ⟨_, rfl, a⟩
  | _, _, i + 1, x, .cons a b, e => paired_get' (i := i) b (by simpa using e)
theorem paired_len {α β : Type} {F : α → β → Prop} : ∀ {l : List α} {m : List β}, Paired F l m → l.length = m.length
  | _, _, .nil => rfl
  | _, _, .cons _ b => congrArg Nat.succ (paired_len b)
theorem paired_snoc {α β : Type} {F : α → β → Prop} {l : List α} {m : List β} {x : α} {y : β} (h : Paired F l m) (r : F x y) : Paired F (l ++ [x]) (m ++ [y]) := paired_app h (.cons r .nil)
theorem paired_mono {α β : Type} {F G : α → β → Prop} (k : ∀ a b, F a b → G a b) : ∀ {l : List α} {m : List β}, Paired F l m → Paired G l m
  | _, _, .nil => .nil
  | _, _, .cons a b => .cons (k _ _ a) (paired_mono k b)
theorem take_snoc {α : Type} {l : List α} {i : Nat} {x : α} (h : l[i]? = some x) : l.take (i + 1) = l.take i ++ [x] := by rw [List.take_add_one, h]; rfl

/-! ### as data -/
def dPair (p : Pr) : PyData := .tuple [.str p.1, .str p.2]
theorem dp_pair {K : PySem.W.Frag} {H : Hp} {v : V} {p : Pr} (h : PairV H v p) : Dp K H v (dPair p) := by
  obtain ⟨t, rfl, e⟩ := h
  exact .tup (.inl (.inl e)) (.cons (.str _) (.cons (.str _) .nil))
theorem dp_pairs {K : PySem.W.Frag} {H : Hp} : ∀ {vs : List V} {ps : List Pr}, PairsV H vs ps → DpAll K H vs (ps.map dPair)
  | _, _, .nil => .nil
  | _, _, .cons a b => .cons (dp_pair a) (dp_pairs b)
theorem eqv_pair (p q : Pr) : PyData.eqv (dPair p) (dPair q) = decide (p = q) := by
  obtain ⟨a, b⟩ := p
  obtain ⟨c, d⟩ := q
  have e : PyData.eqv (dPair (a, b)) (dPair (c, d)) = ((a == c) && ((b == d) && true)) := by simp only [dPair, PyData.eqv, PyData.eqvAll]
  rw [e, Bool.and_true]
  by_cases h1 : a = c
  · by_cases h2 : b = d
    · subst h1 h2; simp
    · have : ¬ ((a, b) : Pr) = (c, d) := fun z => h2 (Prod.mk.inj z).2
      simp [this, h2]
  · have : ¬ ((a, b) : Pr) = (c, d) := fun z => h1 (Prod.mk.inj z).1
    simp [this, h1]
theorem eqv_pairs : ∀ ps qs : List Pr, PyData.eqvAll (ps.map dPair) (qs.map dPair) = decide (ps = qs)
  | [], [] => by simp [PyData.eqvAll]
  | [], _ :: _ => by simp [PyData.eqvAll]
  | _ :: _, [] => by simp [PyData.eqvAll]
  | p :: ps, q :: qs => by
    simp only [List.map_cons, PyData.eqvAll, eqv_pair, eqv_pairs ps qs]
    by_cases h1 : p = q
    · by_cases h2 : ps = qs
      · simp [h1, h2]
      · simp [h1, h2]
    · simp [h1]
theorem any_pairs (p : Pr) : ∀ ps : List Pr, ((ps.map dPair).any fun z => PyData.eqv z (dPair p)) = decide (p ∈ ps)
  | [] => by simp
  | q :: ps => by
    rw [List.map_cons, List.any_cons, any_pairs p ps, eqv_pair]
    by_cases h : q = p
    · subst h; simp
    · have h' : ¬ p = q := fun z => h z.symm
      simp [h, h']
def GoodP (p : Pr) : Bool := PyData.strOk p.1 && PyData.strOk p.2
theorem good_all : ∀ p ∈ allPairs, GoodP p = true := by decide +kernel
theorem lay_pair {p : Pr} (h : GoodP p = true) : (dPair p).canLay0 = true := by
  obtain ⟨h1, h2⟩ := Bool.and_eq_true_iff.mp h
  simp [dPair, PyData.canLay0, PyData.canLayAll0, h1, h2]
theorem lay_pairs : ∀ {ps : List Pr}, (∀ p ∈ ps, GoodP p = true) → PyData.canLayAll0 (ps.map dPair) = true
  | [], _ => by simp [PyData.canLayAll0]
  | p :: ps, h => by
    simp only [List.map_cons, PyData.canLayAll0]
    rw [lay_pair (h p (List.mem_cons_self ..)), lay_pairs fun q hq => h q (List.mem_cons_of_mem _ hq)] <;> rfl
theorem depth_pair (p : Pr) : (dPair p).depth = 1 := by simp [dPair, PyData.depth, PyData.depthAll]
theorem depth_pairs : ∀ ps : List Pr, PyData.depthAll (ps.map dPair) ≤ 1
  | [] => by simp [PyData.depthAll]
  | p :: ps => by
    have h1 := depth_pairs ps
    have h2 := depth_pair p
    simp only [List.map_cons, PyData.depthAll]
    omega
theorem shaped_pair {p : Pr} (h : GoodP p = true) : SeqAt.shaped (dPair p) = true := by
  show ((dPair p).canLay0 && decide ((dPair p).depth ≤ 64)) = true
  rw [lay_pair h, depth_pair] <;> rfl
theorem shaped_pairsL {ps : List Pr} (h : ∀ p ∈ ps, GoodP p = true) : SeqAt.shaped (.list (ps.map dPair)) = true := by
  have h1 := depth_pairs ps
  have h2 : PyData.depth (.list (ps.map dPair)) ≤ 64 := by simp only [PyData.depth]; omega
  show (PyData.canLay0 (.list (ps.map dPair)) && decide (PyData.depth (.list (ps.map dPair)) ≤ 64)) = true
  rw [Bool.and_eq_true]
  exact ⟨by simp only [PyData.canLay0]; exact lay_pairs h, decide_eq_true h2⟩
theorem shaped_pairsT {ps : List Pr} (h : ∀ p ∈ ps, GoodP p = true) : SeqAt.shaped (.tuple (ps.map dPair)) = true := by
  have h1 := depth_pairs ps
  have h2 : PyData.depth (.tuple (ps.map dPair)) ≤ 64 := by simp only [PyData.depth]; omega
  show (PyData.canLay0 (.tuple (ps.map dPair)) && decide (PyData.depth (.tuple (ps.map dPair)) ≤ 64)) = true
  rw [Bool.and_eq_true]
  exact ⟨by simp only [PyData.canLay0]; exact lay_pairs h, decide_eq_true h2⟩
/-- a list, a tuple of pairs stands at a -/
def PL (K : PySem.W.Frag) (H : Hp) (a : Addr) (ps : List Pr) : Prop := ∃ vs, SqL K H a vs ∧ PairsV H vs ps
def PT2 (K : PySem.W.Frag) (H : Hp) (a : Addr) (ps : List Pr) : Prop := ∃ vs, SqT K H a vs ∧ PairsV H vs ps
section
variable {K : PySem.W.Frag} {H H' : Hp} {Q : VK} {a b : Addr} {ps qs : List Pr} {x : V} {p : Pr}
theorem PL.mono (s : Same H H') (h : PL K H a ps) : PL K H' a ps := let ⟨vs, e, r⟩ := h; ⟨vs, s.seq e, r.mono (Same.tk s)⟩
theorem PT2.mono (s : Same H H') (h : PT2 K H a ps) : PT2 K H' a ps := let ⟨vs, e, r⟩ := h; ⟨vs, SqT.ext e s, r.mono (Same.tk s)⟩
theorem PL.dp (h : PL K H a ps) : Dp K H (.ref a) (.list (ps.map dPair)) := let ⟨_, e, r⟩ := h; .lst e (dp_pairs r)
theorem PT2.dp (h : PT2 K H a ps) : Dp K H (.ref a) (.tuple (ps.map dPair)) := let ⟨_, e, r⟩ := h; .tup e (dp_pairs r)
theorem i_eqPL (ha : PL K H a ps) (hb : PL K H b qs) (ga : ∀ p ∈ ps, GoodP p = true) (gb : ∀ p ∈ qs, GoodP p = true) (q : Q (.bl (decide (ps = qs))) H) : rEqD K (.ref a) (.ref b) H Q :=
  ⟨_, _, ha.dp, hb.dp, shaped_pairsL ga, shaped_pairsL gb, by simp only [PyData.eqv]; rw [eqv_pairs]; exact q⟩
theorem i_nePL (ha : PL K H a ps) (hb : PL K H b qs) (ga : ∀ p ∈ ps, GoodP p = true) (gb : ∀ p ∈ qs, GoodP p = true) (q : Q (.bl (!decide (ps = qs))) H) : rNeD K (.ref a) (.ref b) H Q :=
  ⟨_, _, ha.dp, hb.dp, shaped_pairsL ga, shaped_pairsL gb, by simp only [PyData.eqv]; rw [eqv_pairs]; exact q⟩
theorem i_eqPT (ha : PT2 K H a ps) (hb : PT2 K H b qs) (ga : ∀ p ∈ ps, GoodP p = true) (gb : ∀ p ∈ qs, GoodP p = true) (q : Q (.bl (decide (ps = qs))) H) : rEqD K (.ref a) (.ref b) H Q :=
  ⟨_, _, ha.dp, hb.dp, shaped_pairsT ga, shaped_pairsT gb, by simp only [PyData.eqv]; rw [eqv_pairs]; exact q⟩
theorem i_inPL (hx : PairV H x p) (ha : PL K H a ps) (gp : GoodP p = true) (ga : ∀ p ∈ ps, GoodP p = true) (q : Q (.bl (decide (p ∈ ps))) H) : rInD K x (.ref a) H Q :=
  ⟨_, _, dp_pair hx, ha.dp, shaped_pair gp, shaped_pairsL ga, by rw [any_pairs]; exact q⟩
theorem i_notInPL (hx : PairV H x p) (ha : PL K H a ps) (gp : GoodP p = true) (ga : ∀ p ∈ ps, GoodP p = true) (q : Q (.bl (!decide (p ∈ ps))) H) : rNotInD K x (.ref a) H Q :=
  ⟨_, _, dp_pair hx, ha.dp, shaped_pair gp, shaped_pairsL ga, by rw [any_pairs]; exact q⟩
end
section
variable {X : Cx}
/-- x in t, t a tuple of data -/
def rInTD (K : PySem.W.Frag) : R2 := fun x y H Q => ∃ d ds, Dp K H x d ∧ Dp K H y (.tuple ds) ∧ SeqAt.shaped d = true ∧ SeqAt.shaped (.tuple ds) = true ∧ Q (.bl (ds.any fun z => PyData.eqv z d)) H
def rNotInTD (K : PySem.W.Frag) : R2 := fun x y H Q => ∃ d ds, Dp K H x d ∧ Dp K H y (.tuple ds) ∧ SeqAt.shaped d = true ∧ SeqAt.shaped (.tuple ds) = true ∧ Q (.bl (!ds.any fun z => PyData.eqv z d)) H
theorem op_inTD (room : X.A.units + 65 < cLine) : OpR X (compareOp .In) (rInTD X.K) := by
  rintro pins s σ H x y v u Q I rx ry ⟨d, ds, hd, he, sd, se, q⟩
  obtain ⟨as, r1⟩ := Dp.reads I d x v hd rx
  obtain ⟨bs, r2⟩ := Dp.reads I (.tuple ds) y u he ry
  exact SeqAt.in_tuple_reads r2 r1 (SeqAt.canLay_of_shaped se) (SeqAt.canLay_of_shaped sd) (room_in_shaped sd room) ⟨.bl _, H, I, rfl, q⟩
theorem op_notInTD (room : X.A.units + 65 < cLine) : OpR X (compareOp .NotIn) (rNotInTD X.K) := by
  rintro pins s σ H x y v u Q I rx ry ⟨d, ds, hd, he, sd, se, q⟩
  obtain ⟨as, r1⟩ := Dp.reads I d x v hd rx
  obtain ⟨bs, r2⟩ := Dp.reads I (.tuple ds) y u he ry
  exact SeqAt.notIn_tuple_reads r2 r1 (SeqAt.canLay_of_shaped se) (SeqAt.canLay_of_shaped sd) (room_in_shaped sd room) ⟨.bl _, H, I, rfl, q⟩
end
section
variable {K : PySem.W.Frag} {H H' : Hp} {Q : VK} {a b : Addr} {ps qs : List Pr} {x : V} {p : Pr}
theorem i_inPT (hx : PairV H x p) (ha : PT2 K H a ps) (gp : GoodP p = true) (ga : ∀ p ∈ ps, GoodP p = true) (q : Q (.bl (decide (p ∈ ps))) H) : rInTD K x (.ref a) H Q :=
  ⟨_, _, dp_pair hx, ha.dp, shaped_pair gp, shaped_pairsT ga, by rw [any_pairs]; exact q⟩
theorem i_notInPT (hx : PairV H x p) (ha : PT2 K H a ps) (gp : GoodP p = true) (ga : ∀ p ∈ ps, GoodP p = true) (q : Q (.bl (!decide (p ∈ ps))) H) : rNotInTD K x (.ref a) H Q :=
  ⟨_, _, dp_pair hx, ha.dp, shaped_pair gp, shaped_pairsT ga, by rw [any_pairs]; exact q⟩
end
/-! ### methods of a class -/
structure MAt (K : PySem.W.Frag) (C : Addr) (m qual : Str) (st : Stmt) (ps : List Str) : Prop where
  ex : ∃ f fd, PySem.W.findIn K (.ref C) m = some (some (.ref f)) ∧ PySem.W.isFn K (.ref f) = true ∧ Binds K fd ps [] ∧ Fun K m qual st f fd
structure OkM (P : Program) (w : World) (K : PySem.W.Frag) (mg : Str → Option Value) (base : Heap) (CX : CXT) (k : Nat) (C : Addr) (m : Str) (ps : List Str) (sp : Sp) : Prop where
  ex : ∃ f fd, PySem.W.findIn K (.ref C) m = some (some (.ref f)) ∧ PySem.W.isFn K (.ref f) = true ∧ PySem.W.keepIn K (.ref f) = true ∧ Binds K fd ps [] ∧ FnOk P w K mg base CX k f fd ps sp
theorem MAt.ok {P : Program} {w : World} {K : PySem.W.Frag} {mg : Str → Option Value} {base : Heap} {CX : CXT} {k : Nat} {C : Addr} {m qual : Str} {st : Stmt} {ps : List Str} {sp : Sp} (A : MAt K C m qual st ps) (h : ∀ f fd, Fun K m qual st f fd → FnOk P w K mg base CX k f fd ps sp) : OkM P w K mg base CX k C m ps sp := by
  obtain ⟨f, fd, e, i, b, F⟩ := A.ex
  exact ⟨f, fd, e, i, F.kp, b, h f fd F⟩
section
variable {X : Cx} {CX : CXT} {k : Nat} {C : Addr} {ps : List Str} {sp : Sp} {E : XK}
theorem op_inM (O : OkM X.prog X.w X.K X.mg X.base CX k C "__contains__" ps sp) (hr : Room k X.A) (hx : Passes CX X E := by exact pass0) : OpR X (compareOp .In) (rInOwn C sp E) := by
  obtain ⟨f, fd, e, i, kp, b, F⟩ := O.ex
  exact op_inOwn e i F b hx hr
theorem op_notInM (O : OkM X.prog X.w X.K X.mg X.base CX k C "__contains__" ps sp) (hr : Room k X.A) (hx : Passes CX X E := by exact pass0) : OpR X (compareOp .NotIn) (rNotInOwn C sp E) := by
  obtain ⟨f, fd, e, i, kp, b, F⟩ := O.ex
  exact op_notInOwn e i F b hx hr
theorem call_lenM (O : OkM X.prog X.w X.K X.mg X.base CX k C "__len__" ps sp) (hr : Room (k + 1) X.A) (hx : Passes CX X E := by exact pass0) : CallR X (.builtin "len") (rLenOwn C sp E) := by
  obtain ⟨f, fd, e, i, kp, b, F⟩ := O.ex
  exact call_lenOwn e i F b hx hr
theorem call_listM {T : Addr → Hp → Addr → List V → Prop} {psI psL : List Str} (OI : OkM X.prog X.w X.K X.mg X.base CX0 k C "__iter__" psI (spIterT X.K T)) (OL : OkM X.prog X.w X.K X.mg X.base CX0 k C "__len__" psL (spLenT T)) (Tm : ∀ a H H' t xs, Same H H' → T a H t xs → T a H' t xs)
    (hr : Room (k + 3) X.A) (hc : X.calm = true := by rfl) : CallR X (.type "list") (rListIt X.K C T) := by
  obtain ⟨f, fd, e, i, kp, b, F⟩ := OI.ex
  obtain ⟨f2, fd2, e2, i2, kp2, b2, F2⟩ := OL.ex
  exact call_listIt e i e2 i2 F b F2 b2 Tm hr hc
end

/-! ### more readings -/
theorem ite_no {c : Bool} {A B : Prop} (h : c = false) (q : B) : if c = true then A else B := by rw [h, if_neg Bool.false_ne_true]; exact q
theorem ite_ok {c : Bool} {A B : Prop} (h : c = true) (q : A) : if c = true then A else B := by rw [h, if_pos rfl]; exact q
section
variable {K : PySem.W.Frag} {σ : S} {H : Hp} {Q : VK} {QT : Bool → Hp → Prop} {ta tb te td tv ty tl : TE} {D : Ends} {a b C dx : Addr} {xs : List V} {x y : V} {f : Str} {fs : List (Str × V)}
theorem i_isiTup (h : H a = some (.tup xs)) (q : Q (.bl true) H) : rIsi K [.ref a, .ty "tuple"] H Q := ⟨_, _, _, _, true, rfl, .ty _, .base (.tup h), kit_ty (by decide +kernel), q⟩
theorem inV_kinds (z : Str) : inV (.str z) kindsV = kindB z := by
  show ((kindsV).any fun y => eqV y (.str z)) = decide (z ∈ kinds)
  rw [show kindsV = kinds.map V.str from rfl, List.any_map]
  have e : ((fun y => eqV y (V.str z)) ∘ V.str) = fun y => (y == z) := by funext y; rfl
  rw [e, List.any_beq']
  exact List.contains_eq_mem z kinds
theorem flat_kinds : kindsV.all flatV = true := by decide
theorem i_inKinds {z : Str} (h : SqT K H a kindsV) (q : Q (.bl (kindB z)) H) : rIn K false (.str z) (.ref a) H Q := ⟨a, _, rfl, .inr h, rfl, flat_kinds, by
  show Q (.bl (if false = true then _ else inV _ _)) H
  rw [if_neg Bool.false_ne_true, inV_kinds]; exact q⟩
theorem i_dnewT (q : ∀ p H2, H p = none → Same H H2 → H2 p = some (.dT []) → Q (.ref p) H2) : tDNewT σ H Q := fun p hp => q p _ hp (same_new hp) upd_same
theorem i_dnewK (q : ∀ p H2, H p = none → Same H H2 → H2 p = some (.dK []) → Q (.ref p) H2) : tDNewK σ H Q := fun p hp => q p _ hp (same_new hp) upd_same
def RawDPut (D : Ends) (σ : S) (x y v : V) (H3 : Hp) : Prop := ∃ a H4, x = .ref a ∧ DPut H3 a y v H4 ∧ D.nx σ H4
theorem i_dput (q : tv σ H fun v H1 => td σ H1 fun x H2 => ty σ H2 fun y H3 => RawDPut D σ x y v H3) : sDPut td ty tv D σ H := q
theorem raw_dputT {kvs : List (List L2.Key × V)} {k : List L2.Key} {v : V} {d t : Addr} (h : H d = some (.dT kvs)) (hk : H t = some (.tup (k.map kV))) (z : kvs.length ≤ 1000) (q : D.nx σ (upd H d (.dT (putK kvs k v)))) : RawDPut D σ (.ref d) (.ref t) v H :=
  ⟨d, _, rfl, .t h hk (small1000 z), q⟩
theorem raw_dputS {kvs : List (L2.Key × V)} {k : Str} {v : V} {d : Addr} (h : H d = some (.dK kvs)) (z : kvs.length ≤ 1000) (q : D.nx σ (upd H d (.dK (putK kvs (Sum.inr k) v)))) : RawDPut D σ (.ref d) (.str k) v H :=
  ⟨d, _, rfl, .k (k := Sum.inr k) h (small1000 z), q⟩
def RawDIn (Q : VK) (x y : V) (H2 : Hp) : Prop := ∃ a o, x = .ref a ∧ DGet H2 a y o ∧ Q (.bl o.isSome) H2
theorem i_din (q : ty σ H fun y H1 => td σ H1 fun x H2 => RawDIn Q x y H2) : tDIn ty td σ H Q := q
theorem raw_dinT {kvs : List (List L2.Key × V)} {k : List L2.Key} {d t : Addr} (h : H d = some (.dT kvs)) (hk : H t = some (.tup (k.map kV))) (q : Q (.bl (valV kvs k).isSome) H) : RawDIn Q (.ref d) (.ref t) H := ⟨d, _, rfl, .t h hk, q⟩
theorem raw_dinS {kvs : List (L2.Key × V)} {k : Str} {d : Addr} (h : H d = some (.dK kvs)) (q : Q (.bl (valV kvs (Sum.inr k)).isSome) H) : RawDIn Q (.ref d) (.str k) H := ⟨d, _, rfl, DGet.k (k := Sum.inr k) h, q⟩
def RawFld (K : PySem.W.Frag) (Q : VK) (f : Str) (x : V) (H1 : Hp) : Prop := ∃ a C dx fs v, x = .ref a ∧ H1 a = some (.ins C dx fs) ∧ Cls K C ∧ NoAttr K C f ∧ fs.lookup f = some v ∧ Q v H1
theorem i_fldR (q : te σ H (RawFld K Q f)) : tFld K te f σ H Q := q
theorem raw_fld (h : H a = some (.ins C dx fs)) (c : Cls K C) (n : NoAttr K C f) {v : V} (l : fs.lookup f = some v) (q : Q v H) : RawFld K Q f (.ref a) H := ⟨a, C, dx, fs, v, rfl, h, c, n, l, q⟩
def RawSFld (K : PySem.W.Frag) (D : Ends) (σ : S) (f : Str) (y x : V) (H2 : Hp) : Prop := ∃ a C dx fs, x = .ref a ∧ H2 a = some (.ins C dx fs) ∧ Cls K C ∧ NoAttr K C f ∧ fs.length < 1000 ∧ D.nx σ (upd H2 a (.ins C dx (putF f y fs)))
theorem i_sfld (q : tv σ H fun y H1 => ta σ H1 fun x H2 => RawSFld K D σ f y x H2) : sFld K ta tv f D σ H := q
theorem raw_sfld (h : H a = some (.ins C dx fs)) (c : Cls K C) (n : NoAttr K C f) (z : fs.length < 1000) (q : D.nx σ (upd H a (.ins C dx (putF f y fs)))) : RawSFld K D σ f y (.ref a) H := ⟨a, C, dx, fs, rfl, h, c, n, z, q⟩
def RawLc2T (K : PySem.W.Frag) (wi1 : TI) (g : TG) (tt : TT) (g1 : TG) (tt1 : TT) (te : TE) (vs vs1 : List Nat) (σ : S) (Q : VK) (x : V) (H1 : Hp) : Prop := ∃ a, x = .ref a ∧ (∃ xs, SqT K H1 a xs) ∧ RawLc2 wi1 g tt g1 tt1 te vs vs1 σ Q (Itt K a) H1
def RawLc2L (K : PySem.W.Frag) (wi1 : TI) (g : TG) (tt : TT) (g1 : TG) (tt1 : TT) (te : TE) (vs vs1 : List Nat) (σ : S) (Q : VK) (x : V) (H1 : Hp) : Prop := ∃ a, x = .ref a ∧ (∃ xs, SqL K H1 a xs) ∧ RawLc2 wi1 g tt g1 tt1 te vs vs1 σ Q (Itl K a) H1
theorem i_lc2T {wi1 : TI} {g g1 : TG} {tt tt1 : TT} {vs vs1 : List Nat} (q : tl σ H (RawLc2T K wi1 g tt g1 tt1 te vs vs1 σ Q)) : tLc2 (iTup K tl) g tt wi1 g1 tt1 te vs vs1 σ H Q := q
theorem i_lc2L {wi1 : TI} {g g1 : TG} {tt tt1 : TT} {vs vs1 : List Nat} (q : tl σ H (RawLc2L K wi1 g tt g1 tt1 te vs vs1 σ Q)) : tLc2 (iList K tl) g tt wi1 g1 tt1 te vs vs1 σ H Q := q
theorem inner_tupC (h : SqT K H a xs) : InnerAt (iTup K (tC (.ref a))) σ H xs (fun H => SqT K H a xs) := fun R k => ⟨a, rfl, ⟨_, h⟩, k _ _ walk_tup (Same.refl _)⟩
theorem inner_tupV {i : Nat} (e : σ[i]? = some (some (.ref a))) (h : SqT K H a xs) : InnerAt (iTup K (tVar i)) σ H xs (fun H => SqT K H a xs) := fun R k => ⟨_, e, a, rfl, ⟨_, h⟩, k _ _ walk_tup (Same.refl _)⟩
theorem inner_listV {i : Nat} (e : σ[i]? = some (some (.ref a))) (h : SqL K H a xs) : InnerAt (iList K (tVar i)) σ H xs (fun H => SqL K H a xs) := fun R k => ⟨_, e, a, rfl, ⟨_, h⟩, k _ _ walk_list (Same.refl _)⟩
theorem i_iterT {t : Addr} (h : SqT K H t xs) (q : ∀ it, H it = none → Q (.ref it) (upd H it (TitO t it 0))) : rIterT K [.ref t] H Q := ⟨t, xs, rfl, h, q⟩
theorem i_eqI {i j : Int} (q : Q (.bl (decide (i = j))) H) : rEq (.int i) (.int j) H Q := ⟨rfl, by rw [show decide (V.int i = V.int j) = decide (i = j) from by by_cases h : i = j <;> simp [h]]; exact q⟩
theorem i_neI {i j : Int} (q : Q (.bl (!decide (i = j))) H) : rNe (.int i) (.int j) H Q := ⟨rfl, by rw [show decide (V.int i = V.int j) = decide (i = j) from by by_cases h : i = j <;> simp [h]]; exact q⟩
theorem i_eqS {i j : Str} (q : Q (.bl (decide (i = j))) H) : rEq (.str i) (.str j) H Q := ⟨rfl, by rw [show decide (V.str i = V.str j) = decide (i = j) from by by_cases h : i = j <;> simp [h]]; exact q⟩
theorem i_neS {i j : Str} (q : Q (.bl (!decide (i = j))) H) : rNe (.str i) (.str j) H Q := ⟨rfl, by rw [show decide (V.str i = V.str j) = decide (i = j) from by by_cases h : i = j <;> simp [h]]; exact q⟩
theorem i_eqB {i j : Bool} (q : Q (.bl (decide (i = j))) H) : rEq (.bl i) (.bl j) H Q := ⟨rfl, by rw [show decide (V.bl i = V.bl j) = decide (i = j) from by by_cases h : i = j <;> simp [h]]; exact q⟩
theorem i_neB {i j : Bool} (q : Q (.bl (!decide (i = j))) H) : rNe (.bl i) (.bl j) H Q := ⟨rfl, by rw [show decide (V.bl i = V.bl j) = decide (i = j) from by by_cases h : i = j <;> simp [h]]; exact q⟩
end
/-- a module's tuple -/
def GlT (K : PySem.W.Frag) (mg : Str → Option Value) (x : Str) (xs : List V) : Prop := ∃ a, mg x = some (.ref a) ∧ ∀ H, SqT K H a xs
/-! ### the class Pairs -/
def PairsAt (C : Addr) (H : Hp) (p : Addr) (ps : List Pr) : Prop := ∃ dx t vs, H p = some (.ins C dx [("_pairs", .ref t)]) ∧ H t = some (.tup vs) ∧ PairsV H vs ps
theorem PairsAt.mono {C : Addr} {H H' : Hp} {p : Addr} {ps : List Pr} (s : Same H H') (h : PairsAt C H p ps) : PairsAt C H' p ps := let ⟨dx, t, vs, a, b, c⟩ := h; ⟨dx, t, vs, s _ _ a, s _ _ b, c.mono (Same.tk s)⟩
/-- the pairs of ps in the order of the kinds -/
def norm (ps : List Pr) : List Pr := allPairs.filter fun p => decide (p ∈ ps)
theorem norm_mem {ps : List Pr} {p : Pr} : p ∈ norm ps ↔ p ∈ allPairs ∧ p ∈ ps := by unfold norm; rw [List.mem_filter]; simp
theorem norm_good {ps : List Pr} : ∀ p ∈ norm ps, GoodP p = true := fun p h => good_all p (norm_mem.mp h).1
theorem norm_len (ps : List Pr) : (norm ps).length ≤ 16 := by
  have h := List.length_filter_le (fun p => decide (p ∈ ps)) allPairs
  exact h
theorem norm_norm (ps : List Pr) : norm (norm ps) = norm ps := by
  unfold norm
  refine List.filter_congr fun p hp => ?_
  have : p ∈ allPairs.filter (fun p => decide (p ∈ ps)) ↔ p ∈ ps := by rw [List.mem_filter]; simp [hp]
  simp [this]
def pairsT (C : Addr) : Addr → Hp → Addr → List V → Prop := fun a H t xs => (∃ dx, H a = some (.ins C dx [("_pairs", .ref t)])) ∧ H t = some (.tup xs)
theorem pairsT_mono {C : Addr} : ∀ a H H' t xs, Same H H' → pairsT C a H t xs → pairsT C a H' t xs := fun a H H' t xs s ⟨⟨dx, e⟩, f⟩ => ⟨⟨dx, s _ _ e⟩, s _ _ f⟩
structure PairsCl (K : PySem.W.Frag) (mg : Str → Option Value) (C : Addr) : Prop where
  cl : Cls K C
  nP : NoAttr K C "_pairs"
  gP : mg "Pairs" = some (.ref C)
def keyP (p : Pr) : List L2.Key := [Sum.inr p.1, Sum.inr p.2]
theorem keyP_inj {p q : Pr} : keyP p = keyP q ↔ p = q := by
  obtain ⟨a, b⟩ := p
  obtain ⟨c, d⟩ := q
  simp [keyP]
/-- the dict of the given ones -/
def Given (kvs : List (List L2.Key × V)) (ps : List Pr) : Prop := ∀ p : Pr, (valV kvs (keyP p)).isSome = decide (p ∈ ps)
theorem given_put {kvs : List (List L2.Key × V)} {ps : List Pr} {p : Pr} (g : Given kvs ps) : Given (putK kvs (keyP p) (.bl true)) (ps ++ [p]) := fun q => by
  rw [valV_put]
  by_cases h : keyP q = keyP p
  · rw [if_pos h]
    have : q = p := keyP_inj.mp h
    simp [this]
  · rw [if_neg h, g q]
    have : ¬ q = p := fun z => h (by rw [z])
    simp [this]
theorem putK_len {kvs : List (List L2.Key × V)} {k : List L2.Key} {v : V} : (putK kvs k v).length ≤ kvs.length + 1 := by
  unfold putK
  split
  · rw [List.length_map]; omega
  · rw [List.length_append]; simp
end KP
namespace KP
open PySem PySem.Spec PyProof.Rows L2
/-! ### draws -/
def nth (ds : List Int) (i : Nat) : Int := ds.getD i 0
theorem nth_at {ds : List Int} {i : Int} (j : Nat) (e : i = (j : Int)) (h : j < ds.length) : atI (ds.map V.int) i = some (.int (nth ds j)) :=
  at_of e (by rw [List.getElem?_map, List.getElem?_eq_getElem h]; simp [nth, List.getD, List.getElem?_eq_getElem h])
theorem nth_ok {ds : List Int} {i : Nat} (hd : ∀ d ∈ ds, 0 ≤ d ∧ d < 1000) : 0 ≤ nth ds i ∧ nth ds i < 1000 := by
  unfold nth
  rw [List.getD_eq_getElem?_getD]
  cases e : ds[i]? with
  | none => simp
  | some d => exact hd d (List.mem_of_getElem? e)
/-! ### making a Pairs -/
section
variable {K : PySem.W.Frag} {σ : S} {H : Hp} {Q : VK} {ar : TA} {C a : Addr} {sp : Sp} {dvs : List V} {E : XK}
def RawMk (C : Addr) (sp : Sp) (dvs : List V) (E : XK) (Q : VK) (vs : List V) (H1 : Hp) : Prop := tMake C sp dvs E (fun _ _ R => R vs H1) [] H1 Q
theorem i_make (q : ar σ H (RawMk C sp dvs E Q)) : tMake C sp dvs E ar σ H Q := q
/-- all but what stands at l is as it was -/
def But (l : Addr) (H H' : Hp) : Prop := ∀ b o, b ≠ l → H b = some o → H' b = some o
theorem but_upd {l : Addr} {o : HO} : But l H (upd H l o) := fun b x hb e => by rw [upd_ne hb]; exact e
theorem But.pl {l : Addr} {xs : List V} {H' : Hp} {ps : List Pr} (b : But l H H') (e : H l = some (.lst xs)) (ha : a ≠ l) {vs : List V} (h : H a = some (.lst vs)) (pr : PairsV H vs ps) : H' a = some (.lst vs) ∧ PairsV H' vs ps :=
  ⟨b _ _ ha h, pr.mono fun t xs z => b t _ (ne_of z e (fun q => nomatch q)) z⟩
theorem But.pa {l m : Addr} {xs : List V} {H' : Hp} {ps : List Pr} (b : But l H H') (e : H l = some (.lst xs)) (h : PairsAt C H m ps) : PairsAt C H' m ps := by
  obtain ⟨dx, t, vs, h1, h2, h3⟩ := h
  exact ⟨dx, t, vs, b _ _ (ne_of h1 e fun q => nomatch q) h1, b _ _ (ne_of h2 e fun q => nomatch q) h2, h3.mono fun t xs z => b t _ (ne_of z e (fun q => nomatch q)) z⟩
theorem But.tk {l : Addr} {xs : List V} {H' : Hp} (b : But l H H') (e : H l = some (.lst xs)) : TupK H H' := fun t xs z => b t _ (ne_of z e (fun q => nomatch q)) z
end
/-- Pairs(..) and what it needs -/
structure PMk (P : Program) (w : World) (K : PySem.W.Frag) (mg : Str → Option Value) (base : Heap) (k : Nat) (C aE : Addr) (sp : Sp) : Prop where
  ex : ∃ f fd ds, Mk K C f ∧ Binds K fd ["self", "pairs"] [] ∧ Vals [.ref aE] ds ∧ Binds K fd ["self", "pairs"] ds ∧ FnOk P w K mg base CX0 k f fd ["self", "pairs"] sp
  gP : mg "Pairs" = some (.ref C)
  em : ∀ H, SqT K H aE []
section
variable {X : Cx} {k : Nat} {C aE : Addr} {sp : Sp} {E : XK} {p pos : Pos} {e : Expr} {es : List Expr} {t : TA}
theorem pe_makeP (O : PMk X.prog X.w X.K X.mg X.base k C aE sp) (hr : Room (k + 1) X.A) (ha : PA X (e :: es) t) (hx : Passes CX0 X E := by exact pass0) (hg : Gl X "Pairs" := by rfl)
    (he : starEach (e :: es) X.env = (false, eval e X.env) :: starEach es X.env := by rfl) (hpl : (backTo pos (starEach es X.env)).any (·.1) = false := by rfl) :
    PE X (.Call (.Name "Pairs" p) (e :: es) [] pos) (tMake C sp [] E t) := by
  obtain ⟨f, fd, ds, M, b, v, b1, F⟩ := O.ex
  exact pe_make M F hr hg O.gP b .nil hx ha (by decide) he hpl
theorem pe_makeP0 (O : PMk X.prog X.w X.K X.mg X.base k C aE sp) (hr : Room (k + 1) X.A) (hx : Passes CX0 X E := by exact pass0) (hg : Gl X "Pairs" := by rfl) :
    PE X (.Call (.Name "Pairs" p) [] [] pos) (tMake C sp [.ref aE] E tNil) := by
  obtain ⟨f, fd, ds, M, b, v, b1, F⟩ := O.ex
  exact pe_make0 M F hr hg O.gP b1 v hx (by decide)
end
end KP
namespace KP
open PySem PySem.Spec PyProof.Rows L2
/-! ### rules with the written part named -/
section
variable (K : PySem.W.Frag) {X : Cx}
theorem op_inDK (e : X.K = K) (room : X.A.units + 65 < cLine) : OpR X (compareOp .In) (rInD K) := by subst e; exact op_inD room
theorem op_notInDK (e : X.K = K) (room : X.A.units + 65 < cLine) : OpR X (compareOp .NotIn) (rNotInD K) := by subst e; exact op_notInD room
theorem op_inTDK (e : X.K = K) (room : X.A.units + 65 < cLine) : OpR X (compareOp .In) (rInTD K) := by subst e; exact op_inTD room
theorem op_notInTDK (e : X.K = K) (room : X.A.units + 65 < cLine) : OpR X (compareOp .NotIn) (rNotInTD K) := by subst e; exact op_notInTD room
theorem op_eqDK (e : X.K = K) (room : X.A.units + 64 < cLine) : OpR X (compareOp .Eq) (rEqD K) := by subst e; exact op_eqD room
theorem op_neDK (e : X.K = K) (room : X.A.units + 64 < cLine) : OpR X (compareOp .NotEq) (rNeD K) := by subst e; exact op_neD room
theorem op_in_seqK (e : X.K = K) : OpR X (compareOp .In) (rIn K false) := by subst e; exact op_in_seq
theorem op_notIn_seqK (e : X.K = K) : OpR X (compareOp .NotIn) (rIn K true) := by subst e; exact op_notIn_seq
theorem ix_listK (e : X.K = K) : IxR X (rIxL K) := by subst e; exact ix_list
theorem ix_tupK (e : X.K = K) : IxR X (rIxT K) := by subst e; exact ix_tup
theorem call_lenLK (e : X.K = K) : CallR X (.builtin "len") (rLenL K) := by subst e; exact call_lenL
theorem call_lenTK (e : X.K = K) : CallR X (.builtin "len") (rLenT K) := by subst e; exact call_lenT
theorem call_listLK (e : X.K = K) : CallR X (.type "list") (rListL K) := by subst e; exact call_listL
theorem call_listTK (e : X.K = K) : CallR X (.type "list") (rListT K) := by subst e; exact call_listT
theorem call_isiKK (e : X.K = K) : CallR X (.builtin "isinstance") (rIsi K) := by subst e; exact call_isi
end
end KP
namespace KP
open PySem PySem.Spec PyProof.Rows L2
section
variable {K : PySem.W.Frag} {σ : S} {H : Hp} {Q : VK} {te : TE} {a b : Addr} {xs ys : List V} {i j : Bool} {p q : Pr} {x y : V}
theorem i_catL (h1 : H a = some (.lst xs)) (h2 : H b = some (.lst ys)) (z : xs.length + ys.length ≤ 1000) (k : ∀ p H', H p = none → Same H H' → H' p = some (.lst (xs ++ ys)) → Q (.ref p) H') : rCat (.ref a) (.ref b) H Q :=
  ⟨a, b, xs, ys, rfl, rfl, h1, h2, Nat.le_of_lt (small1000 z), fun p hp => k p _ hp (same_new hp) upd_same⟩
def RawRev (K : PySem.W.Frag) (Q : VK) (x : V) (H1 : Hp) : Prop := tRevL K (fun _ _ R => R x H1) [] H1 Q
theorem i_revL (q : te σ H (RawRev K Q)) : tRevL K te σ H Q := q
theorem raw_rev (h : SqL K H a xs) (k : ∀ p H', H p = none → Same H H' → H' p = some (.lst xs.reverse) → Q (.ref p) H') : RawRev K Q (.ref a) H := ⟨a, xs, rfl, h, fun p hp => k p _ hp (same_new hp) upd_same⟩
theorem i_isB (q : Q (.bl (decide (i = j))) H) : rIsB (.bl i) (.bl j) H Q := ⟨i, j, rfl, rfl, q⟩
theorem i_notB (q : Q (.bl (!decide (i = j))) H) : rNotB (.bl i) (.bl j) H Q := ⟨i, j, rfl, rfl, q⟩
theorem i_isiBool (q : Q (.bl true) H) : rIsi K [.bl i, .ty "bool"] H Q := ⟨_, _, _, _, true, rfl, .ty _, .base (.bl i), kit_ty (by decide +kernel), q⟩
theorem i_nePP (hx : PairV H x p) (hy : PairV H y q) (gp : GoodP p = true) (gq : GoodP q = true) (k : Q (.bl (!decide (p = q))) H) : rNeD K x y H Q := ⟨_, _, dp_pair hx, dp_pair hy, shaped_pair gp, shaped_pair gq, by rw [eqv_pair]; exact k⟩
theorem i_all {bs : List Bool} (h : SqL K H a (bs.map V.bl)) (q : Q (.bl (bs.all id)) H) : rAll K [.ref a] H Q := ⟨a, bs, rfl, h, q⟩
/-- a flat thing in a list of texts -/
def inStr (z : Str) (l : List Str) : Bool := decide (z ∈ l)
theorem inV_strs (z : Str) (l : List Str) : inV (.str z) (l.map V.str) = decide (z ∈ l) := by
  show ((l.map V.str).any fun y => eqV y (.str z)) = decide (z ∈ l)
  rw [List.any_map]
  have e : ((fun y => eqV y (V.str z)) ∘ V.str) = fun y => (y == z) := by funext y; rfl
  rw [e, List.any_beq']
  exact List.contains_eq_mem z l
theorem flat_strs : ∀ l : List Str, (l.map V.str).all flatV = true
  | [] => rfl
  | _ :: l => by rw [List.map_cons, List.all_cons, flat_strs l]; rfl
theorem i_inStrs {z : Str} {l : List Str} (h : SqL K H a (l.map V.str)) (q : Q (.bl (decide (z ∈ l))) H) : rIn K false (.str z) (.ref a) H Q := ⟨a, _, rfl, .inl h, rfl, flat_strs l, by
  show Q (.bl (if false = true then _ else inV _ _)) H
  rw [if_neg Bool.false_ne_true, inV_strs]; exact q⟩
theorem i_notInStrs {z : Str} {l : List Str} (h : SqL K H a (l.map V.str)) (q : Q (.bl (!decide (z ∈ l))) H) : rIn K true (.str z) (.ref a) H Q := ⟨a, _, rfl, .inl h, rfl, flat_strs l, by
  show Q (.bl (if true = true then !inV _ _ else _)) H
  rw [if_pos rfl, inV_strs]; exact q⟩
end
section
variable {X : Cx} {CX : CXT} {k : Nat} {C : Addr} {ps : List Str} {sp : Sp} {E : XK} {m : Str}
theorem op_cmpM {op : CmpOp} (hop : ∀ a b, compareOp op a b = richCompare op a b) (O : OkM X.prog X.w X.K X.mg X.base CX k C (cmpInfo op).2.1 ps sp) (hr : Room k X.A) (hx : Passes CX X E := by exact pass0) : OpR X (compareOp op) (rBinOwn C sp E) := by
  obtain ⟨f, fd, e, i, kp, b, F⟩ := O.ex
  exact op_cmpOwn hop e i F b hx hr
theorem op_binM {op : Operator} (hc : PySem.W.selfFirst X.K C = true) (O : OkM X.prog X.w X.K X.mg X.base CX k C (PySem.dunder op.info.2) ps sp) (hr : Room k X.A) (hx : Passes CX X E := by exact pass0) : OpR X (binaryOp op) (rBinOwn C sp E) := by
  obtain ⟨f, fd, e, i, kp, b, F⟩ := O.ex
  exact op_binOwn hc e i F b hx hr
end
/-- what isinstance asks of an own class -/
structure IsiC (K : PySem.W.Frag) (C : Addr) : Prop where
  ca : PySem.W.findIn K (.ref C) "__class__" = some (some (.builtin "object.__class__"))
  cn : PySem.W.specialIn K (.builtin "object.__class__") "__get__" = some (some (.builtin "getset_descriptor.__get__"))
  ct : PySem.W.takesIn K (.builtin "object.__class__") = some true
  cm : PySem.W.mroIn K C (.type "object") = some true
  self : PySem.W.kitOne K (.ref C) (.ref C) = some true
theorem i_isiOwn {K : PySem.W.Frag} {H : Hp} {Q : VK} {a C dx : Addr} {fs : List (Str × V)} (h : H a = some (.ins C dx fs)) (c : Cls K C) (i : IsiC K C) (q : Q (.bl true) H) : rIsi K [.ref a, .ref C] H Q :=
  ⟨_, _, _, _, true, rfl, .own _, .base (.ins h c i.ca i.cn i.ct i.cm), i.self, q⟩
/-! ### some pairs by a style and a mask -/
def readsK : List Str := ["read", "acquire"]
def maskBit (mask : Int) (p : Pr) : Bool := decide (mask / 2 ^ (allPairs.idxOf p) % 2 = 1)
def fitsL (bit : Bool) (p : Pr) : List Bool := [false, true, (decide (p.1 ∈ readsK) || !decide (p.2 ∈ readsK)), (decide (p.1 = "acquire") || decide (p.2 = "release"))] ++ [(bit && decide (p.1 ∈ readsK)), bit, bit, bit]
def someF (style mask : Int) (p : Pr) : Bool := (fitsL (maskBit mask p) p).getD style.toNat false
def someP (style mask : Int) : List Pr := allPairs.filter (someF style mask)
theorem someP_norm (s m : Int) : norm (someP s m) = someP s m := by
  unfold norm someP
  refine List.filter_congr fun p hp => ?_
  have : p ∈ allPairs.filter (someF s m) ↔ someF s m p = true := by rw [List.mem_filter]; simp [hp]
  by_cases h : someF s m p = true
  · simp [this, h]
  · have h' : someF s m p = false := by simpa using h
    simp [this, h']
theorem someP_mem {s m : Int} : ∀ p ∈ someP s m, p ∈ allPairs := fun p h => (List.mem_filter.mp h).1
theorem someP_len (s m : Int) : (someP s m).length ≤ 16 := List.length_filter_le (someF s m) allPairs
theorem idx_at {i : Nat} {p : Pr} (h : allPairs[i]? = some p) : allPairs.idxOf p = i := by
  have hi : i < 16 := (List.getElem?_eq_some_iff.mp h).1
  have all : ∀ i < 16, ∀ p ∈ allPairs, allPairs[i]? = some p → allPairs.idxOf p = i := by decide +kernel
  exact all i hi p (List.mem_of_getElem? h) h
theorem pow_step (m : Int) (i : Nat) : m / 2 ^ i / 2 = m / 2 ^ (i + 1) := by
  rw [Int.ediv_ediv_of_nonneg (by exact Int.le_of_lt (Int.pow_pos (by decide))), Int.pow_succ]
end KP
namespace KP
open PySem PySem.Spec PyProof.Rows L2
theorem bl_at {L : List Bool} {s : Int} (h0 : 0 ≤ s) (h1 : s < L.length) : atI (L.map V.bl) s = some (.bl (L.getD s.toNat false)) :=
  at_of (j := s.toNat) (by omega) (by rw [List.getElem?_map, List.getD_eq_getElem?_getD, List.getElem?_eq_getElem (by omega)]; rfl)
end KP
namespace KP
open PySem PySem.Spec PyProof.Rows L2
theorem all_get {j : Int} (h0 : 0 ≤ j) (h1 : j < 16) {H : Hp} {us : List V} (pr : PairsV H us allPairs) : ∃ v p, atI us j = some v ∧ PairV H v p ∧ p ∈ allPairs := by
  have hl := paired_len pr
  have hj : j.toNat < us.length := by rw [hl]; show j.toNat < 16; omega
  obtain ⟨p, hp, r⟩ := paired_get pr (List.getElem?_eq_getElem hj)
  exact ⟨_, p, at_of (j := j.toNat) (by omega) (List.getElem?_eq_getElem hj), r, List.mem_of_getElem? hp⟩
end KP
namespace KP
open PySem PySem.Spec PyProof.Rows L2
theorem pe_fldK (K : PySem.W.Frag) {X : Cx} {e : Expr} {f : Str} {pos : Pos} {ta : TE} (h : X.K = K) (he : PE X e ta) (hb : attributeBase e f X.env (eval e X.env) = eval e X.env) : PE X (.Attribute e f pos) (tFld K ta f) := by subst h; exact pe_fld he hb
end KP
namespace KP
open PySem PySem.Spec PyProof.Rows L2
theorem i_ixD {K : PySem.W.Frag} {H : Hp} {Q : VK} {p : Addr} {i : Int} {ds : List Int} (h : SqL K H p (ds.map V.int)) (h0 : 0 ≤ i) (h1 : i < ds.length) (q : Q (.int (nth ds i.toNat)) H) : rIxL K (.ref p) (.int i) H Q :=
  i_ixL h (nth_at i.toNat (by omega) (by omega)) q
end KP
namespace KP
open PySem PySem.Spec PyProof.Rows L2
theorem paired_rev {α β : Type} {F : α → β → Prop} : ∀ {l : List α} {m : List β}, Paired F l m → Paired F l.reverse m.reverse
  | _, _, .nil => .nil
  | _, _, .cons a b => by rw [List.reverse_cons, List.reverse_cons]; exact paired_snoc (paired_rev b) a
end KP
namespace KP
open PySem PySem.Spec PyProof.Rows L2
section
variable {K : PySem.W.Frag}
/-- a comprehension over a list of pairs that keeps some of them -/
theorem lc_filter {σ : S} {H : Hp} {Q : VK} {a : Addr} {us : List V} {ps : List Pr} {g : TG} {tt : TT} {te : TE} {vs : List Nat} (f : Pr → Bool) (hS : SqL K H a us) (pr : PairsV H us ps) (hl : ps.length ≤ 1000)
    (hs : ∀ (i : Nat) (x : V) (r : Pr) (H' : Hp) (Y : VK) (N : Hp → Prop), us[i]? = some x → ps[i]? = some r → PairV H' x r → Same H H' → (f r = true → ∀ H4, Same H' H4 → Y x H4) → (f r = false → ∀ H3, Same H' H3 → N H3) → g x (wipe σ vs) H' fun σ2 H2 => wipe σ2 vs = wipe σ vs ∧ tt σ2 H2 fun b H3 => if b = true then te σ2 H3 Y else N H3)
    (hd : ∀ D acc H', H D = none → Same H H' → H' D = some (.lst acc) → PairsV H' acc (ps.filter f) → Q (.ref D) H') : RawLcL K g tt te vs σ Q (.ref a) H := by
  refine raw_lcL hS (by rw [paired_len pr]; exact hl) (fun i acc H' => PairsV H' acc ((ps.take i).filter f)) (fun i acc H H' k h => h.mono k) .nil ?_ fun D acc H' nD s e p => hd D acc H' nD s e (by rw [paired_len pr, List.take_length] at p; exact p)
  intro i x acc H' hx s pa Y N hY hN
  obtain ⟨r, hr, pv⟩ := paired_get pr hx
  have e1 : ps.take (i + 1) = ps.take i ++ [r] := take_snoc hr
  refine hs i x r H' Y N hx hr (pv.mono (Same.tk s)) s (fun hf H4 s4 => hY x H4 s4 ?_) fun hf H3 s3 => hN H3 s3 ?_
  · show PairsV H4 (acc ++ [x]) ((ps.take (i + 1)).filter f)
    rw [e1, List.filter_append, List.filter_cons, if_pos hf]
    exact paired_snoc (pa.mono (Same.tk s4)) ((pv.mono (Same.tk s)).mono (Same.tk s4))
  · show PairsV H3 acc ((ps.take (i + 1)).filter f)
    rw [e1, List.filter_append, List.filter_cons, if_neg (by rw [hf]; exact Bool.false_ne_true), List.filter_nil, List.append_nil]
    exact pa.mono (Same.tk s3)
/-- the same over a tuple of pairs that keeps some of them -/
theorem lc_filterT {σ : S} {H : Hp} {Q : VK} {a : Addr} {us : List V} {ps : List Pr} {g : TG} {tt : TT} {te : TE} {vs : List Nat} (f : Pr → Bool) (hS : SqT K H a us) (pr : PairsV H us ps) (hl : ps.length ≤ 1000)
    (hs : ∀ (i : Nat) (x : V) (r : Pr) (H' : Hp) (Y : VK) (N : Hp → Prop), us[i]? = some x → ps[i]? = some r → PairV H' x r → Same H H' → (f r = true → ∀ H4, Same H' H4 → Y x H4) → (f r = false → ∀ H3, Same H' H3 → N H3) → g x (wipe σ vs) H' fun σ2 H2 => wipe σ2 vs = wipe σ vs ∧ tt σ2 H2 fun b H3 => if b = true then te σ2 H3 Y else N H3)
    (hd : ∀ D acc H', H D = none → Same H H' → H' D = some (.lst acc) → PairsV H' acc (ps.filter f) → Q (.ref D) H') : RawLcT K g tt te vs σ Q (.ref a) H := by
  refine raw_lcT hS (by rw [paired_len pr]; exact hl) (fun i acc H' => PairsV H' acc ((ps.take i).filter f)) (fun i acc H H' k h => h.mono k) .nil ?_ fun D acc H' nD s e p => hd D acc H' nD s e (by rw [paired_len pr, List.take_length] at p; exact p)
  intro i x acc H' hx s pa Y N hY hN
  obtain ⟨r, hr, pv⟩ := paired_get pr hx
  have e1 : ps.take (i + 1) = ps.take i ++ [r] := take_snoc hr
  refine hs i x r H' Y N hx hr (pv.mono (Same.tk s)) s (fun hf H4 s4 => hY x H4 s4 ?_) fun hf H3 s3 => hN H3 s3 ?_
  · show PairsV H4 (acc ++ [x]) ((ps.take (i + 1)).filter f)
    rw [e1, List.filter_append, List.filter_cons, if_pos hf]
    exact paired_snoc (pa.mono (Same.tk s4)) ((pv.mono (Same.tk s)).mono (Same.tk s4))
  · show PairsV H3 acc ((ps.take (i + 1)).filter f)
    rw [e1, List.filter_append, List.filter_cons, if_neg (by rw [hf]; exact Bool.false_ne_true), List.filter_nil, List.append_nil]
    exact pa.mono (Same.tk s3)
end
end KP
namespace KP
open PySem PySem.Spec PyProof.Rows L2
theorem raw_catTA {K : PySem.W.Frag} {H : Hp} {Q : VK} {a b : Addr} {xs ys : List V} (ha : SqT K H a xs) (hb : SqT K H b ys) (z : xs.length + ys.length ≤ 1000) (q : ∀ t H', Same H H' → SqT K H' t (xs ++ ys) → Q (.ref t) H') : rCatA K (.ref a) (.ref b) H Q := by
  refine ⟨a, b, xs, ys, rfl, rfl, ha, hb, Nat.le_of_lt (small1000 z), fun e => ?_, fun _ e => ?_, fun _ _ p np => q p _ (same_new np) (st_of upd_same)⟩
  · subst e
    exact q b H (Same.refl _) hb
  · subst e
    exact q a H (Same.refl _) (by rw [List.append_nil]; exact ha)
end KP

set_option Elab.async false
set_option linter.all false
set_option maxRecDepth 100000
set_option maxHeartbeats 2000000
namespace KP
open PySem PySem.Spec PyProof.Rows L2
/-! ### a class whose __init__ may raise, made where what is raised is wished for -/
section
variable {X : Cx} {CX : CXT} {k : Nat} {f C : Addr} {fd : FuncData} {ps : List Str} {sp : Sp} {E : S → XK} {x m : Str} {p pos apos : Pos} {e o : Expr} {es : List Expr} {te ta : TE} {t : TA} {ds : List Value} {dvs : List V}
theorem run_makeS {pins : List (Addr × Obj)} {σ : S} {H : Hp} {s : Shared} {Q : VK} {us : List Value} {vs : List V} (M : Mk X.K C f) (F : FnOk X.prog X.w X.K X.mg X.base CX k f fd ps sp) (hr : Room (k + 1) X.A) (hb : Binds X.K fd ps ds) (hd : Vals dvs ds)
    (hx : PassesAt CX X σ (E σ)) (I : Inv X pins σ H s) (r : Vals vs us)
    (h : ∀ x dx, H x = none → H dx = none → dx ≠ x → sp (.ref x :: (vs ++ dvs)) (upd (upd H dx (.own x)) x (.ins C dx [])) (fun v H2 => v = .non ∧ Q (.ref x) H2) (fun cls d H' => E σ cls d H')) :
    wpAny (model X.prog X.w) X.A (call (.ref C) us) (EP X pins σ Q) X.xe s := by
  have hq := h (s.heap.objs.size + 1) s.heap.objs.size (I.hok.fresh (Nat.le_succ _)) (I.hok.fresh (Nat.le_refl _)) (Nat.ne_of_lt (Nat.lt_succ_self _))
  have I2 := Inv.made (C := C) I
  have r2 : Vals (V.ref (s.heap.objs.size + 1) :: (vs ++ dvs)) (Value.ref (s.heap.objs.size + 1) :: (us ++ ds)) := .cons rfl (r.append hd)
  have hl : (Value.ref (s.heap.objs.size + 1) :: us ++ ds).length = ps.length := by
    have e := r2.length
    rw [F.len _ _ _ _ hq] at e
    exact e.symm
  refine wpAny_call (make_map (f := f) I.kIn M.makes M.init (beq_iff_eq.mp M.fn) (codeAny_mono (F.run _ X.stack _ _ ⟨Value.ref (s.heap.objs.size + 1) :: us, []⟩ (Value.ref (s.heap.objs.size + 1) :: (us ++ ds)) _ _ (fun cls d H' => E σ cls d H') (hr.make C us [])
    (I2.env0.make C us []) (hb _ (Value.ref (s.heap.objs.size + 1) :: us) I2.kIn hl) r2 hq) fun r s' hq' => ?_))
  cases r with
  | error e => exact hx pins _ _ e s' I2 hq'
  | ok fl =>
    cases fl with
    | ret u =>
      obtain ⟨v, H', I3, rv, ev, q3⟩ := I2.after hq'
      subst ev
      exact ⟨rv, ⟨V.ref (s.heap.objs.size + 1), H', I3, rfl, q3⟩⟩
    | next => exact False.elim hq'
    | brk => exact False.elim hq'
    | cont => exact False.elim hq'
def tMakeS (C : Addr) (sp : Sp) (dvs : List V) (E : S → XK) (t : TA) : TE := fun σ H Q => t σ H fun vs H1 => ∀ x dx, H1 x = none → H1 dx = none → dx ≠ x →
  sp (.ref x :: (vs ++ dvs)) (upd (upd H1 dx (.own x)) x (.ins C dx [])) (fun v H2 => v = .non ∧ Q (.ref x) H2) (fun cls d H' => E σ cls d H')
theorem pe_makeS (M : Mk X.K C f) (F : FnOk X.prog X.w X.K X.mg X.base CX k f fd ps sp) (hr : Room (k + 1) X.A) (hg : Gl X x) (hm : X.mg x = some (.ref C)) (hb : Binds X.K fd ps ds) (hd : Vals dvs ds) (hx : ∀ σ, PassesAt CX X σ (E σ))
    (ha : PA X (e :: es) t) (hdb : (x == ("__debug__" : Str)) = false := by decide) (he : starEach (e :: es) X.env = (false, eval e X.env) :: starEach es X.env := by rfl) (hpl : (backTo pos (starEach es X.env)).any (·.1) = false := by rfl) :
    PE X (.Call (.Name x p) (e :: es) [] pos) (tMakeS C sp dvs E t) := by
  refine ⟨fun pins s σ H Q I h => ?_⟩
  refine wpAny_Call_Name_kw (ld_glob I hg hm ?_ hdb)
  refine PySem.W.callWith_K (h₀ := X.base) I.ok.mod.kin M.kp (thn (ha.run pos pins s σ H _ I h) fun us s1 ⟨vs, H1, I1, r, q⟩ => ⟨I1.kIn, ?_⟩) he hpl
  exact run_makeS M F hr hb hd (hx σ) I1 r q
end
/-! ### a def and a built-in read off an own class -/
section
variable {X : Cx} {CX : CXT} {k : Nat} {f C q : Addr} {mc : Value} {fd : FuncData} {ps : List Str} {sp : Sp} {E : XK} {x m : Str} {p1 p2 pos : Pos} {e : Expr} {es : List Expr} {t ta : TA}
/-- a static method of the class x -/
structure SmAt (K : PySem.W.Frag) (mg : Str → Option Value) (x m qual : Str) (st : Stmt) (ps : List Str) : Prop where
  ex : ∃ C mc q f fd rest, mg x = some (.ref C) ∧ ClX.CRead K C mc ∧ PySem.W.findCls K (.ref C) mc m = some (.get (.builtin "staticmethod.__get__") (.ref q) .none (.ref C)) ∧ PySem.W.recIn K q "staticmethod" = some (.ref f :: rest) ∧ Binds K fd ps [] ∧ Fun K m qual st f fd
structure OkS (P : Program) (w : World) (K : PySem.W.Frag) (mg : Str → Option Value) (base : Heap) (CX : CXT) (k : Nat) (x m : Str) (ps : List Str) (sp : Sp) : Prop where
  ex : ∃ C mc q f fd rest, mg x = some (.ref C) ∧ ClX.CRead K C mc ∧ PySem.W.findCls K (.ref C) mc m = some (.get (.builtin "staticmethod.__get__") (.ref q) .none (.ref C)) ∧ PySem.W.recIn K q "staticmethod" = some (.ref f :: rest) ∧ PySem.W.keepIn K (.ref f) = true ∧ Binds K fd ps [] ∧ FnOk P w K mg base CX k f fd ps sp
theorem SmAt.ok {P : Program} {w : World} {K : PySem.W.Frag} {mg : Str → Option Value} {base : Heap} {CX : CXT} {k : Nat} {x m qual : Str} {st : Stmt} {ps : List Str} {sp : Sp} (A : SmAt K mg x m qual st ps) (h : ∀ f fd, Fun K m qual st f fd → FnOk P w K mg base CX k f fd ps sp) : OkS P w K mg base CX k x m ps sp := by
  obtain ⟨C, mc, q, f, fd, rest, h1, h2, h3, h4, b, F⟩ := A.ex
  exact ⟨C, mc, q, f, fd, rest, h1, h2, h3, h4, F.kp, b, h f fd F⟩
theorem pe_sm {pl : Sem Bool} (O : OkS X.prog X.w X.K X.mg X.base CX k x m ps sp) (hr : Room k X.A) (ha : PA X (e :: es) t) (hx : Passes CX X E := by exact pass0) (hg : Gl X x := by rfl) (hdb : (x == ("__debug__" : Str)) = false := by decide)
    (he : starEach (e :: es) X.env = (false, eval e X.env) :: starEach es X.env := by rfl) (hpl : (backTo pos (starEach es X.env)).any (·.1) = false := by rfl)
    (hc : eval (.Call (.Attribute (.Name x p1) m p2) (e :: es) [] pos) X.env = (do
      let ov ← eval (.Name x p1) X.env
      standAt p2.atName
      let (f, first) ← holding [ov] (getMethod ov m pl)
      callWith pos f first (backTo pos (starEach (e :: es) X.env)) (backToKw pos (keywordEach [] X.env))) := by rfl) :
    PE X (.Call (.Attribute (.Name x p1) m p2) (e :: es) [] pos) (tCall sp [] E t) := by
  obtain ⟨C, mc, q, f, fd, rest, hm, rd, hf, hp, hk, hb, F⟩ := O.ex
  refine ⟨fun pins s σ H Q I h => ?_⟩
  refine PySem.W.methodCall_KW (pl := pl) (ld_glob I hg hm ?_ hdb) hc
  refine PySem.W.method_cls I.kIn rd.ga ?_
  refine PySem.W.cls_bind I.kIn rd.rd hf ?_
  refine wpAny_call (PySem.W.sm_get (s := { s with toks := s.toks + 1 }) I.kIn hp (PySem.W.handed_on rfl ?_))
  show wpAny _ _ (callWith pos (Value.ref f) [] (backTo pos (starEach (e :: es) X.env)) []) _ _ _
  refine PySem.W.callWith_K (h₀ := X.base) I.ok.mod.kin hk (thn (ha.run pos pins _ σ H _ (I.tok _) h) fun us s1 ⟨vs, H1, I1, r, q⟩ => ⟨I1.kIn, ?_⟩) he hpl
  exact run_fn F hr hb .nil hx I1 r q
/-- C.__init__(self, ..), C's __init__ being ValueError's -/
theorem pe_oinit {pl : Sem Bool} (hm : X.mg x = some (.ref C)) (rd : ClX.CRead X.K C mc) (vV : PySem.W.findCls X.K (.ref C) mc "__init__" = some (.val (.builtin "ValueError.__init__"))) (ha : PA X (e :: es) ta) (hg : Gl X x := by rfl) (hdb : (x == ("__debug__" : Str)) = false := by decide)
    (hc : eval (.Call (.Attribute (.Name x p1) "__init__" p2) (e :: es) [] pos) X.env = (do
      let ov ← eval (.Name x p1) X.env
      standAt p2.atName
      let (f, first) ← holding [ov] (getMethod ov "__init__" pl)
      callWith pos f first (backTo pos (starEach (e :: es) X.env)) (backToKw pos (keywordEach [] X.env))) := by rfl)
    (he : starEach (e :: es) X.env = (false, eval e X.env) :: starEach es X.env := by rfl) (hpl : (backTo pos (starEach es X.env)).any (·.1) = false := by rfl) :
    PE X (.Call (.Attribute (.Name x p1) "__init__" p2) (e :: es) [] pos) (tVeI X.K ta) := by
  refine ⟨fun pins s σ H Q I h => ?_⟩
  refine PySem.W.methodCall_KW (pl := pl) (ld_glob I hg hm ?_ hdb) hc
  refine PySem.W.method_cls I.kIn rd.ga ?_
  refine PySem.W.cls_value I.kIn rd.rd vV rfl ?_
  show wpAny _ _ (callWith pos (Value.builtin "ValueError.__init__") [] (backTo pos (starEach (e :: es) X.env)) []) _ _ _
  refine PyProof.Rows.callWith_method1 (thn (ha.run pos pins _ σ H _ (I.tok _) h) fun us s1 ⟨vs, H1, I1, r1, a, C, ws, ev, hl, T, ea, q⟩ => ?_) he hpl
  subst ev
  cases r1 with
  | @cons _ u0 _ ur ra rw' =>
    obtain rfl : u0 = Value.ref a := ra
    have hlen : ur.length ≤ sizeLine := by
      rw [← Paired.length rw', sizeLine_eq]
      omega
    exact oinit_ok T I1 ea hlen fun s' J => ⟨.non, H1, J, rfl, q⟩
end
/-! ### isinstance of a caught exception that has fields -/
structure ExcD (K : PySem.W.Frag) (D : Addr) : Prop where
  hc : (PySem.W.clsIn K D).isSome = true
  hg : PySem.W.findIn K (.ref D) "__getattribute__" = some (some (.builtin "BaseException.__getattribute__"))
  hk : PySem.W.findIn K (.ref D) "__getattr__" = some none
  hs : PySem.W.subIn K (.ref D) (.type "BaseException") = some true
  ha : PySem.W.findIn K (.ref D) "__class__" = some (some (.builtin "object.__class__"))
  hn : PySem.W.specialIn K (.builtin "object.__class__") "__get__" = some (some (.builtin "getset_descriptor.__get__"))
  ht : PySem.W.takesIn K (.builtin "object.__class__") = some true
  hm : PySem.W.mroIn K D (.type "object") = some true
/-- isinstance(e, c), e the exception of the class at D that the suite holds; its dict at dd -/
def rIsED (K : PySem.W.Frag) (a : Addr) (cls : Value) (d : Option Addr) : List V → Hp → VK → Prop := fun xs H Q => ∃ (c : V) (cv : Value) (b : Bool) (D dd : Addr) (fs : List (Str × V)), xs = [.ref a, c] ∧ cls = .ref D ∧ d = some dd ∧ H dd = some (.xd fs) ∧ ExcD K D ∧ ClsV c cv ∧ PySem.W.kitOne K (.ref D) cv = some b ∧ Q (.bl b) H
theorem call_isED {X : Cx} {a : Addr} {oe : Obj} {cls : Value} {d : Option Addr} {pn : List (Addr × Obj)} (hz : Zc cls d oe) (hf : ∃ vs, oe.data = .fields vs) : CallR (X.suite a ((a, oe) :: pn)) (.builtin "isinstance") (rIsED X.K a cls d) := by
  intro pins s σ H xs us Q I r h
  obtain ⟨c, cv, b, D, dd, fs, rfl, rfl, rfl, hd, C, hcv, e, q⟩ := h
  cases r with
  | cons rx rr =>
    cases rr with
    | cons rt rr =>
      cases rr
      cases rx
      have ec := hcv.eq rt
      subst ec
      obtain ⟨hget, _⟩ := I.pin (a, oe) (List.mem_append.mpr (.inl List.mem_cons_self))
      obtain ⟨vs, hv⟩ := hf
      have hx : ObjOk X.prog X.w H s.heap dd (.xd fs) := I.hok dd _ hd
      obtain ⟨mA, hns, _⟩ := hx
      obtain ⟨od, ho, _⟩ := lookIn_ns hns
      have J : PySem.W.InstAt s.heap a oe D (some od) := by
        obtain ⟨oc, odd, oda, osl⟩ := oe
        obtain ⟨h1, h2⟩ := hz
        dsimp only at h1 h2 hv
        subst h1 h2 hv
        exact ⟨hget, rfl, rfl, ho⟩
      exact PySem.W.kia_one (PySem.W.kitx_exc (od := some od) C.hc C.hg C.hk C.hs C.ha C.hn C.ht C.hm) I.kIn J e (fun z => nomatch z) fun tk => ⟨.bl b, H, I.kept (t' := tk) fun _ _ z => z, rfl, q⟩
end KP

set_option Elab.async false
set_option linter.all false
set_option maxRecDepth 100000
set_option maxHeartbeats 1000000
namespace KP
open PySem PySem.Spec PyProof.Rows L2
/-! ### items that are no pairs -/
def kinds2 : List Str → Bool
  | [a, b] => kindB a && kindB b
  | _ => false
def okStrs (xs : List Str) : Bool := xs.all PyData.strOk
inductive BadV (H : Hp) : V → Bool → Prop
  | tup {t : Addr} {xs : List Str} : H t = some (.tup (xs.map V.str)) → okStrs xs = true → kinds2 xs = false → BadV H (.ref t) true
  | lst {t : Addr} {xs : List Str} : H t = some (.lst (xs.map V.str)) → okStrs xs = true → BadV H (.ref t) false
  | str {x : Str} : PyData.strOk x = true → BadV H (.str x) false
  | non : BadV H .non false
  | seven : BadV H (.int 7) false
theorem BadV.mono {H H' : Hp} {v : V} {b : Bool} (s : Same H H') : BadV H v b → BadV H' v b
  | .tup e o k => .tup (s _ _ e) o k
  | .lst e o => .lst (s _ _ e) o
  | .str o => .str o
  | .non => .non
  | .seven => .seven
theorem dp_strs {K : PySem.W.Frag} {H : Hp} : ∀ xs : List Str, DpAll K H (xs.map V.str) (xs.map PyData.str)
  | [] => .nil
  | x :: xs => .cons (.str x) (dp_strs xs)
theorem eqv_strs : ∀ xs ys : List Str, PyData.eqvAll (xs.map PyData.str) (ys.map PyData.str) = decide (xs = ys)
  | [], [] => by simp [PyData.eqvAll]
  | [], _ :: _ => by simp [PyData.eqvAll]
  | _ :: _, [] => by simp [PyData.eqvAll]
  | x :: xs, y :: ys => by
    simp only [List.map_cons, PyData.eqvAll, eqv_strs xs ys, PyData.eqv]
    by_cases h1 : x = y
    · by_cases h2 : xs = ys
      · simp [h1, h2]
      · simp [h1, h2]
    · simp [h1]
theorem lay_strs : ∀ {xs : List Str}, okStrs xs = true → PyData.canLayAll0 (xs.map PyData.str) = true
  | [], _ => by simp [PyData.canLayAll0]
  | x :: xs, h => by
    have h' : (PyData.strOk x && okStrs xs) = true := h
    obtain ⟨h1, h2⟩ := Bool.and_eq_true_iff.mp h'
    simp only [List.map_cons, PyData.canLayAll0]
    rw [lay_strs h2] <;> simp [PyData.canLay0, h1]
theorem depth_strs : ∀ xs : List Str, PyData.depthAll (xs.map PyData.str) = 0
  | [] => by simp [PyData.depthAll]
  | x :: xs => by simp only [List.map_cons, PyData.depthAll, depth_strs xs, PyData.depth]; rfl
theorem shaped_strsT {xs : List Str} (h : okStrs xs = true) : SeqAt.shaped (.tuple (xs.map PyData.str)) = true := by
  have h2 : PyData.depth (.tuple (xs.map PyData.str)) ≤ 64 := by simp only [PyData.depth, depth_strs]; decide
  show (PyData.canLay0 (.tuple (xs.map PyData.str)) && decide (PyData.depth (.tuple (xs.map PyData.str)) ≤ 64)) = true
  rw [Bool.and_eq_true]
  exact ⟨by simp only [PyData.canLay0]; exact lay_strs h, decide_eq_true h2⟩
theorem shaped_strsL {xs : List Str} (h : okStrs xs = true) : SeqAt.shaped (.list (xs.map PyData.str)) = true := by
  have h2 : PyData.depth (.list (xs.map PyData.str)) ≤ 64 := by simp only [PyData.depth, depth_strs]; decide
  show (PyData.canLay0 (.list (xs.map PyData.str)) && decide (PyData.depth (.list (xs.map PyData.str)) ≤ 64)) = true
  rw [Bool.and_eq_true]
  exact ⟨by simp only [PyData.canLay0]; exact lay_strs h, decide_eq_true h2⟩
section
variable {K : PySem.W.Frag} {σ : S} {H : Hp} {Q : VK} {te : TE} {a b : Addr} {xs ys : List V} {v : V} {c : Bool}
theorem i_eqStrsT {ss zs : List Str} (ha : SqT K H a (ss.map V.str)) (hb : SqT K H b (zs.map V.str)) (oa : okStrs ss = true) (ob : okStrs zs = true) (q : Q (.bl (decide (ss = zs))) H) : rEqD K (.ref a) (.ref b) H Q :=
  ⟨_, _, .tup ha (dp_strs ss), .tup hb (dp_strs zs), shaped_strsT oa, shaped_strsT ob, by simp only [PyData.eqv]; rw [eqv_strs]; exact q⟩
/-- a thing differs not from itself -/
theorem i_neBad (h : BadV H v c) (q : Q (.bl false) H) : rNeD K v v H Q := by
  cases h with
  | @tup t xs e o k => exact ⟨_, _, .tup (st_of e) (dp_strs xs), .tup (st_of e) (dp_strs xs), shaped_strsT o, shaped_strsT o, by simp only [PyData.eqv]; rw [eqv_strs]; simpa using q⟩
  | @lst t xs e o => exact ⟨_, _, .lst (sl_of e) (dp_strs xs), .lst (sl_of e) (dp_strs xs), shaped_strsL o, shaped_strsL o, by simp only [PyData.eqv]; rw [eqv_strs]; simpa using q⟩
  | @str x o =>
    have s : SeqAt.shaped (.str x) = true := by show (PyData.canLay0 (.str x) && _) = true; simp [PyData.canLay0, o, PyData.depth]
    exact ⟨_, _, .str x, .str x, s, s, by simp only [PyData.eqv]; simpa using q⟩
  | non => exact ⟨_, _, .non, .non, by decide +kernel, by decide +kernel, by simp only [PyData.eqv]; exact q⟩
  | seven => exact ⟨_, _, .int 7, .int 7, by decide +kernel, by decide +kernel, by simp only [PyData.eqv]; simpa using q⟩
theorem i_isiBad (h : BadV H v c) (q : Q (.bl c) H) : rIsi K [v, .ty "tuple"] H Q := by
  cases h with
  | tup e o k => exact i_isiTup e q
  | lst e o => exact ⟨_, _, _, _, false, rfl, .ty _, .base (.lst e), kit_ty (by decide +kernel), q⟩
  | str o => exact ⟨_, _, _, _, false, rfl, .ty _, .base (.str _), kit_ty (by decide +kernel), q⟩
  | non => exact ⟨_, _, _, _, false, rfl, .ty _, .base .non, kit_ty (by decide +kernel), q⟩
  | seven => exact ⟨_, _, _, _, false, rfl, .ty _, .base (.int 7), kit_ty (by decide +kernel), q⟩
/-! ### slices of lists -/
def RawSl (K : PySem.W.Frag) (Q : VK) (lo hi : Option Int) (x : V) (H1 : Hp) : Prop := rSlL K x lo hi H1 Q
theorem i_slTo {th : TE} (q : te σ H fun x H1 => th σ H1 fun y H2 => ∃ i, y = .int i ∧ RawSl K Q none (some i) x H2) : tSl (rSlL K) te tNoPart (tPart th) σ H Q := q
theorem i_slFrom {tl : TE} (q : te σ H fun x H1 => tl σ H1 fun y H2 => ∃ i, y = .int i ∧ RawSl K Q (some i) none x H2) : tSl (rSlL K) te (tPart tl) tNoPart σ H Q := q
theorem i_exi {i : Int} {A : Int → Prop} (q : A i) : ∃ k, V.int i = .int k ∧ A k := ⟨i, rfl, q⟩
end
section
variable {X : Cx}
theorem sl_listK (K : PySem.W.Frag) (e : X.K = K) : SlR X (rSlL K) := by subst e; exact sl_list
theorem sl_tupK (K : PySem.W.Frag) (e : X.K = K) : SlR X (rSlT K) := by subst e; exact sl_tup
end
section
variable {K : PySem.W.Frag} {σ : S} {H : Hp} {Q : VK} {te : TE} {a b : Addr} {xs ys : List V} {v : V} {c : Bool}
theorem raw_slTo {i : Int} (h : SqL K H a xs) (h0 : 0 ≤ i) (h1 : i ≤ xs.length) (q : ∀ p H', H p = none → Same H H' → H' p = some (.lst (xs.take i.toNat)) → Q (.ref p) H') : RawSl K Q none (some i) (.ref a) H := by
  obtain ⟨n, rfl⟩ := Int.eq_ofNat_of_zero_le h0
  refine ⟨a, xs, rfl, h, fun p hp => ?_⟩
  have e : cutV xs none (some (n : Int)) = xs.take n := by
    unfold cutV
    rw [HT.sIx_none, HT.sIx_nat, List.drop_zero, Nat.sub_zero, Nat.min_eq_left (by omega)]
  rw [e]
  exact q p _ hp (same_new hp) upd_same
theorem raw_slFrom {i : Int} (h : SqL K H a xs) (h0 : 0 ≤ i) (h1 : i ≤ xs.length) (q : ∀ p H', H p = none → Same H H' → H' p = some (.lst (xs.drop i.toNat)) → Q (.ref p) H') : RawSl K Q (some i) none (.ref a) H := by
  obtain ⟨n, rfl⟩ := Int.eq_ofNat_of_zero_le h0
  refine ⟨a, xs, rfl, h, fun p hp => ?_⟩
  have e : cutV xs (some (n : Int)) none = xs.drop n := by
    unfold cutV
    rw [HT.sIx_none, HT.sIx_nat, Nat.min_eq_left (by omega)]
    exact List.take_of_length_le (by rw [List.length_drop]; omega)
  rw [e]
  exact q p _ hp (same_new hp) upd_same
/-! ### exceptions: readings -/
def RawVe (K : PySem.W.Frag) (Q : VK) (vs : List V) (H1 : Hp) : Prop := ∃ (a C : Addr) (ws : List V), vs = .ref a :: ws ∧ ws.length ≤ 1000 ∧ OexC K C ∧ H1 a = some (exo a C none) ∧ Q .non H1
theorem i_vei {ta : TA} (q : ta σ H (RawVe K Q)) : tVeI K ta σ H Q := q
def RawOst (K : PySem.W.Frag) (D : Ends) (σ : S) (f : Str) (y x : V) (H2 : Hp) : Prop := ∃ a C : Addr, x = .ref a ∧ OexC K C ∧ PySem.W.findIn K (.ref C) f = some none ∧
  ((H2 a = some (exo a C none) ∧ ∀ dx, H2 dx = none → dx ≠ a → D.nx σ (upd (upd H2 dx (exd dx [(f, y)])) a (exo a C (some dx)))) ∨
    ∃ (dx : Addr) (fs : List (Str × V)), H2 a = some (exo a C (some dx)) ∧ H2 dx = some (exd dx fs) ∧ fs.length ≤ 900 ∧ D.nx σ (upd H2 dx (exd dx ((f, y) :: fs))))
theorem i_ost {to : TE} {f : Str} {D : Ends} (q : te σ H fun y H1 => to σ H1 fun x H2 => RawOst K D σ f y x H2) : tOst K f to te D σ H := q
def RawMkO (C : Addr) (sp : Sp) (dvs : List V) (Q : XK) (vs : List V) (H1 : Hp) : Prop := vs.length ≤ 1000 ∧ ∀ a, H1 a = none → sp (.ref a :: (vs ++ dvs)) (upd H1 a (exo a C none))
  (fun v H2 => v = .non ∧ ∃ (d : Addr) (fs : List (Str × V)), H2 a = some (exo a C (some d)) ∧ H2 d = some (exd d fs) ∧ H1 d = none ∧ Q (.ref C) (some d) (upd (del H2 a) d (.xd fs))) (fun _ _ _ => False)
def RawMkS (C : Addr) (sp : Sp) (dvs : List V) (E : S → XK) (σ : S) (Q : VK) (vs : List V) (H1 : Hp) : Prop := ∀ x dx, H1 x = none → H1 dx = none → dx ≠ x →
  sp (.ref x :: (vs ++ dvs)) (upd (upd H1 dx (.own x)) x (.ins C dx [])) (fun v H2 => v = .non ∧ Q (.ref x) H2) (fun cls d H' => E σ cls d H')
theorem i_makeS {C : Addr} {sp : Sp} {dvs : List V} {E : S → XK} {ta : TA} (q : ta σ H (RawMkS C sp dvs E σ Q)) : tMakeS C sp dvs E ta σ H Q := q
theorem i_mko {C : Addr} {sp : Sp} {dvs : List V} {ta : TA} {QX : XK} (q : ta σ H (RawMkO C sp dvs QX)) : tMkO C sp dvs ta σ H QX := q
/-- isinstance(e, c) of the exception that is held -/
theorem i_isED {e D dd : Addr} {fs : List (Str × V)} {cv : Value} (h : H dd = some (.xd fs)) (x : ExcD K D) (k : ClsV v cv) (z : PySem.W.kitOne K (.ref D) cv = some c) (q : Q (.bl c) H) : rIsED K e (.ref D) (some dd) [.ref e, v] H Q :=
  ⟨_, _, _, _, _, _, rfl, rfl, rfl, h, x, k, z, q⟩
end
/-- what the text says of the errors -/
structure ErrCl (K : PySem.W.Frag) (mg : Str → Option Value) (CO CI : Addr) (mc : Value) : Prop where
  gO : mg "OrderError" = some (.ref CO)
  rdO : ClX.CRead K CO mc
  vVO : PySem.W.findCls K (.ref CO) mc "__init__" = some (.val (.builtin "ValueError.__init__"))
  gI : mg "InvalidPair" = some (.ref CI)
  T : OexC K CI
  nI : PySem.W.findIn K (.ref CI) "pair" = some none
  X : XfC K CI
  D : ExcD K CI
def spIPI (CI : Addr) : Sp := fun vs H Q _ => ∃ a v, vs = [.ref a, v] ∧ H a = some (exo a CI none) ∧ ∀ d, H d = none → d ≠ a → Q .non (upd (upd H d (exd d [("pair", v)])) a (exo a CI (some d)))
/-- InvalidPair(..) and what it needs -/
structure EMk (P : Program) (w : World) (K : PySem.W.Frag) (mg : Str → Option Value) (base : Heap) (k : Nat) (CI : Addr) : Prop where
  ex : ∃ fI fd, PySem.W.findIn K (.ref CI) "__init__" = some (some (.ref fI)) ∧ PySem.W.typeIn K (.ref fI) = some (.type "function") ∧ Binds K fd ["self", "pair"] [] ∧ FnOk P w K mg base CX0 k fI fd ["self", "pair"] (spIPI CI)
end KP
namespace KP
open PySem PySem.Spec PyProof.Rows L2
section
variable {K : PySem.W.Frag} {σ : S} {H : Hp} {Q : VK} {te : TE}
def RawXf (a : Addr) (cls : Value) (d : Option Addr) (C : Addr) (f : Str) (Q : VK) (x : V) (H1 : Hp) : Prop := x = .ref a ∧ cls = .ref C ∧ ∃ (dd : Addr) (fs : List (Str × V)) (v : V), d = some dd ∧ H1 dd = some (.xd fs) ∧ fs.lookup f = some v ∧ Q v H1
theorem i_xf {a C : Addr} {cls : Value} {d : Option Addr} {f : Str} (q : te σ H (RawXf a cls d C f Q)) : tXf a cls d C f te σ H Q := q
end
/-! ### all pairs of two lists -/
def prodP (fs ss : List Str) : List Pr := fs.flatMap fun a => ss.map fun b => (a, b)
def prodAt (fs ss : List Str) (i j : Nat) : List Pr := prodP (fs.take i) ss ++ (fs[i]?).toList.flatMap fun a => (ss.take j).map fun b => (a, b)
theorem prodP_mem {fs ss : List Str} {p : Pr} : p ∈ prodP fs ss ↔ p.1 ∈ fs ∧ p.2 ∈ ss := by
  obtain ⟨a, b⟩ := p
  unfold prodP
  simp
theorem prodP_len : ∀ fs ss : List Str, (prodP fs ss).length = fs.length * ss.length
  | [], ss => by simp [prodP]
  | a :: fs, ss => by
    have e : prodP (a :: fs) ss = (ss.map fun b => (a, b)) ++ prodP fs ss := by simp [prodP]
    rw [e, List.length_append, List.length_map, prodP_len fs ss, List.length_cons, Nat.add_mul]
    omega
theorem prodAt_zero (fs ss : List Str) (i : Nat) : prodAt fs ss i 0 = prodP (fs.take i) ss := by
  unfold prodAt
  cases fs[i]? <;> simp
theorem prodAt_next (fs ss : List Str) (i : Nat) : prodAt fs ss i ss.length = prodAt fs ss (i + 1) 0 := by
  rw [prodAt_zero]
  unfold prodAt prodP
  rw [List.take_add_one, List.flatMap_append, List.take_length]
theorem prodAt_snoc {fs ss : List Str} {i j : Nat} {a b : Str} (ha : fs[i]? = some a) (hb : ss[j]? = some b) : prodAt fs ss i (j + 1) = prodAt fs ss i j ++ [(a, b)] := by
  unfold prodAt
  rw [ha, take_snoc hb]
  simp
theorem prodAt_end (fs ss : List Str) : prodAt fs ss fs.length 0 = prodP fs ss := by rw [prodAt_zero, List.take_length]
theorem norm_prod (fs ss : List Str) : norm (prodP fs ss) = allPairs.filter fun p => decide (p.1 ∈ fs) && decide (p.2 ∈ ss) := by
  unfold norm
  refine List.filter_congr fun p _ => ?_
  rw [Bool.eq_iff_iff]
  simp [prodP_mem]
theorem str_at {l : List Str} {i : Nat} {x : V} (h : (l.map V.str)[i]? = some x) : ∃ z, l[i]? = some z ∧ x = .str z := by
  rw [List.getElem?_map] at h
  cases e : l[i]? with
  | none => rw [e] at h; cases h
  | some z => rw [e] at h; exact ⟨z, rfl, (Option.some.inj h).symm⟩
end KP
namespace KP
open PySem PySem.Spec PyProof.Rows L2
theorem paired_take {α β : Type} {F : α → β → Prop} : ∀ {l : List α} {m : List β} (n : Nat), Paired F l m → Paired F (l.take n) (m.take n)
  | _, _, 0, _ => .nil
  | _, _, _ + 1, .nil => .nil
  | _, _, n + 1, .cons a b => .cons a (paired_take n b)
theorem mid_at {us ext r : List V} {v : V} {n : Nat} (h : n ≤ us.length) : (us.take n ++ (v :: ext) ++ r)[n]? = some v := by
  have e : (us.take n).length = n := by rw [List.length_take, Nat.min_eq_left h]
  rw [List.append_assoc, List.getElem?_append_right (by omega), e, Nat.sub_self]
  rfl
theorem mid_take {us ext r : List V} {v : V} {n : Nat} (h : n ≤ us.length) : (us.take n ++ (v :: ext) ++ r).take n = us.take n := by
  have e : (us.take n).length = n := by rw [List.length_take, Nat.min_eq_left h]
  rw [List.append_assoc, List.take_append_of_le_length (by omega), List.take_of_length_le (by omega)]
theorem kind_get {j : Int} (h0 : 0 ≤ j) (h1 : j < 4) : ∃ z, atI kindsV j = some (.str z) ∧ kindB z = true := by
  obtain ⟨n, rfl⟩ := Int.eq_ofNat_of_zero_le h0
  have hn : n < 4 := by omega
  match n, hn with
  | 0, _ => exact ⟨_, rfl, by decide +kernel⟩
  | 1, _ => exact ⟨_, rfl, by decide +kernel⟩
  | 2, _ => exact ⟨_, rfl, by decide +kernel⟩
  | 3, _ => exact ⟨_, rfl, by decide +kernel⟩
theorem norm_kinds : norm (prodP kinds kinds) = allPairs := by decide +kernel
end KP

set_option Elab.async false
set_option linter.all false
set_option maxRecDepth 100000
set_option maxHeartbeats 1000000
namespace KP
open PySem PySem.Spec PyProof.Rows L2
section
variable {X : Cx} {CX : CXT} {k : Nat} {f C q : Addr} {mc : Value} {fd : FuncData} {ps : List Str} {sp : Sp} {E : XK} {x m : Str} {p p1 p2 pos : Pos} {e : Expr} {es : List Expr} {t ta : TA}
/-- an expression that is never asked -/
theorem pe_never : PE X e (fun _ _ _ => False) := ⟨fun _ _ _ _ _ _ h => h.elim⟩
theorem pe_sm0 {pl : Sem Bool} (O : OkS X.prog X.w X.K X.mg X.base CX k x m ps sp) (hr : Room k X.A) (hx : Passes CX X E := by exact pass0) (hg : Gl X x := by rfl) (hdb : (x == ("__debug__" : Str)) = false := by decide)
    (hc : eval (.Call (.Attribute (.Name x p1) m p2) [] [] pos) X.env = (do
      let ov ← eval (.Name x p1) X.env
      standAt p2.atName
      let (f, first) ← holding [ov] (getMethod ov m pl)
      callWith pos f first (backTo pos (starEach [] X.env)) (backToKw pos (keywordEach [] X.env))) := by rfl) :
    PE X (.Call (.Attribute (.Name x p1) m p2) [] [] pos) (tCall sp [] E tNil) := by
  obtain ⟨C, mc, q, f, fd, rest, hm, rd, hf, hp, hk, hb, F⟩ := O.ex
  refine ⟨fun pins s σ H Q I h => ?_⟩
  refine PySem.W.methodCall_KW (pl := pl) (ld_glob I hg hm ?_ hdb) hc
  refine PySem.W.method_cls I.kIn rd.ga ?_
  refine PySem.W.cls_bind I.kIn rd.rd hf ?_
  refine wpAny_call (PySem.W.sm_get (s := { s with toks := s.toks + 1 }) I.kIn hp (PySem.W.handed_on rfl ?_))
  exact PySem.W.callWith_K0 (env := X.env) I.kIn hk (run_fn (us := []) F hr hb .nil hx (I.tok _) .nil h)
end
section
variable {K : PySem.W.Frag} {σ : S} {H H' : Hp} {Q : VK} {te td : TE} {d : Addr} {u : HO} {v : V}
/-- a dict walked under a lock -/
theorem raw_lock {t : TE} (hd : H d = some u) (mu : Mut (some u)) (q : ∀ od, t σ (upd H d (.frz od u)) fun v H' => H' d = some (.frz od u) ∧ Q v (upd H' d u)) : tLockE t σ H Q := ⟨d, u, hd, mu, q⟩
theorem same_lock {od : Obj} (hd : H d = some u) (s : Same (upd H d (.frz od u)) H') : Same H (upd H' d u) := fun b o e => by
  by_cases h : b = d
  · subst h
    rw [upd_same, ← e, hd]
  · rw [upd_ne h]
    exact s b o (by rw [upd_ne h]; exact e)
def rStrS : List V → Hp → VK → Prop := fun xs H Q => ∃ a, xs = [.str a] ∧ Q (.str a) H
theorem call_strS {X : Cx} : CallR X (.type "str") rStrS := SkE.call_str_str
theorem i_strS {z : Str} (q : Q (.str z) H) : rStrS [.str z] H Q := ⟨z, rfl, q⟩
theorem cr_sortedSK (K : PySem.W.Frag) {X : Cx} (e : X.K = K) : CallR X (.builtin "sorted") (rSortedS K) := by subst e; exact cr_sortedS
theorem cr_anyK (K : PySem.W.Frag) {X : Cx} (e : X.K = K) (hc : X.calm = true) : CallR X (.builtin "any") (rAny K) := by subst e; exact cr_any hc
theorem i_any {a : Addr} {bs : List Bool} (h : SqL K H a (bs.map V.bl)) (q : Q (.bl (bs.any id)) H) : rAny K [.ref a] H Q := ⟨a, bs, rfl, h, q⟩
def RawKeys (g : TG) (tt : TT) (te : TE) (vs : List Nat) (σ : S) (Q : VK) (x : V) (H1 : Hp) : Prop := ∃ d o, x = .ref d ∧ ((∃ kvs, H1 d = some (.frz o (.dK kvs)) ∧ RawLc g tt te vs σ Q (Itk d o kvs) H1) ∨ ∃ kvs, H1 d = some (.frz o (.dT kvs)) ∧ RawLc g tt te vs σ Q (Itkt d o kvs) H1)
theorem i_lcK {g : TG} {tt : TT} {vs : List Nat} (q : td σ H (RawKeys g tt te vs σ Q)) : tLc (iKeys td) g tt te vs σ H Q := q
theorem raw_lcK {g : TG} {tt : TT} {vs : List Nat} {o : Obj} {kvs : List (L2.Key × V)} (h : H d = some (.frz o (.dK kvs))) (hn : kvs.length ≤ 1000) (Pv : Nat → List V → Hp → Prop) (mono : ∀ i acc H H', TupK H H' → Pv i acc H → Pv i acc H') (p0 : Pv 0 [] H)
    (hs : ∀ i k v acc H', kvs[i]? = some (k, v) → Same H H' → Pv i acc H' → LcTurn g tt te vs σ Pv i (kV k) acc H') (hd : ∀ D acc H', H D = none → Same H H' → H' D = some (.lst acc) → Pv kvs.length acc H' → Q (.ref D) H') : RawKeys g tt te vs σ Q (.ref d) H :=
  ⟨d, o, rfl, .inl ⟨kvs, h, raw_lc (Yl := fun i x => ∃ k v, kvs[i]? = some (k, v) ∧ x = kV k) walk_keys hn (fun H' s => s _ _ h) Pv mono p0 (fun i x acc H' hi ⟨k, v, e1, e2⟩ sm pa => by subst e2; exact hs i k v acc H' e1 sm pa) hd⟩⟩
def RawDGet (Q : VK) (x y : V) (H2 : Hp) : Prop := ∃ a v, x = .ref a ∧ DGet H2 a y (some v) ∧ Q v H2
theorem i_dget {ty : TE} (q : td σ H fun x H1 => ty σ H1 fun y H2 => RawDGet Q x y H2) : tDGet td ty σ H Q := q
theorem raw_dgetS {kvs : List (L2.Key × V)} {k : Str} (h : H d = some (.dK kvs)) (hv : valV kvs (Sum.inr k) = some v) (q : Q v H) : RawDGet Q (.ref d) (.str k) H := by
  refine ⟨d, v, rfl, ?_, q⟩
  rw [← hv]
  exact DGet.k (k := Sum.inr k) h
def RawSorted (K : PySem.W.Frag) (Q : VK) (vs : List V) (H : Hp) : Prop := rSortedS K vs H Q
theorem raw_sorted {a : Addr} {xs : List Str} (h : SqL K H a (xs.map V.str)) (z : xs.length < 64) (q : ∀ ys p H', ys.Perm xs → sortedS ys = true → H p = none → Same H H' → H' p = some (.lst (ys.map V.str)) → Q (.ref p) H') : rSortedS K [.ref a] H Q :=
  ⟨a, xs, rfl, h, z, fun ys p pm so np => q ys p _ pm so np (same_new np) upd_same⟩
theorem i_neStrsT {a b : Addr} {ss zs : List Str} (ha : SqT K H a (ss.map V.str)) (hb : SqT K H b (zs.map V.str)) (oa : okStrs ss = true) (ob : okStrs zs = true) (q : Q (.bl (!decide (ss = zs))) H) : rNeD K (.ref a) (.ref b) H Q :=
  ⟨_, _, .tup ha (dp_strs ss), .tup hb (dp_strs zs), shaped_strsT oa, shaped_strsT ob, by simp only [PyData.eqv]; rw [eqv_strs]; exact q⟩
end
/-! ### a book that has full alone -/
structure BookAt (K : PySem.W.Frag) (CP C : Addr) (H : Hp) (b : Addr) (kept : List Pr) (e c : Bool) : Prop where
  ex : ∃ dx fd fp nt kp fs, H b = some (.ins C dx fs) ∧ fs.lookup ("_fences" : Str) = some (.ref fd) ∧ fs.lookup ("_names" : Str) = some (.ref nt) ∧ fs.lookup ("kept" : Str) = some (.ref kp) ∧ fs.lookup ("early" : Str) = some (.bl e) ∧ fs.lookup ("coherent" : Str) = some (.bl c) ∧
    fs.lookup ("keeps" : Str) = none ∧ fs.lookup ("ordered" : Str) = none ∧ fs.lookup ("_check_names" : Str) = none ∧ fs.lookup ("_keeps_over" : Str) = none ∧ fs.length ≤ 10 ∧
    H fd = some (.dK [(Sum.inr "full", .ref fp)]) ∧ PairsAt CP H fp allPairs ∧ H nt = some (.tup [.str "full"]) ∧ PairsAt CP H kp kept
theorem BookAt.mono {K : PySem.W.Frag} {CP C : Addr} {H H' : Hp} {b : Addr} {kept : List Pr} {e c : Bool} (s : Same H H') (h : BookAt K CP C H b kept e c) : BookAt K CP C H' b kept e c := by
  obtain ⟨dx, fd, fp, nt, kp, fs, h1, h2, h3, h4, h5, h6, m1, m2, m3, m4, z, h7, h8, h9, h10⟩ := h.ex
  exact ⟨dx, fd, fp, nt, kp, fs, s _ _ h1, h2, h3, h4, h5, h6, m1, m2, m3, m4, z, s _ _ h7, h8.mono s, s _ _ h9, h10.mono s⟩
/-- the class Book -/
structure BookCl (K : PySem.W.Frag) (mg : Str → Option Value) (C : Addr) : Prop where
  cl : Cls K C
  nF : NoAttr K C "_fences"
  nN : NoAttr K C "_names"
  nK : NoAttr K C "kept"
  nE : NoAttr K C "early"
  nC : NoAttr K C "coherent"
  gB : mg "Book" = some (.ref C)
end KP
namespace KP
open PySem PySem.Spec PyProof.Rows L2
abbrev bookPs : List Str := ["self", "kept", "fences", "early", "coherent"]
def spBInit (K : PySem.W.Frag) (CP C : Addr) : Sp := fun vs H Q _ => ∃ (p dx kp : Addr) (ps : List Pr) (e c : Bool), vs = [.ref p, .ref kp, .non, .bl e, .bl c] ∧ H p = some (.ins C dx []) ∧ PairsAt CP H kp ps ∧
  ∀ H', BookAt K CP C H' p ps e c → (∀ b o, b ≠ p → H b = some o → H' b = some o) → Q .non H'
/-- Book(..) and what it needs -/
structure BMk (P : Program) (w : World) (K : PySem.W.Frag) (mg : Str → Option Value) (base : Heap) (k : Nat) (CP C : Addr) : Prop where
  ex : ∃ f fd ds, Mk K C f ∧ Vals [.non, .bl false, .bl true] ds ∧ Binds K fd bookPs ds ∧ FnOk P w K mg base CX0 k f fd bookPs (spBInit K CP C) ∧
    (∃ g, KBn K fd bookPs 2 ["early"] g fun vs zs => vs ++ ([.non] ++ (zs ++ [.bl true]))) ∧ ∃ g, KBn K fd bookPs 2 ["early", "coherent"] g fun vs zs => vs ++ ([.non] ++ zs)
  gB : mg "Book" = some (.ref C)
section
variable {X : Cx} {k : Nat} {CP C : Addr} {E : XK} {p pos : Pos} {e : Expr} {t tk : TA} {kws : List Keyword}
theorem pe_makeB (O : BMk X.prog X.w X.K X.mg X.base k CP C) (hr : Room (k + 1) X.A) (ha : PA X [e] t) (hx : Passes CX0 X E := by exact pass0) (hg : Gl X "Book" := by rfl)
    (he : starEach (e :: []) X.env = (false, eval e X.env) :: starEach [] X.env := by rfl) (hpl : (backTo pos (starEach [] X.env)).any (·.1) = false := by rfl) :
    PE X (.Call (.Name "Book" p) [e] [] pos) (tMake C (spBInit X.K CP C) [.non, .bl false, .bl true] E t) := by
  obtain ⟨f, fd, ds, M, v, b, F, _, _⟩ := O.ex
  exact pe_make M F hr hg O.gB b v hx ha (by decide) he hpl
theorem pe_makeBe (O : BMk X.prog X.w X.K X.mg X.base k CP C) (hr : Room (k + 1) X.A) (ha : PA X [e] t) (hkw : PK X kws tk) (hx : Passes CX0 X E := by exact pass0) (hg : Gl X "Book" := by rfl)
    (hall : (backToKw pos (keywordEach kws X.env)).all (·.1.isSome) = true := by rfl) (hks : (backToKw pos (keywordEach kws X.env)).filterMap (·.1) = (["early"] : List Str) := by rfl)
    (he : starEach (e :: []) X.env = (false, eval e X.env) :: starEach [] X.env := by rfl) (hpl : ((backTo pos (starEach (e :: []) X.env)).any (·.1) || (backToKw pos (keywordEach kws X.env)).any (·.1.isNone)) = false := by rfl) :
    PE X (.Call (.Name "Book" p) [e] kws pos) (tMakeK C 1 1 (spBInit X.K CP C) (fun vs zs => vs ++ ([.non] ++ (zs ++ [.bl true]))) E t tk) := by
  obtain ⟨f, fd, ds, M, v, b, F, ⟨g, G⟩, _⟩ := O.ex
  exact pe_makeK (ks := ["early"]) M F hr hg O.gB G hx ha hkw hall hks (by decide) he hpl
theorem pe_makeBec (O : BMk X.prog X.w X.K X.mg X.base k CP C) (hr : Room (k + 1) X.A) (ha : PA X [e] t) (hkw : PK X kws tk) (hx : Passes CX0 X E := by exact pass0) (hg : Gl X "Book" := by rfl)
    (hall : (backToKw pos (keywordEach kws X.env)).all (·.1.isSome) = true := by rfl) (hks : (backToKw pos (keywordEach kws X.env)).filterMap (·.1) = (["early", "coherent"] : List Str) := by rfl)
    (he : starEach (e :: []) X.env = (false, eval e X.env) :: starEach [] X.env := by rfl) (hpl : ((backTo pos (starEach (e :: []) X.env)).any (·.1) || (backToKw pos (keywordEach kws X.env)).any (·.1.isNone)) = false := by rfl) :
    PE X (.Call (.Name "Book" p) [e] kws pos) (tMakeK C 1 2 (spBInit X.K CP C) (fun vs zs => vs ++ ([.non] ++ zs)) E t tk) := by
  obtain ⟨f, fd, ds, M, v, b, F, _, ⟨g, G⟩⟩ := O.ex
  exact pe_makeK (ks := ["early", "coherent"]) M F hr hg O.gB G hx ha hkw hall hks (by decide) he hpl
end
section
variable {K : PySem.W.Frag} {σ : S} {H : Hp} {Q : VK} {CP C : Addr}
def RawMkK (C : Addr) (n m : Nat) (sp : Sp) (gV : List V → List V → List V) (E : XK) (Q : VK) (vs zs : List V) (H2 : Hp) : Prop := vs.length = n ∧ zs.length = m ∧ ∀ x dx, H2 x = none → H2 dx = none → dx ≠ x →
  sp (gV (.ref x :: vs) zs) (upd (upd H2 dx (.own x)) x (.ins C dx [])) (fun v H3 => v = .non ∧ Q (.ref x) H3) E
theorem i_makeK {n m : Nat} {sp : Sp} {gV : List V → List V → List V} {E : XK} {t tk : TA} (q : t σ H fun vs H1 => tk σ H1 fun zs H2 => RawMkK C n m sp gV E Q vs zs H2) : tMakeK C n m sp gV E t tk σ H Q := q
theorem mk_book {e c : Bool} {kp x dx : Addr} {ps : List Pr} {vs : List V} (hk : PairsAt CP H kp ps) (nx : H x = none) (ndx : H dx = none) (hv : vs = [.ref x, .ref kp, .non, .bl e, .bl c])
    (q : ∀ x H', H x = none → Same H H' → BookAt K CP C H' x ps e c → Q (.ref x) H') : spBInit K CP C vs (upd (upd H dx (.own x)) x (.ins C dx [])) (fun v H2 => v = .non ∧ Q (.ref x) H2) E0 := by
  have s0 : Same H (upd (upd H dx (.own x)) x (.ins C dx [])) := fun b o e => by
    rw [upd_ne (ne_of_none e nx), upd_ne (ne_of_none e ndx)]
    exact e
  exact ⟨x, dx, kp, ps, e, c, hv, upd_same, hk.mono s0, fun H' B k => ⟨rfl, q x H' nx (fun b o e => k b o (ne_of_none e nx) (s0 b o e)) B⟩⟩
theorem raw_mkB {kp : Addr} {ps : List Pr} (hk : PairsAt CP H kp ps) (q : ∀ x H', H x = none → Same H H' → BookAt K CP C H' x ps false true → Q (.ref x) H') : RawMk C (spBInit K CP C) [.non, .bl false, .bl true] E0 Q [.ref kp] H :=
  fun x dx nx ndx nex => mk_book hk nx ndx rfl q
theorem raw_mkBe {kp : Addr} {ps : List Pr} {e : Bool} (hk : PairsAt CP H kp ps) (q : ∀ x H', H x = none → Same H H' → BookAt K CP C H' x ps e true → Q (.ref x) H') : RawMkK C 1 1 (spBInit K CP C) (fun vs zs => vs ++ ([.non] ++ (zs ++ [.bl true]))) E0 Q [.ref kp] [.bl e] H :=
  ⟨rfl, rfl, fun x dx nx ndx nex => mk_book hk nx ndx rfl q⟩
theorem raw_mkBec {kp : Addr} {ps : List Pr} {e c : Bool} (hk : PairsAt CP H kp ps) (q : ∀ x H', H x = none → Same H H' → BookAt K CP C H' x ps e c → Q (.ref x) H') : RawMkK C 1 2 (spBInit K CP C) (fun vs zs => vs ++ ([.non] ++ zs)) E0 Q [.ref kp] [.bl e, .bl c] H :=
  ⟨rfl, rfl, fun x dx nx ndx nex => mk_book hk nx ndx rfl q⟩
end
end KP
namespace KP
open PySem PySem.Spec PyProof.Rows L2
section
variable {p : Addr} {H H1 H2 H' : Hp} {C dx : Addr} {fs : List (Str × V)}
theorem But.trans (a : But p H H1) (b : But p H1 H2) : But p H H2 := fun c o h e => b c o h (a c o h e)
theorem But.same (a : But p H H1) (s : Same H1 H2) : But p H H2 := fun c o h e => s c o (a c o h e)
theorem Same.but (s : Same H H1) : But p H H1 := fun c o _ e => s c o e
theorem But.paI {CP m : Addr} {ps : List Pr} (b : But p H H') (e : H p = some (.ins C dx fs)) (hm : m ≠ p) (h : PairsAt CP H m ps) : PairsAt CP H' m ps := by
  obtain ⟨dy, t, vs, h1, h2, h3⟩ := h
  exact ⟨dy, t, vs, b _ _ hm h1, b _ _ (ne_of h2 e fun q => nomatch q) h2, h3.mono fun t xs z => b t _ (ne_of z e (fun q => nomatch q)) z⟩
theorem pa_ne {CP m : Addr} {ps : List Pr} (e : H p = some (.ins C dx [])) (h : PairsAt CP H m ps) : m ≠ p := by
  obtain ⟨dy, t, vs, h1, _⟩ := h
  rintro rfl
  rw [e] at h1
  have z := Option.some.inj h1
  injection z with _ _ z
  cases z
end
end KP
namespace KP
open PySem PySem.Spec PyProof.Rows L2
/-- a property of a class -/
structure OkP (P : Program) (w : World) (K : PySem.W.Frag) (mg : Str → Option Value) (base : Heap) (k : Nat) (C : Addr) (m : Str) (sp : Sp) : Prop where
  ex : ∃ p g fd, PropOf K C m p g ∧ Binds K fd ["self"] [] ∧ FnOk P w K mg base CX0 k g fd ["self"] sp
/-- a method whose last parameters have defaults -/
structure OkMD (P : Program) (w : World) (K : PySem.W.Frag) (mg : Str → Option Value) (base : Heap) (k : Nat) (C : Addr) (m : Str) (ps : List Str) (dvs : List V) (sp : Sp) : Prop where
  ex : ∃ f fd ds, Meth K C m f ∧ Vals dvs ds ∧ Binds K fd ps ds ∧ FnOk P w K mg base CX0 k f fd ps sp
section
variable {X : Cx} {CX : CXT} {k : Nat} {C : Addr} {ps : List Str} {sp : Sp} {E : XK} {m : Str} {o e : Expr} {es : List Expr} {pos apos : Pos} {ta : TE} {t : TA} {dvs : List V}
theorem pe_propO (O : OkP X.prog X.w X.K X.mg X.base k C m sp) (c : Cls X.K C) (hr : Room (k + 1) X.A) (he : PE X e ta) (hab : attributeBase e m X.env (eval e X.env) = eval e X.env := by rfl) : PE X (.Attribute e m pos) (tProp C sp [] E0 ta) := by
  obtain ⟨p, g, fd, hp, b, F⟩ := O.ex
  exact pe_prop he c hp F hr b .nil pass0 hab
theorem pe_methO {pl : Sem Bool} (O : OkM X.prog X.w X.K X.mg X.base CX k C m ps sp) (c : Cls X.K C) (hr : Room k X.A) (he : PE X o ta) (ha : PA X (e :: es) t) (hx : Passes CX X E := by exact pass0)
    (hst : starEach (e :: es) X.env = (false, eval e X.env) :: starEach es X.env := by rfl) (hpl : (backTo pos (starEach es X.env)).any (·.1) = false := by rfl)
    (ht : eval (.Call (.Attribute o m apos) (e :: es) [] pos) X.env = (do
      let ov ← eval o X.env
      standAt apos.atName
      let (f, first) ← holding [ov] (getMethod ov m pl)
      callWith pos f first (backTo pos (starEach (e :: es) X.env)) (backToKw pos (keywordEach [] X.env))) := by rfl) :
    PE X (.Call (.Attribute o m apos) (e :: es) [] pos) (tMeth C m sp [] E ta t) := by
  obtain ⟨f, fd, h1, h2, h3, b, F⟩ := O.ex
  exact pe_meth he c ⟨h1, h2, h3⟩ F hr b .nil hx ha hst hpl ht
theorem pe_methD {pl : Sem Bool} (O : OkMD X.prog X.w X.K X.mg X.base k C m ps dvs sp) (c : Cls X.K C) (hr : Room k X.A) (he : PE X o ta) (ha : PA X (e :: es) t)
    (hst : starEach (e :: es) X.env = (false, eval e X.env) :: starEach es X.env := by rfl) (hpl : (backTo pos (starEach es X.env)).any (·.1) = false := by rfl)
    (ht : eval (.Call (.Attribute o m apos) (e :: es) [] pos) X.env = (do
      let ov ← eval o X.env
      standAt apos.atName
      let (f, first) ← holding [ov] (getMethod ov m pl)
      callWith pos f first (backTo pos (starEach (e :: es) X.env)) (backToKw pos (keywordEach [] X.env))) := by rfl) :
    PE X (.Call (.Attribute o m apos) (e :: es) [] pos) (tMeth C m sp dvs E0 ta t) := by
  obtain ⟨f, fd, ds, h1, v, b, F⟩ := O.ex
  exact pe_meth he c h1 F hr b v pass0 ha hst hpl ht
end
section
variable {K : PySem.W.Frag} {σ : S} {H : Hp} {Q : VK} {C a dx : Addr} {m : Str} {sp : Sp} {dvs : List V} {E : XK} {ta : TE} {t : TA} {fs : List (Str × V)}
def RawMeth (C : Addr) (m : Str) (sp : Sp) (dvs : List V) (E : XK) (t : TA) (σ : S) (Q : VK) (x : V) (H1 : Hp) : Prop := ∃ a dx fs, x = .ref a ∧ H1 a = some (.ins C dx fs) ∧ fs.lookup m = none ∧ t σ H1 fun vs H2 => sp (x :: (vs ++ dvs)) H2 Q E
theorem i_meth (q : ta σ H (RawMeth C m sp dvs E t σ Q)) : tMeth C m sp dvs E ta t σ H Q := q
theorem raw_meth (h : H a = some (.ins C dx fs)) (n : fs.lookup m = none) (q : t σ H fun vs H2 => sp (.ref a :: (vs ++ dvs)) H2 Q E) : RawMeth C m sp dvs E t σ Q (.ref a) H := ⟨a, dx, fs, rfl, h, n, q⟩
def RawProp (C : Addr) (sp : Sp) (dvs : List V) (E : XK) (Q : VK) (x : V) (H1 : Hp) : Prop := ∃ a dx fs, x = .ref a ∧ H1 a = some (.ins C dx fs) ∧ sp (.ref a :: dvs) H1 Q E
theorem i_prop (q : ta σ H (RawProp C sp dvs E Q)) : tProp C sp dvs E ta σ H Q := q
end
end KP
namespace KP
open PySem PySem.Spec PyProof.Rows L2
section
variable {K : PySem.W.Frag} {σ : S} {H : Hp} {Q : VK} {te : TE} {a : Addr} {xs : List V} {ta : TA} {i j : Nat} {D : Ends}
def RawPar (i j : Nat) (D : Ends) (σ : S) (vs : List V) (H1 : Hp) : Prop := ∃ v w, vs = [v, w] ∧ D.nx ((σ.set i (some v)).set j (some w)) H1
theorem i_par (q : ta σ H (RawPar i j D σ)) : tPar i j ta D σ H := q
theorem raw_par {v w : V} (q : D.nx ((σ.set i (some v)).set j (some w)) H) : RawPar i j D σ [v, w] H := ⟨v, w, rfl, q⟩
theorem i_slB {tl th : TE} (q : te σ H fun x H1 => tl σ H1 fun y H2 => ∃ i, y = .int i ∧ th σ H2 fun z H3 => ∃ j, z = .int j ∧ RawSl K Q (some i) (some j) x H3) : tSl (rSlL K) te (tPart tl) (tPart th) σ H Q := q
theorem raw_slX {lo hi : Option Int} {ys : List V} (h : SqL K H a xs) (e : cutV xs lo hi = ys) (q : ∀ p H', H p = none → Same H H' → H' p = some (.lst ys) → Q (.ref p) H') : RawSl K Q lo hi (.ref a) H := by
  subst e
  exact ⟨a, xs, rfl, h, fun p hp => q p _ hp (same_new hp) upd_same⟩
end
end KP
namespace KP
open PySem PySem.Spec PyProof.Rows L2
theorem i_gsub {to ti : TE} {t : TSet} {v : V} {σ : S} {H : Hp} {QN : S → Hp → Prop} (q : to σ H fun o H1 => ti σ H1 fun i H2 => t o i v H2 fun H3 => QN σ H3) : gSub to ti t v σ H QN := q
end KP
namespace KP
open PySem PySem.Spec PyProof.Rows L2
theorem paired_drop {α β : Type} {F : α → β → Prop} : ∀ {l : List α} {m : List β} (n : Nat), Paired F l m → Paired F (l.drop n) (m.drop n)
  | _, _, 0, h => h
  | _, _, _ + 1, .nil => .nil
  | _, _, n + 1, .cons a b => paired_drop n b
end KP
set_option Elab.async false
set_option linter.all false
set_option maxRecDepth 100000
set_option maxHeartbeats 1000000
namespace KP
open PySem PySem.Spec PyProof.Rows L2
local macro_rules | `(tactic| walk_at "hpH") => `(tactic| first
  | assumption
  | exact upd_same
  | exact Same.at (by assumption) (by walk_at "hpH"))
local macro_rules | `(tactic| walk_at "hpL") => `(tactic| first
  | assumption
  | exact sl_of (by walk_at "hpH")
  | exact Same.sl (by assumption) (by walk_at "hpL"))
local macro_rules | `(tactic| walk_at "hpT") => `(tactic| first
  | assumption
  | exact st_of (by walk_at "hpH")
  | exact Same.st (by assumption) (by walk_at "hpT"))
local macro_rules | `(tactic| walk_at "hp") => `(tactic| first
  | ((with_reducible show SqL _ _ _ _); walk_at "hpL")
  | ((with_reducible show SqT _ _ _ _); walk_at "hpT")
  | walk_at "hpH")
local macro_rules | `(tactic| walk_at "ar") => `(tactic| first
  | decide
  | omega
  | exact ⟨by decide, by decide⟩
  | exact Or.inl ⟨by decide, by decide⟩
  | exact Or.inl ⟨by omega, by omega⟩
  | exact Or.inr ⟨by decide, by decide⟩
  | exact Or.inr ⟨by omega, by omega⟩
  | exact ⟨by decide, by decide, by decide⟩
  | (simp only [List.length_map, List.length_append, List.length_cons, List.length_nil, List.length_reverse]; omega))
local macro_rules | `(tactic| walk_at "kp1") => `(tactic| first
  | (with_reducible refine' i_seq ?_)
  | (with_reducible refine' i_asg ?_)
  | (with_reducible refine' i_gname ?_)
  | ((with_reducible refine' i_var ?hv ?_); (case hv => exact rfl))
  | (with_reducible refine' i_c ?_)
  | (with_reducible refine' i_op ?_)
  | (with_reducible refine' i_un ?_)
  | (with_reducible refine' i_test ?_)
  | (with_reducible refine' i_B ?_)
  | (with_reducible refine' i_and ?_)
  | (with_reducible refine' i_or ?_)
  | (with_reducible refine' i_not ?_)
  | (with_reducible refine' i_andV ?_)
  | (with_reducible refine' i_orV ?_)
  | (with_reducible refine' i_notV ?_)
  | (with_reducible refine' i_tif ?_)
  | (with_reducible refine' i_exb ?_)
  | (with_reducible refine' i_drop ?_)
  | (with_reducible refine' i_ret ?_)
  | (with_reducible refine' i_retN ?_)
  | (with_reducible refine' i_next ?_)
  | (with_reducible refine' i_ifS ?_)
  | (with_reducible refine' i_nil ?_)
  | (with_reducible refine' i_cons ?_)
  | (with_reducible refine' i_cb ?_)
  | (with_reducible refine' i_call ?_)
  | (with_reducible refine' i_rI0 ?_)
  | (with_reducible refine' i_rU ?_)
  | (with_reducible refine' i_eqI ?_)
  | (with_reducible refine' i_neI ?_)
  | (with_reducible refine' i_eqS ?_)
  | (with_reducible refine' i_neS ?_)
  | (with_reducible refine' i_eqB ?_)
  | (with_reducible refine' i_neB ?_)
  | (with_reducible refine' i_tup ?_)
  | (with_reducible refine' i_lst ?_)
  | (with_reducible refine' i_bm ?_)
  | (with_reducible refine' i_fldR ?_)
  | (with_reducible refine' i_yes ?_)
  | (with_reducible refine' i_forR1 ?_)
  | (with_reducible refine' i_forL ?_)
  | (with_reducible refine' i_forT ?_)
  | ((with_reducible refine' i_lenL ?hs ?_); (case hs => walk_at "hp"))
  | ((with_reducible refine' i_lenT ?hs ?_); (case hs => walk_at "hp"))
  | (with_reducible refine' i_intI ?_)
  | (with_reducible refine' i_intB ?_)
  | (with_reducible refine' i_absI ?_)
  | ((with_reducible refine' i_rI ?hc ?_); (case hc => walk_at "ar"))
  | ((with_reducible refine' i_tyL ?hs ?_); (case hs => walk_at "hp"))
  | ((with_reducible refine' i_append ?hs ?hz ?_); (case hs => walk_at "hp"); (case hz => walk_at "ar"))
  | ((with_reducible refine' i_isiTup ?hs ?_); (case hs => walk_at "hp"))
  | ((with_reducible refine' i_inKinds ?hs ?_); (case hs => walk_at "hp"))
  | (with_reducible refine' iteT ?_)
  | (with_reducible refine' iteF ?_)
  | ((with_reducible refine' i_dnewT ?_))
  | ((with_reducible refine' i_dnewK ?_))
  | (with_reducible refine' i_make ?_)
  | ((with_reducible refine' i_ixD ?hs ?hz ?hy ?_); (case hs => walk_at "hpL"); (case hz => first | decide | omega); (case hy => omega))
  | (with_reducible refine' i_revL ?_)
  | ((with_reducible refine' raw_rev ?hs ?_); (case hs => walk_at "hp"))
  | (with_reducible refine' i_isB ?_)
  | (with_reducible refine' i_notB ?_)
  | (with_reducible refine' i_isiBool ?_)
  | ((with_reducible refine' i_catL ?ha ?hb ?hz ?_); (case ha => walk_at "hp"); (case hb => walk_at "hp"); (case hz => walk_at "ar"))
  | (with_reducible refine' i_dput ?_)
  | (with_reducible refine' i_din ?_)
  | (with_reducible refine' i_sfld ?_)
  | (with_reducible refine' i_lc2T ?_)
  | (with_reducible refine' i_lc2L ?_)
  | (with_reducible refine' i_lcL ?_)
  | (with_reducible refine' i_lcT ?_)
  | (with_reducible refine' i_lcR ?_)
  | ((with_reducible refine' i_tupL ?hs ?_); (case hs => walk_at "hp"))
  | ((with_reducible refine' i_listL ?hs ?_); (case hs => walk_at "hp"))
  | ((with_reducible refine' i_listT ?hs ?_); (case hs => walk_at "hp"))
  | ((with_reducible refine' i_tupT ?hs ?_); (case hs => walk_at "hp"))
  | ((with_reducible refine' fr_tup ?hz ?_); (case hz => exact Nat.le_of_ble_eq_true rfl))
  | ((with_reducible refine' fr_lst ?hz ?_); (case hz => exact Nat.le_of_ble_eq_true rfl)))
local macro_rules | `(tactic| walk_at "kp") => `(tactic| repeat (walk_at "kp1"))

local macro_rules | `(tactic| walk_at "kp1") => `(tactic| first
  | (with_reducible refine' i_vei ?_)
  | (with_reducible refine' i_ost ?_)
  | (with_reducible refine' i_makeS ?_)
  | (with_reducible refine' i_mko ?_)
  | (with_reducible refine' i_slTo ?_)
  | (with_reducible refine' i_slFrom ?_)
  | (with_reducible refine' i_exi ?_)
  | (with_reducible refine' i_xf ?_))

local macro_rules | `(tactic| walk_at "kp1") => `(tactic| first
  | (with_reducible refine' i_lcK ?_)
  | (with_reducible refine' i_dget ?_)
  | (with_reducible refine' i_strS ?_)
  | (with_reducible refine' i_makeK ?_)
  | (with_reducible refine' i_meth ?_)
  | (with_reducible refine' i_prop ?_)
  | (with_reducible refine' i_par ?_)
  | (with_reducible refine' raw_par ?_)
  | (with_reducible refine' i_slB ?_)
  | (with_reducible refine' i_gsub ?_))

def topS (i : Nat) : Stmt := PySem.Challenge.pw_keptpairs_k09_usual_books.main.body.getD i (.Pass ⟨0, 0, 0, 0⟩)

section
variable {P : Program} {w : World} {K : PySem.W.Frag} {mg : Str → Option Value} {base : Heap}
/-! ### the draws -/
def spDraws (K : PySem.W.Frag) : Sp := fun vs H Q _ => ∃ (a : Addr) (ns : List Int) (k c : Int), vs = [.ref a, .int k, .int c] ∧ SqL K H a (ns.map V.int) ∧ 0 ≤ k ∧ k ≤ 100 ∧ 0 ≤ c ∧ c ≤ 1000 ∧
  ∀ (ds : List Int) H' p, (ds.length : Int) = c → (∀ d ∈ ds, 0 ≤ d ∧ d < 1000) → Same H H' → H p = none → H' p = some (.lst (ds.map V.int)) → Q (.ref p) H'
abbrev sDraws : Stmt := topS 38
theorem scDraws : FnScope ["script", "k", "count", "cell", "number", "great", "mixed", "out", "n"] ["script", "k", "count"] (defScope sDraws) := ⟨rfl, rfl, rfl, by decide +kernel, rfl, by decide +kernel, by decide +kernel⟩
/-- what the names hold in the loop -/
def DrawsAt (H : Hp) (a p : Addr) (k c : Int) (i : Nat) (σ : S) (H' : Hp) : Prop := ∃ (x3 x8 : Option V) (number mixed : Int) (g : Bool) (ds : List Int), σ = [some (.ref a), some (.int k), some (.int c), x3, some (.int number), some (.bl g), some (.int mixed), some (.ref p), x8] ∧
  0 ≤ mixed ∧ mixed < 10000000000 ∧ ds.length = i ∧ (∀ d ∈ ds, 0 ≤ d ∧ d < 1000) ∧ Same H H' ∧ H p = none ∧ H' p = some (.lst (ds.map V.int))
theorem ok_draws (At : FnAt K mg "_law_draws" sDraws ["script", "k", "count"]) (B : Blt mg) : OkF P w K mg base CX0 1 "_law_draws" ["script", "k", "count"] (spDraws K) := At.ok fun f fd F => by
  refine F.ok scDraws (fun vs H Q E h => ?_) (fun cdv A outer s H vs Q E hr h => ?_)
  · obtain ⟨a, ns, k, c, rfl, _⟩ := h
    rfl
  · obtain ⟨a, ns, k, c, rfl, hS, k0, k1, c0, c1, q⟩ := h
    refine ⟨_, (pss_cons (ps_set (i := 3) scDraws.nd rfl (.inl rfl) pe_int)
      (Evl.pss_cut (ps_if (pt_cmpR op_lt (pv 1) (pe_callB (call_lenLK K rfl) (by rfl) B.len (by decide +kernel) (pa_cons (pv 0) pa_nil)) (nomark _))
        (pss_one (ps_set (i := 3) scDraws.nd rfl (.inl rfl) (pe_callTy call_intI (by rfl) B.int (by decide +kernel) (pa_cons (pe_ix (ix_listK K rfl) (pv 0) (pv 1) (fun _ _ => rfl)) pa_nil)))) pss_nil)
      (pss_cons (ps_set (i := 4) scDraws.nd rfl (.inl rfl) (pe_op op_add (pe_op op_mul pe_int (pe_callB call_absI (by rfl) B.abs (by decide +kernel) (pa_cons (pv 3) pa_nil))) (pe_callTy call_intB (by rfl) B.int (by decide +kernel) (pa_cons (pe_cmpR op_lt (pv 3) pe_int (nomark _)) pa_nil))))
      (pss_cons (ps_set (i := 5) scDraws.nd rfl (.inl rfl) (pe_cmpR op_ge (pv 4) (pe_op op_mul pe_int (pe_op op_pow pe_int pe_int)) (nomark _)))
      (pss_cons (ps_set (i := 6) scDraws.nd rfl (.inl rfl) (pe_op op_add (pe_op op_add (pe_op op_mod (pe_callTy call_intI (by rfl) B.int (by decide +kernel) (pa_cons (pv 4) pa_nil)) pe_int) (pe_op op_mul pe_int (pv 1))) pe_int))
      (pss_cons (ps_set (i := 7) scDraws.nd rfl (.inl rfl) (pe_lst pa_nil))
      (pss_cons (ps_for PassesOwn.never rfl (pi_range1 rfl B.range (pa_cons (pv 2) pa_nil)) (pg_name (i := 8) scDraws.nd rfl (.inl rfl))
        (pss_one (ps_if (PW.pt (pw_and (pt_val (pv 5)) (pw_and1 (pt_cmpR op_gt (pv 4) pe_int (nomark _)))))
        (pss_cons (ps_expr (pe_bm PySem.F.plainAttrs_list PySem.F.slot_list_append PySem.F.type_list_append mt_append (pv 7) (pa_cons (pe_op op_mod (pe_callTy call_intI (by rfl) B.int (by decide +kernel) (pa_cons (pv 4) pa_nil)) pe_int) pa_nil)))
      (pss_one (ps_set (i := 4) scDraws.nd rfl (.inl rfl) (pe_op op_fdiv (pv 4) pe_int)))) (pss_cons (ps_set (i := 6) scDraws.nd rfl (.inl rfl) (pe_op op_mod (pe_callTy call_intI (by rfl) B.int (by decide +kernel) (pa_cons (pe_op op_add (pe_op op_mul (pv 6) pe_int) (pe_op op_mul pe_int (pv 8))) pa_nil)) pe_int))
      (pss_one (ps_expr (pe_bm PySem.F.plainAttrs_list PySem.F.slot_list_append PySem.F.type_list_append mt_append (pv 7) (pa_cons (pe_op op_mod (pe_callTy call_intI (by rfl) B.int (by decide +kernel) (pa_cons (pe_op op_fdiv (pv 6) pe_int) pa_nil)) pe_int) pa_nil))))))))
      (pss_one (ps_ret (pv 7)))))))))), ?_⟩
    walk_at "kp"
    refine i_cut (fun σ' H' => H' = H ∧ ∃ cell, σ' = [some (.ref a), some (.int k), some (.int c), some (.int cell), none, none, none, none, none]) ?_ ?_
    · walk_at "kp"
      refine ite2 (fun h => ?_) (fun h => ⟨rfl, _, rfl⟩)
      walk_at "kp"
      have hk : k.toNat < ns.length := by have := of_decide_eq_true h; rw [List.length_map] at this; omega
      refine i_ixL hS (at_of (j := k.toNat) (by omega) (by rw [List.getElem?_map, List.getElem?_eq_getElem hk]; rfl)) ?_
      walk_at "kp"
      exact ⟨rfl, _, rfl⟩
    · rintro σ' H' ⟨rfl, cell, rfl⟩
      walk_at "kp"
      intro p H1 np s1 hp
      try walk_at "kp"
      have e0 := Int.emod_nonneg (2 * (if cell < 0 then -cell else cell) + (if decide (cell < 0) = true then 1 else 0)) (show (2147483629 : Int) ≠ 0 by decide)
      have e1 := Int.emod_lt_of_pos (2 * (if cell < 0 then -cell else cell) + (if decide (cell < 0) = true then 1 else 0)) (show (0 : Int) < 2147483629 by decide)
      refine raw_r1 c0 (by omega) (DrawsAt H' a p k c) ⟨_, _, _, _, _, [], rfl, by omega, by omega, rfl, (fun _ h => nomatch h), s1, np, hp⟩ ?_ ?_
      · rintro n σ H2 hn ⟨x3, x8, number, mixed, g, ds, rfl, m0, m1, hl, hd, sm, np, hp2⟩
        have hlen : ds.length < 1000 := by omega
        have grow : ∀ (v : Int) (ds' : List Int), ds' = ds ++ [v] → 0 ≤ v → v < 1000 → ds'.length = n + 1 ∧ (∀ d ∈ ds', 0 ≤ d ∧ d < 1000) ∧ ds'.map V.int = ds.map V.int ++ [V.int v] := by
          rintro v ds' rfl h0 h1
          refine ⟨by simp [hl], fun d hm => ?_, by simp⟩
          rcases List.mem_append.mp hm with h | h
          · exact hd d h
          · rw [List.mem_singleton.mp h]; exact ⟨h0, h1⟩
        have step1 : ∀ (number' : Int) (x8 : Option V), DrawsAt H' a p k c (n + 1) [some (.ref a), some (.int k), some (.int c), x3, some (.int number'), some (.bl g), some (.int mixed), some (.ref p), x8] (upd H2 p (.lst (ds.map V.int ++ [V.int (number % 1000)]))) := fun number' x8 => by
          obtain ⟨g1, g2, g3⟩ := grow (number % 1000) _ rfl (by omega) (by omega)
          exact ⟨_, _, _, _, _, _, rfl, m0, m1, g1, g2, same_own np sm, np, by rw [upd_same, g3]⟩
        have step2 : ∀ x8 : Option V, DrawsAt H' a p k c (n + 1) [some (.ref a), some (.int k), some (.int c), x3, some (.int number), some (.bl g), some (.int ((mixed * 48271 + 69621 * n) % 2147483647)), some (.ref p), x8] (upd H2 p (.lst (ds.map V.int ++ [V.int (((mixed * 48271 + 69621 * n) % 2147483647) / 11 % 1000)]))) := fun x8 => by
          obtain ⟨g1, g2, g3⟩ := grow (((mixed * 48271 + 69621 * n) % 2147483647) / 11 % 1000) _ rfl (by omega) (by omega)
          exact ⟨_, _, _, _, _, _, rfl, by omega, by omega, g1, g2, same_own np sm, np, by rw [upd_same, g3]⟩
        cases g with
        | false =>
          walk_at "kp"
          exact step2 _
        | true =>
          walk_at "kp"
          refine ite2 (fun _ => ?_) (fun _ => ?_)
          · walk_at "kp"
            exact step1 _ _
          · walk_at "kp"
            exact step2 _
      · rintro n σ H2 hn ⟨x3, x8, number, mixed, g, ds, rfl, m0, m1, hl, hd, sm, np, hp2⟩
        walk_at "kp"
        exact q ds H2 p (by omega) hd sm np hp2

/-! ### the kinds, all pairs -/
def spKinds : Sp := fun vs H Q _ => vs = [] ∧ ∀ p H', H p = none → Same H H' → H' p = some (.lst kindsV) → Q (.ref p) H'
abbrev sKinds : Stmt := topS 39
theorem scKinds : FnScope [] [] (defScope sKinds) := ⟨rfl, rfl, rfl, by decide +kernel, rfl, by decide +kernel, by decide +kernel⟩
theorem ok_kinds (At : FnAt K mg "_law_kinds" sKinds []) : OkF P w K mg base CX0 1 "_law_kinds" [] spKinds := At.ok fun f fd F => by
  refine F.ok scKinds (fun vs H Q E h => ?_) (fun cdv A outer s H vs Q E hr h => ?_)
  · obtain ⟨rfl, _⟩ := h
    rfl
  · obtain ⟨rfl, q⟩ := h
    refine ⟨_, (pss_one (ps_ret (pe_lst (pa_cons pe_str (pa_cons pe_str (pa_cons pe_str (pa_cons pe_str pa_nil))))))), ?_⟩
    walk_at "kp"
    intro p H1 np s1 hp
    try walk_at "kp"
    exact q p H1 np s1 hp
def spAll : Sp := fun vs H Q _ => vs = [] ∧ ∀ p H' us, H p = none → Same H H' → H' p = some (.lst us) → PairsV H' us allPairs → Q (.ref p) H'
abbrev sAll : Stmt := topS 41
theorem scAll : FnScope ["out", "first", "second"] [] (defScope sAll) := ⟨rfl, rfl, rfl, by decide +kernel, rfl, by decide +kernel, by decide +kernel⟩
def AllAt (H1 : Hp) (o p : Addr) (i : Nat) (σ : S) (H' : Hp) : Prop := ∃ (x1 x2 : Option V) (us : List V), σ = [some (.ref o), x1, x2] ∧ Same H1 H' ∧ H1 o = none ∧ H' o = some (.lst us) ∧ H' p = some (.lst kindsV) ∧ PairsV H' us (allPairs.take (i * 4))
def AllIn (H1 : Hp) (o p p2 : Addr) (i : Nat) (x : V) (j : Nat) (σ : S) (H' : Hp) : Prop := ∃ (x2 : Option V) (us : List V), σ = [some (.ref o), some x, x2] ∧ Same H1 H' ∧ H1 o = none ∧ H' o = some (.lst us) ∧ H' p = some (.lst kindsV) ∧ H' p2 = some (.lst kindsV) ∧ PairsV H' us (allPairs.take (i * 4 + j))
theorem ok_all (At : FnAt K mg "_law_all_pairs" sAll []) (Okinds : OkF P w K mg base CX0 1 "_law_kinds" [] spKinds) : OkF P w K mg base CX0 2 "_law_all_pairs" [] spAll := At.ok fun f fd F => by
  refine F.ok scAll (fun vs H Q E h => ?_) (fun cdv A outer s H vs Q E hr h => ?_)
  · obtain ⟨rfl, _⟩ := h
    rfl
  · obtain ⟨rfl, q⟩ := h
    refine ⟨_, (pss_cons (ps_set (i := 0) scAll.nd rfl (.inl rfl) (pe_lst pa_nil))
      (pss_cons (ps_for PassesOwn.never rfl (pi_list (pe_callO0 Okinds (hr.mono (by decide)))) (pg_name (i := 1) scAll.nd rfl (.inl rfl))
        (pss_one (ps_for PassesOwn.never rfl (pi_list (pe_callO0 Okinds (hr.mono (by decide)))) (pg_name (i := 2) scAll.nd rfl (.inl rfl))
        (pss_one (ps_expr (pe_bm PySem.F.plainAttrs_list PySem.F.slot_list_append PySem.F.type_list_append mt_append (pv 0) (pa_cons (pe_tup (pa_cons (pv 1) (pa_cons (pv 2) pa_nil))) pa_nil)))))))
      (pss_one (ps_ret (pv 0))))), ?_⟩
    walk_at "kp"
    intro o H1 no s1 ho
    try walk_at "kp"
    refine ⟨rfl, fun p H2 np s2 hp => ?_⟩
    have kl : ∀ i : Nat, i < 4 → ∃ z, kinds[i]? = some z ∧ kindsV[i]? = some (.str z) := fun i hi => by
      match i, hi with
      | 0, _ => exact ⟨_, rfl, rfl⟩
      | 1, _ => exact ⟨_, rfl, rfl⟩
      | 2, _ => exact ⟨_, rfl, rfl⟩
      | 3, _ => exact ⟨_, rfl, rfl⟩
    have npo : p ≠ o := fun e => by rw [e, ho] at np; cases np
    refine raw_fl (sl_of hp) (AllAt H o p) ⟨_, _, [], rfl, s1.trans s2, no, s2 _ _ ho, hp, .nil⟩ (fun i σ H' _ ⟨_, _, _, _, _, _, _, e, _⟩ => sl_of e) ?_ ?_
    · rintro i x σ H3 hx ⟨x1, x2, us, rfl, sm, no, eo, ep, pr⟩
      have hi : i < 4 := (List.getElem?_eq_some_iff.mp hx).1
      obtain ⟨z, hz, hz2⟩ := kl i hi
      obtain rfl : x = .str z := Option.some.inj (hx.symm.trans hz2)
      walk_at "kp"
      refine ⟨rfl, fun p2 H4 np2 s4 hp2 => ?_⟩
      have np2o : p2 ≠ o := fun e => by rw [e, eo] at np2; cases np2
      refine raw_fl (sl_of hp2) (AllIn H o p p2 i (.str z)) ⟨_, us, rfl, sm.trans s4, no, s4 _ _ eo, s4 _ _ ep, hp2, pr.mono (Same.tk s4)⟩ (fun i σ H' _ ⟨_, _, _, _, _, _, _, e, _⟩ => sl_of e) ?_ ?_
      · rintro j y σ H5 hy ⟨x2, us, rfl, sm, no, eo, ep, ep2, pr⟩
        have hj : j < 4 := (List.getElem?_eq_some_iff.mp hy).1
        obtain ⟨z2, hz3, hz4⟩ := kl j hj
        obtain rfl : y = .str z2 := Option.some.inj (hy.symm.trans hz4)
        have lus : us.length ≤ 1000 := by rw [paired_len pr, List.length_take]; exact Nat.le_trans (Nat.min_le_right _ _) (by decide)
        walk_at "kp"
        intro t H6 nt s6 ht
        try walk_at "kp"
        have e6 := s6 _ _ eo
        refine ⟨_, us ++ [.ref t], rfl, same_own no (sm.trans s6), no, upd_same, by rw [upd_ne npo]; exact s6 _ _ ep, by rw [upd_ne np2o]; exact s6 _ _ ep2, ?_⟩
        have g : allPairs[i * 4 + j]? = some (z, z2) := by rw [all_at i hi j hj, hz, hz3]; rfl
        have hT := tk_upd (o' := .lst (us ++ [.ref t])) e6 fun xs z => nomatch z
        show PairsV _ _ (allPairs.take (i * 4 + j + 1))
        rw [take_snoc g]
        exact paired_snoc ((pr.mono (Same.tk s6)).mono hT) ⟨t, rfl, hT _ _ ht⟩
      · rintro σ H5 ⟨x2, us, rfl, sm, no, eo, ep, ep2, pr⟩
        exact ⟨_, _, us, rfl, sm, no, eo, ep, by rw [Nat.add_mul]; exact pr⟩
    · rintro σ H3 ⟨x1, x2, us, rfl, sm, no, eo, ep, pr⟩
      walk_at "kp"
      exact q o H3 us no sm eo pr

/-! ### is_pair, the class Pairs -/
def spIsPair : Sp := fun vs H Q _ => ∃ t a b, vs = [.ref t] ∧ H t = some (.tup [.str a, .str b]) ∧ Q (.bl (kindB a && kindB b)) H
abbrev sIsPair : Stmt := topS 11
theorem scIsPair : FnScope ["item"] ["item"] (defScope sIsPair) := ⟨rfl, rfl, rfl, by decide +kernel, rfl, by decide +kernel, by decide +kernel⟩
theorem ok_ispair (At : FnAt K mg "is_pair" sIsPair ["item"]) (B : Blt mg) (GK : GlT K mg "KINDS" kindsV) : OkF P w K mg base CX0 1 "is_pair" ["item"] spIsPair := At.ok fun f fd F => by
  obtain ⟨aK, gK, hK⟩ := GK
  refine F.ok scIsPair (fun vs H Q E h => ?_) (fun cdv A outer s H vs Q E hr h => ?_)
  · obtain ⟨t, a, b, rfl, _⟩ := h
    rfl
  · obtain ⟨t, a, b, rfl, ht, q⟩ := h
    have hKH := hK H
    refine ⟨_, (pss_one (ps_ret (pe_and (pe_callB (call_isiKK K rfl) (by rfl) B.isinstance (by decide +kernel) (pa_cons (pv 0) (pa_cons (pe_bltn (v := .ty "tuple") (by rfl) B.tuple (by decide +kernel) rfl) pa_nil))) (pe_and (pe_cmpR op_eq (pe_callB (call_lenTK K rfl) (by rfl) B.len (by decide +kernel) (pa_cons (pv 0) pa_nil)) pe_int (nomark _)) (pe_and (pe_cmpR (op_in_seqK K rfl) (pe_ix (ix_tupK K rfl) (pv 0) pe_int (fun _ _ => rfl)) (pe_glob (v := .ref aK) (by rfl) gK (by rfl)) (by rfl)) (pe_one (pe_cmpR (op_in_seqK K rfl) (pe_ix (ix_tupK K rfl) (pv 0) pe_int (fun _ _ => rfl)) (pe_glob (v := .ref aK) (by rfl) gK (by rfl)) (by rfl)))))))), ?_⟩
    walk_at "kp"
    refine ite_ok rfl ?_
    walk_at "kp"
    refine i_ixT (st_of ht) (atI_nat (j := 0) rfl) ?_
    walk_at "kp"
    cases e : kindB a with
    | false =>
      rw [e] at q
      exact iteF q
    | true =>
      rw [e] at q
      refine iteT ?_
      walk_at "kp"
      refine i_ixT (st_of ht) (atI_nat (j := 1) rfl) ?_
      walk_at "kp"
      exact q
def spPInit (K : PySem.W.Frag) (C : Addr) : Sp := fun vs H Q _ => ∃ (p dx a : Addr) (us : List V) (ps : List Pr), vs = [.ref p, .ref a] ∧ H p = some (.ins C dx []) ∧ (SqL K H a us ∨ SqT K H a us) ∧ PairsV H us ps ∧ (∀ r ∈ ps, r ∈ allPairs) ∧ ps.length ≤ 900 ∧
  ∀ H', PairsAt C H' p (norm ps) → (∀ b o, b ≠ p → H b = some o → H' b = some o) → Q .non H'
abbrev sPInit : Stmt := inClass (topS 12) 0
theorem scPInit : FnScope ["self", "pairs", "given", "pair", "first", "second"] ["self", "pairs"] (defScope sPInit) := ⟨rfl, rfl, rfl, by decide +kernel, rfl, by decide +kernel, by decide +kernel⟩
def PInAt (H : Hp) (p a d : Addr) (us : List V) (ps : List Pr) (i : Nat) (σ : S) (H' : Hp) : Prop := ∃ (x3 : Option V) (kvs : List (List L2.Key × V)), σ = [some (.ref p), some (.ref a), some (.ref d), x3, none, none] ∧ Same H H' ∧ H d = none ∧ H' d = some (.dT kvs) ∧ kvs.length ≤ i ∧ Given kvs (ps.take i)
theorem spPInit_args {C : Addr} : ∀ vs H Q E, spPInit K C vs H Q E → vs.length = (["self", "pairs"] : List Str).length := fun vs H Q E ⟨_, _, _, _, _, e, _⟩ => by rw [e]; rfl

theorem ok_pinit {C aE f : Addr} {fd : FuncData} (F : FunD K "__init__" "Pairs.__init__" (defArgs sPInit) (defBody sPInit) (defScope sPInit) [.ref aE] [] f fd) (B : Blt mg) (GK : GlT K mg "KINDS" kindsV) (T : PairsCl K mg C) (Oip : OkF P w K mg base CX0 1 "is_pair" ["item"] spIsPair) : FnOk P w K mg base CX0 2 f fd ["self", "pairs"] (spPInit K C) := by
  obtain ⟨aK, gK, hK⟩ := GK
  refine F.ok scPInit spPInit_args (fun cdv A outer s H vs Q E hr h => ?_)
  obtain ⟨p, dx, a, us, ps, rfl, hp, hS, hpr, hv, hlen, q⟩ := h
  have hu := hu_of hr
  have ulen : us.length = ps.length := paired_len hpr
  -- behind the loop
  have last : ∀ (D : Ends) (d : Addr) (σ : S) (H2 : Hp), D.nx = (fun _ H' => Q .non H') → PInAt H p a d us ps ps.length σ H2 → (sFld K (tVar 0) (tCB (rTupL K) (tCons (tLc2 (iTup K (tC (.ref aK))) (gName 4) tYes (iTup K (tC (.ref aK))) (gName 5) (tB (tDIn (tTup (tCons (tVar 4) (tCons (tVar 5) tNil))) (tVar 2))) (tTup (tCons (tVar 4) (tCons (tVar 5) tNil))) [4, 5] [5]) tNil)) "_pairs") D σ H2 := by
    rintro D d σ H2 hD ⟨x3, kvs, rfl, sm, nd, ed, kl, gv⟩
    walk_at "kp"
    rw [List.take_length] at gv
    have hp2 := sm _ _ hp
    refine ⟨aK, rfl, ⟨_, hK H2⟩, raw_lc2 (G := fun H => SqT K H aK kindsV) (G1 := fun H => SqT K H aK kindsV) walk_tup (by decide) (fun H' _ => hK H') (fun i j acc H' => PairsV H' acc ((allPairs.take (i * 4 + j)).filter fun r => decide (r ∈ ps))) (fun i j acc H H' k h => h.mono k) .nil (fun i acc H' h => by
        have e : (i + 1) * 4 + 0 = i * 4 + kindsV.length := by show (i + 1) * 4 = i * 4 + 4; omega
        rw [e]; exact h) (fun H' _ => hK H') (fun x => rfl) (fun x H' _ => inner_tupC (hK H')) ?_ ?_⟩
    · rintro i j x y acc H3 hx hy s3 pr Y N hY hN
      have hi : i < 4 := (List.getElem?_eq_some_iff.mp hx).1
      have hj : j < 4 := (List.getElem?_eq_some_iff.mp hy).1
      have kl : ∀ (i : Nat) (x : V), i < 4 → kindsV[i]? = some x → ∃ z, kinds[i]? = some z ∧ x = .str z := fun i x hi hx => by
        match i, hi, hx with
        | 0, _, h => exact ⟨_, rfl, (Option.some.inj h).symm⟩
        | 1, _, h => exact ⟨_, rfl, (Option.some.inj h).symm⟩
        | 2, _, h => exact ⟨_, rfl, (Option.some.inj h).symm⟩
        | 3, _, h => exact ⟨_, rfl, (Option.some.inj h).symm⟩
      obtain ⟨z, hz, rfl⟩ := kl i x hi hx
      obtain ⟨z2, hz2, rfl⟩ := kl j y hj hy
      have g : allPairs[i * 4 + j]? = some (z, z2) := by rw [all_at i hi j hj, hz, hz2]; rfl
      refine ⟨rfl, ?_⟩
      walk_at "kp"
      intro t H4 nt s4 ht
      try walk_at "kp"
      refine raw_dinT (k := keyP (z, z2)) (s4 _ _ (s3 _ _ ed)) ht ?_
      rw [gv (z, z2)]
      have e1 : allPairs.take (i * 4 + (j + 1)) = allPairs.take (i * 4 + j) ++ [(z, z2)] := take_snoc g
      walk_at "kp"
      refine ite2 (fun hm => ?_) (fun hm => ?_)
      · walk_at "kp"
        intro t2 H5 nt2 s5 ht2
        try walk_at "kp"
        refine hY _ H5 (s4.trans s5) ?_
        show PairsV H5 (acc ++ [.ref t2]) ((allPairs.take (i * 4 + (j + 1))).filter fun r => decide (r ∈ ps))
        rw [e1, List.filter_append, List.filter_cons, if_pos hm]
        exact paired_snoc (pr.mono (Same.tk (s4.trans s5))) ⟨t2, rfl, ht2⟩
      · refine hN H4 s4 ?_
        show PairsV H4 acc ((allPairs.take (i * 4 + (j + 1))).filter fun r => decide (r ∈ ps))
        rw [e1, List.filter_append, List.filter_cons, if_neg hm, List.filter_nil, List.append_nil]
        exact pr.mono (Same.tk s4)
    · rintro Dl acc H3 nD s3 eD pr
      walk_at "kp"
      intro t H4 nt s4 ht
      try walk_at "kp"
      refine raw_sfld (s4 _ _ (s3 _ _ hp2)) T.cl T.nP (by decide) ?_
      rw [hD]
      have ntp : t ≠ p := fun e => by rw [e, s3 _ _ hp2] at nt; cases nt
      have tk : TupK H4 (upd H4 p (.ins C dx (putF "_pairs" (.ref t) []))) := tk_upd (s4 _ _ (s3 _ _ hp2)) fun xs z => nomatch z
      refine q _ ⟨dx, t, acc, upd_same, by rw [upd_ne ntp]; exact ht, ?_⟩ fun b o hb e => by rw [upd_ne hb]; exact s4 _ _ (s3 _ _ (sm _ _ e))
      exact (pr.mono (Same.tk s4)).mono tk
  have turn : ∀ (D : Ends) (d : Addr) (i : Nat) (x : V) (σ : S) (H2 : Hp), us[i]? = some x → D.nx = PInAt H p a d us ps (i + 1) → PInAt H p a d us ps i σ H2 →
      tSeq (tIfS (tNot (tB (tCall spIsPair [] E0 (tCons (tVar 3) tNil)))) tNever tNext) (sDPut (tVar 2) (tVar 3) (tC (.bl true))) D (σ.set 3 (some x)) H2 := by
    rintro D d i x σ H2 hx hD ⟨x3, kvs, rfl, sm, nd, ed, kl, gv⟩
    obtain ⟨r, hr2, t, rfl, ht⟩ := paired_get hpr hx
    have hil : i < us.length := (List.getElem?_eq_some_iff.mp hx).1
    have hr3 := (all_mem r).mp (hv r (List.mem_of_getElem? hr2))
    walk_at "kp"
    refine ⟨t, r.1, r.2, rfl, sm _ _ ht, ?_⟩
    rw [hr3.1, hr3.2]
    walk_at "kp"
    refine ite_no rfl ?_
    walk_at "kp"
    refine raw_dputT (k := keyP r) ed (sm _ _ ht) (by omega) ?_
    rw [hD]
    exact ⟨_, _, rfl, same_own nd sm, nd, upd_same, Nat.le_trans putK_len (by omega), by rw [take_snoc hr2]; exact given_put gv⟩
  rcases hS with hS | hS
  · refine ⟨_, PSs.nox (pss_cons (ps_set (i := 2) scPInit.nd rfl (.inr rfl) pe_dnewT)
      (pss_cons (ps_for PassesOwn.never rfl (pi_list (pv 1)) (pg_name (i := 3) scPInit.nd rfl (.inl rfl))
        (pss_cons (ps_if (pt_not (pt_val (pe_callO Oip (hr.mono (by decide)) (pa_cons (pv 3) pa_nil))))
        (pss_one ps_never) pss_nil)
      (pss_one (ps_dput hu (pv 2) (pv 3) pe_bl rfl))))
      (pss_one (ps_fld (pv 0) (pe_callTy call_tupL (by rfl) B.tuple (by decide +kernel) (pa_cons (pe_lc2 (own := [("first", 4), ("second", 5)]) (vs1 := [5]) (g := gName 4) (g1 := gName 5) (tt := tYes) (wi1 := (iTup K (tC (.ref aK)))) rfl scPInit.nd (by exact (pi_tup (pe_glob (v := .ref aK) (by rfl) gK (by rfl)))) (blkOk_by (N := ["self", "pairs", "given", "pair", "first", "second"]) (sc := (defScope sPInit)) (by decide +kernel)) (by decide) (fun _ _ _ _ _ => pg_name (i := 4) scPInit.nd rfl (Or.inl rfl)) (fun _ _ _ _ _ => by exact pts_nil) (fun _ _ _ _ _ => by exact (pi_tup (pe_glob (v := .ref aK) (by rfl) gK (by rfl)))) (fun _ _ _ _ _ => pg_name (i := 5) scPInit.nd rfl (Or.inl rfl)) (fun _ _ _ _ _ => by exact (pts_one (pt_cmp (pc_din hu (pe_tup (pa_cons (pv 4) (pa_cons (pv 5) pa_nil))) (pv 2))))) (fun _ _ _ _ _ => by exact (pe_tup (pa_cons (pv 4) (pa_cons (pv 5) pa_nil))))) pa_nil)) rfl)))), ?_⟩
    walk_at "kp"
    intro d H1 nd s1 hd
    try walk_at "kp"
    refine raw_fl (s1.seq hS) (PInAt H p a d us ps) ⟨_, [], rfl, s1, nd, hd, Nat.le_refl _, fun r => rfl⟩ (fun i σ H' _ ⟨_, _, _, sm, _⟩ => sm.seq hS) (fun i x σ H2 hx h => turn _ d i x σ H2 hx rfl h) (fun σ H2 h => last _ d σ H2 rfl (by rw [← ulen]; exact h))
  · refine ⟨_, PSs.nox (pss_cons (ps_set (i := 2) scPInit.nd rfl (.inr rfl) pe_dnewT)
      (pss_cons (ps_for PassesOwn.never rfl (pi_tup (pv 1)) (pg_name (i := 3) scPInit.nd rfl (.inl rfl))
        (pss_cons (ps_if (pt_not (pt_val (pe_callO Oip (hr.mono (by decide)) (pa_cons (pv 3) pa_nil))))
        (pss_one ps_never) pss_nil)
      (pss_one (ps_dput hu (pv 2) (pv 3) pe_bl rfl))))
      (pss_one (ps_fld (pv 0) (pe_callTy call_tupL (by rfl) B.tuple (by decide +kernel) (pa_cons (pe_lc2 (own := [("first", 4), ("second", 5)]) (vs1 := [5]) (g := gName 4) (g1 := gName 5) (tt := tYes) (wi1 := (iTup K (tC (.ref aK)))) rfl scPInit.nd (by exact (pi_tup (pe_glob (v := .ref aK) (by rfl) gK (by rfl)))) (blkOk_by (N := ["self", "pairs", "given", "pair", "first", "second"]) (sc := (defScope sPInit)) (by decide +kernel)) (by decide) (fun _ _ _ _ _ => pg_name (i := 4) scPInit.nd rfl (Or.inl rfl)) (fun _ _ _ _ _ => by exact pts_nil) (fun _ _ _ _ _ => by exact (pi_tup (pe_glob (v := .ref aK) (by rfl) gK (by rfl)))) (fun _ _ _ _ _ => pg_name (i := 5) scPInit.nd rfl (Or.inl rfl)) (fun _ _ _ _ _ => by exact (pts_one (pt_cmp (pc_din hu (pe_tup (pa_cons (pv 4) (pa_cons (pv 5) pa_nil))) (pv 2))))) (fun _ _ _ _ _ => by exact (pe_tup (pa_cons (pv 4) (pa_cons (pv 5) pa_nil))))) pa_nil)) rfl)))), ?_⟩
    walk_at "kp"
    intro d H1 nd s1 hd
    try walk_at "kp"
    refine raw_ft (SqT.ext hS s1) (PInAt H p a d us ps) ⟨_, [], rfl, s1, nd, hd, Nat.le_refl _, fun r => rfl⟩ (fun i σ H' _ ⟨_, _, _, sm, _⟩ => SqT.ext hS sm) (fun i x σ H2 hx h => turn _ d i x σ H2 hx rfl h) (fun σ H2 h => last _ d σ H2 rfl (by rw [← ulen]; exact h))

abbrev sIter : Stmt := inClass (topS 12) 2
theorem scIter : FnScope ["self"] ["self"] (defScope sIter) := ⟨rfl, rfl, rfl, by decide +kernel, rfl, by decide +kernel, by decide +kernel⟩
theorem ok_iter {C : Addr} (At : MAt K C "__iter__" "Pairs.__iter__" sIter ["self"]) (B : Blt mg) (T : PairsCl K mg C) : OkM P w K mg base CX0 1 C "__iter__" ["self"] (spIterT K (pairsT C)) := At.ok fun f fd F => by
  refine F.ok scIter (fun vs H Q E h => ?_) (fun cdv A outer s H vs Q E hr h => ?_)
  · obtain ⟨a, t, xs, rfl, _⟩ := h
    rfl
  · obtain ⟨a, t, xs, rfl, ⟨⟨dx, ea⟩, et⟩, hS, q⟩ := h
    refine ⟨_, (pss_one (ps_ret (pe_callB call_iterT (by rfl) B.iter (by decide +kernel) (pa_cons (pe_fldK K rfl (pv 0) rfl) pa_nil)))), ?_⟩
    walk_at "kp"
    refine raw_fld ea T.cl T.nP (v := .ref t) (by rfl) ?_
    walk_at "kp"
    exact i_iterT hS q
abbrev sLen : Stmt := inClass (topS 12) 3
theorem scLen : FnScope ["self"] ["self"] (defScope sLen) := ⟨rfl, rfl, rfl, by decide +kernel, rfl, by decide +kernel, by decide +kernel⟩
theorem ok_len {C : Addr} (At : MAt K C "__len__" "Pairs.__len__" sLen ["self"]) (B : Blt mg) (T : PairsCl K mg C) : OkM P w K mg base CX0 1 C "__len__" ["self"] (spLenT (pairsT C)) := At.ok fun f fd F => by
  refine F.ok scLen (fun vs H Q E h => ?_) (fun cdv A outer s H vs Q E hr h => ?_)
  · obtain ⟨a, t, xs, rfl, _⟩ := h
    rfl
  · obtain ⟨a, t, xs, rfl, ⟨⟨dx, ea⟩, et⟩, hz, q⟩ := h
    refine ⟨_, (pss_one (ps_ret (pe_callB (call_lenTK K rfl) (by rfl) B.len (by decide +kernel) (pa_cons (pe_fldK K rfl (pv 0) rfl) pa_nil)))), ?_⟩
    walk_at "kp"
    refine raw_fld ea T.cl T.nP (v := .ref t) (by rfl) ?_
    walk_at "kp"
    exact q
def spCont (C : Addr) : Sp := fun vs H Q _ => ∃ m v ps p, vs = [.ref m, v] ∧ PairsAt C H m ps ∧ PairV H v p ∧ (∀ r ∈ ps, GoodP r = true) ∧ GoodP p = true ∧ Q (.bl (decide (p ∈ ps))) H
abbrev sCont : Stmt := inClass (topS 12) 4
theorem scCont : FnScope ["self", "x"] ["self", "x"] (defScope sCont) := ⟨rfl, rfl, rfl, by decide +kernel, rfl, by decide +kernel, by decide +kernel⟩
theorem ok_cont {C : Addr} (At : MAt K C "__contains__" "Pairs.__contains__" sCont ["self", "x"]) (B : Blt mg) (T : PairsCl K mg C) : OkM P w K mg base CX0 1 C "__contains__" ["self", "x"] (spCont C) := At.ok fun f fd F => by
  refine F.ok scCont (fun vs H Q E h => ?_) (fun cdv A outer s H vs Q E hr h => ?_)
  · obtain ⟨m, v, ps, p, rfl, _⟩ := h
    rfl
  · obtain ⟨m, v, ps, p, rfl, ⟨dx, t, us, em, et, pr⟩, pv2, gs, gp, q⟩ := h
    refine ⟨_, (pss_one (ps_ret (pe_cmpR (op_inTDK K rfl hr.units1) (pv 1) (pe_fldK K rfl (pv 0) rfl) (by rfl)))), ?_⟩
    walk_at "kp"
    refine raw_fld em T.cl T.nP (v := .ref t) (by rfl) ?_
    exact i_inPT pv2 ⟨us, st_of et, pr⟩ gp gs q

theorem raw_mkP {C : Addr} {H : Hp} {Q : VK} {a : Addr} {us : List V} {ps : List Pr} (hS : SqL K H a us ∨ SqT K H a us) (pr : PairsV H us ps) (hv : ∀ r ∈ ps, r ∈ allPairs) (hl : ps.length ≤ 900)
    (q : ∀ x H', H x = none → Same H H' → PairsAt C H' x (norm ps) → Q (.ref x) H') : RawMk C (spPInit K C) [] E0 Q [.ref a] H := by
  intro x dx nx ndx nex
  have s0 : Same H (upd (upd H dx (.own x)) x (.ins C dx [])) := fun b o e => by
    rw [upd_ne (ne_of_none e nx), upd_ne (ne_of_none e ndx)]
    exact e
  refine ⟨x, dx, a, us, ps, rfl, upd_same, hS.imp s0.seq fun h => SqT.ext h s0, pr.mono (Same.tk s0), hv, hl, fun H' hP hk => ⟨rfl, q x H' nx (fun b o e => hk b o (ne_of_none e nx) (s0 b o e)) hP⟩⟩
theorem raw_mkP0 {C aE : Addr} {H : Hp} {Q : VK} (em : ∀ H, SqT K H aE []) (q : ∀ x H', H x = none → Same H H' → PairsAt C H' x [] → Q (.ref x) H') : RawMk C (spPInit K C) [.ref aE] E0 Q [] H := by
  intro x dx nx ndx nex
  have s0 : Same H (upd (upd H dx (.own x)) x (.ins C dx [])) := fun b o e => by
    rw [upd_ne (ne_of_none e nx), upd_ne (ne_of_none e ndx)]
    exact e
  have nn : norm [] = [] := by decide +kernel
  refine ⟨x, dx, aE, [], [], rfl, upd_same, .inr (em _), .nil, (fun _ h => nomatch h), Nat.zero_le _, fun H' hP hk => ⟨rfl, q x H' nx (fun b o e => hk b o (ne_of_none e nx) (s0 b o e)) ?_⟩⟩
  rw [nn] at hP
  exact hP
theorem raw_list {C a : Addr} {H : Hp} {Q : VK} {ps : List Pr} (h : PairsAt C H a ps) (q : ∀ l H' us, H l = none → Same H H' → H' l = some (.lst us) → PairsV H' us ps → Q (.ref l) H') : rListIt K C (pairsT C) [.ref a] H Q := by
  obtain ⟨dx, t, vs, h1, h2, h3⟩ := h
  exact ⟨a, dx, _, t, vs, rfl, h1, ⟨⟨dx, h1⟩, h2⟩, st_of h2, fun l H' nl sm e => q l H' vs nl sm e (h3.mono (Same.tk sm))⟩
theorem raw_len {C a : Addr} {H : Hp} {Q : VK} {ps : List Pr} (h : PairsAt C H a ps) (z : ps.length ≤ 1000) (q : Q (.int ps.length) H) : rLenOwn C (spLenT (pairsT C)) E0 [.ref a] H Q := by
  obtain ⟨dx, t, vs, h1, h2, h3⟩ := h
  have e := paired_len h3
  refine ⟨a, dx, _, rfl, h1, a, t, vs, rfl, ⟨⟨dx, h1⟩, h2⟩, Nat.le_of_lt (small1000 (by omega)), (vs.length : Int), rfl, by omega, ?_⟩
  rw [e]
  exact q
theorem raw_in {C a : Addr} {H : Hp} {Q : VK} {ps : List Pr} {x : V} {p : Pr} (h : PairsAt C H a ps) (hx : PairV H x p) (gs : ∀ r ∈ ps, GoodP r = true) (gp : GoodP p = true) (q : Q (.bl (decide (p ∈ ps))) H) : rInOwn C (spCont C) E0 x (.ref a) H Q := by
  obtain ⟨dx, t, vs, h1, h2, h3⟩ := id h
  exact ⟨a, dx, _, rfl, h1, a, x, ps, p, rfl, h, hx, gs, gp, _, rfl, q⟩
theorem raw_notIn {C a : Addr} {H : Hp} {Q : VK} {ps : List Pr} {x : V} {p : Pr} (h : PairsAt C H a ps) (hx : PairV H x p) (gs : ∀ r ∈ ps, GoodP r = true) (gp : GoodP p = true) (q : Q (.bl (!decide (p ∈ ps))) H) : rNotInOwn C (spCont C) E0 x (.ref a) H Q := by
  obtain ⟨dx, t, vs, h1, h2, h3⟩ := id h
  exact ⟨a, dx, _, rfl, h1, a, x, ps, p, rfl, h, hx, gs, gp, _, rfl, q⟩

/-! ### some pairs by a style and a mask -/
def spReads : Sp := fun vs H Q _ => vs = [] ∧ ∀ p H', H p = none → Same H H' → H' p = some (.lst (readsK.map V.str)) → Q (.ref p) H'
abbrev sReads : Stmt := topS 40
theorem scReads : FnScope [] [] (defScope sReads) := ⟨rfl, rfl, rfl, by decide +kernel, rfl, by decide +kernel, by decide +kernel⟩
theorem ok_reads (At : FnAt K mg "_law_reads" sReads []) : OkF P w K mg base CX0 1 "_law_reads" [] spReads := At.ok fun f fd F => by
  refine F.ok scReads (fun vs H Q E h => ?_) (fun cdv A outer s H vs Q E hr h => ?_)
  · obtain ⟨rfl, _⟩ := h
    rfl
  · obtain ⟨rfl, q⟩ := h
    refine ⟨_, (pss_one (ps_ret (pe_lst (pa_cons pe_str (pa_cons pe_str pa_nil))))), ?_⟩
    walk_at "kp"
    intro p H1 np s1 hp
    walk_at "kp"
    exact q p H1 np s1 hp
def spSome : Sp := fun vs H Q _ => ∃ s m : Int, vs = [.int s, .int m] ∧ 0 ≤ s ∧ s < 8 ∧ ∀ p H' us, H p = none → Same H H' → H' p = some (.lst us) → PairsV H' us (someP s m) → Q (.ref p) H'
abbrev sSome : Stmt := topS 42
theorem scSome : FnScope ["style", "mask", "out", "pair", "load", "bit", "fits"] ["style", "mask"] (defScope sSome) := ⟨rfl, rfl, rfl, by decide +kernel, rfl, by decide +kernel, by decide +kernel⟩
def SomeAt (H1 : Hp) (o : Addr) (s m : Int) (i : Nat) (σ : S) (H' : Hp) : Prop := ∃ (x3 x4 x5 x6 : Option V) (us : List V), σ = [some (.int s), some (.int (m / 2 ^ i)), some (.ref o), x3, x4, x5, x6] ∧ Same H1 H' ∧ H1 o = none ∧ H' o = some (.lst us) ∧ PairsV H' us ((allPairs.take i).filter (someF s m))
theorem ok_some (At : FnAt K mg "_law_some_pairs" sSome ["style", "mask"]) (B : Blt mg) (Oreads : OkF P w K mg base CX0 1 "_law_reads" [] spReads) (Oall : OkF P w K mg base CX0 2 "_law_all_pairs" [] spAll) : OkF P w K mg base CX0 3 "_law_some_pairs" ["style", "mask"] spSome := At.ok fun f fd F => by
  refine F.ok scSome (fun vs H Q E h => ?_) (fun cdv A outer s0 H vs Q E hr h => ?_)
  · obtain ⟨s, m, rfl, _⟩ := h
    rfl
  · obtain ⟨s, m, rfl, s0, s1, q⟩ := h
    refine ⟨_, (pss_cons (ps_set (i := 2) scSome.nd rfl (.inl rfl) (pe_lst pa_nil))
      (pss_cons (ps_for PassesOwn.never rfl (pi_list (pe_callO0 Oall (hr.mono (by decide)))) (pg_name (i := 3) scSome.nd rfl (.inl rfl))
        (pss_cons (ps_set (i := 4) scSome.nd rfl (.inl rfl) (pe_cmpR (op_in_seqK K rfl) (pe_ix (ix_tupK K rfl) (pv 3) pe_int (fun _ _ => rfl)) (pe_callO0 Oreads (hr.mono (by decide))) (by rfl)))
      (pss_cons (ps_set (i := 5) scSome.nd rfl (.inl rfl) (pe_cmpR op_eq (pe_op op_mod (pe_callTy call_intI (by rfl) B.int (by decide +kernel) (pa_cons (pv 1) pa_nil)) pe_int) pe_int (nomark _)))
      (pss_cons (ps_set (i := 1) scSome.nd rfl (.inl rfl) (pe_op op_fdiv (pv 1) pe_int))
      (Evl.pss_cut (ps_set (i := 6) scSome.nd rfl (.inl rfl) (pe_lst (pa_cons pe_bl (pa_cons pe_bl (pa_cons (pe_or (pv 4) (pe_one (pe_cmpR (op_notIn_seqK K rfl) (pe_ix (ix_tupK K rfl) (pv 3) pe_int (fun _ _ => rfl)) (pe_callO0 Oreads (hr.mono (by decide))) (by rfl)))) (pa_cons (pe_or (pe_cmpR op_eq (pe_ix (ix_tupK K rfl) (pv 3) pe_int (fun _ _ => rfl)) pe_str (nomark _)) (pe_one (pe_cmpR op_eq (pe_ix (ix_tupK K rfl) (pv 3) pe_int (fun _ _ => rfl)) pe_str (nomark _)))) pa_nil))))))
      (Evl.pss_cut (ps_set (i := 6) scSome.nd rfl (.inl rfl) (pe_op op_cat (pv 6) (pe_lst (pa_cons (pe_and (pv 5) (pe_one (pv 4))) (pa_cons (pv 5) (pa_cons (pv 5) (pa_cons (pv 5) pa_nil)))))))
      (pss_one (ps_if (pt_val (pe_ix (ix_listK K rfl) (pv 6) (pv 0) (fun _ _ => rfl)))
        (pss_one (ps_expr (pe_bm PySem.F.plainAttrs_list PySem.F.slot_list_append PySem.F.type_list_append mt_append (pv 2) (pa_cons (pv 3) pa_nil)))) pss_nil))))))))
      (pss_one (ps_ret (pv 2))))), ?_⟩
    walk_at "kp"
    intro o H1 no sm1 eo
    walk_at "kp"
    refine ⟨rfl, fun p H2 vs np sm2 ep pr => ?_⟩
    have npo : p ≠ o := fun e => by rw [e, eo] at np; cases np
    refine raw_fl (a := p) (sl_of ep) (fun i σ H' => SomeAt H o s m i σ H' ∧ H' p = some (.lst vs) ∧ PairsV H' vs allPairs) ⟨⟨_, _, _, _, [], by rw [Int.pow_zero, Int.ediv_one]; rfl, sm1.trans sm2, no, sm2 _ _ eo, .nil⟩, ep, pr⟩ (fun i σ H' _ h => sl_of h.2.1) ?_ ?_
    · rintro i x σ H3 hx ⟨⟨x3, x4, x5, x6, us, rfl, sm, no, eo, po⟩, ep, pr⟩
      obtain ⟨r, hr7, t, rfl, et⟩ := paired_get pr hx
      have hi : i < 16 := (List.getElem?_eq_some_iff.mp hr7).1
      have lus : us.length ≤ 1000 := by
        rw [paired_len po]
        exact Nat.le_trans (List.length_filter_le _ _) (by rw [List.length_take]; exact Nat.le_trans (Nat.min_le_left _ _) (by omega))
      walk_at "kp"
      refine i_ixT (st_of et) (atI_nat (j := 0) rfl) ?_
      walk_at "kp"
      refine ⟨rfl, fun l1 H4 nl1 s4 el1 => ?_⟩
      refine i_inStrs (sl_of el1) ?_
      walk_at "kp"
      have et4 := s4 _ _ et
      have e1 : decide (m / 2 ^ i % 2 = 1) = maskBit m r := by unfold maskBit; rw [idx_at hr7]
      rw [pow_step, e1]
      refine i_cut (fun σ' H' => ∃ l, σ' = [some (.int s), some (.int (m / 2 ^ (i + 1))), some (.ref o), some (.ref t), some (.bl (decide (r.1 ∈ readsK))), some (.bl (maskBit m r)), some (.ref l)] ∧ Same H4 H' ∧ H' l = some (.lst ([false, true, (decide (r.1 ∈ readsK) || !decide (r.2 ∈ readsK)), (decide (r.1 = "acquire") || decide (r.2 = "release"))].map V.bl))) ?_ ?_
      · cases hA : decide (r.1 ∈ readsK) <;> cases hB : decide (r.1 = "acquire")
        · walk_at "kp"
          refine i_ixT (st_of et4) (atI_nat (j := 1) rfl) ?_
          walk_at "kp"
          refine ⟨rfl, fun l2 H5 nl2 s5 el2 => ?_⟩
          refine i_notInStrs (sl_of el2) ?_
          walk_at "kp"
          refine i_ixT (st_of (s5 _ _ et4)) (atI_nat (j := 0) rfl) ?_
          walk_at "kp"
          rw [hB]
          walk_at "kp"
          refine i_ixT (st_of (s5 _ _ et4)) (atI_nat (j := 1) rfl) ?_
          walk_at "kp"
          intro l H6 nl s6 el
          walk_at "kp"
          exact ⟨l, rfl, s5.trans s6, el⟩
        · walk_at "kp"
          refine i_ixT (st_of et4) (atI_nat (j := 1) rfl) ?_
          walk_at "kp"
          refine ⟨rfl, fun l2 H5 nl2 s5 el2 => ?_⟩
          refine i_notInStrs (sl_of el2) ?_
          walk_at "kp"
          refine i_ixT (st_of (s5 _ _ et4)) (atI_nat (j := 0) rfl) ?_
          walk_at "kp"
          rw [hB]
          walk_at "kp"
          intro l H6 nl s6 el
          walk_at "kp"
          exact ⟨l, rfl, s5.trans s6, el⟩
        · walk_at "kp"
          refine i_ixT (st_of et4) (atI_nat (j := 0) rfl) ?_
          walk_at "kp"
          rw [hB]
          walk_at "kp"
          refine i_ixT (st_of et4) (atI_nat (j := 1) rfl) ?_
          walk_at "kp"
          intro l H6 nl s6 el
          walk_at "kp"
          exact ⟨l, rfl, s6, el⟩
        · walk_at "kp"
          refine i_ixT (st_of et4) (atI_nat (j := 0) rfl) ?_
          walk_at "kp"
          rw [hB]
          walk_at "kp"
          intro l H6 nl s6 el
          walk_at "kp"
          exact ⟨l, rfl, s6, el⟩
      · rintro σ' H5 ⟨l, rfl, s5, el⟩
        refine i_cut (fun σ' H' => ∃ l, σ' = [some (.int s), some (.int (m / 2 ^ (i + 1))), some (.ref o), some (.ref t), some (.bl (decide (r.1 ∈ readsK))), some (.bl (maskBit m r)), some (.ref l)] ∧ Same H5 H' ∧ H' l = some (.lst ((fitsL (maskBit m r) r).map V.bl))) ?_ ?_
        · cases hC : maskBit m r <;> (
            walk_at "kp"
            intro l2 H6 nl2 s6 el2
            walk_at "kp"
            intro l3 H7 nl3 s7 el3
            walk_at "kp"
            exact ⟨l3, rfl, s6.trans s7, el3⟩)
        · rintro σ' H6 ⟨l, rfl, s6, el⟩
          walk_at "kp"
          refine i_ixL (sl_of el) (bl_at s0 (by show s < 8; omega)) ?_
          walk_at "kp"
          have sAll := (s4.trans s5).trans s6
          have eo6 := sAll _ _ eo
          have e2 : allPairs.take (i + 1) = allPairs.take i ++ [r] := take_snoc hr7
          refine ite2 (fun hm => ?_) (fun hm => ?_)
          · walk_at "kp"
            have hT := tk_upd (o' := .lst (us ++ [.ref t])) eo6 fun xs z => nomatch z
            refine ⟨⟨_, _, _, _, us ++ [.ref t], rfl, same_own no (sm.trans sAll), no, upd_same, ?_⟩, by rw [upd_ne npo]; exact sAll _ _ ep, (pr.mono (Same.tk sAll)).mono hT⟩
            rw [e2, List.filter_append, List.filter_cons, if_pos (show someF s m r = true from hm)]
            exact paired_snoc ((po.mono (Same.tk sAll)).mono hT) ⟨t, rfl, hT _ _ (sAll _ _ et)⟩
          · walk_at "kp"
            refine ⟨⟨_, _, _, _, us, rfl, sm.trans sAll, no, eo6, ?_⟩, sAll _ _ ep, pr.mono (Same.tk sAll)⟩
            rw [e2, List.filter_append, List.filter_cons, if_neg (show ¬ someF s m r = true from hm), List.filter_nil, List.append_nil]
            exact po.mono (Same.tk sAll)
    · rintro σ H3 ⟨⟨x3, x4, x5, x6, us, rfl, sm, no, eo, po⟩, ep, pr⟩
      walk_at "kp"
      rw [paired_len pr, List.take_length] at po
      exact q o H3 us no sm eo po

/-! ### & and the like -/
def spBin (C : Addr) (f : List Pr → List Pr → List Pr) : Sp := fun vs H Q _ => ∃ a b ps qs, vs = [.ref a, .ref b] ∧ PairsAt C H a ps ∧ PairsAt C H b qs ∧ (∀ r ∈ ps, r ∈ allPairs) ∧ (∀ r ∈ qs, r ∈ allPairs) ∧ ps.length ≤ 100 ∧ qs.length ≤ 100 ∧ ∀ x H', H x = none → Same H H' → PairsAt C H' x (norm (f ps qs)) → Q (.ref x) H'
def andP (ps qs : List Pr) : List Pr := ps.filter fun r => decide (r ∈ qs)
def subP (ps qs : List Pr) : List Pr := ps.filter fun r => !decide (r ∈ qs)
theorem raw_bin {C a b : Addr} {f : List Pr → List Pr → List Pr} {H : Hp} {Q : VK} {ps qs : List Pr} (ha : PairsAt C H a ps) (hb : PairsAt C H b qs) (hp : ∀ r ∈ ps, r ∈ allPairs) (hq : ∀ r ∈ qs, r ∈ allPairs) (hl : ps.length ≤ 100) (hl2 : qs.length ≤ 100) (q : ∀ x H', H x = none → Same H H' → PairsAt C H' x (norm (f ps qs)) → Q (.ref x) H') : rBinOwn C (spBin C f) E0 (.ref a) (.ref b) H Q := by
  obtain ⟨dx, t, us, e1, e2, e3⟩ := id ha
  obtain ⟨dy, t', us', f1, f2, f3⟩ := id hb
  exact ⟨a, dx, _, b, dy, _, rfl, rfl, e1, f1, a, b, ps, qs, rfl, ha, hb, hp, hq, hl, hl2, q⟩
abbrev sAnd : Stmt := inClass (topS 12) 7
theorem scAnd : FnScope ["self", "other", "pair"] ["self", "other"] (defScope sAnd) := ⟨rfl, rfl, rfl, by decide +kernel, rfl, by decide +kernel, by decide +kernel⟩
theorem ok_and {C aE : Addr} (At : MAt K C "__and__" "Pairs.__and__" sAnd ["self", "other"]) (B : Blt mg) (T : PairsCl K mg C) (IC : IsiC K C) (OPairs : PMk P w K mg base 2 C aE (spPInit K C)) : OkM P w K mg base CX0 5 C "__and__" ["self", "other"] (spBin C andP) := At.ok fun f fd F => by
  refine F.ok scAnd (fun vs H Q E h => ?_) (fun cdv A outer s H vs Q E hr h => ?_)
  · obtain ⟨a, b, ps, qs, rfl, _⟩ := h
    rfl
  · obtain ⟨a, b, ps, qs, rfl, ha, hb, hp, hq, hl, hl2, q⟩ := h
    obtain ⟨dx, t, us, e1, e2, e3⟩ := id ha
    obtain ⟨dy, t', us', f1, f2, f3⟩ := id hb
    refine ⟨_, (pss_cons (ps_if (pt_not (pt_val (pe_callB (call_isiKK K rfl) (by rfl) B.isinstance (by decide +kernel) (pa_cons (pv 1) (pa_cons (pe_glob (v := .ref C) (by rfl) T.gP (by rfl)) pa_nil)))))
        (pss_one ps_never) pss_nil)
      (pss_one (ps_ret (pe_makeP OPairs (hr.mono (by decide)) (pa_cons (pe_lc (own := [("pair", 2)]) (g := gName 2) rfl scAnd.nd (by exact (pi_tup (pe_fldK K rfl (pv 0) rfl))) (blkOk_by (N := ["self", "other", "pair"]) (sc := (defScope sAnd)) (by decide +kernel)) (fun _ _ _ _ _ => pg_name (i := 2) scAnd.nd rfl (Or.inl rfl)) (fun _ _ _ _ _ => by exact (pts_one (pt_cmpR (op_inTDK K rfl hr.units1) (pv 2) (pe_fldK K rfl (pv 1) rfl) (by rfl)))) (fun _ _ _ _ _ => by exact (pv 2))) pa_nil))))), ?_⟩
    walk_at "kp"
    refine i_isiOwn f1 T.cl IC ?_
    walk_at "kp"
    refine ite_no rfl ?_
    walk_at "kp"
    refine raw_fld e1 T.cl T.nP (v := .ref t) (by rfl) ?_
    refine lc_filterT (fun r => decide (r ∈ qs)) (st_of e2) e3 (by omega) ?_ fun D acc H1 nD s1 eD pr => ?_
    · rintro i x r H1 Y N hx hr7 pv s1 hY hN
      refine ⟨rfl, ?_⟩
      walk_at "kp"
      refine raw_fld (s1 _ _ f1) T.cl T.nP (v := .ref t') (by rfl) ?_
      refine i_inPT pv ⟨us', st_of (s1 _ _ f2), f3.mono (Same.tk s1)⟩ (good_all r (hp r (List.mem_of_getElem? hr7))) (fun r h => good_all r (hq r h)) ?_
      walk_at "kp"
      refine ite2 (fun hm => ?_) (fun hm => hN (by simpa using hm) H1 (Same.refl _))
      walk_at "kp"
      exact hY hm H1 (Same.refl _)
    · walk_at "kp"
      refine raw_mkP (.inl (sl_of eD)) pr (fun r h => hp r (List.mem_filter.mp h).1) (Nat.le_trans (List.length_filter_le _ _) (by omega)) fun m H2 nm s2 am => ?_
      exact q m H2 (s1.free nm) (s1.trans s2) am
abbrev sSub : Stmt := inClass (topS 12) 9
theorem scSub : FnScope ["self", "other", "pair"] ["self", "other"] (defScope sSub) := ⟨rfl, rfl, rfl, by decide +kernel, rfl, by decide +kernel, by decide +kernel⟩
theorem ok_sub {C aE : Addr} (At : MAt K C "__sub__" "Pairs.__sub__" sSub ["self", "other"]) (B : Blt mg) (T : PairsCl K mg C) (IC : IsiC K C) (OPairs : PMk P w K mg base 2 C aE (spPInit K C)) : OkM P w K mg base CX0 5 C "__sub__" ["self", "other"] (spBin C subP) := At.ok fun f fd F => by
  refine F.ok scSub (fun vs H Q E h => ?_) (fun cdv A outer s H vs Q E hr h => ?_)
  · obtain ⟨a, b, ps, qs, rfl, _⟩ := h
    rfl
  · obtain ⟨a, b, ps, qs, rfl, ha, hb, hp, hq, hl, hl2, q⟩ := h
    obtain ⟨dx, t, us, e1, e2, e3⟩ := id ha
    obtain ⟨dy, t', us', f1, f2, f3⟩ := id hb
    refine ⟨_, (pss_cons (ps_if (pt_not (pt_val (pe_callB (call_isiKK K rfl) (by rfl) B.isinstance (by decide +kernel) (pa_cons (pv 1) (pa_cons (pe_glob (v := .ref C) (by rfl) T.gP (by rfl)) pa_nil)))))
        (pss_one ps_never) pss_nil)
      (pss_one (ps_ret (pe_makeP OPairs (hr.mono (by decide)) (pa_cons (pe_lc (own := [("pair", 2)]) (g := gName 2) rfl scSub.nd (by exact (pi_tup (pe_fldK K rfl (pv 0) rfl))) (blkOk_by (N := ["self", "other", "pair"]) (sc := (defScope sSub)) (by decide +kernel)) (fun _ _ _ _ _ => pg_name (i := 2) scSub.nd rfl (Or.inl rfl)) (fun _ _ _ _ _ => by exact (pts_one (pt_cmpR (op_notInTDK K rfl hr.units1) (pv 2) (pe_fldK K rfl (pv 1) rfl) (by rfl)))) (fun _ _ _ _ _ => by exact (pv 2))) pa_nil))))), ?_⟩
    walk_at "kp"
    refine i_isiOwn f1 T.cl IC ?_
    walk_at "kp"
    refine ite_no rfl ?_
    walk_at "kp"
    refine raw_fld e1 T.cl T.nP (v := .ref t) (by rfl) ?_
    refine lc_filterT (fun r => !decide (r ∈ qs)) (st_of e2) e3 (by omega) ?_ fun D acc H1 nD s1 eD pr => ?_
    · rintro i x r H1 Y N hx hr7 pv s1 hY hN
      refine ⟨rfl, ?_⟩
      walk_at "kp"
      refine raw_fld (s1 _ _ f1) T.cl T.nP (v := .ref t') (by rfl) ?_
      refine i_notInPT pv ⟨us', st_of (s1 _ _ f2), f3.mono (Same.tk s1)⟩ (good_all r (hp r (List.mem_of_getElem? hr7))) (fun r h => good_all r (hq r h)) ?_
      walk_at "kp"
      refine ite2 (fun hm => ?_) (fun hm => hN (by simpa using hm) H1 (Same.refl _))
      walk_at "kp"
      exact hY hm H1 (Same.refl _)
    · walk_at "kp"
      refine raw_mkP (.inl (sl_of eD)) pr (fun r h => hp r (List.mem_filter.mp h).1) (Nat.le_trans (List.length_filter_le _ _) (by omega)) fun m H2 nm s2 am => ?_
      exact q m H2 (s1.free nm) (s1.trans s2) am
abbrev sOr : Stmt := inClass (topS 12) 8
theorem scOr : FnScope ["self", "other"] ["self", "other"] (defScope sOr) := ⟨rfl, rfl, rfl, by decide +kernel, rfl, by decide +kernel, by decide +kernel⟩
theorem ok_or {C aE : Addr} (At : MAt K C "__or__" "Pairs.__or__" sOr ["self", "other"]) (B : Blt mg) (T : PairsCl K mg C) (IC : IsiC K C) (OPairs : PMk P w K mg base 2 C aE (spPInit K C)) : OkM P w K mg base CX0 5 C "__or__" ["self", "other"] (spBin C (· ++ ·)) := At.ok fun f fd F => by
  refine F.ok scOr (fun vs H Q E h => ?_) (fun cdv A outer s H vs Q E hr h => ?_)
  · obtain ⟨a, b, ps, qs, rfl, _⟩ := h
    rfl
  · obtain ⟨a, b, ps, qs, rfl, ha, hb, hp, hq, hl, hl2, q⟩ := h
    obtain ⟨dx, t, us, e1, e2, e3⟩ := id ha
    obtain ⟨dy, t', us', f1, f2, f3⟩ := id hb
    have l1 := paired_len e3
    have l2 := paired_len f3
    refine ⟨_, (pss_cons (ps_if (pt_not (pt_val (pe_callB (call_isiKK K rfl) (by rfl) B.isinstance (by decide +kernel) (pa_cons (pv 1) (pa_cons (pe_glob (v := .ref C) (by rfl) T.gP (by rfl)) pa_nil)))))
        (pss_one ps_never) pss_nil)
      (pss_one (ps_ret (pe_makeP OPairs (hr.mono (by decide)) (pa_cons (pe_op op_catA (pe_fldK K rfl (pv 0) rfl) (pe_fldK K rfl (pv 1) rfl)) pa_nil))))), ?_⟩
    walk_at "kp"
    refine i_isiOwn f1 T.cl IC ?_
    walk_at "kp"
    refine ite_no rfl ?_
    walk_at "kp"
    refine raw_fld e1 T.cl T.nP (v := .ref t) (by rfl) ?_
    walk_at "kp"
    refine raw_fld f1 T.cl T.nP (v := .ref t') (by rfl) ?_
    refine raw_catTA (st_of e2) (st_of f2) (by omega) fun t2 H1 s1 et2 => ?_
    walk_at "kp"
    refine raw_mkP (.inr et2) (paired_app (e3.mono (Same.tk s1)) (f3.mono (Same.tk s1))) (fun r h => (List.mem_append.mp h).elim (hp r) (hq r)) (by simp; omega) fun m H2 nm s2 am => ?_
    exact q m H2 (s1.free nm) (s1.trans s2) am

/-! ### Pairs.product -/
def spProd (K : PySem.W.Frag) (C : Addr) : Sp := fun vs H Q _ => ∃ (a b : Addr) (fs ss : List Str), vs = [.ref a, .ref b] ∧ (SqL K H a (fs.map V.str) ∨ SqT K H a (fs.map V.str)) ∧ SqT K H b (ss.map V.str) ∧ (∀ x ∈ fs, kindB x = true) ∧ (∀ x ∈ ss, kindB x = true) ∧ fs.length ≤ 8 ∧ ss.length ≤ 8 ∧
  ∀ x H', H x = none → Same H H' → PairsAt C H' x (norm (prodP fs ss)) → Q (.ref x) H'
abbrev sProd : Stmt := inClass (topS 12) 1
theorem scProd : FnScope ["firsts", "seconds", "first", "second"] ["firsts", "seconds"] (defScope sProd) := ⟨rfl, rfl, rfl, by decide +kernel, rfl, by decide +kernel, by decide +kernel⟩
theorem ok_prod {C aE : Addr} (At : SmAt K mg "Pairs" "product" "Pairs.product" sProd ["firsts", "seconds"]) (B : Blt mg) (OPairs : PMk P w K mg base 2 C aE (spPInit K C)) : OkS P w K mg base CX0 4 "Pairs" "product" ["firsts", "seconds"] (spProd K C) := At.ok fun f fd F => by
  refine F.ok scProd (fun vs H Q E h => ?_) (fun cdv A outer s H vs Q E hr h => ?_)
  · obtain ⟨a, b, fs, ss, rfl, _⟩ := h
    rfl
  · obtain ⟨a, b, fs, ss, rfl, hF, hT, kF, kT, lF, lT, q⟩ := h
    have big : (fs.map V.str).length * (ss.map V.str).length ≤ 1000 := by
      rw [List.length_map, List.length_map]
      exact Nat.le_trans (Nat.mul_le_mul lF lT) (by decide)
    have goodAll : ∀ r ∈ prodP fs ss, r ∈ allPairs := fun r h => (all_mem r).mpr ⟨kF _ (prodP_mem.mp h).1, kT _ (prodP_mem.mp h).2⟩
    have lenAll : (prodP fs ss).length ≤ 900 := by rw [prodP_len]; exact Nat.le_trans (Nat.mul_le_mul lF lT) (by decide)
    rcases hF with hF | hF
    · refine ⟨_, (pss_one (ps_ret (pe_makeP OPairs (hr.mono (by decide)) (pa_cons (pe_lc2 (own := [("first", 2), ("second", 3)]) (vs1 := [3]) (g := gName 2) (g1 := gName 3) (tt := tYes) (wi1 := (iTup K (tVar 1))) (tt1 := tYes) rfl scProd.nd (by exact (pi_list (pv 0))) (blkOk_by (N := ["firsts", "seconds", "first", "second"]) (sc := (defScope sProd)) (by decide +kernel)) (by decide) (fun _ _ _ _ _ => pg_name (i := 2) scProd.nd rfl (Or.inl rfl)) (fun _ _ _ _ _ => by exact pts_nil) (fun _ _ _ _ _ => by exact (pi_tup (pv 1))) (fun _ _ _ _ _ => pg_name (i := 3) scProd.nd rfl (Or.inl rfl)) (fun _ _ _ _ _ => by exact pts_nil) (fun _ _ _ _ _ => by exact (pe_tup (pa_cons (pv 2) (pa_cons (pv 3) pa_nil))))) pa_nil)))), ?_⟩
      walk_at "kp"
      refine ⟨a, rfl, ⟨_, hF⟩, raw_lc2 (G := fun H => SqL K H a (fs.map V.str)) (G1 := fun H => SqT K H b (ss.map V.str)) walk_list big (fun H' s => s.seq hF) (fun i j acc H' => PairsV H' acc (prodAt fs ss i j)) (fun i j acc H H' k h => h.mono k) (by rw [prodAt_zero]; exact .nil) (fun i acc H' h => by rw [List.length_map, prodAt_next] at h; exact h) (fun H' s => SqT.ext hT s) (fun x => rfl) (fun x H' s => inner_tupV rfl (SqT.ext hT s)) ?_ ?_⟩
      · rintro i j x y acc H3 hx hy s3 pr Y N hY hN
        obtain ⟨z, hz, rfl⟩ := str_at hx
        obtain ⟨z2, hz2, rfl⟩ := str_at hy
        refine ⟨rfl, ?_⟩
        walk_at "kp"
        intro t H4 nt s4 ht
        walk_at "kp"
        refine hY _ H4 s4 ?_
        show PairsV H4 (acc ++ [V.ref t]) (prodAt fs ss i (j + 1))
        rw [prodAt_snoc hz hz2]
        exact paired_snoc (pr.mono (Same.tk s4)) ⟨t, rfl, ht⟩
      · rintro Dl acc H3 nD s3 eD pr
        rw [List.length_map, prodAt_end] at pr
        walk_at "kp"
        refine raw_mkP (.inl (sl_of eD)) pr goodAll lenAll fun m H4 nm s4 am => ?_
        exact q m H4 (s3.free nm) (s3.trans s4) am
    · refine ⟨_, (pss_one (ps_ret (pe_makeP OPairs (hr.mono (by decide)) (pa_cons (pe_lc2 (own := [("first", 2), ("second", 3)]) (vs1 := [3]) (g := gName 2) (g1 := gName 3) (tt := tYes) (wi1 := (iTup K (tVar 1))) (tt1 := tYes) rfl scProd.nd (by exact (pi_tup (pv 0))) (blkOk_by (N := ["firsts", "seconds", "first", "second"]) (sc := (defScope sProd)) (by decide +kernel)) (by decide) (fun _ _ _ _ _ => pg_name (i := 2) scProd.nd rfl (Or.inl rfl)) (fun _ _ _ _ _ => by exact pts_nil) (fun _ _ _ _ _ => by exact (pi_tup (pv 1))) (fun _ _ _ _ _ => pg_name (i := 3) scProd.nd rfl (Or.inl rfl)) (fun _ _ _ _ _ => by exact pts_nil) (fun _ _ _ _ _ => by exact (pe_tup (pa_cons (pv 2) (pa_cons (pv 3) pa_nil))))) pa_nil)))), ?_⟩
      walk_at "kp"
      refine ⟨a, rfl, ⟨_, hF⟩, raw_lc2 (G := fun H => SqT K H a (fs.map V.str)) (G1 := fun H => SqT K H b (ss.map V.str)) walk_tup big (fun H' s => SqT.ext hF s) (fun i j acc H' => PairsV H' acc (prodAt fs ss i j)) (fun i j acc H H' k h => h.mono k) (by rw [prodAt_zero]; exact .nil) (fun i acc H' h => by rw [List.length_map, prodAt_next] at h; exact h) (fun H' s => SqT.ext hT s) (fun x => rfl) (fun x H' s => inner_tupV rfl (SqT.ext hT s)) ?_ ?_⟩
      · rintro i j x y acc H3 hx hy s3 pr Y N hY hN
        obtain ⟨z, hz, rfl⟩ := str_at hx
        obtain ⟨z2, hz2, rfl⟩ := str_at hy
        refine ⟨rfl, ?_⟩
        walk_at "kp"
        intro t H4 nt s4 ht
        walk_at "kp"
        refine hY _ H4 s4 ?_
        show PairsV H4 (acc ++ [V.ref t]) (prodAt fs ss i (j + 1))
        rw [prodAt_snoc hz hz2]
        exact paired_snoc (pr.mono (Same.tk s4)) ⟨t, rfl, ht⟩
      · rintro Dl acc H3 nD s3 eD pr
        rw [List.length_map, prodAt_end] at pr
        walk_at "kp"
        refine raw_mkP (.inl (sl_of eD)) pr goodAll lenAll fun m H4 nm s4 am => ?_
        exact q m H4 (s3.free nm) (s3.trans s4) am

/-! ### a book is made -/
def spFW (CP : Addr) : Sp := fun vs H Q _ => ∃ d, vs = [.ref d] ∧ H d = some (.dK []) ∧ ∀ d2 fp H', H d2 = none → Same H H' → H' d2 = some (.dK [(Sum.inr "full", .ref fp)]) → PairsAt CP H' fp allPairs → Q (.ref d2) H'
abbrev sFW : Stmt := topS 34
theorem scFW : FnScope ["fences", "found", "name", "key"] ["fences"] (defScope sFW) := ⟨rfl, rfl, rfl, by decide +kernel, rfl, by decide +kernel, by decide +kernel⟩
theorem ok_fw {CP : Addr} (At : FnAt K mg "_fences_with_full" sFW ["fences"]) (B : Blt mg) (GK : GlT K mg "KINDS" kindsV) (GF : ∃ t, mg "FULL" = some (.str "full" t)) (Oprod : OkS P w K mg base CX0 4 "Pairs" "product" ["firsts", "seconds"] (spProd K CP)) : OkF P w K mg base CX0 5 "_fences_with_full" ["fences"] (spFW CP) := At.ok fun f fd F => by
  obtain ⟨aK, gK, hK⟩ := GK
  obtain ⟨tF, gF⟩ := GF
  refine F.ok scFW (fun vs H Q E h => ?_) (fun cdv A outer s H vs Q E hr h => ?_)
  · obtain ⟨d, rfl, _⟩ := h
    rfl
  · obtain ⟨d, rfl, hd, q⟩ := h
    have hu := hu_of hr
    refine ⟨_, (pss_cons (ps_set (i := 1) scFW.nd rfl (.inl rfl) (pe_disp (pps_cons (pe_glob (v := .str "full") (by rfl) gF ⟨_, rfl⟩) (pe_sm Oprod (hr.mono (by decide)) (pa_cons (pe_glob (v := .ref aK) (by rfl) gK (by rfl)) (pa_cons (pe_glob (v := .ref aK) (by rfl) gK (by rfl)) pa_nil))) pps_nil) (by rfl) (by rfl) (fun z => by cases z) (by decide)))
      (pss_cons (ps_for PassesOwn.never rfl (pi_list (pe_callB (cr_sortedSK K rfl) (by rfl) B.sorted (by decide +kernel) (pa_cons (pe_lock (pe_lc (own := [("key", 3)]) (g := gName 3) (tt := tYes) rfl scFW.nd (by exact (pi_keys (pv 0))) (blkOk_by (N := ["fences", "found", "name", "key"]) (sc := (defScope sFW)) (by decide +kernel)) (fun _ _ _ _ _ => pg_name (i := 3) scFW.nd rfl (Or.inl rfl)) (fun _ _ _ _ _ => by exact pts_nil) (fun _ _ _ _ _ => by exact (pe_callTy call_strS (by rfl) B.str (by decide +kernel) (pa_cons (pv 3) pa_nil))))) pa_nil))) (pg_name (i := 2) scFW.nd rfl (.inl rfl))
        pss_never)
      (pss_one (ps_ret (pv 1))))), ?_⟩
    walk_at "kp"
    intro p np
    simp only [tPairs]
    have npd : p ≠ d := fun e => by rw [e, hd] at np; cases np
    have s0 : Same H (upd H p (.dK [])) := same_new np
    walk_at "kp"
    refine ⟨aK, aK, kinds, kinds, rfl, .inr (hK _), hK _, (by decide +kernel), (by decide +kernel), by decide, by decide, fun x H2 nx s2 ax => ?_⟩
    refine ⟨s2 _ _ upd_same, [(Sum.inr "full", V.ref x)], rfl, Nat.le_of_ble_eq_true rfl, ?_⟩
    rw [norm_kinds] at ax
    have em : mergeK ([] : List (L2.Key × V)) [((Sum.inr "full" : L2.Key), V.ref x)] = [((Sum.inr "full" : L2.Key), V.ref x)] := by rfl
    rw [em]
    have s3 : Same H (upd H2 p (.dK [(Sum.inr "full", V.ref x)])) := same_own np (s0.trans s2)
    have b3 : ∀ c o, c ≠ p → H2 c = some o → (upd H2 p (.dK [(Sum.inr "full", V.ref x)])) c = some o := fun c o h e => by rw [upd_ne h]; exact e
    have ax3 : PairsAt CP (upd H2 p (.dK [(Sum.inr "full", V.ref x)])) x allPairs := by
      obtain ⟨dx, t, vs, h1, h2, h3⟩ := ax
      have e2 := s2 _ _ (upd_same (H := H) (a := p) (o := .dK []))
      exact ⟨dx, t, vs, b3 _ _ (ne_of h1 e2 fun q => nomatch q) h1, b3 _ _ (ne_of h2 e2 fun q => nomatch q) h2, h3.mono fun t xs z => b3 t _ (ne_of z e2 (fun q => nomatch q)) z⟩
    generalize hH3 : upd H2 p (.dK [(Sum.inr "full", V.ref x)]) = H3 at *
    have ep3 : H3 p = some (.dK [(Sum.inr "full", V.ref x)]) := by rw [← hH3]; exact upd_same
    walk_at "kp"
    refine raw_lock (d := d) (s3 _ _ hd) trivial fun od => ?_
    walk_at "kp"
    refine raw_lcK (kvs := []) upd_same (by decide) (fun i acc H' => acc = []) (fun i acc H H' k h => h) rfl (fun i k v acc H' hx => by simp at hx) ?_
    rintro D acc H4 nD s4 eD rfl
    refine ⟨s4 _ _ upd_same, ?_⟩
    have s5 := same_lock (s3 _ _ hd) s4
    have nDd : D ≠ d := fun e => by rw [e, upd_same] at nD; cases nD
    have eD5 : (upd H4 d (.dK [])) D = some (.lst []) := by rw [upd_ne nDd]; exact eD
    generalize upd H4 d (.dK []) = H5 at *
    walk_at "kp"
    refine raw_sorted (xs := []) (sl_of eD5) (by decide) fun ys l H6 pm so nl s6 el => ?_
    obtain rfl : ys = [] := List.perm_nil.mp pm
    refine raw_fl (sl_of el) (fun i σ H' => i = 0 ∧ σ = [some (.ref d), some (.ref p), none, none] ∧ H' = H6) ⟨rfl, rfl, rfl⟩ (fun i σ H' _ ⟨_, _, e⟩ => by rw [e]; exact sl_of el) (fun i x σ H' hx _ => by simp at hx) ?_
    rintro σ H7 ⟨_, rfl, rfl⟩
    walk_at "kp"
    have s36 := s5.trans s6
    exact q p x H7 np (s3.trans s36) (s36 _ _ ep3) (ax3.mono s36)
abbrev sBInit : Stmt := inClass (topS 36) 0
theorem scBInit : FnScope ["self", "kept", "fences", "early", "coherent", "name"] ["self", "kept", "fences", "early", "coherent"] (defScope sBInit) := ⟨rfl, rfl, rfl, by decide +kernel, rfl, by decide +kernel, by decide +kernel⟩
theorem ok_binit {CP C f : Addr} {kws : List (Str × V)} {fd : FuncData} (F : FunD K "__init__" "Book.__init__" (defArgs sBInit) (defBody sBInit) (defScope sBInit) [] kws f fd) (B : Blt mg) (T : BookCl K mg C) (Ofw : OkF P w K mg base CX0 5 "_fences_with_full" ["fences"] (spFW CP)) : FnOk P w K mg base CX0 6 f fd bookPs (spBInit K CP C) := by
  refine F.ok scBInit (fun vs H Q E ⟨_, _, _, _, _, _, e, _⟩ => by rw [e]; rfl) (fun cdv A outer s H vs Q E hr h => ?_)
  obtain ⟨p, dx, kp, ps, e, c, rfl, hp, hk, q⟩ := h
  have hu := hu_of hr
  refine ⟨_, PSs.nox (pss_cons (ps_fld (pv 0) (pe_callO Ofw (hr.mono (by decide)) (pa_cons (pe_ifExp (pt_cmpR op_isN (pv 2) pe_non (nomark _)) pe_dnewK (pv 2)) pa_nil)) rfl)
      (pss_cons (ps_fld (pv 0) (pe_callTy call_tupL (by rfl) B.tuple (by decide +kernel) (pa_cons (pe_callB (cr_sortedSK K rfl) (by rfl) B.sorted (by decide +kernel) (pa_cons (pe_lock (pe_lc (own := [("name", 5)]) (g := gName 5) (tt := tYes) rfl scBInit.nd (by exact (pi_keys (pe_fldK K rfl (pv 0) rfl))) (blkOk_by (N := ["self", "kept", "fences", "early", "coherent", "name"]) (sc := (defScope sBInit)) (by decide +kernel)) (fun _ _ _ _ _ => pg_name (i := 5) scBInit.nd rfl (Or.inl rfl)) (fun _ _ _ _ _ => by exact pts_nil) (fun _ _ _ _ _ => by exact (pe_callTy call_strS (by rfl) B.str (by decide +kernel) (pa_cons (pv 5) pa_nil))))) pa_nil)) pa_nil)) rfl)
      (pss_cons (ps_fld (pv 0) (pv 1) rfl)
      (pss_cons (ps_fld (pv 0) (pv 3) rfl)
      (pss_one (ps_fld (pv 0) (pv 4) rfl)))))), ?_⟩
  walk_at "kp"
  refine ⟨rfl, _, rfl, ?_⟩
  refine ite_ok rfl ?_
  walk_at "kp"
  intro d H1 nd s1 hd
  walk_at "kp"
  refine ⟨d, rfl, hd, fun d2 fp H2 nd2 s2 hd2 hfp => ?_⟩
  have hp2 := s2 _ _ (s1 _ _ hp)
  have hk2 := hk.mono (s1.trans s2)
  have n2p : d2 ≠ p := fun e => by rw [e, s1 _ _ hp] at nd2; cases nd2
  walk_at "kp"
  refine raw_sfld hp2 T.cl T.nF (by decide) ?_
  have b23 : But p H2 (upd H2 p (.ins C dx (putF "_fences" (.ref d2) []))) := but_upd
  have ep3 : (upd H2 p (.ins C dx (putF "_fences" (.ref d2) []))) p = some (.ins C dx [("_fences", .ref d2)]) := upd_same
  generalize upd H2 p (.ins C dx (putF "_fences" (.ref d2) [])) = H3 at *
  have ed3 : H3 d2 = some (.dK [(Sum.inr "full", .ref fp)]) := b23 _ _ n2p hd2
  walk_at "kp"
  refine raw_lock (d := d2) ed3 trivial fun od => ?_
  walk_at "kp"
  refine raw_fld (C := C) (dx := dx) (fs := [("_fences", .ref d2)]) (by rw [upd_ne (Ne.symm n2p)]; exact ep3) T.cl T.nF (v := .ref d2) (by rfl) ?_
  refine raw_lcK (kvs := [(Sum.inr "full", .ref fp)]) upd_same (by exact Nat.le_of_ble_eq_true rfl) (fun i acc H' => acc = ((["full"] : List Str).take i).map V.str) (fun i acc H H' k h => h) rfl ?_ ?_
  · rintro i k v acc H' hx s' rfl Y N hY hN
    match i, hx with
    | 0, hx =>
      obtain ⟨rfl, rfl⟩ := Prod.mk.inj (Option.some.inj hx)
      refine ⟨rfl, ?_⟩
      walk_at "kp"
      exact i_strS (z := "full") (hY _ _ (Same.refl _) rfl)
  · rintro D acc H4 nD s4 eD rfl
    refine ⟨s4 _ _ upd_same, ?_⟩
    have s5 := same_lock ed3 s4
    have nDd : D ≠ d2 := fun e => by rw [e, upd_same] at nD; cases nD
    have eD5 : (upd H4 d2 (.dK [(Sum.inr "full", .ref fp)])) D = some (.lst ((["full"] : List Str).map V.str)) := by rw [upd_ne nDd]; exact eD
    generalize upd H4 d2 (.dK [(Sum.inr "full", .ref fp)]) = H5 at *
    walk_at "kp"
    refine raw_sorted (xs := (["full"] : List Str)) (sl_of eD5) (by decide) fun ys l H6 pm so nl s6 el => ?_
    obtain rfl : ys = (["full"] : List Str) := List.perm_singleton.mp pm
    walk_at "kp"
    intro nt H7 nnt s7 ent
    walk_at "kp"
    have b27 := b23.same (s5.trans (s6.trans s7))
    have ep7 := s7 _ _ (s6 _ _ (s5 _ _ ep3))
    have hfp7 := b27.paI hp2 (pa_ne hp2 hfp) hfp
    have hk7 := b27.paI hp2 (pa_ne hp2 hk2) hk2
    have hd7 := b27 _ _ n2p hd2
    have nfp : fp ≠ p := pa_ne hp2 hfp
    have nkp : kp ≠ p := pa_ne hp2 hk2
    have nnp : nt ≠ p := ne_of ent ep7 fun z => nomatch z
    refine raw_sfld ep7 T.cl T.nN (by exact Nat.le_of_ble_eq_true rfl) ?_
    walk_at "kp"
    refine raw_sfld upd_same T.cl T.nK (by exact Nat.le_of_ble_eq_true rfl) ?_
    walk_at "kp"
    refine raw_sfld upd_same T.cl T.nE (by exact Nat.le_of_ble_eq_true rfl) ?_
    walk_at "kp"
    refine raw_sfld upd_same T.cl T.nC (by exact Nat.le_of_ble_eq_true rfl) ?_
    have b78 : ∀ o1 o2 o3 o4, But p H7 (upd (upd (upd (upd H7 p o1) p o2) p o3) p o4) := fun o1 o2 o3 o4 => ((but_upd.trans but_upd).trans but_upd).trans but_upd
    refine q _ ⟨dx, d2, fp, nt, kp, _, upd_same, by rfl, by rfl, by rfl, by rfl, by rfl, by rfl, by rfl, by rfl, by rfl, by exact Nat.le_of_ble_eq_true rfl, b78 _ _ _ _ _ _ n2p hd7, (b78 _ _ _ _).paI ep7 nfp hfp7, b78 _ _ _ _ _ _ nnp ent, (b78 _ _ _ _).paI ep7 nkp hk7⟩ fun b o hb eb => b78 _ _ _ _ _ _ hb (b27 _ _ hb (s2 _ _ (s1 _ _ eb)))
/-! ### the usual books -/
def spUsual (K : PySem.W.Frag) (CP C : Addr) (ps : List Pr) (e c : Bool) : Sp := fun vs H Q _ => vs = [] ∧ ∀ x H', H x = none → Same H H' → BookAt K CP C H' x ps e c → Q (.ref x) H'
theorem usual2 : norm (subP (norm (prodP kinds kinds)) (norm (prodP ["write", "release"] ["read", "acquire"]))) = someP 2 0 := by decide +kernel
theorem usual3 : norm (norm (prodP ["acquire"] kinds) ++ norm (prodP kinds ["release"])) = someP 3 0 := by decide +kernel
theorem usual1 : norm (prodP kinds kinds) = someP 1 0 := by decide +kernel
abbrev sSeq : Stmt := inClass (topS 36) 1
theorem scSeq : FnScope [] [] (defScope sSeq) := ⟨rfl, rfl, rfl, by decide +kernel, rfl, by decide +kernel, by decide +kernel⟩
theorem ok_seq {CP C : Addr} (At : SmAt K mg "Book" "sequential" "Book.sequential" sSeq []) (GK : GlT K mg "KINDS" kindsV) (Oprod : OkS P w K mg base CX0 4 "Pairs" "product" ["firsts", "seconds"] (spProd K CP)) (OB : BMk P w K mg base 6 CP C) : OkS P w K mg base CX0 8 "Book" "sequential" [] (spUsual K CP C (someP 1 0) false true) := At.ok fun f fd F => by
  obtain ⟨aK, gK, hK⟩ := GK
  refine F.ok scSeq (fun vs H Q E h => ?_) (fun cdv A outer s H vs Q E hr h => ?_)
  · obtain ⟨rfl, _⟩ := h
    rfl
  · obtain ⟨rfl, q⟩ := h
    refine ⟨_, (pss_one (ps_ret (pe_makeB OB (hr.mono (by decide)) (pa_cons (pe_sm Oprod (hr.mono (by decide)) (pa_cons (pe_glob (v := .ref aK) (by rfl) gK (by rfl)) (pa_cons (pe_glob (v := .ref aK) (by rfl) gK (by rfl)) pa_nil))) pa_nil)))), ?_⟩
    walk_at "kp"
    refine ⟨aK, aK, kinds, kinds, rfl, .inr (hK _), hK _, (by decide +kernel), (by decide +kernel), by decide, by decide, fun x H1 nx s1 ax => ?_⟩
    rw [usual1] at ax
    walk_at "kp"
    refine raw_mkB ax fun b H2 nb s2 B2 => ?_
    exact q b H2 (s1.free nb) (s1.trans s2) B2
abbrev sBuf : Stmt := inClass (topS 36) 2
theorem scBuf : FnScope [] [] (defScope sBuf) := ⟨rfl, rfl, rfl, by decide +kernel, rfl, by decide +kernel, by decide +kernel⟩
theorem ok_buf {CP C : Addr} (At : SmAt K mg "Book" "buffered" "Book.buffered" sBuf []) (GK : GlT K mg "KINDS" kindsV) (GR : GlT K mg "READS" (List.map V.str ["read", "acquire"])) (GW : GlT K mg "WRITES" (List.map V.str ["write", "release"])) (OselfF : PySem.W.selfFirst K CP = true) (Osub : OkM P w K mg base CX0 5 CP "__sub__" ["self", "other"] (spBin CP subP))
    (Oprod : OkS P w K mg base CX0 4 "Pairs" "product" ["firsts", "seconds"] (spProd K CP)) (OB : BMk P w K mg base 6 CP C) : OkS P w K mg base CX0 8 "Book" "buffered" [] (spUsual K CP C (someP 2 0) true true) := At.ok fun f fd F => by
  obtain ⟨aK, gK, hK⟩ := GK
  obtain ⟨aR, gR, hR⟩ := GR
  obtain ⟨aW, gW, hW⟩ := GW
  refine F.ok scBuf (fun vs H Q E h => ?_) (fun cdv A outer s H vs Q E hr h => ?_)
  · obtain ⟨rfl, _⟩ := h
    rfl
  · obtain ⟨rfl, q⟩ := h
    refine ⟨_, (pss_one (ps_ret (pe_makeBe OB (hr.mono (by decide)) (pa_cons (pe_op (op_binM (op := .Sub) OselfF Osub (hr.mono (by decide))) (pe_sm Oprod (hr.mono (by decide)) (pa_cons (pe_glob (v := .ref aK) (by rfl) gK (by rfl)) (pa_cons (pe_glob (v := .ref aK) (by rfl) gK (by rfl)) pa_nil))) (pe_sm Oprod (hr.mono (by decide)) (pa_cons (pe_glob (v := .ref aW) (by rfl) gW (by rfl)) (pa_cons (pe_glob (v := .ref aR) (by rfl) gR (by rfl)) pa_nil)))) pa_nil) (pk_cons pe_bl pk_nil)))), ?_⟩
    walk_at "kp"
    refine ⟨aK, aK, kinds, kinds, rfl, .inr (hK _), hK _, (by decide +kernel), (by decide +kernel), by decide, by decide, fun x H1 nx s1 ax => ?_⟩
    walk_at "kp"
    refine ⟨aW, aR, ["write", "release"], ["read", "acquire"], rfl, .inr (hW _), hR _, (by decide +kernel), (by decide +kernel), by decide, by decide, fun y H2 ny s2 ay => ?_⟩
    refine raw_bin (ax.mono s2) ay (fun r h => (norm_mem.mp h).1) (fun r h => (norm_mem.mp h).1) (Nat.le_trans (norm_len _) (by decide)) (Nat.le_trans (norm_len _) (by decide)) fun z H3 nz s3 az => ?_
    rw [usual2] at az
    walk_at "kp"
    refine raw_mkBe az fun b H4 nb s4 B4 => ?_
    exact q b H4 (s1.free (s2.free (s3.free nb))) (s1.trans (s2.trans (s3.trans s4))) B4
abbrev sRel : Stmt := inClass (topS 36) 3
theorem scRel : FnScope ["kept"] [] (defScope sRel) := ⟨rfl, rfl, rfl, by decide +kernel, rfl, by decide +kernel, by decide +kernel⟩
theorem ok_rel {CP C : Addr} (At : SmAt K mg "Book" "relaxed" "Book.relaxed" sRel []) (GK : GlT K mg "KINDS" kindsV) (OselfF : PySem.W.selfFirst K CP = true) (Oor : OkM P w K mg base CX0 5 CP "__or__" ["self", "other"] (spBin CP (· ++ ·)))
    (Oprod : OkS P w K mg base CX0 4 "Pairs" "product" ["firsts", "seconds"] (spProd K CP)) (OB : BMk P w K mg base 6 CP C) : OkS P w K mg base CX0 8 "Book" "relaxed" [] (spUsual K CP C (someP 3 0) true false) := At.ok fun f fd F => by
  obtain ⟨aK, gK, hK⟩ := GK
  refine F.ok scRel (fun vs H Q E h => ?_) (fun cdv A outer s H vs Q E hr h => ?_)
  · obtain ⟨rfl, _⟩ := h
    rfl
  · obtain ⟨rfl, q⟩ := h
    refine ⟨_, (pss_cons (ps_set (i := 0) scRel.nd rfl (.inl rfl) (pe_op (op_binM (op := .BitOr) OselfF Oor (hr.mono (by decide))) (pe_sm Oprod (hr.mono (by decide)) (pa_cons (pe_tup (pa_cons pe_str pa_nil)) (pa_cons (pe_glob (v := .ref aK) (by rfl) gK (by rfl)) pa_nil))) (pe_sm Oprod (hr.mono (by decide)) (pa_cons (pe_glob (v := .ref aK) (by rfl) gK (by rfl)) (pa_cons (pe_tup (pa_cons pe_str pa_nil)) pa_nil)))))
      (pss_one (ps_ret (pe_makeBec OB (hr.mono (by decide)) (pa_cons (pv 0) pa_nil) (pk_cons pe_bl (pk_cons pe_bl pk_nil)))))), ?_⟩
    walk_at "kp"
    intro t1 H0 nt1 s0 et1
    walk_at "kp"
    refine ⟨t1, aK, ["acquire"], kinds, rfl, .inr (st_of et1), hK _, (by decide +kernel), (by decide +kernel), by decide, by decide, fun x H1 nx s1 ax => ?_⟩
    walk_at "kp"
    intro t2 H2 nt2 s2 et2
    walk_at "kp"
    refine ⟨aK, t2, kinds, ["release"], rfl, .inr (hK _), st_of et2, (by decide +kernel), (by decide +kernel), by decide, by decide, fun y H3 ny s3 ay => ?_⟩
    refine raw_bin (ax.mono (s2.trans s3)) ay (fun r h => (norm_mem.mp h).1) (fun r h => (norm_mem.mp h).1) (Nat.le_trans (norm_len _) (by decide)) (Nat.le_trans (norm_len _) (by decide)) fun z H4 nz s4 az => ?_
    rw [usual3] at az
    walk_at "kp"
    refine raw_mkBec az fun b H5 nb s5 B5 => ?_
    exact q b H5 (s0.free (s1.free (s2.free (s3.free (s4.free nb))))) (s0.trans (s1.trans (s2.trans (s3.trans (s4.trans s5))))) B5

/-! ### what a book answers -/
def spNames (K : PySem.W.Frag) (CP C : Addr) : Sp := fun vs H Q _ => ∃ b ps e c, vs = [.ref b] ∧ BookAt K CP C H b ps e c ∧ ∀ t, H t = some (.tup [.str "full"]) → Q (.ref t) H
abbrev sNames : Stmt := inClass (topS 36) 4
theorem scNames : FnScope ["self"] ["self"] (defScope sNames) := ⟨rfl, rfl, rfl, by decide +kernel, rfl, by decide +kernel, by decide +kernel⟩
theorem ok_names {CP C f : Addr} {fd : FuncData} (F : Fun K "names" "Book.names" sNames f fd) (T : BookCl K mg C) : FnOk P w K mg base CX0 1 f fd ["self"] (spNames K CP C) := by
  refine F.ok scNames (fun vs H Q E h => ?_) (fun cdv A outer s H vs Q E hr h => ?_)
  · obtain ⟨b, ps, e, c, rfl, _⟩ := h
    rfl
  · obtain ⟨b, ps, e, c, rfl, BA, q⟩ := h
    obtain ⟨dx, fd, fp, nt, kp, fs, h1, h2, h3, h4, h5, h6, m1, m2, m3, m4, z, h7, h8, h9, h10⟩ := BA.ex
    refine ⟨_, (pss_one (ps_ret (pe_fldK K rfl (pv 0) rfl))), ?_⟩
    walk_at "kp"
    refine raw_fld h1 T.cl T.nN h3 ?_
    exact q nt h9
def spCN (K : PySem.W.Frag) (CP C : Addr) : Sp := fun vs H Q _ => ∃ b t ps e c, vs = [.ref b, .ref t] ∧ BookAt K CP C H b ps e c ∧ SqT K H t [] ∧ Q .non H
abbrev sCN : Stmt := inClass (topS 36) 11
theorem scCN : FnScope ["self", "fences", "name"] ["self", "fences"] (defScope sCN) := ⟨rfl, rfl, rfl, by decide +kernel, rfl, by decide +kernel, by decide +kernel⟩
theorem ok_cn {CP C : Addr} (At : MAt K C "_check_names" "Book._check_names" sCN ["self", "fences"]) : OkM P w K mg base CX0 1 C "_check_names" ["self", "fences"] (spCN K CP C) := At.ok fun f fd F => by
  refine F.ok scCN (fun vs H Q E h => ?_) (fun cdv A outer s H vs Q E hr h => ?_)
  · obtain ⟨b, t, ps, e, c, rfl, _⟩ := h
    rfl
  · obtain ⟨b, t, ps, e, c, rfl, BA, hT, q⟩ := h
    refine ⟨_, (pss_one (ps_for PassesOwn.never rfl (pi_tup (pv 1)) (pg_name (i := 2) scCN.nd rfl (.inl rfl))
        pss_never)), ?_⟩
    walk_at "kp"
    refine raw_ft hT (fun i σ H' => i = 0 ∧ H' = H) ⟨rfl, rfl⟩ (fun i σ H' _ ⟨_, e⟩ => by rw [e]; exact hT) (fun i x σ H' hx _ => by simp at hx) ?_
    rintro σ H' ⟨_, rfl⟩
    exact q
def spKO (K : PySem.W.Frag) (CP C : Addr) : Sp := fun vs H Q _ => ∃ b v t ps e c r, vs = [.ref b, v, .ref t] ∧ BookAt K CP C H b ps e c ∧ PairV H v r ∧ r ∈ allPairs ∧ (∀ r ∈ ps, r ∈ allPairs) ∧
  ((SqT K H t [] ∧ ∀ H', Same H H' → Q (.bl (decide (r ∈ ps))) H') ∨ ∃ full : Bool, SqL K H t (if full then [.str "full"] else []) ∧ ∀ H', Same H H' → Q (.bl (decide (r ∈ ps) || full)) H')
abbrev sKO : Stmt := inClass (topS 36) 12
theorem scKO : FnScope ["self", "pair", "between", "name"] ["self", "pair", "between"] (defScope sKO) := ⟨rfl, rfl, rfl, by decide +kernel, rfl, by decide +kernel, by decide +kernel⟩
theorem ok_ko {CP C : Addr} (At : MAt K C "_keeps_over" "Book._keeps_over" sKO ["self", "pair", "between"]) (B : Blt mg) (T : BookCl K mg C) (Ocont : OkM P w K mg base CX0 1 CP "__contains__" ["self", "x"] (spCont CP)) : OkM P w K mg base CX0 2 C "_keeps_over" ["self", "pair", "between"] (spKO K CP C) := At.ok fun f fd F => by
  refine F.ok scKO (fun vs H Q E h => ?_) (fun cdv A outer s H vs Q E hr h => ?_)
  · obtain ⟨b, v, t, ps, e, c, r, rfl, _⟩ := h
    rfl
  · obtain ⟨b, v, t, ps, e, c, r, rfl, BA, pvr, hr2, hps, h⟩ := h
    obtain ⟨dx, fd, fp, nt, kp, fs, h1, h2, h3, h4, h5, h6, m1, m2, m3, m4, z, h7, h8, h9, h10⟩ := BA.ex
    have hu := hu_of hr
    have gp := good_all r hr2
    have gps : ∀ r ∈ ps, GoodP r = true := fun r h => good_all r (hps r h)
    rcases h with ⟨hT, q⟩ | ⟨full, hL, q⟩
    · refine ⟨_, (pss_one (ps_ret (pe_or (pe_cmpR (op_inM Ocont (hr.mono (by decide))) (pv 1) (pe_fldK K rfl (pv 0) rfl) (by rfl)) (pe_one (pe_callB (cr_anyK K rfl rfl) (by rfl) B.any (by decide +kernel) (pa_cons (pe_lc (own := [("name", 3)]) (g := gName 3) (tt := tYes) rfl scKO.nd (by exact (pi_tup (pv 2))) (blkOk_by (N := ["self", "pair", "between", "name"]) (sc := (defScope sKO)) (by decide +kernel)) (fun _ _ _ _ _ => pg_name (i := 3) scKO.nd rfl (Or.inl rfl)) (fun _ _ _ _ _ => by exact pts_nil) (fun _ _ _ _ _ => by exact (pe_cmpR (op_inM Ocont (hr.mono (by decide))) (pv 1) (pe_dget hu (pe_fldK K rfl (pv 0) rfl) (pv 3) (fun _ _ => rfl)) (by rfl)))) pa_nil)))))), ?_⟩
      walk_at "kp"
      refine raw_fld h1 T.cl T.nK h4 ?_
      refine raw_in h10 pvr gps gp ?_
      refine ⟨_, rfl, ite2 (fun hm => ?_) (fun hm => ?_)⟩
      · rw [hm] at q; exact q H (Same.refl _)
      · walk_at "kp"
        refine raw_lcT hT (by decide) (fun i acc H' => acc = []) (fun i acc H H' k h => h) rfl (fun i x acc H' hx => by simp at hx) ?_
        rintro D acc H2 nD s2 eD rfl
        walk_at "kp"
        refine i_any (bs := []) (sl_of eD) ?_
        rw [Bool.not_eq_true] at hm
        rw [hm] at q
        exact q H2 s2
    · refine ⟨_, (pss_one (ps_ret (pe_or (pe_cmpR (op_inM Ocont (hr.mono (by decide))) (pv 1) (pe_fldK K rfl (pv 0) rfl) (by rfl)) (pe_one (pe_callB (cr_anyK K rfl rfl) (by rfl) B.any (by decide +kernel) (pa_cons (pe_lc (own := [("name", 3)]) (g := gName 3) (tt := tYes) rfl scKO.nd (by exact (pi_list (pv 2))) (blkOk_by (N := ["self", "pair", "between", "name"]) (sc := (defScope sKO)) (by decide +kernel)) (fun _ _ _ _ _ => pg_name (i := 3) scKO.nd rfl (Or.inl rfl)) (fun _ _ _ _ _ => by exact pts_nil) (fun _ _ _ _ _ => by exact (pe_cmpR (op_inM Ocont (hr.mono (by decide))) (pv 1) (pe_dget hu (pe_fldK K rfl (pv 0) rfl) (pv 3) (fun _ _ => rfl)) (by rfl)))) pa_nil)))))), ?_⟩
      walk_at "kp"
      refine raw_fld h1 T.cl T.nK h4 ?_
      refine raw_in h10 pvr gps gp ?_
      refine ⟨_, rfl, ite2 (fun hm => ?_) (fun hm => ?_)⟩
      · rw [hm] at q; exact q H (Same.refl _)
      · rw [Bool.not_eq_true] at hm
        rw [hm] at q
        walk_at "kp"
        cases full with
        | false =>
          refine raw_lcL hL (by decide) (fun i acc H' => acc = []) (fun i acc H H' k h => h) rfl (fun i x acc H' hx => by simp at hx) ?_
          rintro D acc H2 nD s2 eD rfl
          walk_at "kp"
          exact i_any (bs := []) (sl_of eD) (q H2 s2)
        | true =>
          refine raw_lcL hL (by exact Nat.le_of_ble_eq_true rfl) (fun i acc H' => acc = (List.replicate i true).map V.bl) (fun i acc H H' k h => h) rfl ?_ ?_
          · rintro i x acc H' hx s' rfl Y N hY hN
            match i, hx with
            | 0, hx =>
              obtain rfl := Option.some.inj hx
              refine ⟨rfl, ?_⟩
              walk_at "kp"
              refine raw_fld (s' _ _ h1) T.cl T.nF h2 ?_
              walk_at "kp"
              refine raw_dgetS (s' _ _ h7) (v := .ref fp) (by rfl) ?_
              refine raw_in (h8.mono s') (pvr.mono (Same.tk s')) good_all gp ?_
              rw [decide_eq_true hr2]
              exact hY _ H' (Same.refl _) rfl
          · rintro D acc H2 nD s2 eD rfl
            walk_at "kp"
            exact i_any (bs := [true]) (sl_of eD) (q H2 s2)

def spKeeps (K : PySem.W.Frag) (CP C aE : Addr) : Sp := fun vs H Q _ => ∃ b x y ps e c, vs = [.ref b, .str x, .str y, .ref aE] ∧ BookAt K CP C H b ps e c ∧ kindB x = true ∧ kindB y = true ∧ (∀ r ∈ ps, r ∈ allPairs) ∧ ∀ H', Same H H' → Q (.bl (decide ((x, y) ∈ ps))) H'
abbrev sKeeps : Stmt := inClass (topS 36) 5
theorem scKeeps : FnScope ["self", "first", "second", "between", "pair"] ["self", "first", "second", "between"] (defScope sKeeps) := ⟨rfl, rfl, rfl, by decide +kernel, rfl, by decide +kernel, by decide +kernel⟩
theorem ok_keeps {CP C aE f : Addr} {kws : List (Str × V)} {fd : FuncData} (F : FunD K "keeps" "Book.keeps" (defArgs sKeeps) (defBody sKeeps) (defScope sKeeps) [] kws f fd) (em : ∀ H, SqT K H aE []) (B : Blt mg) (T : BookCl K mg C) (Oip : OkF P w K mg base CX0 1 "is_pair" ["item"] spIsPair) (Ocn : OkM P w K mg base CX0 1 C "_check_names" ["self", "fences"] (spCN K CP C))
    (Oko : OkM P w K mg base CX0 2 C "_keeps_over" ["self", "pair", "between"] (spKO K CP C)) : FnOk P w K mg base CX0 3 f fd ["self", "first", "second", "between"] (spKeeps K CP C aE) := by
  have cB := T.cl
  refine F.ok scKeeps (fun vs H Q E ⟨_, _, _, _, _, _, e, _⟩ => by rw [e]; rfl) (fun cdv A outer s H vs Q E hr h => ?_)
  obtain ⟨b, x, y, ps, e, c, rfl, BA, kx, ky, hps, q⟩ := h
  have hxy : (x, y) ∈ allPairs := (all_mem (x, y)).mpr ⟨kx, ky⟩
  refine ⟨_, PSs.nox (pss_cons (ps_set (i := 4) scKeeps.nd rfl (.inl rfl) (pe_tup (pa_cons (pv 1) (pa_cons (pv 2) pa_nil))))
      (pss_cons (ps_if (pt_not (pt_val (pe_callO Oip (hr.mono (by decide)) (pa_cons (pv 4) pa_nil))))
        (pss_one ps_never) pss_nil)
      (pss_cons (ps_expr (pe_methO Ocn cB (hr.mono (by decide)) (pv 0) (pa_cons (pv 3) pa_nil)))
      (pss_one (ps_ret (pe_methO Oko cB (hr.mono (by decide)) (pv 0) (pa_cons (pv 4) (pa_cons (pv 3) pa_nil)))))))), ?_⟩
  walk_at "kp"
  intro t H1 nt s1 et
  walk_at "kp"
  refine ⟨t, x, y, rfl, et, ?_⟩
  rw [kx, ky]
  walk_at "kp"
  refine ite_no rfl ?_
  have BA1 := BA.mono s1
  obtain ⟨dx, fd, fp, nt2, kp, fs, h1, h2, h3, h4, h5, h6, m1, m2, m3, m4, z, h7, h8, h9, h10⟩ := BA1.ex
  walk_at "kp"
  refine raw_meth h1 m3 ?_
  walk_at "kp"
  refine ⟨b, aE, ps, e, c, rfl, BA1, em _, ?_⟩
  walk_at "kp"
  refine raw_meth h1 m4 ?_
  walk_at "kp"
  exact ⟨b, .ref t, aE, ps, e, c, (x, y), rfl, BA1, ⟨t, rfl, et⟩, hxy, hps, .inl ⟨em _, fun H' s' => q H' (s1.trans s')⟩⟩
/-! ### fences among instructions -/
def spFI (K : PySem.W.Frag) : Sp := fun vs H Q _ => ∃ t, vs = [.ref t] ∧ ((SqL K H t [] ∧ ∀ l H', H l = none → Same H H' → H' l = some (.lst []) → Q (.ref l) H') ∨ ∃ a, SqL K H t [.ref a] ∧ H a = some (.tup [.str "full"]) ∧ ∀ l H', H l = none → Same H H' → H' l = some (.lst [.str "full"]) → Q (.ref l) H')
abbrev sFI : Stmt := topS 24
theorem scFI : FnScope ["instructions", "instruction"] ["instructions"] (defScope sFI) := ⟨rfl, rfl, rfl, by decide +kernel, rfl, by decide +kernel, by decide +kernel⟩
theorem ok_fi (At : FnAt K mg "fences_in" sFI ["instructions"]) (B : Blt mg) : OkF P w K mg base CX0 1 "fences_in" ["instructions"] (spFI K) := At.ok fun f fd F => by
  refine F.ok scFI (fun vs H Q E h => ?_) (fun cdv A outer s H vs Q E hr h => ?_)
  · obtain ⟨t, rfl, _⟩ := h
    rfl
  · obtain ⟨t, rfl, h⟩ := h
    refine ⟨_, (pss_one (ps_ret (pe_lc (own := [("instruction", 1)]) (g := gName 1) rfl scFI.nd (by exact (pi_list (pv 0))) (blkOk_by (N := ["instructions", "instruction"]) (sc := (defScope sFI)) (by decide +kernel)) (fun _ _ _ _ _ => pg_name (i := 1) scFI.nd rfl (Or.inl rfl)) (fun _ _ _ _ _ => by exact (pts_one (pt_cmpR op_eq (pe_callB (call_lenTK K rfl) (by rfl) B.len (by decide +kernel) (pa_cons (pv 1) pa_nil)) pe_int (nomark _)))) (fun _ _ _ _ _ => by exact (pe_ix (ix_tupK K rfl) (pv 1) pe_int (fun _ _ => rfl)))))), ?_⟩
    rcases h with ⟨hT, q⟩ | ⟨a, hT, ea, q⟩
    · walk_at "kp"
      refine raw_lcL hT (by decide) (fun i acc H' => acc = []) (fun i acc H H' k h => h) rfl (fun i x acc H' hx => by simp at hx) ?_
      rintro D acc H2 nD s2 eD rfl
      exact q D H2 nD s2 eD
    · walk_at "kp"
      refine raw_lcL hT (by exact Nat.le_of_ble_eq_true rfl) (fun i acc H' => acc = List.replicate i (.str "full")) (fun i acc H H' k h => h) rfl ?_ ?_
      · rintro i x acc H' hx s' rfl Y N hY hN
        match i, hx with
        | 0, hx =>
          obtain rfl := Option.some.inj hx
          have ea' := s' _ _ ea
          refine ⟨rfl, ?_⟩
          walk_at "kp"
          refine ite_ok rfl ?_
          walk_at "kp"
          refine i_ixT (st_of ea') (atI_nat (j := 0) rfl) ?_
          exact hY _ H' (Same.refl _) rfl
      · rintro D acc H2 nD s2 eD rfl
        exact q D H2 nD s2 eD
/-! ### the order of two accesses -/
def spOrd (K : PySem.W.Frag) (CP C : Addr) : Sp := fun vs H Q _ => ∃ (b t a1 a2 : Addr) (x y : Str) (c1 c2 : Int) (r1 r2 : List V) (mid : Option Addr) (ps : List Pr) (e c : Bool), vs = [.ref b, .ref t, .int 0, .int (if mid.isSome then 2 else 1)] ∧ BookAt K CP C H b ps e c ∧
  SqL K H t (.ref a1 :: (mid.toList.map V.ref ++ [.ref a2])) ∧ H a1 = some (.tup (.str x :: .int c1 :: r1)) ∧ H a2 = some (.tup (.str y :: .int c2 :: r2)) ∧ (∀ m, mid = some m → H m = some (.tup [.str "full"])) ∧ kindB x = true ∧ kindB y = true ∧ (∀ r ∈ ps, r ∈ allPairs) ∧ (mid = none → c1 ≠ c2) ∧
  ∀ H', Same H H' → Q (.bl (decide ((x, y) ∈ ps) || mid.isSome)) H'
abbrev sOrd : Stmt := inClass (topS 36) 6
theorem scOrd : FnScope ["self", "thread", "first", "second", "ahead", "behind", "stand", "between", "name"] ["self", "thread", "first", "second"] (defScope sOrd) := ⟨rfl, rfl, rfl, by decide +kernel, rfl, by decide +kernel, by decide +kernel⟩
theorem ok_ord {CP C : Addr} (At : MAt K C "ordered" "Book.ordered" sOrd ["self", "thread", "first", "second"]) (B : Blt mg) (T : BookCl K mg C) (Ofi : OkF P w K mg base CX0 1 "fences_in" ["instructions"] (spFI K)) (Oko : OkM P w K mg base CX0 2 C "_keeps_over" ["self", "pair", "between"] (spKO K CP C)) : OkM P w K mg base CX0 3 C "ordered" ["self", "thread", "first", "second"] (spOrd K CP C) := At.ok fun f fd F => by
  have cB := T.cl
  refine F.ok scOrd (fun vs H Q E h => ?_) (fun cdv A outer s H vs Q E hr h => ?_)
  · obtain ⟨b, t, a1, a2, x, y, c1, c2, r1, r2, mid, ps, e, c, rfl, _⟩ := h
    rfl
  · obtain ⟨b, t, a1, a2, x, y, c1, c2, r1, r2, mid, ps, e, c, rfl, BA, hS, e1, e2, em, kx, ky, hps, hc, q⟩ := h
    refine ⟨_, (pss_cons (ps_par (i := 4) (j := 5) rfl scOrd.nd rfl rfl (by decide) rfl rfl (pa_cons (pe_ix (ix_listK K rfl) (pv 1) (pv 2) (fun _ _ => rfl)) (pa_cons (pe_ix (ix_listK K rfl) (pv 1) (pv 3) (fun _ _ => rfl)) pa_nil)) rfl)
      (pss_cons (ps_set (i := 6) scOrd.nd rfl (.inr rfl) (pe_callO Ofi (hr.mono (by decide)) (pa_cons (pe_slice (sl_listK K rfl) (pv 1) (po_some (pe_op op_add (pv 2) pe_int)) (po_some (pv 3))) pa_nil)))
      (pss_cons (ps_setLc (i := 7) (own := [("name", 8)]) (g := gName 8) rfl scOrd.nd rfl rfl (sw_true rfl rfl rfl (by decide +kernel)) (by exact (pi_tup (pe_fldK K rfl (pv 0) rfl))) (blkOk_by (N := ["self", "thread", "first", "second", "ahead", "behind", "stand", "between", "name"]) (sc := (defScope sOrd)) (by decide +kernel)) (fun _ _ _ _ _ => pg_name (i := 8) scOrd.nd rfl (Or.inl rfl)) (fun _ _ _ _ _ => by exact (pts_one (pt_cmpR (op_in_seqK K rfl) (pv 8) (pv 6) (by rfl)))) (fun _ _ _ _ _ => by exact (pv 8)))
      (pss_cons (ps_if (pt_val (pe_methO Oko cB (hr.mono (by decide)) (pv 0) (pa_cons (pe_tup (pa_cons (pe_ix (ix_tupK K rfl) (pv 4) pe_int (fun _ _ => rfl)) (pa_cons (pe_ix (ix_tupK K rfl) (pv 5) pe_int (fun _ _ => rfl)) pa_nil))) (pa_cons (pv 7) pa_nil))))
        (pss_one (ps_ret pe_bl)) pss_nil)
      (pss_one (ps_ret (pe_and (pe_cmpR op_eq (pe_ix (ix_tupK K rfl) (pv 4) pe_int (fun _ _ => rfl)) (pe_ix (ix_tupK K rfl) (pv 5) pe_int (fun _ _ => rfl)) (nomark _)) (pe_one pe_never)))))))), ?_⟩
    cases mid with
    | none =>
      walk_at "kp"
      refine i_ixL (xs := [.ref a1, .ref a2]) hS (atI_nat (j := 0) rfl) ?_
      walk_at "kp"
      refine i_ixL (xs := [.ref a1, .ref a2]) hS (atI_nat (j := 1) rfl) ?_
      walk_at "kp"
      refine raw_slX (xs := [.ref a1, .ref a2]) (ys := []) hS (by rfl) fun sl H1 nsl s1 esl => ?_
      walk_at "kp"
      refine ⟨sl, rfl, .inl ⟨sl_of esl, fun l H2 nl s2 el => ?_⟩⟩
      have s12 := s1.trans s2
      have BA2 := BA.mono s12
      have e1' := s12 _ _ e1
      have e2' := s12 _ _ e2
      obtain ⟨dx, fd, fp, nt2, kp, fs, h1, h2, h3, h4, h5, h6, m1, m2, m3, m4, z, h7, h8, h9, h10⟩ := BA2.ex
      walk_at "kp"
      refine raw_fld h1 T.cl T.nN h3 ?_
      refine raw_lcT (st_of h9) (by exact Nat.le_of_ble_eq_true rfl) (fun i acc H' => acc = []) (fun i acc H H' k h => h) rfl ?_ ?_
      · rintro i x' acc H' hx s' rfl Y N hY hN
        match i, hx with
        | 0, hx =>
          obtain rfl := Option.some.inj hx
          refine ⟨rfl, ?_⟩
          walk_at "kp"
          refine i_inStrs (l := []) (sl_of (s' _ _ el)) ?_
          walk_at "kp"
          exact hN H' (Same.refl _) rfl
      · rintro D acc H3 nD s3 eD rfl
        have BA3 := BA2.mono s3
        have g1 := s3 _ _ e1'
        have g2 := s3 _ _ e2'
        have k1 := s3 _ _ h1
        walk_at "kp"
        refine raw_meth k1 m4 ?_
        walk_at "kp"
        refine i_ixT (st_of g1) (atI_nat (j := 0) rfl) ?_
        walk_at "kp"
        refine i_ixT (st_of g2) (atI_nat (j := 0) rfl) ?_
        walk_at "kp"
        intro tp H4 ntp s4 etp
        have f1 := s4 _ _ g1
        have f2 := s4 _ _ g2
        walk_at "kp"
        refine ⟨b, .ref tp, D, ps, e, c, (x, y), rfl, BA3.mono s4, ⟨tp, rfl, etp⟩, (all_mem (x, y)).mpr ⟨kx, ky⟩, hps, .inr ⟨false, sl_of (s4 _ _ eD), fun H5 s5 => ?_⟩⟩
        have s05 : Same H H5 := s12.trans (s3.trans (s4.trans s5))
        have q5 := q H5 s05
        walk_at "kp"
        cases hm : decide ((x, y) ∈ ps) with
        | true =>
          refine ite_ok (by simp) ?_
          walk_at "kp"
          rw [hm] at q5
          exact q5
        | false =>
          refine ite_no (by simp) ?_
          walk_at "kp"
          refine i_ixT (st_of (s5 _ _ f1)) (atI_nat (j := 1) rfl) ?_
          walk_at "kp"
          refine i_ixT (st_of (s5 _ _ f2)) (atI_nat (j := 1) rfl) ?_
          walk_at "kp"
          refine ite_no (decide_eq_false (hc rfl)) ?_
          rw [hm] at q5
          exact q5
    | some m =>
      walk_at "kp"
      refine i_ixL (xs := [.ref a1, .ref m, .ref a2]) hS (atI_nat (j := 0) rfl) ?_
      walk_at "kp"
      refine i_ixL (xs := [.ref a1, .ref m, .ref a2]) hS (atI_nat (j := 2) rfl) ?_
      walk_at "kp"
      refine raw_slX (xs := [.ref a1, .ref m, .ref a2]) (ys := [.ref m]) hS (by rfl) fun sl H1 nsl s1 esl => ?_
      walk_at "kp"
      refine ⟨sl, rfl, .inr ⟨m, sl_of esl, s1 _ _ (em m rfl), fun l H2 nl s2 el => ?_⟩⟩
      have s12 := s1.trans s2
      have BA2 := BA.mono s12
      have e1' := s12 _ _ e1
      have e2' := s12 _ _ e2
      obtain ⟨dx, fd, fp, nt2, kp, fs, h1, h2, h3, h4, h5, h6, m1, m2, m3, m4, z, h7, h8, h9, h10⟩ := BA2.ex
      walk_at "kp"
      refine raw_fld h1 T.cl T.nN h3 ?_
      refine raw_lcT (st_of h9) (by exact Nat.le_of_ble_eq_true rfl) (fun i acc H' => acc = List.replicate i (.str "full")) (fun i acc H H' k h => h) rfl ?_ ?_
      · rintro i x' acc H' hx s' rfl Y N hY hN
        match i, hx with
        | 0, hx =>
          obtain rfl := Option.some.inj hx
          refine ⟨rfl, ?_⟩
          walk_at "kp"
          refine i_inStrs (l := ["full"]) (sl_of (s' _ _ el)) ?_
          walk_at "kp"
          refine ite_ok (by decide +kernel) ?_
          walk_at "kp"
          exact hY _ H' (Same.refl _) rfl
      · rintro D acc H3 nD s3 eD rfl
        have BA3 := BA2.mono s3
        have g1 := s3 _ _ e1'
        have g2 := s3 _ _ e2'
        have k1 := s3 _ _ h1
        walk_at "kp"
        refine raw_meth k1 m4 ?_
        walk_at "kp"
        refine i_ixT (st_of g1) (atI_nat (j := 0) rfl) ?_
        walk_at "kp"
        refine i_ixT (st_of g2) (atI_nat (j := 0) rfl) ?_
        walk_at "kp"
        intro tp H4 ntp s4 etp
        have f1 := s4 _ _ g1
        have f2 := s4 _ _ g2
        walk_at "kp"
        refine ⟨b, .ref tp, D, ps, e, c, (x, y), rfl, BA3.mono s4, ⟨tp, rfl, etp⟩, (all_mem (x, y)).mpr ⟨kx, ky⟩, hps, .inr ⟨true, sl_of (s4 _ _ eD), fun H5 s5 => ?_⟩⟩
        have s05 : Same H H5 := s12.trans (s3.trans (s4.trans s5))
        have q5 := q H5 s05
        walk_at "kp"
        refine ite_ok (by simp) ?_
        walk_at "kp"
        simpa using q5

def spSame : Sp := fun vs H Q _ => ∃ a b : Bool, vs = [.bl a, .bl b] ∧ Q (.bl (decide (a = b))) H
abbrev sSame : Stmt := topS 43
theorem scSame : FnScope ["thing", "due"] ["thing", "due"] (defScope sSame) := ⟨rfl, rfl, rfl, by decide +kernel, rfl, by decide +kernel, by decide +kernel⟩
theorem ok_same (At : FnAt K mg "_law_same" sSame ["thing", "due"]) (B : Blt mg) : OkF P w K mg base CX0 1 "_law_same" ["thing", "due"] spSame := At.ok fun f fd F => by
  refine F.ok scSame (fun vs H Q E h => ?_) (fun cdv A outer s H vs Q E hr h => ?_)
  · obtain ⟨a, b, rfl, _⟩ := h
    rfl
  · obtain ⟨a, b, rfl, q⟩ := h
    refine ⟨_, (pss_one (ps_ret (pe_and (pe_callB (call_isiKK K rfl) (by rfl) B.isinstance (by decide +kernel) (pa_cons (pv 0) (pa_cons (pe_bltn (v := .ty "bool") (by rfl) B.bool (by decide +kernel) rfl) pa_nil))) (pe_one (pe_cmpR op_eq (pv 0) (pv 1) (nomark _)))))), ?_⟩
    walk_at "kp"
    exact q

def spUsu (K : PySem.W.Frag) (CP C : Addr) : Sp := fun vs H Q _ => ∃ (b : Addr) (st : Int) (e c : Bool), vs = [.ref b, .int st, .bl e, .bl c] ∧ BookAt K CP C H b (someP st 0) e c ∧ 0 ≤ st ∧ st < 8 ∧ ∀ H', Same H H' → Q (.bl true) H'
abbrev sUsu : Stmt := topS 44
theorem scUsu : FnScope ["made", "style", "early_one", "coherent_one", "due"] ["made", "style", "early_one", "coherent_one"] (defScope sUsu) := ⟨rfl, rfl, rfl, by decide +kernel, rfl, by decide +kernel, by decide +kernel⟩
theorem ok_usu {CP C : Addr} (At : FnAt K mg "_law_is_usual" sUsu ["made", "style", "early_one", "coherent_one"]) (B : Blt mg) (T : BookCl K mg C) (Osome : OkF P w K mg base CX0 3 "_law_some_pairs" ["style", "mask"] spSome) (Osame : OkF P w K mg base CX0 1 "_law_same" ["thing", "due"] spSame) (Onames : OkP P w K mg base 1 C "names" (spNames K CP C))
    (Olen : OkM P w K mg base CX0 1 CP "__len__" ["self"] (spLenT (pairsT CP))) (Oiter : OkM P w K mg base CX0 1 CP "__iter__" ["self"] (spIterT K (pairsT CP))) : OkF P w K mg base CX0 6 "_law_is_usual" ["made", "style", "early_one", "coherent_one"] (spUsu K CP C) := At.ok fun f fd F => by
  have cB := T.cl
  refine F.ok scUsu (fun vs H Q E h => ?_) (fun cdv A outer s H vs Q E hr h => ?_)
  · obtain ⟨b, st, e, c, rfl, _⟩ := h
    rfl
  · obtain ⟨b, st, e, c, rfl, BA, g0, g1, q⟩ := h
    refine ⟨_, (pss_cons (ps_set (i := 4) scUsu.nd rfl (.inl rfl) (pe_callO Osome (hr.mono (by decide)) (pa_cons (pv 1) (pa_cons pe_int pa_nil))))
      (pss_cons (ps_if (PW.pt (pw_or (pt_cmpR (op_neDK K rfl hr.units) (pe_propO Onames cB (hr.mono (by decide)) (pv 0)) (pe_tup (pa_cons pe_str pa_nil)) (nomark _)) (pw_or1 (pt_cmpR (op_neDK K rfl hr.units) (pe_callTy (call_listM Oiter Olen pairsT_mono (hr.mono (by decide))) (by rfl) B.list (by decide +kernel) (pa_cons (pe_fldK K rfl (pv 0) rfl) pa_nil)) (pv 4) (nomark _)))))
        (pss_one (ps_ret pe_bl)) pss_nil)
      (pss_one (ps_ret (pe_and (pe_callO Osame (hr.mono (by decide)) (pa_cons (pe_fldK K rfl (pv 0) rfl) (pa_cons (pv 2) pa_nil))) (pe_one (pe_callO Osame (hr.mono (by decide)) (pa_cons (pe_fldK K rfl (pv 0) rfl) (pa_cons (pv 3) pa_nil))))))))), ?_⟩
    walk_at "kp"
    refine ⟨st, 0, rfl, g0, g1, fun l H1 us nl s1 el pl => ?_⟩
    have BA1 := BA.mono s1
    obtain ⟨dx, fd, fp, nt, kp, fs, h1, h2, h3, h4, h5, h6, m1, m2, m3, m4, z, h7, h8, h9, h10⟩ := BA1.ex
    walk_at "kp"
    refine ⟨b, dx, fs, rfl, h1, b, someP st 0, e, c, rfl, BA1, fun t et => ?_⟩
    walk_at "kp"
    intro t2 H2 nt2 s2 et2
    walk_at "kp"
    refine i_neStrsT (ss := ["full"]) (zs := ["full"]) (st_of (s2 _ _ et)) (st_of et2) (by decide +kernel) (by decide +kernel) ?_
    walk_at "kp"
    refine ite_no (by simp) ?_
    walk_at "kp"
    refine raw_fld (s2 _ _ h1) T.cl T.nK h4 ?_
    walk_at "kp"
    refine raw_list (h10.mono s2) fun l2 H3 v3 nl2 s3 el2 pl2 => ?_
    walk_at "kp"
    have gs : ∀ r ∈ someP st 0, GoodP r = true := fun r h => good_all r (someP_mem r h)
    refine i_nePL ⟨v3, sl_of el2, pl2⟩ ⟨us, sl_of (s3 _ _ (s2 _ _ el)), pl.mono (Same.tk (s2.trans s3))⟩ gs gs ?_
    walk_at "kp"
    refine ite_no (by simp) ?_
    walk_at "kp"
    have k3 := s3 _ _ (s2 _ _ h1)
    refine raw_fld k3 T.cl T.nE h5 ?_
    walk_at "kp"
    refine ⟨e, e, rfl, ?_⟩
    walk_at "kp"
    refine ite_ok (by simp) ?_
    walk_at "kp"
    refine raw_fld k3 T.cl T.nC h6 ?_
    walk_at "kp"
    refine ⟨c, c, rfl, ?_⟩
    rw [decide_eq_true rfl]
    exact q H3 (s1.trans (s2.trans s3))
/-! ### the law -/
def spLaw (K : PySem.W.Frag) : Sp := fun vs H Q _ => ∃ (a : Addr) (ns : List Int), vs = [.ref a] ∧ SqL K H a (ns.map V.int) ∧ ns.length ≤ 63 ∧ ∀ H', Q (.bl true) H'
theorem usual2_in : ∀ x ∈ kinds, ∀ y ∈ kinds, decide ((x, y) ∈ someP 2 0) = (decide (x ∈ readsK) || !decide (y ∈ readsK)) := by decide +kernel
theorem usual3_in : ∀ x ∈ kinds, ∀ y ∈ kinds, decide ((x, y) ∈ someP 3 0) = (decide (x = "acquire") || decide (y = "release")) := by decide +kernel
abbrev sLaw : Stmt := topS 45
theorem scLaw : FnScope ["script", "draws", "first", "second", "k", "loads", "thread", "short"] ["script"] (defScope sLaw) := ⟨rfl, rfl, rfl, by decide +kernel, rfl, by decide +kernel, by decide +kernel⟩
theorem ok_law {CP C aE f : Addr} {fd : FuncData} (F : Fun K "law" "law" sLaw f fd) (B : Blt mg) (T : BookCl K mg C) (Odraws : OkF P w K mg base CX0 1 "_law_draws" ["script", "k", "count"] (spDraws K)) (Okinds : OkF P w K mg base CX0 1 "_law_kinds" [] spKinds) (Oreads : OkF P w K mg base CX0 1 "_law_reads" [] spReads) (Osame : OkF P w K mg base CX0 1 "_law_same" ["thing", "due"] spSame)
    (Ousu : OkF P w K mg base CX0 6 "_law_is_usual" ["made", "style", "early_one", "coherent_one"] (spUsu K CP C)) (Oseq : OkS P w K mg base CX0 8 "Book" "sequential" [] (spUsual K CP C (someP 1 0) false true)) (Obuf : OkS P w K mg base CX0 8 "Book" "buffered" [] (spUsual K CP C (someP 2 0) true true)) (Orel : OkS P w K mg base CX0 8 "Book" "relaxed" [] (spUsual K CP C (someP 3 0) true false))
    (Okeeps : OkMD P w K mg base 3 C "keeps" ["self", "first", "second", "between"] [.ref aE] (spKeeps K CP C aE)) (Oord : OkM P w K mg base CX0 3 C "ordered" ["self", "thread", "first", "second"] (spOrd K CP C)) : FnOk P w K mg base CX0 10 f fd ["script"] (spLaw K) := by
  have cB := T.cl
  refine F.ok scLaw (fun vs H Q E h => ?_) (fun cdv A outer s H vs Q E hr h => ?_)
  · obtain ⟨a, ns, rfl, _⟩ := h
    rfl
  · obtain ⟨a, ns, rfl, hS, hlen, q⟩ := h
    refine ⟨_, (pss_cons (ps_set (i := 1) scLaw.nd rfl (.inl rfl) (pe_callO Odraws (hr.mono (by decide)) (pa_cons (pv 0) (pa_cons pe_int (pa_cons pe_int pa_nil)))))
      (pss_cons (ps_set (i := 2) scLaw.nd rfl (.inl rfl) (pe_ix (ix_listK K rfl) (pe_callO0 Okinds (hr.mono (by decide))) (pe_op op_mod (pe_ix (ix_listK K rfl) (pv 1) pe_int (fun _ _ => rfl)) pe_int) (fun _ _ => rfl)))
      (pss_cons (ps_set (i := 3) scLaw.nd rfl (.inl rfl) (pe_ix (ix_listK K rfl) (pe_callO0 Okinds (hr.mono (by decide))) (pe_op op_mod (pe_ix (ix_listK K rfl) (pv 1) pe_int (fun _ _ => rfl)) pe_int) (fun _ _ => rfl)))
      (pss_cons (ps_for PassesOwn.never rfl (pi_range1 rfl B.range (pa_cons pe_int pa_nil)) (pg_name (i := 4) scLaw.nd rfl (.inl rfl))
        (pss_cons (ps_if (pt_not (pt_val (pe_callO Ousu (hr.mono (by decide)) (pa_cons (pe_sm0 Oseq (hr.mono (by decide))) (pa_cons pe_int (pa_cons pe_bl (pa_cons pe_bl pa_nil)))))))
        (pss_one (ps_ret pe_bl)) pss_nil)
      (pss_one (ps_if (PW.pt (pw_or (pt_not (pt_val (pe_callO Ousu (hr.mono (by decide)) (pa_cons (pe_sm0 Obuf (hr.mono (by decide))) (pa_cons pe_int (pa_cons pe_bl (pa_cons pe_bl pa_nil))))))) (pw_or1 (pt_not (pt_val (pe_callO Ousu (hr.mono (by decide)) (pa_cons (pe_sm0 Orel (hr.mono (by decide))) (pa_cons pe_int (pa_cons pe_bl (pa_cons pe_bl pa_nil))))))))))
        (pss_one (ps_ret pe_bl)) pss_nil))))
      (pss_cons (ps_set (i := 5) scLaw.nd rfl (.inl rfl) (pe_callO0 Oreads (hr.mono (by decide))))
      (Evl.pss_cut (ps_if (pt_not (pt_val (pe_callO Osame (hr.mono (by decide)) (pa_cons (pe_methD Okeeps cB (hr.mono (by decide)) (pe_sm0 Obuf (hr.mono (by decide))) (pa_cons (pv 2) (pa_cons (pv 3) pa_nil))) (pa_cons (pe_or (pe_cmpR (op_in_seqK K rfl) (pv 2) (pv 5) (by rfl)) (pe_one (pe_cmpR (op_notIn_seqK K rfl) (pv 3) (pv 5) (by rfl)))) pa_nil)))))
        (pss_one (ps_ret pe_bl)) pss_nil)
      (Evl.pss_cut (ps_if (pt_not (pt_val (pe_callO Osame (hr.mono (by decide)) (pa_cons (pe_methD Okeeps cB (hr.mono (by decide)) (pe_sm0 Orel (hr.mono (by decide))) (pa_cons (pv 2) (pa_cons (pv 3) pa_nil))) (pa_cons (pe_or (pe_cmpR op_eq (pv 2) pe_str (nomark _)) (pe_one (pe_cmpR op_eq (pv 3) pe_str (nomark _)))) pa_nil)))))
        (pss_one (ps_ret pe_bl)) pss_nil)
      (pss_cons (ps_set (i := 6) scLaw.nd rfl (.inl rfl) (pe_lst (pa_cons (pe_tup (pa_cons (pv 2) (pa_cons (pe_op op_mod (pe_ix (ix_listK K rfl) (pv 1) pe_int (fun _ _ => rfl)) pe_int) pa_nil))) (pa_cons (pe_tup (pa_cons pe_str pa_nil)) (pa_cons (pe_tup (pa_cons (pv 3) (pa_cons (pe_op op_mod (pe_op op_add (pe_ix (ix_listK K rfl) (pv 1) pe_int (fun _ _ => rfl)) pe_int) pe_int) pa_nil))) pa_nil)))))
      (Evl.pss_cut (ps_if (pt_cmpR (op_notIn_seqK K rfl) (pv 2) (pv 5) (by rfl))
        (pss_one (ps_asg (pe_tup (pa_cons (pv 2) (pa_cons (pe_op op_mod (pe_ix (ix_listK K rfl) (pv 1) pe_int (fun _ _ => rfl)) pe_int) (pa_cons pe_int pa_nil)))) (pg_sub (pv 6) pe_int set_list))) pss_nil)
      (Evl.pss_cut (ps_if (pt_cmpR (op_notIn_seqK K rfl) (pv 3) (pv 5) (by rfl))
        (pss_one (ps_asg (pe_tup (pa_cons (pv 3) (pa_cons (pe_op op_mod (pe_op op_add (pe_ix (ix_listK K rfl) (pv 1) pe_int (fun _ _ => rfl)) pe_int) pe_int) (pa_cons pe_int pa_nil)))) (pg_sub (pv 6) pe_int set_list))) pss_nil)
      (pss_cons (ps_if (pt_cmpR op_notBl (pe_methO Oord cB (hr.mono (by decide)) (pe_sm0 Orel (hr.mono (by decide))) (pa_cons (pv 6) (pa_cons pe_int (pa_cons pe_int pa_nil)))) pe_bl (nomark _))
        (pss_one (ps_ret pe_bl)) pss_nil)
      (pss_cons (ps_set (i := 7) scLaw.nd rfl (.inl rfl) (pe_lst (pa_cons (pe_ix (ix_listK K rfl) (pv 6) pe_int (fun _ _ => rfl)) (pa_cons (pe_ix (ix_listK K rfl) (pv 6) pe_int (fun _ _ => rfl)) pa_nil))))
      (pss_one (ps_ret (pe_callO Osame (hr.mono (by decide)) (pa_cons (pe_methO Oord cB (hr.mono (by decide)) (pe_sm0 Orel (hr.mono (by decide))) (pa_cons (pv 7) (pa_cons pe_int (pa_cons pe_int pa_nil)))) (pa_cons (pe_or (pe_cmpR op_eq (pv 2) pe_str (nomark _)) (pe_one (pe_cmpR op_eq (pv 3) pe_str (nomark _)))) pa_nil))))))))))))))))), ?_⟩
    walk_at "kp"
    refine ⟨a, ns, 0, 4, rfl, hS, by decide, by decide, by decide, by decide, fun ds H1 d hdl hd s1 nd ed => ?_⟩
    have hdl' : ds.length = 4 := by omega
    have lD : SqL K H1 d (ds.map V.int) := sl_of ed
    walk_at "kp"
    refine ⟨rfl, fun p1 H2 np1 s2 ep1 => ?_⟩
    walk_at "kp"
    obtain ⟨x, hx, kx⟩ := kind_get (j := nth ds (Int.toNat 0) % 4) (by omega) (by omega)
    refine i_ixL (sl_of ep1) hx ?_
    walk_at "kp"
    refine ⟨rfl, fun p2 H3 np2 s3 ep2 => ?_⟩
    walk_at "kp"
    obtain ⟨y, hy, ky⟩ := kind_get (j := nth ds (Int.toNat 1) % 4) (by omega) (by omega)
    refine i_ixL (sl_of ep2) hy ?_
    walk_at "kp"
    have hxk : x ∈ kinds := of_decide_eq_true kx
    have hyk : y ∈ kinds := of_decide_eq_true ky
    have hxy2 := usual2_in x hxk y hyk
    have hxy3 := usual3_in x hxk y hyk
    have s13 : Same H1 H3 := s2.trans s3
    refine raw_r1 (by decide) (by decide) (fun i σ H' => ∃ x4, σ = [some (.ref a), some (.ref d), some (.str x), some (.str y), x4, none, none, none] ∧ Same H1 H') ⟨_, rfl, s13⟩ ?_ ?_
    · rintro n σ H4 hn ⟨x4, rfl, sm⟩
      walk_at "kp"
      refine ⟨rfl, fun b1 H5 nb1 s5 B1 => ?_⟩
      walk_at "kp"
      refine ⟨b1, 1, false, true, rfl, B1, by decide, by decide, fun H6 s6 => ?_⟩
      walk_at "kp"
      refine ite_no rfl ?_
      walk_at "kp"
      refine ⟨rfl, fun b2 H7 nb2 s7 B2 => ?_⟩
      walk_at "kp"
      refine ⟨b2, 2, true, true, rfl, B2, by decide, by decide, fun H8 s8 => ?_⟩
      walk_at "kp"
      refine ite_no rfl ?_
      walk_at "kp"
      refine ⟨rfl, fun b3 H9 nb3 s9 B3 => ?_⟩
      walk_at "kp"
      refine ⟨b3, 3, true, false, rfl, B3, by decide, by decide, fun H10 s10 => ?_⟩
      walk_at "kp"
      refine ite_no rfl ?_
      walk_at "kp"
      exact ⟨_, rfl, sm.trans (s5.trans (s6.trans (s7.trans (s8.trans (s9.trans s10)))))⟩
    · rintro n σ H4 hn ⟨x4, rfl, sm⟩
      walk_at "kp"
      refine ⟨rfl, fun lo H5 nlo s5 elo => ?_⟩
      walk_at "kp"
      have sm5 := sm.trans s5
      refine i_cut (fun σ' H' => σ' = [some (.ref a), some (.ref d), some (.str x), some (.str y), x4, some (.ref lo), none, none] ∧ Same H5 H') ?_ ?_
      · walk_at "kp"
        refine ⟨rfl, fun b1 H6 nb1 s6 B1 => ?_⟩
        obtain ⟨dx, fd, fp, nt, kp, fs, h1, h2, h3, h4, h5, h6, m1, m2, m3, m4, z, h7, h8, h9, h10⟩ := B1.ex
        refine raw_meth h1 m1 ?_
        walk_at "kp"
        refine ⟨b1, x, y, _, _, _, rfl, B1, kx, ky, someP_mem, fun H7 s7 => ?_⟩
        rw [hxy2]
        walk_at "kp"
        have elo7 := s7 _ _ (s6 _ _ elo)
        refine i_inStrs (sl_of elo7) ?_
        refine ⟨_, rfl, ?_⟩
        cases hA : decide (x ∈ readsK) with
        | true =>
          refine ite_ok rfl ?_
          walk_at "kp"
          refine ⟨_, _, rfl, ?_⟩
          walk_at "kp"
          refine ite_no (by simp) ?_
          walk_at "kp"
          exact ⟨rfl, s6.trans s7⟩
        | false =>
          refine ite_no rfl ?_
          walk_at "kp"
          refine i_notInStrs (sl_of elo7) ?_
          walk_at "kp"
          refine ⟨_, _, rfl, ?_⟩
          walk_at "kp"
          refine ite_no (by simp) ?_
          walk_at "kp"
          exact ⟨rfl, s6.trans s7⟩
      · rintro σ' H6 ⟨rfl, s6⟩
        refine i_cut (fun σ' H' => σ' = [some (.ref a), some (.ref d), some (.str x), some (.str y), x4, some (.ref lo), none, none] ∧ Same H6 H') ?_ ?_
        · walk_at "kp"
          refine ⟨rfl, fun b1 H7 nb1 s7 B1 => ?_⟩
          obtain ⟨dx, fd, fp, nt, kp, fs, h1, h2, h3, h4, h5, h6, m1, m2, m3, m4, z, h7, h8, h9, h10⟩ := B1.ex
          refine raw_meth h1 m1 ?_
          walk_at "kp"
          refine ⟨b1, x, y, _, _, _, rfl, B1, kx, ky, someP_mem, fun H8 s8 => ?_⟩
          rw [hxy3]
          walk_at "kp"
          cases hA : decide (x = "acquire") with
          | true =>
            refine ite_ok rfl ?_
            walk_at "kp"
            refine ⟨_, _, rfl, ?_⟩
            walk_at "kp"
            refine ite_no (by simp) ?_
            walk_at "kp"
            exact ⟨rfl, s7.trans s8⟩
          | false =>
            refine ite_no rfl ?_
            walk_at "kp"
            refine ⟨_, _, rfl, ?_⟩
            walk_at "kp"
            refine ite_no (by simp) ?_
            walk_at "kp"
            exact ⟨rfl, s7.trans s8⟩
        · rintro σ' H7 ⟨rfl, s7⟩
          have sm7 := sm5.trans (s6.trans s7)
          have elo7 := s7 _ _ (s6 _ _ elo)
          walk_at "kp"
          intro u1 H8 nu1 s8 eu1
          walk_at "kp"
          intro u2 H9 nu2 s9 eu2
          walk_at "kp"
          intro u3 H10 nu3 s10 eu3
          walk_at "kp"
          intro th H11 nth11 s11 eth
          walk_at "kp"
          have sm11 := sm7.trans (s8.trans (s9.trans (s10.trans s11)))
          have elo11 := s11 _ _ (s10 _ _ (s9 _ _ (s8 _ _ elo7)))
          have eu1 := s11 _ _ (s10 _ _ (s9 _ _ eu1))
          have eu2 := s11 _ _ (s10 _ _ eu2)
          have eu3 := s11 _ _ eu3
          have eD11 := sm11 _ _ ed
          have nD : d ≠ th := fun e => by
            have z := eD11
            rw [e, eth] at z
            have z := HO.lst.inj (Option.some.inj z)
            cases ds with
            | nil => cases z
            | cons w0 _ => exact nomatch (List.cons.inj z).1
          have nL : lo ≠ th := fun e => by
            have z := elo11
            rw [e, eth] at z
            have z := HO.lst.inj (Option.some.inj z)
            exact nomatch (List.cons.inj z).1
          refine i_cut (fun σ' H' => ∃ v1 r1, σ' = [some (.ref a), some (.ref d), some (.str x), some (.str y), x4, some (.ref lo), some (.ref th), none] ∧ H' d = some (.lst (ds.map V.int)) ∧ H' lo = some (.lst (readsK.map V.str)) ∧ H' th = some (.lst [.ref v1, .ref u2, .ref u3]) ∧
            H' v1 = some (.tup (.str x :: .int (nth ds (Int.toNat 2) % 10) :: r1)) ∧ H' u2 = some (.tup [.str "full"]) ∧ H' u3 = some (.tup [.str y, .int ((nth ds (Int.toNat 2) + 1) % 10)])) ?_ ?_
          · walk_at "kp"
            refine i_notInStrs (sl_of elo11) ?_
            walk_at "kp"
            refine ite2 (fun _ => ?_) (fun _ => ⟨u1, [], rfl, eD11, elo11, eth, eu1, eu2, eu3⟩)
            walk_at "kp"
            intro v1 H12 nv1 s12 ev1
            walk_at "kp"
            have e12 := s12 _ _ eth
            refine ⟨th, _, 0, 0, rfl, rfl, e12, rfl, ?_⟩
            exact ⟨v1, [.int 5], rfl, by rw [upd_ne nD]; exact s12 _ _ eD11, by rw [upd_ne nL]; exact s12 _ _ elo11, upd_same, by rw [upd_ne (ne_of ev1 e12 fun z => nomatch z)]; exact ev1, by rw [upd_ne (ne_of (s12 _ _ eu2) e12 fun z => nomatch z)]; exact s12 _ _ eu2, by rw [upd_ne (ne_of (s12 _ _ eu3) e12 fun z => nomatch z)]; exact s12 _ _ eu3⟩
          · rintro σ' H12 ⟨v1, r1, rfl, ed12, elo12, eth12, ev1, ev2, ev3⟩
            have lD12 : SqL K H12 d (ds.map V.int) := sl_of ed12
            refine i_cut (fun σ' H' => ∃ v3 r3, σ' = [some (.ref a), some (.ref d), some (.str x), some (.str y), x4, some (.ref lo), some (.ref th), none] ∧ H' th = some (.lst [.ref v1, .ref u2, .ref v3]) ∧
              H' v1 = some (.tup (.str x :: .int (nth ds (Int.toNat 2) % 10) :: r1)) ∧ H' u2 = some (.tup [.str "full"]) ∧ H' v3 = some (.tup (.str y :: .int ((nth ds (Int.toNat 2) + 1) % 10) :: r3))) ?_ ?_
            · walk_at "kp"
              refine i_notInStrs (sl_of elo12) ?_
              walk_at "kp"
              refine ite2 (fun _ => ?_) (fun _ => ⟨u3, [], rfl, eth12, ev1, ev2, ev3⟩)
              walk_at "kp"
              intro v3 H13 nv3 s13' ev3'
              walk_at "kp"
              have e13 := s13' _ _ eth12
              refine ⟨th, _, 2, 2, rfl, rfl, e13, rfl, ?_⟩
              exact ⟨v3, [.int 6], rfl, upd_same, by rw [upd_ne (ne_of (s13' _ _ ev1) e13 fun z => nomatch z)]; exact s13' _ _ ev1, by rw [upd_ne (ne_of (s13' _ _ ev2) e13 fun z => nomatch z)]; exact s13' _ _ ev2, by rw [upd_ne (ne_of ev3' e13 fun z => nomatch z)]; exact ev3'⟩
            · rintro σ' H13 ⟨v3, r3, rfl, eth13, ew1, ew2, ew3⟩
              walk_at "kp"
              refine ⟨rfl, fun b1 H14 nb1 s14 B1 => ?_⟩
              obtain ⟨dx, fd, fp, nt, kp, fs, h1, h2, h3, h4, h5, h6, m1, m2, m3, m4, z, h7, h8, h9, h10⟩ := B1.ex
              refine raw_meth h1 m2 ?_
              walk_at "kp"
              refine ⟨b1, th, v1, v3, x, y, _, _, r1, r3, some u2, _, _, _, rfl, B1, sl_of (s14 _ _ eth13), s14 _ _ ew1, s14 _ _ ew3, (fun m hm => by cases hm; exact s14 _ _ ew2), kx, ky, someP_mem, (fun z => nomatch z), fun H15 s15 => ?_⟩
              rw [show (decide ((x, y) ∈ someP 3 0) || (some u2 : Option Addr).isSome) = true from Bool.or_true _]
              walk_at "kp"
              refine ite_no (by simp) ?_
              have eth15 := s15 _ _ (s14 _ _ eth13)
              walk_at "kp"
              refine i_ixL (sl_of eth15) (atI_nat (j := 0) rfl) ?_
              walk_at "kp"
              refine i_ixL (sl_of eth15) (atI_nat (j := 2) rfl) ?_
              walk_at "kp"
              intro sh H16 nsh s16 esh
              walk_at "kp"
              refine ⟨rfl, fun b2 H17 nb2 s17 B2 => ?_⟩
              have k17 := s14.trans (s15.trans (s16.trans s17))
              obtain ⟨dx2, fd2, fp2, nt2, kp2, fs2, g1, g2, g3, g4, g5, g6, n1, n2, n3, n4, z2, g7, g8, g9, g10⟩ := B2.ex
              refine raw_meth g1 n2 ?_
              walk_at "kp"
              refine ⟨b2, sh, v1, v3, x, y, _, _, r1, r3, none, _, _, _, rfl, B2, sl_of (s17 _ _ esh), k17 _ _ ew1, k17 _ _ ew3, (fun m hm => nomatch hm), kx, ky, someP_mem, (fun _ => by omega), fun H18 s18 => ?_⟩
              rw [show (decide ((x, y) ∈ someP 3 0) || (none : Option Addr).isSome) = (decide (x = "acquire") || decide (y = "release")) from by rw [hxy3]; exact Bool.or_false _]
              walk_at "kp"
              cases hA : decide (x = "acquire") with
              | true =>
                refine ite_ok rfl ?_
                walk_at "kp"
                refine ⟨_, _, rfl, ?_⟩
                rw [show decide ((true || decide (y = "release")) = true) = true from by simp]
                exact q H18
              | false =>
                refine ite_no rfl ?_
                walk_at "kp"
                refine ⟨_, _, rfl, ?_⟩
                rw [show decide ((false || decide (y = "release")) = decide (y = "release")) = true from by simp]
                exact q H18

end
theorem all_mk {l : PySem.W.OpenLaw} {w : World} {K : PySem.W.Frag} {h : Heap} {mg : Str → Option Value} {fa : Addr} {f_law_draws : Addr} {od_law_draws an_law_draws : Option Addr} {sl_law_draws : Array (Option Value)} {oc_law_draws kV_law_draws dc_law_draws pm_law_draws cd_law_draws ct_law_draws : Value} {f_law_kinds : Addr} {od_law_kinds an_law_kinds : Option Addr} {sl_law_kinds : Array (Option Value)} {oc_law_kinds kV_law_kinds dc_law_kinds pm_law_kinds cd_law_kinds ct_law_kinds : Value} {f_law_reads : Addr} {od_law_reads an_law_reads : Option Addr} {sl_law_reads : Array (Option Value)} {oc_law_reads kV_law_reads dc_law_reads pm_law_reads cd_law_reads ct_law_reads : Value} {f_law_all_pairs : Addr} {od_law_all_pairs an_law_all_pairs : Option Addr} {sl_law_all_pairs : Array (Option Value)} {oc_law_all_pairs kV_law_all_pairs dc_law_all_pairs pm_law_all_pairs cd_law_all_pairs ct_law_all_pairs : Value} {f_law_some_pairs : Addr} {od_law_some_pairs an_law_some_pairs : Option Addr} {sl_law_some_pairs : Array (Option Value)} {oc_law_some_pairs kV_law_some_pairs dc_law_some_pairs pm_law_some_pairs cd_law_some_pairs ct_law_some_pairs : Value} {f_law_same : Addr} {od_law_same an_law_same : Option Addr} {sl_law_same : Array (Option Value)} {oc_law_same kV_law_same dc_law_same pm_law_same cd_law_same ct_law_same : Value} {f_law_is_usual : Addr} {od_law_is_usual an_law_is_usual : Option Addr} {sl_law_is_usual : Array (Option Value)} {oc_law_is_usual kV_law_is_usual dc_law_is_usual pm_law_is_usual cd_law_is_usual ct_law_is_usual : Value} {f_is_pair : Addr} {od_is_pair an_is_pair : Option Addr} {sl_is_pair : Array (Option Value)} {oc_is_pair kV_is_pair dc_is_pair pm_is_pair cd_is_pair ct_is_pair : Value} {f_fences_in : Addr} {od_fences_in an_fences_in : Option Addr} {sl_fences_in : Array (Option Value)} {oc_fences_in kV_fences_in dc_fences_in pm_fences_in cd_fences_in ct_fences_in : Value} {f_fences_with_full : Addr} {od_fences_with_full an_fences_with_full : Option Addr} {sl_fences_with_full : Array (Option Value)} {oc_fences_with_full kV_fences_with_full dc_fences_with_full pm_fences_with_full cd_fences_with_full ct_fences_with_full : Value} {f_law : Addr} {od_law an_law : Option Addr} {sl_law : Array (Option Value)} {oc_law kV_law dc_law pm_law cd_law ct_law : Value} {q_KINDS : Addr} {o_KINDS : Obj} {its_KINDS : Array Value} {n_KINDS : Nat} {q_READS : Addr} {o_READS : Obj} {its_READS : Array Value} {n_READS : Nat} {q_WRITES : Addr} {o_WRITES : Obj} {its_WRITES : Array Value} {n_WRITES : Nat} {C_Pairs : Addr} {T_Pairs_init : Addr} {oT_Pairs_init : Obj} {nT_Pairs_init : Nat} {f_Pairs_init : Addr} {od_Pairs_init an_Pairs_init : Option Addr} {sl_Pairs_init : Array (Option Value)} {oc_Pairs_init kV_Pairs_init dc_Pairs_init pm_Pairs_init cd_Pairs_init ct_Pairs_init : Value} {aE : Addr} {oE : Obj} {nE : Nat} {f_Pairs_iter : Addr} {od_Pairs_iter an_Pairs_iter : Option Addr} {sl_Pairs_iter : Array (Option Value)} {oc_Pairs_iter kV_Pairs_iter dc_Pairs_iter pm_Pairs_iter cd_Pairs_iter ct_Pairs_iter : Value} {f_Pairs_len : Addr} {od_Pairs_len an_Pairs_len : Option Addr} {sl_Pairs_len : Array (Option Value)} {oc_Pairs_len kV_Pairs_len dc_Pairs_len pm_Pairs_len cd_Pairs_len ct_Pairs_len : Value} {f_Pairs_contains : Addr} {od_Pairs_contains an_Pairs_contains : Option Addr} {sl_Pairs_contains : Array (Option Value)} {oc_Pairs_contains kV_Pairs_contains dc_Pairs_contains pm_Pairs_contains cd_Pairs_contains ct_Pairs_contains : Value} {f_Pairs_or : Addr} {od_Pairs_or an_Pairs_or : Option Addr} {sl_Pairs_or : Array (Option Value)} {oc_Pairs_or kV_Pairs_or dc_Pairs_or pm_Pairs_or cd_Pairs_or ct_Pairs_or : Value} {f_Pairs_sub : Addr} {od_Pairs_sub an_Pairs_sub : Option Addr} {sl_Pairs_sub : Array (Option Value)} {oc_Pairs_sub kV_Pairs_sub dc_Pairs_sub pm_Pairs_sub cd_Pairs_sub ct_Pairs_sub : Value} {C_Book : Addr} {f_Book_check_names : Addr} {od_Book_check_names an_Book_check_names : Option Addr} {sl_Book_check_names : Array (Option Value)} {oc_Book_check_names kV_Book_check_names dc_Book_check_names pm_Book_check_names cd_Book_check_names ct_Book_check_names : Value} {f_Book_keeps_over : Addr} {od_Book_keeps_over an_Book_keeps_over : Option Addr} {sl_Book_keeps_over : Array (Option Value)} {oc_Book_keeps_over kV_Book_keeps_over dc_Book_keeps_over pm_Book_keeps_over cd_Book_keeps_over ct_Book_keeps_over : Value} {f_Book_ordered : Addr} {od_Book_ordered an_Book_ordered : Option Addr} {sl_Book_ordered : Array (Option Value)} {oc_Book_ordered kV_Book_ordered dc_Book_ordered pm_Book_ordered cd_Book_ordered ct_Book_ordered : Value} {q_Sm : Addr} {rest_Sm : List Value} {f_prod : Addr} {od_prod an_prod : Option Addr} {sl_prod : Array (Option Value)} {oc_prod kV_prod dc_prod pm_prod cd_prod ct_prod : Value} {tF : Tok} {q_names : Addr} {rest_names : List Value} {f_names : Addr} {od_names an_names : Option Addr} {sl_names : Array (Option Value)} {oc_names kV_names dc_names pm_names cd_names ct_names : Value} {D_BI : Addr} {f_BI : Addr} {od_BI an_BI : Option Addr} {sl_BI : Array (Option Value)} {oc_BI dc_BI pm_BI cd_BI ct_BI : Value} {D_KE : Addr} {aBt : Addr} {oBt : Obj} {nBt : Nat} {f_KE : Addr} {od_KE an_KE : Option Addr} {sl_KE : Array (Option Value)} {oc_KE dc_KE pm_KE cd_KE ct_KE : Value} {q_seq : Addr} {rest_seq : List Value} {f_seq : Addr} {od_seq an_seq : Option Addr} {sl_seq : Array (Option Value)} {oc_seq kV_seq dc_seq pm_seq cd_seq ct_seq : Value} {q_buf : Addr} {rest_buf : List Value} {f_buf : Addr} {od_buf an_buf : Option Addr} {sl_buf : Array (Option Value)} {oc_buf kV_buf dc_buf pm_buf cd_buf ct_buf : Value} {q_rel : Addr} {rest_rel : List Value} {f_rel : Addr} {od_rel an_rel : Option Addr} {sl_rel : Array (Option Value)} {oc_rel kV_rel dc_rel pm_rel cd_rel ct_rel : Value}
    (X : K.In h) (G : h.Ns mainGlobals mg) (hfa : mg "law" = some (.ref fa))
    (z_len : PySem.W.nsIn K mainGlobals "len" = some none)
    (z_int : PySem.W.nsIn K mainGlobals "int" = some none)
    (z_abs : PySem.W.nsIn K mainGlobals "abs" = some none)
    (z_range : PySem.W.nsIn K mainGlobals "range" = some none)
    (z_list : PySem.W.nsIn K mainGlobals "list" = some none)
    (z_tuple : PySem.W.nsIn K mainGlobals "tuple" = some none)
    (z_isinstance : PySem.W.nsIn K mainGlobals "isinstance" = some none)
    (z_iter : PySem.W.nsIn K mainGlobals "iter" = some none)
    (z_all : PySem.W.nsIn K mainGlobals "all" = some none)
    (z_any : PySem.W.nsIn K mainGlobals "any" = some none)
    (z_bool : PySem.W.nsIn K mainGlobals "bool" = some none)
    (z_str : PySem.W.nsIn K mainGlobals "str" = some none)
    (z_sorted : PySem.W.nsIn K mainGlobals "sorted" = some none)
    (z_ValueError : PySem.W.nsIn K mainGlobals "ValueError" = some none)
    (z_dict : PySem.W.nsIn K mainGlobals "dict" = some none)
    (z_enumerate : PySem.W.nsIn K mainGlobals "enumerate" = some none)
    (z_set : PySem.W.nsIn K mainGlobals "set" = some none)
    (a_law_draws : PySem.W.nsIn K mainGlobals "_law_draws" = some (some (.ref f_law_draws)))
    (l_law_draws : K.lookup f_law_draws = some ⟨oc_law_draws, od_law_draws, .func (PySem.W.fnOf "_law_draws" "_law_draws" (defArgs sDraws) (defBody sDraws) (defScope sDraws) .none kV_law_draws dc_law_draws pm_law_draws an_law_draws cd_law_draws ct_law_draws), sl_law_draws⟩)
    (c_law_draws : PySem.W.codeIn K cd_law_draws "_law_draws" = true)
    (k_law_draws : PySem.W.keepIn K (.ref f_law_draws) = true)
    (a_law_kinds : PySem.W.nsIn K mainGlobals "_law_kinds" = some (some (.ref f_law_kinds)))
    (l_law_kinds : K.lookup f_law_kinds = some ⟨oc_law_kinds, od_law_kinds, .func (PySem.W.fnOf "_law_kinds" "_law_kinds" (defArgs sKinds) (defBody sKinds) (defScope sKinds) .none kV_law_kinds dc_law_kinds pm_law_kinds an_law_kinds cd_law_kinds ct_law_kinds), sl_law_kinds⟩)
    (c_law_kinds : PySem.W.codeIn K cd_law_kinds "_law_kinds" = true)
    (k_law_kinds : PySem.W.keepIn K (.ref f_law_kinds) = true)
    (a_law_reads : PySem.W.nsIn K mainGlobals "_law_reads" = some (some (.ref f_law_reads)))
    (l_law_reads : K.lookup f_law_reads = some ⟨oc_law_reads, od_law_reads, .func (PySem.W.fnOf "_law_reads" "_law_reads" (defArgs sReads) (defBody sReads) (defScope sReads) .none kV_law_reads dc_law_reads pm_law_reads an_law_reads cd_law_reads ct_law_reads), sl_law_reads⟩)
    (c_law_reads : PySem.W.codeIn K cd_law_reads "_law_reads" = true)
    (k_law_reads : PySem.W.keepIn K (.ref f_law_reads) = true)
    (a_law_all_pairs : PySem.W.nsIn K mainGlobals "_law_all_pairs" = some (some (.ref f_law_all_pairs)))
    (l_law_all_pairs : K.lookup f_law_all_pairs = some ⟨oc_law_all_pairs, od_law_all_pairs, .func (PySem.W.fnOf "_law_all_pairs" "_law_all_pairs" (defArgs sAll) (defBody sAll) (defScope sAll) .none kV_law_all_pairs dc_law_all_pairs pm_law_all_pairs an_law_all_pairs cd_law_all_pairs ct_law_all_pairs), sl_law_all_pairs⟩)
    (c_law_all_pairs : PySem.W.codeIn K cd_law_all_pairs "_law_all_pairs" = true)
    (k_law_all_pairs : PySem.W.keepIn K (.ref f_law_all_pairs) = true)
    (a_law_some_pairs : PySem.W.nsIn K mainGlobals "_law_some_pairs" = some (some (.ref f_law_some_pairs)))
    (l_law_some_pairs : K.lookup f_law_some_pairs = some ⟨oc_law_some_pairs, od_law_some_pairs, .func (PySem.W.fnOf "_law_some_pairs" "_law_some_pairs" (defArgs sSome) (defBody sSome) (defScope sSome) .none kV_law_some_pairs dc_law_some_pairs pm_law_some_pairs an_law_some_pairs cd_law_some_pairs ct_law_some_pairs), sl_law_some_pairs⟩)
    (c_law_some_pairs : PySem.W.codeIn K cd_law_some_pairs "_law_some_pairs" = true)
    (k_law_some_pairs : PySem.W.keepIn K (.ref f_law_some_pairs) = true)
    (a_law_same : PySem.W.nsIn K mainGlobals "_law_same" = some (some (.ref f_law_same)))
    (l_law_same : K.lookup f_law_same = some ⟨oc_law_same, od_law_same, .func (PySem.W.fnOf "_law_same" "_law_same" (defArgs sSame) (defBody sSame) (defScope sSame) .none kV_law_same dc_law_same pm_law_same an_law_same cd_law_same ct_law_same), sl_law_same⟩)
    (c_law_same : PySem.W.codeIn K cd_law_same "_law_same" = true)
    (k_law_same : PySem.W.keepIn K (.ref f_law_same) = true)
    (a_law_is_usual : PySem.W.nsIn K mainGlobals "_law_is_usual" = some (some (.ref f_law_is_usual)))
    (l_law_is_usual : K.lookup f_law_is_usual = some ⟨oc_law_is_usual, od_law_is_usual, .func (PySem.W.fnOf "_law_is_usual" "_law_is_usual" (defArgs sUsu) (defBody sUsu) (defScope sUsu) .none kV_law_is_usual dc_law_is_usual pm_law_is_usual an_law_is_usual cd_law_is_usual ct_law_is_usual), sl_law_is_usual⟩)
    (c_law_is_usual : PySem.W.codeIn K cd_law_is_usual "_law_is_usual" = true)
    (k_law_is_usual : PySem.W.keepIn K (.ref f_law_is_usual) = true)
    (a_is_pair : PySem.W.nsIn K mainGlobals "is_pair" = some (some (.ref f_is_pair)))
    (l_is_pair : K.lookup f_is_pair = some ⟨oc_is_pair, od_is_pair, .func (PySem.W.fnOf "is_pair" "is_pair" (defArgs sIsPair) (defBody sIsPair) (defScope sIsPair) .none kV_is_pair dc_is_pair pm_is_pair an_is_pair cd_is_pair ct_is_pair), sl_is_pair⟩)
    (c_is_pair : PySem.W.codeIn K cd_is_pair "is_pair" = true)
    (k_is_pair : PySem.W.keepIn K (.ref f_is_pair) = true)
    (a_fences_in : PySem.W.nsIn K mainGlobals "fences_in" = some (some (.ref f_fences_in)))
    (l_fences_in : K.lookup f_fences_in = some ⟨oc_fences_in, od_fences_in, .func (PySem.W.fnOf "fences_in" "fences_in" (defArgs sFI) (defBody sFI) (defScope sFI) .none kV_fences_in dc_fences_in pm_fences_in an_fences_in cd_fences_in ct_fences_in), sl_fences_in⟩)
    (c_fences_in : PySem.W.codeIn K cd_fences_in "fences_in" = true)
    (k_fences_in : PySem.W.keepIn K (.ref f_fences_in) = true)
    (a_fences_with_full : PySem.W.nsIn K mainGlobals "_fences_with_full" = some (some (.ref f_fences_with_full)))
    (l_fences_with_full : K.lookup f_fences_with_full = some ⟨oc_fences_with_full, od_fences_with_full, .func (PySem.W.fnOf "_fences_with_full" "_fences_with_full" (defArgs sFW) (defBody sFW) (defScope sFW) .none kV_fences_with_full dc_fences_with_full pm_fences_with_full an_fences_with_full cd_fences_with_full ct_fences_with_full), sl_fences_with_full⟩)
    (c_fences_with_full : PySem.W.codeIn K cd_fences_with_full "_fences_with_full" = true)
    (k_fences_with_full : PySem.W.keepIn K (.ref f_fences_with_full) = true)
    (a_law : PySem.W.nsIn K mainGlobals "law" = some (some (.ref f_law)))
    (l_law : K.lookup f_law = some ⟨oc_law, od_law, .func (PySem.W.fnOf "law" "law" (defArgs sLaw) (defBody sLaw) (defScope sLaw) .none kV_law dc_law pm_law an_law cd_law ct_law), sl_law⟩)
    (c_law : PySem.W.codeIn K cd_law "law" = true)
    (k_law : PySem.W.keepIn K (.ref f_law) = true)
    (a_KINDS : PySem.W.nsIn K mainGlobals "KINDS" = some (some (.ref q_KINDS)))
    (l_KINDS : K.lookup q_KINDS = some o_KINDS)
    (y_KINDS : o_KINDS.cls = .type "tuple")
    (d_KINDS : o_KINDS.data = .seq its_KINDS n_KINDS)
    (s_KINDS : its_KINDS.size ≤ sizeLine)
    (v_KINDS : Vals kindsV its_KINDS.toList)
    (a_READS : PySem.W.nsIn K mainGlobals "READS" = some (some (.ref q_READS)))
    (l_READS : K.lookup q_READS = some o_READS)
    (y_READS : o_READS.cls = .type "tuple")
    (d_READS : o_READS.data = .seq its_READS n_READS)
    (s_READS : its_READS.size ≤ sizeLine)
    (v_READS : Vals (List.map V.str ["read", "acquire"]) its_READS.toList)
    (a_WRITES : PySem.W.nsIn K mainGlobals "WRITES" = some (some (.ref q_WRITES)))
    (l_WRITES : K.lookup q_WRITES = some o_WRITES)
    (y_WRITES : o_WRITES.cls = .type "tuple")
    (d_WRITES : o_WRITES.data = .seq its_WRITES n_WRITES)
    (s_WRITES : its_WRITES.size ≤ sizeLine)
    (v_WRITES : Vals (List.map V.str ["write", "release"]) its_WRITES.toList)
    (a_Pairs : PySem.W.nsIn K mainGlobals "Pairs" = some (some (.ref C_Pairs)))
    (pg_Pairs : PySem.W.plainGet K C_Pairs Str.empty = true)
    (hd_Pairs : PySem.W.hasDictIn K C_Pairs = true)
    (po_Pairs : PySem.W.plainOver K C_Pairs = true)
    (sa_Pairs : PySem.W.findIn K (.ref C_Pairs) "__setattr__" = some (some (.builtin "object.__setattr__")))
    (mk_Pairs : PySem.W.makesIn K C_Pairs = true)
    (kc_Pairs : PySem.W.keepIn K (.ref C_Pairs) = true)
    (na_Pairs_pairs : PySem.W.findIn K (.ref C_Pairs) "_pairs" = some none)
    (ic1_Pairs : PySem.W.findIn K (.ref C_Pairs) "__class__" = some (some (.builtin "object.__class__")))
    (ic2_Pairs : PySem.W.specialIn K (.builtin "object.__class__") "__get__" = some (some (.builtin "getset_descriptor.__get__")))
    (ic3_Pairs : PySem.W.takesIn K (.builtin "object.__class__") = some true)
    (ic4_Pairs : PySem.W.mroIn K C_Pairs (.type "object") = some true)
    (ic5_Pairs : PySem.W.kitOne K (.ref C_Pairs) (.ref C_Pairs) = some true)
    (sf_Pairs : PySem.W.selfFirst K C_Pairs = true)
    (i_Pairs_init : PySem.W.findIn K (.ref C_Pairs) "__init__" = some (some (.ref f_Pairs_init)))
    (l_Pairs_init : K.lookup f_Pairs_init = some ⟨oc_Pairs_init, od_Pairs_init, .func (PySem.W.fnOf "__init__" "Pairs.__init__" (defArgs sPInit) (defBody sPInit) (defScope sPInit) (.ref T_Pairs_init) kV_Pairs_init dc_Pairs_init pm_Pairs_init an_Pairs_init cd_Pairs_init ct_Pairs_init), sl_Pairs_init⟩)
    (c_Pairs_init : PySem.W.codeIn K cd_Pairs_init "Pairs.__init__" = true)
    (k_Pairs_init : PySem.W.keepIn K (.ref f_Pairs_init) = true)
    (j_Pairs_init : PySem.W.isFn K (.ref f_Pairs_init) = true)
    (lT_Pairs_init : K.lookup T_Pairs_init = some oT_Pairs_init)
    (d_T_Pairs_init : oT_Pairs_init.data = .seq #[.ref aE] nT_Pairs_init)
    (lE_Pairs_init : K.lookup aE = some oE)
    (y_E_Pairs_init : oE.cls = .type "tuple")
    (d_E_Pairs_init : oE.data = .seq #[] nE)
    (i_Pairs_iter : PySem.W.findIn K (.ref C_Pairs) "__iter__" = some (some (.ref f_Pairs_iter)))
    (l_Pairs_iter : K.lookup f_Pairs_iter = some ⟨oc_Pairs_iter, od_Pairs_iter, .func (PySem.W.fnOf "__iter__" "Pairs.__iter__" (defArgs sIter) (defBody sIter) (defScope sIter) .none kV_Pairs_iter dc_Pairs_iter pm_Pairs_iter an_Pairs_iter cd_Pairs_iter ct_Pairs_iter), sl_Pairs_iter⟩)
    (c_Pairs_iter : PySem.W.codeIn K cd_Pairs_iter "Pairs.__iter__" = true)
    (k_Pairs_iter : PySem.W.keepIn K (.ref f_Pairs_iter) = true)
    (j_Pairs_iter : PySem.W.isFn K (.ref f_Pairs_iter) = true)
    (i_Pairs_len : PySem.W.findIn K (.ref C_Pairs) "__len__" = some (some (.ref f_Pairs_len)))
    (l_Pairs_len : K.lookup f_Pairs_len = some ⟨oc_Pairs_len, od_Pairs_len, .func (PySem.W.fnOf "__len__" "Pairs.__len__" (defArgs sLen) (defBody sLen) (defScope sLen) .none kV_Pairs_len dc_Pairs_len pm_Pairs_len an_Pairs_len cd_Pairs_len ct_Pairs_len), sl_Pairs_len⟩)
    (c_Pairs_len : PySem.W.codeIn K cd_Pairs_len "Pairs.__len__" = true)
    (k_Pairs_len : PySem.W.keepIn K (.ref f_Pairs_len) = true)
    (j_Pairs_len : PySem.W.isFn K (.ref f_Pairs_len) = true)
    (i_Pairs_contains : PySem.W.findIn K (.ref C_Pairs) "__contains__" = some (some (.ref f_Pairs_contains)))
    (l_Pairs_contains : K.lookup f_Pairs_contains = some ⟨oc_Pairs_contains, od_Pairs_contains, .func (PySem.W.fnOf "__contains__" "Pairs.__contains__" (defArgs sCont) (defBody sCont) (defScope sCont) .none kV_Pairs_contains dc_Pairs_contains pm_Pairs_contains an_Pairs_contains cd_Pairs_contains ct_Pairs_contains), sl_Pairs_contains⟩)
    (c_Pairs_contains : PySem.W.codeIn K cd_Pairs_contains "Pairs.__contains__" = true)
    (k_Pairs_contains : PySem.W.keepIn K (.ref f_Pairs_contains) = true)
    (j_Pairs_contains : PySem.W.isFn K (.ref f_Pairs_contains) = true)
    (i_Pairs_or : PySem.W.findIn K (.ref C_Pairs) "__or__" = some (some (.ref f_Pairs_or)))
    (l_Pairs_or : K.lookup f_Pairs_or = some ⟨oc_Pairs_or, od_Pairs_or, .func (PySem.W.fnOf "__or__" "Pairs.__or__" (defArgs sOr) (defBody sOr) (defScope sOr) .none kV_Pairs_or dc_Pairs_or pm_Pairs_or an_Pairs_or cd_Pairs_or ct_Pairs_or), sl_Pairs_or⟩)
    (c_Pairs_or : PySem.W.codeIn K cd_Pairs_or "Pairs.__or__" = true)
    (k_Pairs_or : PySem.W.keepIn K (.ref f_Pairs_or) = true)
    (j_Pairs_or : PySem.W.isFn K (.ref f_Pairs_or) = true)
    (i_Pairs_sub : PySem.W.findIn K (.ref C_Pairs) "__sub__" = some (some (.ref f_Pairs_sub)))
    (l_Pairs_sub : K.lookup f_Pairs_sub = some ⟨oc_Pairs_sub, od_Pairs_sub, .func (PySem.W.fnOf "__sub__" "Pairs.__sub__" (defArgs sSub) (defBody sSub) (defScope sSub) .none kV_Pairs_sub dc_Pairs_sub pm_Pairs_sub an_Pairs_sub cd_Pairs_sub ct_Pairs_sub), sl_Pairs_sub⟩)
    (c_Pairs_sub : PySem.W.codeIn K cd_Pairs_sub "Pairs.__sub__" = true)
    (k_Pairs_sub : PySem.W.keepIn K (.ref f_Pairs_sub) = true)
    (j_Pairs_sub : PySem.W.isFn K (.ref f_Pairs_sub) = true)
    (a_Book : PySem.W.nsIn K mainGlobals "Book" = some (some (.ref C_Book)))
    (pg_Book : PySem.W.plainGet K C_Book Str.empty = true)
    (hd_Book : PySem.W.hasDictIn K C_Book = true)
    (po_Book : PySem.W.plainOver K C_Book = true)
    (sa_Book : PySem.W.findIn K (.ref C_Book) "__setattr__" = some (some (.builtin "object.__setattr__")))
    (mk_Book : PySem.W.makesIn K C_Book = true)
    (kc_Book : PySem.W.keepIn K (.ref C_Book) = true)
    (na_Book_fences : PySem.W.findIn K (.ref C_Book) "_fences" = some none)
    (na_Book_names : PySem.W.findIn K (.ref C_Book) "_names" = some none)
    (na_Bookkept : PySem.W.findIn K (.ref C_Book) "kept" = some none)
    (na_Bookearly : PySem.W.findIn K (.ref C_Book) "early" = some none)
    (na_Bookcoherent : PySem.W.findIn K (.ref C_Book) "coherent" = some none)
    (i_Book_check_names : PySem.W.findIn K (.ref C_Book) "_check_names" = some (some (.ref f_Book_check_names)))
    (l_Book_check_names : K.lookup f_Book_check_names = some ⟨oc_Book_check_names, od_Book_check_names, .func (PySem.W.fnOf "_check_names" "Book._check_names" (defArgs sCN) (defBody sCN) (defScope sCN) .none kV_Book_check_names dc_Book_check_names pm_Book_check_names an_Book_check_names cd_Book_check_names ct_Book_check_names), sl_Book_check_names⟩)
    (c_Book_check_names : PySem.W.codeIn K cd_Book_check_names "Book._check_names" = true)
    (k_Book_check_names : PySem.W.keepIn K (.ref f_Book_check_names) = true)
    (j_Book_check_names : PySem.W.isFn K (.ref f_Book_check_names) = true)
    (i_Book_keeps_over : PySem.W.findIn K (.ref C_Book) "_keeps_over" = some (some (.ref f_Book_keeps_over)))
    (l_Book_keeps_over : K.lookup f_Book_keeps_over = some ⟨oc_Book_keeps_over, od_Book_keeps_over, .func (PySem.W.fnOf "_keeps_over" "Book._keeps_over" (defArgs sKO) (defBody sKO) (defScope sKO) .none kV_Book_keeps_over dc_Book_keeps_over pm_Book_keeps_over an_Book_keeps_over cd_Book_keeps_over ct_Book_keeps_over), sl_Book_keeps_over⟩)
    (c_Book_keeps_over : PySem.W.codeIn K cd_Book_keeps_over "Book._keeps_over" = true)
    (k_Book_keeps_over : PySem.W.keepIn K (.ref f_Book_keeps_over) = true)
    (j_Book_keeps_over : PySem.W.isFn K (.ref f_Book_keeps_over) = true)
    (i_Book_ordered : PySem.W.findIn K (.ref C_Book) "ordered" = some (some (.ref f_Book_ordered)))
    (l_Book_ordered : K.lookup f_Book_ordered = some ⟨oc_Book_ordered, od_Book_ordered, .func (PySem.W.fnOf "ordered" "Book.ordered" (defArgs sOrd) (defBody sOrd) (defScope sOrd) .none kV_Book_ordered dc_Book_ordered pm_Book_ordered an_Book_ordered cd_Book_ordered ct_Book_ordered), sl_Book_ordered⟩)
    (c_Book_ordered : PySem.W.codeIn K cd_Book_ordered "Book.ordered" = true)
    (k_Book_ordered : PySem.W.keepIn K (.ref f_Book_ordered) = true)
    (j_Book_ordered : PySem.W.isFn K (.ref f_Book_ordered) = true)
    (rd_Pa : PySem.W.readsIn K C_Pairs (.type "type") = true)
    (sg_Pa : PySem.W.specialIn K (.ref C_Pairs) "__getattribute__" = some (some (.builtin "type.__getattribute__")))
    (sm_Pa : PySem.W.findCls K (.ref C_Pairs) (.type "type") "product" = some (.get (.builtin "staticmethod.__get__") (.ref q_Sm) .none (.ref C_Pairs)))
    (rc_prod : PySem.W.recIn K q_Sm "staticmethod" = some (.ref f_prod :: rest_Sm))
    (l_prod : K.lookup f_prod = some ⟨oc_prod, od_prod, .func (PySem.W.fnOf "product" "Pairs.product" (defArgs sProd) (defBody sProd) (defScope sProd) .none kV_prod dc_prod pm_prod an_prod cd_prod ct_prod), sl_prod⟩)
    (c_prod : PySem.W.codeIn K cd_prod "Pairs.product" = true)
    (k_prod : PySem.W.keepIn K (.ref f_prod) = true)
    (a_FULL : PySem.W.nsIn K mainGlobals "FULL" = some (some (.str "full" tF)))
    (i_names : PySem.W.findIn K (.ref C_Book) "names" = some (some (.ref q_names)))
    (pg_names : PySem.W.specialIn K (.ref q_names) "__get__" = some (some (.builtin "property.__get__")))
    (pt_names : PySem.W.takesIn K (.ref q_names) = some true)
    (rc_names : PySem.W.recIn K q_names "property" = some (.ref f_names :: rest_names))
    (l_names : K.lookup f_names = some ⟨oc_names, od_names, .func (PySem.W.fnOf "names" "Book.names" (defArgs sNames) (defBody sNames) (defScope sNames) .none kV_names dc_names pm_names an_names cd_names ct_names), sl_names⟩)
    (c_names : PySem.W.codeIn K cd_names "Book.names" = true)
    (k_names : PySem.W.keepIn K (.ref f_names) = true)
    (i_BI : PySem.W.findIn K (.ref C_Book) "__init__" = some (some (.ref f_BI)))
    (j_BI : PySem.W.isFn K (.ref f_BI) = true)
    (l_BI : K.lookup f_BI = some ⟨oc_BI, od_BI, .func (PySem.W.fnOf "__init__" "Book.__init__" (defArgs sBInit) (defBody sBInit) (defScope sBInit) .none (.ref D_BI) dc_BI pm_BI an_BI cd_BI ct_BI), sl_BI⟩)
    (c_BI : PySem.W.codeIn K cd_BI "Book.__init__" = true)
    (k_BI : PySem.W.keepIn K (.ref f_BI) = true)
    (kw_BI_fences : PySem.W.nsIn K D_BI "fences" = some (some (.none)))
    (kw_BI_early : PySem.W.nsIn K D_BI "early" = some (some (.bool false)))
    (kw_BI_coherent : PySem.W.nsIn K D_BI "coherent" = some (some (.bool true)))
    (i_KE : PySem.W.findIn K (.ref C_Book) "keeps" = some (some (.ref f_KE)))
    (j_KE : PySem.W.isFn K (.ref f_KE) = true)
    (l_KE : K.lookup f_KE = some ⟨oc_KE, od_KE, .func (PySem.W.fnOf "keeps" "Book.keeps" (defArgs sKeeps) (defBody sKeeps) (defScope sKeeps) .none (.ref D_KE) dc_KE pm_KE an_KE cd_KE ct_KE), sl_KE⟩)
    (c_KE : PySem.W.codeIn K cd_KE "Book.keeps" = true)
    (k_KE : PySem.W.keepIn K (.ref f_KE) = true)
    (kw_KE_between : PySem.W.nsIn K D_KE "between" = some (some (.ref aBt)))
    (lBt : K.lookup aBt = some oBt)
    (y_Bt : oBt.cls = .type "tuple")
    (d_Bt : oBt.data = .seq #[] nBt)
    (rd_seq : PySem.W.readsIn K C_Book (.type "type") = true)
    (sg_seq : PySem.W.specialIn K (.ref C_Book) "__getattribute__" = some (some (.builtin "type.__getattribute__")))
    (sm_seq : PySem.W.findCls K (.ref C_Book) (.type "type") "sequential" = some (.get (.builtin "staticmethod.__get__") (.ref q_seq) .none (.ref C_Book)))
    (rc_seq : PySem.W.recIn K q_seq "staticmethod" = some (.ref f_seq :: rest_seq))
    (l_seq : K.lookup f_seq = some ⟨oc_seq, od_seq, .func (PySem.W.fnOf "sequential" "Book.sequential" (defArgs sSeq) (defBody sSeq) (defScope sSeq) .none kV_seq dc_seq pm_seq an_seq cd_seq ct_seq), sl_seq⟩)
    (c_seq : PySem.W.codeIn K cd_seq "Book.sequential" = true)
    (k_seq : PySem.W.keepIn K (.ref f_seq) = true)
    (rd_buf : PySem.W.readsIn K C_Book (.type "type") = true)
    (sg_buf : PySem.W.specialIn K (.ref C_Book) "__getattribute__" = some (some (.builtin "type.__getattribute__")))
    (sm_buf : PySem.W.findCls K (.ref C_Book) (.type "type") "buffered" = some (.get (.builtin "staticmethod.__get__") (.ref q_buf) .none (.ref C_Book)))
    (rc_buf : PySem.W.recIn K q_buf "staticmethod" = some (.ref f_buf :: rest_buf))
    (l_buf : K.lookup f_buf = some ⟨oc_buf, od_buf, .func (PySem.W.fnOf "buffered" "Book.buffered" (defArgs sBuf) (defBody sBuf) (defScope sBuf) .none kV_buf dc_buf pm_buf an_buf cd_buf ct_buf), sl_buf⟩)
    (c_buf : PySem.W.codeIn K cd_buf "Book.buffered" = true)
    (k_buf : PySem.W.keepIn K (.ref f_buf) = true)
    (rd_rel : PySem.W.readsIn K C_Book (.type "type") = true)
    (sg_rel : PySem.W.specialIn K (.ref C_Book) "__getattribute__" = some (some (.builtin "type.__getattribute__")))
    (sm_rel : PySem.W.findCls K (.ref C_Book) (.type "type") "relaxed" = some (.get (.builtin "staticmethod.__get__") (.ref q_rel) .none (.ref C_Book)))
    (rc_rel : PySem.W.recIn K q_rel "staticmethod" = some (.ref f_rel :: rest_rel))
    (l_rel : K.lookup f_rel = some ⟨oc_rel, od_rel, .func (PySem.W.fnOf "relaxed" "Book.relaxed" (defArgs sRel) (defBody sRel) (defScope sRel) .none kV_rel dc_rel pm_rel an_rel cd_rel ct_rel), sl_rel⟩)
    (c_rel : PySem.W.codeIn K cd_rel "Book.relaxed" = true)
    (k_rel : PySem.W.keepIn K (.ref f_rel) = true)
    : ∃ fd : FuncData, (∀ (s : Shared) (v : Value), BindsTo s fd ⟨[v], []⟩ [("script", v)]) ∧ ∀ base : Heap, K.In base → base.Ns mainGlobals mg → FnOk l.prog w K mg base CX0 10 fa fd ["script"] (spLaw K) := by
  have e := hfa.symm.trans (PySem.W.mg_of X G a_law)
  cases e
  have B : Blt mg := ⟨PySem.W.mg_none_of X G z_len, PySem.W.mg_none_of X G z_int, PySem.W.mg_none_of X G z_abs, PySem.W.mg_none_of X G z_range, PySem.W.mg_none_of X G z_list, PySem.W.mg_none_of X G z_tuple, PySem.W.mg_none_of X G z_isinstance, PySem.W.mg_none_of X G z_iter, PySem.W.mg_none_of X G z_all, PySem.W.mg_none_of X G z_any, PySem.W.mg_none_of X G z_bool, PySem.W.mg_none_of X G z_str, PySem.W.mg_none_of X G z_sorted, PySem.W.mg_none_of X G z_ValueError, PySem.W.mg_none_of X G z_dict, PySem.W.mg_none_of X G z_enumerate, PySem.W.mg_none_of X G z_set⟩
  have At_law_draws : FnAt K mg "_law_draws" sDraws ["script", "k", "count"] := ⟨_, _, PySem.W.mg_of X G a_law_draws, (fun_mk (st := sDraws) l_law_draws c_law_draws k_law_draws).binds (fun _ _ _ _ _ _ us hl => match us, hl with | [_, _, _], _ => rfl), fun_mk (st := sDraws) l_law_draws c_law_draws k_law_draws⟩
  have At_law_kinds : FnAt K mg "_law_kinds" sKinds [] := ⟨_, _, PySem.W.mg_of X G a_law_kinds, (fun_mk (st := sKinds) l_law_kinds c_law_kinds k_law_kinds).binds (fun _ _ _ _ _ _ us hl => match us, hl with | [], _ => rfl), fun_mk (st := sKinds) l_law_kinds c_law_kinds k_law_kinds⟩
  have At_law_reads : FnAt K mg "_law_reads" sReads [] := ⟨_, _, PySem.W.mg_of X G a_law_reads, (fun_mk (st := sReads) l_law_reads c_law_reads k_law_reads).binds (fun _ _ _ _ _ _ us hl => match us, hl with | [], _ => rfl), fun_mk (st := sReads) l_law_reads c_law_reads k_law_reads⟩
  have At_law_all_pairs : FnAt K mg "_law_all_pairs" sAll [] := ⟨_, _, PySem.W.mg_of X G a_law_all_pairs, (fun_mk (st := sAll) l_law_all_pairs c_law_all_pairs k_law_all_pairs).binds (fun _ _ _ _ _ _ us hl => match us, hl with | [], _ => rfl), fun_mk (st := sAll) l_law_all_pairs c_law_all_pairs k_law_all_pairs⟩
  have At_law_some_pairs : FnAt K mg "_law_some_pairs" sSome ["style", "mask"] := ⟨_, _, PySem.W.mg_of X G a_law_some_pairs, (fun_mk (st := sSome) l_law_some_pairs c_law_some_pairs k_law_some_pairs).binds (fun _ _ _ _ _ _ us hl => match us, hl with | [_, _], _ => rfl), fun_mk (st := sSome) l_law_some_pairs c_law_some_pairs k_law_some_pairs⟩
  have At_law_same : FnAt K mg "_law_same" sSame ["thing", "due"] := ⟨_, _, PySem.W.mg_of X G a_law_same, (fun_mk (st := sSame) l_law_same c_law_same k_law_same).binds (fun _ _ _ _ _ _ us hl => match us, hl with | [_, _], _ => rfl), fun_mk (st := sSame) l_law_same c_law_same k_law_same⟩
  have At_law_is_usual : FnAt K mg "_law_is_usual" sUsu ["made", "style", "early_one", "coherent_one"] := ⟨_, _, PySem.W.mg_of X G a_law_is_usual, (fun_mk (st := sUsu) l_law_is_usual c_law_is_usual k_law_is_usual).binds (fun _ _ _ _ _ _ us hl => match us, hl with | [_, _, _, _], _ => rfl), fun_mk (st := sUsu) l_law_is_usual c_law_is_usual k_law_is_usual⟩
  have At_is_pair : FnAt K mg "is_pair" sIsPair ["item"] := ⟨_, _, PySem.W.mg_of X G a_is_pair, (fun_mk (st := sIsPair) l_is_pair c_is_pair k_is_pair).binds (fun _ _ _ _ _ _ us hl => match us, hl with | [_], _ => rfl), fun_mk (st := sIsPair) l_is_pair c_is_pair k_is_pair⟩
  have At_fences_in : FnAt K mg "fences_in" sFI ["instructions"] := ⟨_, _, PySem.W.mg_of X G a_fences_in, (fun_mk (st := sFI) l_fences_in c_fences_in k_fences_in).binds (fun _ _ _ _ _ _ us hl => match us, hl with | [_], _ => rfl), fun_mk (st := sFI) l_fences_in c_fences_in k_fences_in⟩
  have At_fences_with_full : FnAt K mg "_fences_with_full" sFW ["fences"] := ⟨_, _, PySem.W.mg_of X G a_fences_with_full, (fun_mk (st := sFW) l_fences_with_full c_fences_with_full k_fences_with_full).binds (fun _ _ _ _ _ _ us hl => match us, hl with | [_], _ => rfl), fun_mk (st := sFW) l_fences_with_full c_fences_with_full k_fences_with_full⟩
  have At_law : FnAt K mg "law" sLaw ["script"] := ⟨_, _, PySem.W.mg_of X G a_law, (fun_mk (st := sLaw) l_law c_law k_law).binds (fun _ _ _ _ _ _ us hl => match us, hl with | [_], _ => rfl), fun_mk (st := sLaw) l_law c_law k_law⟩
  have G_KINDS : GlT K mg "KINDS" kindsV := ⟨_, PySem.W.mg_of X G a_KINDS, fun H => .inr ⟨_, _, _, l_KINDS, y_KINDS, d_KINDS, s_KINDS, v_KINDS⟩⟩
  have G_READS : GlT K mg "READS" (List.map V.str ["read", "acquire"]) := ⟨_, PySem.W.mg_of X G a_READS, fun H => .inr ⟨_, _, _, l_READS, y_READS, d_READS, s_READS, v_READS⟩⟩
  have G_WRITES : GlT K mg "WRITES" (List.map V.str ["write", "release"]) := ⟨_, PySem.W.mg_of X G a_WRITES, fun H => .inr ⟨_, _, _, l_WRITES, y_WRITES, d_WRITES, s_WRITES, v_WRITES⟩⟩
  have IC : IsiC K C_Pairs := ⟨ic1_Pairs, ic2_Pairs, ic3_Pairs, ic4_Pairs, ic5_Pairs⟩
  have cl_Pairs : Cls K C_Pairs := ⟨pg_Pairs, hd_Pairs, po_Pairs, sa_Pairs⟩
  have F_init : FunD K "__init__" "Pairs.__init__" (defArgs sPInit) (defBody sPInit) (defScope sPInit) [.ref aE] [] f_Pairs_init _ := ⟨⟨_, _, _, _, _, _, _, _, _, _, rfl, l_Pairs_init, c_Pairs_init, .inr ⟨by simp, _, _, [.ref aE], _, rfl, lT_Pairs_init, d_T_Pairs_init, .cons rfl .nil⟩, .inl rfl⟩, k_Pairs_init⟩
  obtain ⟨ds2, v2, b2⟩ := F_init.binds1 (ps := ["self", "pairs"]) 2 1 (by simp) (by rfl) (fun T kV doc pm an cdv ct us its h1 h2 => match us, its, h1, h2 with | [_, _], [_], _, _ => ⟨_, rfl, rfl⟩)
  obtain ⟨ds1, v1, b1⟩ := F_init.binds1 (ps := ["self", "pairs"]) 1 0 (by simp) (by rfl) (fun T kV doc pm an cdv ct us its h1 h2 => match us, its, h1, h2 with | [_], [_], _, _ => ⟨_, rfl, rfl⟩)
  cases v2
  have mkP : Mk K C_Pairs f_Pairs_init := ⟨mk_Pairs, i_Pairs_init, j_Pairs_init, kc_Pairs⟩
  have emE : ∀ H, SqT K H aE [] := fun H => .inr ⟨_, _, _, lE_Pairs_init, y_E_Pairs_init, d_E_Pairs_init, Nat.zero_le _, .nil⟩
  have TP : PairsCl K mg C_Pairs := ⟨cl_Pairs, na_Pairs_pairs, PySem.W.mg_of X G a_Pairs⟩
  have At_Pairs_iter : MAt K C_Pairs "__iter__" "Pairs.__iter__" sIter ["self"] := ⟨_, _, i_Pairs_iter, j_Pairs_iter, (fun_mk (st := sIter) l_Pairs_iter c_Pairs_iter k_Pairs_iter).binds (fun _ _ _ _ _ _ us hl => match us, hl with | [_], _ => rfl), fun_mk (st := sIter) l_Pairs_iter c_Pairs_iter k_Pairs_iter⟩
  have At_Pairs_len : MAt K C_Pairs "__len__" "Pairs.__len__" sLen ["self"] := ⟨_, _, i_Pairs_len, j_Pairs_len, (fun_mk (st := sLen) l_Pairs_len c_Pairs_len k_Pairs_len).binds (fun _ _ _ _ _ _ us hl => match us, hl with | [_], _ => rfl), fun_mk (st := sLen) l_Pairs_len c_Pairs_len k_Pairs_len⟩
  have At_Pairs_contains : MAt K C_Pairs "__contains__" "Pairs.__contains__" sCont ["self", "x"] := ⟨_, _, i_Pairs_contains, j_Pairs_contains, (fun_mk (st := sCont) l_Pairs_contains c_Pairs_contains k_Pairs_contains).binds (fun _ _ _ _ _ _ us hl => match us, hl with | [_, _], _ => rfl), fun_mk (st := sCont) l_Pairs_contains c_Pairs_contains k_Pairs_contains⟩
  have At_Pairs_or : MAt K C_Pairs "__or__" "Pairs.__or__" sOr ["self", "other"] := ⟨_, _, i_Pairs_or, j_Pairs_or, (fun_mk (st := sOr) l_Pairs_or c_Pairs_or k_Pairs_or).binds (fun _ _ _ _ _ _ us hl => match us, hl with | [_, _], _ => rfl), fun_mk (st := sOr) l_Pairs_or c_Pairs_or k_Pairs_or⟩
  have At_Pairs_sub : MAt K C_Pairs "__sub__" "Pairs.__sub__" sSub ["self", "other"] := ⟨_, _, i_Pairs_sub, j_Pairs_sub, (fun_mk (st := sSub) l_Pairs_sub c_Pairs_sub k_Pairs_sub).binds (fun _ _ _ _ _ _ us hl => match us, hl with | [_, _], _ => rfl), fun_mk (st := sSub) l_Pairs_sub c_Pairs_sub k_Pairs_sub⟩
  have cl_Book : Cls K C_Book := ⟨pg_Book, hd_Book, po_Book, sa_Book⟩
  have At_Book_check_names : MAt K C_Book "_check_names" "Book._check_names" sCN ["self", "fences"] := ⟨_, _, i_Book_check_names, j_Book_check_names, (fun_mk (st := sCN) l_Book_check_names c_Book_check_names k_Book_check_names).binds (fun _ _ _ _ _ _ us hl => match us, hl with | [_, _], _ => rfl), fun_mk (st := sCN) l_Book_check_names c_Book_check_names k_Book_check_names⟩
  have At_Book_keeps_over : MAt K C_Book "_keeps_over" "Book._keeps_over" sKO ["self", "pair", "between"] := ⟨_, _, i_Book_keeps_over, j_Book_keeps_over, (fun_mk (st := sKO) l_Book_keeps_over c_Book_keeps_over k_Book_keeps_over).binds (fun _ _ _ _ _ _ us hl => match us, hl with | [_, _, _], _ => rfl), fun_mk (st := sKO) l_Book_keeps_over c_Book_keeps_over k_Book_keeps_over⟩
  have At_Book_ordered : MAt K C_Book "ordered" "Book.ordered" sOrd ["self", "thread", "first", "second"] := ⟨_, _, i_Book_ordered, j_Book_ordered, (fun_mk (st := sOrd) l_Book_ordered c_Book_ordered k_Book_ordered).binds (fun _ _ _ _ _ _ us hl => match us, hl with | [_, _, _, _], _ => rfl), fun_mk (st := sOrd) l_Book_ordered c_Book_ordered k_Book_ordered⟩
  have At_prod : SmAt K mg "Pairs" "product" "Pairs.product" sProd ["firsts", "seconds"] := ⟨⟨_, _, _, _, _, _, PySem.W.mg_of X G a_Pairs, ⟨rd_Pa, sg_Pa⟩, sm_Pa, rc_prod, (fun_mk (st := sProd) l_prod c_prod k_prod).binds (fun _ _ _ _ _ _ us hl => match us, hl with | [_, _], _ => rfl), fun_mk (st := sProd) l_prod c_prod k_prod⟩⟩
  have F_BI : FunD K "__init__" "Book.__init__" (defArgs sBInit) (defBody sBInit) (defScope sBInit) [] [("fences", .non), ("early", .bl false), ("coherent", .bl true)] f_BI _ := ⟨⟨_, _, _, _, _, _, _, _, _, _, rfl, l_BI, c_BI, .inl ⟨rfl, rfl⟩, .inr ⟨D_BI, rfl, by
      intro p hp
      simp only [List.mem_cons, List.not_mem_nil, or_false] at hp
      rcases hp with rfl | rfl | rfl
      · exact ⟨_, kw_BI_fences, rfl⟩
      · exact ⟨_, kw_BI_early, rfl⟩
      · exact ⟨_, kw_BI_coherent, rfl⟩⟩⟩, k_BI⟩
  have emB : ∀ H, SqT K H aBt [] := fun H => .inr ⟨_, _, _, lBt, y_Bt, d_Bt, Nat.zero_le _, .nil⟩
  have F_KE : FunD K "keeps" "Book.keeps" (defArgs sKeeps) (defBody sKeeps) (defScope sKeeps) [] [("between", .ref aBt)] f_KE _ := ⟨⟨_, _, _, _, _, _, _, _, _, _, rfl, l_KE, c_KE, .inl ⟨rfl, rfl⟩, .inr ⟨D_KE, rfl, by
      intro p hp
      simp only [List.mem_cons, List.not_mem_nil, or_false] at hp
      rcases hp with rfl
      · exact ⟨_, kw_KE_between, rfl⟩⟩⟩, k_KE⟩
  have TB : BookCl K mg C_Book := ⟨cl_Book, na_Book_fences, na_Book_names, na_Bookkept, na_Bookearly, na_Bookcoherent, PySem.W.mg_of X G a_Book⟩
  have mkB : Mk K C_Book f_BI := ⟨mk_Book, i_BI, j_BI, kc_Book⟩
  obtain ⟨dsB, vB, bB⟩ := F_BI.binds0 (ps := bookPs) 2 (by simp) rfl (fun D doc pm an cdv ct us ks h1 h2 => match us, ks, h1, h2 with | [_, _], [_, _, _], _, _ => ⟨_, _, _, _, _, _, rfl, rfl, ⟨_, _, _, _, _, _, rfl, rfl, ⟨_, _, _, _, _, _, rfl, rfl, rfl⟩⟩⟩)
  obtain ⟨mvE, kE⟩ := F_BI.kbinds0 (ps := bookPs) 2 ["early"] [("fences", .non), ("coherent", .bl true)] (fun {α} us mv ws => us ++ (mv.take 1 ++ (ws ++ mv.drop 1))) (by simp) (by simp) (fun {vs mz zs us mv ws} r1 r2 r3 => paired_app r1 (paired_app (paired_take 1 r2) (paired_app r3 (paired_drop 1 r2)))) (fun D doc pm an cdv ct us mv ws h1 h2 h3 => match us, mv, ws, h1, h2, h3 with | [_, _], [_, _], [_], _, _, _ => ⟨_, _, _, _, _, _, rfl, rfl, ⟨_, _, _, _, _, _, rfl, rfl, rfl⟩⟩)
  obtain ⟨mvC, kC⟩ := F_BI.kbinds0 (ps := bookPs) 2 ["early", "coherent"] [("fences", .non)] (fun {α} us mv ws => us ++ (mv ++ ws)) (by simp) (by simp) (fun {vs mz zs us mv ws} r1 r2 r3 => paired_app r1 (paired_app r2 r3)) (fun D doc pm an cdv ct us mv ws h1 h2 h3 => match us, mv, ws, h1, h2, h3 with | [_, _], [_], [_, _], _, _, _ => ⟨_, _, _, _, _, _, rfl, rfl, rfl⟩)
  obtain ⟨dsK, vK, bK⟩ := F_KE.binds0 (ps := ["self", "first", "second", "between"]) 3 (by simp) rfl (fun D doc pm an cdv ct us ks h1 h2 => match us, ks, h1, h2 with | [_, _, _], [_], _, _ => ⟨_, _, _, _, _, _, rfl, rfl, rfl⟩)
  have At_seq : SmAt K mg "Book" "sequential" "Book.sequential" sSeq [] := ⟨⟨_, _, _, _, _, _, PySem.W.mg_of X G a_Book, ⟨rd_seq, sg_seq⟩, sm_seq, rc_seq, (fun_mk (st := sSeq) l_seq c_seq k_seq).binds (fun _ _ _ _ _ _ us hl => match us, hl with | [], _ => rfl), fun_mk (st := sSeq) l_seq c_seq k_seq⟩⟩
  have At_buf : SmAt K mg "Book" "buffered" "Book.buffered" sBuf [] := ⟨⟨_, _, _, _, _, _, PySem.W.mg_of X G a_Book, ⟨rd_buf, sg_buf⟩, sm_buf, rc_buf, (fun_mk (st := sBuf) l_buf c_buf k_buf).binds (fun _ _ _ _ _ _ us hl => match us, hl with | [], _ => rfl), fun_mk (st := sBuf) l_buf c_buf k_buf⟩⟩
  have At_rel : SmAt K mg "Book" "relaxed" "Book.relaxed" sRel [] := ⟨⟨_, _, _, _, _, _, PySem.W.mg_of X G a_Book, ⟨rd_rel, sg_rel⟩, sm_rel, rc_rel, (fun_mk (st := sRel) l_rel c_rel k_rel).binds (fun _ _ _ _ _ _ us hl => match us, hl with | [], _ => rfl), fun_mk (st := sRel) l_rel c_rel k_rel⟩⟩
  exact ⟨PySem.W.fnOf "law" "law" (defArgs sLaw) (defBody sLaw) (defScope sLaw) .none kV_law dc_law pm_law an_law cd_law ct_law, fun s v => .of_eq rfl, fun base _ _ => by have Odraws := ok_draws (P := l.prog) (w := w) (base := base) At_law_draws B; have Okinds := ok_kinds (P := l.prog) (w := w) (base := base) At_law_kinds; have Oreads := ok_reads (P := l.prog) (w := w) (base := base) At_law_reads; have Oall := ok_all (P := l.prog) (w := w) (base := base) At_law_all_pairs Okinds; have Osome := ok_some (P := l.prog) (w := w) (base := base) At_law_some_pairs B Oreads Oall; have Osame := ok_same (P := l.prog) (w := w) (base := base) At_law_same B; have Oip := ok_ispair (P := l.prog) (w := w) (base := base) At_is_pair B G_KINDS; have OPairs : PMk l.prog w K mg base 2 C_Pairs aE (spPInit K C_Pairs) := ⟨⟨_, _, _, mkP, b2, v1, b1, ok_pinit F_init B G_KINDS TP Oip⟩, PySem.W.mg_of X G a_Pairs, emE⟩; have Ocont := ok_cont (P := l.prog) (w := w) (base := base) At_Pairs_contains B TP; have Olen := ok_len (P := l.prog) (w := w) (base := base) At_Pairs_len B TP; have Oiter := ok_iter (P := l.prog) (w := w) (base := base) At_Pairs_iter B TP; have Oor := ok_or (P := l.prog) (w := w) (base := base) At_Pairs_or B TP IC OPairs; have Osub := ok_sub (P := l.prog) (w := w) (base := base) At_Pairs_sub B TP IC OPairs; have Oprod := ok_prod (P := l.prog) (w := w) (base := base) At_prod B OPairs; have Ofw := ok_fw (P := l.prog) (w := w) (base := base) At_fences_with_full B G_KINDS ⟨_, PySem.W.mg_of X G a_FULL⟩ Oprod; have OB : BMk l.prog w K mg base 6 C_Pairs C_Book := ⟨⟨_, _, _, mkB, vB, bB, ok_binit F_BI B TB Ofw, ⟨_, kE⟩, ⟨_, kC⟩⟩, PySem.W.mg_of X G a_Book⟩; have Oseq := ok_seq (P := l.prog) (w := w) (base := base) At_seq G_KINDS Oprod OB; have Obuf := ok_buf (P := l.prog) (w := w) (base := base) At_buf G_KINDS G_READS G_WRITES sf_Pairs Osub Oprod OB; have Orel := ok_rel (P := l.prog) (w := w) (base := base) At_rel G_KINDS sf_Pairs Oor Oprod OB; have Onames : OkP l.prog w K mg base 1 C_Book "names" (spNames K C_Pairs C_Book) := ⟨⟨_, _, _, ⟨i_names, pg_names, pt_names, ⟨_, rc_names⟩⟩, (fun_mk (st := sNames) l_names c_names k_names).binds (fun _ _ _ _ _ _ us hl => match us, hl with | [_], _ => rfl), ok_names (fun_mk (st := sNames) l_names c_names k_names) TB⟩⟩; have Ocn : OkM l.prog w K mg base CX0 1 C_Book "_check_names" ["self", "fences"] (spCN K C_Pairs C_Book) := ok_cn (P := l.prog) (w := w) (base := base) At_Book_check_names; have Oko := ok_ko (P := l.prog) (w := w) (base := base) At_Book_keeps_over B TB Ocont; have Okeeps : OkMD l.prog w K mg base 3 C_Book "keeps" ["self", "first", "second", "between"] [.ref aBt] (spKeeps K C_Pairs C_Book aBt) := ⟨⟨_, _, _, ⟨i_KE, j_KE, k_KE⟩, vK, bK, ok_keeps F_KE emB B TB Oip Ocn Oko⟩⟩; have Ofi := ok_fi (P := l.prog) (w := w) (base := base) At_fences_in B; have Oord := ok_ord (P := l.prog) (w := w) (base := base) At_Book_ordered B TB Ofi Oko; have Ousu := ok_usu (P := l.prog) (w := w) (base := base) At_law_is_usual B TB Osome Osame Onames Olen Oiter; exact ok_law (fun_mk (st := sLaw) l_law c_law k_law) B TB Odraws Okinds Oreads Osame Ousu Oseq Obuf Orel Okeeps Oord⟩
end KP
open PySem PySem.W PyProof.Rows
set_option maxHeartbeats 0 in
theorem PySem.Challenge.cw_keptpairs_k09_usual_books_holds : PySem.Challenge.rw_keptpairs_k09_usual_books.Holds := by
  w_on; o_law; k_head; (case hw => w_witness2)
  k_fill
  refine L2.walk_of (l := PySem.Challenge.rw_keptpairs_k09_usual_books) (n := 63) (k := 10) (x := "script") (CX := fun _ => L2.CX0) (sp := fun w => KP.spLaw _) rfl (by decide) rfl ⟨rfl, by decide, by decide⟩ (fun w h Y => PySem.W.kIn_of Y) ?F (fun _ _ a ns hl _ hS => ⟨a, ns, rfl, hS, hl, fun _ => rfl⟩) (fun _ _ _ _ _ h => h)
  case F =>
    intro w mg fa h KX G hmg
    refine' KP.all_mk KX G hmg ?z_len ?z_int ?z_abs ?z_range ?z_list ?z_tuple ?z_isinstance ?z_iter ?z_all ?z_any ?z_bool ?z_str ?z_sorted ?z_ValueError ?z_dict ?z_enumerate ?z_set ?a_law_draws ?l_law_draws ?c_law_draws ?k_law_draws ?a_law_kinds ?l_law_kinds ?c_law_kinds ?k_law_kinds ?a_law_reads ?l_law_reads ?c_law_reads ?k_law_reads ?a_law_all_pairs ?l_law_all_pairs ?c_law_all_pairs ?k_law_all_pairs ?a_law_some_pairs ?l_law_some_pairs ?c_law_some_pairs ?k_law_some_pairs ?a_law_same ?l_law_same ?c_law_same ?k_law_same ?a_law_is_usual ?l_law_is_usual ?c_law_is_usual ?k_law_is_usual ?a_is_pair ?l_is_pair ?c_is_pair ?k_is_pair ?a_fences_in ?l_fences_in ?c_fences_in ?k_fences_in ?a_fences_with_full ?l_fences_with_full ?c_fences_with_full ?k_fences_with_full ?a_law ?l_law ?c_law ?k_law ?a_KINDS ?l_KINDS ?y_KINDS ?d_KINDS ?s_KINDS ?v_KINDS ?a_READS ?l_READS ?y_READS ?d_READS ?s_READS ?v_READS ?a_WRITES ?l_WRITES ?y_WRITES ?d_WRITES ?s_WRITES ?v_WRITES ?a_Pairs ?pg_Pairs ?hd_Pairs ?po_Pairs ?sa_Pairs ?mk_Pairs ?kc_Pairs ?na_Pairs_pairs ?ic1_Pairs ?ic2_Pairs ?ic3_Pairs ?ic4_Pairs ?ic5_Pairs ?sf_Pairs ?i_Pairs_init ?l_Pairs_init ?c_Pairs_init ?k_Pairs_init ?j_Pairs_init ?lT_Pairs_init ?d_T_Pairs_init ?lE_Pairs_init ?y_E_Pairs_init ?d_E_Pairs_init ?i_Pairs_iter ?l_Pairs_iter ?c_Pairs_iter ?k_Pairs_iter ?j_Pairs_iter ?i_Pairs_len ?l_Pairs_len ?c_Pairs_len ?k_Pairs_len ?j_Pairs_len ?i_Pairs_contains ?l_Pairs_contains ?c_Pairs_contains ?k_Pairs_contains ?j_Pairs_contains ?i_Pairs_or ?l_Pairs_or ?c_Pairs_or ?k_Pairs_or ?j_Pairs_or ?i_Pairs_sub ?l_Pairs_sub ?c_Pairs_sub ?k_Pairs_sub ?j_Pairs_sub ?a_Book ?pg_Book ?hd_Book ?po_Book ?sa_Book ?mk_Book ?kc_Book ?na_Book_fences ?na_Book_names ?na_Bookkept ?na_Bookearly ?na_Bookcoherent ?i_Book_check_names ?l_Book_check_names ?c_Book_check_names ?k_Book_check_names ?j_Book_check_names ?i_Book_keeps_over ?l_Book_keeps_over ?c_Book_keeps_over ?k_Book_keeps_over ?j_Book_keeps_over ?i_Book_ordered ?l_Book_ordered ?c_Book_ordered ?k_Book_ordered ?j_Book_ordered ?rd_Pa ?sg_Pa ?sm_Pa ?rc_prod ?l_prod ?c_prod ?k_prod ?a_FULL ?i_names ?pg_names ?pt_names ?rc_names ?l_names ?c_names ?k_names ?i_BI ?j_BI ?l_BI ?c_BI ?k_BI ?kw_BI_fences ?kw_BI_early ?kw_BI_coherent ?i_KE ?j_KE ?l_KE ?c_KE ?k_KE ?kw_KE_between ?lBt ?y_Bt ?d_Bt ?rd_seq ?sg_seq ?sm_seq ?rc_seq ?l_seq ?c_seq ?k_seq ?rd_buf ?sg_buf ?sm_buf ?rc_buf ?l_buf ?c_buf ?k_buf ?rd_rel ?sg_rel ?sm_rel ?rc_rel ?l_rel ?c_rel ?k_rel
    (case z_len => k_is)
    (case z_int => k_is)
    (case z_abs => k_is)
    (case z_range => k_is)
    (case z_list => k_is)
    (case z_tuple => k_is)
    (case z_isinstance => k_is)
    (case z_iter => k_is)
    (case z_all => k_is)
    (case z_any => k_is)
    (case z_bool => k_is)
    (case z_str => k_is)
    (case z_sorted => k_is)
    (case z_ValueError => k_is)
    (case z_dict => k_is)
    (case z_enumerate => k_is)
    (case z_set => k_is)
    (case a_law_draws => k_is)
    (case l_law_draws => k_is)
    (case c_law_draws => k_is)
    (case k_law_draws => k_is)
    (case a_law_kinds => k_is)
    (case l_law_kinds => k_is)
    (case c_law_kinds => k_is)
    (case k_law_kinds => k_is)
    (case a_law_reads => k_is)
    (case l_law_reads => k_is)
    (case c_law_reads => k_is)
    (case k_law_reads => k_is)
    (case a_law_all_pairs => k_is)
    (case l_law_all_pairs => k_is)
    (case c_law_all_pairs => k_is)
    (case k_law_all_pairs => k_is)
    (case a_law_some_pairs => k_is)
    (case l_law_some_pairs => k_is)
    (case c_law_some_pairs => k_is)
    (case k_law_some_pairs => k_is)
    (case a_law_same => k_is)
    (case l_law_same => k_is)
    (case c_law_same => k_is)
    (case k_law_same => k_is)
    (case a_law_is_usual => k_is)
    (case l_law_is_usual => k_is)
    (case c_law_is_usual => k_is)
    (case k_law_is_usual => k_is)
    (case a_is_pair => k_is)
    (case l_is_pair => k_is)
    (case c_is_pair => k_is)
    (case k_is_pair => k_is)
    (case a_fences_in => k_is)
    (case l_fences_in => k_is)
    (case c_fences_in => k_is)
    (case k_fences_in => k_is)
    (case a_fences_with_full => k_is)
    (case l_fences_with_full => k_is)
    (case c_fences_with_full => k_is)
    (case k_fences_with_full => k_is)
    (case a_law => k_is)
    (case l_law => k_is)
    (case c_law => k_is)
    (case k_law => k_is)
    (case a_KINDS => k_is)
    (case l_KINDS => k_is)
    (case y_KINDS => first | k_is | rfl)
    (case d_KINDS => first | k_is | rfl)
    (case s_KINDS => first | decide | (rw [sizeLine_eq]; decide) | k_is)
    (case v_KINDS => repeat (first | exact .nil | refine .cons ⟨_, rfl⟩ ?_ | refine .cons rfl ?_))
    (case a_READS => k_is)
    (case l_READS => k_is)
    (case y_READS => first | k_is | rfl)
    (case d_READS => first | k_is | rfl)
    (case s_READS => first | decide | (rw [sizeLine_eq]; decide) | k_is)
    (case v_READS => repeat (first | exact .nil | refine .cons ⟨_, rfl⟩ ?_ | refine .cons rfl ?_))
    (case a_WRITES => k_is)
    (case l_WRITES => k_is)
    (case y_WRITES => first | k_is | rfl)
    (case d_WRITES => first | k_is | rfl)
    (case s_WRITES => first | decide | (rw [sizeLine_eq]; decide) | k_is)
    (case v_WRITES => repeat (first | exact .nil | refine .cons ⟨_, rfl⟩ ?_ | refine .cons rfl ?_))
    (case a_Pairs => k_is)
    (case pg_Pairs => k_is)
    (case hd_Pairs => k_is)
    (case po_Pairs => k_is)
    (case sa_Pairs => k_is)
    (case mk_Pairs => k_is)
    (case kc_Pairs => k_is)
    (case na_Pairs_pairs => k_is)
    (case ic1_Pairs => first | k_is | rfl)
    (case ic2_Pairs => first | k_is | rfl)
    (case ic3_Pairs => first | k_is | rfl)
    (case ic4_Pairs => first | k_is | rfl)
    (case ic5_Pairs => first | k_is | rfl)
    (case sf_Pairs => k_is)
    (case i_Pairs_init => k_is)
    (case l_Pairs_init => k_is)
    (case c_Pairs_init => k_is)
    (case k_Pairs_init => k_is)
    (case j_Pairs_init => k_is)
    (case lT_Pairs_init => k_is)
    (case d_T_Pairs_init => first | k_is | rfl)
    (case lE_Pairs_init => k_is)
    (case y_E_Pairs_init => first | k_is | rfl)
    (case d_E_Pairs_init => first | k_is | rfl)
    (case i_Pairs_iter => k_is)
    (case l_Pairs_iter => k_is)
    (case c_Pairs_iter => k_is)
    (case k_Pairs_iter => k_is)
    (case j_Pairs_iter => k_is)
    (case i_Pairs_len => k_is)
    (case l_Pairs_len => k_is)
    (case c_Pairs_len => k_is)
    (case k_Pairs_len => k_is)
    (case j_Pairs_len => k_is)
    (case i_Pairs_contains => k_is)
    (case l_Pairs_contains => k_is)
    (case c_Pairs_contains => k_is)
    (case k_Pairs_contains => k_is)
    (case j_Pairs_contains => k_is)
    (case i_Pairs_or => k_is)
    (case l_Pairs_or => k_is)
    (case c_Pairs_or => k_is)
    (case k_Pairs_or => k_is)
    (case j_Pairs_or => k_is)
    (case i_Pairs_sub => k_is)
    (case l_Pairs_sub => k_is)
    (case c_Pairs_sub => k_is)
    (case k_Pairs_sub => k_is)
    (case j_Pairs_sub => k_is)
    (case a_Book => k_is)
    (case pg_Book => k_is)
    (case hd_Book => k_is)
    (case po_Book => k_is)
    (case sa_Book => k_is)
    (case mk_Book => k_is)
    (case kc_Book => k_is)
    (case na_Book_fences => k_is)
    (case na_Book_names => k_is)
    (case na_Bookkept => k_is)
    (case na_Bookearly => k_is)
    (case na_Bookcoherent => k_is)
    (case i_Book_check_names => k_is)
    (case l_Book_check_names => k_is)
    (case c_Book_check_names => k_is)
    (case k_Book_check_names => k_is)
    (case j_Book_check_names => k_is)
    (case i_Book_keeps_over => k_is)
    (case l_Book_keeps_over => k_is)
    (case c_Book_keeps_over => k_is)
    (case k_Book_keeps_over => k_is)
    (case j_Book_keeps_over => k_is)
    (case i_Book_ordered => k_is)
    (case l_Book_ordered => k_is)
    (case c_Book_ordered => k_is)
    (case k_Book_ordered => k_is)
    (case j_Book_ordered => k_is)
    (case rd_Pa => k_is)
    (case sg_Pa => k_is)
    (case sm_Pa => k_is)
    (case rc_prod => k_is)
    (case l_prod => k_is)
    (case c_prod => k_is)
    (case k_prod => k_is)
    (case a_FULL => k_is)
    (case i_names => k_is)
    (case pg_names => k_is)
    (case pt_names => k_is)
    (case rc_names => k_is)
    (case l_names => k_is)
    (case c_names => k_is)
    (case k_names => k_is)
    (case i_BI => k_is)
    (case j_BI => k_is)
    (case l_BI => k_is)
    (case c_BI => k_is)
    (case k_BI => k_is)
    (case kw_BI_fences => k_is)
    (case kw_BI_early => k_is)
    (case kw_BI_coherent => k_is)
    (case i_KE => k_is)
    (case j_KE => k_is)
    (case l_KE => k_is)
    (case c_KE => k_is)
    (case k_KE => k_is)
    (case kw_KE_between => k_is)
    (case lBt => k_is)
    (case y_Bt => first | k_is | rfl)
    (case d_Bt => first | k_is | rfl)
    (case rd_seq => k_is)
    (case sg_seq => k_is)
    (case sm_seq => k_is)
    (case rc_seq => k_is)
    (case l_seq => k_is)
    (case c_seq => k_is)
    (case k_seq => k_is)
    (case rd_buf => k_is)
    (case sg_buf => k_is)
    (case sm_buf => k_is)
    (case rc_buf => k_is)
    (case l_buf => k_is)
    (case c_buf => k_is)
    (case k_buf => k_is)
    (case rd_rel => k_is)
    (case sg_rel => k_is)
    (case sm_rel => k_is)
    (case rc_rel => k_is)
    (case l_rel => k_is)
    (case c_rel => k_is)
    (case k_rel => k_is)

