import PyProof.Rows.All
import Wide.All
import OpenK.AllK
import Wide.FinOn
import PyProof.EqAt
import PyProof.EqKinds
import PyProof.TupleCall
import KE.KOwnIter
import KE.KFromBytes
import KE.KDictIter
import HandS.Base
import HandS.Call
import HandS.List
import HandS.OwnEq
import HandS.OwnIter
import HandS.SlotsOwn
import HandS.Words
import HandS.WordsList
import HandS.WordsExc
import HandS.ForMost
import HandS.Exc
import HandS.IsInst
import HandS.Deep
import HandS.Evl
import HandS.Walk
import HandS.Defaults
import HandS.Style
import HandS.TupAny
import HandS.TryOnly
import HandS.ExcOwn
import HandS.ExcInit
import HandS.ExcField
import HandS.ExcIs
import HandS.ClsMeth
import KE.KIsAll
import KE.KExcIs
import HandS.MakeKwOnly
import HandS.Property
import HandS.Iter
import HandS.RaiseMore
import HandS.Dict
import HandS.Steps
import HandS.FStr
import PyProof.P3Eq
import HandS.HotCalls
import PySem.Challenge.RW_keptpairs_k05_check_program
set_option Elab.async false
set_option linter.all false
set_option maxRecDepth 100000
set_option maxHeartbeats 2000000
namespace KpX
open PySem PySem.W PySem.Calls PyProof.Rows

section
variable {prog : Program} {w : World} {A : Around} {E : Value → Shared → Prop} {s : Shared} {K : Frag} {x C L f : Addr} {h₀ : Heap} {m : Str → Option Value} {ox : Obj} {od : Option Obj}
theorem contains_own {y : Value} {Q : Bool → Shared → Prop} (X : K.In s.heap) (I : InstAt s.heap x ox C od) (hs : findIn K (.ref C) "__contains__" = some (some (.ref f))) (hf : isFn K (.ref f) = true)
    (h : wpAny (model prog w) A (call (.ref f) [.ref x, y]) (fun r s' => wpAny (model prog w) A (truthy r) Q E s') E s) : wpAny (model prog w) A (contains (.ref x) y) Q E s := by
  unfold contains
  refine wpAny_holding ?_
  rw [show stdlibNamesSay? (.ref x) y = none from rfl]
  refine wpAny_bind (wpAny_bind (I.type.here ((looks_findIn X hs).here ?_)))
  show wpAny _ _ (if (some (Value.ref f) == some Value.none) = true then _ else _) _ _ _
  rw [if_neg (by simp)]
  refine wpAny_bind ?_
  simp only [callSpecialUnlessNone?]
  refine wpAny_bind (wpAny_bind (I.type.here ((looks_findIn X hs).here ?_)))
  refine wpAny_holding (wpAny_bind ((bind_fn X _ (beq_iff_eq.mp hf)).here ?_))
  show wpAny _ _ (if (Value.ref f == Value.none) = true then _ else _) _ _ _
  rw [if_neg (show ¬ ((Value.ref f == Value.none) = true) from Bool.false_ne_true)]
  exact wpAny_bind (wpAny_mono h (fun v s' h' => wpAny_pure h') fun _ _ h' => h')
/-- an iterator over a tuple has come to its end: the record stays, read no more -/
theorem tupIt_end {it t : Addr} {i : Nat} {items : Array Value} {Q : Option Value → Shared → Prop} (quiet : A.handled = none) (rec0 : s.heap.IsTupleIter it t i) (tu : s.heap.IsTuple t items) (off : items[i]? = none)
    (q : ∀ h', Heap.ExtBut it s.heap h' → (∃ o, h'.get? it = some o) → Q none { s with heap := h' }) : wpAny (model prog w) A (pyNext (.ref it)) Q E s := by
  obtain ⟨ob, g0, gc, gd⟩ := id rec0
  obtain ⟨ot, g1, _, kk, gt⟩ := tu
  unfold pyNext
  refine wpAny_bind (wpAny_attempt (wpAny_callSpecial?_slot (name := Str.ofString "__next__") rec0.typeIs F.slot_tuple_iterator_next (wpAny_call_entry F.slot_tuple_iterator_next rec0.typeIs F.entry_tuple_iterator_next ?_ (F.args_tuple_iterator_next_1 _))))
  show wpAny _ _ (field (Value.ref it) 0 >>= _) _ _ _
  refine wpAny_bind (wpAny_field g0 gd (x := Value.ref t) rfl ?_)
  show wpAny _ _ (if (Value.ref t == .none) = true then _ else _) _ _ _
  refine PySem.W.KFB.if_not rfl ?_
  show wpAny _ _ (field (Value.ref it) 1 >>= _) _ _ _
  refine wpAny_bind (wpAny_field g0 gd (x := Value.int i 0) rfl ?_)
  show wpAny _ _ (seqItems? (Value.ref t) >>= _) _ _ _
  refine wpAny_bind (wpAny_seqItems g1 gt ?_)
  simp only [off, Int.toNat_natCast]
  refine wpAny_bind (wpAny_rule (wpAny_bind (wpAny_setField g0 gd (by simp) ?_)))
  show wpAny _ _ (newExc (Value.type "StopIteration") [] >>= _) _ _ _
  refine wpAny_bind ?_
  simp only [newTuple, newExc]
  refine wpAny_bind (wpAny_newObj_type ?_ (by size_fits))
  refine wpAny_bind (m := firstArgMember _ _) (wpAny_of_eq (a := Value.none) (by first | rfl | (simp only [firstArgMember] <;> rfl)) ?_)
  refine wpAny_newObj_type ?_ (by size_fits)
  simp only [raiseNew]
  refine wpAny_bind (wpAny_handled ?_)
  first | rw [quiet] | rw [show A.in1.handled = none from quiet]
  refine wpAny_bind (wpAny_pure (wpAny_throw ?_))
  refine wpAny_bind (wpAny_isInstance (T := "StopIteration") (b := true) ⟨_, Heap.get?_push_size _ rfl, rfl⟩ isSubtype_stop ?_)
  refine wpAny_pure (q _ (((Heap.SameBut.update ..).extBut.push _).push _) ⟨_, Heap.get?_push_of_some _ (Heap.get?_push_of_some _ (Heap.get?_update_self _ g0 (Obj.isFreed_of_fields (Obj.data_mapFields gd _))))⟩)
/-- iter(t), t a tuple -/
theorem call_iterTup {t : Addr} {items : Array Value} {Q : Value → Shared → Prop} (tu : s.heap.IsTuple t items) (q : Q (.ref s.heap.objs.size) { s with heap := s.heap.push { cls := .type "tuple_iterator", data := .fields #[.ref t, .int 0 0] } }) : wpAny (model prog w) A (call (.builtin "iter") [.ref t]) Q E s := by
  refine Calls.call_function_entry (by decide +kernel) (by decide +kernel) PySem.W.kdk_entry_iter (PySem.W.kdk_args_iter _) ?_
  unfold Builtin.«iter»
  refine wpAny_bind (m := someArgs "iter" 1 2 _) (wpAny_of_eq (a := [Value.ref t]) (by first | rfl | kernel_rfl!) ?_)
  show wpAny _ _ (pyIter (Value.ref t) >>= _) _ _ _
  refine wpAny_bind (wpAny_pyIter_tuple tu ?_)
  exact wpAny_pure ⟨_, rfl, q⟩
/-- the length that list(o) asks ahead, by an own __len__ -/
theorem hint_own {Q : Bool → Shared → Prop} (X : K.In s.heap) (I : InstAt s.heap x ox C od) (hs : findIn K (.ref C) "__len__" = some (some (.ref f))) 
    (h : wpAny (model prog w) A (call (.builtin "len") [.ref x]) (fun r s' => ∃ n u, r = Value.int n u ∧ n.toNat ≤ sizeLine ∧ Q (n != 0) s') (fun _ _ => False) s) : wpAny (model prog w) A (Builtin.List.listLengthHint (.ref x)) Q E s := by
  unfold Builtin.List.listLengthHint
  refine wpAny_bind (wpAny_bind (I.type.here ((looks_findIn X hs).here ?_)))
  refine PySem.W.KFB.if_not rfl ?_
  refine PySem.W.KFB.if_so rfl ?_
  refine wpAny_bind (wpAny_rule (wpAny_bind (wpAny_attempt (wpAny_mono h (fun r s' z => ?_) fun _ _ z => z.elim))))
  obtain ⟨n, u, rfl, hl, q⟩ := z
  refine wpAny_bind (wpAny_pure ?_)
  refine PySem.W.KFB.if_not (by unfold Builtin.List.listTooLong; exact decide_eq_false (by omega)) ?_
  exact wpAny_pure q
end
end KpX

namespace L2
open PySem PySem.Spec PyProof.Rows
section
variable {X : Cx} {pins : List (Addr × Obj)} {σ : St} {H : Hp} {s : Shared} {CX : CXT} {C f a dx : Addr} {fd : FuncData} {ps : List Str} {sp : Sp} {E : XK} {n : Nat} {A1 : Around}
/-- an own def is called from inside a built-in -/
theorem own_call {Q : VK} {vs : List V} {us : List Value} (sb : Sub X n A1) (F : FnOk X.prog X.w X.K X.mg X.base CX n f fd ps sp) (hb : Binds X.K fd ps []) (hx : Passes CX X E) (I : Inv X pins σ H s) (r : Vals vs us) (h : sp vs H Q E) :
    wpAny (model X.prog X.w) A1 (call (.ref f) us) (EP X pins σ Q) X.xe s := by
  have e0 : Env0 X.prog X.w X.K X.mg X.base A1 X.stack s H := by
    have e := I.env0
    exact ⟨sb.fr.trans e.frames, e.mod, e.bs, e.bsz, e.funs, e.frf, e.hok, e.bare⟩
  have hl := F.len _ _ _ _ h
  refine wpAny_call (codeAny_mono (F.run A1 X.stack s H ⟨us, []⟩ us vs Q E sb.room e0 (by
    have := hb s us I.kIn (by rw [List.append_nil, ← r.length]; exact hl)
    simpa using this) r h) fun r s' hq => ?_)
  cases r with
  | error e => exact hx pins σ H s e s' I hq
  | ok fl =>
    cases fl with
    | ret w => exact I.after hq
    | next => exact False.elim hq
    | brk => exact False.elim hq
    | cont => exact False.elim hq
/-- one that raises nothing -/
theorem own_call0 {Q : VK} {vs : List V} {us : List Value} {EE : Value → Shared → Prop} (sb : Sub X n A1) (F : FnOk X.prog X.w X.K X.mg X.base CX0 n f fd ps sp) (hb : Binds X.K fd ps []) (I : Inv X pins σ H s) (r : Vals vs us) (h : sp vs H Q E0) :
    wpAny (model X.prog X.w) A1 (call (.ref f) us) (EP X pins σ Q) EE s := by
  have e0 : Env0 X.prog X.w X.K X.mg X.base A1 X.stack s H := by
    have e := I.env0
    exact ⟨sb.fr.trans e.frames, e.mod, e.bs, e.bsz, e.funs, e.frf, e.hok, e.bare⟩
  have hl := F.len _ _ _ _ h
  refine wpAny_call (codeAny_mono (F.run A1 X.stack s H ⟨us, []⟩ us vs Q E0 sb.room e0 (by
    have := hb s us I.kIn (by rw [List.append_nil, ← r.length]; exact hl)
    simpa using this) r h) fun r s' hq => ?_)
  cases r with
  | error e => exact False.elim hq
  | ok fl =>
    cases fl with
    | ret w => exact I.after hq
    | next => exact False.elim hq
    | brk => exact False.elim hq
    | cont => exact False.elim hq
theorem ins_inst (I : Inv X pins σ H s) {fs : List (Str × V)} (ha : H a = some (.ins C dx fs)) : ∃ ox od, PySem.W.InstAt s.heap a ox C (some od) := by
  obtain ⟨mA, J, _⟩ := ins_get I.hok ha
  obtain ⟨od, J, _⟩ := J.look
  exact ⟨_, od, J⟩

/-! ### x in o, x not in o, by an own __contains__ -/
def rInOwn (C : Addr) (sp : Sp) (E : XK) : R2 := fun x y H Q => ∃ a dx fs, y = .ref a ∧ H a = some (.ins C dx fs) ∧ sp [.ref a, x] H (fun z H' => ∃ b, z = .bl b ∧ Q (.bl b) H') E
def rNotInOwn (C : Addr) (sp : Sp) (E : XK) : R2 := fun x y H Q => ∃ a dx fs, y = .ref a ∧ H a = some (.ins C dx fs) ∧ sp [.ref a, x] H (fun z H' => ∃ b, z = .bl b ∧ Q (.bl (!b)) H') E
theorem in_own {x : V} {v : Value} {Q : Bool → Hp → Prop} {fs : List (Str × V)} (hs : PySem.W.findIn X.K (.ref C) "__contains__" = some (some (.ref f))) (hf : PySem.W.isFn X.K (.ref f) = true) (F : FnOk X.prog X.w X.K X.mg X.base CX n f fd ps sp) (hb : Binds X.K fd ps []) (hx : Passes CX X E) (hr : Room n X.A)
    (I : Inv X pins σ H s) (rx : RelV x v) (ha : H a = some (.ins C dx fs)) (q : sp [.ref a, x] H (fun z H' => ∃ b, z = .bl b ∧ Q b H') E) :
    wpAny (model X.prog X.w) X.A (contains (.ref a) v) (fun r s' => ∃ H', Inv X pins σ H' s' ∧ Q r H') X.xe s := by
  obtain ⟨ox, od, J⟩ := ins_inst I ha
  refine KpX.contains_own I.kIn J hs hf ?_
  refine wpAny_mono (own_call (vs := [.ref a, x]) (us := [.ref a, v]) ⟨hr, rfl⟩ F hb hx I (.cons rfl (.cons rx .nil)) q) (fun r s' z => ?_) fun _ _ z => z
  obtain ⟨u, H', I', ru, b, rfl, qb⟩ := z
  cases ru
  exact wpAny_truthy_bool ⟨H', I', qb⟩
theorem op_inOwn (hs : PySem.W.findIn X.K (.ref C) "__contains__" = some (some (.ref f))) (hf : PySem.W.isFn X.K (.ref f) = true) (F : FnOk X.prog X.w X.K X.mg X.base CX n f fd ps sp) (hb : Binds X.K fd ps []) (hx : Passes CX X E) (hr : Room n X.A) :
    OpR X (compareOp .In) (rInOwn C sp E) := by
  intro pins s σ H x y v u Q I rx ry h
  obtain ⟨a, dx, fs, rfl, ha, q⟩ := h
  cases (show u = Value.ref a from ry)
  show wpAny _ _ (contains (.ref a) v >>= fun b => pure (Value.bool b)) _ _ _
  refine wpAny_bind (wpAny_mono (in_own (Q := fun b H' => Q (.bl b) H') hs hf F hb hx hr I rx ha q) (fun r s' z => ?_) fun _ _ z => z)
  obtain ⟨H', I', qb⟩ := z
  exact wpAny_pure ⟨.bl r, H', I', rfl, qb⟩
theorem op_notInOwn (hs : PySem.W.findIn X.K (.ref C) "__contains__" = some (some (.ref f))) (hf : PySem.W.isFn X.K (.ref f) = true) (F : FnOk X.prog X.w X.K X.mg X.base CX n f fd ps sp) (hb : Binds X.K fd ps []) (hx : Passes CX X E) (hr : Room n X.A) :
    OpR X (compareOp .NotIn) (rNotInOwn C sp E) := by
  intro pins s σ H x y v u Q I rx ry h
  obtain ⟨a, dx, fs, rfl, ha, q⟩ := h
  cases (show u = Value.ref a from ry)
  show wpAny _ _ (contains (.ref a) v >>= fun b => pure (Value.bool (!b))) _ _ _
  refine wpAny_bind (wpAny_mono (in_own (Q := fun b H' => Q (.bl (!b)) H') hs hf F hb hx hr I rx ha q) (fun r s' z => ?_) fun _ _ z => z)
  obtain ⟨H', I', qb⟩ := z
  exact wpAny_pure ⟨.bl (!r), H', I', rfl, qb⟩

/-! ### len(o) -/
def rLenOwn (C : Addr) (sp : Sp) (E : XK) : List V → Hp → VK → Prop := fun xs H Q => ∃ a dx fs, xs = [.ref a] ∧ H a = some (.ins C dx fs) ∧ sp [.ref a] H (fun z H' => ∃ i : Int, z = .int i ∧ (0 ≤ i ∧ i < 2 ^ 63) ∧ Q (.int i) H') E
theorem call_lenOwn (hs : PySem.W.findIn X.K (.ref C) "__len__" = some (some (.ref f))) (hf : PySem.W.isFn X.K (.ref f) = true) (F : FnOk X.prog X.w X.K X.mg X.base CX n f fd ps sp) (hb : Binds X.K fd ps []) (hx : Passes CX X E) (hr : Room (n + 1) X.A) :
    CallR X (.builtin "len") (rLenOwn C sp E) := by
  intro pins s σ H xs us Q I r h
  obtain ⟨a, dx, fs, rfl, ha, q⟩ := h
  obtain ⟨u, rfl, ru⟩ := r.one
  cases (show u = Value.ref a from ru)
  obtain ⟨ox, od, J⟩ := ins_inst I ha
  obtain ⟨m, hF⟩ := I.fr
  refine PySem.W.len_K hF I.ok.mod.kin J hs hf ?_
  refine wpAny_mono (own_call (vs := [.ref a]) (us := [.ref a]) ⟨hr.in1, rfl⟩ F hb hx I (.cons rfl .nil) q) (fun r s' z => ?_) fun _ _ z => z
  obtain ⟨v, H', I', rv, i, rfl, hi, qi⟩ := z
  obtain ⟨t, rfl⟩ := (show ∃ t, r = Value.int i t from rv)
  exact ⟨hi, .int i, H', I'.tok _, ⟨_, rfl⟩, qi⟩

/-! ### o & p, o | p, o - p of two instances of one class -/
def rBinOwn (C : Addr) (sp : Sp) (E : XK) : R2 := fun x y H Q => ∃ a dx fs b dy gs, x = .ref a ∧ y = .ref b ∧ H a = some (.ins C dx fs) ∧ H b = some (.ins C dy gs) ∧ sp [.ref a, .ref b] H Q E
theorem op_binOwn {op : Operator} (hc : PySem.W.selfFirst X.K C = true) (hs : PySem.W.findIn X.K (.ref C) (PySem.dunder op.info.2) = some (some (.ref f))) (hf : PySem.W.isFn X.K (.ref f) = true) (F : FnOk X.prog X.w X.K X.mg X.base CX n f fd ps sp) (hb : Binds X.K fd ps []) (hx : Passes CX X E) (hr : Room n X.A) :
    OpR X (binaryOp op) (rBinOwn C sp E) := by
  intro pins s σ H x y v u Q I rx ry h
  obtain ⟨a, dx, fs, b, dy, gs, rfl, rfl, ha, hb', q⟩ := h
  cases (show v = Value.ref a from rx)
  cases (show u = Value.ref b from ry)
  obtain ⟨ox, od, J⟩ := ins_inst I ha
  obtain ⟨oy, oe, J'⟩ := ins_inst I hb'
  obtain ⟨m, hF⟩ := I.fr
  refine PySem.W.binop_K hF I.ok.mod.kin J J'.type hc hs hf ?_
  refine wpAny_mono (own_call (vs := [.ref a, .ref b]) (us := [.ref a, .ref b]) ⟨hr, rfl⟩ F hb hx I (.cons rfl (.cons rfl .nil)) q) (fun r s' z => ?_) fun _ _ z => z
  obtain ⟨z', H', I', rz, qz⟩ := z
  exact SlX.cmpback rz ⟨z', H', I', rz, qz⟩
/-! ### o == p, o <= p .. of two instances of one class -/
theorem op_cmpOwn {op : CmpOp} (hop : ∀ a b, compareOp op a b = richCompare op a b) (hs : PySem.W.findIn X.K (.ref C) (cmpInfo op).2.1 = some (some (.ref f))) (hf : PySem.W.isFn X.K (.ref f) = true) (F : FnOk X.prog X.w X.K X.mg X.base CX n f fd ps sp) (hb : Binds X.K fd ps []) (hx : Passes CX X E) (hr : Room n X.A) :
    OpR X (compareOp op) (rBinOwn C sp E) := by
  intro pins s σ H x y v u Q I rx ry h
  obtain ⟨a, dx, fs, b, dy, gs, rfl, rfl, ha, hb', q⟩ := h
  cases (show v = Value.ref a from rx)
  cases (show u = Value.ref b from ry)
  obtain ⟨ox, od, J⟩ := ins_inst I ha
  obtain ⟨oy, oe, J'⟩ := ins_inst I hb'
  obtain ⟨m, hF⟩ := I.fr
  rw [hop]
  refine PySem.W.cmp_K (op := op) (tb := .ref C) hr.units0 hF I.ok.mod.kin J J'.type (by simp [PySem.W.notFirst]) hs hf ?_
  refine wpAny_mono (own_call (vs := [.ref a, .ref b]) (us := [.ref a, .ref b]) ⟨hr, rfl⟩ F hb hx I (.cons rfl (.cons rfl .nil)) q) (fun r s' z => ?_) fun _ _ z => z
  obtain ⟨z', H', I', rz, qz⟩ := z
  exact SlX.cmpback rz ⟨z', H', I', rz, qz⟩

/-! ### iter(t), list(o) where o's __iter__ gives an iterator over a tuple -/
def TitO (t it : Addr) (i : Nat) : HO := .ext fun h => h.IsTupleIter it t i
def TitE (it : Addr) : HO := .ext fun h => ∃ o, h.get? it = some o
theorem titO_ok {P : Program} {w : World} {H : Hp} {h : Heap} {t it : Addr} {i : Nat} (e : h.IsTupleIter it t i) : ObjOk P w H h it (TitO t it i) := by
  obtain ⟨o, ho, r⟩ := id e
  exact ⟨e, ⟨o, ho⟩, fun h1 h2 ⟨o1, q1, r1⟩ k => ⟨o1, k _ q1, r1⟩⟩
theorem titE_ok {P : Program} {w : World} {H : Hp} {h : Heap} {it : Addr} (e : ∃ o, h.get? it = some o) : ObjOk P w H h it (TitE it) := ⟨e, e, fun h1 h2 ⟨o1, q1⟩ k => ⟨o1, k _ q1⟩⟩
theorem titO_get {t it : Addr} {i : Nat} (I : Inv X pins σ H s) (e : H it = some (TitO t it i)) : s.heap.IsTupleIter it t i := (I.hok it _ e).1
def rIterT (K : PySem.W.Frag) : List V → Hp → VK → Prop := fun xs H Q => ∃ (t : Addr) (zs : List V), xs = [.ref t] ∧ SqT K H t zs ∧ ∀ it, H it = none → Q (.ref it) (upd H it (TitO t it 0))
theorem call_iterT : CallR X (.builtin "iter") (rIterT X.K) := by
  intro pins s σ H xs us Q I r h
  obtain ⟨t, zs, rfl, hq, q⟩ := h
  obtain ⟨u, rfl, ru⟩ := r.one
  cases (show u = Value.ref t from ru)
  obtain ⟨its, rv, p, hz⟩ := I.tuple hq
  refine KpX.call_iterTup (show s.heap.IsTuple t its.toArray from p) ?_
  exact ⟨.ref s.heap.objs.size, _, I.laid (t' := s.toks) (fun b u e => Heap.get?_push_of_some _ e) (Nat.le_refl _) (titO_ok ⟨_, Heap.get?_push_size _ rfl, rfl, rfl⟩), rfl, q _ (I.hok.fresh (Nat.le_refl _))⟩
/-- what __iter__ promises -/
def spIterT (K : PySem.W.Frag) (T : Addr → Hp → Addr → List V → Prop) : Sp := fun vs H Q _ => ∃ a t xs, vs = [.ref a] ∧ T a H t xs ∧ SqT K H t xs ∧ ∀ it, H it = none → Q (.ref it) (upd H it (TitO t it 0))
/-- what __len__ promises -/
def spLenT (T : Addr → Hp → Addr → List V → Prop) : Sp := fun vs H Q _ => ∃ a t xs, vs = [.ref a] ∧ T a H t xs ∧ xs.length ≤ sizeLine ∧ Q (.int xs.length) H
theorem titLoop {t it q : Addr} {xs : List V} {Rs : Result → Shared → Prop} {H0 : Hp} (hne : q ≠ it) (hh : A1.in1.handled = none) (hlen : xs.length ≤ sizeLine) (herr : ∀ e s, X.xe e s → Rs (.error e) s)
    (h0t : SqT X.K H0 t xs) (h0i : H0 it = none) (h0q : H0 q = none)
    (hdone : ∀ H' s', Inv X pins σ H' s' → Same H0 H' → H' q = some (.lst xs) → Rs (.ok (.ret .none)) s') :
    ∀ (m i : Nat) (H : Hp) (s : Shared), i + m = xs.length → Inv X pins σ H s → Same H0 H → H it = some (TitO t it i) → H q = some (.lst (xs.take i)) →
      codeAny (model X.prog X.w) A1 (.builtin "list.extend.loop" ⟨[.ref q, .ref it, .none], []⟩) Rs s := by
  intro m
  induction m with
  | zero =>
    intro i H s hi I sm hit hq
    refine codeAny_builtin PySem.F.entry_extend_loop ?_
    rw [Around.under_plainId PySem.F.plain_extend_loop _]
    show wpAny _ A1.in1 (pyNext (.ref it) >>= _) _ _ s
    obtain ⟨its, rv, p, hz⟩ := I.tuple (SqT.ext h0t sm)
    have hl := rv.length
    refine wpAny_bind (KpX.tupIt_end hh (titO_get I hit) (show s.heap.IsTuple t its.toArray from p) (by simp; omega) fun h' eb ho => ?_)
    have mu : Mut (H it) := by rw [hit]; exact True.intro
    have I2 : Inv X pins σ (upd H it (TitE it)) { s with heap := h' } := I.write (x := it) (e := it) (t' := s.toks) mu (.inl rfl) (fun b o nb z => eb b o nb z) ho (titE_ok ho)
    refine wpAny_pure (hdone _ _ I2 (fun b o e => ?_) ?_)
    · rw [upd_ne (ne_of_none e h0i)]
      exact sm b o e
    · rw [upd_ne hne, hq, List.take_of_length_le (by omega)]
  | succ m ih =>
    intro i H s hi I sm hit hq
    refine codeAny_builtin PySem.F.entry_extend_loop ?_
    rw [Around.under_plainId PySem.F.plain_extend_loop _]
    show wpAny _ A1.in1 (pyNext (.ref it) >>= _) _ _ s
    have hlt : i < xs.length := by omega
    obtain ⟨its, rv, p, hz⟩ := I.tuple (SqT.ext h0t sm)
    obtain ⟨u, hu, ru⟩ := rv.get (List.getElem?_eq_getElem hlt)
    refine wpAny_bind (wpAny_pyNext_tuple_item (titO_get I hit) (show s.heap.IsTuple t its.toArray from p) (x := u) (by simpa using hu) fun h' st' sb => ?_)
    have mu : Mut (H it) := by rw [hit]; exact True.intro
    have ho : ∃ o, h'.get? it = some o := let ⟨o, e, _⟩ := id st'; ⟨o, e⟩
    have I2 : Inv X pins σ (upd H it (TitO t it (i + 1))) { s with heap := h' } := I.write (x := it) (e := it) (t' := s.toks) mu (.inl rfl) (fun b o nb z => (sb.2 b nb).trans z) ho (titO_ok st')
    have hq2 : upd H it (TitO t it (i + 1)) q = some (.lst (xs.take i)) := by rw [upd_ne hne]; exact hq
    obtain ⟨z, its2, k, r2, hl, e⟩ := I2.lstM hq2
    show wpAny _ A1.in1 (updateSeq q (·.push u) >>= _) _ _ _
    have lt2 : its2.length = i := by rw [← hl, List.length_take]; omega
    refine wpAny_bind (wpAny_updateSeq e rfl (wpAny_pure ⟨plainId_quiet PySem.F.plain_extend_loop _, ?_⟩) (by rw [List.size_toArray]; omega) (by show (its2.toArray.push u).size ≤ sizeLine + 1; rw [Array.size_push, List.size_toArray]; omega))
    have I3 := I2.lset (f := (·.push u)) (its' := its2 ++ [u]) (ys := xs.take (i + 1)) (t' := s.toks) hq2 e (by simp) (by rw [List.take_add_one, List.getElem?_eq_getElem hlt]; exact r2.append (.cons ru .nil)) (by rw [List.length_take]; omega)
    refine ih (i + 1) _ _ (by omega) I3 (fun b o e => ?_) ?_ upd_same
    · rw [upd_ne (ne_of_none e h0q), upd_ne (ne_of_none e h0i)]
      exact sm b o e
    · rw [upd_ne hne.symm]
      exact upd_same

/-- list(o), o of a class with __len__ whose __iter__ gives an iterator over a tuple -/
def rListIt (K : PySem.W.Frag) (C : Addr) (T : Addr → Hp → Addr → List V → Prop) : List V → Hp → VK → Prop := fun vs H Q => ∃ a dx fs t xs, vs = [.ref a] ∧ H a = some (.ins C dx fs) ∧ T a H t xs ∧ SqT K H t xs ∧
  ∀ q H', H q = none → Same H H' → H' q = some (.lst xs) → Q (.ref q) H'
theorem listIt_extend {T : Addr → Hp → Addr → List V → Prop} {fi fl : Addr} {fdI fdL : FuncData} {psI psL : List Str} {q t : Addr} {xs : List V} {Rs : Result → Shared → Prop} {fs : List (Str × V)} {G : Hp}
    (hi : PySem.W.findIn X.K (.ref C) "__iter__" = some (some (.ref fi))) (hif : PySem.W.isFn X.K (.ref fi) = true) (hl : PySem.W.findIn X.K (.ref C) "__len__" = some (some (.ref fl))) (hlf : PySem.W.isFn X.K (.ref fl) = true)
    (FI : FnOk X.prog X.w X.K X.mg X.base CX0 n fi fdI psI (spIterT X.K T)) (bI : Binds X.K fdI psI []) (FL : FnOk X.prog X.w X.K X.mg X.base CX0 n fl fdL psL (spLenT T)) (bL : Binds X.K fdL psL []) (Tm : ∀ a H H' t xs, Same H H' → T a H t xs → T a H' t xs)
    (sb : Sub X (n + 1) A1.in1) (hh : A1.in1.handled = none) (herr : ∀ e s, X.xe e s → Rs (.error e) s) (I : Inv X pins σ G s) (fr : H q = none) (eG : G = upd H q (.lst [])) (ha : H a = some (.ins C dx fs)) (hT : T a H t xs) (hS : SqT X.K H t xs)
    (hdone : ∀ H' s', Inv X pins σ H' s' → Same H H' → H' q = some (.lst xs) → Rs (.ok (.ret .none)) s') :
    wpAny (model X.prog X.w) A1.in1 (Builtin.List.listExtendWith (.ref q) (.ref a) .none)
      (fun fin s' => match fin with
        | .done f => Rs (.ok f) s'
        | .again c' => c'.quiet = true ∧ codeAny (model X.prog X.w) A1 c' Rs s') (fun e s' => Rs (.error e) s') s := by
  have sG : Same H G := fun b o e => by rw [eG, upd_ne (ne_of_none e fr)]; exact e
  have gq : G q = some (.lst []) := by rw [eG, upd_same]
  have ga := sG _ _ ha
  have qa : q ≠ a := ne_of gq ga (fun z => nomatch z)
  obtain ⟨ox, od, J⟩ := ins_inst I ga
  obtain ⟨m0, hF⟩ := I.fr
  unfold Builtin.List.listExtendWith
  refine wpAny_bind (J.type.here ?_)
  have k1 : Builtin.List.listSameRef (.ref q) (.ref a) = false := by simp [Builtin.List.listSameRef, qa]
  simp only [k1, show (Value.ref C == Value.type "list") = false from rfl, show (Value.ref C == Value.type "tuple") = false from rfl, Bool.or_false, Bool.false_eq_true, if_false]
  refine wpAny_bind (PySem.W.owit_iter hF I.ok.mod.kin J hi hif (wpAny_mono (own_call (vs := [.ref a]) (us := [.ref a]) (Q := fun v H' => ∃ it, v = .ref it ∧ G it = none ∧ H' = upd G it (TitO t it 0)) (sb.mono (Nat.le_succ _)) FI bI pass0 I (.cons rfl .nil) ⟨a, t, xs, rfl, Tm _ _ _ _ _ sG hT, SqT.ext hS sG, fun it z => ⟨it, rfl, z, rfl⟩⟩) (fun u s' z => ?_) fun e s' z => herr e s' z))
  obtain ⟨v, H', I', rv, it, rfl, nit, rfl⟩ := z
  cases rv
  have sG' : Same G (upd G it (TitO t it 0)) := fun b o e => by rw [upd_ne (ne_of_none e nit)]; exact e
  have nqi : q ≠ it := ne_of_none gq nit
  unfold PySem.W.OwitIt
  refine wpAny_specialOf (titO_get I' upd_same).typeIs F.slot_tuple_iterator_next.lookup ?_
  obtain ⟨ox', od', J'⟩ := ins_inst I' (sG' _ _ ga)
  refine wpAny_bind (wpAny_holding (KpX.hint_own I'.kIn J' hl ?_))
  obtain ⟨m1, hF'⟩ := I'.fr
  have hxl : xs.length ≤ sizeLine := (I'.tuple (SqT.ext hS (sG.trans sG'))).choose_spec.2.2
  refine PySem.W.len_K hF' I'.ok.mod.kin J' hl hlf ?_
  refine wpAny_mono (own_call0 (vs := [.ref a]) (us := [.ref a]) (Q := fun v H' => v = .int xs.length ∧ H' = upd G it (TitO t it 0)) sb.in1 FL bL I' (.cons rfl .nil) ⟨a, t, xs, rfl, Tm _ _ _ _ _ (sG.trans sG') hT, hxl, rfl, rfl⟩) (fun r s2 z => ?_) fun _ _ z => z
  obtain ⟨w, H2, I2, rw2, rfl, rfl⟩ := z
  obtain ⟨tk, rfl⟩ := (show ∃ t, r = Value.int xs.length t from rw2)
  have hsz : (xs.length : Int) < 2 ^ 63 := by have := sizeLine_eq; omega
  refine ⟨⟨by omega, hsz⟩, _, _, rfl, by omega, ?_⟩
  have I3 := I2.tok (s2.toks + 1)
  have gq2 : upd G it (TitO t it 0) q = some (.lst []) := by rw [upd_ne nqi]; exact gq
  have hit0 : H it = none := sG.free nit
  have go : ∀ s3, Inv X pins σ (upd G it (TitO t it 0)) s3 → codeAny (model X.prog X.w) A1 (.builtin "list.extend.loop" ⟨[.ref q, .ref it, .none], []⟩) Rs s3 := fun s3 J3 =>
    titLoop nqi hh hxl herr hS hit0 fr hdone xs.length 0 _ _ (by omega) J3 (sG.trans sG') upd_same (by rw [List.take_zero]; exact gq2)
  refine wpAny_ite_split (fun _ => ?_) (fun _ => wpAny_pure ⟨plainId_quiet PySem.F.plain_extend_loop _, go _ I3⟩)
  refine wpAny_bind (wpAny_rule ?_)
  refine wpAny_bind ?_
  show wpAny _ _ (updateSeq q (·.push .none) >>= fun _ => updateSeq q (·.pop)) _ _ _
  obtain ⟨z3, its, k, r3, hl3, e3⟩ := I3.lstM gq2
  cases r3
  refine wpAny_bind (wpAny_updateSeq e3 rfl ?_)
  have I4 := I3.lset (f := (·.push Value.none)) (its' := [Value.none]) (ys := [.non]) (t' := s2.toks + 1) gq2 e3 (by simp) (.cons rfl .nil) (by rw [List.length_singleton, sizeLine_eq]; decide)
  obtain ⟨z4, its4, k4, r4, hl4, e4⟩ := I4.lstM upd_same
  obtain ⟨u4, rfl, ru4⟩ := r4.one
  refine wpAny_updateSeq e4 rfl (wpAny_pure ⟨plainId_quiet PySem.F.plain_extend_loop _, go _ ?_⟩) (by show 1 ≤ sizeLine; rw [sizeLine_eq]; decide) (by show 0 ≤ sizeLine + 1; exact Nat.zero_le _)
  have I5 := I4.lset (f := (·.pop)) (its := [u4]) (its' := []) (ys := []) (t' := s2.toks + 1) upd_same e4 (by rfl) .nil (Nat.zero_le _)
  rw [upd_upd] at I5
  have back : upd (upd G it (TitO t it 0)) q (.lst []) = upd G it (TitO t it 0) := by
    funext b
    by_cases hb : b = q
    · rw [hb, upd_same, gq2]
    · rw [upd_ne hb]
  rw [back] at I5
  exact I5
theorem call_listIt {T : Addr → Hp → Addr → List V → Prop} {fi fl : Addr} {fdI fdL : FuncData} {psI psL : List Str}
    (hi : PySem.W.findIn X.K (.ref C) "__iter__" = some (some (.ref fi))) (hif : PySem.W.isFn X.K (.ref fi) = true) (hl : PySem.W.findIn X.K (.ref C) "__len__" = some (some (.ref fl))) (hlf : PySem.W.isFn X.K (.ref fl) = true)
    (FI : FnOk X.prog X.w X.K X.mg X.base CX0 n fi fdI psI (spIterT X.K T)) (bI : Binds X.K fdI psI []) (FL : FnOk X.prog X.w X.K X.mg X.base CX0 n fl fdL psL (spLenT T)) (bL : Binds X.K fdL psL []) (Tm : ∀ a H H' t xs, Same H H' → T a H t xs → T a H' t xs)
    (hr : Room (n + 3) X.A) (hc : X.calm = true) : CallR X (.type "list") (rListIt X.K C T) := by
  intro pins s σ H vs us Q I rv h
  obtain ⟨a, dx, fs, t, xs, rfl, ha, hT, hS, q⟩ := h
  obtain ⟨u, rfl, ru⟩ := rv.one
  cases (show u = Value.ref a from ru)
  have sb : Sub X (n + 1) X.A.in1.in1 := Sub.in1 (Sub.in1 (⟨hr, rfl⟩ : Sub X (n + 3) X.A))
  have hh : X.A.in1.in1.handled = none := I.ok.hd hc
  refine callType_codes (Q₁ := fun obj s₁ => obj = .ref s.heap.objs.size ∧ s₁ = { s with heap := s.heap.push { cls := .type "list", data := .seq #[] } }) PySem.F.called_list (PySem.F.typeCall_list_1 _) PySem.F.entry_list_init (code_list_new _ ⟨rfl, rfl⟩) fun obj s₁ z => ?_
  obtain ⟨rfl, rfl⟩ := z
  have at_ : (s.heap.push { cls := .type "list", data := .seq #[] }).get? s.heap.objs.size = some { cls := .type "list", data := .seq #[] } := Heap.get?_push_size _ rfl
  refine ⟨⟨_, at_, rfl⟩, PySem.F.args_list_init_2 _ _, ?_⟩
  have fr := I.hok.fresh (Nat.le_refl s.heap.objs.size)
  have I1 := I.lnew (its := []) (t' := s.toks) .nil (Nat.zero_le _)
  show wpAny _ _ (do let old ← Builtin.List.listItems (.ref s.heap.objs.size); Builtin.List.listUpdate (.ref s.heap.objs.size) (fun _ => #[]); letGo old.toList.reverse; Builtin.List.listExtendWith (.ref s.heap.objs.size) (.ref a) .none) _ _ _
  unfold Builtin.List.listItems
  refine wpAny_bind (wpAny_bind (wpAny_seqItems at_ rfl (wpAny_pure ?_)))
  show wpAny _ _ (updateSeq s.heap.objs.size (fun _ => #[]) >>= fun _ => letGo (#[] : Array Value).toList.reverse >>= fun _ => Builtin.List.listExtendWith (.ref s.heap.objs.size) (.ref a) .none) _ _ _
  refine wpAny_bind (wpAny_updateSeq at_ rfl (wpAny_bind (wpAny_letGo ?_)))
  have I2 := I1.lset (f := fun _ => #[]) (its := []) (its' := []) (ys := []) (t' := s.toks) upd_same at_ rfl .nil (Nat.zero_le _)
  rw [upd_upd] at I2
  exact listIt_extend (A1 := X.A.in1) (Rs := wants (fun r s₂ => r = .none ∧ EP X pins σ Q (.ref s.heap.objs.size) s₂) X.xe) hi hif hl hlf FI bI FL bL Tm sb hh (fun e s' z => z) I2 fr rfl ha hT hS
    (fun H' s' J sm e => ⟨rfl, .ref s.heap.objs.size, H', J, rfl, q _ H' fr sm e⟩)
end
end L2

set_option Elab.async false
set_option linter.all false
set_option maxRecDepth 100000
namespace KP
open PySem PySem.Spec PyProof.Rows L2
abbrev S := L2.St
section
variable {σ : S} {H : Hp} {Q : VK} {QT : Bool → Hp → Prop} {QA : List V → Hp → Prop} {v x y : V} {ta tb te tl : TE} {t u : TT} {r : R2} {i : Nat} {D : Ends} {s1 s2 : TS} {g : TG} {K : PySem.W.Frag} {ar : TA} {vs : List V} {sp : Sp} {E : XK}
theorem i_var (h : σ[i]? = some (some v)) (q : Q v H) : tVar i σ H Q := ⟨v, h, q⟩
theorem i_c (q : Q v H) : tC v σ H Q := q
theorem i_op (q : ta σ H fun x H1 => tb σ H1 fun y H2 => r x y H2 Q) : tOp r ta tb σ H Q := q
theorem i_un {r : V → Hp → VK → Prop} (q : ta σ H fun x H1 => r x H1 Q) : tUn r ta σ H Q := q
theorem i_test (q : te σ H fun x H' => ∃ k, x = .bl k ∧ QT k H') : tTest te σ H QT := q
theorem i_B (q : te σ H fun x H' => ∃ k, x = .bl k ∧ QT k H') : tB te σ H QT := q
theorem i_and (q : t σ H fun c H1 => if c = true then u σ H1 QT else QT false H1) : tAnd t u σ H QT := q
theorem i_or (q : t σ H fun c H1 => if c = true then QT true H1 else u σ H1 QT) : tOr t u σ H QT := q
theorem i_not (q : t σ H fun c H1 => QT (!c) H1) : tNot t σ H QT := q
theorem i_andV (q : ta σ H fun x H1 => ∃ c, x = .bl c ∧ if c = true then tb σ H1 Q else Q (.bl false) H1) : tAndV ta tb σ H Q := q
theorem i_orV (q : ta σ H fun x H1 => ∃ c, x = .bl c ∧ if c = true then Q (.bl true) H1 else tb σ H1 Q) : tOrV ta tb σ H Q := q
theorem i_notV (q : ta σ H fun x H1 => ∃ c, x = .bl c ∧ Q (.bl (!c)) H1) : tNotV ta σ H Q := q
theorem i_tif (q : t σ H fun c H1 => if c = true then ta σ H1 Q else tb σ H1 Q) : tIf t ta tb σ H Q := q
theorem i_exb {b : Bool} {A : Bool → Prop} (q : A b) : ∃ k, V.bl b = .bl k ∧ A k := ⟨b, rfl, q⟩
theorem i_seq (q : s1 { D with nx := s2 D } σ H) : tSeq s1 s2 D σ H := q
theorem i_asg (q : te σ H fun x H1 => g x σ H1 D.nx) : tAsg te g D σ H := q
theorem i_gname {QN : S → Hp → Prop} (q : QN (σ.set i (some v)) H) : gName i v σ H QN := q
theorem i_drop (q : te σ H fun _ H1 => D.nx σ H1) : tDrop te D σ H := q
theorem i_ret (q : te σ H D.rt) : tRet te D σ H := q
theorem i_retN (q : D.rt .non H) : tRetN D σ H := q
theorem i_next (q : D.nx σ H) : tNext D σ H := q
theorem i_ifS (q : t σ H fun b H1 => if b = true then s1 D σ H1 else s2 D σ H1) : tIfS t s1 s2 D σ H := q
theorem i_nil (q : QA [] H) : tNil σ H QA := q
theorem i_cons (q : te σ H fun x H1 => ar σ H1 fun xs H2 => QA (x :: xs) H2) : tCons te ar σ H QA := q
theorem i_cb {r : List V → Hp → VK → Prop} (q : ar σ H fun vs H1 => r vs H1 Q) : tCB r ar σ H Q := q
theorem i_call {dvs : List V} (q : ar σ H fun vs H1 => sp (vs ++ dvs) H1 Q E) : tCall sp dvs E ar σ H Q := q
theorem i_rI0 {g : Int → Int → V} {i j : Int} (q : Q (g i j) H) : rI0 g (.int i) (.int j) H Q := ⟨i, j, rfl, rfl, q⟩
theorem i_rI {C : Int → Int → Prop} {g : Int → Int → V} {i j : Int} (c : C i j) (q : Q (g i j) H) : rI C g (.int i) (.int j) H Q := ⟨i, j, rfl, rfl, c, q⟩
theorem i_rU {g : Int → V} {i : Int} (q : Q (g i) H) : rU g (.int i) H Q := ⟨i, rfl, q⟩
theorem i_eq (h : scal x y = true) (q : Q (.bl (decide (x = y))) H) : rEq x y H Q := ⟨h, q⟩
theorem i_ne (h : scal x y = true) (q : Q (.bl (!decide (x = y))) H) : rNe x y H Q := ⟨h, q⟩
theorem i_bm {T : String} {r : V → List V → Hp → VK → Prop} (q : te σ H fun x H1 => tyV K T x H1 ∧ ar σ H1 fun xs H2 => r x xs H2 Q) : tBM K T r te ar σ H Q := q
theorem i_append {l : Addr} {xs : List V} (h : H l = some (.lst xs)) (z : xs.length ≤ 1000) (q : Q .non (upd H l (.lst (xs ++ [y])))) : rAppend (.ref l) [y] H Q := ⟨l, xs, y, rfl, rfl, h, small1000 z, q⟩
theorem i_tyL {l : Addr} {xs : List V} {A : Prop} (h : SqL K H l xs) (q : A) : tyV K "list" (.ref l) H ∧ A := ⟨.inl ⟨rfl, _, h⟩, q⟩
theorem i_ixL {p : Addr} {xs : List V} {j : Int} (h : SqL K H p xs) (e : atI xs j = some v) (q : Q v H) : rIxL K (.ref p) (.int j) H Q := ⟨p, xs, j, v, rfl, rfl, h, e, q⟩
theorem i_ixT {p : Addr} {xs : List V} {j : Int} (h : SqT K H p xs) (e : atI xs j = some v) (q : Q v H) : rIxT K (.ref p) (.int j) H Q := ⟨p, xs, j, v, rfl, rfl, h, e, q⟩
theorem i_fld {a C dx : Addr} {fs : List (Str × V)} {f : Str} (q : te σ H fun x H1 => ∃ a C dx fs v, x = .ref a ∧ H1 a = some (.ins C dx fs) ∧ Cls K C ∧ NoAttr K C f ∧ fs.lookup f = some v ∧ Q v H1) : tFld K te f σ H Q := q
theorem i_yes {Q : Bool → Hp → Prop} (q : Q true H) : tYes σ H Q := q
end
theorem same_new {H : Hp} {p : Addr} {o : HO} (h : H p = none) : Same H (upd H p o) := fun b x e => by
  rw [upd_ne (ne_of_none e h)]
  exact e
/-- what is ours changes -/
theorem same_own {H H' : Hp} {p : Addr} {o : HO} (h : H p = none) (sm : Same H H') : Same H (upd H' p o) := fun b x e => by
  rw [upd_ne (ne_of_none e h)]
  exact sm b x e
/-- the names that are still the built-ins' -/
structure Blt (mg : Str → Option Value) : Prop where
  len : mg "len" = none
  int : mg "int" = none
  abs : mg "abs" = none
  range : mg "range" = none
  list : mg "list" = none
  tuple : mg "tuple" = none
  isinstance : mg "isinstance" = none
  iter : mg "iter" = none
  all : mg "all" = none
  any : mg "any" = none
  bool : mg "bool" = none
  str : mg "str" = none
  sorted : mg "sorted" = none
  ValueError : mg "ValueError" = none
  dict : mg "dict" = none
  enumerate : mg "enumerate" = none
  set : mg "set" = none
/-- a def of the module, called by its name -/
structure OkF (P : Program) (w : World) (K : PySem.W.Frag) (mg : Str → Option Value) (base : Heap) (CX : CXT) (k : Nat) (x : Str) (ps : List Str) (sp : Sp) : Prop where
  ex : ∃ f fd, mg x = some (.ref f) ∧ PySem.W.keepIn K (.ref f) = true ∧ Binds K fd ps [] ∧ FnOk P w K mg base CX k f fd ps sp
/-- where a def of the module stands -/
structure FnAt (K : PySem.W.Frag) (mg : Str → Option Value) (x : Str) (st : Stmt) (ps : List Str) : Prop where
  ex : ∃ f fd, mg x = some (.ref f) ∧ Binds K fd ps [] ∧ Fun K x x st f fd
theorem FnAt.ok {P : Program} {w : World} {K : PySem.W.Frag} {mg : Str → Option Value} {base : Heap} {CX : CXT} {k : Nat} {x : Str} {st : Stmt} {ps : List Str} {sp : Sp} (A : FnAt K mg x st ps) (h : ∀ f fd, Fun K x x st f fd → FnOk P w K mg base CX k f fd ps sp) : OkF P w K mg base CX k x ps sp := by
  obtain ⟨f, fd, e, b, F⟩ := A.ex
  exact ⟨f, fd, e, F.kp, b, h f fd F⟩
section
variable {X : Cx} {CX : CXT} {k : Nat} {ps : List Str} {sp : Sp} {E : XK} {x : Str} {p pos : Pos} {e : Expr} {es : List Expr} {t : TA}
theorem pe_callO (O : OkF X.prog X.w X.K X.mg X.base CX k x ps sp) (hr : Room k X.A) (ha : PA X (e :: es) t) (hx : Passes CX X E := by exact pass0) (hg : Gl X x := by rfl)
    (he : starEach (e :: es) X.env = (false, eval e X.env) :: starEach es X.env := by rfl) (hpl : (backTo pos (starEach es X.env)).any (·.1) = false := by rfl) (hdb : (x == ("__debug__" : Str)) = false := by decide) :
    PE X (.Call (.Name x p) (e :: es) [] pos) (tCall sp [] E t) := by
  obtain ⟨f, fd, hm, hk, hb, F⟩ := O.ex
  exact pe_call F hr hg hm hk hb .nil hx ha hdb he hpl
theorem pe_callO0 (O : OkF X.prog X.w X.K X.mg X.base CX k x ps sp) (hr : Room k X.A) (hx : Passes CX X E := by exact pass0) (hg : Gl X x := by rfl) (hdb : (x == ("__debug__" : Str)) = false := by decide) :
    PE X (.Call (.Name x p) [] [] pos) (tCall sp [] E tNil) := by
  obtain ⟨f, fd, hm, hk, hb, F⟩ := O.ex
  exact pe_call0 F hr hg hm hk hb .nil hx hdb
end
theorem _root_.L2.Room.units1 {A : Around} {k : Nat} (hr : Room k A) : A.units + 65 < cLine := by have := hr.un; omega
theorem hu1 {A : Around} {k : Nat} (hr : Room k A) : A.units + 65 < cLine := by have := hr.un; omega

/-! ### calls by names of their own -/
section
variable {X : Cx} {K : PySem.W.Frag} {H : Hp} {Q : VK} {a : Addr} {xs : List V} {i : Int} {b : Bool} {z : Str}
def rLenL (K : PySem.W.Frag) : List V → Hp → VK → Prop := fun vs H Q => ∃ p ys, vs = [V.ref p] ∧ SqL K H p ys ∧ Q (.int ys.length) H
def rLenT (K : PySem.W.Frag) : List V → Hp → VK → Prop := fun vs H Q => ∃ p ys, vs = [V.ref p] ∧ SqT K H p ys ∧ Q (.int ys.length) H
theorem call_lenL : CallR X (.builtin "len") (rLenL X.K) := fun pins s σ H xs us Q I r ⟨p, ys, e, h, q⟩ => call_len_seq pins s σ H xs us Q I r ⟨p, ys, e, .inl h, q⟩
theorem call_lenT : CallR X (.builtin "len") (rLenT X.K) := fun pins s σ H xs us Q I r ⟨p, ys, e, h, q⟩ => call_len_seq pins s σ H xs us Q I r ⟨p, ys, e, .inr h, q⟩
theorem i_lenL (h : SqL K H a xs) (q : Q (.int xs.length) H) : rLenL K [.ref a] H Q := ⟨a, xs, rfl, h, q⟩
theorem i_lenT (h : SqT K H a xs) (q : Q (.int xs.length) H) : rLenT K [.ref a] H Q := ⟨a, xs, rfl, h, q⟩
def rIntI : List V → Hp → VK → Prop := fun vs H Q => ∃ i, vs = [V.int i] ∧ Q (.int i) H
def rIntB : List V → Hp → VK → Prop := fun vs H Q => ∃ k, vs = [V.bl k] ∧ Q (.int (if k then 1 else 0)) H
theorem call_intI : CallR X (.type "int") rIntI := fun pins s σ H xs us Q I r h => call_int1 pins s σ H xs us Q I r (.inl h)
theorem call_intB : CallR X (.type "int") rIntB := fun pins s σ H xs us Q I r h => call_int1 pins s σ H xs us Q I r (.inr h)
theorem i_intI (q : Q (.int i) H) : rIntI [.int i] H Q := ⟨i, rfl, q⟩
theorem i_intB (q : Q (.int (if b then 1 else 0)) H) : rIntB [.bl b] H Q := ⟨b, rfl, q⟩
def rAbsI : List V → Hp → VK → Prop := fun vs H Q => ∃ i, vs = [V.int i] ∧ Q (.int (if i < 0 then -i else i)) H
theorem call_absI : CallR X (.builtin "abs") rAbsI := fun pins s σ H xs us Q I r h => call_abs pins s σ H xs us Q I r h
theorem i_absI (q : Q (.int (if i < 0 then -i else i)) H) : rAbsI [.int i] H Q := ⟨i, rfl, q⟩
/-- list(l), list(t); tuple(l) -/
def rListL (K : PySem.W.Frag) : List V → Hp → VK → Prop := fun vs H Q => ∃ p ys, vs = [V.ref p] ∧ SqL K H p ys ∧ ∀ l H', H l = none → Same H H' → H' l = some (.lst ys) → Q (.ref l) H'
def rListT (K : PySem.W.Frag) : List V → Hp → VK → Prop := fun vs H Q => ∃ p ys, vs = [V.ref p] ∧ SqT K H p ys ∧ ∀ l H', H l = none → Same H H' → H' l = some (.lst ys) → Q (.ref l) H'
def rTupL (K : PySem.W.Frag) : List V → Hp → VK → Prop := fun vs H Q => ∃ p ys, vs = [V.ref p] ∧ SqL K H p ys ∧ ∀ l H', H l = none → Same H H' → H' l = some (.tup ys) → Q (.ref l) H'
def rTupT (K : PySem.W.Frag) : List V → Hp → VK → Prop := fun vs H Q => ∃ p ys, vs = [V.ref p] ∧ SqT K H p ys ∧ Q (.ref p) H
theorem call_listL : CallR X (.type "list") (rListL X.K) := fun pins s σ H xs us Q I r ⟨p, ys, e, h, q⟩ => call_list_of pins s σ H xs us Q I r ⟨p, ys, e, .inl h, fun l hl => q l _ hl (same_new hl) upd_same⟩
theorem call_listT : CallR X (.type "list") (rListT X.K) := fun pins s σ H xs us Q I r ⟨p, ys, e, h, q⟩ => call_list_of pins s σ H xs us Q I r ⟨p, ys, e, .inr h, fun l hl => q l _ hl (same_new hl) upd_same⟩
theorem call_tupL : CallR X (.type "tuple") (rTupL X.K) := fun pins s σ H xs us Q I r ⟨p, ys, e, h, q⟩ => call_tuple_of pins s σ H xs us Q I r ⟨p, ys, e, .inl ⟨h, fun l hl => q l _ hl (same_new hl) upd_same⟩⟩
theorem call_tupT : CallR X (.type "tuple") (rTupT X.K) := fun pins s σ H xs us Q I r ⟨p, ys, e, h, q⟩ => call_tuple_of pins s σ H xs us Q I r ⟨p, ys, e, .inr ⟨h, q⟩⟩
theorem i_listL (h : SqL K H a xs) (q : ∀ l H', H l = none → Same H H' → H' l = some (.lst xs) → Q (.ref l) H') : rListL K [.ref a] H Q := ⟨a, xs, rfl, h, q⟩
theorem i_listT (h : SqT K H a xs) (q : ∀ l H', H l = none → Same H H' → H' l = some (.lst xs) → Q (.ref l) H') : rListT K [.ref a] H Q := ⟨a, xs, rfl, h, q⟩
theorem i_tupL (h : SqL K H a xs) (q : ∀ l H', H l = none → Same H H' → H' l = some (.tup xs) → Q (.ref l) H') : rTupL K [.ref a] H Q := ⟨a, xs, rfl, h, q⟩
theorem i_tupT (h : SqT K H a xs) (q : Q (.ref a) H) : rTupT K [.ref a] H Q := ⟨a, xs, rfl, h, q⟩
end
section
variable {K : PySem.W.Frag} {σ : S} {H : Hp} {Q : VK} {ar : TA} {te : TE} {xs : List V}
/-- a new list, a new tuple: the heap behind it by what it holds -/
def RawL (Q : VK) (xs : List V) (H1 : Hp) : Prop := xs.length ≤ sizeLine ∧ ∀ p, H1 p = none → Q (.ref p) (upd H1 p (.lst xs))
def RawT (Q : VK) (xs : List V) (H1 : Hp) : Prop := xs.length ≤ sizeLine ∧ ∀ p, H1 p = none → Q (.ref p) (upd H1 p (.tup xs))
theorem i_tup (q : ar σ H (RawT Q)) : tTup ar σ H Q := q
theorem i_lst (q : ar σ H (RawL Q)) : tLst ar σ H Q := q
theorem fr_tup {H1 : Hp} (z : xs.length ≤ 1000) (h : ∀ p H2, H1 p = none → Same H1 H2 → H2 p = some (.tup xs) → Q (.ref p) H2) : RawT Q xs H1 := ⟨Nat.le_of_lt (small1000 z), fun p hp => h p _ hp (same_new hp) upd_same⟩
theorem fr_lst {H1 : Hp} (z : xs.length ≤ 1000) (h : ∀ p H2, H1 p = none → Same H1 H2 → H2 p = some (.lst xs) → Q (.ref p) H2) : RawL Q xs H1 := ⟨Nat.le_of_lt (small1000 z), fun p hp => h p _ hp (same_new hp) upd_same⟩
end
theorem Same.at {G H : Hp} {a : Addr} {o : HO} (s : Same G H) (g : G a = some o) : H a = some o := s a o g
theorem Same.sl {K : PySem.W.Frag} {G H : Hp} {a : Addr} {xs : List V} (s : Same G H) (g : SqL K G a xs) : SqL K H a xs := s.seq g
theorem Same.st {K : PySem.W.Frag} {G H : Hp} {a : Addr} {xs : List V} (s : Same G H) (g : SqT K G a xs) : SqT K H a xs := SqT.ext g s
theorem sl_of {K : PySem.W.Frag} {H : Hp} {a : Addr} {xs : List V} (h : H a = some (.lst xs)) : SqL K H a xs := .inl (.inl h)
theorem st_of {K : PySem.W.Frag} {H : Hp} {a : Addr} {xs : List V} (h : H a = some (.tup xs)) : SqT K H a xs := .inl (.inl h)

theorem i_cut {t u : TS} {D : Ends} {σ : S} {H : Hp} (Mid : S → Hp → Prop) (a : t { D with nx := Mid } σ H) (b : ∀ σ' H', Mid σ' H' → u D σ' H') : Evl.tCut t u D σ H := ⟨Mid, a, b⟩
section
variable {K : PySem.W.Frag} {ta : TA} {tl : TE} {D : Ends} {σ : S} {H : Hp} {i : Nat} {tb : TS} {g : TG}
def RawFor (g : TG) (tb : TS) (D : Ends) (σ : S) (J : It) (H1 : Hp) : Prop := tFor (fun _ _ R => R J H1) g tb D σ H1
def RawR1 (g : TG) (tb : TS) (D : Ends) (σ : S) (vs : List V) (H1 : Hp) : Prop := ∃ j : Int, vs = [.int j] ∧ -(2 ^ 62) ≤ j ∧ j < 2 ^ 62 ∧ RawFor g tb D σ (Itr 0 j.toNat) H1
def RawFL (K : PySem.W.Frag) (g : TG) (tb : TS) (D : Ends) (σ : S) (x : V) (H1 : Hp) : Prop := ∃ a, x = .ref a ∧ (∃ xs, SqL K H1 a xs) ∧ RawFor g tb D σ (Itl K a) H1
def RawFT (K : PySem.W.Frag) (g : TG) (tb : TS) (D : Ends) (σ : S) (x : V) (H1 : Hp) : Prop := ∃ a, x = .ref a ∧ (∃ xs, SqT K H1 a xs) ∧ RawFor g tb D σ (Itt K a) H1
theorem i_forR1 (q : ta σ H (RawR1 g tb D σ)) : tFor (iRng1 ta) g tb D σ H := q
theorem i_forL (q : tl σ H (RawFL K g tb D σ)) : tFor (iList K tl) g tb D σ H := q
theorem i_forT (q : tl σ H (RawFT K g tb D σ)) : tFor (iTup K tl) g tb D σ H := q
/-- for k in range(j): the invariant, its start, a turn, the end -/
theorem raw_r1 {j : Int} (h1 : 0 ≤ j) (h2 : j ≤ 1000000) (Pv : Nat → S → Hp → Prop) (p0 : Pv 0 σ H) (hs : ∀ (n : Nat) σ H, (n : Int) < j → Pv n σ H → tb { D with nx := Pv (n + 1), ct := Pv (n + 1), bk := D.nx } (σ.set i (some (.int (n : Int)))) H)
    (hd : ∀ (n : Nat) σ H, (n : Int) = j → Pv n σ H → D.nx σ H) : RawR1 (gName i) tb D σ [.int j] H := by
  refine ⟨j, rfl, by omega, by omega, for_range (lo := 0) (n := j.toNat) Pv p0 (fun n σ H hn p => ?_) (fun σ H p => hd _ σ H (by omega) p)⟩
  have := hs n σ H (by omega) p
  show tb _ (σ.set i (some (.int (0 + (n : Int))))) H
  rw [Int.zero_add]
  exact this
theorem raw_fl {a : Addr} {xs : List V} (hS : SqL K H a xs) (Pv : Nat → S → Hp → Prop) (p0 : Pv 0 σ H) (hl : ∀ i σ H, i ≤ xs.length → Pv i σ H → SqL K H a xs)
    (hs : ∀ i x σ H, xs[i]? = some x → Pv i σ H → g x σ H fun σ2 H2 => tb { D with nx := Pv (i + 1), ct := Pv (i + 1), bk := D.nx } σ2 H2) (hd : ∀ σ H, Pv xs.length σ H → D.nx σ H) : RawFL K g tb D σ (.ref a) H :=
  ⟨a, rfl, ⟨_, hS⟩, for_list (xs := xs) Pv p0 hl hs hd⟩
theorem raw_ft {a : Addr} {xs : List V} (hS : SqT K H a xs) (Pv : Nat → S → Hp → Prop) (p0 : Pv 0 σ H) (hl : ∀ i σ H, i ≤ xs.length → Pv i σ H → SqT K H a xs)
    (hs : ∀ i x σ H, xs[i]? = some x → Pv i σ H → g x σ H fun σ2 H2 => tb { D with nx := Pv (i + 1), ct := Pv (i + 1), bk := D.nx } σ2 H2) (hd : ∀ σ H, Pv xs.length σ H → D.nx σ H) : RawFT K g tb D σ (.ref a) H :=
  ⟨a, rfl, ⟨_, hS⟩, for_tup (xs := xs) Pv p0 hl hs hd⟩
end

/-! ### comprehensions -/
/-- the tuples stay -/
def TupK (H H' : Hp) : Prop := ∀ t xs, H t = some (.tup xs) → H' t = some (.tup xs)
theorem TupK.refl (H : Hp) : TupK H H := fun _ _ h => h
theorem TupK.trans {H H1 H2 : Hp} (a : TupK H H1) (b : TupK H1 H2) : TupK H H2 := fun t xs h => b t xs (a t xs h)
theorem Same.tk {H H' : Hp} (s : Same H H') : TupK H H' := fun t xs h => s t _ h
theorem tk_upd {H : Hp} {p : Addr} {o o' : HO} (h : H p = some o) (n : ∀ xs, o ≠ .tup xs) : TupK H (upd H p o') := fun t xs e => by
  by_cases q : t = p
  · subst q
    rw [h] at e
    exact absurd (Option.some.inj e) (n xs)
  · rw [upd_ne q]
    exact e
section
variable {K : PySem.W.Frag} {tl tl2 te : TE} {σ : S} {H : Hp} {Q : VK} {g g2 : TG} {tt tt2 : TT} {vs vs2 : List Nat} {ta : TA}
def RawLc (g : TG) (tt : TT) (te : TE) (vs : List Nat) (σ : S) (Q : VK) (J : It) (H1 : Hp) : Prop := tLc (fun _ _ R => R J H1) g tt te vs σ H1 Q
def RawLcL (K : PySem.W.Frag) (g : TG) (tt : TT) (te : TE) (vs : List Nat) (σ : S) (Q : VK) (x : V) (H1 : Hp) : Prop := ∃ a, x = .ref a ∧ (∃ xs, SqL K H1 a xs) ∧ RawLc g tt te vs σ Q (Itl K a) H1
def RawLcT (K : PySem.W.Frag) (g : TG) (tt : TT) (te : TE) (vs : List Nat) (σ : S) (Q : VK) (x : V) (H1 : Hp) : Prop := ∃ a, x = .ref a ∧ (∃ xs, SqT K H1 a xs) ∧ RawLc g tt te vs σ Q (Itt K a) H1
def RawLcR (g : TG) (tt : TT) (te : TE) (vs : List Nat) (σ : S) (Q : VK) (xs : List V) (H1 : Hp) : Prop := ∃ j : Int, xs = [.int j] ∧ -(2 ^ 62) ≤ j ∧ j < 2 ^ 62 ∧ RawLc g tt te vs σ Q (Itr 0 j.toNat) H1
theorem i_lcL (q : tl σ H (RawLcL K g tt te vs σ Q)) : tLc (iList K tl) g tt te vs σ H Q := q
theorem i_lcT (q : tl σ H (RawLcT K g tt te vs σ Q)) : tLc (iTup K tl) g tt te vs σ H Q := q
theorem i_lcR (q : ta σ H (RawLcR g tt te vs σ Q)) : tLc (iRng1 ta) g tt te vs σ H Q := q
/-- one turn of a comprehension, for any wish: it keeps, or it does not -/
def LcTurn (g : TG) (tt : TT) (te : TE) (vs : List Nat) (σ : S) (Pv : Nat → List V → Hp → Prop) (i : Nat) (x : V) (acc : List V) (H' : Hp) : Prop :=
  ∀ (Y : VK) (N : Hp → Prop), (∀ y H4, Same H' H4 → Pv (i + 1) (acc ++ [y]) H4 → Y y H4) → (∀ H3, Same H' H3 → Pv (i + 1) acc H3 → N H3) →
    g x (wipe σ vs) H' fun σ2 H2 => wipe σ2 vs = wipe σ vs ∧ tt σ2 H2 fun b H3 => if b = true then te σ2 H3 Y else N H3
theorem raw_lc {J : It} {n : Nat} {G : Hp → Prop} {Yl : Nat → V → Prop} (w : Walk J n G fun i H x H' => H' = H ∧ Yl i x) (hn : n ≤ 1000) (gm : ∀ H', Same H H' → G H') (Pv : Nat → List V → Hp → Prop) (mono : ∀ i acc H H', TupK H H' → Pv i acc H → Pv i acc H') (p0 : Pv 0 [] H)
    (hs : ∀ i x acc H', i < n → Yl i x → Same H H' → Pv i acc H' → LcTurn g tt te vs σ Pv i x acc H') (hd : ∀ D acc H', H D = none → Same H H' → H' D = some (.lst acc) → Pv n acc H' → Q (.ref D) H') : RawLc g tt te vs σ Q J H := fun D hD => by
  refine lc_it w (fun i H' => ∃ acc, H' D = some (.lst acc) ∧ acc.length ≤ i ∧ Same H H' ∧ Pv i acc H') ⟨[], upd_same, Nat.le_refl _, same_new hD, mono _ _ _ _ (Same.tk (same_new hD)) p0⟩ (fun i H' _ ⟨_, _, _, sm, _⟩ => gm H' sm) ?_ ?_
  · rintro i x H1 H2 hi ⟨acc, e, hl, sm, p⟩ ⟨rfl, y⟩
    refine hs i x acc H2 hi y sm p _ _ (fun y H4 s4 p4 => ?_) fun H3 s3 p3 => ?_
    · have e4 : H4 D = some (.lst acc) := s4 D _ e
      refine ⟨acc, e4, small1000 (by omega), acc ++ [y], upd_same, by simp; omega, same_own hD (sm.trans s4), mono _ _ _ _ (tk_upd e4 fun xs z => nomatch z) p4⟩
    · exact ⟨acc, s3 D _ e, by omega, sm.trans s3, p3⟩
  · rintro H' ⟨acc, e, hl, sm, p⟩
    exact hd D acc H' hD sm e p
theorem raw_lcL {a : Addr} {xs : List V} (hS : SqL K H a xs) (hn : xs.length ≤ 1000) (Pv : Nat → List V → Hp → Prop) (mono : ∀ i acc H H', TupK H H' → Pv i acc H → Pv i acc H') (p0 : Pv 0 [] H)
    (hs : ∀ i x acc H', xs[i]? = some x → Same H H' → Pv i acc H' → LcTurn g tt te vs σ Pv i x acc H') (hd : ∀ D acc H', H D = none → Same H H' → H' D = some (.lst acc) → Pv xs.length acc H' → Q (.ref D) H') : RawLcL K g tt te vs σ Q (.ref a) H :=
  ⟨a, rfl, ⟨_, hS⟩, raw_lc (Yl := fun i x => xs[i]? = some x) walk_list hn (fun H' s => s.seq hS) Pv mono p0 (fun i x acc H' _ => hs i x acc H') hd⟩
theorem raw_lcT {a : Addr} {xs : List V} (hS : SqT K H a xs) (hn : xs.length ≤ 1000) (Pv : Nat → List V → Hp → Prop) (mono : ∀ i acc H H', TupK H H' → Pv i acc H → Pv i acc H') (p0 : Pv 0 [] H)
    (hs : ∀ i x acc H', xs[i]? = some x → Same H H' → Pv i acc H' → LcTurn g tt te vs σ Pv i x acc H') (hd : ∀ D acc H', H D = none → Same H H' → H' D = some (.lst acc) → Pv xs.length acc H' → Q (.ref D) H') : RawLcT K g tt te vs σ Q (.ref a) H :=
  ⟨a, rfl, ⟨_, hS⟩, raw_lc (Yl := fun i x => xs[i]? = some x) walk_tup hn (fun H' s => SqT.ext hS s) Pv mono p0 (fun i x acc H' _ => hs i x acc H') hd⟩
theorem raw_lcR {j : Int} (h0 : 0 ≤ j) (hn : j ≤ 1000) (Pv : Nat → List V → Hp → Prop) (mono : ∀ i acc H H', TupK H H' → Pv i acc H → Pv i acc H') (p0 : Pv 0 [] H)
    (hs : ∀ (i : Nat) acc H', (i : Int) < j → Same H H' → Pv i acc H' → LcTurn g tt te vs σ Pv i (.int i) acc H') (hd : ∀ D acc H', H D = none → Same H H' → H' D = some (.lst acc) → Pv j.toNat acc H' → Q (.ref D) H') : RawLcR g tt te vs σ Q [.int j] H := by
  refine ⟨j, rfl, by omega, by omega, raw_lc (Yl := fun i x => x = .int (0 + (i : Int))) walk_range (by omega) (fun _ _ => trivial) Pv mono p0 (fun i x acc H' hi e => ?_) hd⟩
  subst e
  rw [Int.zero_add]
  exact hs i acc H' (by omega)
/-! two clauses -/
def RawLc2 (wi1 : TI) (g : TG) (tt : TT) (g1 : TG) (tt1 : TT) (te : TE) (vs vs1 : List Nat) (σ : S) (Q : VK) (J : It) (H1 : Hp) : Prop := tLc2 (fun _ _ R => R J H1) g tt wi1 g1 tt1 te vs vs1 σ H1 Q
/-- the inner walk: it has come, for any wish R of it -/
def InnerAt (wi : TI) (σ : S) (H' : Hp) (ys : List V) (G : Hp → Prop) : Prop := ∀ R : It → Hp → Prop, (∀ J1 H4, Walk J1 ys.length G (YAt ys) → Same H' H4 → R J1 H4) → wi σ H' R
/-- one turn within -/
def Lc2Turn (g1 : TG) (tt1 : TT) (te : TE) (vs1 : List Nat) (σ2 : S) (Pv : Nat → Nat → List V → Hp → Prop) (i j : Nat) (y : V) (acc : List V) (H' : Hp) : Prop :=
  ∀ (Y : VK) (N : Hp → Prop), (∀ y H4, Same H' H4 → Pv i (j + 1) (acc ++ [y]) H4 → Y y H4) → (∀ H3, Same H' H3 → Pv i (j + 1) acc H3 → N H3) →
    g1 y (wipe σ2 vs1) H' fun σ3 H5 => wipe σ3 vs1 = wipe σ2 vs1 ∧ tt1 σ3 H5 fun b H6 => if b = true then te σ3 H6 Y else N H6
theorem raw_lc2 {wi1 : TI} {J : It} {xs ys : List V} {G G1 : Hp → Prop} {i0 : Nat} (w : Walk J xs.length G (YAt xs)) (hn : xs.length * ys.length ≤ 1000) (gm : ∀ H', Same H H' → G H') (Pv : Nat → Nat → List V → Hp → Prop)
    (mono : ∀ i j acc H H', TupK H H' → Pv i j acc H → Pv i j acc H') (p0 : Pv 0 0 [] H) (next : ∀ i acc H', Pv i ys.length acc H' → Pv (i + 1) 0 acc H') (gm1 : ∀ H', Same H H' → G1 H') (hwi : ∀ x, wipe ((wipe σ vs).set i0 (some x)) vs = wipe σ vs)
    (hin : ∀ x H', Same H H' → InnerAt wi1 ((wipe σ vs).set i0 (some x)) H' ys G1)
    (hs : ∀ i j x y acc H', xs[i]? = some x → ys[j]? = some y → Same H H' → Pv i j acc H' → Lc2Turn g2 tt2 te vs2 ((wipe σ vs).set i0 (some x)) Pv i j y acc H')
    (hd : ∀ D acc H', H D = none → Same H H' → H' D = some (.lst acc) → Pv xs.length 0 acc H' → Q (.ref D) H') : RawLc2 wi1 (gName i0) tYes g2 tt2 te vs vs2 σ Q J H := fun D hD => by
  refine ⟨fun i m H' => m = xs.length - i ∧ i ≤ xs.length ∧ ∃ acc, H' D = some (.lst acc) ∧ acc.length ≤ i * ys.length ∧ Same H H' ∧ Pv i 0 acc H', ⟨xs.length, rfl, Nat.zero_le _, [], upd_same, Nat.zero_le _, same_new hD, mono _ _ _ _ _ (Same.tk (same_new hD)) p0⟩, ?_⟩
  rintro i m H' ⟨rfl, hi, acc, e, hl, sm, p⟩
  have q := gm H' sm
  by_cases hlt : i < xs.length
  · refine .inr ⟨w.goes i H' hlt q, fun H'' => ∃ acc, H'' D = some (.lst acc) ∧ acc.length ≤ (i + 1) * ys.length ∧ Same H H'' ∧ Pv (i + 1) 0 acc H'', fun H'' ⟨acc', z⟩ => ⟨xs.length - (i + 1), by omega, rfl, hlt, acc', z⟩, fun x H2 y => ?_⟩
    obtain ⟨rfl, hx⟩ := w.yields i H' x H2 hlt q y
    show wipe ((wipe σ vs).set i0 (some x)) vs = wipe σ vs ∧ _
    refine ⟨hwi x, ?_⟩
    refine i_yes ?_
    refine iteT ?_
    refine hin x H2 sm _ fun J1 H4 w1 s4 => ?_
    refine ⟨fun j k H' => k = ys.length - j ∧ j ≤ ys.length ∧ ∃ acc, H' D = some (.lst acc) ∧ acc.length ≤ i * ys.length + j ∧ Same H H' ∧ Pv i j acc H', ⟨ys.length, rfl, Nat.zero_le _, acc, s4 D _ e, hl, sm.trans s4, mono _ _ _ _ _ (Same.tk s4) p⟩, ?_⟩
    rintro j k H5 ⟨rfl, hj, acc, e, hl, sm, p⟩
    have g5 := gm1 H5 sm
    by_cases hjl : j < ys.length
    · refine .inr ⟨w1.goes j H5 hjl g5, fun H'' => ∃ acc, H'' D = some (.lst acc) ∧ acc.length ≤ i * ys.length + (j + 1) ∧ Same H H'' ∧ Pv i (j + 1) acc H'', fun H'' ⟨acc', z⟩ => ⟨ys.length - (j + 1), by omega, rfl, hjl, acc', z⟩, fun y H6 yy => ?_⟩
      obtain ⟨rfl, hy⟩ := w1.yields j H5 y H6 hjl g5 yy
      have hbig : i * ys.length + j < xs.length * ys.length := by
        have : (i + 1) * ys.length ≤ xs.length * ys.length := Nat.mul_le_mul_right _ hlt
        rw [Nat.add_mul] at this
        omega
      refine hs i j x y acc H6 hx hy sm p _ _ (fun z H7 s7 p7 => ?_) fun H7 s7 p7 => ?_
      · have e7 : H7 D = some (.lst acc) := s7 D _ e
        exact ⟨acc, e7, small1000 (by omega), acc ++ [z], upd_same, by simp; omega, same_own hD (sm.trans s7), mono _ _ _ _ _ (tk_upd e7 fun xs z => nomatch z) p7⟩
      · exact ⟨acc, s7 D _ e, by omega, sm.trans s7, p7⟩
    · have ej : j = ys.length := by omega
      subst ej
      exact .inl ⟨w1.stops H5 g5, acc, e, by rw [Nat.add_mul]; omega, sm, next i acc H5 p⟩
  · have ei : i = xs.length := by omega
    subst ei
    exact .inl ⟨w.stops H' q, hd D acc H' hD sm e p⟩
end
end KP

set_option Elab.async false
set_option linter.all false
set_option maxRecDepth 100000
namespace KP
open PySem PySem.Spec PyProof.Rows L2
/-! ### pairs -/
abbrev Pr := Str × Str
def kinds : List Str := ["read", "acquire", "write", "release"]
def kindsV : List V := kinds.map V.str
def kindB (x : Str) : Bool := decide (x ∈ kinds)
def allPairs : List Pr := [("read", "read"), ("read", "acquire"), ("read", "write"), ("read", "release"), ("acquire", "read"), ("acquire", "acquire"), ("acquire", "write"), ("acquire", "release"), ("write", "read"), ("write", "acquire"), ("write", "write"), ("write", "release"), ("release", "read"), ("release", "acquire"), ("release", "write"), ("release", "release")]
theorem all_at : ∀ i < 4, ∀ j < 4, allPairs[i * 4 + j]? = (kinds[i]?).bind fun a => (kinds[j]?).map fun b => (a, b) := by decide +kernel
theorem all_mem : ∀ p : Pr, p ∈ allPairs ↔ kindB p.1 = true ∧ kindB p.2 = true := by
  rintro ⟨a, b⟩
  constructor
  · intro h
    have : ∀ p ∈ allPairs, kindB p.1 = true ∧ kindB p.2 = true := by decide +kernel
    exact this _ h
  · rintro ⟨h1, h2⟩
    have e : ∀ x ∈ kinds, ∀ y ∈ kinds, (x, y) ∈ allPairs := by decide +kernel
    exact e a (of_decide_eq_true h1) b (of_decide_eq_true h2)
theorem all_nodup : allPairs.Nodup := by decide +kernel
def PairV (H : Hp) (v : V) (p : Pr) : Prop := ∃ t, v = .ref t ∧ H t = some (.tup [.str p.1, .str p.2])
abbrev PairsV (H : Hp) : List V → List Pr → Prop := Paired (PairV H)
theorem PairV.mono {H H' : Hp} {v : V} {p : Pr} (k : TupK H H') (h : PairV H v p) : PairV H' v p := let ⟨t, e, g⟩ := h; ⟨t, e, k _ _ g⟩
theorem PairsV.mono {H H' : Hp} (k : TupK H H') : ∀ {vs : List V} {ps : List Pr}, PairsV H vs ps → PairsV H' vs ps
  | _, _, .nil => .nil
  | _, _, .cons a b => .cons (a.mono k) (PairsV.mono k b)
theorem paired_app {α β : Type} {F : α → β → Prop} : ∀ {l1 : List α} {m1 : List β} {l2 : List α} {m2 : List β}, Paired F l1 m1 → Paired F l2 m2 → Paired F (l1 ++ l2) (m1 ++ m2)
  | _, _, _, _, .nil, h => h
  | _, _, _, _, .cons a b, h => .cons a (paired_app b h)
theorem paired_get {α β : Type} {F : α → β → Prop} : ∀ {l : List α} {m : List β} {i : Nat} {x : α}, Paired F l m → l[i]? = some x → ∃ y, m[i]? = some y ∧ F x y
  | _, _, _, _, .nil, e => by simp at e
  | _, _, 0, x, .cons a b, e => by simp at e; subst e; exact ⟨_, rfl, a⟩
  | _, _, i + 1, x, .cons a b, e => paired_get (i := i) b (by simpa using e)
theorem paired_get' {α β : Type} {F : α → β → Prop} : ∀ {l : List α} {m : List β} {i : Nat} {y : β}, Paired F l m → m[i]? = some y → ∃ x, l[i]? = some x ∧ F x y
  | _, _, _, _, .nil, e => by simp at e
  | _, _, 0, x, .cons a b, e => by simp at e; subst e; exact ⟨_, rfl, a⟩
  | _, _, i + 1, x, .cons a b, e => paired_get' (i := i) b (by simpa using e)
theorem paired_len {α β : Type} {F : α → β → Prop} : ∀ {l : List α} {m : List β}, Paired F l m → l.length = m.length
  | _, _, .nil => rfl
  | _, _, .cons _ b => congrArg Nat.succ (paired_len b)
theorem paired_snoc {α β : Type} {F : α → β → Prop} {l : List α} {m : List β} {x : α} {y : β} (h : Paired F l m) (r : F x y) : Paired F (l ++ [x]) (m ++ [y]) := paired_app h (.cons r .nil)
theorem paired_mono {α β : Type} {F G : α → β → Prop} (k : ∀ a b, F a b → G a b) : ∀ {l : List α} {m : List β}, Paired F l m → Paired G l m
  | _, _, .nil => .nil
  | _, _, .cons a b => .cons (k _ _ a) (paired_mono k b)
theorem take_snoc {α : Type} {l : List α} {i : Nat} {x : α} (h : l[i]? = some x) : l.take (i + 1) = l.take i ++ [x] := by rw [List.take_add_one, h]; rfl

/-! ### as data -/
def dPair (p : Pr) : PyData := .tuple [.str p.1, .str p.2]
theorem dp_pair {K : PySem.W.Frag} {H : Hp} {v : V} {p : Pr} (h : PairV H v p) : Dp K H v (dPair p) := by
  obtain ⟨t, rfl, e⟩ := h
  exact .tup (.inl (.inl e)) (.cons (.str _) (.cons (.str _) .nil))
theorem dp_pairs {K : PySem.W.Frag} {H : Hp} : ∀ {vs : List V} {ps : List Pr}, PairsV H vs ps → DpAll K H vs (ps.map dPair)
  | _, _, .nil => .nil
  | _, _, .cons a b => .cons (dp_pair a) (dp_pairs b)
theorem eqv_pair (p q : Pr) : PyData.eqv (dPair p) (dPair q) = decide (p = q) := by
  obtain ⟨a, b⟩ := p
  obtain ⟨c, d⟩ := q
  have e : PyData.eqv (dPair (a, b)) (dPair (c, d)) = ((a == c) && ((b == d) && true)) := by simp only [dPair, PyData.eqv, PyData.eqvAll]
  rw [e, Bool.and_true]
  by_cases h1 : a = c
  · by_cases h2 : b = d
    · subst h1 h2; simp
    · have : ¬ ((a, b) : Pr) = (c, d) := fun z => h2 (Prod.mk.inj z).2
      simp [this, h2]
  · have : ¬ ((a, b) : Pr) = (c, d) := fun z => h1 (Prod.mk.inj z).1
    simp [this, h1]
theorem eqv_pairs : ∀ ps qs : List Pr, PyData.eqvAll (ps.map dPair) (qs.map dPair) = decide (ps = qs)
  | [], [] => by simp [PyData.eqvAll]
  | [], _ :: _ => by simp [PyData.eqvAll]
  | _ :: _, [] => by simp [PyData.eqvAll]
  | p :: ps, q :: qs => by
    simp only [List.map_cons, PyData.eqvAll, eqv_pair, eqv_pairs ps qs]
    by_cases h1 : p = q
    · by_cases h2 : ps = qs
      · simp [h1, h2]
      · simp [h1, h2]
    · simp [h1]
theorem any_pairs (p : Pr) : ∀ ps : List Pr, ((ps.map dPair).any fun z => PyData.eqv z (dPair p)) = decide (p ∈ ps)
  | [] => by simp
  | q :: ps => by
    rw [List.map_cons, List.any_cons, any_pairs p ps, eqv_pair]
    by_cases h : q = p
    · subst h; simp
    · have h' : ¬ p = q := fun z => h z.symm
      simp [h, h']
def GoodP (p : Pr) : Bool := PyData.strOk p.1 && PyData.strOk p.2
theorem good_all : ∀ p ∈ allPairs, GoodP p = true := by decide +kernel
theorem lay_pair {p : Pr} (h : GoodP p = true) : (dPair p).canLay0 = true := by
  obtain ⟨h1, h2⟩ := Bool.and_eq_true_iff.mp h
  simp [dPair, PyData.canLay0, PyData.canLayAll0, h1, h2]
theorem lay_pairs : ∀ {ps : List Pr}, (∀ p ∈ ps, GoodP p = true) → PyData.canLayAll0 (ps.map dPair) = true
  | [], _ => by simp [PyData.canLayAll0]
  | p :: ps, h => by
    simp only [List.map_cons, PyData.canLayAll0]
    rw [lay_pair (h p (List.mem_cons_self ..)), lay_pairs fun q hq => h q (List.mem_cons_of_mem _ hq)] <;> rfl
theorem depth_pair (p : Pr) : (dPair p).depth = 1 := by simp [dPair, PyData.depth, PyData.depthAll]
theorem depth_pairs : ∀ ps : List Pr, PyData.depthAll (ps.map dPair) ≤ 1
  | [] => by simp [PyData.depthAll]
  | p :: ps => by
    have h1 := depth_pairs ps
    have h2 := depth_pair p
    simp only [List.map_cons, PyData.depthAll]
    omega
theorem shaped_pair {p : Pr} (h : GoodP p = true) : SeqAt.shaped (dPair p) = true := by
  show ((dPair p).canLay0 && decide ((dPair p).depth ≤ 64)) = true
  rw [lay_pair h, depth_pair] <;> rfl
theorem shaped_pairsL {ps : List Pr} (h : ∀ p ∈ ps, GoodP p = true) : SeqAt.shaped (.list (ps.map dPair)) = true := by
  have h1 := depth_pairs ps
  have h2 : PyData.depth (.list (ps.map dPair)) ≤ 64 := by simp only [PyData.depth]; omega
  show (PyData.canLay0 (.list (ps.map dPair)) && decide (PyData.depth (.list (ps.map dPair)) ≤ 64)) = true
  rw [Bool.and_eq_true]
  exact ⟨by simp only [PyData.canLay0]; exact lay_pairs h, decide_eq_true h2⟩
theorem shaped_pairsT {ps : List Pr} (h : ∀ p ∈ ps, GoodP p = true) : SeqAt.shaped (.tuple (ps.map dPair)) = true := by
  have h1 := depth_pairs ps
  have h2 : PyData.depth (.tuple (ps.map dPair)) ≤ 64 := by simp only [PyData.depth]; omega
  show (PyData.canLay0 (.tuple (ps.map dPair)) && decide (PyData.depth (.tuple (ps.map dPair)) ≤ 64)) = true
  rw [Bool.and_eq_true]
  exact ⟨by simp only [PyData.canLay0]; exact lay_pairs h, decide_eq_true h2⟩
/-- a list, a tuple of pairs stands at a -/
def PL (K : PySem.W.Frag) (H : Hp) (a : Addr) (ps : List Pr) : Prop := ∃ vs, SqL K H a vs ∧ PairsV H vs ps
def PT2 (K : PySem.W.Frag) (H : Hp) (a : Addr) (ps : List Pr) : Prop := ∃ vs, SqT K H a vs ∧ PairsV H vs ps
section
variable {K : PySem.W.Frag} {H H' : Hp} {Q : VK} {a b : Addr} {ps qs : List Pr} {x : V} {p : Pr}
theorem PL.mono (s : Same H H') (h : PL K H a ps) : PL K H' a ps := let ⟨vs, e, r⟩ := h; ⟨vs, s.seq e, r.mono (Same.tk s)⟩
theorem PT2.mono (s : Same H H') (h : PT2 K H a ps) : PT2 K H' a ps := let ⟨vs, e, r⟩ := h; ⟨vs, SqT.ext e s, r.mono (Same.tk s)⟩
theorem PL.dp (h : PL K H a ps) : Dp K H (.ref a) (.list (ps.map dPair)) := let ⟨_, e, r⟩ := h; .lst e (dp_pairs r)
theorem PT2.dp (h : PT2 K H a ps) : Dp K H (.ref a) (.tuple (ps.map dPair)) := let ⟨_, e, r⟩ := h; .tup e (dp_pairs r)
theorem i_eqPL (ha : PL K H a ps) (hb : PL K H b qs) (ga : ∀ p ∈ ps, GoodP p = true) (gb : ∀ p ∈ qs, GoodP p = true) (q : Q (.bl (decide (ps = qs))) H) : rEqD K (.ref a) (.ref b) H Q :=
  ⟨_, _, ha.dp, hb.dp, shaped_pairsL ga, shaped_pairsL gb, by simp only [PyData.eqv]; rw [eqv_pairs]; exact q⟩
theorem i_nePL (ha : PL K H a ps) (hb : PL K H b qs) (ga : ∀ p ∈ ps, GoodP p = true) (gb : ∀ p ∈ qs, GoodP p = true) (q : Q (.bl (!decide (ps = qs))) H) : rNeD K (.ref a) (.ref b) H Q :=
  ⟨_, _, ha.dp, hb.dp, shaped_pairsL ga, shaped_pairsL gb, by simp only [PyData.eqv]; rw [eqv_pairs]; exact q⟩
theorem i_eqPT (ha : PT2 K H a ps) (hb : PT2 K H b qs) (ga : ∀ p ∈ ps, GoodP p = true) (gb : ∀ p ∈ qs, GoodP p = true) (q : Q (.bl (decide (ps = qs))) H) : rEqD K (.ref a) (.ref b) H Q :=
  ⟨_, _, ha.dp, hb.dp, shaped_pairsT ga, shaped_pairsT gb, by simp only [PyData.eqv]; rw [eqv_pairs]; exact q⟩
theorem i_inPL (hx : PairV H x p) (ha : PL K H a ps) (gp : GoodP p = true) (ga : ∀ p ∈ ps, GoodP p = true) (q : Q (.bl (decide (p ∈ ps))) H) : rInD K x (.ref a) H Q :=
  ⟨_, _, dp_pair hx, ha.dp, shaped_pair gp, shaped_pairsL ga, by rw [any_pairs]; exact q⟩
theorem i_notInPL (hx : PairV H x p) (ha : PL K H a ps) (gp : GoodP p = true) (ga : ∀ p ∈ ps, GoodP p = true) (q : Q (.bl (!decide (p ∈ ps))) H) : rNotInD K x (.ref a) H Q :=
  ⟨_, _, dp_pair hx, ha.dp, shaped_pair gp, shaped_pairsL ga, by rw [any_pairs]; exact q⟩
end
section
variable {X : Cx}
/-- x in t, t a tuple of data -/
def rInTD (K : PySem.W.Frag) : R2 := fun x y H Q => ∃ d ds, Dp K H x d ∧ Dp K H y (.tuple ds) ∧ SeqAt.shaped d = true ∧ SeqAt.shaped (.tuple ds) = true ∧ Q (.bl (ds.any fun z => PyData.eqv z d)) H
def rNotInTD (K : PySem.W.Frag) : R2 := fun x y H Q => ∃ d ds, Dp K H x d ∧ Dp K H y (.tuple ds) ∧ SeqAt.shaped d = true ∧ SeqAt.shaped (.tuple ds) = true ∧ Q (.bl (!ds.any fun z => PyData.eqv z d)) H
theorem op_inTD (room : X.A.units + 65 < cLine) : OpR X (compareOp .In) (rInTD X.K) := by
  rintro pins s σ H x y v u Q I rx ry ⟨d, ds, hd, he, sd, se, q⟩
  obtain ⟨as, r1⟩ := Dp.reads I d x v hd rx
  obtain ⟨bs, r2⟩ := Dp.reads I (.tuple ds) y u he ry
  exact SeqAt.in_tuple_reads r2 r1 (SeqAt.canLay_of_shaped se) (SeqAt.canLay_of_shaped sd) (room_in_shaped sd room) ⟨.bl _, H, I, rfl, q⟩
theorem op_notInTD (room : X.A.units + 65 < cLine) : OpR X (compareOp .NotIn) (rNotInTD X.K) := by
  rintro pins s σ H x y v u Q I rx ry ⟨d, ds, hd, he, sd, se, q⟩
  obtain ⟨as, r1⟩ := Dp.reads I d x v hd rx
  obtain ⟨bs, r2⟩ := Dp.reads I (.tuple ds) y u he ry
  exact SeqAt.notIn_tuple_reads r2 r1 (SeqAt.canLay_of_shaped se) (SeqAt.canLay_of_shaped sd) (room_in_shaped sd room) ⟨.bl _, H, I, rfl, q⟩
end
section
variable {K : PySem.W.Frag} {H H' : Hp} {Q : VK} {a b : Addr} {ps qs : List Pr} {x : V} {p : Pr}
theorem i_inPT (hx : PairV H x p) (ha : PT2 K H a ps) (gp : GoodP p = true) (ga : ∀ p ∈ ps, GoodP p = true) (q : Q (.bl (decide (p ∈ ps))) H) : rInTD K x (.ref a) H Q :=
  ⟨_, _, dp_pair hx, ha.dp, shaped_pair gp, shaped_pairsT ga, by rw [any_pairs]; exact q⟩
theorem i_notInPT (hx : PairV H x p) (ha : PT2 K H a ps) (gp : GoodP p = true) (ga : ∀ p ∈ ps, GoodP p = true) (q : Q (.bl (!decide (p ∈ ps))) H) : rNotInTD K x (.ref a) H Q :=
  ⟨_, _, dp_pair hx, ha.dp, shaped_pair gp, shaped_pairsT ga, by rw [any_pairs]; exact q⟩
end
/-! ### methods of a class -/
structure MAt (K : PySem.W.Frag) (C : Addr) (m qual : Str) (st : Stmt) (ps : List Str) : Prop where
  ex : ∃ f fd, PySem.W.findIn K (.ref C) m = some (some (.ref f)) ∧ PySem.W.isFn K (.ref f) = true ∧ Binds K fd ps [] ∧ Fun K m qual st f fd
structure OkM (P : Program) (w : World) (K : PySem.W.Frag) (mg : Str → Option Value) (base : Heap) (CX : CXT) (k : Nat) (C : Addr) (m : Str) (ps : List Str) (sp : Sp) : Prop where
  ex : ∃ f fd, PySem.W.findIn K (.ref C) m = some (some (.ref f)) ∧ PySem.W.isFn K (.ref f) = true ∧ PySem.W.keepIn K (.ref f) = true ∧ Binds K fd ps [] ∧ FnOk P w K mg base CX k f fd ps sp
theorem MAt.ok {P : Program} {w : World} {K : PySem.W.Frag} {mg : Str → Option Value} {base : Heap} {CX : CXT} {k : Nat} {C : Addr} {m qual : Str} {st : Stmt} {ps : List Str} {sp : Sp} (A : MAt K C m qual st ps) (h : ∀ f fd, Fun K m qual st f fd → FnOk P w K mg base CX k f fd ps sp) : OkM P w K mg base CX k C m ps sp := by
  obtain ⟨f, fd, e, i, b, F⟩ := A.ex
  exact ⟨f, fd, e, i, F.kp, b, h f fd F⟩
section
variable {X : Cx} {CX : CXT} {k : Nat} {C : Addr} {ps : List Str} {sp : Sp} {E : XK}
theorem op_inM (O : OkM X.prog X.w X.K X.mg X.base CX k C "__contains__" ps sp) (hr : Room k X.A) (hx : Passes CX X E := by exact pass0) : OpR X (compareOp .In) (rInOwn C sp E) := by
  obtain ⟨f, fd, e, i, kp, b, F⟩ := O.ex
  exact op_inOwn e i F b hx hr
theorem op_notInM (O : OkM X.prog X.w X.K X.mg X.base CX k C "__contains__" ps sp) (hr : Room k X.A) (hx : Passes CX X E := by exact pass0) : OpR X (compareOp .NotIn) (rNotInOwn C sp E) := by
  obtain ⟨f, fd, e, i, kp, b, F⟩ := O.ex
  exact op_notInOwn e i F b hx hr
theorem call_lenM (O : OkM X.prog X.w X.K X.mg X.base CX k C "__len__" ps sp) (hr : Room (k + 1) X.A) (hx : Passes CX X E := by exact pass0) : CallR X (.builtin "len") (rLenOwn C sp E) := by
  obtain ⟨f, fd, e, i, kp, b, F⟩ := O.ex
  exact call_lenOwn e i F b hx hr
theorem call_listM {T : Addr → Hp → Addr → List V → Prop} {psI psL : List Str} (OI : OkM X.prog X.w X.K X.mg X.base CX0 k C "__iter__" psI (spIterT X.K T)) (OL : OkM X.prog X.w X.K X.mg X.base CX0 k C "__len__" psL (spLenT T)) (Tm : ∀ a H H' t xs, Same H H' → T a H t xs → T a H' t xs)
    (hr : Room (k + 3) X.A) (hc : X.calm = true := by rfl) : CallR X (.type "list") (rListIt X.K C T) := by
  obtain ⟨f, fd, e, i, kp, b, F⟩ := OI.ex
  obtain ⟨f2, fd2, e2, i2, kp2, b2, F2⟩ := OL.ex
  exact call_listIt e i e2 i2 F b F2 b2 Tm hr hc
end

/-! ### more readings -/
theorem ite_no {c : Bool} {A B : Prop} (h : c = false) (q : B) : if c = true then A else B := by rw [h, if_neg Bool.false_ne_true]; exact q
theorem ite_ok {c : Bool} {A B : Prop} (h : c = true) (q : A) : if c = true then A else B := by rw [h, if_pos rfl]; exact q
section
variable {K : PySem.W.Frag} {σ : S} {H : Hp} {Q : VK} {QT : Bool → Hp → Prop} {ta tb te td tv ty tl : TE} {D : Ends} {a b C dx : Addr} {xs : List V} {x y : V} {f : Str} {fs : List (Str × V)}
theorem i_isiTup (h : H a = some (.tup xs)) (q : Q (.bl true) H) : rIsi K [.ref a, .ty "tuple"] H Q := ⟨_, _, _, _, true, rfl, .ty _, .base (.tup h), kit_ty (by decide +kernel), q⟩
theorem inV_kinds (z : Str) : inV (.str z) kindsV = kindB z := by
  show ((kindsV).any fun y => eqV y (.str z)) = decide (z ∈ kinds)
  rw [show kindsV = kinds.map V.str from rfl, List.any_map]
  have e : ((fun y => eqV y (V.str z)) ∘ V.str) = fun y => (y == z) := by funext y; rfl
  rw [e, List.any_beq']
  exact List.contains_eq_mem z kinds
theorem flat_kinds : kindsV.all flatV = true := by decide
theorem i_inKinds {z : Str} (h : SqT K H a kindsV) (q : Q (.bl (kindB z)) H) : rIn K false (.str z) (.ref a) H Q := ⟨a, _, rfl, .inr h, rfl, flat_kinds, by
  show Q (.bl (if false = true then _ else inV _ _)) H
  rw [if_neg Bool.false_ne_true, inV_kinds]; exact q⟩
theorem i_dnewT (q : ∀ p H2, H p = none → Same H H2 → H2 p = some (.dT []) → Q (.ref p) H2) : tDNewT σ H Q := fun p hp => q p _ hp (same_new hp) upd_same
theorem i_dnewK (q : ∀ p H2, H p = none → Same H H2 → H2 p = some (.dK []) → Q (.ref p) H2) : tDNewK σ H Q := fun p hp => q p _ hp (same_new hp) upd_same
def RawDPut (D : Ends) (σ : S) (x y v : V) (H3 : Hp) : Prop := ∃ a H4, x = .ref a ∧ DPut H3 a y v H4 ∧ D.nx σ H4
theorem i_dput (q : tv σ H fun v H1 => td σ H1 fun x H2 => ty σ H2 fun y H3 => RawDPut D σ x y v H3) : sDPut td ty tv D σ H := q
theorem raw_dputT {kvs : List (List L2.Key × V)} {k : List L2.Key} {v : V} {d t : Addr} (h : H d = some (.dT kvs)) (hk : H t = some (.tup (k.map kV))) (z : kvs.length ≤ 1000) (q : D.nx σ (upd H d (.dT (putK kvs k v)))) : RawDPut D σ (.ref d) (.ref t) v H :=
  ⟨d, _, rfl, .t h hk (small1000 z), q⟩
theorem raw_dputS {kvs : List (L2.Key × V)} {k : Str} {v : V} {d : Addr} (h : H d = some (.dK kvs)) (z : kvs.length ≤ 1000) (q : D.nx σ (upd H d (.dK (putK kvs (Sum.inr k) v)))) : RawDPut D σ (.ref d) (.str k) v H :=
  ⟨d, _, rfl, .k (k := Sum.inr k) h (small1000 z), q⟩
def RawDIn (Q : VK) (x y : V) (H2 : Hp) : Prop := ∃ a o, x = .ref a ∧ DGet H2 a y o ∧ Q (.bl o.isSome) H2
theorem i_din (q : ty σ H fun y H1 => td σ H1 fun x H2 => RawDIn Q x y H2) : tDIn ty td σ H Q := q
theorem raw_dinT {kvs : List (List L2.Key × V)} {k : List L2.Key} {d t : Addr} (h : H d = some (.dT kvs)) (hk : H t = some (.tup (k.map kV))) (q : Q (.bl (valV kvs k).isSome) H) : RawDIn Q (.ref d) (.ref t) H := ⟨d, _, rfl, .t h hk, q⟩
theorem raw_dinS {kvs : List (L2.Key × V)} {k : Str} {d : Addr} (h : H d = some (.dK kvs)) (q : Q (.bl (valV kvs (Sum.inr k)).isSome) H) : RawDIn Q (.ref d) (.str k) H := ⟨d, _, rfl, DGet.k (k := Sum.inr k) h, q⟩
def RawFld (K : PySem.W.Frag) (Q : VK) (f : Str) (x : V) (H1 : Hp) : Prop := ∃ a C dx fs v, x = .ref a ∧ H1 a = some (.ins C dx fs) ∧ Cls K C ∧ NoAttr K C f ∧ fs.lookup f = some v ∧ Q v H1
theorem i_fldR (q : te σ H (RawFld K Q f)) : tFld K te f σ H Q := q
theorem raw_fld (h : H a = some (.ins C dx fs)) (c : Cls K C) (n : NoAttr K C f) {v : V} (l : fs.lookup f = some v) (q : Q v H) : RawFld K Q f (.ref a) H := ⟨a, C, dx, fs, v, rfl, h, c, n, l, q⟩
def RawSFld (K : PySem.W.Frag) (D : Ends) (σ : S) (f : Str) (y x : V) (H2 : Hp) : Prop := ∃ a C dx fs, x = .ref a ∧ H2 a = some (.ins C dx fs) ∧ Cls K C ∧ NoAttr K C f ∧ fs.length < 1000 ∧ D.nx σ (upd H2 a (.ins C dx (putF f y fs)))
theorem i_sfld (q : tv σ H fun y H1 => ta σ H1 fun x H2 => RawSFld K D σ f y x H2) : sFld K ta tv f D σ H := q
theorem raw_sfld (h : H a = some (.ins C dx fs)) (c : Cls K C) (n : NoAttr K C f) (z : fs.length < 1000) (q : D.nx σ (upd H a (.ins C dx (putF f y fs)))) : RawSFld K D σ f y (.ref a) H := ⟨a, C, dx, fs, rfl, h, c, n, z, q⟩
def RawLc2T (K : PySem.W.Frag) (wi1 : TI) (g : TG) (tt : TT) (g1 : TG) (tt1 : TT) (te : TE) (vs vs1 : List Nat) (σ : S) (Q : VK) (x : V) (H1 : Hp) : Prop := ∃ a, x = .ref a ∧ (∃ xs, SqT K H1 a xs) ∧ RawLc2 wi1 g tt g1 tt1 te vs vs1 σ Q (Itt K a) H1
def RawLc2L (K : PySem.W.Frag) (wi1 : TI) (g : TG) (tt : TT) (g1 : TG) (tt1 : TT) (te : TE) (vs vs1 : List Nat) (σ : S) (Q : VK) (x : V) (H1 : Hp) : Prop := ∃ a, x = .ref a ∧ (∃ xs, SqL K H1 a xs) ∧ RawLc2 wi1 g tt g1 tt1 te vs vs1 σ Q (Itl K a) H1
theorem i_lc2T {wi1 : TI} {g g1 : TG} {tt tt1 : TT} {vs vs1 : List Nat} (q : tl σ H (RawLc2T K wi1 g tt g1 tt1 te vs vs1 σ Q)) : tLc2 (iTup K tl) g tt wi1 g1 tt1 te vs vs1 σ H Q := q
theorem i_lc2L {wi1 : TI} {g g1 : TG} {tt tt1 : TT} {vs vs1 : List Nat} (q : tl σ H (RawLc2L K wi1 g tt g1 tt1 te vs vs1 σ Q)) : tLc2 (iList K tl) g tt wi1 g1 tt1 te vs vs1 σ H Q := q
theorem inner_tupC (h : SqT K H a xs) : InnerAt (iTup K (tC (.ref a))) σ H xs (fun H => SqT K H a xs) := fun R k => ⟨a, rfl, ⟨_, h⟩, k _ _ walk_tup (Same.refl _)⟩
theorem inner_tupV {i : Nat} (e : σ[i]? = some (some (.ref a))) (h : SqT K H a xs) : InnerAt (iTup K (tVar i)) σ H xs (fun H => SqT K H a xs) := fun R k => ⟨_, e, a, rfl, ⟨_, h⟩, k _ _ walk_tup (Same.refl _)⟩
theorem inner_listV {i : Nat} (e : σ[i]? = some (some (.ref a))) (h : SqL K H a xs) : InnerAt (iList K (tVar i)) σ H xs (fun H => SqL K H a xs) := fun R k => ⟨_, e, a, rfl, ⟨_, h⟩, k _ _ walk_list (Same.refl _)⟩
theorem i_iterT {t : Addr} (h : SqT K H t xs) (q : ∀ it, H it = none → Q (.ref it) (upd H it (TitO t it 0))) : rIterT K [.ref t] H Q := ⟨t, xs, rfl, h, q⟩
theorem i_eqI {i j : Int} (q : Q (.bl (decide (i = j))) H) : rEq (.int i) (.int j) H Q := ⟨rfl, by rw [show decide (V.int i = V.int j) = decide (i = j) from by by_cases h : i = j <;> simp [h]]; exact q⟩
theorem i_neI {i j : Int} (q : Q (.bl (!decide (i = j))) H) : rNe (.int i) (.int j) H Q := ⟨rfl, by rw [show decide (V.int i = V.int j) = decide (i = j) from by by_cases h : i = j <;> simp [h]]; exact q⟩
theorem i_eqS {i j : Str} (q : Q (.bl (decide (i = j))) H) : rEq (.str i) (.str j) H Q := ⟨rfl, by rw [show decide (V.str i = V.str j) = decide (i = j) from by by_cases h : i = j <;> simp [h]]; exact q⟩
theorem i_neS {i j : Str} (q : Q (.bl (!decide (i = j))) H) : rNe (.str i) (.str j) H Q := ⟨rfl, by rw [show decide (V.str i = V.str j) = decide (i = j) from by by_cases h : i = j <;> simp [h]]; exact q⟩
theorem i_eqB {i j : Bool} (q : Q (.bl (decide (i = j))) H) : rEq (.bl i) (.bl j) H Q := ⟨rfl, by rw [show decide (V.bl i = V.bl j) = decide (i = j) from by by_cases h : i = j <;> simp [h]]; exact q⟩
theorem i_neB {i j : Bool} (q : Q (.bl (!decide (i = j))) H) : rNe (.bl i) (.bl j) H Q := ⟨rfl, by rw [show decide (V.bl i = V.bl j) = decide (i = j) from by by_cases h : i = j <;> simp [h]]; exact q⟩
end
/-- a module's tuple -/
def GlT (K : PySem.W.Frag) (mg : Str → Option Value) (x : Str) (xs : List V) : Prop := ∃ a, mg x = some (.ref a) ∧ ∀ H, SqT K H a xs
/-! ### the class Pairs -/
def PairsAt (C : Addr) (H : Hp) (p : Addr) (ps : List Pr) : Prop := ∃ dx t vs, H p = some (.ins C dx [("_pairs", .ref t)]) ∧ H t = some (.tup vs) ∧ PairsV H vs ps
theorem PairsAt.mono {C : Addr} {H H' : Hp} {p : Addr} {ps : List Pr} (s : Same H H') (h : PairsAt C H p ps) : PairsAt C H' p ps := let ⟨dx, t, vs, a, b, c⟩ := h; ⟨dx, t, vs, s _ _ a, s _ _ b, c.mono (Same.tk s)⟩
/-- the pairs of ps in the order of the kinds -/
def norm (ps : List Pr) : List Pr := allPairs.filter fun p => decide (p ∈ ps)
theorem norm_mem {ps : List Pr} {p : Pr} : p ∈ norm ps ↔ p ∈ allPairs ∧ p ∈ ps := by unfold norm; rw [List.mem_filter]; simp
theorem norm_good {ps : List Pr} : ∀ p ∈ norm ps, GoodP p = true := fun p h => good_all p (norm_mem.mp h).1
theorem norm_len (ps : List Pr) : (norm ps).length ≤ 16 := by
  have h := List.length_filter_le (fun p => decide (p ∈ ps)) allPairs
  exact h
theorem norm_norm (ps : List Pr) : norm (norm ps) = norm ps := by
  unfold norm
  refine List.filter_congr fun p hp => ?_
  have : p ∈ allPairs.filter (fun p => decide (p ∈ ps)) ↔ p ∈ ps := by rw [List.mem_filter]; simp [hp]
  simp [this]
def pairsT (C : Addr) : Addr → Hp → Addr → List V → Prop := fun a H t xs => (∃ dx, H a = some (.ins C dx [("_pairs", .ref t)])) ∧ H t = some (.tup xs)
theorem pairsT_mono {C : Addr} : ∀ a H H' t xs, Same H H' → pairsT C a H t xs → pairsT C a H' t xs := fun a H H' t xs s ⟨⟨dx, e⟩, f⟩ => ⟨⟨dx, s _ _ e⟩, s _ _ f⟩
structure PairsCl (K : PySem.W.Frag) (mg : Str → Option Value) (C : Addr) : Prop where
  cl : Cls K C
  nP : NoAttr K C "_pairs"
  gP : mg "Pairs" = some (.ref C)
def keyP (p : Pr) : List L2.Key := [Sum.inr p.1, Sum.inr p.2]
theorem keyP_inj {p q : Pr} : keyP p = keyP q ↔ p = q := by
  obtain ⟨a, b⟩ := p
  obtain ⟨c, d⟩ := q
  simp [keyP]
/-- the dict of the given ones -/
def Given (kvs : List (List L2.Key × V)) (ps : List Pr) : Prop := ∀ p : Pr, (valV kvs (keyP p)).isSome = decide (p ∈ ps)
theorem given_put {kvs : List (List L2.Key × V)} {ps : List Pr} {p : Pr} (g : Given kvs ps) : Given (putK kvs (keyP p) (.bl true)) (ps ++ [p]) := fun q => by
  rw [valV_put]
  by_cases h : keyP q = keyP p
  · rw [if_pos h]
    have : q = p := keyP_inj.mp h
    simp [this]
  · rw [if_neg h, g q]
    have : ¬ q = p := fun z => h (by rw [z])
    simp [this]
theorem putK_len {kvs : List (List L2.Key × V)} {k : List L2.Key} {v : V} : (putK kvs k v).length ≤ kvs.length + 1 := by
  unfold putK
  split
  · rw [List.length_map]; omega
  · rw [List.length_append]; simp
end KP
namespace KP
open PySem PySem.Spec PyProof.Rows L2
/-! ### draws -/
def nth (ds : List Int) (i : Nat) : Int := ds.getD i 0
theorem nth_at {ds : List Int} {i : Int} (j : Nat) (e : i = (j : Int)) (h : j < ds.length) : atI (ds.map V.int) i = some (.int (nth ds j)) :=
  at_of e (by rw [List.getElem?_map, List.getElem?_eq_getElem h]; simp [nth, List.getD, List.getElem?_eq_getElem h])
theorem nth_ok {ds : List Int} {i : Nat} (hd : ∀ d ∈ ds, 0 ≤ d ∧ d < 1000) : 0 ≤ nth ds i ∧ nth ds i < 1000 := by
  unfold nth
  rw [List.getD_eq_getElem?_getD]
  cases e : ds[i]? with
  | none => simp
  | some d => exact hd d (List.mem_of_getElem? e)
/-! ### making a Pairs -/
section
variable {K : PySem.W.Frag} {σ : S} {H : Hp} {Q : VK} {ar : TA} {C a : Addr} {sp : Sp} {dvs : List V} {E : XK}
def RawMk (C : Addr) (sp : Sp) (dvs : List V) (E : XK) (Q : VK) (vs : List V) (H1 : Hp) : Prop := tMake C sp dvs E (fun _ _ R => R vs H1) [] H1 Q
theorem i_make (q : ar σ H (RawMk C sp dvs E Q)) : tMake C sp dvs E ar σ H Q := q
/-- all but what stands at l is as it was -/
def But (l : Addr) (H H' : Hp) : Prop := ∀ b o, b ≠ l → H b = some o → H' b = some o
theorem but_upd {l : Addr} {o : HO} : But l H (upd H l o) := fun b x hb e => by rw [upd_ne hb]; exact e
theorem But.pl {l : Addr} {xs : List V} {H' : Hp} {ps : List Pr} (b : But l H H') (e : H l = some (.lst xs)) (ha : a ≠ l) {vs : List V} (h : H a = some (.lst vs)) (pr : PairsV H vs ps) : H' a = some (.lst vs) ∧ PairsV H' vs ps :=
  ⟨b _ _ ha h, pr.mono fun t xs z => b t _ (ne_of z e (fun q => nomatch q)) z⟩
theorem But.pa {l m : Addr} {xs : List V} {H' : Hp} {ps : List Pr} (b : But l H H') (e : H l = some (.lst xs)) (h : PairsAt C H m ps) : PairsAt C H' m ps := by
  obtain ⟨dx, t, vs, h1, h2, h3⟩ := h
  exact ⟨dx, t, vs, b _ _ (ne_of h1 e fun q => nomatch q) h1, b _ _ (ne_of h2 e fun q => nomatch q) h2, h3.mono fun t xs z => b t _ (ne_of z e (fun q => nomatch q)) z⟩
theorem But.tk {l : Addr} {xs : List V} {H' : Hp} (b : But l H H') (e : H l = some (.lst xs)) : TupK H H' := fun t xs z => b t _ (ne_of z e (fun q => nomatch q)) z
end
/-- Pairs(..) and what it needs -/
structure PMk (P : Program) (w : World) (K : PySem.W.Frag) (mg : Str → Option Value) (base : Heap) (k : Nat) (C aE : Addr) (sp : Sp) : Prop where
  ex : ∃ f fd ds, Mk K C f ∧ Binds K fd ["self", "pairs"] [] ∧ Vals [.ref aE] ds ∧ Binds K fd ["self", "pairs"] ds ∧ FnOk P w K mg base CX0 k f fd ["self", "pairs"] sp
  gP : mg "Pairs" = some (.ref C)
  em : ∀ H, SqT K H aE []
section
variable {X : Cx} {k : Nat} {C aE : Addr} {sp : Sp} {E : XK} {p pos : Pos} {e : Expr} {es : List Expr} {t : TA}
theorem pe_makeP (O : PMk X.prog X.w X.K X.mg X.base k C aE sp) (hr : Room (k + 1) X.A) (ha : PA X (e :: es) t) (hx : Passes CX0 X E := by exact pass0) (hg : Gl X "Pairs" := by rfl)
    (he : starEach (e :: es) X.env = (false, eval e X.env) :: starEach es X.env := by rfl) (hpl : (backTo pos (starEach es X.env)).any (·.1) = false := by rfl) :
    PE X (.Call (.Name "Pairs" p) (e :: es) [] pos) (tMake C sp [] E t) := by
  obtain ⟨f, fd, ds, M, b, v, b1, F⟩ := O.ex
  exact pe_make M F hr hg O.gP b .nil hx ha (by decide) he hpl
theorem pe_makeP0 (O : PMk X.prog X.w X.K X.mg X.base k C aE sp) (hr : Room (k + 1) X.A) (hx : Passes CX0 X E := by exact pass0) (hg : Gl X "Pairs" := by rfl) :
    PE X (.Call (.Name "Pairs" p) [] [] pos) (tMake C sp [.ref aE] E tNil) := by
  obtain ⟨f, fd, ds, M, b, v, b1, F⟩ := O.ex
  exact pe_make0 M F hr hg O.gP b1 v hx (by decide)
end
end KP
namespace KP
open PySem PySem.Spec PyProof.Rows L2
/-! ### rules with the written part named -/
section
variable (K : PySem.W.Frag) {X : Cx}
theorem op_inDK (e : X.K = K) (room : X.A.units + 65 < cLine) : OpR X (compareOp .In) (rInD K) := by subst e; exact op_inD room
theorem op_notInDK (e : X.K = K) (room : X.A.units + 65 < cLine) : OpR X (compareOp .NotIn) (rNotInD K) := by subst e; exact op_notInD room
theorem op_inTDK (e : X.K = K) (room : X.A.units + 65 < cLine) : OpR X (compareOp .In) (rInTD K) := by subst e; exact op_inTD room
theorem op_notInTDK (e : X.K = K) (room : X.A.units + 65 < cLine) : OpR X (compareOp .NotIn) (rNotInTD K) := by subst e; exact op_notInTD room
theorem op_eqDK (e : X.K = K) (room : X.A.units + 64 < cLine) : OpR X (compareOp .Eq) (rEqD K) := by subst e; exact op_eqD room
theorem op_neDK (e : X.K = K) (room : X.A.units + 64 < cLine) : OpR X (compareOp .NotEq) (rNeD K) := by subst e; exact op_neD room
theorem op_in_seqK (e : X.K = K) : OpR X (compareOp .In) (rIn K false) := by subst e; exact op_in_seq
theorem op_notIn_seqK (e : X.K = K) : OpR X (compareOp .NotIn) (rIn K true) := by subst e; exact op_notIn_seq
theorem ix_listK (e : X.K = K) : IxR X (rIxL K) := by subst e; exact ix_list
theorem ix_tupK (e : X.K = K) : IxR X (rIxT K) := by subst e; exact ix_tup
theorem call_lenLK (e : X.K = K) : CallR X (.builtin "len") (rLenL K) := by subst e; exact call_lenL
theorem call_lenTK (e : X.K = K) : CallR X (.builtin "len") (rLenT K) := by subst e; exact call_lenT
theorem call_listLK (e : X.K = K) : CallR X (.type "list") (rListL K) := by subst e; exact call_listL
theorem call_listTK (e : X.K = K) : CallR X (.type "list") (rListT K) := by subst e; exact call_listT
theorem call_isiKK (e : X.K = K) : CallR X (.builtin "isinstance") (rIsi K) := by subst e; exact call_isi
end
end KP
namespace KP
open PySem PySem.Spec PyProof.Rows L2
section
variable {K : PySem.W.Frag} {σ : S} {H : Hp} {Q : VK} {te : TE} {a b : Addr} {xs ys : List V} {i j : Bool} {p q : Pr} {x y : V}
theorem i_catL (h1 : H a = some (.lst xs)) (h2 : H b = some (.lst ys)) (z : xs.length + ys.length ≤ 1000) (k : ∀ p H', H p = none → Same H H' → H' p = some (.lst (xs ++ ys)) → Q (.ref p) H') : rCat (.ref a) (.ref b) H Q :=
  ⟨a, b, xs, ys, rfl, rfl, h1, h2, Nat.le_of_lt (small1000 z), fun p hp => k p _ hp (same_new hp) upd_same⟩
def RawRev (K : PySem.W.Frag) (Q : VK) (x : V) (H1 : Hp) : Prop := tRevL K (fun _ _ R => R x H1) [] H1 Q
theorem i_revL (q : te σ H (RawRev K Q)) : tRevL K te σ H Q := q
theorem raw_rev (h : SqL K H a xs) (k : ∀ p H', H p = none → Same H H' → H' p = some (.lst xs.reverse) → Q (.ref p) H') : RawRev K Q (.ref a) H := ⟨a, xs, rfl, h, fun p hp => k p _ hp (same_new hp) upd_same⟩
theorem i_isB (q : Q (.bl (decide (i = j))) H) : rIsB (.bl i) (.bl j) H Q := ⟨i, j, rfl, rfl, q⟩
theorem i_notB (q : Q (.bl (!decide (i = j))) H) : rNotB (.bl i) (.bl j) H Q := ⟨i, j, rfl, rfl, q⟩
theorem i_isiBool (q : Q (.bl true) H) : rIsi K [.bl i, .ty "bool"] H Q := ⟨_, _, _, _, true, rfl, .ty _, .base (.bl i), kit_ty (by decide +kernel), q⟩
theorem i_nePP (hx : PairV H x p) (hy : PairV H y q) (gp : GoodP p = true) (gq : GoodP q = true) (k : Q (.bl (!decide (p = q))) H) : rNeD K x y H Q := ⟨_, _, dp_pair hx, dp_pair hy, shaped_pair gp, shaped_pair gq, by rw [eqv_pair]; exact k⟩
theorem i_all {bs : List Bool} (h : SqL K H a (bs.map V.bl)) (q : Q (.bl (bs.all id)) H) : rAll K [.ref a] H Q := ⟨a, bs, rfl, h, q⟩
/-- a flat thing in a list of texts -/
def inStr (z : Str) (l : List Str) : Bool := decide (z ∈ l)
theorem inV_strs (z : Str) (l : List Str) : inV (.str z) (l.map V.str) = decide (z ∈ l) := by
  show ((l.map V.str).any fun y => eqV y (.str z)) = decide (z ∈ l)
  rw [List.any_map]
  have e : ((fun y => eqV y (V.str z)) ∘ V.str) = fun y => (y == z) := by funext y; rfl
  rw [e, List.any_beq']
  exact List.contains_eq_mem z l
theorem flat_strs : ∀ l : List Str, (l.map V.str).all flatV = true
  | [] => rfl
  | _ :: l => by rw [List.map_cons, List.all_cons, flat_strs l]; rfl
theorem i_inStrs {z : Str} {l : List Str} (h : SqL K H a (l.map V.str)) (q : Q (.bl (decide (z ∈ l))) H) : rIn K false (.str z) (.ref a) H Q := ⟨a, _, rfl, .inl h, rfl, flat_strs l, by
  show Q (.bl (if false = true then _ else inV _ _)) H
  rw [if_neg Bool.false_ne_true, inV_strs]; exact q⟩
theorem i_notInStrs {z : Str} {l : List Str} (h : SqL K H a (l.map V.str)) (q : Q (.bl (!decide (z ∈ l))) H) : rIn K true (.str z) (.ref a) H Q := ⟨a, _, rfl, .inl h, rfl, flat_strs l, by
  show Q (.bl (if true = true then !inV _ _ else _)) H
  rw [if_pos rfl, inV_strs]; exact q⟩
end
section
variable {X : Cx} {CX : CXT} {k : Nat} {C : Addr} {ps : List Str} {sp : Sp} {E : XK} {m : Str}
theorem op_cmpM {op : CmpOp} (hop : ∀ a b, compareOp op a b = richCompare op a b) (O : OkM X.prog X.w X.K X.mg X.base CX k C (cmpInfo op).2.1 ps sp) (hr : Room k X.A) (hx : Passes CX X E := by exact pass0) : OpR X (compareOp op) (rBinOwn C sp E) := by
  obtain ⟨f, fd, e, i, kp, b, F⟩ := O.ex
  exact op_cmpOwn hop e i F b hx hr
theorem op_binM {op : Operator} (hc : PySem.W.selfFirst X.K C = true) (O : OkM X.prog X.w X.K X.mg X.base CX k C (PySem.dunder op.info.2) ps sp) (hr : Room k X.A) (hx : Passes CX X E := by exact pass0) : OpR X (binaryOp op) (rBinOwn C sp E) := by
  obtain ⟨f, fd, e, i, kp, b, F⟩ := O.ex
  exact op_binOwn hc e i F b hx hr
end
/-- what isinstance asks of an own class -/
structure IsiC (K : PySem.W.Frag) (C : Addr) : Prop where
  ca : PySem.W.findIn K (.ref C) "__class__" = some (some (.builtin "object.__class__"))
  cn : PySem.W.specialIn K (.builtin "object.__class__") "__get__" = some (some (.builtin "getset_descriptor.__get__"))
  ct : PySem.W.takesIn K (.builtin "object.__class__") = some true
  cm : PySem.W.mroIn K C (.type "object") = some true
  self : PySem.W.kitOne K (.ref C) (.ref C) = some true
theorem i_isiOwn {K : PySem.W.Frag} {H : Hp} {Q : VK} {a C dx : Addr} {fs : List (Str × V)} (h : H a = some (.ins C dx fs)) (c : Cls K C) (i : IsiC K C) (q : Q (.bl true) H) : rIsi K [.ref a, .ref C] H Q :=
  ⟨_, _, _, _, true, rfl, .own _, .base (.ins h c i.ca i.cn i.ct i.cm), i.self, q⟩
/-! ### some pairs by a style and a mask -/
def readsK : List Str := ["read", "acquire"]
def maskBit (mask : Int) (p : Pr) : Bool := decide (mask / 2 ^ (allPairs.idxOf p) % 2 = 1)
def fitsL (bit : Bool) (p : Pr) : List Bool := [false, true, (decide (p.1 ∈ readsK) || !decide (p.2 ∈ readsK)), (decide (p.1 = "acquire") || decide (p.2 = "release"))] ++ [(bit && decide (p.1 ∈ readsK)), bit, bit, bit]
def someF (style mask : Int) (p : Pr) : Bool := (fitsL (maskBit mask p) p).getD style.toNat false
def someP (style mask : Int) : List Pr := allPairs.filter (someF style mask)
theorem someP_norm (s m : Int) : norm (someP s m) = someP s m := by
  unfold norm someP
  refine List.filter_congr fun p hp => ?_
  have : p ∈ allPairs.filter (someF s m) ↔ someF s m p = true := by rw [List.mem_filter]; simp [hp]
  by_cases h : someF s m p = true
  · simp [this, h]
  · have h' : someF s m p = false := by simpa using h
    simp [this, h']
theorem someP_mem {s m : Int} : ∀ p ∈ someP s m, p ∈ allPairs := fun p h => (List.mem_filter.mp h).1
theorem someP_len (s m : Int) : (someP s m).length ≤ 16 := List.length_filter_le (someF s m) allPairs
theorem idx_at {i : Nat} {p : Pr} (h : allPairs[i]? = some p) : allPairs.idxOf p = i := by
  have hi : i < 16 := (List.getElem?_eq_some_iff.mp h).1
  have all : ∀ i < 16, ∀ p ∈ allPairs, allPairs[i]? = some p → allPairs.idxOf p = i := by decide +kernel
  exact all i hi p (List.mem_of_getElem? h) h
theorem pow_step (m : Int) (i : Nat) : m / 2 ^ i / 2 = m / 2 ^ (i + 1) := by
  rw [Int.ediv_ediv_of_nonneg (by exact Int.le_of_lt (Int.pow_pos (by decide))), Int.pow_succ]
end KP
namespace KP
open PySem PySem.Spec PyProof.Rows L2
theorem bl_at {L : List Bool} {s : Int} (h0 : 0 ≤ s) (h1 : s < L.length) : atI (L.map V.bl) s = some (.bl (L.getD s.toNat false)) :=
  at_of (j := s.toNat) (by omega) (by rw [List.getElem?_map, List.getD_eq_getElem?_getD, List.getElem?_eq_getElem (by omega)]; rfl)
end KP
namespace KP
open PySem PySem.Spec PyProof.Rows L2
theorem all_get {j : Int} (h0 : 0 ≤ j) (h1 : j < 16) {H : Hp} {us : List V} (pr : PairsV H us allPairs) : ∃ v p, atI us j = some v ∧ PairV H v p ∧ p ∈ allPairs := by
  have hl := paired_len pr
  have hj : j.toNat < us.length := by rw [hl]; show j.toNat < 16; omega
  obtain ⟨p, hp, r⟩ := paired_get pr (List.getElem?_eq_getElem hj)
  exact ⟨_, p, at_of (j := j.toNat) (by omega) (List.getElem?_eq_getElem hj), r, List.mem_of_getElem? hp⟩
end KP
namespace KP
open PySem PySem.Spec PyProof.Rows L2
theorem pe_fldK (K : PySem.W.Frag) {X : Cx} {e : Expr} {f : Str} {pos : Pos} {ta : TE} (h : X.K = K) (he : PE X e ta) (hb : attributeBase e f X.env (eval e X.env) = eval e X.env) : PE X (.Attribute e f pos) (tFld K ta f) := by subst h; exact pe_fld he hb
end KP
namespace KP
open PySem PySem.Spec PyProof.Rows L2
theorem i_ixD {K : PySem.W.Frag} {H : Hp} {Q : VK} {p : Addr} {i : Int} {ds : List Int} (h : SqL K H p (ds.map V.int)) (h0 : 0 ≤ i) (h1 : i < ds.length) (q : Q (.int (nth ds i.toNat)) H) : rIxL K (.ref p) (.int i) H Q :=
  i_ixL h (nth_at i.toNat (by omega) (by omega)) q
end KP
namespace KP
open PySem PySem.Spec PyProof.Rows L2
theorem paired_rev {α β : Type} {F : α → β → Prop} : ∀ {l : List α} {m : List β}, Paired F l m → Paired F l.reverse m.reverse
  | _, _, .nil => .nil
  | _, _, .cons a b => by rw [List.reverse_cons, List.reverse_cons]; exact paired_snoc (paired_rev b) a
end KP
namespace KP
open PySem PySem.Spec PyProof.Rows L2
section
variable {K : PySem.W.Frag}
/-- a comprehension over a list of pairs that keeps some of them -/
theorem lc_filter {σ : S} {H : Hp} {Q : VK} {a : Addr} {us : List V} {ps : List Pr} {g : TG} {tt : TT} {te : TE} {vs : List Nat} (f : Pr → Bool) (hS : SqL K H a us) (pr : PairsV H us ps) (hl : ps.length ≤ 1000)
    (hs : ∀ (i : Nat) (x : V) (r : Pr) (H' : Hp) (Y : VK) (N : Hp → Prop), us[i]? = some x → ps[i]? = some r → PairV H' x r → Same H H' → (f r = true → ∀ H4, Same H' H4 → Y x H4) → (f r = false → ∀ H3, Same H' H3 → N H3) → g x (wipe σ vs) H' fun σ2 H2 => wipe σ2 vs = wipe σ vs ∧ tt σ2 H2 fun b H3 => if b = true then te σ2 H3 Y else N H3)
    (hd : ∀ D acc H', H D = none → Same H H' → H' D = some (.lst acc) → PairsV H' acc (ps.filter f) → Q (.ref D) H') : RawLcL K g tt te vs σ Q (.ref a) H := by
  refine raw_lcL hS (by rw [paired_len pr]; exact hl) (fun i acc H' => PairsV H' acc ((ps.take i).filter f)) (fun i acc H H' k h => h.mono k) .nil ?_ fun D acc H' nD s e p => hd D acc H' nD s e (by rw [paired_len pr, List.take_length] at p; exact p)
  intro i x acc H' hx s pa Y N hY hN
  obtain ⟨r, hr, pv⟩ := paired_get pr hx
  have e1 : ps.take (i + 1) = ps.take i ++ [r] := take_snoc hr
  refine hs i x r H' Y N hx hr (pv.mono (Same.tk s)) s (fun hf H4 s4 => hY x H4 s4 ?_) fun hf H3 s3 => hN H3 s3 ?_
  · show PairsV H4 (acc ++ [x]) ((ps.take (i + 1)).filter f)
    rw [e1, List.filter_append, List.filter_cons, if_pos hf]
    exact paired_snoc (pa.mono (Same.tk s4)) ((pv.mono (Same.tk s)).mono (Same.tk s4))
  · show PairsV H3 acc ((ps.take (i + 1)).filter f)
    rw [e1, List.filter_append, List.filter_cons, if_neg (by rw [hf]; exact Bool.false_ne_true), List.filter_nil, List.append_nil]
    exact pa.mono (Same.tk s3)
/-- the same over a tuple of pairs that keeps some of them -/
theorem lc_filterT {σ : S} {H : Hp} {Q : VK} {a : Addr} {us : List V} {ps : List Pr} {g : TG} {tt : TT} {te : TE} {vs : List Nat} (f : Pr → Bool) (hS : SqT K H a us) (pr : PairsV H us ps) (hl : ps.length ≤ 1000)
    (hs : ∀ (i : Nat) (x : V) (r : Pr) (H' : Hp) (Y : VK) (N : Hp → Prop), us[i]? = some x → ps[i]? = some r → PairV H' x r → Same H H' → (f r = true → ∀ H4, Same H' H4 → Y x H4) → (f r = false → ∀ H3, Same H' H3 → N H3) → g x (wipe σ vs) H' fun σ2 H2 => wipe σ2 vs = wipe σ vs ∧ tt σ2 H2 fun b H3 => if b = true then te σ2 H3 Y else N H3)
    (hd : ∀ D acc H', H D = none → Same H H' → H' D = some (.lst acc) → PairsV H' acc (ps.filter f) → Q (.ref D) H') : RawLcT K g tt te vs σ Q (.ref a) H := by
  refine raw_lcT hS (by rw [paired_len pr]; exact hl) (fun i acc H' => PairsV H' acc ((ps.take i).filter f)) (fun i acc H H' k h => h.mono k) .nil ?_ fun D acc H' nD s e p => hd D acc H' nD s e (by rw [paired_len pr, List.take_length] at p; exact p)
  intro i x acc H' hx s pa Y N hY hN
  obtain ⟨r, hr, pv⟩ := paired_get pr hx
  have e1 : ps.take (i + 1) = ps.take i ++ [r] := take_snoc hr
  refine hs i x r H' Y N hx hr (pv.mono (Same.tk s)) s (fun hf H4 s4 => hY x H4 s4 ?_) fun hf H3 s3 => hN H3 s3 ?_
  · show PairsV H4 (acc ++ [x]) ((ps.take (i + 1)).filter f)
    rw [e1, List.filter_append, List.filter_cons, if_pos hf]
    exact paired_snoc (pa.mono (Same.tk s4)) ((pv.mono (Same.tk s)).mono (Same.tk s4))
  · show PairsV H3 acc ((ps.take (i + 1)).filter f)
    rw [e1, List.filter_append, List.filter_cons, if_neg (by rw [hf]; exact Bool.false_ne_true), List.filter_nil, List.append_nil]
    exact pa.mono (Same.tk s3)
end
end KP
namespace KP
open PySem PySem.Spec PyProof.Rows L2
theorem raw_catTA {K : PySem.W.Frag} {H : Hp} {Q : VK} {a b : Addr} {xs ys : List V} (ha : SqT K H a xs) (hb : SqT K H b ys) (z : xs.length + ys.length ≤ 1000) (q : ∀ t H', Same H H' → SqT K H' t (xs ++ ys) → Q (.ref t) H') : rCatA K (.ref a) (.ref b) H Q := by
  refine ⟨a, b, xs, ys, rfl, rfl, ha, hb, Nat.le_of_lt (small1000 z), fun e => ?_, fun _ e => ?_, fun _ _ p np => q p _ (same_new np) (st_of upd_same)⟩
  · subst e
    exact q b H (Same.refl _) hb
  · subst e
    exact q a H (Same.refl _) (by rw [List.append_nil]; exact ha)
end KP

set_option Elab.async false
set_option linter.all false
set_option maxRecDepth 100000
set_option maxHeartbeats 2000000
namespace KP
open PySem PySem.Spec PyProof.Rows L2
/-! ### a class whose __init__ may raise, made where what is raised is wished for -/
section
variable {X : Cx} {CX : CXT} {k : Nat} {f C : Addr} {fd : FuncData} {ps : List Str} {sp : Sp} {E : S → XK} {x m : Str} {p pos apos : Pos} {e o : Expr} {es : List Expr} {te ta : TE} {t : TA} {ds : List Value} {dvs : List V}
theorem run_makeS {pins : List (Addr × Obj)} {σ : S} {H : Hp} {s : Shared} {Q : VK} {us : List Value} {vs : List V} (M : Mk X.K C f) (F : FnOk X.prog X.w X.K X.mg X.base CX k f fd ps sp) (hr : Room (k + 1) X.A) (hb : Binds X.K fd ps ds) (hd : Vals dvs ds)
    (hx : PassesAt CX X σ (E σ)) (I : Inv X pins σ H s) (r : Vals vs us)
    (h : ∀ x dx, H x = none → H dx = none → dx ≠ x → sp (.ref x :: (vs ++ dvs)) (upd (upd H dx (.own x)) x (.ins C dx [])) (fun v H2 => v = .non ∧ Q (.ref x) H2) (fun cls d H' => E σ cls d H')) :
    wpAny (model X.prog X.w) X.A (call (.ref C) us) (EP X pins σ Q) X.xe s := by
  have hq := h (s.heap.objs.size + 1) s.heap.objs.size (I.hok.fresh (Nat.le_succ _)) (I.hok.fresh (Nat.le_refl _)) (Nat.ne_of_lt (Nat.lt_succ_self _))
  have I2 := Inv.made (C := C) I
  have r2 : Vals (V.ref (s.heap.objs.size + 1) :: (vs ++ dvs)) (Value.ref (s.heap.objs.size + 1) :: (us ++ ds)) := .cons rfl (r.append hd)
  have hl : (Value.ref (s.heap.objs.size + 1) :: us ++ ds).length = ps.length := by
    have e := r2.length
    rw [F.len _ _ _ _ hq] at e
    exact e.symm
  refine wpAny_call (make_map (f := f) I.kIn M.makes M.init (beq_iff_eq.mp M.fn) (codeAny_mono (F.run _ X.stack _ _ ⟨Value.ref (s.heap.objs.size + 1) :: us, []⟩ (Value.ref (s.heap.objs.size + 1) :: (us ++ ds)) _ _ (fun cls d H' => E σ cls d H') (hr.make C us [])
    (I2.env0.make C us []) (hb _ (Value.ref (s.heap.objs.size + 1) :: us) I2.kIn hl) r2 hq) fun r s' hq' => ?_))
  cases r with
  | error e => exact hx pins _ _ e s' I2 hq'
  | ok fl =>
    cases fl with
    | ret u =>
      obtain ⟨v, H', I3, rv, ev, q3⟩ := I2.after hq'
      subst ev
      exact ⟨rv, ⟨V.ref (s.heap.objs.size + 1), H', I3, rfl, q3⟩⟩
    | next => exact False.elim hq'
    | brk => exact False.elim hq'
    | cont => exact False.elim hq'
def tMakeS (C : Addr) (sp : Sp) (dvs : List V) (E : S → XK) (t : TA) : TE := fun σ H Q => t σ H fun vs H1 => ∀ x dx, H1 x = none → H1 dx = none → dx ≠ x →
  sp (.ref x :: (vs ++ dvs)) (upd (upd H1 dx (.own x)) x (.ins C dx [])) (fun v H2 => v = .non ∧ Q (.ref x) H2) (fun cls d H' => E σ cls d H')
theorem pe_makeS (M : Mk X.K C f) (F : FnOk X.prog X.w X.K X.mg X.base CX k f fd ps sp) (hr : Room (k + 1) X.A) (hg : Gl X x) (hm : X.mg x = some (.ref C)) (hb : Binds X.K fd ps ds) (hd : Vals dvs ds) (hx : ∀ σ, PassesAt CX X σ (E σ))
    (ha : PA X (e :: es) t) (hdb : (x == ("__debug__" : Str)) = false := by decide) (he : starEach (e :: es) X.env = (false, eval e X.env) :: starEach es X.env := by rfl) (hpl : (backTo pos (starEach es X.env)).any (·.1) = false := by rfl) :
    PE X (.Call (.Name x p) (e :: es) [] pos) (tMakeS C sp dvs E t) := by
  refine ⟨fun pins s σ H Q I h => ?_⟩
  refine wpAny_Call_Name_kw (ld_glob I hg hm ?_ hdb)
  refine PySem.W.callWith_K (h₀ := X.base) I.ok.mod.kin M.kp (thn (ha.run pos pins s σ H _ I h) fun us s1 ⟨vs, H1, I1, r, q⟩ => ⟨I1.kIn, ?_⟩) he hpl
  exact run_makeS M F hr hb hd (hx σ) I1 r q
end
/-! ### a def and a built-in read off an own class -/
section
variable {X : Cx} {CX : CXT} {k : Nat} {f C q : Addr} {mc : Value} {fd : FuncData} {ps : List Str} {sp : Sp} {E : XK} {x m : Str} {p1 p2 pos : Pos} {e : Expr} {es : List Expr} {t ta : TA}
/-- a static method of the class x -/
structure SmAt (K : PySem.W.Frag) (mg : Str → Option Value) (x m qual : Str) (st : Stmt) (ps : List Str) : Prop where
  ex : ∃ C mc q f fd rest, mg x = some (.ref C) ∧ ClX.CRead K C mc ∧ PySem.W.findCls K (.ref C) mc m = some (.get (.builtin "staticmethod.__get__") (.ref q) .none (.ref C)) ∧ PySem.W.recIn K q "staticmethod" = some (.ref f :: rest) ∧ Binds K fd ps [] ∧ Fun K m qual st f fd
structure OkS (P : Program) (w : World) (K : PySem.W.Frag) (mg : Str → Option Value) (base : Heap) (CX : CXT) (k : Nat) (x m : Str) (ps : List Str) (sp : Sp) : Prop where
  ex : ∃ C mc q f fd rest, mg x = some (.ref C) ∧ ClX.CRead K C mc ∧ PySem.W.findCls K (.ref C) mc m = some (.get (.builtin "staticmethod.__get__") (.ref q) .none (.ref C)) ∧ PySem.W.recIn K q "staticmethod" = some (.ref f :: rest) ∧ PySem.W.keepIn K (.ref f) = true ∧ Binds K fd ps [] ∧ FnOk P w K mg base CX k f fd ps sp
theorem SmAt.ok {P : Program} {w : World} {K : PySem.W.Frag} {mg : Str → Option Value} {base : Heap} {CX : CXT} {k : Nat} {x m qual : Str} {st : Stmt} {ps : List Str} {sp : Sp} (A : SmAt K mg x m qual st ps) (h : ∀ f fd, Fun K m qual st f fd → FnOk P w K mg base CX k f fd ps sp) : OkS P w K mg base CX k x m ps sp := by
  obtain ⟨C, mc, q, f, fd, rest, h1, h2, h3, h4, b, F⟩ := A.ex
  exact ⟨C, mc, q, f, fd, rest, h1, h2, h3, h4, F.kp, b, h f fd F⟩
theorem pe_sm {pl : Sem Bool} (O : OkS X.prog X.w X.K X.mg X.base CX k x m ps sp) (hr : Room k X.A) (ha : PA X (e :: es) t) (hx : Passes CX X E := by exact pass0) (hg : Gl X x := by rfl) (hdb : (x == ("__debug__" : Str)) = false := by decide)
    (he : starEach (e :: es) X.env = (false, eval e X.env) :: starEach es X.env := by rfl) (hpl : (backTo pos (starEach es X.env)).any (·.1) = false := by rfl)
    (hc : eval (.Call (.Attribute (.Name x p1) m p2) (e :: es) [] pos) X.env = (do
      let ov ← eval (.Name x p1) X.env
      standAt p2.atName
      let (f, first) ← holding [ov] (getMethod ov m pl)
      callWith pos f first (backTo pos (starEach (e :: es) X.env)) (backToKw pos (keywordEach [] X.env))) := by rfl) :
    PE X (.Call (.Attribute (.Name x p1) m p2) (e :: es) [] pos) (tCall sp [] E t) := by
  obtain ⟨C, mc, q, f, fd, rest, hm, rd, hf, hp, hk, hb, F⟩ := O.ex
  refine ⟨fun pins s σ H Q I h => ?_⟩
  refine PySem.W.methodCall_KW (pl := pl) (ld_glob I hg hm ?_ hdb) hc
  refine PySem.W.method_cls I.kIn rd.ga ?_
  refine PySem.W.cls_bind I.kIn rd.rd hf ?_
  refine wpAny_call (PySem.W.sm_get (s := { s with toks := s.toks + 1 }) I.kIn hp (PySem.W.handed_on rfl ?_))
  show wpAny _ _ (callWith pos (Value.ref f) [] (backTo pos (starEach (e :: es) X.env)) []) _ _ _
  refine PySem.W.callWith_K (h₀ := X.base) I.ok.mod.kin hk (thn (ha.run pos pins _ σ H _ (I.tok _) h) fun us s1 ⟨vs, H1, I1, r, q⟩ => ⟨I1.kIn, ?_⟩) he hpl
  exact run_fn F hr hb .nil hx I1 r q
/-- C.__init__(self, ..), C's __init__ being ValueError's -/
theorem pe_oinit {pl : Sem Bool} (hm : X.mg x = some (.ref C)) (rd : ClX.CRead X.K C mc) (vV : PySem.W.findCls X.K (.ref C) mc "__init__" = some (.val (.builtin "ValueError.__init__"))) (ha : PA X (e :: es) ta) (hg : Gl X x := by rfl) (hdb : (x == ("__debug__" : Str)) = false := by decide)
    (hc : eval (.Call (.Attribute (.Name x p1) "__init__" p2) (e :: es) [] pos) X.env = (do
      let ov ← eval (.Name x p1) X.env
      standAt p2.atName
      let (f, first) ← holding [ov] (getMethod ov "__init__" pl)
      callWith pos f first (backTo pos (starEach (e :: es) X.env)) (backToKw pos (keywordEach [] X.env))) := by rfl)
    (he : starEach (e :: es) X.env = (false, eval e X.env) :: starEach es X.env := by rfl) (hpl : (backTo pos (starEach es X.env)).any (·.1) = false := by rfl) :
    PE X (.Call (.Attribute (.Name x p1) "__init__" p2) (e :: es) [] pos) (tVeI X.K ta) := by
  refine ⟨fun pins s σ H Q I h => ?_⟩
  refine PySem.W.methodCall_KW (pl := pl) (ld_glob I hg hm ?_ hdb) hc
  refine PySem.W.method_cls I.kIn rd.ga ?_
  refine PySem.W.cls_value I.kIn rd.rd vV rfl ?_
  show wpAny _ _ (callWith pos (Value.builtin "ValueError.__init__") [] (backTo pos (starEach (e :: es) X.env)) []) _ _ _
  refine PyProof.Rows.callWith_method1 (thn (ha.run pos pins _ σ H _ (I.tok _) h) fun us s1 ⟨vs, H1, I1, r1, a, C, ws, ev, hl, T, ea, q⟩ => ?_) he hpl
  subst ev
  cases r1 with
  | @cons _ u0 _ ur ra rw' =>
    obtain rfl : u0 = Value.ref a := ra
    have hlen : ur.length ≤ sizeLine := by
      rw [← Paired.length rw', sizeLine_eq]
      omega
    exact oinit_ok T I1 ea hlen fun s' J => ⟨.non, H1, J, rfl, q⟩
end
/-! ### isinstance of a caught exception that has fields -/
structure ExcD (K : PySem.W.Frag) (D : Addr) : Prop where
  hc : (PySem.W.clsIn K D).isSome = true
  hg : PySem.W.findIn K (.ref D) "__getattribute__" = some (some (.builtin "BaseException.__getattribute__"))
  hk : PySem.W.findIn K (.ref D) "__getattr__" = some none
  hs : PySem.W.subIn K (.ref D) (.type "BaseException") = some true
  ha : PySem.W.findIn K (.ref D) "__class__" = some (some (.builtin "object.__class__"))
  hn : PySem.W.specialIn K (.builtin "object.__class__") "__get__" = some (some (.builtin "getset_descriptor.__get__"))
  ht : PySem.W.takesIn K (.builtin "object.__class__") = some true
  hm : PySem.W.mroIn K D (.type "object") = some true
/-- isinstance(e, c), e the exception of the class at D that the suite holds; its dict at dd -/
def rIsED (K : PySem.W.Frag) (a : Addr) (cls : Value) (d : Option Addr) : List V → Hp → VK → Prop := fun xs H Q => ∃ (c : V) (cv : Value) (b : Bool) (D dd : Addr) (fs : List (Str × V)), xs = [.ref a, c] ∧ cls = .ref D ∧ d = some dd ∧ H dd = some (.xd fs) ∧ ExcD K D ∧ ClsV c cv ∧ PySem.W.kitOne K (.ref D) cv = some b ∧ Q (.bl b) H
theorem call_isED {X : Cx} {a : Addr} {oe : Obj} {cls : Value} {d : Option Addr} {pn : List (Addr × Obj)} (hz : Zc cls d oe) (hf : ∃ vs, oe.data = .fields vs) : CallR (X.suite a ((a, oe) :: pn)) (.builtin "isinstance") (rIsED X.K a cls d) := by
  intro pins s σ H xs us Q I r h
  obtain ⟨c, cv, b, D, dd, fs, rfl, rfl, rfl, hd, C, hcv, e, q⟩ := h
  cases r with
  | cons rx rr =>
    cases rr with
    | cons rt rr =>
      cases rr
      cases rx
      have ec := hcv.eq rt
      subst ec
      obtain ⟨hget, _⟩ := I.pin (a, oe) (List.mem_append.mpr (.inl List.mem_cons_self))
      obtain ⟨vs, hv⟩ := hf
      have hx : ObjOk X.prog X.w H s.heap dd (.xd fs) := I.hok dd _ hd
      obtain ⟨mA, hns, _⟩ := hx
      obtain ⟨od, ho, _⟩ := lookIn_ns hns
      have J : PySem.W.InstAt s.heap a oe D (some od) := by
        obtain ⟨oc, odd, oda, osl⟩ := oe
        obtain ⟨h1, h2⟩ := hz
        dsimp only at h1 h2 hv
        subst h1 h2 hv
        exact ⟨hget, rfl, rfl, ho⟩
      exact PySem.W.kia_one (PySem.W.kitx_exc (od := some od) C.hc C.hg C.hk C.hs C.ha C.hn C.ht C.hm) I.kIn J e (fun z => nomatch z) fun tk => ⟨.bl b, H, I.kept (t' := tk) fun _ _ z => z, rfl, q⟩
end KP

set_option Elab.async false
set_option linter.all false
set_option maxRecDepth 100000
set_option maxHeartbeats 1000000
namespace KP
open PySem PySem.Spec PyProof.Rows L2
/-! ### items that are no pairs -/
def kinds2 : List Str → Bool
  | [a, b] => kindB a && kindB b
  | _ => false
def okStrs (xs : List Str) : Bool := xs.all PyData.strOk
inductive BadV (H : Hp) : V → Bool → Prop
  | tup {t : Addr} {xs : List Str} : H t = some (.tup (xs.map V.str)) → okStrs xs = true → kinds2 xs = false → BadV H (.ref t) true
  | lst {t : Addr} {xs : List Str} : H t = some (.lst (xs.map V.str)) → okStrs xs = true → BadV H (.ref t) false
  | str {x : Str} : PyData.strOk x = true → BadV H (.str x) false
  | non : BadV H .non false
  | seven : BadV H (.int 7) false
theorem BadV.mono {H H' : Hp} {v : V} {b : Bool} (s : Same H H') : BadV H v b → BadV H' v b
  | .tup e o k => .tup (s _ _ e) o k
  | .lst e o => .lst (s _ _ e) o
  | .str o => .str o
  | .non => .non
  | .seven => .seven
theorem dp_strs {K : PySem.W.Frag} {H : Hp} : ∀ xs : List Str, DpAll K H (xs.map V.str) (xs.map PyData.str)
  | [] => .nil
  | x :: xs => .cons (.str x) (dp_strs xs)
theorem eqv_strs : ∀ xs ys : List Str, PyData.eqvAll (xs.map PyData.str) (ys.map PyData.str) = decide (xs = ys)
  | [], [] => by simp [PyData.eqvAll]
  | [], _ :: _ => by simp [PyData.eqvAll]
  | _ :: _, [] => by simp [PyData.eqvAll]
  | x :: xs, y :: ys => by
    simp only [List.map_cons, PyData.eqvAll, eqv_strs xs ys, PyData.eqv]
    by_cases h1 : x = y
    · by_cases h2 : xs = ys
      · simp [h1, h2]
      · simp [h1, h2]
    · simp [h1]
theorem lay_strs : ∀ {xs : List Str}, okStrs xs = true → PyData.canLayAll0 (xs.map PyData.str) = true
  | [], _ => by simp [PyData.canLayAll0]
  | x :: xs, h => by
    have h' : (PyData.strOk x && okStrs xs) = true := h
    obtain ⟨h1, h2⟩ := Bool.and_eq_true_iff.mp h'
    simp only [List.map_cons, PyData.canLayAll0]
    rw [lay_strs h2] <;> simp [PyData.canLay0, h1]
theorem depth_strs : ∀ xs : List Str, PyData.depthAll (xs.map PyData.str) = 0
  | [] => by simp [PyData.depthAll]
  | x :: xs => by simp only [List.map_cons, PyData.depthAll, depth_strs xs, PyData.depth]; rfl
theorem shaped_strsT {xs : List Str} (h : okStrs xs = true) : SeqAt.shaped (.tuple (xs.map PyData.str)) = true := by
  have h2 : PyData.depth (.tuple (xs.map PyData.str)) ≤ 64 := by simp only [PyData.depth, depth_strs]; decide
  show (PyData.canLay0 (.tuple (xs.map PyData.str)) && decide (PyData.depth (.tuple (xs.map PyData.str)) ≤ 64)) = true
  rw [Bool.and_eq_true]
  exact ⟨by simp only [PyData.canLay0]; exact lay_strs h, decide_eq_true h2⟩
theorem shaped_strsL {xs : List Str} (h : okStrs xs = true) : SeqAt.shaped (.list (xs.map PyData.str)) = true := by
  have h2 : PyData.depth (.list (xs.map PyData.str)) ≤ 64 := by simp only [PyData.depth, depth_strs]; decide
  show (PyData.canLay0 (.list (xs.map PyData.str)) && decide (PyData.depth (.list (xs.map PyData.str)) ≤ 64)) = true
  rw [Bool.and_eq_true]
  exact ⟨by simp only [PyData.canLay0]; exact lay_strs h, decide_eq_true h2⟩
section
variable {K : PySem.W.Frag} {σ : S} {H : Hp} {Q : VK} {te : TE} {a b : Addr} {xs ys : List V} {v : V} {c : Bool}
theorem i_eqStrsT {ss zs : List Str} (ha : SqT K H a (ss.map V.str)) (hb : SqT K H b (zs.map V.str)) (oa : okStrs ss = true) (ob : okStrs zs = true) (q : Q (.bl (decide (ss = zs))) H) : rEqD K (.ref a) (.ref b) H Q :=
  ⟨_, _, .tup ha (dp_strs ss), .tup hb (dp_strs zs), shaped_strsT oa, shaped_strsT ob, by simp only [PyData.eqv]; rw [eqv_strs]; exact q⟩
/-- a thing differs not from itself -/
theorem i_neBad (h : BadV H v c) (q : Q (.bl false) H) : rNeD K v v H Q := by
  cases h with
  | @tup t xs e o k => exact ⟨_, _, .tup (st_of e) (dp_strs xs), .tup (st_of e) (dp_strs xs), shaped_strsT o, shaped_strsT o, by simp only [PyData.eqv]; rw [eqv_strs]; simpa using q⟩
  | @lst t xs e o => exact ⟨_, _, .lst (sl_of e) (dp_strs xs), .lst (sl_of e) (dp_strs xs), shaped_strsL o, shaped_strsL o, by simp only [PyData.eqv]; rw [eqv_strs]; simpa using q⟩
  | @str x o =>
    have s : SeqAt.shaped (.str x) = true := by show (PyData.canLay0 (.str x) && _) = true; simp [PyData.canLay0, o, PyData.depth]
    exact ⟨_, _, .str x, .str x, s, s, by simp only [PyData.eqv]; simpa using q⟩
  | non => exact ⟨_, _, .non, .non, by decide +kernel, by decide +kernel, by simp only [PyData.eqv]; exact q⟩
  | seven => exact ⟨_, _, .int 7, .int 7, by decide +kernel, by decide +kernel, by simp only [PyData.eqv]; simpa using q⟩
theorem i_isiBad (h : BadV H v c) (q : Q (.bl c) H) : rIsi K [v, .ty "tuple"] H Q := by
  cases h with
  | tup e o k => exact i_isiTup e q
  | lst e o => exact ⟨_, _, _, _, false, rfl, .ty _, .base (.lst e), kit_ty (by decide +kernel), q⟩
  | str o => exact ⟨_, _, _, _, false, rfl, .ty _, .base (.str _), kit_ty (by decide +kernel), q⟩
  | non => exact ⟨_, _, _, _, false, rfl, .ty _, .base .non, kit_ty (by decide +kernel), q⟩
  | seven => exact ⟨_, _, _, _, false, rfl, .ty _, .base (.int 7), kit_ty (by decide +kernel), q⟩
/-! ### slices of lists -/
def RawSl (K : PySem.W.Frag) (Q : VK) (lo hi : Option Int) (x : V) (H1 : Hp) : Prop := rSlL K x lo hi H1 Q
theorem i_slTo {th : TE} (q : te σ H fun x H1 => th σ H1 fun y H2 => ∃ i, y = .int i ∧ RawSl K Q none (some i) x H2) : tSl (rSlL K) te tNoPart (tPart th) σ H Q := q
theorem i_slFrom {tl : TE} (q : te σ H fun x H1 => tl σ H1 fun y H2 => ∃ i, y = .int i ∧ RawSl K Q (some i) none x H2) : tSl (rSlL K) te (tPart tl) tNoPart σ H Q := q
theorem i_exi {i : Int} {A : Int → Prop} (q : A i) : ∃ k, V.int i = .int k ∧ A k := ⟨i, rfl, q⟩
end
section
variable {X : Cx}
theorem sl_listK (K : PySem.W.Frag) (e : X.K = K) : SlR X (rSlL K) := by subst e; exact sl_list
theorem sl_tupK (K : PySem.W.Frag) (e : X.K = K) : SlR X (rSlT K) := by subst e; exact sl_tup
end
section
variable {K : PySem.W.Frag} {σ : S} {H : Hp} {Q : VK} {te : TE} {a b : Addr} {xs ys : List V} {v : V} {c : Bool}
theorem raw_slTo {i : Int} (h : SqL K H a xs) (h0 : 0 ≤ i) (h1 : i ≤ xs.length) (q : ∀ p H', H p = none → Same H H' → H' p = some (.lst (xs.take i.toNat)) → Q (.ref p) H') : RawSl K Q none (some i) (.ref a) H := by
  obtain ⟨n, rfl⟩ := Int.eq_ofNat_of_zero_le h0
  refine ⟨a, xs, rfl, h, fun p hp => ?_⟩
  have e : cutV xs none (some (n : Int)) = xs.take n := by
    unfold cutV
    rw [HT.sIx_none, HT.sIx_nat, List.drop_zero, Nat.sub_zero, Nat.min_eq_left (by omega)]
  rw [e]
  exact q p _ hp (same_new hp) upd_same
theorem raw_slFrom {i : Int} (h : SqL K H a xs) (h0 : 0 ≤ i) (h1 : i ≤ xs.length) (q : ∀ p H', H p = none → Same H H' → H' p = some (.lst (xs.drop i.toNat)) → Q (.ref p) H') : RawSl K Q (some i) none (.ref a) H := by
  obtain ⟨n, rfl⟩ := Int.eq_ofNat_of_zero_le h0
  refine ⟨a, xs, rfl, h, fun p hp => ?_⟩
  have e : cutV xs (some (n : Int)) none = xs.drop n := by
    unfold cutV
    rw [HT.sIx_none, HT.sIx_nat, Nat.min_eq_left (by omega)]
    exact List.take_of_length_le (by rw [List.length_drop]; omega)
  rw [e]
  exact q p _ hp (same_new hp) upd_same
/-! ### exceptions: readings -/
def RawVe (K : PySem.W.Frag) (Q : VK) (vs : List V) (H1 : Hp) : Prop := ∃ (a C : Addr) (ws : List V), vs = .ref a :: ws ∧ ws.length ≤ 1000 ∧ OexC K C ∧ H1 a = some (exo a C none) ∧ Q .non H1
theorem i_vei {ta : TA} (q : ta σ H (RawVe K Q)) : tVeI K ta σ H Q := q
def RawOst (K : PySem.W.Frag) (D : Ends) (σ : S) (f : Str) (y x : V) (H2 : Hp) : Prop := ∃ a C : Addr, x = .ref a ∧ OexC K C ∧ PySem.W.findIn K (.ref C) f = some none ∧
  ((H2 a = some (exo a C none) ∧ ∀ dx, H2 dx = none → dx ≠ a → D.nx σ (upd (upd H2 dx (exd dx [(f, y)])) a (exo a C (some dx)))) ∨
    ∃ (dx : Addr) (fs : List (Str × V)), H2 a = some (exo a C (some dx)) ∧ H2 dx = some (exd dx fs) ∧ fs.length ≤ 900 ∧ D.nx σ (upd H2 dx (exd dx ((f, y) :: fs))))
theorem i_ost {to : TE} {f : Str} {D : Ends} (q : te σ H fun y H1 => to σ H1 fun x H2 => RawOst K D σ f y x H2) : tOst K f to te D σ H := q
def RawMkO (C : Addr) (sp : Sp) (dvs : List V) (Q : XK) (vs : List V) (H1 : Hp) : Prop := vs.length ≤ 1000 ∧ ∀ a, H1 a = none → sp (.ref a :: (vs ++ dvs)) (upd H1 a (exo a C none))
  (fun v H2 => v = .non ∧ ∃ (d : Addr) (fs : List (Str × V)), H2 a = some (exo a C (some d)) ∧ H2 d = some (exd d fs) ∧ H1 d = none ∧ Q (.ref C) (some d) (upd (del H2 a) d (.xd fs))) (fun _ _ _ => False)
def RawMkS (C : Addr) (sp : Sp) (dvs : List V) (E : S → XK) (σ : S) (Q : VK) (vs : List V) (H1 : Hp) : Prop := ∀ x dx, H1 x = none → H1 dx = none → dx ≠ x →
  sp (.ref x :: (vs ++ dvs)) (upd (upd H1 dx (.own x)) x (.ins C dx [])) (fun v H2 => v = .non ∧ Q (.ref x) H2) (fun cls d H' => E σ cls d H')
theorem i_makeS {C : Addr} {sp : Sp} {dvs : List V} {E : S → XK} {ta : TA} (q : ta σ H (RawMkS C sp dvs E σ Q)) : tMakeS C sp dvs E ta σ H Q := q
theorem i_mko {C : Addr} {sp : Sp} {dvs : List V} {ta : TA} {QX : XK} (q : ta σ H (RawMkO C sp dvs QX)) : tMkO C sp dvs ta σ H QX := q
/-- isinstance(e, c) of the exception that is held -/
theorem i_isED {e D dd : Addr} {fs : List (Str × V)} {cv : Value} (h : H dd = some (.xd fs)) (x : ExcD K D) (k : ClsV v cv) (z : PySem.W.kitOne K (.ref D) cv = some c) (q : Q (.bl c) H) : rIsED K e (.ref D) (some dd) [.ref e, v] H Q :=
  ⟨_, _, _, _, _, _, rfl, rfl, rfl, h, x, k, z, q⟩
end
/-- what the text says of the errors -/
structure ErrCl (K : PySem.W.Frag) (mg : Str → Option Value) (CO CI : Addr) (mc : Value) : Prop where
  gO : mg "OrderError" = some (.ref CO)
  rdO : ClX.CRead K CO mc
  vVO : PySem.W.findCls K (.ref CO) mc "__init__" = some (.val (.builtin "ValueError.__init__"))
  gI : mg "InvalidPair" = some (.ref CI)
  T : OexC K CI
  nI : PySem.W.findIn K (.ref CI) "pair" = some none
  X : XfC K CI
  D : ExcD K CI
def spIPI (CI : Addr) : Sp := fun vs H Q _ => ∃ a v, vs = [.ref a, v] ∧ H a = some (exo a CI none) ∧ ∀ d, H d = none → d ≠ a → Q .non (upd (upd H d (exd d [("pair", v)])) a (exo a CI (some d)))
/-- InvalidPair(..) and what it needs -/
structure EMk (P : Program) (w : World) (K : PySem.W.Frag) (mg : Str → Option Value) (base : Heap) (k : Nat) (CI : Addr) : Prop where
  ex : ∃ fI fd, PySem.W.findIn K (.ref CI) "__init__" = some (some (.ref fI)) ∧ PySem.W.typeIn K (.ref fI) = some (.type "function") ∧ Binds K fd ["self", "pair"] [] ∧ FnOk P w K mg base CX0 k fI fd ["self", "pair"] (spIPI CI)
end KP
namespace KP
open PySem PySem.Spec PyProof.Rows L2
section
variable {K : PySem.W.Frag} {σ : S} {H : Hp} {Q : VK} {te : TE}
def RawXf (a : Addr) (cls : Value) (d : Option Addr) (C : Addr) (f : Str) (Q : VK) (x : V) (H1 : Hp) : Prop := x = .ref a ∧ cls = .ref C ∧ ∃ (dd : Addr) (fs : List (Str × V)) (v : V), d = some dd ∧ H1 dd = some (.xd fs) ∧ fs.lookup f = some v ∧ Q v H1
theorem i_xf {a C : Addr} {cls : Value} {d : Option Addr} {f : Str} (q : te σ H (RawXf a cls d C f Q)) : tXf a cls d C f te σ H Q := q
end
/-! ### all pairs of two lists -/
def prodP (fs ss : List Str) : List Pr := fs.flatMap fun a => ss.map fun b => (a, b)
def prodAt (fs ss : List Str) (i j : Nat) : List Pr := prodP (fs.take i) ss ++ (fs[i]?).toList.flatMap fun a => (ss.take j).map fun b => (a, b)
theorem prodP_mem {fs ss : List Str} {p : Pr} : p ∈ prodP fs ss ↔ p.1 ∈ fs ∧ p.2 ∈ ss := by
  obtain ⟨a, b⟩ := p
  unfold prodP
  simp
theorem prodP_len : ∀ fs ss : List Str, (prodP fs ss).length = fs.length * ss.length
  | [], ss => by simp [prodP]
  | a :: fs, ss => by
    have e : prodP (a :: fs) ss = (ss.map fun b => (a, b)) ++ prodP fs ss := by simp [prodP]
    rw [e, List.length_append, List.length_map, prodP_len fs ss, List.length_cons, Nat.add_mul]
    omega
theorem prodAt_zero (fs ss : List Str) (i : Nat) : prodAt fs ss i 0 = prodP (fs.take i) ss := by
  unfold prodAt
  cases fs[i]? <;> simp
theorem prodAt_next (fs ss : List Str) (i : Nat) : prodAt fs ss i ss.length = prodAt fs ss (i + 1) 0 := by
  rw [prodAt_zero]
  unfold prodAt prodP
  rw [List.take_add_one, List.flatMap_append, List.take_length]
theorem prodAt_snoc {fs ss : List Str} {i j : Nat} {a b : Str} (ha : fs[i]? = some a) (hb : ss[j]? = some b) : prodAt fs ss i (j + 1) = prodAt fs ss i j ++ [(a, b)] := by
  unfold prodAt
  rw [ha, take_snoc hb]
  simp
theorem prodAt_end (fs ss : List Str) : prodAt fs ss fs.length 0 = prodP fs ss := by rw [prodAt_zero, List.take_length]
theorem norm_prod (fs ss : List Str) : norm (prodP fs ss) = allPairs.filter fun p => decide (p.1 ∈ fs) && decide (p.2 ∈ ss) := by
  unfold norm
  refine List.filter_congr fun p _ => ?_
  rw [Bool.eq_iff_iff]
  simp [prodP_mem]
theorem str_at {l : List Str} {i : Nat} {x : V} (h : (l.map V.str)[i]? = some x) : ∃ z, l[i]? = some z ∧ x = .str z := by
  rw [List.getElem?_map] at h
  cases e : l[i]? with
  | none => rw [e] at h; cases h
  | some z => rw [e] at h; exact ⟨z, rfl, (Option.some.inj h).symm⟩
end KP
namespace KP
open PySem PySem.Spec PyProof.Rows L2
theorem paired_take {α β : Type} {F : α → β → Prop} : ∀ {l : List α} {m : List β} (n : Nat), Paired F l m → Paired F (l.take n) (m.take n)
  | _, _, 0, _ => .nil
  | _, _, _ + 1, .nil => .nil
  | _, _, n + 1, .cons a b => .cons a (paired_take n b)
theorem mid_at {us ext r : List V} {v : V} {n : Nat} (h : n ≤ us.length) : (us.take n ++ (v :: ext) ++ r)[n]? = some v := by
  have e : (us.take n).length = n := by rw [List.length_take, Nat.min_eq_left h]
  rw [List.append_assoc, List.getElem?_append_right (by omega), e, Nat.sub_self]
  rfl
theorem mid_take {us ext r : List V} {v : V} {n : Nat} (h : n ≤ us.length) : (us.take n ++ (v :: ext) ++ r).take n = us.take n := by
  have e : (us.take n).length = n := by rw [List.length_take, Nat.min_eq_left h]
  rw [List.append_assoc, List.take_append_of_le_length (by omega), List.take_of_length_le (by omega)]
theorem kind_get {j : Int} (h0 : 0 ≤ j) (h1 : j < 4) : ∃ z, atI kindsV j = some (.str z) ∧ kindB z = true := by
  obtain ⟨n, rfl⟩ := Int.eq_ofNat_of_zero_le h0
  have hn : n < 4 := by omega
  match n, hn with
  | 0, _ => exact ⟨_, rfl, by decide +kernel⟩
  | 1, _ => exact ⟨_, rfl, by decide +kernel⟩
  | 2, _ => exact ⟨_, rfl, by decide +kernel⟩
  | 3, _ => exact ⟨_, rfl, by decide +kernel⟩
theorem norm_kinds : norm (prodP kinds kinds) = allPairs := by decide +kernel
end KP

set_option Elab.async false
set_option linter.all false
set_option maxRecDepth 100000
set_option maxHeartbeats 1000000
namespace KP
open PySem PySem.Spec PyProof.Rows L2
section
variable {X : Cx} {CX : CXT} {k : Nat} {f C q : Addr} {mc : Value} {fd : FuncData} {ps : List Str} {sp : Sp} {E : XK} {x m : Str} {p p1 p2 pos : Pos} {e : Expr} {es : List Expr} {t ta : TA}
/-- an expression that is never asked -/
theorem pe_never : PE X e (fun _ _ _ => False) := ⟨fun _ _ _ _ _ _ h => h.elim⟩
theorem pe_sm0 {pl : Sem Bool} (O : OkS X.prog X.w X.K X.mg X.base CX k x m ps sp) (hr : Room k X.A) (hx : Passes CX X E := by exact pass0) (hg : Gl X x := by rfl) (hdb : (x == ("__debug__" : Str)) = false := by decide)
    (hc : eval (.Call (.Attribute (.Name x p1) m p2) [] [] pos) X.env = (do
      let ov ← eval (.Name x p1) X.env
      standAt p2.atName
      let (f, first) ← holding [ov] (getMethod ov m pl)
      callWith pos f first (backTo pos (starEach [] X.env)) (backToKw pos (keywordEach [] X.env))) := by rfl) :
    PE X (.Call (.Attribute (.Name x p1) m p2) [] [] pos) (tCall sp [] E tNil) := by
  obtain ⟨C, mc, q, f, fd, rest, hm, rd, hf, hp, hk, hb, F⟩ := O.ex
  refine ⟨fun pins s σ H Q I h => ?_⟩
  refine PySem.W.methodCall_KW (pl := pl) (ld_glob I hg hm ?_ hdb) hc
  refine PySem.W.method_cls I.kIn rd.ga ?_
  refine PySem.W.cls_bind I.kIn rd.rd hf ?_
  refine wpAny_call (PySem.W.sm_get (s := { s with toks := s.toks + 1 }) I.kIn hp (PySem.W.handed_on rfl ?_))
  exact PySem.W.callWith_K0 (env := X.env) I.kIn hk (run_fn (us := []) F hr hb .nil hx (I.tok _) .nil h)
end
section
variable {K : PySem.W.Frag} {σ : S} {H H' : Hp} {Q : VK} {te td : TE} {d : Addr} {u : HO} {v : V}
/-- a dict walked under a lock -/
theorem raw_lock {t : TE} (hd : H d = some u) (mu : Mut (some u)) (q : ∀ od, t σ (upd H d (.frz od u)) fun v H' => H' d = some (.frz od u) ∧ Q v (upd H' d u)) : tLockE t σ H Q := ⟨d, u, hd, mu, q⟩
theorem same_lock {od : Obj} (hd : H d = some u) (s : Same (upd H d (.frz od u)) H') : Same H (upd H' d u) := fun b o e => by
  by_cases h : b = d
  · subst h
    rw [upd_same, ← e, hd]
  · rw [upd_ne h]
    exact s b o (by rw [upd_ne h]; exact e)
def rStrS : List V → Hp → VK → Prop := fun xs H Q => ∃ a, xs = [.str a] ∧ Q (.str a) H
theorem call_strS {X : Cx} : CallR X (.type "str") rStrS := SkE.call_str_str
theorem i_strS {z : Str} (q : Q (.str z) H) : rStrS [.str z] H Q := ⟨z, rfl, q⟩
theorem cr_sortedSK (K : PySem.W.Frag) {X : Cx} (e : X.K = K) : CallR X (.builtin "sorted") (rSortedS K) := by subst e; exact cr_sortedS
theorem cr_anyK (K : PySem.W.Frag) {X : Cx} (e : X.K = K) (hc : X.calm = true) : CallR X (.builtin "any") (rAny K) := by subst e; exact cr_any hc
theorem i_any {a : Addr} {bs : List Bool} (h : SqL K H a (bs.map V.bl)) (q : Q (.bl (bs.any id)) H) : rAny K [.ref a] H Q := ⟨a, bs, rfl, h, q⟩
def RawKeys (g : TG) (tt : TT) (te : TE) (vs : List Nat) (σ : S) (Q : VK) (x : V) (H1 : Hp) : Prop := ∃ d o, x = .ref d ∧ ((∃ kvs, H1 d = some (.frz o (.dK kvs)) ∧ RawLc g tt te vs σ Q (Itk d o kvs) H1) ∨ ∃ kvs, H1 d = some (.frz o (.dT kvs)) ∧ RawLc g tt te vs σ Q (Itkt d o kvs) H1)
theorem i_lcK {g : TG} {tt : TT} {vs : List Nat} (q : td σ H (RawKeys g tt te vs σ Q)) : tLc (iKeys td) g tt te vs σ H Q := q
theorem raw_lcK {g : TG} {tt : TT} {vs : List Nat} {o : Obj} {kvs : List (L2.Key × V)} (h : H d = some (.frz o (.dK kvs))) (hn : kvs.length ≤ 1000) (Pv : Nat → List V → Hp → Prop) (mono : ∀ i acc H H', TupK H H' → Pv i acc H → Pv i acc H') (p0 : Pv 0 [] H)
    (hs : ∀ i k v acc H', kvs[i]? = some (k, v) → Same H H' → Pv i acc H' → LcTurn g tt te vs σ Pv i (kV k) acc H') (hd : ∀ D acc H', H D = none → Same H H' → H' D = some (.lst acc) → Pv kvs.length acc H' → Q (.ref D) H') : RawKeys g tt te vs σ Q (.ref d) H :=
  ⟨d, o, rfl, .inl ⟨kvs, h, raw_lc (Yl := fun i x => ∃ k v, kvs[i]? = some (k, v) ∧ x = kV k) walk_keys hn (fun H' s => s _ _ h) Pv mono p0 (fun i x acc H' hi ⟨k, v, e1, e2⟩ sm pa => by subst e2; exact hs i k v acc H' e1 sm pa) hd⟩⟩
def RawDGet (Q : VK) (x y : V) (H2 : Hp) : Prop := ∃ a v, x = .ref a ∧ DGet H2 a y (some v) ∧ Q v H2
theorem i_dget {ty : TE} (q : td σ H fun x H1 => ty σ H1 fun y H2 => RawDGet Q x y H2) : tDGet td ty σ H Q := q
theorem raw_dgetS {kvs : List (L2.Key × V)} {k : Str} (h : H d = some (.dK kvs)) (hv : valV kvs (Sum.inr k) = some v) (q : Q v H) : RawDGet Q (.ref d) (.str k) H := by
  refine ⟨d, v, rfl, ?_, q⟩
  rw [← hv]
  exact DGet.k (k := Sum.inr k) h
def RawSorted (K : PySem.W.Frag) (Q : VK) (vs : List V) (H : Hp) : Prop := rSortedS K vs H Q
theorem raw_sorted {a : Addr} {xs : List Str} (h : SqL K H a (xs.map V.str)) (z : xs.length < 64) (q : ∀ ys p H', ys.Perm xs → sortedS ys = true → H p = none → Same H H' → H' p = some (.lst (ys.map V.str)) → Q (.ref p) H') : rSortedS K [.ref a] H Q :=
  ⟨a, xs, rfl, h, z, fun ys p pm so np => q ys p _ pm so np (same_new np) upd_same⟩
theorem i_neStrsT {a b : Addr} {ss zs : List Str} (ha : SqT K H a (ss.map V.str)) (hb : SqT K H b (zs.map V.str)) (oa : okStrs ss = true) (ob : okStrs zs = true) (q : Q (.bl (!decide (ss = zs))) H) : rNeD K (.ref a) (.ref b) H Q :=
  ⟨_, _, .tup ha (dp_strs ss), .tup hb (dp_strs zs), shaped_strsT oa, shaped_strsT ob, by simp only [PyData.eqv]; rw [eqv_strs]; exact q⟩
end
/-! ### a book that has full alone -/
structure BookAt (K : PySem.W.Frag) (CP C : Addr) (H : Hp) (b : Addr) (kept : List Pr) (e c : Bool) : Prop where
  ex : ∃ dx fd fp nt kp fs, H b = some (.ins C dx fs) ∧ fs.lookup ("_fences" : Str) = some (.ref fd) ∧ fs.lookup ("_names" : Str) = some (.ref nt) ∧ fs.lookup ("kept" : Str) = some (.ref kp) ∧ fs.lookup ("early" : Str) = some (.bl e) ∧ fs.lookup ("coherent" : Str) = some (.bl c) ∧
    fs.lookup ("keeps" : Str) = none ∧ fs.lookup ("ordered" : Str) = none ∧ fs.lookup ("_check_names" : Str) = none ∧ fs.lookup ("_keeps_over" : Str) = none ∧ fs.length ≤ 10 ∧
    H fd = some (.dK [(Sum.inr "full", .ref fp)]) ∧ PairsAt CP H fp allPairs ∧ H nt = some (.tup [.str "full"]) ∧ PairsAt CP H kp kept
theorem BookAt.mono {K : PySem.W.Frag} {CP C : Addr} {H H' : Hp} {b : Addr} {kept : List Pr} {e c : Bool} (s : Same H H') (h : BookAt K CP C H b kept e c) : BookAt K CP C H' b kept e c := by
  obtain ⟨dx, fd, fp, nt, kp, fs, h1, h2, h3, h4, h5, h6, m1, m2, m3, m4, z, h7, h8, h9, h10⟩ := h.ex
  exact ⟨dx, fd, fp, nt, kp, fs, s _ _ h1, h2, h3, h4, h5, h6, m1, m2, m3, m4, z, s _ _ h7, h8.mono s, s _ _ h9, h10.mono s⟩
/-- the class Book -/
structure BookCl (K : PySem.W.Frag) (mg : Str → Option Value) (C : Addr) : Prop where
  cl : Cls K C
  nF : NoAttr K C "_fences"
  nN : NoAttr K C "_names"
  nK : NoAttr K C "kept"
  nE : NoAttr K C "early"
  nC : NoAttr K C "coherent"
  gB : mg "Book" = some (.ref C)
end KP
namespace KP
open PySem PySem.Spec PyProof.Rows L2
abbrev bookPs : List Str := ["self", "kept", "fences", "early", "coherent"]
def spBInit (K : PySem.W.Frag) (CP C : Addr) : Sp := fun vs H Q _ => ∃ (p dx kp : Addr) (ps : List Pr) (e c : Bool), vs = [.ref p, .ref kp, .non, .bl e, .bl c] ∧ H p = some (.ins C dx []) ∧ PairsAt CP H kp ps ∧
  ∀ H', BookAt K CP C H' p ps e c → (∀ b o, b ≠ p → H b = some o → H' b = some o) → Q .non H'
/-- Book(..) and what it needs -/
structure BMk (P : Program) (w : World) (K : PySem.W.Frag) (mg : Str → Option Value) (base : Heap) (k : Nat) (CP C : Addr) : Prop where
  ex : ∃ f fd ds, Mk K C f ∧ Vals [.non, .bl false, .bl true] ds ∧ Binds K fd bookPs ds ∧ FnOk P w K mg base CX0 k f fd bookPs (spBInit K CP C) ∧
    (∃ g, KBn K fd bookPs 2 ["early"] g fun vs zs => vs ++ ([.non] ++ (zs ++ [.bl true]))) ∧ ∃ g, KBn K fd bookPs 2 ["early", "coherent"] g fun vs zs => vs ++ ([.non] ++ zs)
  gB : mg "Book" = some (.ref C)
section
variable {X : Cx} {k : Nat} {CP C : Addr} {E : XK} {p pos : Pos} {e : Expr} {t tk : TA} {kws : List Keyword}
theorem pe_makeB (O : BMk X.prog X.w X.K X.mg X.base k CP C) (hr : Room (k + 1) X.A) (ha : PA X [e] t) (hx : Passes CX0 X E := by exact pass0) (hg : Gl X "Book" := by rfl)
    (he : starEach (e :: []) X.env = (false, eval e X.env) :: starEach [] X.env := by rfl) (hpl : (backTo pos (starEach [] X.env)).any (·.1) = false := by rfl) :
    PE X (.Call (.Name "Book" p) [e] [] pos) (tMake C (spBInit X.K CP C) [.non, .bl false, .bl true] E t) := by
  obtain ⟨f, fd, ds, M, v, b, F, _, _⟩ := O.ex
  exact pe_make M F hr hg O.gB b v hx ha (by decide) he hpl
theorem pe_makeBe (O : BMk X.prog X.w X.K X.mg X.base k CP C) (hr : Room (k + 1) X.A) (ha : PA X [e] t) (hkw : PK X kws tk) (hx : Passes CX0 X E := by exact pass0) (hg : Gl X "Book" := by rfl)
    (hall : (backToKw pos (keywordEach kws X.env)).all (·.1.isSome) = true := by rfl) (hks : (backToKw pos (keywordEach kws X.env)).filterMap (·.1) = (["early"] : List Str) := by rfl)
    (he : starEach (e :: []) X.env = (false, eval e X.env) :: starEach [] X.env := by rfl) (hpl : ((backTo pos (starEach (e :: []) X.env)).any (·.1) || (backToKw pos (keywordEach kws X.env)).any (·.1.isNone)) = false := by rfl) :
    PE X (.Call (.Name "Book" p) [e] kws pos) (tMakeK C 1 1 (spBInit X.K CP C) (fun vs zs => vs ++ ([.non] ++ (zs ++ [.bl true]))) E t tk) := by
  obtain ⟨f, fd, ds, M, v, b, F, ⟨g, G⟩, _⟩ := O.ex
  exact pe_makeK (ks := ["early"]) M F hr hg O.gB G hx ha hkw hall hks (by decide) he hpl
theorem pe_makeBec (O : BMk X.prog X.w X.K X.mg X.base k CP C) (hr : Room (k + 1) X.A) (ha : PA X [e] t) (hkw : PK X kws tk) (hx : Passes CX0 X E := by exact pass0) (hg : Gl X "Book" := by rfl)
    (hall : (backToKw pos (keywordEach kws X.env)).all (·.1.isSome) = true := by rfl) (hks : (backToKw pos (keywordEach kws X.env)).filterMap (·.1) = (["early", "coherent"] : List Str) := by rfl)
    (he : starEach (e :: []) X.env = (false, eval e X.env) :: starEach [] X.env := by rfl) (hpl : ((backTo pos (starEach (e :: []) X.env)).any (·.1) || (backToKw pos (keywordEach kws X.env)).any (·.1.isNone)) = false := by rfl) :
    PE X (.Call (.Name "Book" p) [e] kws pos) (tMakeK C 1 2 (spBInit X.K CP C) (fun vs zs => vs ++ ([.non] ++ zs)) E t tk) := by
  obtain ⟨f, fd, ds, M, v, b, F, _, ⟨g, G⟩⟩ := O.ex
  exact pe_makeK (ks := ["early", "coherent"]) M F hr hg O.gB G hx ha hkw hall hks (by decide) he hpl
end
section
variable {K : PySem.W.Frag} {σ : S} {H : Hp} {Q : VK} {CP C : Addr}
def RawMkK (C : Addr) (n m : Nat) (sp : Sp) (gV : List V → List V → List V) (E : XK) (Q : VK) (vs zs : List V) (H2 : Hp) : Prop := vs.length = n ∧ zs.length = m ∧ ∀ x dx, H2 x = none → H2 dx = none → dx ≠ x →
  sp (gV (.ref x :: vs) zs) (upd (upd H2 dx (.own x)) x (.ins C dx [])) (fun v H3 => v = .non ∧ Q (.ref x) H3) E
theorem i_makeK {n m : Nat} {sp : Sp} {gV : List V → List V → List V} {E : XK} {t tk : TA} (q : t σ H fun vs H1 => tk σ H1 fun zs H2 => RawMkK C n m sp gV E Q vs zs H2) : tMakeK C n m sp gV E t tk σ H Q := q
theorem mk_book {e c : Bool} {kp x dx : Addr} {ps : List Pr} {vs : List V} (hk : PairsAt CP H kp ps) (nx : H x = none) (ndx : H dx = none) (hv : vs = [.ref x, .ref kp, .non, .bl e, .bl c])
    (q : ∀ x H', H x = none → Same H H' → BookAt K CP C H' x ps e c → Q (.ref x) H') : spBInit K CP C vs (upd (upd H dx (.own x)) x (.ins C dx [])) (fun v H2 => v = .non ∧ Q (.ref x) H2) E0 := by
  have s0 : Same H (upd (upd H dx (.own x)) x (.ins C dx [])) := fun b o e => by
    rw [upd_ne (ne_of_none e nx), upd_ne (ne_of_none e ndx)]
    exact e
  exact ⟨x, dx, kp, ps, e, c, hv, upd_same, hk.mono s0, fun H' B k => ⟨rfl, q x H' nx (fun b o e => k b o (ne_of_none e nx) (s0 b o e)) B⟩⟩
theorem raw_mkB {kp : Addr} {ps : List Pr} (hk : PairsAt CP H kp ps) (q : ∀ x H', H x = none → Same H H' → BookAt K CP C H' x ps false true → Q (.ref x) H') : RawMk C (spBInit K CP C) [.non, .bl false, .bl true] E0 Q [.ref kp] H :=
  fun x dx nx ndx nex => mk_book hk nx ndx rfl q
theorem raw_mkBe {kp : Addr} {ps : List Pr} {e : Bool} (hk : PairsAt CP H kp ps) (q : ∀ x H', H x = none → Same H H' → BookAt K CP C H' x ps e true → Q (.ref x) H') : RawMkK C 1 1 (spBInit K CP C) (fun vs zs => vs ++ ([.non] ++ (zs ++ [.bl true]))) E0 Q [.ref kp] [.bl e] H :=
  ⟨rfl, rfl, fun x dx nx ndx nex => mk_book hk nx ndx rfl q⟩
theorem raw_mkBec {kp : Addr} {ps : List Pr} {e c : Bool} (hk : PairsAt CP H kp ps) (q : ∀ x H', H x = none → Same H H' → BookAt K CP C H' x ps e c → Q (.ref x) H') : RawMkK C 1 2 (spBInit K CP C) (fun vs zs => vs ++ ([.non] ++ zs)) E0 Q [.ref kp] [.bl e, .bl c] H :=
  ⟨rfl, rfl, fun x dx nx ndx nex => mk_book hk nx ndx rfl q⟩
end
end KP
namespace KP
open PySem PySem.Spec PyProof.Rows L2
section
variable {p : Addr} {H H1 H2 H' : Hp} {C dx : Addr} {fs : List (Str × V)}
theorem But.trans (a : But p H H1) (b : But p H1 H2) : But p H H2 := fun c o h e => b c o h (a c o h e)
theorem But.same (a : But p H H1) (s : Same H1 H2) : But p H H2 := fun c o h e => s c o (a c o h e)
theorem Same.but (s : Same H H1) : But p H H1 := fun c o _ e => s c o e
theorem But.paI {CP m : Addr} {ps : List Pr} (b : But p H H') (e : H p = some (.ins C dx fs)) (hm : m ≠ p) (h : PairsAt CP H m ps) : PairsAt CP H' m ps := by
  obtain ⟨dy, t, vs, h1, h2, h3⟩ := h
  exact ⟨dy, t, vs, b _ _ hm h1, b _ _ (ne_of h2 e fun q => nomatch q) h2, h3.mono fun t xs z => b t _ (ne_of z e (fun q => nomatch q)) z⟩
theorem pa_ne {CP m : Addr} {ps : List Pr} (e : H p = some (.ins C dx [])) (h : PairsAt CP H m ps) : m ≠ p := by
  obtain ⟨dy, t, vs, h1, _⟩ := h
  rintro rfl
  rw [e] at h1
  have z := Option.some.inj h1
  injection z with _ _ z
  cases z
end
end KP
namespace KP
open PySem PySem.Spec PyProof.Rows L2
/-- a property of a class -/
structure OkP (P : Program) (w : World) (K : PySem.W.Frag) (mg : Str → Option Value) (base : Heap) (k : Nat) (C : Addr) (m : Str) (sp : Sp) : Prop where
  ex : ∃ p g fd, PropOf K C m p g ∧ Binds K fd ["self"] [] ∧ FnOk P w K mg base CX0 k g fd ["self"] sp
/-- a method whose last parameters have defaults -/
structure OkMD (P : Program) (w : World) (K : PySem.W.Frag) (mg : Str → Option Value) (base : Heap) (k : Nat) (C : Addr) (m : Str) (ps : List Str) (dvs : List V) (sp : Sp) : Prop where
  ex : ∃ f fd ds, Meth K C m f ∧ Vals dvs ds ∧ Binds K fd ps ds ∧ FnOk P w K mg base CX0 k f fd ps sp
section
variable {X : Cx} {CX : CXT} {k : Nat} {C : Addr} {ps : List Str} {sp : Sp} {E : XK} {m : Str} {o e : Expr} {es : List Expr} {pos apos : Pos} {ta : TE} {t : TA} {dvs : List V}
theorem pe_propO (O : OkP X.prog X.w X.K X.mg X.base k C m sp) (c : Cls X.K C) (hr : Room (k + 1) X.A) (he : PE X e ta) (hab : attributeBase e m X.env (eval e X.env) = eval e X.env := by rfl) : PE X (.Attribute e m pos) (tProp C sp [] E0 ta) := by
  obtain ⟨p, g, fd, hp, b, F⟩ := O.ex
  exact pe_prop he c hp F hr b .nil pass0 hab
theorem pe_methO {pl : Sem Bool} (O : OkM X.prog X.w X.K X.mg X.base CX k C m ps sp) (c : Cls X.K C) (hr : Room k X.A) (he : PE X o ta) (ha : PA X (e :: es) t) (hx : Passes CX X E := by exact pass0)
    (hst : starEach (e :: es) X.env = (false, eval e X.env) :: starEach es X.env := by rfl) (hpl : (backTo pos (starEach es X.env)).any (·.1) = false := by rfl)
    (ht : eval (.Call (.Attribute o m apos) (e :: es) [] pos) X.env = (do
      let ov ← eval o X.env
      standAt apos.atName
      let (f, first) ← holding [ov] (getMethod ov m pl)
      callWith pos f first (backTo pos (starEach (e :: es) X.env)) (backToKw pos (keywordEach [] X.env))) := by rfl) :
    PE X (.Call (.Attribute o m apos) (e :: es) [] pos) (tMeth C m sp [] E ta t) := by
  obtain ⟨f, fd, h1, h2, h3, b, F⟩ := O.ex
  exact pe_meth he c ⟨h1, h2, h3⟩ F hr b .nil hx ha hst hpl ht
theorem pe_methD {pl : Sem Bool} (O : OkMD X.prog X.w X.K X.mg X.base k C m ps dvs sp) (c : Cls X.K C) (hr : Room k X.A) (he : PE X o ta) (ha : PA X (e :: es) t)
    (hst : starEach (e :: es) X.env = (false, eval e X.env) :: starEach es X.env := by rfl) (hpl : (backTo pos (starEach es X.env)).any (·.1) = false := by rfl)
    (ht : eval (.Call (.Attribute o m apos) (e :: es) [] pos) X.env = (do
      let ov ← eval o X.env
      standAt apos.atName
      let (f, first) ← holding [ov] (getMethod ov m pl)
      callWith pos f first (backTo pos (starEach (e :: es) X.env)) (backToKw pos (keywordEach [] X.env))) := by rfl) :
    PE X (.Call (.Attribute o m apos) (e :: es) [] pos) (tMeth C m sp dvs E0 ta t) := by
  obtain ⟨f, fd, ds, h1, v, b, F⟩ := O.ex
  exact pe_meth he c h1 F hr b v pass0 ha hst hpl ht
end
section
variable {K : PySem.W.Frag} {σ : S} {H : Hp} {Q : VK} {C a dx : Addr} {m : Str} {sp : Sp} {dvs : List V} {E : XK} {ta : TE} {t : TA} {fs : List (Str × V)}
def RawMeth (C : Addr) (m : Str) (sp : Sp) (dvs : List V) (E : XK) (t : TA) (σ : S) (Q : VK) (x : V) (H1 : Hp) : Prop := ∃ a dx fs, x = .ref a ∧ H1 a = some (.ins C dx fs) ∧ fs.lookup m = none ∧ t σ H1 fun vs H2 => sp (x :: (vs ++ dvs)) H2 Q E
theorem i_meth (q : ta σ H (RawMeth C m sp dvs E t σ Q)) : tMeth C m sp dvs E ta t σ H Q := q
theorem raw_meth (h : H a = some (.ins C dx fs)) (n : fs.lookup m = none) (q : t σ H fun vs H2 => sp (.ref a :: (vs ++ dvs)) H2 Q E) : RawMeth C m sp dvs E t σ Q (.ref a) H := ⟨a, dx, fs, rfl, h, n, q⟩
def RawProp (C : Addr) (sp : Sp) (dvs : List V) (E : XK) (Q : VK) (x : V) (H1 : Hp) : Prop := ∃ a dx fs, x = .ref a ∧ H1 a = some (.ins C dx fs) ∧ sp (.ref a :: dvs) H1 Q E
theorem i_prop (q : ta σ H (RawProp C sp dvs E Q)) : tProp C sp dvs E ta σ H Q := q
end
end KP
namespace KP
open PySem PySem.Spec PyProof.Rows L2
section
variable {K : PySem.W.Frag} {σ : S} {H : Hp} {Q : VK} {te : TE} {a : Addr} {xs : List V} {ta : TA} {i j : Nat} {D : Ends}
def RawPar (i j : Nat) (D : Ends) (σ : S) (vs : List V) (H1 : Hp) : Prop := ∃ v w, vs = [v, w] ∧ D.nx ((σ.set i (some v)).set j (some w)) H1
theorem i_par (q : ta σ H (RawPar i j D σ)) : tPar i j ta D σ H := q
theorem raw_par {v w : V} (q : D.nx ((σ.set i (some v)).set j (some w)) H) : RawPar i j D σ [v, w] H := ⟨v, w, rfl, q⟩
theorem i_slB {tl th : TE} (q : te σ H fun x H1 => tl σ H1 fun y H2 => ∃ i, y = .int i ∧ th σ H2 fun z H3 => ∃ j, z = .int j ∧ RawSl K Q (some i) (some j) x H3) : tSl (rSlL K) te (tPart tl) (tPart th) σ H Q := q
theorem raw_slX {lo hi : Option Int} {ys : List V} (h : SqL K H a xs) (e : cutV xs lo hi = ys) (q : ∀ p H', H p = none → Same H H' → H' p = some (.lst ys) → Q (.ref p) H') : RawSl K Q lo hi (.ref a) H := by
  subst e
  exact ⟨a, xs, rfl, h, fun p hp => q p _ hp (same_new hp) upd_same⟩
end
end KP
namespace KP
open PySem PySem.Spec PyProof.Rows L2
theorem i_gsub {to ti : TE} {t : TSet} {v : V} {σ : S} {H : Hp} {QN : S → Hp → Prop} (q : to σ H fun o H1 => ti σ H1 fun i H2 => t o i v H2 fun H3 => QN σ H3) : gSub to ti t v σ H QN := q
end KP
namespace KP
open PySem PySem.Spec PyProof.Rows L2
theorem paired_drop {α β : Type} {F : α → β → Prop} : ∀ {l : List α} {m : List β} (n : Nat), Paired F l m → Paired F (l.drop n) (m.drop n)
  | _, _, 0, h => h
  | _, _, _ + 1, .nil => .nil
  | _, _, n + 1, .cons a b => paired_drop n b
end KP

set_option Elab.async false
set_option linter.all false
set_option maxRecDepth 100000
set_option maxHeartbeats 1000000
namespace KP
open PySem PySem.Spec PyProof.Rows L2
/-! ### names of fences, instructions -/
def lettersS : Str := "abcdefghijklmnopqrstuvwxyz"
def letB (c : Nat) : Bool := decide (c ∈ lettersS.cps.toList)
def fenceB (z : Str) : Bool := !kindB z && ((decide ((1 : Int) ≤ (z.length : Int)) && decide ((z.length : Int) ≤ (8 : Int))) && z.cps.toList.all letB)
/-- texts, whole numbers, True and False, None -/
def scal4 : V → Bool
  | .int _ => true
  | .bl _ => true
  | .str z => decide (z.length ≤ 1000) && PyData.strOk z
  | .non => true
  | _ => false
def isIntV : V → Bool
  | .int _ => true
  | _ => false
def cellV : V → Bool
  | .int i => decide (0 ≤ i) && decide (i ≤ 9)
  | _ => false
def valueV : V → Bool
  | .int i => decide (1 ≤ i) && decide (i ≤ 1000000000)
  | _ => false
def fenceV : V → Bool
  | .str z => fenceB z
  | _ => false
def writesK : List Str := ["write", "release"]
def inK (x : V) (l : List Str) : Bool := inV x (l.map V.str)
def readB : List V → Bool
  | [c] => cellV c
  | _ => false
def writeB : List V → Bool
  | [c, v] => cellV c && valueV v
  | _ => false
def aloneB (x : V) : List V → Bool
  | [] => fenceV x
  | _ => false
def instrB : List V → Bool
  | [] => false
  | x :: xs => if inK x readsK = true then readB xs else if inK x writesK = true then writeB xs else aloneB x xs
section
variable {K : PySem.W.Frag} {σ : S} {H : Hp} {Q : VK} {x : V} {te : TE} {g : TG} {tt : TT} {vs : List Nat}
def tyName : V → String
  | .int _ => "int"
  | .bl _ => "bool"
  | .str _ => "str"
  | .non => "NoneType"
  | _ => ""
theorem i_isi4 (h : scal4 x = true) {t : String} {b : Bool} (k : kitB (tyName x) t = some b) (q : Q (.bl b) H) : rIsi K [x, .ty t] H Q := by
  cases x <;> first | exact ⟨_, _, _, _, b, rfl, .ty _, .base (.int _), kit_ty k, q⟩ | exact ⟨_, _, _, _, b, rfl, .ty _, .base (.bl _), kit_ty k, q⟩ | exact ⟨_, _, _, _, b, rfl, .ty _, .base (.str _), kit_ty k, q⟩ | exact ⟨_, _, _, _, b, rfl, .ty _, .base .non, kit_ty k, q⟩ | cases h
theorem flat4 (h : scal4 x = true) : flatV x = true := by cases x <;> first | rfl | cases h
theorem i_inT4 {a : Addr} {l : List Str} (ha : SqT K H a (l.map V.str)) (h : scal4 x = true) (q : Q (.bl (inK x l)) H) : rIn K false x (.ref a) H Q := ⟨a, _, rfl, .inr ha, flat4 h, flat_strs l, by
  show Q (.bl (if false = true then _ else inV _ _)) H
  rw [if_neg Bool.false_ne_true]; exact q⟩
/-- a chain of comparisons of whole numbers -/
theorem inK_str {z : Str} {l : List Str} : inK (.str z) l = decide (z ∈ l) := inV_strs z l
def rLenS : List V → Hp → VK → Prop := fun xs H Q => ∃ z, xs = [.str z] ∧ z.length ≤ sizeLine ∧ Q (.int z.length) H
theorem call_lenS {X : Cx} : CallR X (.builtin "len") rLenS := call_len_str
theorem i_lenS {z : Str} (h : z.length ≤ 1000) (q : Q (.int z.length) H) : rLenS [.str z] H Q := ⟨z, rfl, by rw [sizeLine_eq]; omega, q⟩
def RawLcS (g : TG) (tt : TT) (te : TE) (vs : List Nat) (σ : S) (Q : VK) (v : V) (H1 : Hp) : Prop := ∃ x, v = .str x ∧ RawLc g tt te vs σ Q (Its x) H1
theorem i_lcS {ts : TE} (q : ts σ H (RawLcS g tt te vs σ Q)) : tLc (iStr ts) g tt te vs σ H Q := q
theorem raw_lcS {z : Str} (hn : z.length ≤ 1000) (Pv : Nat → List V → Hp → Prop) (mono : ∀ i acc H H', TupK H H' → Pv i acc H → Pv i acc H') (p0 : Pv 0 [] H)
    (hs : ∀ i c acc H', z.cps[i]? = some c → Same H H' → Pv i acc H' → LcTurn g tt te vs σ Pv i (.str ⟨#[c]⟩) acc H') (hd : ∀ D acc H', H D = none → Same H H' → H' D = some (.lst acc) → Pv z.cps.size acc H' → Q (.ref D) H') : RawLcS g tt te vs σ Q (.str z) H :=
  ⟨z, rfl, raw_lc (Yl := fun i x => ∃ c, z.cps[i]? = some c ∧ x = .str ⟨#[c]⟩) walk_str hn (fun H' s => trivial) Pv mono p0 (fun i x acc H' hi ⟨c, e1, e2⟩ sm pa => by subst e2; exact hs i c acc H' e1 sm pa) hd⟩
theorem i_inS {c : Nat} {z : Str} (q : Q (.bl (decide (c ∈ z.cps.toList))) H) : rInS (.str ⟨#[c]⟩) (.str z) H Q := ⟨c, z, rfl, rfl, q⟩
end
end KP
namespace KP
open PySem PySem.Spec PyProof.Rows L2
section
variable {σ : S} {H : Hp} {Q : VK} {ta tb tc : TE} {r r' : R2}
theorem i_chain (q : ta σ H fun x H1 => tb σ H1 fun y H2 => r x y H2 fun z H3 => ∃ k, z = .bl k ∧ (if k = true then tc σ H3 fun w' H4 => r' y w' H4 Q else Q (.bl false) H3)) : tChain r r' ta tb tc σ H Q := q
end
theorem take_all {α : Type} (f : α → Bool) (l : List α) : (l.map f).all id = l.all f := by rw [List.all_map]; rfl
end KP
namespace KP
open PySem PySem.Spec PyProof.Rows L2
/-- an item of a program, and whether it is an instruction -/
inductive InstrV (H : Hp) : V → Bool → Prop
  | tup {t : Addr} {xs : List V} : H t = some (.tup xs) → (∀ x ∈ xs, scal4 x = true) → InstrV H (.ref t) (instrB xs)
  | lst {t : Addr} {xs : List V} : H t = some (.lst xs) → xs.all scal4 = true → InstrV H (.ref t) false
  | scal {x : V} : scal4 x = true → InstrV H x false
theorem InstrV.mono {H H' : Hp} {v : V} {b : Bool} (s : Same H H') : InstrV H v b → InstrV H' v b
  | .tup e o => .tup (s _ _ e) o
  | .lst e o => .lst (s _ _ e) o
  | .scal o => .scal o
theorem i_isiLst {K : PySem.W.Frag} {H : Hp} {Q : VK} {a : Addr} {xs : List V} (h : H a = some (.lst xs)) (q : Q (.bl false) H) : rIsi K [.ref a, .ty "tuple"] H Q := ⟨_, _, _, _, false, rfl, .ty _, .base (.lst h), kit_ty (by decide +kernel), q⟩
theorem i_isiNoT {K : PySem.W.Frag} {H : Hp} {Q : VK} {x : V} (h : scal4 x = true) (q : Q (.bl false) H) : rIsi K [x, .ty "tuple"] H Q := by
  have k1 : kitB "int" "tuple" = some false := by decide +kernel
  have k2 : kitB "bool" "tuple" = some false := by decide +kernel
  have k3 : kitB "str" "tuple" = some false := by decide +kernel
  have k4 : kitB "NoneType" "tuple" = some false := by decide +kernel
  cases x with
  | int i => exact i_isi4 h k1 q
  | bl i => exact i_isi4 h k2 q
  | str i => exact i_isi4 h k3 q
  | non => exact i_isi4 h k4 q
  | _ => cases h
end KP
namespace KP
open PySem PySem.Spec PyProof.Rows L2
theorem small_log {i : Int} (h0 : 0 ≤ i) (h1 : i ≤ 1000) : i.natAbs.log2 < 10 := by
  by_cases z : i.natAbs = 0
  · rw [z]; decide +kernel
  · exact (Nat.log2_lt z).mpr (by omega)
theorem text_len {i : Int} (h0 : 0 ≤ i) (h1 : i ≤ 1000) : (Str.ofString (toString i)).length ≤ 11 := by
  have e := int_text_length_le (k := 10) (by decide) (small_log h0 h1)
  rw [PySem.ofString_length]
  exact e
theorem app_len (a b : Str) : (a ++ b).length = a.length + b.length := by
  show (a.cps ++ b.cps).size = a.cps.size + b.cps.size
  exact Array.size_append
end KP
namespace KP
open PySem PySem.Spec PyProof.Rows L2
section
variable {K : PySem.W.Frag} {ta : TA} {D : Ends} {σ : S} {H : Hp} {tb : TS} {g : TG} {a : Addr} {xs : List V}
def RawFE (K : PySem.W.Frag) (g : TG) (tb : TS) (D : Ends) (σ : S) (vs : List V) (H1 : Hp) : Prop := ∃ a xs, vs = [.ref a] ∧ SqL K H1 a xs ∧ RawFor g tb D σ (Ite K a) H1
theorem i_forE (q : ta σ H (RawFE K g tb D σ)) : tFor (iEnum K ta) g tb D σ H := q
theorem raw_fe (hS : SqL K H a xs) (Pv : Nat → S → Hp → Prop) (p0 : Pv 0 σ H) (hl : ∀ i σ H, i ≤ xs.length → Pv i σ H → SqL K H a xs)
    (hs : ∀ i x T σ H, xs[i]? = some x → Pv i σ H → H T = none → g (.ref T) σ (upd H T (.tup [.int (i : Nat), x])) fun σ2 H2 => tb { D with nx := Pv (i + 1), ct := Pv (i + 1), bk := D.nx } σ2 H2) (hd : ∀ σ H, Pv xs.length σ H → D.nx σ H) : RawFE K g tb D σ [.ref a] H :=
  ⟨a, xs, rfl, hS, for_it walk_enum Pv p0 hl (fun i x σ H H' hi p y => by
    obtain ⟨T, u, v, rfl, nT, rfl, e1, e2⟩ := y
    cases e1
    exact hs i v T σ H e2 p nT) hd⟩
end
/-- a program: for each item whether it is an instruction -/
def RowV (K : PySem.W.Frag) (H : Hp) (t : V) (bs : List Bool) : Prop := ∃ l vs, t = .ref l ∧ SqL K H l vs ∧ Paired (InstrV H) vs bs
def ProgV (K : PySem.W.Frag) (H : Hp) (a : Addr) (rows : List (List Bool)) : Prop := ∃ ts, SqL K H a ts ∧ Paired (RowV K H) ts rows
theorem RowV.mono {K : PySem.W.Frag} {H H' : Hp} {t : V} {bs : List Bool} (s : Same H H') (h : RowV K H t bs) : RowV K H' t bs := let ⟨l, vs, e, hs, p⟩ := h; ⟨l, vs, e, s.seq hs, paired_mono (fun _ _ z => z.mono s) p⟩
theorem ProgV.mono {K : PySem.W.Frag} {H H' : Hp} {a : Addr} {rows : List (List Bool)} (s : Same H H') (h : ProgV K H a rows) : ProgV K H' a rows := let ⟨ts, hs, p⟩ := h; ⟨ts, s.seq hs, paired_mono (fun _ _ z => z.mono s) p⟩
def AllOk (rows : List (List Bool)) : Prop := ∀ (i : Nat) (bs : List Bool), rows[i]? = some bs → ∀ b ∈ bs, b = true
structure FirstBad (rows : List (List Bool)) (i j : Nat) : Prop where
  ex : ∃ bs, rows[i]? = some bs ∧ bs[j]? = some false ∧ ∀ j' < j, bs[j']? = some true
  before : ∀ i' < i, ∀ bs, rows[i']? = some bs → ∀ b ∈ bs, b = true
end KP
namespace KP
open PySem PySem.Spec PyProof.Rows L2
theorem lett_get {j : Int} (h0 : 0 ≤ j) (h1 : j < 26) : ∃ c, atI lettersS.cps.toList j = some c ∧ letB c = true := by
  obtain ⟨n, rfl⟩ := Int.eq_ofNat_of_zero_le h0
  have hn : n < 26 := by omega
  have all : ∀ n < 26, (lettersS.cps.toList[n]?).any letB = true := by decide +kernel
  have := all n hn
  cases e : lettersS.cps.toList[n]? with
  | none => rw [e] at this; cases this
  | some c => rw [e] at this; exact ⟨c, atI_nat (j := n) e, this⟩
def cut1 (z : Str) : Str := Str.ofString "z" ++ cutS z (some 1) none
theorem cut1_cps {z : Str} (h : 1 ≤ z.length) : (cut1 z).cps.toList = 122 :: z.cps.toList.drop 1 := by
  have e1 : HT.sIx z.length 0 (some 1) = 1 := by
    rw [show (some (1 : Int)) = some ((1 : Nat) : Int) from rfl, HT.sIx_nat]
    omega
  have e2 : (cutS z (some 1) none).cps.toList = z.cps.toList.drop 1 := by
    show ((z.cps.toList.drop (HT.sIx z.length 0 (some 1))).take (HT.sIx z.length z.length none - HT.sIx z.length 0 (some 1))).toArray.toList = _
    rw [e1, HT.sIx_none]
    show (z.cps.toList.drop 1).take (z.length - 1) = z.cps.toList.drop 1
    exact List.take_of_length_le (by rw [List.length_drop, Array.length_toList]; exact Nat.le_refl _)
  have e3 : (Str.ofString "z").cps.toList = [122] := by decide +kernel
  show ((Str.ofString "z").cps ++ (cutS z (some 1) none).cps).toList = _
  rw [Array.toList_append, e3, e2]
  rfl
theorem len_cps (z : Str) : z.length = z.cps.toList.length := by rw [Array.length_toList]; rfl
theorem cut1_ok {z : Str} (h1 : 1 ≤ z.length) (h8 : z.length ≤ 8) (ha : z.cps.toList.all letB = true) : fenceB (cut1 z) = true ∧ cut1 z ≠ ("full" : Str) := by
  have e := cut1_cps h1
  have nk : ∀ k ∈ kinds, k.cps.toList.head? ≠ some 122 := by decide +kernel
  have nf : ("full" : Str).cps.toList.head? ≠ some 122 := by decide +kernel
  have hk : kindB (cut1 z) = false := decide_eq_false fun h => nk _ h (by rw [e]; rfl)
  have hl : (cut1 z).length = z.length := by
    rw [len_cps, e, List.length_cons, List.length_drop, ← len_cps]
    omega
  have hz : letB 122 = true := by decide +kernel
  have hall : (cut1 z).cps.toList.all letB = true := by
    rw [e, List.all_cons, hz, Bool.true_and]
    refine List.all_eq_true.mpr fun c hc => ?_
    exact List.all_eq_true.mp ha c (List.mem_of_mem_drop hc)
  refine ⟨?_, fun h => nf (by rw [← h, e]; rfl)⟩
  unfold fenceB
  rw [hk, hall, hl, decide_eq_true (show (1 : Int) ≤ (z.length : Int) by omega), decide_eq_true (show (z.length : Int) ≤ 8 by omega)]
  rfl
theorem fence_ok {z : Str} (h1 : 1 ≤ z.length) (h8 : z.length ≤ 8) (ha : z.cps.toList.all letB = true) (hk : kindB z = false) : fenceB z = true := by
  unfold fenceB
  rw [hk, ha, decide_eq_true (show (1 : Int) ≤ (z.length : Int) by omega), decide_eq_true (show (z.length : Int) ≤ 8 by omega)]
  rfl
end KP
namespace KP
open PySem PySem.Spec PyProof.Rows L2
theorem badT {H : Hp} {t : Addr} {xs : List V} (e : H t = some (.tup xs)) (o : xs.all scal4 = true) (z : instrB xs = false) : InstrV H (.ref t) false := by
  have h := InstrV.tup e (fun x hx => List.all_eq_true.mp o x hx)
  rw [z] at h
  exact h
end KP

set_option Elab.async false
set_option linter.all false
set_option maxRecDepth 100000
set_option maxHeartbeats 1000000
namespace KP
open PySem PySem.Spec PyProof.Rows L2
theorem instr_write {w : Str} (hw : w ∈ writesK) {s u : Int} (s0 : 0 ≤ s) (s9 : s ≤ 9) (u1 : 1 ≤ u) (ub : u ≤ 1000000000) : instrB [.str w, .int s, .int u] = true := by
  have e1 : inK (.str w) readsK = false := by
    rw [inK_str]
    have : ∀ w ∈ writesK, decide (w ∈ readsK) = false := by decide +kernel
    exact this w hw
  have e2 : inK (.str w) writesK = true := by rw [inK_str]; exact decide_eq_true hw
  have e : instrB [.str w, .int s, .int u] = writeB [.int s, .int u] := (if_neg (by rw [e1]; exact Bool.false_ne_true)).trans (if_pos e2)
  rw [e]
  show ((decide (0 ≤ s) && decide (s ≤ 9)) && (decide (1 ≤ u) && decide (u ≤ 1000000000))) = true
  rw [decide_eq_true s0, decide_eq_true s9, decide_eq_true u1, decide_eq_true ub]
  rfl
theorem instr_read {w : Str} (hw : w ∈ readsK) {s : Int} (s0 : 0 ≤ s) (s9 : s ≤ 9) : instrB [.str w, .int s] = true := by
  have e1 : inK (.str w) readsK = true := by rw [inK_str]; exact decide_eq_true hw
  have e : instrB [.str w, .int s] = readB [.int s] := if_pos e1
  rw [e]
  show (decide (0 ≤ s) && decide (s ≤ 9)) = true
  rw [decide_eq_true s0, decide_eq_true s9]
  rfl
theorem instr_fence {z : Str} (h : fenceB z = true) : instrB [.str z] = true := by
  have hk : kindB z = false := by
    cases e : kindB z with
    | false => rfl
    | true => unfold fenceB at h; rw [e] at h; cases h
  have nk : z ∉ kinds := of_decide_eq_false hk
  have sub1 : ∀ w ∈ readsK, w ∈ kinds := by decide +kernel
  have sub2 : ∀ w ∈ writesK, w ∈ kinds := by decide +kernel
  have e1 : inK (.str z) readsK = false := by rw [inK_str]; exact decide_eq_false fun m => nk (sub1 z m)
  have e2 : inK (.str z) writesK = false := by rw [inK_str]; exact decide_eq_false fun m => nk (sub2 z m)
  have e : instrB [.str z] = aloneB (.str z) [] := (if_neg (by rw [e1]; exact Bool.false_ne_true)).trans (if_neg (by rw [e2]; exact Bool.false_ne_true))
  rw [e]
  exact h
theorem okT {H : Hp} {t : Addr} {xs : List V} (e : H t = some (.tup xs)) (o : xs.all scal4 = true) (z : instrB xs = true) : InstrV H (.ref t) true := by
  have h := InstrV.tup e (fun x hx => List.all_eq_true.mp o x hx)
  rw [z] at h
  exact h
theorem scal_short {z : Str} (h : z.length ≤ 1000) (s : PyData.strOk z = true) : scal4 (.str z) = true := Bool.and_eq_true_iff.mpr ⟨decide_eq_true h, s⟩
theorem fence_str {z : Str} (h : fenceB z = true) : PyData.strOk z = true := by
  unfold fenceB at h
  have h3 := (Bool.and_eq_true_iff.mp (Bool.and_eq_true_iff.mp h).2).2
  have all : ∀ c ∈ lettersS.cps.toList, c < 0x110000 := by decide +kernel
  show z.cps.all (· < 0x110000) = true
  rw [← Array.all_toList]
  exact List.all_eq_true.mpr fun c hc => decide_eq_true (all c (of_decide_eq_true (List.all_eq_true.mp h3 c hc)))
theorem fence_len {z : Str} (h : fenceB z = true) : z.length ≤ 1000 := by
  unfold fenceB at h
  obtain ⟨_, h⟩ := Bool.and_eq_true_iff.mp h
  obtain ⟨h, _⟩ := Bool.and_eq_true_iff.mp h
  obtain ⟨_, h⟩ := Bool.and_eq_true_iff.mp h
  have := of_decide_eq_true h
  omega
/-- one of two texts -/
theorem two_at {a b : Str} {j : Int} (h0 : 0 ≤ j) (h1 : j < 2) : ∃ w, atI ([a, b].map V.str) j = some (.str w) ∧ w ∈ [a, b] := by
  obtain ⟨n, rfl⟩ := Int.eq_ofNat_of_zero_le h0
  have hn : n < 2 := by omega
  match n, hn with
  | 0, _ => exact ⟨a, rfl, by simp⟩
  | 1, _ => exact ⟨b, rfl, by simp⟩
/-- one of three numbers -/
theorem three_at {a b c : Int} {j : Int} (h0 : 0 ≤ j) (h1 : j < 3) {Pq : Int → Prop} (pa : Pq a) (pb : Pq b) (pc : Pq c) : ∃ w, atI [V.int a, V.int b, V.int c] j = some (.int w) ∧ Pq w := by
  obtain ⟨n, rfl⟩ := Int.eq_ofNat_of_zero_le h0
  have hn : n < 3 := by omega
  match n, hn with
  | 0, _ => exact ⟨a, rfl, pa⟩
  | 1, _ => exact ⟨b, rfl, pb⟩
  | 2, _ => exact ⟨c, rfl, pc⟩
end KP

set_option Elab.async false
set_option linter.all false
set_option maxRecDepth 100000
set_option maxHeartbeats 1000000
namespace KP
open PySem PySem.Spec PyProof.Rows L2
/-! ### the heap but for one address -/
def hide (p : Addr) (H : Hp) : Hp := fun b => if b = p then none else H b
section
variable {p b : Addr} {H H' G : Hp} {o : HO}
theorem hide_self : hide p H p = none := if_pos rfl
theorem hide_ne (h : b ≠ p) : hide p H b = H b := if_neg h
theorem hide_inv (e : hide p H b = some o) : b ≠ p ∧ H b = some o := by
  by_cases z : b = p
  · rw [z, hide_self] at e; cases e
  · rw [hide_ne z] at e; exact ⟨z, e⟩
theorem hide_le : Same (hide p H) H := fun b o e => (hide_inv e).2
theorem hide_same (s : Same H H') : Same (hide p H) (hide p H') := fun b o e => by
  obtain ⟨n, e⟩ := hide_inv e
  rw [hide_ne n]; exact s b o e
theorem hide_in (g : G p = none) (s : Same G H) : Same G (hide p H) := fun b o e => by
  rw [hide_ne (fun z => by rw [z, g] at e; cases e)]; exact s b o e
theorem hide_upd : hide p (upd H p o) = hide p H := by
  funext c
  by_cases z : c = p
  · rw [z, hide_self, hide_self]
  · rw [hide_ne z, hide_ne z, upd_ne z]
theorem hide_at (e : H b = some o) (n : b ≠ p) : hide p H b = some o := by rw [hide_ne n]; exact e
end
/-! ### a comprehension whose items may be lists of their own -/
section
variable {K : PySem.W.Frag} {σ : S} {H : Hp} {Q : VK} {te : TE} {g : TG} {tt : TT} {vs : List Nat}
def LcTurnD (D : Addr) (g : TG) (tt : TT) (te : TE) (vs : List Nat) (σ : S) (Pv : Nat → List V → Hp → Prop) (i : Nat) (x : V) (acc : List V) (H' : Hp) : Prop :=
  ∀ (Y : VK) (N : Hp → Prop), (∀ y H4, Same H' H4 → Pv (i + 1) (acc ++ [y]) (hide D H4) → Y y H4) → (∀ H3, Same H' H3 → Pv (i + 1) acc (hide D H3) → N H3) →
    g x (wipe σ vs) H' fun σ2 H2 => wipe σ2 vs = wipe σ vs ∧ tt σ2 H2 fun b H3 => if b = true then te σ2 H3 Y else N H3
theorem raw_lcD {J : It} {n : Nat} {G : Hp → Prop} {Yl : Nat → V → Prop} (w : Walk J n G fun i H x H' => H' = H ∧ Yl i x) (hn : n ≤ 1000) (gm : ∀ H', Same H H' → G H') (Pv : Nat → List V → Hp → Prop) (mono : ∀ {i acc H H'}, Same H H' → Pv i acc H → Pv i acc H') (p0 : Pv 0 [] H)
    (hs : ∀ D i x acc H', H D = none → H' D = some (.lst acc) → i < n → Yl i x → Same H H' → Pv i acc (hide D H') → LcTurnD D g tt te vs σ Pv i x acc H') (hd : ∀ D acc H', H D = none → Same H H' → H' D = some (.lst acc) → Pv n acc (hide D H') → Q (.ref D) H') : RawLc g tt te vs σ Q J H := fun D hD => by
  refine lc_it w (fun i H' => ∃ acc, H' D = some (.lst acc) ∧ acc.length ≤ i ∧ Same H H' ∧ Pv i acc (hide D H')) ⟨[], upd_same, Nat.le_refl _, same_new hD, mono (hide_in hD (same_new hD)) p0⟩ (fun i H' _ ⟨_, _, _, sm, _⟩ => gm H' sm) ?_ ?_
  · rintro i x H1 H2 hi ⟨acc, e, hl, sm, p⟩ ⟨rfl, y⟩
    refine hs D i x acc H2 hD e hi y sm p _ _ (fun y H4 s4 p4 => ?_) fun H3 s3 p3 => ?_
    · exact ⟨acc, s4 D _ e, small1000 (by omega), acc ++ [y], upd_same, by simp; omega, same_own hD (sm.trans s4), by rw [hide_upd]; exact p4⟩
    · exact ⟨acc, s3 D _ e, by omega, sm.trans s3, p3⟩
  · rintro H' ⟨acc, e, hl, sm, p⟩
    exact hd D acc H' hD sm e p
theorem raw_lcRD {j : Int} (h0 : 0 ≤ j) (hn : j ≤ 1000) (Pv : Nat → List V → Hp → Prop) (mono : ∀ {i acc H H'}, Same H H' → Pv i acc H → Pv i acc H') (p0 : Pv 0 [] H)
    (hs : ∀ D (i : Nat) acc H', H D = none → H' D = some (.lst acc) → (i : Int) < j → Same H H' → Pv i acc (hide D H') → LcTurnD D g tt te vs σ Pv i (.int i) acc H') (hd : ∀ D acc H', H D = none → Same H H' → H' D = some (.lst acc) → Pv j.toNat acc (hide D H') → Q (.ref D) H') : RawLcR g tt te vs σ Q [.int j] H := by
  refine ⟨j, rfl, by omega, by omega, raw_lcD (Yl := fun i x => x = .int (0 + (i : Int))) walk_range (by omega) (fun _ _ => trivial) Pv mono p0 (fun D i x acc H' hD e hi ex => ?_) hd⟩
  subst ex
  rw [Int.zero_add]
  exact hs D i acc H' hD e (by omega)
theorem raw_lcLD {a : Addr} {xs : List V} (hS : SqL K H a xs) (hn : xs.length ≤ 1000) (Pv : Nat → List V → Hp → Prop) (mono : ∀ {i acc H H'}, Same H H' → Pv i acc H → Pv i acc H') (p0 : Pv 0 [] H)
    (hs : ∀ D i x acc H', H D = none → H' D = some (.lst acc) → xs[i]? = some x → Same H H' → Pv i acc (hide D H') → LcTurnD D g tt te vs σ Pv i x acc H') (hd : ∀ D acc H', H D = none → Same H H' → H' D = some (.lst acc) → Pv xs.length acc (hide D H') → Q (.ref D) H') : RawLcL K g tt te vs σ Q (.ref a) H :=
  ⟨a, rfl, ⟨_, hS⟩, raw_lcD (Yl := fun i x => xs[i]? = some x) walk_list hn (fun H' s => s.seq hS) Pv mono p0 (fun D i x acc H' hD e _ => hs D i x acc H' hD e) hd⟩
end
/-! ### items as data -/
section
variable {K : PySem.W.Frag} {H : Hp} {v : V} {b : Bool} {Q : VK}
def d4 : V → PyData
  | .int i => .int i
  | .bl b => .bool b
  | .str z => .str z
  | _ => .none
theorem dp4 {K : PySem.W.Frag} {H : Hp} {x : V} (h : scal4 x = true) : Dp K H x (d4 x) := by
  cases x with
  | int i => exact .int i
  | bl b => exact .bl b
  | str z => exact .str z
  | non => exact .non
  | _ => cases h
theorem dps4 {K : PySem.W.Frag} {H : Hp} : ∀ {xs : List V}, (∀ x ∈ xs, scal4 x = true) → DpAll K H xs (xs.map d4)
  | [], _ => .nil
  | x :: xs, h => .cons (dp4 (h x List.mem_cons_self)) (dps4 fun y hy => h y (List.mem_cons_of_mem _ hy))
theorem lay4 {x : V} (h : scal4 x = true) : (d4 x).canLay0 = true := by
  cases x with
  | int i => simp [d4, PyData.canLay0]
  | bl b => simp [d4, PyData.canLay0]
  | str z =>
    have h := (Bool.and_eq_true_iff.mp h).2
    simp [d4, PyData.canLay0, h]
  | non => simp [d4, PyData.canLay0]
  | _ => cases h
theorem lays4 : ∀ {xs : List V}, (∀ x ∈ xs, scal4 x = true) → PyData.canLayAll0 (xs.map d4) = true
  | [], _ => by simp [PyData.canLayAll0]
  | x :: xs, h => by
    simp only [List.map_cons, PyData.canLayAll0]
    rw [lay4 (h x List.mem_cons_self), lays4 fun y hy => h y (List.mem_cons_of_mem _ hy)] <;> rfl
theorem dep4 (x : V) : (d4 x).depth = 0 := by cases x <;> simp [d4, PyData.depth]
theorem deps4 : ∀ xs : List V, PyData.depthAll (xs.map d4) = 0
  | [] => by simp [PyData.depthAll]
  | x :: xs => by simp only [List.map_cons, PyData.depthAll]; rw [dep4, deps4 xs] <;> rfl
/-- data that can be laid, of little depth -/
structure Lay (n : Nat) (d : PyData) : Prop where
  lay : d.canLay0 = true
  dep : d.depth ≤ n
theorem Lay.shaped {n : Nat} {d : PyData} (h : Lay n d) (hn : n ≤ 64) : SeqAt.shaped d = true := by
  show (d.canLay0 && decide (d.depth ≤ 64)) = true
  rw [h.lay, decide_eq_true (Nat.le_trans h.dep hn)]; rfl
theorem lay_all {n : Nat} : ∀ {ds : List PyData}, (∀ d ∈ ds, Lay n d) → PyData.canLayAll0 ds = true ∧ PyData.depthAll ds ≤ n
  | [], _ => by simp [PyData.canLayAll0, PyData.depthAll]
  | d :: ds, h => by
    obtain ⟨h1, h2⟩ := lay_all (ds := ds) fun y hy => h y (List.mem_cons_of_mem _ hy)
    have h3 := h d List.mem_cons_self
    constructor
    · simp only [PyData.canLayAll0]; rw [h3.lay, h1] <;> rfl
    · have := h3.dep
      simp only [PyData.depthAll]; omega
theorem Lay.list {n : Nat} {ds : List PyData} (h : ∀ d ∈ ds, Lay n d) : Lay (n + 1) (.list ds) := by
  obtain ⟨h1, h2⟩ := lay_all h
  exact ⟨by simp only [PyData.canLay0]; exact h1, by simp only [PyData.depth]; omega⟩
theorem Lay.tuple {n : Nat} {ds : List PyData} (h : ∀ d ∈ ds, Lay n d) : Lay (n + 1) (.tuple ds) := by
  obtain ⟨h1, h2⟩ := lay_all h
  exact ⟨by simp only [PyData.canLay0]; exact h1, by simp only [PyData.depth]; omega⟩
theorem lay_d4 {x : V} (h : scal4 x = true) : Lay 0 (d4 x) := ⟨lay4 h, by rw [dep4]; exact Nat.le_refl _⟩
theorem InstrV.dp {K : PySem.W.Frag} {H : Hp} {v : V} {b : Bool} (h : InstrV H v b) : ∃ d, Dp K H v d ∧ Lay 1 d := by
  cases h with
  | @tup t xs e o => exact ⟨_, .tup (st_of e) (dps4 o), .tuple fun d hd => by obtain ⟨x, hx, rfl⟩ := List.mem_map.mp hd; exact lay_d4 (o x hx)⟩
  | @lst t xs e o =>
    have o := List.all_eq_true.mp o
    exact ⟨_, .lst (sl_of e) (dps4 o), .list fun d hd => by obtain ⟨x, hx, rfl⟩ := List.mem_map.mp hd; exact lay_d4 (o x hx)⟩
  | scal o => exact ⟨_, dp4 o, lay4 o, by rw [dep4]; exact Nat.zero_le _⟩
theorem instrs_dp {K : PySem.W.Frag} {H : Hp} : ∀ {vs : List V} {bs : List Bool}, Paired (InstrV H) vs bs → ∃ ds, DpAll K H vs ds ∧ ∀ d ∈ ds, Lay 1 d
  | _, _, .nil => ⟨[], .nil, fun _ h => nomatch h⟩
  | _, _, .cons h p => by
    obtain ⟨d, h1, h2⟩ := h.dp (K := K)
    obtain ⟨ds, h3, h4⟩ := instrs_dp (K := K) p
    exact ⟨d :: ds, .cons h1 h3, fun x hx => by rcases List.mem_cons.mp hx with rfl | hx; exact h2; exact h4 x hx⟩
end
/-! ### where the items are that are none -/
abbrev Pl := Nat × Nat
def Bad (rows : List (List Bool)) (rs : List Pl) : Prop := ∀ i j : Nat, (∃ bs, rows[i]? = some bs ∧ bs[j]? = some false) ↔ (i, j) ∈ rs
def shift (t pl : Nat) (r : Pl) : Pl := (r.1, r.2 + if r.1 = t ∧ pl ≤ r.2 then 1 else 0)
def putIn (bs : List Bool) (pl : Nat) : List Bool := bs.take pl ++ [false] ++ bs.drop pl
theorem put_lt {bs : List Bool} {pl j : Nat} (h : pl ≤ bs.length) (hj : j < pl) : (putIn bs pl)[j]? = bs[j]? := by
  unfold putIn
  rw [List.append_assoc, List.getElem?_append_left (by rw [List.length_take]; omega), List.getElem?_take_of_lt hj]
theorem put_eq {bs : List Bool} {pl : Nat} (h : pl ≤ bs.length) : (putIn bs pl)[pl]? = some false := by
  unfold putIn
  rw [List.append_assoc, List.getElem?_append_right (by rw [List.length_take]; omega), List.length_take, Nat.min_eq_left h, Nat.sub_self]
  rfl
theorem put_gt {bs : List Bool} {pl j : Nat} (h : pl ≤ bs.length) (hj : pl ≤ j) : (putIn bs pl)[j + 1]? = bs[j]? := by
  unfold putIn
  have l1 : (bs.take pl ++ [false]).length = pl + 1 := by rw [List.length_append, List.length_take, Nat.min_eq_left h]; rfl
  rw [List.getElem?_append_right (by omega), l1, List.getElem?_drop]
  congr 1
  omega
theorem bad_put {rows : List (List Bool)} {rs : List Pl} {t pl : Nat} {bs : List Bool} (B : Bad rows rs) (ht : rows[t]? = some bs) (hp : pl ≤ bs.length) : Bad (rows.set t (putIn bs pl)) (rs.map (shift t pl) ++ [(t, pl)]) := by
  have tl : t < rows.length := (List.getElem?_eq_some_iff.mp ht).1
  intro i j
  rw [List.mem_append, List.mem_singleton, List.mem_map]
  by_cases hi : i = t
  · subst hi
    have e : (rows.set i (putIn bs pl))[i]? = some (putIn bs pl) := by rw [List.getElem?_set_self tl]
    constructor
    · rintro ⟨bs', e', hj⟩
      rw [e] at e'
      cases e'
      rcases Nat.lt_trichotomy j pl with h | h | h
      · rw [put_lt hp h] at hj
        refine .inl ⟨(i, j), (B i j).mp ⟨bs, ht, hj⟩, ?_⟩
        show (i, j + _) = _
        rw [if_neg (by show ¬ (i = i ∧ pl ≤ j); omega)]; rfl
      · rw [h]; exact .inr rfl
      · obtain ⟨m, rfl⟩ : ∃ m, j = m + 1 := ⟨j - 1, by omega⟩
        rw [put_gt hp (by omega)] at hj
        refine .inl ⟨(i, m), (B i m).mp ⟨bs, ht, hj⟩, ?_⟩
        show (i, m + _) = _
        rw [if_pos (by show i = i ∧ pl ≤ m; omega)]
    · rintro (⟨⟨i', m⟩, hm, he⟩ | he)
      · cases he
        obtain ⟨bs', e', hj⟩ := (B _ m).mpr hm
        rw [ht] at e'
        cases e'
        refine ⟨_, e, ?_⟩
        by_cases h : pl ≤ m
        · show (putIn bs pl)[m + _]? = _
          rw [if_pos (show i' = i' ∧ pl ≤ m from ⟨rfl, h⟩), put_gt hp h]; exact hj
        · show (putIn bs pl)[m + _]? = _
          rw [if_neg (by show ¬ (i' = i' ∧ pl ≤ m); omega), Nat.add_zero, put_lt hp (by omega)]; exact hj
      · cases he
        exact ⟨_, e, put_eq hp⟩
  · have e : (rows.set t (putIn bs pl))[i]? = rows[i]? := List.getElem?_set_ne (Ne.symm hi)
    have sh : ∀ m, shift t pl (i, m) = (i, m) := fun m => by
      show (i, m + _) = _
      rw [if_neg (by show ¬ (i = t ∧ _); exact fun z => hi z.1)]; rfl
    rw [e, B i j]
    constructor
    · intro h; exact .inl ⟨(i, j), h, sh j⟩
    · rintro (⟨⟨i', m⟩, hm, he⟩ | he)
      · have : i' = i := congrArg Prod.fst he
        subst this
        rw [sh] at he
        cases he
        exact hm
      · exact absurd (congrArg Prod.fst he) hi
def ltPl (a b : Pl) : Prop := a.1 < b.1 ∨ (a.1 = b.1 ∧ a.2 < b.2)
instance : DecidablePred fun ab : Pl × Pl => ltPl ab.1 ab.2 := fun ab => inferInstanceAs (Decidable (_ ∨ _))
instance (a b : Pl) : Decidable (ltPl a b) := inferInstanceAs (Decidable (_ ∨ _))
theorem first_bad {rows : List (List Bool)} {rs : List Pl} {r : Pl} (B : Bad rows rs) (h : r ∈ rs) (least : ∀ r' ∈ rs, ¬ ltPl r' r) : FirstBad rows r.1 r.2 := by
  obtain ⟨i, j⟩ := r
  obtain ⟨bs, e, hj⟩ := (B i j).mpr h
  refine ⟨⟨bs, e, hj, fun j' hj' => ?_⟩, fun i' hi' bs' e' b hb => ?_⟩
  · have lt : j' < bs.length := Nat.lt_trans hj' (List.getElem?_eq_some_iff.mp hj).1
    rw [List.getElem?_eq_getElem lt]
    cases eb : bs[j'] with
    | true => rfl
    | false => exact absurd (.inr ⟨rfl, hj'⟩) (least (i, j') ((B i j').mp ⟨bs, e, by rw [List.getElem?_eq_getElem lt, eb]⟩))
  · cases b with
    | true => rfl
    | false =>
      obtain ⟨n, hn, eb⟩ := List.getElem_of_mem hb
      exact absurd (.inl hi') (least (i', n) ((B i' n).mp ⟨bs', e', by rw [List.getElem?_eq_getElem hn, eb]⟩))
theorem bad_none {rows : List (List Bool)} (h : AllOk rows) : Bad rows [] := by
  intro i j
  constructor
  · rintro ⟨bs, e, hj⟩
    have := h i bs e false (List.mem_of_getElem? hj)
    cases this
  · intro z; cases z
/-! ### places as tuples -/
def PlaceV (H : Hp) (v : V) (r : Pl) : Prop := ∃ t, v = .ref t ∧ H t = some (.tup [.int r.1, .int r.2])
theorem PlaceV.tk {H H' : Hp} {v : V} {r : Pl} (s : TupK H H') : PlaceV H v r → PlaceV H' v r := fun ⟨t, e, z⟩ => ⟨t, e, s t _ z⟩
theorem lex_pl (a b : Pl) : HT.lexLt [(a.1 : Int), (a.2 : Int)] [(b.1 : Int), (b.2 : Int)] = decide (ltPl a b) := by
  obtain ⟨a1, a2⟩ := a
  obtain ⟨b1, b2⟩ := b
  simp only [HT.lexLt, ltPl]
  by_cases h : a1 = b1
  · subst h; simp; intro h; omega
  · simp [h, show ¬ ((a1 : Int) = (b1 : Int)) from by omega]
/-! ### a program whose lists are in order -/
def RowG (G : Hp) (l : Addr) (bs : List Bool) : Prop := ∃ vs, G l = some (.lst vs) ∧ Paired (InstrV G) vs bs
theorem RowG.mono {G G' : Hp} {l : Addr} {bs : List Bool} (s : Same G G') : RowG G l bs → RowG G' l bs := fun ⟨vs, e, p⟩ => ⟨vs, s _ _ e, paired_mono (fun _ _ z => z.mono s) p⟩
theorem rowsG_prog {K : PySem.W.Frag} {G H : Hp} (s : Same G H) : ∀ {ls : List Addr} {rows : List (List Bool)}, Paired (RowG G) ls rows → Paired (RowV K H) (ls.map V.ref) rows
  | _, _, .nil => .nil
  | _, _, .cons ⟨vs, e, p⟩ r => .cons ⟨_, vs, rfl, sl_of (s _ _ e), paired_mono (fun _ _ z => z.mono s) p⟩ (rowsG_prog s r)
theorem rowsG_ok {G : Hp} : ∀ {ls : List Addr}, (∀ l ∈ ls, ∃ vs, G l = some (.lst vs) ∧ vs.length ≤ 8 ∧ ∀ v ∈ vs, InstrV G v true) → ∃ rows, Paired (RowG G) ls rows ∧ (∀ bs ∈ rows, bs.length ≤ 8 ∧ ∀ b ∈ bs, b = true)
  | [], _ => ⟨[], .nil, fun _ h => nomatch h⟩
  | l :: ls, h => by
    obtain ⟨vs, e, hl, hv⟩ := h l List.mem_cons_self
    obtain ⟨rows, h1, h2⟩ := rowsG_ok (ls := ls) fun y hy => h y (List.mem_cons_of_mem _ hy)
    have all : ∀ {ws : List V}, (∀ v ∈ ws, InstrV G v true) → Paired (InstrV G) ws (ws.map fun _ => true) := fun {ws} => by
      induction ws with
      | nil => intro _; exact .nil
      | cons w ws ih => intro h; exact .cons (h w List.mem_cons_self) (ih fun v hv => h v (List.mem_cons_of_mem _ hv))
    refine ⟨(vs.map fun _ => true) :: rows, .cons ⟨vs, e, all hv⟩ h1, fun bs hbs => ?_⟩
    rcases List.mem_cons.mp hbs with rfl | hbs
    · exact ⟨by rw [List.length_map]; exact hl, fun b hb => by obtain ⟨_, _, rfl⟩ := List.mem_map.mp hb; rfl⟩
    · exact h2 bs hbs
/-- copies of the lists -/
def CopyV (G0 G : Hp) (v : V) (l : Addr) : Prop := ∃ c vs, v = .ref c ∧ G c = some (.lst vs) ∧ G0 l = some (.lst vs)
theorem copies_prog {K : PySem.W.Frag} {G0 G H : Hp} (s0 : Same G0 H) (s : Same G H) : ∀ {us : List V} {ls : List Addr} {rows : List (List Bool)}, Paired (CopyV G0 G) us ls → Paired (RowG G0) ls rows → Paired (RowV K H) us rows
  | _, _, _, .nil, .nil => .nil
  | _, _, _, .cons ⟨c, vs, e1, e2, e3⟩ r, .cons ⟨vs', e4, p⟩ r' => by
    rw [e3] at e4
    cases e4
    exact .cons ⟨c, vs, e1, sl_of (s _ _ e2), paired_mono (fun _ _ z => z.mono s0) p⟩ (copies_prog s0 s r r')
/-- a program and its copy as data -/
theorem copies_dp {K : PySem.W.Frag} {G0 G H : Hp} (s0 : Same G0 H) (s : Same G H) : ∀ {us : List V} {ls : List Addr} {rows : List (List Bool)}, Paired (CopyV G0 G) us ls → Paired (RowG G0) ls rows → ∃ ds, DpAll K H us ds ∧ DpAll K H (ls.map V.ref) ds ∧ ∀ d ∈ ds, Lay 2 d
  | _, _, _, .nil, .nil => ⟨[], .nil, .nil, fun _ h => nomatch h⟩
  | _, _, _, .cons ⟨c, vs, e1, e2, e3⟩ r, .cons ⟨vs', e4, p⟩ r' => by
    rw [e3] at e4
    cases e4
    obtain ⟨ds, h1, h2, h3⟩ := copies_dp (K := K) s0 s r r'
    obtain ⟨es, k1, k2⟩ := instrs_dp (K := K) (paired_mono (fun _ _ z => InstrV.mono s0 z) p)
    subst e1
    exact ⟨.list es :: ds, .cons (.lst (sl_of (s _ _ e2)) k1) h1, .cons (.lst (sl_of (s0 _ _ e3)) k1) h2, fun d hd => by
      rcases List.mem_cons.mp hd with rfl | hd
      · exact .list k2
      · exact h3 d hd⟩
theorem i_eqSame {K : PySem.W.Frag} {H : Hp} {Q : VK} {x y : V} {d : PyData} (a : Dp K H x d) (b : Dp K H y d) (l : Lay 64 d) (q : Q (.bl true) H) : rEqD K x y H Q :=
  ⟨d, d, a, b, l.shaped (Nat.le_refl _), l.shaped (Nat.le_refl _), by rw [SeqAt.eqv_refl d l.lay]; exact q⟩
end KP
namespace KP
open PySem PySem.Spec PyProof.Rows L2
theorem InstrV.tk {H H' : Hp} {v : V} {b : Bool} (s : TupK H H') : InstrV H v b → b = true → InstrV H' v b
  | .tup e o, _ => .tup (s _ _ e) o
  | .lst _ _, h => nomatch h
  | .scal _, h => nomatch h
/-- a list among the items is new -/
def FrL (Hb H : Hp) (v : V) : Prop := ∀ t xs, v = .ref t → H t = some (.lst xs) → Hb t = none
theorem InstrV.hide {p : Addr} {H Hb : Hp} {v : V} {b : Bool} {ys : List V} (ep : H p = some (.lst ys)) (nb : Hb p ≠ none) (fr : FrL Hb H v) : InstrV H v b → InstrV (hide p H) v b
  | .tup e o => .tup (hide_at e fun z => by rw [z, ep] at e; cases e) o
  | .lst e o => .lst (hide_at e fun z => nb (by rw [← z]; exact fr _ _ rfl e)) o
  | .scal o => .scal o
theorem badT' {H Hb : Hp} {t : Addr} {xs : List V} (e : H t = some (.tup xs)) (o : xs.all scal4 = true) (z : instrB xs = false) : InstrV H (.ref t) false ∧ FrL Hb H (.ref t) :=
  ⟨badT e o z, fun t' ys h1 h2 => by cases h1; rw [e] at h2; cases h2⟩
theorem at_ref {ls : List Addr} {j : Int} (h0 : 0 ≤ j) (h1 : j < ls.length) : ∃ l, atI (ls.map V.ref) j = some (.ref l) ∧ l ∈ ls ∧ ls[j.toNat]? = some l := by
  obtain ⟨n, rfl⟩ := Int.eq_ofNat_of_zero_le h0
  have hn : n < ls.length := by omega
  refine ⟨ls[n], atI_nat (j := n) (by rw [List.getElem?_map, List.getElem?_eq_getElem hn]; rfl), List.getElem_mem hn, ?_⟩
  show ls[n]? = _
  rw [List.getElem?_eq_getElem hn]
/-- the lists of the program while items are put behind -/
structure Gr (H0 : Hp) (p : Addr) (k : Nat) (ls : List Addr) (H : Hp) : Prop where
  sm : Same H0 H
  np : H0 p = none
  ep : H p = some (.lst (ls.map V.ref))
  pn : ∀ l ∈ ls, l ≠ p
  each : ∀ l ∈ ls, H0 l = none ∧ ∃ vs, H l = some (.lst vs) ∧ vs.length ≤ k ∧ ∀ v ∈ vs, InstrV H v true
theorem Gr.mono {H0 H H' : Hp} {p : Addr} {k : Nat} {ls : List Addr} (s : Same H H') (g : Gr H0 p k ls H) : Gr H0 p k ls H' :=
  ⟨g.sm.trans s, g.np, s _ _ g.ep, g.pn, fun l hl => let ⟨a, vs, e, n, i⟩ := g.each l hl; ⟨a, vs, s _ _ e, n, fun v hv => (i v hv).mono s⟩⟩
theorem Gr.add {H0 H : Hp} {p l : Addr} {k : Nat} {ls : List Addr} {vs : List V} {v : V} (g : Gr H0 p k ls H) (hl : l ∈ ls) (e : H l = some (.lst vs)) (n : vs.length ≤ k) (hv : ∀ v ∈ vs, InstrV H v true) (iv : InstrV H v true) : Gr H0 p (k + 1) ls (upd H l (.lst (vs ++ [v]))) := by
  have tk : TupK H (upd H l (.lst (vs ++ [v]))) := tk_upd e fun xs z => nomatch z
  refine ⟨same_own (g.each l hl).1 g.sm, g.np, by rw [upd_ne (Ne.symm (g.pn l hl))]; exact g.ep, g.pn, fun l' hl' => ?_⟩
  obtain ⟨a, ws, e', n', i⟩ := g.each l' hl'
  refine ⟨a, ?_⟩
  by_cases z : l' = l
  · rw [z, upd_same]
    refine ⟨_, rfl, by rw [List.length_append, List.length_singleton]; omega, fun w hw => ?_⟩
    rcases List.mem_append.mp hw with hw | hw
    · exact (hv w hw).tk tk rfl
    · rw [List.mem_singleton.mp hw]; exact iv.tk tk rfl
  · rw [upd_ne z]
    exact ⟨ws, e', by omega, fun w hw => (i w hw).tk tk rfl⟩
theorem paired_set {α β : Type} {F : α → β → Prop} : ∀ {l : List α} {m : List β} (n : Nat) {a : α} {b : β}, Paired F l m → F a b → Paired F (l.set n a) (m.set n b)
  | _, _, _, _, _, .nil, _ => .nil
  | _, _, 0, _, _, .cons _ p, h => .cons h p
  | _, _, n + 1, _, _, .cons x p, h => .cons x (paired_set n p h)
/-- the program while items that are none are put in -/
structure Gs (H0 : Hp) (p q : Addr) (ls : List Addr) (rows : List (List Bool)) (pvs : List V) (rs : List Pl) (n k : Nat) (H : Hp) : Prop where
  sm : Same H0 (KP.hide p H)
  np : H0 p = none
  ep : H p = some (.lst (ls.map V.ref))
  rw : Paired (RowG (KP.hide p H)) ls rows
  len : rows.length = n
  small : ∀ bs ∈ rows, bs.length ≤ 8 + k
  eq : KP.hide p H q = some (.lst pvs)
  pl : Paired (PlaceV H) pvs rs
  bad : Bad rows rs
  cnt : rs.length = k
theorem Gs.mono {H0 H H' : Hp} {p q : Addr} {ls : List Addr} {rows : List (List Bool)} {pvs : List V} {rs : List Pl} {n k : Nat} (s : Same H H') (g : Gs H0 p q ls rows pvs rs n k H) : Gs H0 p q ls rows pvs rs n k H' :=
  ⟨g.sm.trans (hide_same s), g.np, s _ _ g.ep, paired_mono (fun _ _ z => z.mono (hide_same s)) g.rw, g.len, g.small, hide_same s _ _ g.eq, paired_mono (fun _ _ z => z.tk (Same.tk s)) g.pl, g.bad, g.cnt⟩
/-- the first of them: what Gr gives -/
theorem Gr.start {H0 H H' : Hp} {p q : Addr} {ls : List Addr} (g : Gr H0 p 8 ls H) (s : Same H H') (nq : H q = none) (eq : H' q = some (.lst [])) : ∃ rows, Gs H0 p q ls rows [] [] ls.length 0 H' := by
  obtain ⟨rows, h1, h2⟩ := rowsG_ok (G := hide p H) (ls := ls) fun l hl => by
    obtain ⟨_, vs, e, n, i⟩ := g.each l hl
    refine ⟨vs, hide_at e (g.pn l hl), n, fun v hv => ?_⟩
    have iv := i v hv
    exact InstrV.tk (H := H) (fun t xs z => hide_at z fun y => by rw [y, g.ep] at z; cases z) iv rfl
  refine ⟨rows, (hide_in g.np g.sm).trans (hide_same s), g.np, s _ _ g.ep, paired_mono (fun _ _ z => z.mono (hide_same s)) h1, (paired_len h1).symm, fun bs hb => (h2 bs hb).1, ?_, .nil, bad_none fun i bs e b hb => (h2 bs (List.mem_of_getElem? e)).2 b hb, rfl⟩
  exact hide_at eq fun z => by rw [z, g.ep] at nq; cases nq
/-- one more of them -/
theorem Gs.put {H0 H H' : Hp} {p q q' c l : Addr} {ls : List Addr} {rows : List (List Bool)} {pvs pvs' : List V} {rs : List Pl} {n k t pl : Nat} {vs : List V} {v : V} {bs : List Bool} (g : Gs H0 p q ls rows pvs rs n k H) (s : Same H H') (ht : rows[t]? = some bs) (hl : ls[t]? = some l)
    (el : KP.hide p H l = some (.lst vs)) (iv : Paired (InstrV (KP.hide p H)) vs bs) (hp : pl ≤ vs.length) (nc : H c = none) (ec : H' c = some (.lst (vs.take pl ++ [v] ++ vs.drop pl))) (bv : InstrV H' v false) (fr : FrL H H' v) (nq : H q' = none) (eq' : H' q' = some (.lst pvs')) (pl' : Paired (PlaceV H') pvs' (rs.map (shift t pl) ++ [(t, pl)])) :
    Gs H0 p q' (ls.set t c) (rows.set t (putIn bs pl)) pvs' (rs.map (shift t pl) ++ [(t, pl)]) n (k + 1) (upd H' p (.lst ((ls.map V.ref).set t (.ref c)))) := by
  have lv := paired_len iv
  have ep' := s _ _ g.ep
  have cp : c ≠ p := fun z => by rw [z, g.ep] at nc; cases nc
  have qp : q' ≠ p := fun z => by rw [z, g.ep] at nq; cases nq
  have tk : TupK H' (upd H' p (.lst ((ls.map V.ref).set t (.ref c)))) := tk_upd ep' fun xs z => nomatch z
  have iv' : Paired (InstrV (KP.hide p H')) vs bs := paired_mono (fun _ _ z => z.mono (hide_same s)) iv
  refine ⟨by rw [hide_upd]; exact g.sm.trans (hide_same s), g.np, by rw [upd_same, List.map_set], ?_, by rw [List.length_set]; exact g.len, fun b hb => ?_, by rw [hide_upd]; exact hide_at eq' qp, paired_mono (fun _ _ z => z.tk tk) pl', bad_put g.bad ht (by omega), by rw [List.length_append, List.length_map, g.cnt]; rfl⟩
  · rw [hide_upd]
    refine paired_set t (paired_mono (fun _ _ z => z.mono (hide_same s)) g.rw) ⟨_, hide_at ec cp, ?_⟩
    exact paired_app (paired_app (paired_take pl iv') (.cons (bv.hide ep' (by rw [g.ep]; exact fun z => nomatch z) fr) .nil)) (paired_drop pl iv')
  · rcases List.mem_or_eq_of_mem_set hb with hb | rfl
    · have := g.small b hb; omega
    · have := g.small bs (List.mem_of_getElem? ht)
      unfold putIn
      rw [List.length_append, List.length_append, List.length_take, List.length_drop]
      simp only [List.length_cons, List.length_nil]
      omega
theorem ltPl_trans {a b c : Pl} (h : ltPl a b) (k : ltPl b c) : ltPl a c := by
  unfold ltPl at *
  omega
theorem ltPl_irrefl {a : Pl} : ¬ ltPl a a := by
  unfold ltPl
  omega
theorem place_dp {K : PySem.W.Frag} {H : Hp} {v : V} {r : Pl} (h : PlaceV H v r) : Dp K H v (.tuple [.int r.1, .int r.2]) := by
  obtain ⟨t, rfl, e⟩ := h
  exact .tup (st_of e) (.cons (.int _) (.cons (.int _) .nil))
theorem place_lay (r : Pl) : Lay 64 (.tuple [.int r.1, .int r.2]) := ⟨by simp [PyData.canLay0, PyData.canLayAll0], by simp [PyData.depth, PyData.depthAll]⟩
theorem i_neStr {K : PySem.W.Frag} {H : Hp} {Q : VK} {x y : Str} (hx : PyData.strOk x = true) (hy : PyData.strOk y = true) (q : Q (.bl (!decide (x = y))) H) : rNeD K (.str x) (.str y) H Q := by
  have sh : ∀ z : Str, PyData.strOk z = true → Lay 0 (.str z) := fun z h => ⟨by simp [PyData.canLay0, h], by simp [PyData.depth]⟩
  exact ⟨_, _, .str x, .str y, (sh x hx).shaped (by decide), (sh y hy).shaped (by decide), by
    simp only [PyData.eqv]
    rw [show (x == y) = decide (x = y) from by by_cases h : x = y <;> simp [h]]
    exact q⟩
theorem not_all_first {rows : List (List Bool)} {i j : Nat} (a : AllOk rows) (f : FirstBad rows i j) : False := by
  obtain ⟨bs, e, h, _⟩ := f.ex
  have := a i bs e false (List.mem_of_getElem? h)
  cases this
end KP
namespace KP
theorem first_uniq {rows : List (List Bool)} {i j i' j' : Nat} (a : FirstBad rows i j) (b : FirstBad rows i' j') : i = i' ∧ j = j' := by
  obtain ⟨bs, e, h, k⟩ := a.ex
  obtain ⟨bs', e', h', k'⟩ := b.ex
  have n1 : ¬ i < i' := fun z => by
    have := b.before i z bs e false (List.mem_of_getElem? h)
    cases this
  have n2 : ¬ i' < i := fun z => by
    have := a.before i' z bs' e' false (List.mem_of_getElem? h')
    cases this
  have ei : i = i' := by omega
  subst ei
  rw [e] at e'
  cases e'
  refine ⟨rfl, ?_⟩
  have n3 : ¬ j < j' := fun z => by
    have := k' j z
    rw [h] at this; cases this
  have n4 : ¬ j' < j := fun z => by
    have := k j' z
    rw [h'] at this; cases this
  omega
end KP
namespace KP
open PySem PySem.Spec PyProof.Rows L2
theorem FrL.mono {H0 H1 H2 H3 : Hp} {v : V} (bv : InstrV H2 v false) (fr : FrL H1 H2 v) (s0 : Same H0 H1) (s : Same H2 H3) : FrL H0 H3 v := fun t xs e1 e2 => by
  subst e1
  generalize hb : false = b at bv
  generalize hv : V.ref t = v at bv
  cases bv with
  | tup e o => cases hv; rw [s _ _ e] at e2; cases e2
  | lst e o => cases hv; exact s0.free (fr _ _ rfl e)
  | scal o => rw [← hv] at o; cases o
theorem ixN_nat {n k : Nat} (h : k < n) : ixN n (k : Int) = some k := by
  unfold ixN
  rw [if_pos (by omega), if_pos (by omega)]; rfl
end KP

set_option Elab.async false
set_option linter.all false
set_option maxRecDepth 100000
set_option maxHeartbeats 2000000
namespace KP
open PySem PySem.Spec PyProof.Rows L2
/-! ### a def that is called within an except suite and raises nothing of its own: whatever is handled there -/
structure FnQ (P : Program) (w : World) (K : PySem.W.Frag) (mg : Str → Option Value) (base : Heap) (k : Nat) (f : Addr) (fd : FuncData) (ps : List Str) (sp : Sp) : Prop where
  len : ∀ {vs H Q E}, sp vs H Q E → vs.length = ps.length
  run : ∀ {A : Around} {outer : List Env} {s : Shared} {H : Hp} {args : Args} {us : List Value} {vs : List V} {Q : VK} {p : Addr × Obj}, L2H.RoomH k A → L2H.PinOk outer H s p → Env0 P w K mg base A outer s H → BindsTo s fd args (ps.zip us) → Vals vs us → sp vs H Q E0 →
    codeAny (model P w) A (.call (.ref f) args) (CR CX0 outer P w H s Q E0) s
theorem okQ {P : Program} {w : World} {K : PySem.W.Frag} {mg : Str → Option Value} {base : Heap} {x qual : Str} {st : Stmt} {f : Addr} {fd : FuncData} {N ps : List Str} {k : Nat} {sp : Sp} (F : Fun K x qual st f fd) (S : FnScope N ps (defScope st)) (hlen : ∀ {vs H Q E}, sp vs H Q E → vs.length = ps.length)
    (body : ∀ (cdv : Value) (A : Around) (outer : List Env) (s : Shared) (H : Hp) (vs : List V) (Q : VK) (p : Addr × Obj), L2H.RoomH k (A.deeper (envOfC qual (defScope st) s.heap.objs.size f cdv)) → sp vs H Q E0 →
      ∃ t, PSs (L2H.cxH CX0 P w K mg base N qual (defScope st) f cdv A outer s H E0 p) (defBody st) t ∧ t { nx := fun _ H' => Q .non H', rt := Q } (start N vs) H) : FnQ P w K mg base (k + 1) f fd ps sp := by
  obtain ⟨oc, od, kV, doc, pm, an, cdv, ct, osl, rfl, lk, hcd⟩ := F.ex
  refine ⟨hlen, fun {A outer s H args us vs Q p} hr hpin e0 hb r hsp => ?_⟩
  have up := e0.mod.kin.keeps (h' := s.heap) fun b o e => (e0.bs b o e).1
  have nl := e0.mod.nolimit.keeps (h' := s.heap) fun b o e => (e0.bs b o e).1
  refine codeAny_call_function hr.depth (up _ _ lk) rfl S.co S.gen rfl (PySem.W.codeRec_of up hcd) (hb _ _ _ _ ?_)
  refine wpAny_newFunctionEnv_cells S.kind (fun y hy => ?_) fun env he s1 x => ?_
  · rcases S.par y.1 (List.of_mem_zip (a := y.1) (b := y.2) hy).1 with q | q
    · exact .inl q
    · exact .inr ⟨q, PySem.W.cellsFrom_some _ _ _ (.inl q)⟩
  cases he
  obtain ⟨t, ht, hq⟩ := body cdv A outer s H vs Q p (hr.deeper _) hsp
  refine ⟨nl.keeps x.toInCall.keep, codeAny_func ?_⟩
  refine wpAny_mono (ht.run [] s1 (start N vs) H _ (L2H.inv_startH S hpin e0 (hlen hsp) r x) hq) (fun fl s' z => ?_) fun _ _ z => z
  cases fl with
  | next => obtain ⟨_, H', J, q⟩ := z; exact ⟨.non, H', J.os, J.bare, J.base, J.hok, rfl, q⟩
  | ret u => obtain ⟨v, _, H', J, rv, q⟩ := z; exact ⟨v, H', J.os, J.bare, J.base, J.hok, rv, q⟩
  | brk => obtain ⟨_, _, _, q⟩ := z; exact q.elim
  | cont => obtain ⟨_, _, _, q⟩ := z; exact q.elim
structure OkQ (P : Program) (w : World) (K : PySem.W.Frag) (mg : Str → Option Value) (base : Heap) (k : Nat) (x : Str) (ps : List Str) (sp : Sp) : Prop where
  ex : ∃ f fd, mg x = some (.ref f) ∧ PySem.W.keepIn K (.ref f) = true ∧ Binds K fd ps [] ∧ FnQ P w K mg base k f fd ps sp
theorem _root_.KP.FnAt.okQ {P : Program} {w : World} {K : PySem.W.Frag} {mg : Str → Option Value} {base : Heap} {k : Nat} {x : Str} {st : Stmt} {ps : List Str} {sp : Sp} (A : FnAt K mg x st ps) (h : ∀ f fd, Fun K x x st f fd → FnQ P w K mg base k f fd ps sp) : OkQ P w K mg base k x ps sp := by
  obtain ⟨f, fd, e, b, F⟩ := A.ex
  exact ⟨f, fd, e, F.kp, b, h f fd F⟩
section
variable {X : Cx} {k : Nat} {ps : List Str} {sp : Sp} {x : Str} {p0 pos : Pos} {e : Expr} {es : List Expr} {t : TA}
theorem run_fnQ {f : Addr} {fd : FuncData} {pins : List (Addr × Obj)} {σ : S} {H : Hp} {s : Shared} {Q : VK} {us : List Value} {vs : List V} {p : Addr × Obj} (F : FnQ X.prog X.w X.K X.mg X.base k f fd ps sp) (hr : L2H.RoomH k X.A) (hp : p ∈ X.pn) (hb : Binds X.K fd ps [])
    (I : Inv X pins σ H s) (r : Vals vs us) (h : sp vs H Q E0) : wpAny (model X.prog X.w) X.A (call (.ref f) us) (EP X pins σ Q) X.xe s := by
  have b := hb s us I.kIn (by rw [List.append_nil, ← r.length]; exact F.len h)
  rw [List.append_nil] at b
  have I1 := I.pin p (List.mem_append_left _ hp)
  have pin : L2H.PinOk X.stack H s p := ⟨I1.1, I1.2.1, fun z => (List.mem_cons.mp (I.stkSub p.1 z)).elim I1.2.2.1 I1.2.2.2.1, I1.2.2.2.2⟩
  refine wpAny_call (codeAny_mono (F.run hr pin I.env0 b r h) fun r s' z => ?_)
  cases r with
  | error e => exact z.elim
  | ok fl => cases fl with
    | ret u => exact I.after z
    | next => exact z.elim
    | brk => exact z.elim
    | cont => exact z.elim
theorem pe_callQ {p : Addr × Obj} (O : OkQ X.prog X.w X.K X.mg X.base k x ps sp) (hr : L2H.RoomH k X.A) (hp : p ∈ X.pn) (ha : PA X (e :: es) t) (hg : Gl X x := by rfl)
    (he : starEach (e :: es) X.env = (false, eval e X.env) :: starEach es X.env := by rfl) (hpl : (backTo pos (starEach es X.env)).any (·.1) = false := by rfl) (hdb : (x == ("__debug__" : Str)) = false := by decide) :
    PE X (.Call (.Name x p0) (e :: es) [] pos) (tCall sp [] E0 t) := by
  obtain ⟨f, fd, hm, hk, hb, F⟩ := O.ex
  refine ⟨fun pins s σ H Q I h => ?_⟩
  refine wpAny_Call_Name_kw (ld_glob I hg hm ?_ hdb)
  refine PySem.W.callWith_K (h₀ := X.base) I.ok.mod.kin hk (thn (ha.run pos pins s σ H _ I h) fun us s1 ⟨vs, H1, I1, r, z⟩ => ⟨I1.kIn, ?_⟩) he hpl
  exact run_fnQ F hr hp hb I1 r (List.append_nil vs ▸ z)
end
section
variable {X : Cx} {CX : CXT} {k : Nat} {ps : List Str} {sp : Sp} {E : S → XK} {x : Str} {p0 pos : Pos} {e : Expr} {es : List Expr} {t : TA}
/-- a def of the module that may raise -/
theorem pe_callSO (O : OkF X.prog X.w X.K X.mg X.base CX k x ps sp) (hr : Room k X.A) (hx : ∀ σ, PassesAt CX X σ (E σ)) (ha : PA X (e :: es) t) (hg : Gl X x := by rfl)
    (he : starEach (e :: es) X.env = (false, eval e X.env) :: starEach es X.env := by rfl) (hpl : (backTo pos (starEach es X.env)).any (·.1) = false := by rfl) (hdb : (x == ("__debug__" : Str)) = false := by decide) :
    PE X (.Call (.Name x p0) (e :: es) [] pos) (tCallS sp E t) := by
  obtain ⟨f, fd, hm, hk, hb, F⟩ := O.ex
  exact pe_callS F hr hg hm hk hb hx ha hdb he hpl
end
theorem i_callS {sp : Sp} {E : S → XK} {ar : TA} {σ : S} {H : Hp} {Q : VK} (q : ar σ H fun vs H1 => sp vs H1 Q (E σ)) : tCallS sp E ar σ H Q := q
theorem hotRoom {A : Around} {k : Nat} {v : Option Value} (hr : Room k A) : L2H.RoomH k (A.mark v) := ⟨hr.dp, hr.un⟩
end KP
set_option Elab.async false
set_option linter.all false
set_option maxRecDepth 100000
set_option maxHeartbeats 1000000
namespace KP
open PySem PySem.Spec PyProof.Rows L2
local macro_rules | `(tactic| walk_at "hpH") => `(tactic| first
  | assumption
  | exact upd_same
  | exact Same.at (by assumption) (by walk_at "hpH"))
local macro_rules | `(tactic| walk_at "hpL") => `(tactic| first
  | assumption
  | exact sl_of (by walk_at "hpH")
  | exact Same.sl (by assumption) (by walk_at "hpL"))
local macro_rules | `(tactic| walk_at "hpT") => `(tactic| first
  | assumption
  | exact st_of (by walk_at "hpH")
  | exact Same.st (by assumption) (by walk_at "hpT"))
local macro_rules | `(tactic| walk_at "hp") => `(tactic| first
  | ((with_reducible show SqL _ _ _ _); walk_at "hpL")
  | ((with_reducible show SqT _ _ _ _); walk_at "hpT")
  | walk_at "hpH")
local macro_rules | `(tactic| walk_at "ar") => `(tactic| first
  | decide
  | omega
  | exact ⟨by decide, by decide⟩
  | exact Or.inl ⟨by decide, by decide⟩
  | exact Or.inl ⟨by omega, by omega⟩
  | exact Or.inr ⟨by decide, by decide⟩
  | exact Or.inr ⟨by omega, by omega⟩
  | exact ⟨by decide, by decide, by decide⟩
  | (simp only [List.length_map, List.length_append, List.length_cons, List.length_nil, List.length_reverse]; omega))
local macro_rules | `(tactic| walk_at "kp1") => `(tactic| first
  | (with_reducible refine' i_seq ?_)
  | (with_reducible refine' i_asg ?_)
  | (with_reducible refine' i_gname ?_)
  | ((with_reducible refine' i_var ?hv ?_); (case hv => exact rfl))
  | (with_reducible refine' i_c ?_)
  | (with_reducible refine' i_op ?_)
  | (with_reducible refine' i_un ?_)
  | (with_reducible refine' i_test ?_)
  | (with_reducible refine' i_B ?_)
  | (with_reducible refine' i_and ?_)
  | (with_reducible refine' i_or ?_)
  | (with_reducible refine' i_not ?_)
  | (with_reducible refine' i_andV ?_)
  | (with_reducible refine' i_orV ?_)
  | (with_reducible refine' i_notV ?_)
  | (with_reducible refine' i_tif ?_)
  | (with_reducible refine' i_exb ?_)
  | (with_reducible refine' i_drop ?_)
  | (with_reducible refine' i_ret ?_)
  | (with_reducible refine' i_retN ?_)
  | (with_reducible refine' i_next ?_)
  | (with_reducible refine' i_ifS ?_)
  | (with_reducible refine' i_nil ?_)
  | (with_reducible refine' i_cons ?_)
  | (with_reducible refine' i_cb ?_)
  | (with_reducible refine' i_call ?_)
  | (with_reducible refine' i_rI0 ?_)
  | (with_reducible refine' i_rU ?_)
  | (with_reducible refine' i_eqI ?_)
  | (with_reducible refine' i_neI ?_)
  | (with_reducible refine' i_eqS ?_)
  | (with_reducible refine' i_neS ?_)
  | (with_reducible refine' i_eqB ?_)
  | (with_reducible refine' i_neB ?_)
  | (with_reducible refine' i_tup ?_)
  | (with_reducible refine' i_lst ?_)
  | (with_reducible refine' i_bm ?_)
  | (with_reducible refine' i_fldR ?_)
  | (with_reducible refine' i_yes ?_)
  | (with_reducible refine' i_forR1 ?_)
  | (with_reducible refine' i_forL ?_)
  | (with_reducible refine' i_forT ?_)
  | ((with_reducible refine' i_lenL ?hs ?_); (case hs => walk_at "hp"))
  | ((with_reducible refine' i_lenT ?hs ?_); (case hs => walk_at "hp"))
  | (with_reducible refine' i_intI ?_)
  | (with_reducible refine' i_intB ?_)
  | (with_reducible refine' i_absI ?_)
  | ((with_reducible refine' i_rI ?hc ?_); (case hc => walk_at "ar"))
  | ((with_reducible refine' i_tyL ?hs ?_); (case hs => walk_at "hp"))
  | ((with_reducible refine' i_append ?hs ?hz ?_); (case hs => walk_at "hp"); (case hz => walk_at "ar"))
  | ((with_reducible refine' i_isiTup ?hs ?_); (case hs => walk_at "hp"))
  | ((with_reducible refine' i_inKinds ?hs ?_); (case hs => walk_at "hp"))
  | (with_reducible refine' iteT ?_)
  | (with_reducible refine' iteF ?_)
  | ((with_reducible refine' i_dnewT ?_))
  | ((with_reducible refine' i_dnewK ?_))
  | (with_reducible refine' i_make ?_)
  | ((with_reducible refine' i_ixD ?hs ?hz ?hy ?_); (case hs => walk_at "hpL"); (case hz => first | decide | omega); (case hy => omega))
  | (with_reducible refine' i_revL ?_)
  | ((with_reducible refine' raw_rev ?hs ?_); (case hs => walk_at "hp"))
  | (with_reducible refine' i_isB ?_)
  | (with_reducible refine' i_notB ?_)
  | (with_reducible refine' i_isiBool ?_)
  | ((with_reducible refine' i_catL ?ha ?hb ?hz ?_); (case ha => walk_at "hp"); (case hb => walk_at "hp"); (case hz => walk_at "ar"))
  | (with_reducible refine' i_dput ?_)
  | (with_reducible refine' i_din ?_)
  | (with_reducible refine' i_sfld ?_)
  | (with_reducible refine' i_lc2T ?_)
  | (with_reducible refine' i_lc2L ?_)
  | (with_reducible refine' i_lcL ?_)
  | (with_reducible refine' i_lcT ?_)
  | (with_reducible refine' i_lcR ?_)
  | ((with_reducible refine' i_tupL ?hs ?_); (case hs => walk_at "hp"))
  | ((with_reducible refine' i_listL ?hs ?_); (case hs => walk_at "hp"))
  | ((with_reducible refine' i_listT ?hs ?_); (case hs => walk_at "hp"))
  | ((with_reducible refine' i_tupT ?hs ?_); (case hs => walk_at "hp"))
  | ((with_reducible refine' fr_tup ?hz ?_); (case hz => exact Nat.le_of_ble_eq_true rfl))
  | ((with_reducible refine' fr_lst ?hz ?_); (case hz => exact Nat.le_of_ble_eq_true rfl)))
local macro_rules | `(tactic| walk_at "kp") => `(tactic| repeat (walk_at "kp1"))

local macro_rules | `(tactic| walk_at "kp1") => `(tactic| first
  | (with_reducible refine' i_vei ?_)
  | (with_reducible refine' i_ost ?_)
  | (with_reducible refine' i_makeS ?_)
  | (with_reducible refine' i_mko ?_)
  | (with_reducible refine' i_slTo ?_)
  | (with_reducible refine' i_slFrom ?_)
  | (with_reducible refine' i_exi ?_)
  | (with_reducible refine' i_xf ?_))

local macro_rules | `(tactic| walk_at "kp1") => `(tactic| first
  | (with_reducible refine' i_lcK ?_)
  | (with_reducible refine' i_dget ?_)
  | (with_reducible refine' i_strS ?_)
  | (with_reducible refine' i_makeK ?_)
  | (with_reducible refine' i_meth ?_)
  | (with_reducible refine' i_prop ?_)
  | (with_reducible refine' i_par ?_)
  | (with_reducible refine' raw_par ?_)
  | (with_reducible refine' i_slB ?_)
  | (with_reducible refine' i_gsub ?_))

local macro_rules | `(tactic| walk_at "kp1") => `(tactic| first
  | (with_reducible refine' i_callS ?_)
  | (with_reducible refine' i_chain ?_)
  | (with_reducible refine' i_lcS ?_)
  | (with_reducible refine' i_inS ?_)
  | (with_reducible refine' i_forE ?_))

def topS (i : Nat) : Stmt := PySem.Challenge.pw_keptpairs_k05_check_program.main.body.getD i (.Pass ⟨0, 0, 0, 0⟩)

section
variable {P : Program} {w : World} {K : PySem.W.Frag} {mg : Str → Option Value} {base : Heap}
/-! ### what is an instruction -/
def spScal (f : V → Bool) : Sp := fun vs H Q _ => ∃ x, vs = [x] ∧ scal4 x = true ∧ Q (.bl (f x)) H
abbrev sInt : Stmt := topS 13
theorem scInt : FnScope ["item"] ["item"] (defScope sInt) := ⟨rfl, rfl, rfl, by decide +kernel, rfl, by decide +kernel, by decide +kernel⟩
theorem ok_int (At : FnAt K mg "is_integer" sInt ["item"]) (B : Blt mg) : OkF P w K mg base CX0 1 "is_integer" ["item"] (spScal isIntV) := At.ok fun f fd F => by
  refine F.ok scInt (fun vs H Q E h => ?_) (fun cdv A outer s H vs Q E hr h => ?_)
  · obtain ⟨x, rfl, _⟩ := h
    rfl
  · obtain ⟨x, rfl, hx, q⟩ := h
    refine ⟨_, (pss_one (ps_ret (pe_and (pe_callB (call_isiKK K rfl) (by rfl) B.isinstance (by decide +kernel) (pa_cons (pv 0) (pa_cons (pe_bltn (v := .ty "int") (by rfl) B.int (by decide +kernel) rfl) pa_nil))) (pe_one (pe_not (pe_callB (call_isiKK K rfl) (by rfl) B.isinstance (by decide +kernel) (pa_cons (pv 0) (pa_cons (pe_bltn (v := .ty "bool") (by rfl) B.bool (by decide +kernel) rfl) pa_nil)))))))), ?_⟩
    walk_at "kp"
    have kII : kitB "int" "int" = some true := by decide +kernel
    have kIB : kitB "int" "bool" = some false := by decide +kernel
    have kBI : kitB "bool" "int" = some true := by decide +kernel
    have kBB : kitB "bool" "bool" = some true := by decide +kernel
    have kSI : kitB "str" "int" = some false := by decide +kernel
    have kNI : kitB "NoneType" "int" = some false := by decide +kernel
    cases x with
    | int i =>
      refine i_isi4 hx kII ?_
      walk_at "kp"
      refine i_isi4 hx kIB ?_
      walk_at "kp"
      exact q
    | bl i =>
      refine i_isi4 hx kBI ?_
      walk_at "kp"
      exact q
    | str i =>
      refine i_isi4 hx kSI ?_
      walk_at "kp"
      exact q
    | non =>
      refine i_isi4 hx kNI ?_
      walk_at "kp"
      exact q
    | _ => cases hx
abbrev sCell : Stmt := topS 15
theorem scCell : FnScope ["item"] ["item"] (defScope sCell) := ⟨rfl, rfl, rfl, by decide +kernel, rfl, by decide +kernel, by decide +kernel⟩
theorem ok_cell (At : FnAt K mg "_is_cell" sCell ["item"]) (gLCx : ∃ t, mg "LAST_CELL" = some (.int 9 t)) (Oint : OkF P w K mg base CX0 1 "is_integer" ["item"] (spScal isIntV)) : OkF P w K mg base CX0 2 "_is_cell" ["item"] (spScal cellV) := At.ok fun f fd F => by
  obtain ⟨tLC, gLC⟩ := gLCx
  refine F.ok scCell (fun vs H Q E h => ?_) (fun cdv A outer s H vs Q E hr h => ?_)
  · obtain ⟨x, rfl, _⟩ := h
    rfl
  · obtain ⟨x, rfl, hx, q⟩ := h
    refine ⟨_, (pss_one (ps_ret (pe_and (pe_callO Oint (hr.mono (by decide)) (pa_cons (pv 0) pa_nil)) (pe_one (pe_chain op_le op_le pe_int (pv 0) (pe_glob (v := .int 9) (by rfl) gLC ⟨_, rfl⟩)))))), ?_⟩
    walk_at "kp"
    refine ⟨x, rfl, hx, ?_⟩
    refine ⟨_, rfl, ?_⟩
    cases x with
    | int i =>
      refine ite_ok rfl ?_
      walk_at "kp"
      refine ite2 (fun h => ?_) (fun h => ?_)
      · walk_at "kp"
        rw [show cellV (.int i) = decide (i ≤ 9) from by show (decide (0 ≤ i) && decide (i ≤ 9)) = _; rw [h]; rfl] at q
        exact q
      · rw [Bool.not_eq_true] at h
        rw [show cellV (.int i) = false from by show (decide (0 ≤ i) && decide (i ≤ 9)) = _; rw [h]; rfl] at q
        exact q
    | bl i => exact ite_no rfl q
    | str i => exact ite_no rfl q
    | non => exact ite_no rfl q
    | _ => cases hx
abbrev sVal : Stmt := topS 16
theorem scVal : FnScope ["item"] ["item"] (defScope sVal) := ⟨rfl, rfl, rfl, by decide +kernel, rfl, by decide +kernel, by decide +kernel⟩
theorem ok_val (At : FnAt K mg "_is_value" sVal ["item"]) (gTVx : ∃ t, mg "TOP_VALUE" = some (.int 1000000000 t)) (Oint : OkF P w K mg base CX0 1 "is_integer" ["item"] (spScal isIntV)) : OkF P w K mg base CX0 2 "_is_value" ["item"] (spScal valueV) := At.ok fun f fd F => by
  obtain ⟨tTV, gTV⟩ := gTVx
  refine F.ok scVal (fun vs H Q E h => ?_) (fun cdv A outer s H vs Q E hr h => ?_)
  · obtain ⟨x, rfl, _⟩ := h
    rfl
  · obtain ⟨x, rfl, hx, q⟩ := h
    refine ⟨_, (pss_one (ps_ret (pe_and (pe_callO Oint (hr.mono (by decide)) (pa_cons (pv 0) pa_nil)) (pe_one (pe_chain op_le op_le pe_int (pv 0) (pe_glob (v := .int 1000000000) (by rfl) gTV ⟨_, rfl⟩)))))), ?_⟩
    walk_at "kp"
    refine ⟨x, rfl, hx, ?_⟩
    refine ⟨_, rfl, ?_⟩
    cases x with
    | int i =>
      refine ite_ok rfl ?_
      walk_at "kp"
      refine ite2 (fun h => ?_) (fun h => ?_)
      · walk_at "kp"
        rw [show valueV (.int i) = decide (i ≤ 1000000000) from by show (decide (1 ≤ i) && decide (i ≤ 1000000000)) = _; rw [h]; rfl] at q
        exact q
      · rw [Bool.not_eq_true] at h
        rw [show valueV (.int i) = false from by show (decide (1 ≤ i) && decide (i ≤ 1000000000)) = _; rw [h]; rfl] at q
        exact q
    | bl i => exact ite_no rfl q
    | str i => exact ite_no rfl q
    | non => exact ite_no rfl q
    | _ => cases hx
def spFence : Sp := fun vs H Q _ => ∃ x, vs = [x] ∧ scal4 x = true ∧ ∀ H', Same H H' → Q (.bl (fenceV x)) H'
abbrev sFence : Stmt := topS 14
theorem scFence : FnScope ["word", "letter"] ["word"] (defScope sFence) := ⟨rfl, rfl, rfl, by decide +kernel, rfl, by decide +kernel, by decide +kernel⟩
theorem ok_fence (At : FnAt K mg "is_fence_name" sFence ["word"]) (B : Blt mg) (GK : GlT K mg "KINDS" kindsV) (gLNx : ∃ t, mg "LONGEST_NAME" = some (.int 8 t)) (gLEx : ∃ t, mg "LETTERS" = some (.str lettersS t)) : OkF P w K mg base CX0 1 "is_fence_name" ["word"] spFence := At.ok fun f fd F => by
  obtain ⟨aK, gK, hK⟩ := GK
  obtain ⟨tLN, gLN⟩ := gLNx
  obtain ⟨tLE, gLE⟩ := gLEx
  refine F.ok scFence (fun vs H Q E h => ?_) (fun cdv A outer s H vs Q E hr h => ?_)
  · obtain ⟨x, rfl, _⟩ := h
    rfl
  · obtain ⟨x, rfl, hx, q⟩ := h
    refine ⟨_, (pss_cons (ps_if (PW.pt (pw_or (pt_not (pt_val (pe_callB (call_isiKK K rfl) (by rfl) B.isinstance (by decide +kernel) (pa_cons (pv 0) (pa_cons (pe_bltn (v := .ty "str") (by rfl) B.str (by decide +kernel) rfl) pa_nil))))) (pw_or1 (pt_cmpR (op_in_seqK K rfl) (pv 0) (pe_glob (v := .ref aK) (by rfl) gK (by rfl)) (by rfl)))))
        (pss_one (ps_ret pe_bl)) pss_nil)
      (pss_one (ps_ret (pe_and (pe_chain op_le op_le pe_int (pe_callB call_lenS (by rfl) B.len (by decide +kernel) (pa_cons (pv 0) pa_nil)) (pe_glob (v := .int 8) (by rfl) gLN ⟨_, rfl⟩)) (pe_one (pe_callB (cr_all rfl) (by rfl) B.all (by decide +kernel) (pa_cons (pe_lc (own := [("letter", 1)]) (g := gName 1) (tt := tYes) rfl scFence.nd (by exact (pi_str (pv 0))) (blkOk_by (N := ["word", "letter"]) (sc := (defScope sFence)) (by decide +kernel)) (fun _ _ _ _ _ => pg_name (i := 1) scFence.nd rfl (Or.inl rfl)) (fun _ _ _ _ _ => by exact pts_nil) (fun _ _ _ _ _ => by exact (pe_cmpR op_inS (pv 1) (pe_glob (v := .str lettersS) (by rfl) gLE ⟨_, rfl⟩) (by rfl)))) pa_nil))))))), ?_⟩
    have kSS : kitB "str" "str" = some true := by decide +kernel
    have kIS : kitB "int" "str" = some false := by decide +kernel
    have kBS : kitB "bool" "str" = some false := by decide +kernel
    have kNS : kitB "NoneType" "str" = some false := by decide +kernel
    have hKH := hK H
    walk_at "kp"
    cases x with
    | int i =>
      refine i_isi4 hx kIS ?_
      walk_at "kp"
      refine ite_ok rfl ?_
      walk_at "kp"
      exact q H (Same.refl _)
    | bl i =>
      refine i_isi4 hx kBS ?_
      walk_at "kp"
      refine ite_ok rfl ?_
      walk_at "kp"
      exact q H (Same.refl _)
    | non =>
      refine i_isi4 hx kNS ?_
      walk_at "kp"
      refine ite_ok rfl ?_
      walk_at "kp"
      exact q H (Same.refl _)
    | str z =>
      have hz : z.length ≤ 1000 := of_decide_eq_true (Bool.and_eq_true_iff.mp hx).1
      refine i_isi4 hx kSS ?_
      walk_at "kp"
      refine ite_no rfl ?_
      walk_at "kp"
      have q : ∀ H', Same H H' → Q (.bl (fenceB z)) H' := q
      cases e1 : kindB z with
      | true =>
        refine ite_ok rfl ?_
        walk_at "kp"
        have e2 : fenceB z = false := by unfold fenceB; rw [e1]; rfl
        rw [e2] at q
        exact q H (Same.refl _)
      | false =>
        refine ite_no rfl ?_
        walk_at "kp"
        refine i_lenS hz ?_
        walk_at "kp"
        have e2 : fenceB z = ((decide ((1 : Int) ≤ (z.length : Int)) && decide ((z.length : Int) ≤ (8 : Int))) && z.cps.toList.all letB) := by unfold fenceB; rw [e1]; rfl
        rw [e2] at q
        cases e3 : decide ((1 : Int) ≤ (z.length : Int)) with
        | false =>
          rw [e3] at q
          refine ite_no rfl ?_
          exact ⟨_, rfl, ite_no rfl (q H (Same.refl _))⟩
        | true =>
          rw [e3] at q
          refine ite_ok rfl ?_
          walk_at "kp"
          cases e4 : decide ((z.length : Int) ≤ (8 : Int)) with
          | false =>
            rw [e4] at q
            refine ite_no rfl ?_
            exact q H (Same.refl _)
          | true =>
            rw [e4] at q
            refine ite_ok rfl ?_
            walk_at "kp"
            refine raw_lcS hz (fun i acc H' => acc = ((z.cps.toList.take i).map letB).map V.bl) (fun i acc H H' k h => h) rfl ?_ ?_
            · rintro i c acc H' hc s' rfl Y N hY hN
              refine ⟨rfl, ?_⟩
              walk_at "kp"
              have hc2 : z.cps.toList[i]? = some c := by rw [← hc]; simp
              refine hY _ H' (Same.refl _) ?_
              show _ = ((z.cps.toList.take (i + 1)).map letB).map V.bl
              rw [take_snoc hc2, List.map_append, List.map_append]
              rfl
            · rintro D acc H2 nD s2 eD rfl
              walk_at "kp"
              have el : z.cps.toList.take z.cps.size = z.cps.toList := List.take_of_length_le (by simp)
              rw [el] at eD
              refine i_all (sl_of eD) ?_
              rw [take_all]
              exact q H2 s2
    | _ => cases hx
def spInstr : Sp := fun vs H Q _ => ∃ v b, vs = [v] ∧ InstrV H v b ∧ ∀ H', Same H H' → Q (.bl b) H'
abbrev sInstr : Stmt := topS 17
theorem scInstr : FnScope ["item"] ["item"] (defScope sInstr) := ⟨rfl, rfl, rfl, by decide +kernel, rfl, by decide +kernel, by decide +kernel⟩
theorem ok_instr (At : FnAt K mg "_is_instruction" sInstr ["item"]) (B : Blt mg) (GR : GlT K mg "READS" (readsK.map V.str)) (GW : GlT K mg "WRITES" (writesK.map V.str)) (Ocell : OkF P w K mg base CX0 2 "_is_cell" ["item"] (spScal cellV)) (Oval : OkF P w K mg base CX0 2 "_is_value" ["item"] (spScal valueV)) (Ofn : OkF P w K mg base CX0 1 "is_fence_name" ["word"] spFence) : OkF P w K mg base CX0 3 "_is_instruction" ["item"] spInstr := At.ok fun f fd F => by
  obtain ⟨aR, gR, hR⟩ := GR
  obtain ⟨aW, gW, hW⟩ := GW
  refine F.ok scInstr (fun vs H Q E h => ?_) (fun cdv A outer s H vs Q E hr h => ?_)
  · obtain ⟨v, b, rfl, _⟩ := h
    rfl
  · obtain ⟨v, b, rfl, hv, q⟩ := h
    have q0 := q H (Same.refl _)
    refine ⟨_, (pss_cons (ps_if (PW.pt (pw_or (pt_not (pt_val (pe_callB (call_isiKK K rfl) (by rfl) B.isinstance (by decide +kernel) (pa_cons (pv 0) (pa_cons (pe_bltn (v := .ty "tuple") (by rfl) B.tuple (by decide +kernel) rfl) pa_nil))))) (pw_or1 (pt_cmpR op_eq (pe_callB (call_lenTK K rfl) (by rfl) B.len (by decide +kernel) (pa_cons (pv 0) pa_nil)) pe_int (nomark _)))))
        (pss_one (ps_ret pe_bl)) pss_nil)
      (pss_cons (ps_if (pt_cmpR (op_in_seqK K rfl) (pe_ix (ix_tupK K rfl) (pv 0) pe_int (fun _ _ => rfl)) (pe_glob (v := .ref aR) (by rfl) gR (by rfl)) (by rfl))
        (pss_one (ps_ret (pe_and (pe_cmpR op_eq (pe_callB (call_lenTK K rfl) (by rfl) B.len (by decide +kernel) (pa_cons (pv 0) pa_nil)) pe_int (nomark _)) (pe_one (pe_callO Ocell (hr.mono (by decide)) (pa_cons (pe_ix (ix_tupK K rfl) (pv 0) pe_int (fun _ _ => rfl)) pa_nil)))))) pss_nil)
      (pss_cons (ps_if (pt_cmpR (op_in_seqK K rfl) (pe_ix (ix_tupK K rfl) (pv 0) pe_int (fun _ _ => rfl)) (pe_glob (v := .ref aW) (by rfl) gW (by rfl)) (by rfl))
        (pss_one (ps_ret (pe_and (pe_cmpR op_eq (pe_callB (call_lenTK K rfl) (by rfl) B.len (by decide +kernel) (pa_cons (pv 0) pa_nil)) pe_int (nomark _)) (pe_and (pe_callO Ocell (hr.mono (by decide)) (pa_cons (pe_ix (ix_tupK K rfl) (pv 0) pe_int (fun _ _ => rfl)) pa_nil)) (pe_one (pe_callO Oval (hr.mono (by decide)) (pa_cons (pe_ix (ix_tupK K rfl) (pv 0) pe_int (fun _ _ => rfl)) pa_nil))))))) pss_nil)
      (pss_one (ps_ret (pe_and (pe_cmpR op_eq (pe_callB (call_lenTK K rfl) (by rfl) B.len (by decide +kernel) (pa_cons (pv 0) pa_nil)) pe_int (nomark _)) (pe_one (pe_callO Ofn (hr.mono (by decide)) (pa_cons (pe_ix (ix_tupK K rfl) (pv 0) pe_int (fun _ _ => rfl)) pa_nil))))))))), ?_⟩
    walk_at "kp"
    cases hv with
    | lst e =>
      refine i_isiLst e ?_
      walk_at "kp"
      refine ite_ok rfl ?_
      walk_at "kp"
      exact q0
    | scal e =>
      refine i_isiNoT e ?_
      walk_at "kp"
      refine ite_ok rfl ?_
      walk_at "kp"
      exact q0
    | @tup t xs e o =>
      walk_at "kp"
      refine ite_no rfl ?_
      walk_at "kp"
      cases xs with
      | nil =>
        refine ite_ok rfl ?_
        walk_at "kp"
        exact q0
      | cons x xs =>
        have ox : scal4 x = true := o x (List.mem_cons_self ..)
        have oxs : ∀ y ∈ xs, scal4 y = true := fun y h => o y (List.mem_cons_of_mem _ h)
        clear o
        refine ite_no (decide_eq_false (by simp only [List.length_cons]; omega)) ?_
        walk_at "kp"
        refine i_ixT (st_of e) (atI_nat (j := 0) rfl) ?_
        walk_at "kp"
        refine i_inT4 (hR H) ox ?_
        walk_at "kp"
        cases e1 : inK x readsK with
        | true =>
          refine ite_ok rfl ?_
          walk_at "kp"
          have eB : instrB (x :: xs) = readB xs := if_pos e1
          rw [eB] at q0
          clear eB q
          match xs, oxs, e, q0 with
          | [], _, e, q0 =>
            exact ite_no rfl q0
          | [c], oxs, e, q0 =>
            refine ite_ok rfl ?_
            walk_at "kp"
            refine i_ixT (st_of e) (atI_nat (j := 1) rfl) ?_
            walk_at "kp"
            exact ⟨c, rfl, oxs c (List.mem_cons_self ..), q0⟩
          | c :: c2 :: l, _, e, q0 =>
            exact ite_no (decide_eq_false (by simp only [List.length_cons]; omega)) q0
        | false =>
          refine ite_no rfl ?_
          walk_at "kp"
          refine i_ixT (st_of e) (atI_nat (j := 0) rfl) ?_
          walk_at "kp"
          refine i_inT4 (hW H) ox ?_
          walk_at "kp"
          cases e2 : inK x writesK with
          | true =>
            refine ite_ok rfl ?_
            walk_at "kp"
            have eB : instrB (x :: xs) = writeB xs := (if_neg (by rw [e1]; exact Bool.false_ne_true)).trans (if_pos e2)
            rw [eB] at q0
            clear eB q
            match xs, oxs, e, q0 with
            | [], _, e, q0 => exact ite_no rfl q0
            | [c], _, e, q0 => exact ite_no rfl q0
            | [c, v], oxs, e, q0 =>
              refine ite_ok rfl ?_
              walk_at "kp"
              refine i_ixT (st_of e) (atI_nat (j := 1) rfl) ?_
              walk_at "kp"
              refine ⟨c, rfl, oxs c (List.mem_cons_self ..), ?_⟩
              walk_at "kp"
              have q0 : Q (.bl (cellV c && valueV v)) H := q0
              cases e3 : cellV c with
              | false =>
                rw [e3] at q0
                first | exact q0 | exact ⟨_, rfl, ite_no rfl q0⟩
              | true =>
                rw [e3] at q0
                refine ite_ok rfl ?_
                walk_at "kp"
                refine i_ixT (st_of e) (atI_nat (j := 2) rfl) ?_
                walk_at "kp"
                exact ⟨v, rfl, oxs v (List.mem_cons_of_mem _ (List.mem_cons_self ..)), q0⟩
            | c :: c2 :: c3 :: l, _, e, q0 => exact ite_no (decide_eq_false (by simp only [List.length_cons]; omega)) q0
          | false =>
            refine ite_no rfl ?_
            walk_at "kp"
            have eB : instrB (x :: xs) = aloneB x xs := (if_neg (by rw [e1]; exact Bool.false_ne_true)).trans (if_neg (by rw [e2]; exact Bool.false_ne_true))
            rw [eB] at q q0
            clear eB
            match xs, e, q, q0 with
            | [], e, q, q0 =>
              refine ite_ok rfl ?_
              walk_at "kp"
              refine i_ixT (st_of e) (atI_nat (j := 0) rfl) ?_
              walk_at "kp"
              exact ⟨x, rfl, ox, q⟩
            | c :: l, e, q, q0 =>
              exact ite_no (decide_eq_false (by simp only [List.length_cons]; omega)) q0

/-! ### InvalidProgram(thread, index) -/
def spIPr (CI : Addr) : Sp := fun vs H Q _ => ∃ (a : Addr) (i j : Int), vs = [.ref a, .int i, .int j] ∧ 0 ≤ i ∧ i ≤ 1000 ∧ 0 ≤ j ∧ j ≤ 1000 ∧ H a = some (exo a CI none) ∧ ∀ d H', H d = none → d ≠ a → H' a = some (exo a CI (some d)) → H' d = some (exd d [("index", .int j), ("thread", .int i)]) → (∀ b o, b ≠ a → H b = some o → H' b = some o) → Q .non H'
abbrev sIPr : Stmt := inClass (topS 2) 0
theorem scIPr : FnScope ["self", "thread", "index"] ["self", "thread", "index"] (defScope sIPr) := ⟨rfl, rfl, rfl, by decide +kernel, rfl, by decide +kernel, by decide +kernel⟩
theorem ok_iprinit {CO CI f : Addr} {mc : Value} {fd : FuncData} (F : Fun K "__init__" "InvalidProgram.__init__" sIPr f fd) (gO : mg "OrderError" = some (.ref CO)) (rdO : ClX.CRead K CO mc) (vVO : PySem.W.findCls K (.ref CO) mc "__init__" = some (.val (.builtin "ValueError.__init__"))) (T : OexC K CI) (nT : PySem.W.findIn K (.ref CI) "thread" = some none) (nI : PySem.W.findIn K (.ref CI) "index" = some none) : FnOk P w K mg base CX0 1 f fd ["self", "thread", "index"] (spIPr CI) := by
  refine F.ok scIPr (fun vs H Q E h => ?_) (fun cdv A outer s H vs Q E hr h => ?_)
  · obtain ⟨a, i, j, rfl, _⟩ := h
    rfl
  · obtain ⟨a, i, j, rfl, i0, i1, j0, j1, ea, q⟩ := h
    refine ⟨_, (pss_cons (ps_expr (pe_oinit gO rdO vVO (pa_cons (pv 0) (pa_cons (pe_joined (PJ.cons pe_str (PJ.cons (pe_fmt (pv 2)) (PJ.cons pe_str (PJ.cons (pe_fmt (pv 1)) (PJ.cons pe_str PJ.nil)))))) pa_nil))))
      (pss_cons (ps_ost (pv 0) (pv 1))
      (pss_one (ps_ost (pv 0) (pv 2))))), ?_⟩
    walk_at "kp"
    have li := text_len i0 i1
    have lj := text_len j0 j1
    have l0 : Str.empty.length = 0 := rfl
    have l1 : (Str.ofString "instruction ").length = 12 := by decide +kernel
    have l2 : (Str.ofString " of thread ").length = 11 := by decide +kernel
    have l3 : (Str.ofString " is not valid").length = 13 := by decide +kernel
    have gi := small_log i0 i1
    have gj := small_log j0 j1
    have zl := sizeLine_eq
    simp only [tJs]
    walk_at "kp"
    refine ⟨_, rfl, by simp only [Str.length_append]; omega, ?_⟩
    refine ⟨_, rfl, .inr ⟨j, rfl, by omega, ?_⟩⟩
    refine ⟨_, rfl, by simp only [Str.length_append]; omega, ?_⟩
    refine ⟨_, rfl, by simp only [Str.length_append]; omega, ?_⟩
    refine ⟨_, rfl, .inr ⟨i, rfl, by omega, ?_⟩⟩
    refine ⟨_, rfl, by simp only [Str.length_append]; omega, ?_⟩
    refine ⟨_, rfl, by simp only [Str.length_append]; omega, ?_⟩
    walk_at "kp"
    refine ⟨a, CI, [_], rfl, Nat.le_of_ble_eq_true rfl, T, ea, ?_⟩
    walk_at "kp"
    refine ⟨a, CI, rfl, T, nT, .inl ⟨ea, fun d nd nda => ?_⟩⟩
    walk_at "kp"
    refine ⟨a, CI, rfl, T, nI, .inr ⟨d, [("thread", .int i)], upd_same, by rw [upd_ne nda]; exact upd_same, by exact Nat.le_of_ble_eq_true rfl, ?_⟩⟩
    have nad : a ≠ d := Ne.symm nda
    exact q d _ nd nda (by rw [upd_ne nad]; exact upd_same) upd_same fun b o hb e => by rw [upd_ne (ne_of_none e nd), upd_ne hb, upd_ne (ne_of_none e nd)]; exact e

/-- InvalidProgram(..) and what it needs -/
structure EMkP (P : Program) (w : World) (K : PySem.W.Frag) (mg : Str → Option Value) (base : Heap) (k : Nat) (CI : Addr) : Prop where
  ex : ∃ fI fd, PySem.W.findIn K (.ref CI) "__init__" = some (some (.ref fI)) ∧ PySem.W.typeIn K (.ref fI) = some (.type "function") ∧ Binds K fd ["self", "thread", "index"] [] ∧ FnOk P w K mg base CX0 k fI fd ["self", "thread", "index"] (spIPr CI)
  gI : mg "InvalidProgram" = some (.ref CI)
  T : OexC K CI
def spCheck (K : PySem.W.Frag) (CI : Addr) : Sp := fun vs H Q E => ∃ a rows, vs = [.ref a] ∧ ProgV K H a rows ∧ rows.length ≤ 900 ∧ (∀ (i : Nat) bs, rows[i]? = some bs → bs.length ≤ 900) ∧ (AllOk rows → ∀ H', Same H H' → Q .non H') ∧
  ∀ i j : Nat, FirstBad rows i j → ∀ d H', H d = none → Same H H' → H' d = some (.xd [("index", .int j), ("thread", .int i)]) → E (.ref CI) (some d) H'
abbrev sCheck : Stmt := topS 18
theorem scCheck : FnScope ["program", "place", "thread", "index", "instruction"] ["program"] (defScope sCheck) := ⟨rfl, rfl, rfl, by decide +kernel, rfl, by decide +kernel, by decide +kernel⟩
theorem ok_check {CI : Addr} (At : FnAt K mg "check_program" sCheck ["program"]) (B : Blt mg) (EM : EMkP P w K mg base 1 CI) (Oinstr : OkF P w K mg base CX0 3 "_is_instruction" ["item"] spInstr) : OkF P w K mg base (L2.CX P w) 5 "check_program" ["program"] (spCheck K CI) := At.ok fun f fd F => by
  obtain ⟨⟨fI, fdI, iC, tI, bI, FI⟩, gI, T⟩ := EM
  refine F.okX scCheck (fun vs H Q E h => ?_) (fun cdv A outer s H vs Q E hr h => ?_)
  · obtain ⟨a, rows, rfl, _⟩ := h
    rfl
  · obtain ⟨a, rows, rfl, ⟨ts, hS, pr⟩, hl, hl2, qg, qb⟩ := h
    have lts := paired_len pr
    refine ⟨_, (pss_one (ps_for (passes_of rfl) rfl (pi_enum (by rfl) B.enumerate (pa_cons (pv 0) pa_nil)) (pg_tup rfl (pgs_cons (pg_name (i := 1) scCheck.nd rfl (.inl rfl)) (pgs_cons (pg_name (i := 2) scCheck.nd rfl (.inl rfl)) pgs_nil)))
        (pss_one (ps_for (passes_of rfl) rfl (pi_enum (by rfl) B.enumerate (pa_cons (pv 2) pa_nil)) (pg_tup rfl (pgs_cons (pg_name (i := 3) scCheck.nd rfl (.inl rfl)) (pgs_cons (pg_name (i := 4) scCheck.nd rfl (.inl rfl)) pgs_nil)))
        (pss_one (ps_if (pt_not (pt_val (pe_callO Oinstr (hr.mono (by decide)) (pa_cons (pv 4) pa_nil))))
        (pss_one (ps_raise rfl (takes_of rfl rfl rfl rfl) (pmk_oex T iC tI FI (hr.mono (by decide)) bI .nil pass0 rfl gI (pa_cons (pv 1) (pa_cons (pv 3) pa_nil))))) pss_nil)))))), ?_⟩
    walk_at "kp"
    refine raw_fe hS (fun i σ H' => ∃ x1 x2 x3 x4, σ = [some (.ref a), x1, x2, x3, x4] ∧ Same H H' ∧ ∀ i' < i, ∀ bs, rows[i']? = some bs → ∀ b ∈ bs, b = true) ⟨_, _, _, _, rfl, Same.refl _, fun _ h => by omega⟩ (fun i σ H' _ ⟨_, _, _, _, _, s', _⟩ => s'.seq hS) ?_ ?_
    · rintro i x T1 σ H1 hx ⟨x1, x2, x3, x4, rfl, s1, ok⟩ nT1
      have hil : i < ts.length := (List.getElem?_eq_some_iff.mp hx).1
      obtain ⟨bs, hbs, l, vs, rfl, hL, pv2⟩ := paired_get pr hx
      have lvs := paired_len pv2
      have s2 : Same H1 (upd H1 T1 (.tup [.int (i : Nat), .ref l])) := same_new nT1
      have s12 := s1.trans s2
      refine ⟨T1, _, rfl, st_of upd_same, rfl, ?_⟩
      refine ⟨_, _, rfl, ⟨_, _, rfl, ⟨rfl, ?_⟩⟩⟩
      walk_at "kp"
      have lbs := hl2 i bs hbs
      refine raw_fe (s12.seq hL) (fun j σ H' => ∃ x3 x4, σ = [some (.ref a), some (.int i), some (.ref l), x3, x4] ∧ Same H H' ∧ ∀ j' < j, bs[j']? = some true) ⟨_, _, rfl, s12, fun _ h => by omega⟩ (fun i σ H' _ ⟨_, _, _, s', _⟩ => s'.seq hL) ?_ ?_
      · rintro j y T2 σ H2 hy ⟨x3, x4, rfl, s3, okj⟩ nT2
        have hjl : j < vs.length := (List.getElem?_eq_some_iff.mp hy).1
        obtain ⟨b, hb, iv⟩ := paired_get pv2 hy
        have s4 : Same H2 (upd H2 T2 (.tup [.int (j : Nat), y])) := same_new nT2
        have s34 := s3.trans s4
        refine ⟨T2, _, rfl, st_of upd_same, rfl, ?_⟩
        refine ⟨_, _, rfl, ⟨_, _, rfl, ⟨rfl, ?_⟩⟩⟩
        walk_at "kp"
        refine ⟨y, b, rfl, iv.mono s34, fun H3 s5 => ?_⟩
        have s35 := s34.trans s5
        refine ⟨_, rfl, ?_⟩
        cases b with
        | true =>
          refine ite_no rfl ?_
          walk_at "kp"
          refine ⟨_, _, rfl, s35, fun j' hj' => ?_⟩
          by_cases z : j' = j
          · rw [z]; exact hb
          · exact okj j' (by omega)
        | false =>
          refine ite_ok rfl ?_
          walk_at "kp"
          refine ⟨Nat.le_of_ble_eq_true rfl, fun ae nae => ⟨ae, i, j, rfl, by omega, by omega, by omega, by omega, upd_same, fun dd H4 ndd nda e1 e2 k4 => ⟨rfl, dd, _, e1, e2, by rw [upd_ne nda] at ndd; exact ndd, ?_⟩⟩⟩
          rw [upd_ne nda] at ndd
          have nHd : H dd = none := by
            cases e : H dd with
            | none => rfl
            | some o => rw [s35 _ _ e] at ndd; cases ndd
          refine qb i j ⟨⟨bs, hbs, hb, okj⟩, ok⟩ dd _ nHd (fun c o e => ?_) upd_same
          have e3 := s35 _ _ e
          have h1 : c ≠ dd := ne_of_none e3 ndd
          have h2 : c ≠ ae := ne_of_none e3 nae
          rw [upd_ne h1, del_ne h2]
          exact k4 c o h2 (by rw [upd_ne h2]; exact e3)
      · rintro σ H2 ⟨x3, x4, rfl, s3, okj⟩
        refine ⟨_, _, _, _, rfl, s3, fun i' hi' bs' hbs' b' hb' => ?_⟩
        by_cases z : i' = i
        · subst z
          obtain rfl : bs = bs' := Option.some.inj (hbs.symm.trans hbs')
          obtain ⟨j', hj', e⟩ := List.getElem_of_mem hb'
          have := okj j' (by rw [lvs]; exact hj')
          rw [List.getElem?_eq_getElem hj', e] at this
          exact Option.some.inj this
        · exact ok i' (by omega) bs' hbs' b' hb'
    · rintro σ H1 ⟨x1, x2, x3, x4, rfl, s1, ok⟩
      walk_at "kp"
      exact qg (fun i bs h => ok i (by rw [lts]; exact (List.getElem?_eq_some_iff.mp h).1) bs h) H1 s1

/-! ### the kinds, all pairs -/
def spKinds : Sp := fun vs H Q _ => vs = [] ∧ ∀ p H', H p = none → Same H H' → H' p = some (.lst kindsV) → Q (.ref p) H'
abbrev sKinds : Stmt := topS 23
theorem scKinds : FnScope [] [] (defScope sKinds) := ⟨rfl, rfl, rfl, by decide +kernel, rfl, by decide +kernel, by decide +kernel⟩
theorem ok_kinds (At : FnAt K mg "_law_kinds" sKinds []) : OkF P w K mg base CX0 1 "_law_kinds" [] spKinds := At.ok fun f fd F => by
  refine F.ok scKinds (fun vs H Q E h => ?_) (fun cdv A outer s H vs Q E hr h => ?_)
  · obtain ⟨rfl, _⟩ := h
    rfl
  · obtain ⟨rfl, q⟩ := h
    refine ⟨_, (pss_one (ps_ret (pe_lst (pa_cons pe_str (pa_cons pe_str (pa_cons pe_str (pa_cons pe_str pa_nil))))))), ?_⟩
    walk_at "kp"
    intro p H1 np s1 hp
    try walk_at "kp"
    exact q p H1 np s1 hp

/-! ### names of fences, as the laws make them -/
def spFName : Sp := fun vs H Q _ => ∃ n : Int, vs = [.int n] ∧ 0 ≤ n ∧ ∀ z H', Same H H' → fenceB z = true → z ≠ ("full" : Str) → Q (.str z) H'
abbrev sFName : Stmt := topS 24
theorem scFName : FnScope ["number", "letters", "rest", "word", "k"] ["number"] (defScope sFName) := ⟨rfl, rfl, rfl, by decide +kernel, rfl, by decide +kernel, by decide +kernel⟩
def WordAt (H0 : Hp) (n : Int) (i : Nat) (σ : S) (H' : Hp) : Prop := ∃ (x4 : Option V) (rest : Int) (z : Str), σ = [some (.int n), some (.str lettersS), some (.int rest), some (.str z), x4] ∧ Same H0 H' ∧ 0 ≤ rest ∧ z.length = i ∧ z.cps.toList.all letB = true
theorem ok_fname (At : FnAt K mg "_law_fence_name" sFName ["number"]) (B : Blt mg) (Okinds : OkF P w K mg base CX0 1 "_law_kinds" [] spKinds) : OkF P w K mg base CX0 2 "_law_fence_name" ["number"] spFName := At.ok fun f fd F => by
  refine F.ok scFName (fun vs H Q E h => ?_) (fun cdv A outer s H vs Q E hr h => ?_)
  · obtain ⟨n, rfl, _⟩ := h
    rfl
  · obtain ⟨n, rfl, n0, q⟩ := h
    refine ⟨_, (pss_cons (ps_set (i := 1) scFName.nd rfl (.inl rfl) pe_str)
      (pss_cons (ps_set (i := 2) scFName.nd rfl (.inl rfl) (pe_op op_fdiv (pv 0) pe_int))
      (pss_cons (ps_set (i := 3) scFName.nd rfl (.inl rfl) pe_str)
      (pss_cons (ps_for PassesOwn.never rfl (pi_range1 rfl B.range (pa_cons (pe_op op_add pe_int (pe_op op_mod (pe_callTy call_intI (by rfl) B.int (by decide +kernel) (pa_cons (pv 0) pa_nil)) pe_int)) pa_nil)) (pg_name (i := 4) scFName.nd rfl (.inl rfl))
        (pss_cons (ps_set (i := 3) scFName.nd rfl (.inl rfl) (pe_op op_add_str (pv 3) (pe_ix ix_str (pv 1) (pe_op op_mod (pe_callTy call_intI (by rfl) B.int (by decide +kernel) (pa_cons (pv 2) pa_nil)) pe_int) (fun _ _ => rfl))))
      (pss_one (ps_set (i := 2) scFName.nd rfl (.inl rfl) (pe_op op_fdiv (pv 2) pe_int)))))
      (Evl.pss_cut (ps_if (PW.pt (pw_or (pt_cmpR (op_in_seqK K rfl) (pv 3) (pe_callO0 Okinds (hr.mono (by decide))) (by rfl)) (pw_or1 (pt_cmpR op_eq (pv 3) pe_str (nomark _)))))
        (pss_one (ps_set (i := 3) scFName.nd rfl (.inl rfl) (pe_op op_add_str pe_str (pe_slice sl_str (pv 3) (po_some pe_int) po_none)))) pss_nil)
      (pss_one (ps_ret (pv 3)))))))), ?_⟩
    walk_at "kp"
    have z1 := Int.emod_nonneg n (show (8 : Int) ≠ 0 by decide)
    have z2 := Int.emod_lt_of_pos n (show (0 : Int) < 8 by decide)
    have el : Str.empty.length = 0 := rfl
    refine raw_r1 (by omega) (by omega) (WordAt H n) ⟨_, _, Str.ofString "", rfl, Same.refl _, Int.ediv_nonneg n0 (by decide), by decide +kernel, by decide +kernel⟩ ?_ ?_
    · rintro k σ H1 hk ⟨x4, rest, z, rfl, s1, r0, hl, ha⟩
      walk_at "kp"
      obtain ⟨c, hc, lc⟩ := lett_get (j := rest % 26) (by omega) (by omega)
      refine ⟨lettersS, _, c, rfl, rfl, (by rw [sizeLine_eq]; decide +kernel), hc, ?_⟩
      have l1 : (⟨#[c]⟩ : Str).length = 1 := rfl
      refine ⟨z, _, rfl, rfl, by rw [sizeLine_eq, l1]; omega, ?_⟩
      walk_at "kp"
      refine ⟨_, _, z ++ ⟨#[c]⟩, rfl, s1, Int.ediv_nonneg r0 (by decide), by rw [Str.length_append, l1, hl], ?_⟩
      show (z.cps ++ #[c]).toList.all letB = true
      rw [Array.toList_append, List.all_append, ha]
      simp [lc]
    · rintro k σ H1 hk ⟨x4, rest, z, rfl, s1, r0, hl, ha⟩
      have h1 : 1 ≤ z.length := by omega
      have h8 : z.length ≤ 8 := by omega
      refine i_cut (fun σ' H' => ∃ z', σ' = [some (.int n), some (.str lettersS), some (.int rest), some (.str z'), x4] ∧ Same H H' ∧ fenceB z' = true ∧ z' ≠ ("full" : Str)) ?_ ?_
      · walk_at "kp"
        refine ⟨rfl, fun p H2 np s2 ep => ?_⟩
        have hcut := cut1_ok h1 h8 ha
        have zl := sizeLine_eq
        refine i_inStrs (l := kinds) (sl_of ep) ?_
        refine ⟨_, rfl, ?_⟩
        have lz : (Str.ofString "z").length = 1 := by decide +kernel
        have lc := cutS_length z (some 1) none
        cases e1 : decide (z ∈ kinds) with
        | true =>
          refine ite_ok rfl ?_
          walk_at "kp"
          exact ⟨_, rfl, 1, rfl, z, rfl, by omega, Str.ofString "z", cutS z (some 1) none, rfl, rfl, by omega, cut1 z, rfl, s1.trans s2, hcut.1, hcut.2⟩
        | false =>
          refine ite_no rfl ?_
          walk_at "kp"
          refine ite2 (fun _ => ?_) (fun hne => ⟨z, rfl, s1.trans s2, fence_ok h1 h8 ha e1, fun h => hne (decide_eq_true h)⟩)
          walk_at "kp"
          exact ⟨_, rfl, 1, rfl, z, rfl, by omega, Str.ofString "z", cutS z (some 1) none, rfl, rfl, by omega, cut1 z, rfl, s1.trans s2, hcut.1, hcut.2⟩
      · rintro σ' H2 ⟨z', rfl, s2, f1, f2⟩
        walk_at "kp"
        exact q z' H2 s2 f1 f2

/-! ### numbers out of draws -/
def spNum (K : PySem.W.Frag) : Sp := fun vs H Q _ => ∃ (a : Addr) (ds : List Int) (t c : Int), vs = [.ref a, .int t, .int c] ∧ SqL K H a (ds.map V.int) ∧ (∀ d ∈ ds, 0 ≤ d ∧ d < 1000) ∧ 0 ≤ t ∧ 0 ≤ c ∧ c ≤ 10 ∧ t + c ≤ ds.length ∧ ds.length ≤ 1000 ∧ ∀ n : Int, 0 ≤ n → Q (.int n) H
abbrev sNum : Stmt := topS 21
theorem scNum : FnScope ["draws", "at", "count", "number", "k"] ["draws", "at", "count"] (defScope sNum) := ⟨rfl, rfl, rfl, by decide +kernel, rfl, by decide +kernel, by decide +kernel⟩
theorem ok_num (At : FnAt K mg "_law_number" sNum ["draws", "at", "count"]) (B : Blt mg) : OkF P w K mg base CX0 1 "_law_number" ["draws", "at", "count"] (spNum K) := At.ok fun f fd F => by
  refine F.ok scNum (fun vs H Q E h => ?_) (fun cdv A outer s H vs Q E hr h => ?_)
  · obtain ⟨a, ds, t, c, rfl, _⟩ := h
    rfl
  · obtain ⟨a, ds, t, c, rfl, hS, hd, t0, c0, c1, htc, hlen, q⟩ := h
    refine ⟨_, (pss_cons (ps_set (i := 3) scNum.nd rfl (.inl rfl) pe_int)
      (pss_cons (ps_for PassesOwn.never rfl (pi_range1 rfl B.range (pa_cons (pv 2) pa_nil)) (pg_name (i := 4) scNum.nd rfl (.inl rfl))
        (pss_one (ps_set (i := 3) scNum.nd rfl (.inl rfl) (pe_op op_add (pe_op op_mul (pv 3) pe_int) (pe_ix (ix_listK K rfl) (pv 0) (pe_op op_add (pv 1) (pv 4)) (fun _ _ => rfl))))))
      (pss_one (ps_ret (pv 3))))), ?_⟩
    walk_at "kp"
    refine raw_r1 c0 (by omega) (fun i σ H' => ∃ (x5 : Option V) (n : Int), σ = [some (.ref a), some (.int t), some (.int c), some (.int n), x5] ∧ H' = H ∧ 0 ≤ n) ⟨_, _, rfl, rfl, by decide⟩ ?_ ?_
    · rintro k σ H1 hk ⟨x5, n, rfl, rfl, n0⟩
      have b := nth_ok (i := Int.toNat (t + (k : Int))) hd
      walk_at "kp"
      exact ⟨_, _, rfl, rfl, by omega⟩
    · rintro k σ H1 hk ⟨x5, n, rfl, rfl, n0⟩
      walk_at "kp"
      exact q n n0
def spIsNum : Sp := fun vs H Q _ => ∃ i : Int, vs = [.int i] ∧ Q (.bl true) H
abbrev sIsNum : Stmt := topS 22
theorem scIsNum : FnScope ["thing"] ["thing"] (defScope sIsNum) := ⟨rfl, rfl, rfl, by decide +kernel, rfl, by decide +kernel, by decide +kernel⟩
theorem ok_isnum (At : FnAt K mg "_law_is_number" sIsNum ["thing"]) (B : Blt mg) : OkQ P w K mg base 1 "_law_is_number" ["thing"] spIsNum := At.okQ fun f fd F => by
  refine okQ F scIsNum (fun {vs H Q E} h => ?_) (fun cdv A outer s H vs Q p hr h => ?_)
  · obtain ⟨i, rfl, _⟩ := h
    rfl
  · obtain ⟨i, rfl, q⟩ := h
    refine ⟨_, (pss_one (ps_ret (pe_and (pe_callB (call_isiKK K rfl) (by rfl) B.isinstance (by decide +kernel) (pa_cons (pv 0) (pa_cons (pe_bltn (v := .ty "int") (by rfl) B.int (by decide +kernel) rfl) pa_nil))) (pe_one (pe_not (pe_callB (call_isiKK K rfl) (by rfl) B.isinstance (by decide +kernel) (pa_cons (pv 0) (pa_cons (pe_bltn (v := .ty "bool") (by rfl) B.bool (by decide +kernel) rfl) pa_nil)))))))), ?_⟩
    walk_at "kp"
    refine i_isi4 rfl (show kitB "int" "int" = some true by decide +kernel) ?_
    walk_at "kp"
    refine i_isi4 rfl (show kitB "int" "bool" = some false by decide +kernel) ?_
    walk_at "kp"
    exact q

/-! ### items that are no instructions -/
def spBadI : Sp := fun vs H Q _ => ∃ n : Int, vs = [.int n] ∧ ∀ v H', Same H H' → InstrV H' v false → FrL H H' v → Q v H'
abbrev sBadI : Stmt := topS 25
theorem scBadI : FnScope ["number", "menu"] ["number"] (defScope sBadI) := ⟨rfl, rfl, rfl, by decide +kernel, rfl, by decide +kernel, by decide +kernel⟩
theorem ok_badi (At : FnAt K mg "_law_bad_item" sBadI ["number"]) (B : Blt mg) : OkF P w K mg base CX0 1 "_law_bad_item" ["number"] spBadI := At.ok fun f fd F => by
  refine F.ok scBadI (fun vs H Q E h => ?_) (fun cdv A outer s H vs Q E hr h => ?_)
  · obtain ⟨n, rfl, _⟩ := h
    rfl
  · obtain ⟨n, rfl, q⟩ := h
    refine ⟨_, (pss_cons (ps_set (i := 1) scBadI.nd rfl (.inl rfl) (pe_lst (pa_cons (pe_lst (pa_cons pe_str (pa_cons pe_int pa_nil))) (pa_cons (pe_tup pa_nil) (pa_cons (pe_tup (pa_cons pe_str pa_nil)) (pa_cons (pe_tup (pa_cons pe_str (pa_cons pe_int pa_nil))) (pa_cons (pe_tup (pa_cons pe_str (pa_cons pe_int pa_nil))) (pa_cons (pe_tup (pa_cons pe_str (pa_cons (pe_un un_neg pe_int) pa_nil))) (pa_cons (pe_tup (pa_cons pe_str (pa_cons pe_bl pa_nil))) (pa_cons (pe_tup (pa_cons pe_str (pa_cons pe_int pa_nil))) pa_nil))))))))))
      (pss_cons (ps_set (i := 1) scBadI.nd rfl (.inl rfl) (pe_op op_cat (pv 1) (pe_lst (pa_cons (pe_tup (pa_cons pe_str (pa_cons pe_int (pa_cons pe_int pa_nil)))) (pa_cons (pe_tup (pa_cons pe_str (pa_cons pe_int (pa_cons (pe_op op_add (pe_op op_pow pe_int pe_int) pe_int) pa_nil)))) (pa_cons (pe_tup (pa_cons pe_str (pa_cons pe_int (pa_cons pe_bl pa_nil)))) (pa_cons (pe_tup (pa_cons pe_str (pa_cons pe_int (pa_cons pe_int pa_nil)))) (pa_cons (pe_tup (pa_cons pe_str (pa_cons pe_int pa_nil))) pa_nil))))))))
      (pss_cons (ps_set (i := 1) scBadI.nd rfl (.inl rfl) (pe_op op_cat (pv 1) (pe_lst (pa_cons (pe_tup (pa_cons pe_str pa_nil)) (pa_cons (pe_tup (pa_cons pe_str pa_nil)) (pa_cons (pe_tup (pa_cons pe_str pa_nil)) (pa_cons (pe_tup (pa_cons pe_str pa_nil)) (pa_cons (pe_tup (pa_cons pe_str pa_nil)) (pa_cons pe_non (pa_cons pe_str (pa_cons pe_int (pa_cons (pe_tup (pa_cons pe_str (pa_cons pe_str pa_nil))) (pa_cons (pe_tup (pa_cons pe_str pa_nil)) pa_nil)))))))))))))
      (pss_cons (ps_set (i := 1) scBadI.nd rfl (.inl rfl) (pe_op op_cat (pv 1) (pe_lst (pa_cons (pe_tup (pa_cons pe_str (pa_cons pe_int (pa_cons pe_str pa_nil)))) (pa_cons (pe_tup (pa_cons pe_str (pa_cons pe_int (pa_cons pe_int pa_nil)))) (pa_cons (pe_tup (pa_cons pe_str (pa_cons pe_bl (pa_cons pe_int pa_nil)))) (pa_cons (pe_tup (pa_cons pe_str (pa_cons pe_int (pa_cons pe_int (pa_cons pe_int pa_nil))))) (pa_cons (pe_tup (pa_cons pe_int pa_nil)) (pa_cons (pe_tup (pa_cons pe_str (pa_cons pe_int (pa_cons pe_int pa_nil)))) pa_nil)))))))))
      (pss_cons (ps_set (i := 1) scBadI.nd rfl (.inl rfl) (pe_op op_cat (pv 1) (pe_lst (pa_cons (pe_tup (pa_cons pe_str (pa_cons pe_int (pa_cons pe_int pa_nil)))) (pa_cons (pe_tup (pa_cons pe_str (pa_cons pe_int pa_nil))) (pa_cons (pe_tup (pa_cons pe_str pa_nil)) (pa_cons (pe_tup (pa_cons pe_non pa_nil)) (pa_cons (pe_tup (pa_cons pe_str (pa_cons pe_int (pa_cons (pe_un un_neg pe_int) pa_nil)))) (pa_cons (pe_tup (pa_cons pe_str (pa_cons pe_non pa_nil))) pa_nil)))))))))
      (pss_one (ps_ret (pe_ix (ix_listK K rfl) (pv 1) (pe_op op_mod (pe_callTy call_intI (by rfl) B.int (by decide +kernel) (pa_cons (pv 0) pa_nil)) pe_int) (fun _ _ => rfl))))))))), ?_⟩
    walk_at "kp"
    intro t0 H1 n1 s1 e1
    walk_at "kp"
    intro t1 H2 n2 s2 e2
    walk_at "kp"
    intro t2 H3 n3 s3 e3
    walk_at "kp"
    intro t3 H4 n4 s4 e4
    walk_at "kp"
    intro t4 H5 n5 s5 e5
    walk_at "kp"
    intro t5 H6 n6 s6 e6
    walk_at "kp"
    intro t6 H7 n7 s7 e7
    walk_at "kp"
    intro t7 H8 n8 s8 e8
    walk_at "kp"
    intro m0 H9 n9 s9 e9
    walk_at "kp"
    intro t8 H10 n10 s10 e10
    walk_at "kp"
    intro t9 H11 n11 s11 e11
    walk_at "kp"
    intro t10 H12 n12 s12 e12
    walk_at "kp"
    intro t11 H13 n13 s13 e13
    walk_at "kp"
    intro t12 H14 n14 s14 e14
    walk_at "kp"
    intro m1 H15 n15 s15 e15
    walk_at "kp"
    intro c1 H16 n16 s16 e16
    walk_at "kp"
    intro t13 H17 n17 s17 e17
    walk_at "kp"
    intro t14 H18 n18 s18 e18
    walk_at "kp"
    intro t15 H19 n19 s19 e19
    walk_at "kp"
    intro t16 H20 n20 s20 e20
    walk_at "kp"
    intro t17 H21 n21 s21 e21
    walk_at "kp"
    intro t21 H22 n22 s22 e22
    walk_at "kp"
    intro t22 H23 n23 s23 e23
    walk_at "kp"
    intro m2 H24 n24 s24 e24
    walk_at "kp"
    intro c2 H25 n25 s25 e25
    walk_at "kp"
    intro t23 H26 n26 s26 e26
    walk_at "kp"
    intro t24 H27 n27 s27 e27
    walk_at "kp"
    intro t25 H28 n28 s28 e28
    walk_at "kp"
    intro t26 H29 n29 s29 e29
    walk_at "kp"
    intro t27 H30 n30 s30 e30
    walk_at "kp"
    intro t28 H31 n31 s31 e31
    walk_at "kp"
    intro m3 H32 n32 s32 e32
    walk_at "kp"
    intro c3 H33 n33 s33 e33
    walk_at "kp"
    intro t29 H34 n34 s34 e34
    walk_at "kp"
    intro t30 H35 n35 s35 e35
    walk_at "kp"
    intro t31 H36 n36 s36 e36
    walk_at "kp"
    intro t32 H37 n37 s37 e37
    walk_at "kp"
    intro t33 H38 n38 s38 e38
    walk_at "kp"
    intro t34 H39 n39 s39 e39
    walk_at "kp"
    intro m4 H40 n40 s40 e40
    walk_at "kp"
    intro c4 H41 n41 s41 e41
    walk_at "kp"
    have r40 : Same H40 H41 := s41
    have r39 : Same H39 H41 := s40.trans r40
    have r38 : Same H38 H41 := s39.trans r39
    have r37 : Same H37 H41 := s38.trans r38
    have r36 : Same H36 H41 := s37.trans r37
    have r35 : Same H35 H41 := s36.trans r36
    have r34 : Same H34 H41 := s35.trans r35
    have r33 : Same H33 H41 := s34.trans r34
    have r32 : Same H32 H41 := s33.trans r33
    have r31 : Same H31 H41 := s32.trans r32
    have r30 : Same H30 H41 := s31.trans r31
    have r29 : Same H29 H41 := s30.trans r30
    have r28 : Same H28 H41 := s29.trans r29
    have r27 : Same H27 H41 := s28.trans r28
    have r26 : Same H26 H41 := s27.trans r27
    have r25 : Same H25 H41 := s26.trans r26
    have r24 : Same H24 H41 := s25.trans r25
    have r23 : Same H23 H41 := s24.trans r24
    have r22 : Same H22 H41 := s23.trans r23
    have r21 : Same H21 H41 := s22.trans r22
    have r20 : Same H20 H41 := s21.trans r21
    have r19 : Same H19 H41 := s20.trans r20
    have r18 : Same H18 H41 := s19.trans r19
    have r17 : Same H17 H41 := s18.trans r18
    have r16 : Same H16 H41 := s17.trans r17
    have r15 : Same H15 H41 := s16.trans r16
    have r14 : Same H14 H41 := s15.trans r15
    have r13 : Same H13 H41 := s14.trans r14
    have r12 : Same H12 H41 := s13.trans r13
    have r11 : Same H11 H41 := s12.trans r12
    have r10 : Same H10 H41 := s11.trans r11
    have r9 : Same H9 H41 := s10.trans r10
    have r8 : Same H8 H41 := s9.trans r9
    have r7 : Same H7 H41 := s8.trans r8
    have r6 : Same H6 H41 := s7.trans r7
    have r5 : Same H5 H41 := s6.trans r6
    have r4 : Same H4 H41 := s5.trans r5
    have r3 : Same H3 H41 := s4.trans r4
    have r2 : Same H2 H41 := s3.trans r3
    have r1 : Same H1 H41 := s2.trans r2
    have r0 : Same H H41 := s1.trans r1
    have z1 := Int.emod_nonneg n (show (35 : Int) ≠ 0 by decide)
    have z2 := Int.emod_lt_of_pos n (show (0 : Int) < 35 by decide)
    obtain ⟨j, hj⟩ := Int.eq_ofNat_of_zero_le z1
    have hj2 : j < 35 := by omega
    have key : ∃ v, ([V.ref t0, V.ref t1, V.ref t2, V.ref t3, V.ref t4, V.ref t5, V.ref t6, V.ref t7] ++ [V.ref t8, V.ref t9, V.ref t10, V.ref t11, V.ref t12] ++ [V.ref t13, V.ref t14, V.ref t15, V.ref t16, V.ref t17, V.non, V.str "full", V.int 5, V.ref t21, V.ref t22] ++ [V.ref t23, V.ref t24, V.ref t25, V.ref t26, V.ref t27, V.ref t28] ++ [V.ref t29, V.ref t30, V.ref t31, V.ref t32, V.ref t33, V.ref t34])[j]? = some v ∧ InstrV H41 v false ∧ FrL H H41 v := by
      match j, hj2 with
      | 0, _ => exact ⟨_, rfl, .lst (r1 _ _ e1) (by decide +kernel), fun t xs e _ => by cases e; exact n1⟩
      | 1, _ => exact ⟨_, rfl, badT' (r2 _ _ e2) (by decide +kernel) (by decide +kernel)⟩
      | 2, _ => exact ⟨_, rfl, badT' (r3 _ _ e3) (by decide +kernel) (by decide +kernel)⟩
      | 3, _ => exact ⟨_, rfl, badT' (r4 _ _ e4) (by decide +kernel) (by decide +kernel)⟩
      | 4, _ => exact ⟨_, rfl, badT' (r5 _ _ e5) (by decide +kernel) (by decide +kernel)⟩
      | 5, _ => exact ⟨_, rfl, badT' (r6 _ _ e6) (by decide +kernel) (by decide +kernel)⟩
      | 6, _ => exact ⟨_, rfl, badT' (r7 _ _ e7) (by decide +kernel) (by decide +kernel)⟩
      | 7, _ => exact ⟨_, rfl, badT' (r8 _ _ e8) (by decide +kernel) (by decide +kernel)⟩
      | 8, _ => exact ⟨_, rfl, badT' (r10 _ _ e10) (by decide +kernel) (by decide +kernel)⟩
      | 9, _ => exact ⟨_, rfl, badT' (r11 _ _ e11) (by decide +kernel) (by decide +kernel)⟩
      | 10, _ => exact ⟨_, rfl, badT' (r12 _ _ e12) (by decide +kernel) (by decide +kernel)⟩
      | 11, _ => exact ⟨_, rfl, badT' (r13 _ _ e13) (by decide +kernel) (by decide +kernel)⟩
      | 12, _ => exact ⟨_, rfl, badT' (r14 _ _ e14) (by decide +kernel) (by decide +kernel)⟩
      | 13, _ => exact ⟨_, rfl, badT' (r17 _ _ e17) (by decide +kernel) (by decide +kernel)⟩
      | 14, _ => exact ⟨_, rfl, badT' (r18 _ _ e18) (by decide +kernel) (by decide +kernel)⟩
      | 15, _ => exact ⟨_, rfl, badT' (r19 _ _ e19) (by decide +kernel) (by decide +kernel)⟩
      | 16, _ => exact ⟨_, rfl, badT' (r20 _ _ e20) (by decide +kernel) (by decide +kernel)⟩
      | 17, _ => exact ⟨_, rfl, badT' (r21 _ _ e21) (by decide +kernel) (by decide +kernel)⟩
      | 18, _ => exact ⟨_, rfl, .scal (by decide +kernel), fun t xs e => nomatch e⟩
      | 19, _ => exact ⟨_, rfl, .scal (by decide +kernel), fun t xs e => nomatch e⟩
      | 20, _ => exact ⟨_, rfl, .scal (by decide +kernel), fun t xs e => nomatch e⟩
      | 21, _ => exact ⟨_, rfl, badT' (r22 _ _ e22) (by decide +kernel) (by decide +kernel)⟩
      | 22, _ => exact ⟨_, rfl, badT' (r23 _ _ e23) (by decide +kernel) (by decide +kernel)⟩
      | 23, _ => exact ⟨_, rfl, badT' (r26 _ _ e26) (by decide +kernel) (by decide +kernel)⟩
      | 24, _ => exact ⟨_, rfl, badT' (r27 _ _ e27) (by decide +kernel) (by decide +kernel)⟩
      | 25, _ => exact ⟨_, rfl, badT' (r28 _ _ e28) (by decide +kernel) (by decide +kernel)⟩
      | 26, _ => exact ⟨_, rfl, badT' (r29 _ _ e29) (by decide +kernel) (by decide +kernel)⟩
      | 27, _ => exact ⟨_, rfl, badT' (r30 _ _ e30) (by decide +kernel) (by decide +kernel)⟩
      | 28, _ => exact ⟨_, rfl, badT' (r31 _ _ e31) (by decide +kernel) (by decide +kernel)⟩
      | 29, _ => exact ⟨_, rfl, badT' (r34 _ _ e34) (by decide +kernel) (by decide +kernel)⟩
      | 30, _ => exact ⟨_, rfl, badT' (r35 _ _ e35) (by decide +kernel) (by decide +kernel)⟩
      | 31, _ => exact ⟨_, rfl, badT' (r36 _ _ e36) (by decide +kernel) (by decide +kernel)⟩
      | 32, _ => exact ⟨_, rfl, badT' (r37 _ _ e37) (by decide +kernel) (by decide +kernel)⟩
      | 33, _ => exact ⟨_, rfl, badT' (r38 _ _ e38) (by decide +kernel) (by decide +kernel)⟩
      | 34, _ => exact ⟨_, rfl, badT' (r39 _ _ e39) (by decide +kernel) (by decide +kernel)⟩
      | j + 35, h => exact absurd h (by omega)
    obtain ⟨v, hv, bv, fr⟩ := key
    refine i_ixL (sl_of e41) (at_of (j := j) hj hv) ?_
    exact q v H41 r0 bv fr

/-! ### valid instructions -/
def spValid : Sp := fun vs H Q _ => ∃ d m n : Int, vs = [.int d, .int m, .int n] ∧ 0 ≤ d ∧ 0 ≤ m ∧ 0 ≤ n ∧ ∀ v H', Same H H' → InstrV H' v true → Q v H'
abbrev sValid : Stmt := topS 26
theorem scValid : FnScope ["draw", "more", "number", "style", "spot"] ["draw", "more", "number"] (defScope sValid) := ⟨rfl, rfl, rfl, by decide +kernel, rfl, by decide +kernel, by decide +kernel⟩
theorem ok_valid (At : FnAt K mg "_law_valid_item" sValid ["draw", "more", "number"]) (B : Blt mg) (Ofname : OkF P w K mg base CX0 2 "_law_fence_name" ["number"] spFName) : OkF P w K mg base CX0 3 "_law_valid_item" ["draw", "more", "number"] spValid := At.ok fun f fd F => by
  refine F.ok scValid (fun vs H Q E h => ?_) (fun cdv A outer s H vs Q E hr h => ?_)
  · obtain ⟨d, m, n, rfl, _⟩ := h
    rfl
  · obtain ⟨d, m, n, rfl, d0, m0, n0, q⟩ := h
    refine ⟨_, (pss_cons (ps_set (i := 3) scValid.nd rfl (.inl rfl) (pe_op op_mod (pv 0) pe_int))
      (pss_cons (ps_set (i := 4) scValid.nd rfl (.inl rfl) (pe_ix (ix_listK K rfl) (pe_lst (pa_cons pe_int (pa_cons pe_int (pa_cons (pe_op op_mod (pe_op op_fdiv (pv 0) pe_int) pe_int) pa_nil)))) (pe_op op_mod (pe_op op_fdiv (pv 0) pe_int) pe_int) (fun _ _ => rfl)))
      (pss_cons (ps_if (pt_cmpR op_eq (pv 3) pe_int (nomark _))
        (pss_one (ps_ret (pe_tup (pa_cons (pe_callO Ofname (hr.mono (by decide)) (pa_cons (pv 2) pa_nil)) pa_nil)))) pss_nil)
      (pss_cons (ps_if (pt_cmpR op_eq (pv 3) pe_int (nomark _))
        (pss_one (ps_ret (pe_tup (pa_cons (pe_ix (ix_listK K rfl) (pe_lst (pa_cons pe_str (pa_cons pe_str pa_nil))) (pe_op op_mod (pe_op op_fdiv (pv 0) pe_int) pe_int) (fun _ _ => rfl)) (pa_cons (pv 4) (pa_cons (pe_ix (ix_listK K rfl) (pe_lst (pa_cons pe_int (pa_cons (pe_op op_pow pe_int pe_int) (pa_cons (pe_op op_add pe_int (pe_op op_mod (pv 2) (pe_op op_pow pe_int pe_int))) pa_nil)))) (pe_op op_mod (pv 1) pe_int) (fun _ _ => rfl)) pa_nil)))))) pss_nil)
      (pss_one (ps_ret (pe_tup (pa_cons (pe_ix (ix_listK K rfl) (pe_lst (pa_cons pe_str (pa_cons pe_str pa_nil))) (pe_op op_mod (pe_op op_fdiv (pv 0) pe_int) pe_int) (fun _ _ => rfl)) (pa_cons (pv 4) pa_nil))))))))), ?_⟩
    walk_at "kp"
    intro l1 H1 nl1 s1 el1
    walk_at "kp"
    have a1 : 0 ≤ d / 40 := Int.ediv_nonneg d0 (by decide)
    have a2 : 0 ≤ d / 4 := Int.ediv_nonneg d0 (by decide)
    have a3 : 0 ≤ d / 120 := Int.ediv_nonneg d0 (by decide)
    obtain ⟨sp, hsp, p0, p9⟩ := three_at (a := 0) (b := 9) (c := d / 4 % 10) (j := d / 40 % 3) (by omega) (by omega) (Pq := fun s => 0 ≤ s ∧ s ≤ 9) ⟨by omega, by omega⟩ ⟨by omega, by omega⟩ ⟨by omega, by omega⟩
    refine i_ixL (sl_of el1) hsp ?_
    walk_at "kp"
    refine ite2 (fun _ => ?_) (fun _ => ?_)
    · walk_at "kp"
      refine ⟨n, rfl, n0, fun z H2 s2 hz _ => ?_⟩
      walk_at "kp"
      intro t H3 nt s3 et
      walk_at "kp"
      exact q _ H3 (s1.trans (s2.trans s3)) (okT et (by simp [scal_short (fence_len hz) (fence_str hz)]) (instr_fence hz))
    · walk_at "kp"
      refine ite2 (fun _ => ?_) (fun _ => ?_)
      · walk_at "kp"
        intro l2 H2 nl2 s2 el2
        walk_at "kp"
        obtain ⟨x, hx, xw⟩ := two_at (a := "write") (b := "release") (j := d / 120 % 2) (by omega) (by omega)
        refine i_ixL (sl_of el2) hx ?_
        walk_at "kp"
        intro l3 H3 nl3 s3 el3
        walk_at "kp"
        obtain ⟨u, hu2, u1, ub⟩ := three_at (a := 1) (b := 10 ^ 9) (c := 1 + n % 10 ^ 9) (j := m % 3) (by omega) (by omega) (Pq := fun u => 1 ≤ u ∧ u ≤ 1000000000) ⟨by decide, by decide⟩ ⟨by decide, by decide⟩ ⟨by omega, by omega⟩
        refine i_ixL (sl_of el3) hu2 ?_
        walk_at "kp"
        intro t H4 nt s4 et
        walk_at "kp"
        have lx : ∀ x ∈ (["write", "release"] : List Str), scal4 (.str x) = true := by decide +kernel
        exact q _ H4 (s1.trans (s2.trans (s3.trans s4))) (okT et (by rw [List.all_cons, lx x xw]; rfl) (instr_write xw p0 p9 u1 ub))
      · walk_at "kp"
        intro l2 H2 nl2 s2 el2
        walk_at "kp"
        obtain ⟨x, hx, xw⟩ := two_at (a := "read") (b := "acquire") (j := d / 120 % 2) (by omega) (by omega)
        refine i_ixL (sl_of el2) hx ?_
        walk_at "kp"
        intro t H3 nt s3 et
        walk_at "kp"
        have lx : ∀ x ∈ (["read", "acquire"] : List Str), scal4 (.str x) = true := by decide +kernel
        exact q _ H3 (s1.trans (s2.trans s3)) (okT et (by rw [List.all_cons, lx x xw]; rfl) (instr_read xw p0 p9))

/-! ### the draws -/
def spDraws (K : PySem.W.Frag) : Sp := fun vs H Q _ => ∃ (a : Addr) (ns : List Int) (k c : Int), vs = [.ref a, .int k, .int c] ∧ SqL K H a (ns.map V.int) ∧ 0 ≤ k ∧ k ≤ 100 ∧ 0 ≤ c ∧ c ≤ 1000 ∧
  ∀ (ds : List Int) H' p, (ds.length : Int) = c → (∀ d ∈ ds, 0 ≤ d ∧ d < 1000) → Same H H' → H p = none → H' p = some (.lst (ds.map V.int)) → Q (.ref p) H'
abbrev sDraws : Stmt := topS 20
theorem scDraws : FnScope ["script", "k", "count", "cell", "number", "great", "mixed", "out", "n"] ["script", "k", "count"] (defScope sDraws) := ⟨rfl, rfl, rfl, by decide +kernel, rfl, by decide +kernel, by decide +kernel⟩
/-- what the names hold in the loop -/
def DrawsAt (H : Hp) (a p : Addr) (k c : Int) (i : Nat) (σ : S) (H' : Hp) : Prop := ∃ (x3 x8 : Option V) (number mixed : Int) (g : Bool) (ds : List Int), σ = [some (.ref a), some (.int k), some (.int c), x3, some (.int number), some (.bl g), some (.int mixed), some (.ref p), x8] ∧
  0 ≤ mixed ∧ mixed < 10000000000 ∧ ds.length = i ∧ (∀ d ∈ ds, 0 ≤ d ∧ d < 1000) ∧ Same H H' ∧ H p = none ∧ H' p = some (.lst (ds.map V.int))
theorem ok_draws (At : FnAt K mg "_law_draws" sDraws ["script", "k", "count"]) (B : Blt mg) : OkF P w K mg base CX0 1 "_law_draws" ["script", "k", "count"] (spDraws K) := At.ok fun f fd F => by
  refine F.ok scDraws (fun vs H Q E h => ?_) (fun cdv A outer s H vs Q E hr h => ?_)
  · obtain ⟨a, ns, k, c, rfl, _⟩ := h
    rfl
  · obtain ⟨a, ns, k, c, rfl, hS, k0, k1, c0, c1, q⟩ := h
    refine ⟨_, (pss_cons (ps_set (i := 3) scDraws.nd rfl (.inl rfl) pe_int)
      (Evl.pss_cut (ps_if (pt_cmpR op_lt (pv 1) (pe_callB (call_lenLK K rfl) (by rfl) B.len (by decide +kernel) (pa_cons (pv 0) pa_nil)) (nomark _))
        (pss_one (ps_set (i := 3) scDraws.nd rfl (.inl rfl) (pe_callTy call_intI (by rfl) B.int (by decide +kernel) (pa_cons (pe_ix (ix_listK K rfl) (pv 0) (pv 1) (fun _ _ => rfl)) pa_nil)))) pss_nil)
      (pss_cons (ps_set (i := 4) scDraws.nd rfl (.inl rfl) (pe_op op_add (pe_op op_mul pe_int (pe_callB call_absI (by rfl) B.abs (by decide +kernel) (pa_cons (pv 3) pa_nil))) (pe_callTy call_intB (by rfl) B.int (by decide +kernel) (pa_cons (pe_cmpR op_lt (pv 3) pe_int (nomark _)) pa_nil))))
      (pss_cons (ps_set (i := 5) scDraws.nd rfl (.inl rfl) (pe_cmpR op_ge (pv 4) (pe_op op_mul pe_int (pe_op op_pow pe_int pe_int)) (nomark _)))
      (pss_cons (ps_set (i := 6) scDraws.nd rfl (.inl rfl) (pe_op op_add (pe_op op_add (pe_op op_mod (pe_callTy call_intI (by rfl) B.int (by decide +kernel) (pa_cons (pv 4) pa_nil)) pe_int) (pe_op op_mul pe_int (pv 1))) pe_int))
      (pss_cons (ps_set (i := 7) scDraws.nd rfl (.inl rfl) (pe_lst pa_nil))
      (pss_cons (ps_for PassesOwn.never rfl (pi_range1 rfl B.range (pa_cons (pv 2) pa_nil)) (pg_name (i := 8) scDraws.nd rfl (.inl rfl))
        (pss_one (ps_if (PW.pt (pw_and (pt_val (pv 5)) (pw_and1 (pt_cmpR op_gt (pv 4) pe_int (nomark _)))))
        (pss_cons (ps_expr (pe_bm PySem.F.plainAttrs_list PySem.F.slot_list_append PySem.F.type_list_append mt_append (pv 7) (pa_cons (pe_op op_mod (pe_callTy call_intI (by rfl) B.int (by decide +kernel) (pa_cons (pv 4) pa_nil)) pe_int) pa_nil)))
      (pss_one (ps_set (i := 4) scDraws.nd rfl (.inl rfl) (pe_op op_fdiv (pv 4) pe_int)))) (pss_cons (ps_set (i := 6) scDraws.nd rfl (.inl rfl) (pe_op op_mod (pe_callTy call_intI (by rfl) B.int (by decide +kernel) (pa_cons (pe_op op_add (pe_op op_mul (pv 6) pe_int) (pe_op op_mul pe_int (pv 8))) pa_nil)) pe_int))
      (pss_one (ps_expr (pe_bm PySem.F.plainAttrs_list PySem.F.slot_list_append PySem.F.type_list_append mt_append (pv 7) (pa_cons (pe_op op_mod (pe_callTy call_intI (by rfl) B.int (by decide +kernel) (pa_cons (pe_op op_fdiv (pv 6) pe_int) pa_nil)) pe_int) pa_nil))))))))
      (pss_one (ps_ret (pv 7)))))))))), ?_⟩
    walk_at "kp"
    refine i_cut (fun σ' H' => H' = H ∧ ∃ cell, σ' = [some (.ref a), some (.int k), some (.int c), some (.int cell), none, none, none, none, none]) ?_ ?_
    · walk_at "kp"
      refine ite2 (fun h => ?_) (fun h => ⟨rfl, _, rfl⟩)
      walk_at "kp"
      have hk : k.toNat < ns.length := by have := of_decide_eq_true h; rw [List.length_map] at this; omega
      refine i_ixL hS (at_of (j := k.toNat) (by omega) (by rw [List.getElem?_map, List.getElem?_eq_getElem hk]; rfl)) ?_
      walk_at "kp"
      exact ⟨rfl, _, rfl⟩
    · rintro σ' H' ⟨rfl, cell, rfl⟩
      walk_at "kp"
      intro p H1 np s1 hp
      try walk_at "kp"
      have e0 := Int.emod_nonneg (2 * (if cell < 0 then -cell else cell) + (if decide (cell < 0) = true then 1 else 0)) (show (2147483629 : Int) ≠ 0 by decide)
      have e1 := Int.emod_lt_of_pos (2 * (if cell < 0 then -cell else cell) + (if decide (cell < 0) = true then 1 else 0)) (show (0 : Int) < 2147483629 by decide)
      refine raw_r1 c0 (by omega) (DrawsAt H' a p k c) ⟨_, _, _, _, _, [], rfl, by omega, by omega, rfl, (fun _ h => nomatch h), s1, np, hp⟩ ?_ ?_
      · rintro n σ H2 hn ⟨x3, x8, number, mixed, g, ds, rfl, m0, m1, hl, hd, sm, np, hp2⟩
        have hlen : ds.length < 1000 := by omega
        have grow : ∀ (v : Int) (ds' : List Int), ds' = ds ++ [v] → 0 ≤ v → v < 1000 → ds'.length = n + 1 ∧ (∀ d ∈ ds', 0 ≤ d ∧ d < 1000) ∧ ds'.map V.int = ds.map V.int ++ [V.int v] := by
          rintro v ds' rfl h0 h1
          refine ⟨by simp [hl], fun d hm => ?_, by simp⟩
          rcases List.mem_append.mp hm with h | h
          · exact hd d h
          · rw [List.mem_singleton.mp h]; exact ⟨h0, h1⟩
        have step1 : ∀ (number' : Int) (x8 : Option V), DrawsAt H' a p k c (n + 1) [some (.ref a), some (.int k), some (.int c), x3, some (.int number'), some (.bl g), some (.int mixed), some (.ref p), x8] (upd H2 p (.lst (ds.map V.int ++ [V.int (number % 1000)]))) := fun number' x8 => by
          obtain ⟨g1, g2, g3⟩ := grow (number % 1000) _ rfl (by omega) (by omega)
          exact ⟨_, _, _, _, _, _, rfl, m0, m1, g1, g2, same_own np sm, np, by rw [upd_same, g3]⟩
        have step2 : ∀ x8 : Option V, DrawsAt H' a p k c (n + 1) [some (.ref a), some (.int k), some (.int c), x3, some (.int number), some (.bl g), some (.int ((mixed * 48271 + 69621 * n) % 2147483647)), some (.ref p), x8] (upd H2 p (.lst (ds.map V.int ++ [V.int (((mixed * 48271 + 69621 * n) % 2147483647) / 11 % 1000)]))) := fun x8 => by
          obtain ⟨g1, g2, g3⟩ := grow (((mixed * 48271 + 69621 * n) % 2147483647) / 11 % 1000) _ rfl (by omega) (by omega)
          exact ⟨_, _, _, _, _, _, rfl, by omega, by omega, g1, g2, same_own np sm, np, by rw [upd_same, g3]⟩
        cases g with
        | false =>
          walk_at "kp"
          exact step2 _
        | true =>
          walk_at "kp"
          refine ite2 (fun _ => ?_) (fun _ => ?_)
          · walk_at "kp"
            exact step1 _ _
          · walk_at "kp"
            exact step2 _
      · rintro n σ H2 hn ⟨x3, x8, number, mixed, g, ds, rfl, m0, m1, hl, hd, sm, np, hp2⟩
        walk_at "kp"
        exact q ds H2 p (by omega) hd sm np hp2

/-! ### where the law is told that a program is not valid -/
/-- which errors are which -/
structure ErrPr (K : PySem.W.Frag) (mg : Str → Option Value) (CO CI CU CN : Addr) : Prop where
  gI : mg "InvalidProgram" = some (.ref CI)
  gU : mg "UnknownName" = some (.ref CU)
  gN : mg "NotALine" = some (.ref CN)
  gO : mg "OrderError" = some (.ref CO)
  te : PySem.W.exmOne K (.ref CI) (.ref CI) = some true
  kU : PySem.W.kitOne K (.ref CI) (.ref CU) = some false
  kN : PySem.W.kitOne K (.ref CI) (.ref CN) = some false
  kV : PySem.W.kitOne K (.ref CI) (.type "ValueError") = some true
  kO : PySem.W.kitOne K (.ref CI) (.ref CO) = some true
  X : XfC K CI
  D : ExcD K CI
  nT : PySem.W.findIn K (.ref CI) "thread" = some none
  nI : PySem.W.findIn K (.ref CI) "index" = some none
def spPlace (K : PySem.W.Frag) : Sp := fun vs H Q _ => ∃ a rows, vs = [.ref a] ∧ ProgV K H a rows ∧ rows.length ≤ 900 ∧ (∀ (i : Nat) bs, rows[i]? = some bs → bs.length ≤ 900) ∧ (AllOk rows → ∀ H', Same H H' → Q (.str "good") H') ∧
  ∀ i j : Nat, FirstBad rows i j → ∀ t H', H t = none → Same H H' → H' t = some (.tup [.int i, .int j]) → Q (.ref t) H'
abbrev sPlace : Stmt := topS 27
theorem scPlace : FnScope ["program", "told", "e"] ["program"] (defScope sPlace) := ⟨rfl, rfl, rfl, by decide +kernel, rfl, by decide +kernel, by decide +kernel⟩
theorem ok_place {CO CI CU CN : Addr} (At : FnAt K mg "_law_place_of" sPlace ["program"]) (B : Blt mg) (EP : ErrPr K mg CO CI CU CN) (Och : OkF P w K mg base (L2.CX P w) 5 "check_program" ["program"] (spCheck K CI))
    (Oisn : OkQ P w K mg base 1 "_law_is_number" ["thing"] spIsNum) : OkF P w K mg base CX0 7 "_law_place_of" ["program"] (spPlace K) := At.ok fun f fd F => by
  refine F.ok scPlace (fun vs H Q E h => ?_) (fun cdv A outer s H vs Q E hr h => ?_)
  · obtain ⟨a, rows, rfl, _⟩ := h
    rfl
  · obtain ⟨a, rows, rfl, pv1, hl, hl2, qg, qb⟩ := h
    refine ⟨_, (pss_cons (ps_try_as (i := 2) (Wout := fun _ _ _ _ => False) rfl rfl scPlace.nd rfl rfl ⟨rfl, by decide, Or.inl EP.gI⟩ takes0
   (fun W pn xe tk _ => (pss_cons (ps_set (i := 1) scPlace.nd rfl (.inl rfl) (pe_callSO Och (hr.mono (by decide)) (fun σ => passAt tk σ) (pa_cons (pv 0) pa_nil)))
      (pss_one (ps_if (pt_cmpR op_isN (pv 1) pe_non (nomark _))
        (pss_one (ps_ret pe_str)) pss_nil))))
   (fun a oe cls d pn hz hf => (pss_one (ps_if (PW.pt (pw_and (pt_val (pe_callB (call_isED hz hf) (by rfl) B.isinstance (by decide +kernel) (pa_cons (pv 2) (pa_cons (pe_bltn (v := .ty "ValueError") (by rfl) B.ValueError (by decide +kernel) rfl) pa_nil)))) (pw_and (pt_val (pe_callB (call_isED hz hf) (by rfl) B.isinstance (by decide +kernel) (pa_cons (pv 2) (pa_cons (pe_glob (v := .ref CO) (by rfl) EP.gO (by rfl)) pa_nil)))) (pw_and1 (pt_not (pt_val (pe_callB (call_isED hz hf) (by rfl) B.isinstance (by decide +kernel) (pa_cons (pv 2) (pa_cons (pe_glob (v := .ref CU) (by rfl) EP.gU (by rfl)) pa_nil)))))))))
        (pss_one (ps_if (PW.pt (pw_and (pt_not (pt_val (pe_callB (call_isED hz hf) (by rfl) B.isinstance (by decide +kernel) (pa_cons (pv 2) (pa_cons (pe_glob (v := .ref CN) (by rfl) EP.gN (by rfl)) pa_nil))))) (pw_and (pt_val (pe_callQ Oisn (hotRoom (hr.mono (by decide))) List.mem_cons_self (pa_cons (pe_xf EP.X EP.nT hz hf (pv 2)) pa_nil))) (pw_and1 (pt_val (pe_callQ Oisn (hotRoom (hr.mono (by decide))) List.mem_cons_self (pa_cons (pe_xf EP.X EP.nI hz hf (pv 2)) pa_nil)))))))
        (pss_one (ps_ret (pe_tup (pa_cons (pe_xf EP.X EP.nT hz hf (pv 2)) (pa_cons (pe_xf EP.X EP.nI hz hf (pv 2)) pa_nil))))) pss_nil)) pss_nil))))
      (pss_one (ps_ret pe_str))), ?_⟩
    walk_at "kp"
    refine ⟨a, rows, rfl, pv1, hl, hl2, fun ok H1 s1 => ?_, fun i j fb d H1 nd s1 ed => ?_⟩
    · walk_at "kp"
      refine ⟨rfl, ?_⟩
      walk_at "kp"
      exact qg ok H1 s1
    · refine ⟨true, EP.te, fun _ ae nae => ?_, fun z => Bool.noConfusion z⟩
      walk_at "kp"
      refine i_isED ed EP.D (.ty _) EP.kV ?_
      walk_at "kp"
      refine i_isED ed EP.D (.own _) EP.kO ?_
      walk_at "kp"
      refine i_isED ed EP.D (.own _) EP.kU ?_
      walk_at "kp"
      refine ite_ok rfl ?_
      walk_at "kp"
      refine i_isED ed EP.D (.own _) EP.kN ?_
      walk_at "kp"
      refine ite_ok rfl ?_
      walk_at "kp"
      refine ⟨rfl, rfl, d, _, .int i, rfl, ed, rfl, ?_⟩
      walk_at "kp"
      refine ⟨i, rfl, ?_⟩
      walk_at "kp"
      refine ⟨rfl, rfl, d, _, .int j, rfl, ed, rfl, ?_⟩
      walk_at "kp"
      refine ⟨j, rfl, ?_⟩
      walk_at "kp"
      refine ⟨rfl, rfl, d, _, .int i, rfl, ed, rfl, ?_⟩
      walk_at "kp"
      refine ⟨rfl, rfl, d, _, .int j, rfl, ed, rfl, ?_⟩
      walk_at "kp"
      intro t H2 nt s2 et
      walk_at "kp"
      exact qb i j fb t H2 (s1.free nt) (s1.trans s2) et

/-! ### the law -/
def spLaw (K : PySem.W.Frag) : Sp := fun vs H Q _ => ∃ (a : Addr) (ns : List Int), vs = [.ref a] ∧ SqL K H a (ns.map V.int) ∧ ns.length ≤ 63 ∧ ∀ H', Q (.bl true) H'
abbrev sLaw : Stmt := topS 28
theorem scLaw : FnScope ["script", "draws", "k", "program", "item", "thread", "places", "t", "place", "moved", "row", "shift", "bad", "due", "passed"] ["script"] (defScope sLaw) := ⟨rfl, rfl, rfl, by decide +kernel, rfl, by decide +kernel, by decide +kernel⟩
theorem ok_law {f : Addr} {fd : FuncData} (F : Fun K "law" "law" sLaw f fd) (B : Blt mg) (Odraws : OkF P w K mg base CX0 1 "_law_draws" ["script", "k", "count"] (spDraws K)) (Ovalid : OkF P w K mg base CX0 3 "_law_valid_item" ["draw", "more", "number"] spValid)
    (Onum : OkF P w K mg base CX0 1 "_law_number" ["draws", "at", "count"] (spNum K)) (Obadi : OkF P w K mg base CX0 1 "_law_bad_item" ["number"] spBadI) (Oplace : OkF P w K mg base CX0 7 "_law_place_of" ["program"] (spPlace K)) : FnOk P w K mg base CX0 10 f fd ["script"] (spLaw K) := by
  refine F.ok scLaw (fun vs H Q E h => ?_) (fun cdv A outer s H vs Q E hr h => ?_)
  · obtain ⟨a, ns, rfl, _⟩ := h
    rfl
  · obtain ⟨a, ns, rfl, hS, hlen, q⟩ := h
    refine ⟨_, (pss_cons (ps_set (i := 1) scLaw.nd rfl (.inl rfl) (pe_callO Odraws (hr.mono (by decide)) (pa_cons (pv 0) (pa_cons pe_int (pa_cons pe_int pa_nil)))))
      (pss_cons (ps_setLc (i := 3) (own := [("k", 2)]) (g := gName 2) (tt := tYes) rfl scLaw.nd rfl rfl (sw_true rfl rfl rfl (by decide +kernel)) (by exact (pi_range1 rfl B.range (pa_cons (pe_op op_add pe_int (pe_op op_mod (pe_ix (ix_listK K rfl) (pv 1) pe_int (fun _ _ => rfl)) pe_int)) pa_nil))) (blkOk_by (N := ["script", "draws", "k", "program", "item", "thread", "places", "t", "place", "moved", "row", "shift", "bad", "due", "passed"]) (sc := (defScope sLaw)) (by decide +kernel)) (fun _ _ _ _ _ => pg_name (i := 2) scLaw.nd rfl (Or.inl rfl)) (fun _ _ _ _ _ => by exact pts_nil) (fun _ _ _ _ _ => by exact (pe_lst pa_nil)))
      (pss_cons (ps_for PassesOwn.never rfl (pi_range1 rfl B.range (pa_cons (pe_op op_mod (pe_ix (ix_listK K rfl) (pv 1) pe_int (fun _ _ => rfl)) pe_int) pa_nil)) (pg_name (i := 2) scLaw.nd rfl (.inl rfl))
        (pss_cons (ps_set (i := 4) scLaw.nd rfl (.inl rfl) (pe_callO Ovalid (hr.mono (by decide)) (pa_cons (pe_ix (ix_listK K rfl) (pv 1) (pe_op op_add pe_int (pe_op op_mul pe_int (pv 2))) (fun _ _ => rfl)) (pa_cons (pe_ix (ix_listK K rfl) (pv 1) (pe_op op_add pe_int (pe_op op_mul pe_int (pv 2))) (fun _ _ => rfl)) (pa_cons (pe_callO Onum (hr.mono (by decide)) (pa_cons (pv 1) (pa_cons (pe_op op_add pe_int (pe_op op_mul pe_int (pv 2))) (pa_cons pe_int pa_nil)))) pa_nil)))))
      (pss_one (ps_expr (pe_bm PySem.F.plainAttrs_list PySem.F.slot_list_append PySem.F.type_list_append mt_append (pe_ix (ix_listK K rfl) (pv 3) (pe_op op_mod (pe_ix (ix_listK K rfl) (pv 1) (pe_op op_add pe_int (pe_op op_mul pe_int (pv 2))) (fun _ _ => rfl)) (pe_callB (call_lenLK K rfl) (by rfl) B.len (by decide +kernel) (pa_cons (pv 3) pa_nil))) (fun _ _ => rfl)) (pa_cons (pv 4) pa_nil))))))
      (pss_cons (ps_if (pt_cmpR (op_neDK K rfl hr.units) (pe_callO Oplace (hr.mono (by decide)) (pa_cons (pe_lc (own := [("thread", 5)]) (g := gName 5) (tt := tYes) rfl scLaw.nd (by exact (pi_list (pv 3))) (blkOk_by (N := ["script", "draws", "k", "program", "item", "thread", "places", "t", "place", "moved", "row", "shift", "bad", "due", "passed"]) (sc := (defScope sLaw)) (by decide +kernel)) (fun _ _ _ _ _ => pg_name (i := 5) scLaw.nd rfl (Or.inl rfl)) (fun _ _ _ _ _ => by exact pts_nil) (fun _ _ _ _ _ => by exact (pe_callTy (call_listLK K rfl) (by rfl) B.list (by decide +kernel) (pa_cons (pv 5) pa_nil)))) pa_nil)) pe_str (nomark _))
        (pss_one (ps_ret pe_bl)) pss_nil)
      (pss_cons (ps_set (i := 6) scLaw.nd rfl (.inl rfl) (pe_lst pa_nil))
      (pss_cons (ps_for PassesOwn.never rfl (pi_range1 rfl B.range (pa_cons (pe_op op_add pe_int (pe_op op_mod (pe_ix (ix_listK K rfl) (pv 1) pe_int (fun _ _ => rfl)) pe_int)) pa_nil)) (pg_name (i := 2) scLaw.nd rfl (.inl rfl))
        (pss_cons (ps_set (i := 7) scLaw.nd rfl (.inl rfl) (pe_op op_mod (pe_ix (ix_listK K rfl) (pv 1) (pe_op op_add pe_int (pe_op op_mul pe_int (pv 2))) (fun _ _ => rfl)) (pe_callB (call_lenLK K rfl) (by rfl) B.len (by decide +kernel) (pa_cons (pv 3) pa_nil))))
      (pss_cons (ps_set (i := 8) scLaw.nd rfl (.inl rfl) (pe_op op_mod (pe_ix (ix_listK K rfl) (pv 1) (pe_op op_add pe_int (pe_op op_mul pe_int (pv 2))) (fun _ _ => rfl)) (pe_op op_add (pe_callB (call_lenLK K rfl) (by rfl) B.len (by decide +kernel) (pa_cons (pe_ix (ix_listK K rfl) (pv 3) (pv 7) (fun _ _ => rfl)) pa_nil)) pe_int)))
      (pss_cons (ps_set (i := 9) scLaw.nd rfl (.inl rfl) (pe_lst pa_nil))
      (pss_cons (ps_for PassesOwn.never rfl (pi_list (pv 6)) (pg_name (i := 10) scLaw.nd rfl (.inl rfl))
        (pss_cons (ps_set (i := 11) scLaw.nd rfl (.inl rfl) (pe_callTy call_intB (by rfl) B.int (by decide +kernel) (pa_cons (pe_and (pe_cmpR op_eq (pe_ix (ix_tupK K rfl) (pv 10) pe_int (fun _ _ => rfl)) (pv 7) (nomark _)) (pe_one (pe_cmpR op_ge (pe_ix (ix_tupK K rfl) (pv 10) pe_int (fun _ _ => rfl)) (pv 8) (nomark _)))) pa_nil)))
      (pss_one (ps_expr (pe_bm PySem.F.plainAttrs_list PySem.F.slot_list_append PySem.F.type_list_append mt_append (pv 9) (pa_cons (pe_tup (pa_cons (pe_ix (ix_tupK K rfl) (pv 10) pe_int (fun _ _ => rfl)) (pa_cons (pe_op op_add (pe_ix (ix_tupK K rfl) (pv 10) pe_int (fun _ _ => rfl)) (pv 11)) pa_nil))) pa_nil))))))
      (pss_cons (ps_set (i := 6) scLaw.nd rfl (.inl rfl) (pe_op op_cat (pv 9) (pe_lst (pa_cons (pe_tup (pa_cons (pv 7) (pa_cons (pv 8) pa_nil))) pa_nil))))
      (pss_cons (ps_set (i := 5) scLaw.nd rfl (.inl rfl) (pe_ix (ix_listK K rfl) (pv 3) (pv 7) (fun _ _ => rfl)))
      (pss_cons (ps_set (i := 12) scLaw.nd rfl (.inl rfl) (pe_callO Obadi (hr.mono (by decide)) (pa_cons (pe_op op_add (pe_ix (ix_listK K rfl) (pv 1) pe_int (fun _ _ => rfl)) (pe_ix (ix_listK K rfl) (pv 1) (pe_op op_add pe_int (pv 2)) (fun _ _ => rfl))) pa_nil)))
      (pss_one (ps_asg (pe_op op_cat (pe_op op_cat (pe_slice (sl_listK K rfl) (pv 5) po_none (po_some (pv 8))) (pe_lst (pa_cons (pv 12) pa_nil))) (pe_slice (sl_listK K rfl) (pv 5) (po_some (pv 8)) po_none)) (pg_sub (pv 3) (pv 7) set_list)))))))))))
      (pss_cons (ps_set (i := 13) scLaw.nd rfl (.inl rfl) (pe_ix (ix_listK K rfl) (pv 6) pe_int (fun _ _ => rfl)))
      (pss_cons (ps_for PassesOwn.never rfl (pi_list (pv 6)) (pg_name (i := 10) scLaw.nd rfl (.inl rfl))
        (pss_one (ps_if (pt_cmpR (op_ltT (Nat.lt_of_le_of_lt (Nat.le_add_right _ _) (hu1 hr))) (pv 10) (pv 13) (nomark _))
        (pss_one (ps_set (i := 13) scLaw.nd rfl (.inl rfl) (pv 10))) pss_nil)))
      (pss_cons (ps_setLc (i := 14) (own := [("thread", 5)]) (g := gName 5) (tt := tYes) rfl scLaw.nd rfl rfl (sw_true rfl rfl rfl (by decide +kernel)) (by exact (pi_list (pv 3))) (blkOk_by (N := ["script", "draws", "k", "program", "item", "thread", "places", "t", "place", "moved", "row", "shift", "bad", "due", "passed"]) (sc := (defScope sLaw)) (by decide +kernel)) (fun _ _ _ _ _ => pg_name (i := 5) scLaw.nd rfl (Or.inl rfl)) (fun _ _ _ _ _ => by exact pts_nil) (fun _ _ _ _ _ => by exact (pe_callTy (call_listLK K rfl) (by rfl) B.list (by decide +kernel) (pa_cons (pv 5) pa_nil))))
      (pss_one (ps_ret (pe_and (pe_cmpR (op_eqDK K rfl hr.units) (pe_callO Oplace (hr.mono (by decide)) (pa_cons (pv 14) pa_nil)) (pv 13) (nomark _)) (pe_one (pe_cmpR (op_eqDK K rfl hr.units) (pv 14) (pv 3) (nomark _))))))))))))))), ?_⟩
    walk_at "kp"
    refine ⟨a, ns, 0, 40, rfl, hS, by decide, by decide, by decide, by decide, fun ds H1 d hdl hd s1 nd ed => ?_⟩
    have hdl' : ds.length = 40 := by omega
    have lD : SqL K H1 d (ds.map V.int) := sl_of ed
    walk_at "kp"
    have b0 := nth_ok (i := Int.toNat 0) hd
    have b1 := nth_ok (i := Int.toNat 1) hd
    have b2 := nth_ok (i := Int.toNat 2) hd
    have b7 := nth_ok (i := Int.toNat 7) hd
    refine raw_lcRD (by omega) (by omega) (fun i acc G => ∃ ls : List Addr, acc = ls.map V.ref ∧ ls.length = i ∧ ∀ l ∈ ls, H1 l = none ∧ G l = some (.lst [])) (fun s ⟨ls, e, n, h⟩ => ⟨ls, e, n, fun l hl => ⟨(h l hl).1, s _ _ (h l hl).2⟩⟩) ⟨[], rfl, rfl, fun _ h => nomatch h⟩ ?_ ?_
    · rintro D i acc H2 nD eD hi s2 ⟨ls, rfl, hl, hls⟩ Y N hY hN
      refine ⟨rfl, ?_⟩
      walk_at "kp"
      intro l H3 nl s3 el
      refine hY _ H3 s3 ⟨ls ++ [l], by simp, by simp [hl], fun x hx => ?_⟩
      rcases List.mem_append.mp hx with hx | hx
      · exact ⟨(hls x hx).1, hide_same s3 _ _ (hls x hx).2⟩
      · rw [List.mem_singleton.mp hx]
        exact ⟨s2.free nl, hide_at el fun z => by rw [z, eD] at nl; cases nl⟩
    · rintro p acc H2 np s2 ep ⟨ls, rfl, hll, hls⟩
      have g0 : Gr H1 p 0 ls H2 := ⟨s2, np, ep, fun l hl => (hide_inv (hls l hl).2).1, fun l hl => ⟨(hls l hl).1, [], (hide_inv (hls l hl).2).2, Nat.le_refl _, fun _ h => nomatch h⟩⟩
      have n1 : 1 ≤ ls.length := by omega
      have n4 : ls.length ≤ 4 := by omega
      walk_at "kp"
      refine raw_r1 (by omega) (by omega) (fun k σ H' => ∃ x2 x4, σ = [some (.ref a), some (.ref d), x2, some (.ref p), x4, none, none, none, none, none, none, none, none, none, none] ∧ Gr H1 p k ls H') ⟨_, _, rfl, g0⟩ ?_ ?_
      · rintro k σ H3 hk ⟨x2, x4, rfl, g⟩
        have lD3 : SqL K H3 d (ds.map V.int) := g.sm.seq lD
        have ep3 := g.ep
        have c8 := nth_ok (i := Int.toNat (8 + 3 * (k : Int))) hd
        have c9 := nth_ok (i := Int.toNat (9 + 3 * (k : Int))) hd
        have c10 := nth_ok (i := Int.toNat (10 + 3 * (k : Int))) hd
        walk_at "kp"
        refine ⟨d, ds, _, _, rfl, lD3, hd, by omega, by omega, by omega, by omega, by omega, fun nn n0 => ?_⟩
        walk_at "kp"
        refine ⟨_, _, nn, rfl, c8.1, c9.1, n0, fun v H4 s4 iv => ?_⟩
        have g4 := g.mono s4
        have ep4 := g4.ep
        have lD4 : SqL K H4 d (ds.map V.int) := g4.sm.seq lD
        walk_at "kp"
        obtain ⟨l, hl, lm, _⟩ := at_ref (ls := ls) (j := nth ds (10 + 3 * (k : Int)).toNat % ls.length) (Int.emod_nonneg _ (by omega)) (Int.emod_lt_of_pos _ (by omega))
        obtain ⟨_, vs, el, hvl, hv⟩ := g4.each l lm
        rw [List.length_map]
        refine i_ixL (sl_of ep4) hl ?_
        walk_at "kp"
        exact ⟨_, _, rfl, g4.add lm el hvl hv iv⟩
      · rintro k σ H3 hk ⟨x2, x4, rfl, g⟩
        have ep3 := g.ep
        walk_at "kp"
        have g8 : Gr H1 p 8 ls H3 := ⟨g.sm, g.np, g.ep, g.pn, fun l hl => let ⟨x, vs, e, n, i⟩ := g.each l hl; ⟨x, vs, e, by omega, i⟩⟩
        obtain ⟨rows0, rw0, ok0⟩ := rowsG_ok (G := hide p H3) (ls := ls) fun l hl => by
          obtain ⟨_, vs, e, n, i⟩ := g8.each l hl
          exact ⟨vs, hide_at e (g.pn l hl), n, fun v hv => InstrV.tk (H := H3) (fun t xs z => hide_at z fun y => by rw [y, ep3] at z; cases z) (i v hv) rfl⟩
        have rl0 := paired_len rw0
        refine raw_lcLD (sl_of ep3) (by rw [List.length_map]; omega) (fun i acc G => Paired (CopyV (hide p H3) G) acc (ls.take i)) (fun s h => paired_mono (fun v l ⟨c, vs, e1, e2, e3⟩ => ⟨c, vs, e1, s _ _ e2, e3⟩) h) .nil ?_ ?_
        · rintro D i x acc H4 nD eD hx s4 pr Y N hY hN
          rw [List.getElem?_map] at hx
          obtain ⟨l, hl, rfl⟩ := Option.map_eq_some_iff.mp hx
          obtain ⟨_, vs, el, _⟩ := g8.each l (List.mem_of_getElem? hl)
          have el4 := s4 _ _ el
          refine ⟨rfl, ?_⟩
          walk_at "kp"
          intro c H5 nc s5 ec
          refine hY _ H5 s5 ?_
          show Paired _ _ (ls.take (i + 1))
          rw [take_snoc hl]
          exact paired_snoc (paired_mono (fun v l ⟨c, vs, e1, e2, e3⟩ => ⟨c, vs, e1, hide_same s5 _ _ e2, e3⟩) pr) ⟨c, vs, rfl, hide_at ec (fun z => by rw [z, eD] at nc; cases nc), hide_at el (g.pn l (List.mem_of_getElem? hl))⟩
        · rintro D acc H4 nD s4 eD pr
          rw [List.length_map, List.take_length] at pr
          walk_at "kp"
          refine ⟨D, rows0, rfl, ⟨acc, sl_of eD, copies_prog (hide_le.trans s4) hide_le pr rw0⟩, by omega, fun i bs e => by have := (ok0 bs (List.mem_of_getElem? e)).1; omega, fun _ H5 s5 => ?_, fun i j fb => (not_all_first (fun i bs e => (ok0 bs (List.mem_of_getElem? e)).2) fb).elim⟩
          walk_at "kp"
          refine i_neStr (by decide +kernel) (by decide +kernel) ?_
          walk_at "kp"
          refine ite_no (by decide) ?_
          walk_at "kp"
          intro q0 H6 nq s6 eq
          have lD6 : SqL K H6 d (ds.map V.int) := (((g.sm.trans s4).trans s5).trans s6).seq lD
          walk_at "kp"
          obtain ⟨rows, gs⟩ := (g8.mono (s4.trans s5)).start s6 nq eq
          generalize hN : ls.length = N at *
          refine raw_r1 (by omega) (by omega) (fun k σ H' => ∃ x2 x4 x5 x7 x8 x9 x10 x11 x12 q ls' rows' pvs rs, σ = [some (.ref a), some (.ref d), x2, some (.ref p), x4, x5, some (.ref q), x7, x8, x9, x10, x11, x12, none, none] ∧ ls'.length = N ∧ Gs H1 p q ls' rows' pvs rs N k H') ⟨_, _, _, _, _, _, _, _, _, q0, ls, rows, [], [], rfl, hN, gs⟩ ?_ ?_
          · rintro k σ H7 hk ⟨x2, x4, x5, x7, x8, x9, x10, x11, x12, q1, ls, rows, pvs, rs, rfl, ll, gs⟩
            have lD7 : SqL K H7 d (ds.map V.int) := (gs.sm.trans hide_le).seq lD
            have ep7 := gs.ep
            have eq7 := hide_le _ _ gs.eq
            have lpv := paired_len gs.pl
            have cnt := gs.cnt
            have c3 := nth_ok (i := Int.toNat (3 + 2 * (k : Int))) hd
            have c4 := nth_ok (i := Int.toNat (4 + 2 * (k : Int))) hd
            have c36 := nth_ok (i := Int.toNat (36 + (k : Int))) hd
            have len1 := gs.len
            walk_at "kp"
            simp only [List.length_map]
            have t0 := Int.emod_nonneg (nth ds (3 + 2 * (k : Int)).toNat) (show (ls.length : Int) ≠ 0 by omega)
            have t1 := Int.emod_lt_of_pos (nth ds (3 + 2 * (k : Int)).toNat) (show (0 : Int) < (ls.length : Int) by omega)
            generalize nth ds (3 + 2 * (k : Int)).toNat % (ls.length : Int) = tt at *
            obtain ⟨tn, rfl⟩ := Int.eq_ofNat_of_zero_le t0
            obtain ⟨l, hl, lm, hl2⟩ := at_ref (ls := ls) t0 t1
            have hl2 : ls[tn]? = some l := hl2
            obtain ⟨bs, hbs, vs, el, iv⟩ := paired_get gs.rw hl2
            have el7 := hide_le _ _ el
            have lvs := paired_len iv
            have sm := gs.small bs (List.mem_of_getElem? hbs)
            refine i_ixL (sl_of ep7) hl ?_
            walk_at "kp"
            have p0 := Int.emod_nonneg (nth ds (4 + 2 * (k : Int)).toNat) (show ((vs.length : Int) + 1) ≠ 0 by omega)
            have p1 := Int.emod_lt_of_pos (nth ds (4 + 2 * (k : Int)).toNat) (show (0 : Int) < (vs.length : Int) + 1 by omega)
            generalize nth ds (4 + 2 * (k : Int)).toNat % ((vs.length : Int) + 1) = pp at *
            obtain ⟨pn, rfl⟩ := Int.eq_ofNat_of_zero_le p0
            have hpn : pn ≤ vs.length := by omega
            intro m H8 nm s8 em
            walk_at "kp"
            refine raw_fl (sl_of (s8 _ _ eq7)) (fun i σ H' => ∃ x10 x11 mvs, σ = [some (.ref a), some (.ref d), some (.int k), some (.ref p), x4, x5, some (.ref q1), some (.int tn), some (.int pn), some (.ref m), x10, x11, x12, none, none] ∧ Same H7 H' ∧ H' m = some (.lst mvs) ∧ Paired (PlaceV H') mvs ((rs.take i).map (shift tn pn))) ⟨_, _, [], rfl, s8, em, .nil⟩ (fun i σ H' _ ⟨_, _, _, _, s', _⟩ => sl_of (s' _ _ eq7)) ?_ ?_
            · rintro i x σ H9 hx ⟨x10, x11, mvs, rfl, s9, em9, pm⟩
              obtain ⟨r, hr, pvr⟩ := paired_get gs.pl hx
              obtain ⟨r1, r2⟩ := r
              obtain ⟨tq, rfl, etq⟩ := pvr
              have et9 := s9 _ _ etq
              have il : i < rs.length := (List.getElem?_eq_some_iff.mp hr).1
              have lmv : mvs.length = i := by rw [paired_len pm, List.length_map, List.length_take]; omega
              walk_at "kp"
              refine i_ixT (st_of et9) (atI_nat (j := 0) rfl) ?_
              walk_at "kp"
              by_cases hh : r1 = tn
              · subst hh
                refine ite_ok (by simp) ?_
                walk_at "kp"
                refine i_ixT (st_of et9) (atI_nat (j := 1) rfl) ?_
                walk_at "kp"
                refine i_ixT (st_of et9) (atI_nat (j := 0) rfl) ?_
                walk_at "kp"
                refine i_ixT (st_of et9) (atI_nat (j := 1) rfl) ?_
                walk_at "kp"
                intro tm H10 nt s10 et
                have em10 := s10 _ _ em9
                walk_at "kp"
                have tk := tk_upd (o' := .lst (mvs ++ [.ref tm])) em10 fun xs z => nomatch z
                refine ⟨_, _, _, rfl, same_own nm (s9.trans s10), upd_same, ?_⟩
                rw [take_snoc hr, List.map_append]
                exact paired_snoc (paired_mono (fun _ _ z => (z.tk (Same.tk s10)).tk tk) pm) ⟨tm, rfl, tk _ _ (by rw [et]; unfold shift; by_cases h2 : pn ≤ r2 <;> simp [h2])⟩
              · refine ite_no (decide_eq_false (by show ¬ ((r1 : Int) = tn); omega)) ?_
                walk_at "kp"
                refine i_ixT (st_of et9) (atI_nat (j := 0) rfl) ?_
                walk_at "kp"
                refine i_ixT (st_of et9) (atI_nat (j := 1) rfl) ?_
                walk_at "kp"
                intro tm H10 nt s10 et
                have em10 := s10 _ _ em9
                walk_at "kp"
                have tk := tk_upd (o' := .lst (mvs ++ [.ref tm])) em10 fun xs z => nomatch z
                refine ⟨_, _, _, rfl, same_own nm (s9.trans s10), upd_same, ?_⟩
                rw [take_snoc hr, List.map_append]
                exact paired_snoc (paired_mono (fun _ _ z => (z.tk (Same.tk s10)).tk tk) pm) ⟨tm, rfl, tk _ _ (by rw [et]; unfold shift; simp [hh])⟩
            · rintro σ H9 ⟨x10, x11, mvs, rfl, s9, em9, pm⟩
              rw [lpv, List.take_length] at pm
              have lmv : mvs.length = k := by rw [paired_len pm, List.length_map]; omega
              have sm9 := s9
              walk_at "kp"
              intro tq H10 ntq s10 etq
              walk_at "kp"
              intro lq H11 nlq s11 elq
              walk_at "kp"
              intro q2 H12 nq2 s12 eq2
              have k12 : Same H7 H12 := s9.trans (s10.trans (s11.trans s12))
              have ep12 := k12 _ _ ep7
              have lD12 : SqL K H12 d (ds.map V.int) := k12.seq lD7
              walk_at "kp"
              refine i_ixL (sl_of ep12) hl ?_
              walk_at "kp"
              refine ⟨_, rfl, fun v H13 s13 bv fr => ?_⟩
              have el13 := s13 _ _ (k12 _ _ el7)
              have ep13 := s13 _ _ ep12
              walk_at "kp"
              refine raw_slTo (sl_of el13) p0 (by omega) fun z1 H14 nz1 s14 ez1 => ?_
              have ltm : (vs.take pn).length = pn := by rw [List.length_take, Nat.min_eq_left hpn]
              walk_at "kp"
              intro z2 H15 nz2 s15 ez2
              walk_at "kp"
              refine i_catL (s15 _ _ ez1) ez2 (by show (vs.take pn).length + 1 ≤ 1000; omega) fun z3 H16 nz3 s16 ez3 => ?_
              have k16 : Same H13 H16 := s14.trans (s15.trans s16)
              walk_at "kp"
              refine raw_slFrom (sl_of (k16 _ _ el13)) p0 (by omega) fun z4 H17 nz4 s17 ez4 => ?_
              walk_at "kp"
              refine i_catL (s17 _ _ ez3) ez4 (by rw [List.length_append, List.length_drop]; show (vs.take pn).length + 1 + _ ≤ 1000; omega) fun z5 H18 nz5 s18 ez5 => ?_
              have k18 : Same H13 H18 := k16.trans (s17.trans s18)
              have k718 : Same H7 H18 := k12.trans (s13.trans k18)
              walk_at "kp"
              refine ⟨p, _, _, tn, rfl, rfl, k18 _ _ ep13, ?_, ?_⟩
              · rw [List.length_map]
                exact ixN_nat (by omega)
              · refine ⟨_, _, _, _, _, _, _, _, _, q2, _, _, mvs ++ [.ref tq], _, rfl, by rw [List.length_set]; exact ll, gs.put (q' := q2) (c := z5) (l := l) (vs := vs) (v := v) k718 hbs hl2 el iv hpn ?_ ez5 (bv.mono k18) (fr.mono bv k12 k18) ((s9.trans (s10.trans s11)).free nq2) (s13.trans k18 _ _ eq2) ?_⟩
                · exact (k12.trans (s13.trans (k16.trans s17))).free nz5
                · have k918 := s10.trans (s11.trans (s12.trans (s13.trans k18)))
                  exact paired_snoc (paired_mono (fun _ _ z => z.tk (Same.tk k918)) pm) ⟨tq, rfl, (s11.trans (s12.trans (s13.trans k18))) _ _ etq⟩
          · rintro k σ H7 hk ⟨x2, x4, x5, x7, x8, x9, x10, x11, x12, q1, ls, rows, pvs, rs, rfl, ll, gs⟩
            have lD7 : SqL K H7 d (ds.map V.int) := (gs.sm.trans hide_le).seq lD
            have ep7 := gs.ep
            have eq7 := hide_le _ _ gs.eq
            have lpv := paired_len gs.pl
            have cnt := gs.cnt
            walk_at "kp"
            have k1 : 0 < pvs.length := by omega
            obtain ⟨r0, hr0, pv0⟩ := paired_get gs.pl (List.getElem?_eq_getElem k1)
            refine i_ixL (sl_of eq7) (atI_nat (j := 0) (List.getElem?_eq_getElem k1)) ?_
            walk_at "kp"
            refine raw_fl (sl_of eq7) (fun i σ H' => ∃ x10 v r, σ = [some (.ref a), some (.ref d), x2, some (.ref p), x4, x5, some (.ref q1), x7, x8, x9, x10, x11, x12, some v, none] ∧ H' = H7 ∧ PlaceV H7 v r ∧ r ∈ rs ∧ ∀ r' ∈ rs.take i, ¬ ltPl r' r) ⟨_, _, r0, rfl, rfl, pv0, List.mem_of_getElem? hr0, fun _ h => nomatch h⟩ (fun i σ H' _ ⟨_, _, _, _, e, _⟩ => by rw [e]; exact sl_of eq7) ?_ ?_
            · rintro i x σ H8 hx ⟨x10, v, r, rfl, rfl, pv8, hr8, least⟩
              obtain ⟨r', hr', pvr⟩ := paired_get gs.pl hx
              obtain ⟨tx, rfl, etx⟩ := id pvr
              obtain ⟨tv, rfl, etv⟩ := id pv8
              have rm := List.mem_of_getElem? hr'
              walk_at "kp"
              refine ⟨tx, tv, [(r'.1 : Int), (r'.2 : Int)], [(r.1 : Int), (r.2 : Int)], rfl, rfl, st_of etx, st_of etv, ?_⟩
              rw [lex_pl]
              walk_at "kp"
              refine ite2 (fun h => ?_) (fun h => ?_)
              · have h := of_decide_eq_true h
                walk_at "kp"
                refine ⟨_, _, r', rfl, rfl, pvr, rm, fun r2 h2 h3 => ?_⟩
                rw [take_snoc hr'] at h2
                rcases List.mem_append.mp h2 with h2 | h2
                · exact least r2 h2 (ltPl_trans h3 h)
                · rw [List.mem_singleton.mp h2] at h3; exact ltPl_irrefl h3
              · have h : ¬ ltPl r' r := by simpa using h
                walk_at "kp"
                refine ⟨_, _, r, rfl, rfl, pv8, hr8, fun r2 h2 => ?_⟩
                rw [take_snoc hr'] at h2
                rcases List.mem_append.mp h2 with h2 | h2
                · exact least r2 h2
                · rw [List.mem_singleton.mp h2]; exact h
            · rintro σ H8 ⟨x10, v, r, rfl, rfl, pv8, hr8, least⟩
              rw [lpv, List.take_length] at least
              walk_at "kp"
              refine raw_lcLD (sl_of ep7) (by rw [List.length_map]; omega) (fun i acc G => Paired (CopyV (hide p H8) G) acc (ls.take i)) (fun s h => paired_mono (fun v l ⟨c, vs, e1, e2, e3⟩ => ⟨c, vs, e1, s _ _ e2, e3⟩) h) .nil ?_ ?_
              · rintro D i x acc H9 nD eD hx s9 pr Y N hY hN
                rw [List.getElem?_map] at hx
                obtain ⟨l, hl, rfl⟩ := Option.map_eq_some_iff.mp hx
                obtain ⟨bs, hbs, vs, el, _⟩ := paired_get gs.rw hl
                have el4 := s9 _ _ (hide_le _ _ el)
                refine ⟨rfl, ?_⟩
                walk_at "kp"
                intro c H10 nc s10 ec
                refine hY _ H10 s10 ?_
                show Paired _ _ (ls.take (i + 1))
                rw [take_snoc hl]
                exact paired_snoc (paired_mono (fun v l ⟨c, vs, e1, e2, e3⟩ => ⟨c, vs, e1, hide_same s10 _ _ e2, e3⟩) pr) ⟨c, vs, rfl, hide_at ec (fun z => by rw [z, eD] at nc; cases nc), el⟩
              · rintro D acc H9 nD s9 eD pr
                rw [List.length_map, List.take_length] at pr
                walk_at "kp"
                have fb := first_bad gs.bad hr8 least
                refine ⟨D, rows, rfl, ⟨acc, sl_of eD, copies_prog (hide_le.trans s9) hide_le pr gs.rw⟩, by have := gs.len; omega, fun i bs e => by have := gs.small bs (List.mem_of_getElem? e); omega, fun ok => (not_all_first ok fb).elim, fun i j fb2 t H10 nt s10 et => ?_⟩
                obtain ⟨rfl, rfl⟩ := first_uniq fb fb2
                have k810 := s9.trans s10
                walk_at "kp"
                refine i_eqSame (place_dp (r := r) ⟨t, rfl, et⟩) (place_dp (pv8.tk (Same.tk k810))) (place_lay r) ?_
                walk_at "kp"
                obtain ⟨dd, d1, d2, d3⟩ := copies_dp (K := K) (H := H10) (hide_le.trans k810) (hide_le.trans s10) pr gs.rw
                refine i_eqSame (d := .list dd) (.lst (sl_of (s10 _ _ eD)) d1) (.lst (sl_of (k810 _ _ ep7)) d2) ⟨(Lay.list d3).lay, Nat.le_trans (Lay.list d3).dep (by decide)⟩ ?_
                exact q H10

end
theorem all_mk {l : PySem.W.OpenLaw} {w : World} {K : PySem.W.Frag} {h : Heap} {mg : Str → Option Value} {fa : Addr} {f_law_draws : Addr} {od_law_draws an_law_draws : Option Addr} {sl_law_draws : Array (Option Value)} {oc_law_draws kV_law_draws dc_law_draws pm_law_draws cd_law_draws ct_law_draws : Value} {f_law_kinds : Addr} {od_law_kinds an_law_kinds : Option Addr} {sl_law_kinds : Array (Option Value)} {oc_law_kinds kV_law_kinds dc_law_kinds pm_law_kinds cd_law_kinds ct_law_kinds : Value} {f_law_number : Addr} {od_law_number an_law_number : Option Addr} {sl_law_number : Array (Option Value)} {oc_law_number kV_law_number dc_law_number pm_law_number cd_law_number ct_law_number : Value} {f_law_is_number : Addr} {od_law_is_number an_law_is_number : Option Addr} {sl_law_is_number : Array (Option Value)} {oc_law_is_number kV_law_is_number dc_law_is_number pm_law_is_number cd_law_is_number ct_law_is_number : Value} {f_law_fence_name : Addr} {od_law_fence_name an_law_fence_name : Option Addr} {sl_law_fence_name : Array (Option Value)} {oc_law_fence_name kV_law_fence_name dc_law_fence_name pm_law_fence_name cd_law_fence_name ct_law_fence_name : Value} {f_law_bad_item : Addr} {od_law_bad_item an_law_bad_item : Option Addr} {sl_law_bad_item : Array (Option Value)} {oc_law_bad_item kV_law_bad_item dc_law_bad_item pm_law_bad_item cd_law_bad_item ct_law_bad_item : Value} {f_law_valid_item : Addr} {od_law_valid_item an_law_valid_item : Option Addr} {sl_law_valid_item : Array (Option Value)} {oc_law_valid_item kV_law_valid_item dc_law_valid_item pm_law_valid_item cd_law_valid_item ct_law_valid_item : Value} {f_law_place_of : Addr} {od_law_place_of an_law_place_of : Option Addr} {sl_law_place_of : Array (Option Value)} {oc_law_place_of kV_law_place_of dc_law_place_of pm_law_place_of cd_law_place_of ct_law_place_of : Value} {f_is_integer : Addr} {od_is_integer an_is_integer : Option Addr} {sl_is_integer : Array (Option Value)} {oc_is_integer kV_is_integer dc_is_integer pm_is_integer cd_is_integer ct_is_integer : Value} {f_is_fence_name : Addr} {od_is_fence_name an_is_fence_name : Option Addr} {sl_is_fence_name : Array (Option Value)} {oc_is_fence_name kV_is_fence_name dc_is_fence_name pm_is_fence_name cd_is_fence_name ct_is_fence_name : Value} {f_is_cell : Addr} {od_is_cell an_is_cell : Option Addr} {sl_is_cell : Array (Option Value)} {oc_is_cell kV_is_cell dc_is_cell pm_is_cell cd_is_cell ct_is_cell : Value} {f_is_value : Addr} {od_is_value an_is_value : Option Addr} {sl_is_value : Array (Option Value)} {oc_is_value kV_is_value dc_is_value pm_is_value cd_is_value ct_is_value : Value} {f_is_instruction : Addr} {od_is_instruction an_is_instruction : Option Addr} {sl_is_instruction : Array (Option Value)} {oc_is_instruction kV_is_instruction dc_is_instruction pm_is_instruction cd_is_instruction ct_is_instruction : Value} {f_check_program : Addr} {od_check_program an_check_program : Option Addr} {sl_check_program : Array (Option Value)} {oc_check_program kV_check_program dc_check_program pm_check_program cd_check_program ct_check_program : Value} {f_law : Addr} {od_law an_law : Option Addr} {sl_law : Array (Option Value)} {oc_law kV_law dc_law pm_law cd_law ct_law : Value} {q_KINDS : Addr} {o_KINDS : Obj} {its_KINDS : Array Value} {n_KINDS : Nat} {q_READS : Addr} {o_READS : Obj} {its_READS : Array Value} {n_READS : Nat} {q_WRITES : Addr} {o_WRITES : Obj} {its_WRITES : Array Value} {n_WRITES : Nat} {t_LAST_CELL : Tok} {t_TOP_VALUE : Tok} {t_LONGEST_NAME : Tok} {t_LETTERS : Tok} {CO CI CU CN : Addr} {nmI qI : Str} {NI : Addr} {bsI : List Value} {snI : List Str} {subI : List Value} {abI : Bool} {colI : Option Bool} {ddI : Option Addr} {m0I m1I m2I m3I m5I : Option Value} {f_IP : Addr} {od_IP an_IP : Option Addr} {sl_IP : Array (Option Value)} {oc_IP kV_IP dc_IP pm_IP cd_IP ct_IP : Value}
    (X : K.In h) (G : h.Ns mainGlobals mg) (hfa : mg "law" = some (.ref fa))
    (z_len : PySem.W.nsIn K mainGlobals "len" = some none)
    (z_int : PySem.W.nsIn K mainGlobals "int" = some none)
    (z_abs : PySem.W.nsIn K mainGlobals "abs" = some none)
    (z_range : PySem.W.nsIn K mainGlobals "range" = some none)
    (z_list : PySem.W.nsIn K mainGlobals "list" = some none)
    (z_tuple : PySem.W.nsIn K mainGlobals "tuple" = some none)
    (z_isinstance : PySem.W.nsIn K mainGlobals "isinstance" = some none)
    (z_iter : PySem.W.nsIn K mainGlobals "iter" = some none)
    (z_all : PySem.W.nsIn K mainGlobals "all" = some none)
    (z_any : PySem.W.nsIn K mainGlobals "any" = some none)
    (z_bool : PySem.W.nsIn K mainGlobals "bool" = some none)
    (z_str : PySem.W.nsIn K mainGlobals "str" = some none)
    (z_sorted : PySem.W.nsIn K mainGlobals "sorted" = some none)
    (z_ValueError : PySem.W.nsIn K mainGlobals "ValueError" = some none)
    (z_dict : PySem.W.nsIn K mainGlobals "dict" = some none)
    (z_enumerate : PySem.W.nsIn K mainGlobals "enumerate" = some none)
    (z_set : PySem.W.nsIn K mainGlobals "set" = some none)
    (a_law_draws : PySem.W.nsIn K mainGlobals "_law_draws" = some (some (.ref f_law_draws)))
    (l_law_draws : K.lookup f_law_draws = some ⟨oc_law_draws, od_law_draws, .func (PySem.W.fnOf "_law_draws" "_law_draws" (defArgs sDraws) (defBody sDraws) (defScope sDraws) .none kV_law_draws dc_law_draws pm_law_draws an_law_draws cd_law_draws ct_law_draws), sl_law_draws⟩)
    (c_law_draws : PySem.W.codeIn K cd_law_draws "_law_draws" = true)
    (k_law_draws : PySem.W.keepIn K (.ref f_law_draws) = true)
    (a_law_kinds : PySem.W.nsIn K mainGlobals "_law_kinds" = some (some (.ref f_law_kinds)))
    (l_law_kinds : K.lookup f_law_kinds = some ⟨oc_law_kinds, od_law_kinds, .func (PySem.W.fnOf "_law_kinds" "_law_kinds" (defArgs sKinds) (defBody sKinds) (defScope sKinds) .none kV_law_kinds dc_law_kinds pm_law_kinds an_law_kinds cd_law_kinds ct_law_kinds), sl_law_kinds⟩)
    (c_law_kinds : PySem.W.codeIn K cd_law_kinds "_law_kinds" = true)
    (k_law_kinds : PySem.W.keepIn K (.ref f_law_kinds) = true)
    (a_law_number : PySem.W.nsIn K mainGlobals "_law_number" = some (some (.ref f_law_number)))
    (l_law_number : K.lookup f_law_number = some ⟨oc_law_number, od_law_number, .func (PySem.W.fnOf "_law_number" "_law_number" (defArgs sNum) (defBody sNum) (defScope sNum) .none kV_law_number dc_law_number pm_law_number an_law_number cd_law_number ct_law_number), sl_law_number⟩)
    (c_law_number : PySem.W.codeIn K cd_law_number "_law_number" = true)
    (k_law_number : PySem.W.keepIn K (.ref f_law_number) = true)
    (a_law_is_number : PySem.W.nsIn K mainGlobals "_law_is_number" = some (some (.ref f_law_is_number)))
    (l_law_is_number : K.lookup f_law_is_number = some ⟨oc_law_is_number, od_law_is_number, .func (PySem.W.fnOf "_law_is_number" "_law_is_number" (defArgs sIsNum) (defBody sIsNum) (defScope sIsNum) .none kV_law_is_number dc_law_is_number pm_law_is_number an_law_is_number cd_law_is_number ct_law_is_number), sl_law_is_number⟩)
    (c_law_is_number : PySem.W.codeIn K cd_law_is_number "_law_is_number" = true)
    (k_law_is_number : PySem.W.keepIn K (.ref f_law_is_number) = true)
    (a_law_fence_name : PySem.W.nsIn K mainGlobals "_law_fence_name" = some (some (.ref f_law_fence_name)))
    (l_law_fence_name : K.lookup f_law_fence_name = some ⟨oc_law_fence_name, od_law_fence_name, .func (PySem.W.fnOf "_law_fence_name" "_law_fence_name" (defArgs sFName) (defBody sFName) (defScope sFName) .none kV_law_fence_name dc_law_fence_name pm_law_fence_name an_law_fence_name cd_law_fence_name ct_law_fence_name), sl_law_fence_name⟩)
    (c_law_fence_name : PySem.W.codeIn K cd_law_fence_name "_law_fence_name" = true)
    (k_law_fence_name : PySem.W.keepIn K (.ref f_law_fence_name) = true)
    (a_law_bad_item : PySem.W.nsIn K mainGlobals "_law_bad_item" = some (some (.ref f_law_bad_item)))
    (l_law_bad_item : K.lookup f_law_bad_item = some ⟨oc_law_bad_item, od_law_bad_item, .func (PySem.W.fnOf "_law_bad_item" "_law_bad_item" (defArgs sBadI) (defBody sBadI) (defScope sBadI) .none kV_law_bad_item dc_law_bad_item pm_law_bad_item an_law_bad_item cd_law_bad_item ct_law_bad_item), sl_law_bad_item⟩)
    (c_law_bad_item : PySem.W.codeIn K cd_law_bad_item "_law_bad_item" = true)
    (k_law_bad_item : PySem.W.keepIn K (.ref f_law_bad_item) = true)
    (a_law_valid_item : PySem.W.nsIn K mainGlobals "_law_valid_item" = some (some (.ref f_law_valid_item)))
    (l_law_valid_item : K.lookup f_law_valid_item = some ⟨oc_law_valid_item, od_law_valid_item, .func (PySem.W.fnOf "_law_valid_item" "_law_valid_item" (defArgs sValid) (defBody sValid) (defScope sValid) .none kV_law_valid_item dc_law_valid_item pm_law_valid_item an_law_valid_item cd_law_valid_item ct_law_valid_item), sl_law_valid_item⟩)
    (c_law_valid_item : PySem.W.codeIn K cd_law_valid_item "_law_valid_item" = true)
    (k_law_valid_item : PySem.W.keepIn K (.ref f_law_valid_item) = true)
    (a_law_place_of : PySem.W.nsIn K mainGlobals "_law_place_of" = some (some (.ref f_law_place_of)))
    (l_law_place_of : K.lookup f_law_place_of = some ⟨oc_law_place_of, od_law_place_of, .func (PySem.W.fnOf "_law_place_of" "_law_place_of" (defArgs sPlace) (defBody sPlace) (defScope sPlace) .none kV_law_place_of dc_law_place_of pm_law_place_of an_law_place_of cd_law_place_of ct_law_place_of), sl_law_place_of⟩)
    (c_law_place_of : PySem.W.codeIn K cd_law_place_of "_law_place_of" = true)
    (k_law_place_of : PySem.W.keepIn K (.ref f_law_place_of) = true)
    (a_is_integer : PySem.W.nsIn K mainGlobals "is_integer" = some (some (.ref f_is_integer)))
    (l_is_integer : K.lookup f_is_integer = some ⟨oc_is_integer, od_is_integer, .func (PySem.W.fnOf "is_integer" "is_integer" (defArgs sInt) (defBody sInt) (defScope sInt) .none kV_is_integer dc_is_integer pm_is_integer an_is_integer cd_is_integer ct_is_integer), sl_is_integer⟩)
    (c_is_integer : PySem.W.codeIn K cd_is_integer "is_integer" = true)
    (k_is_integer : PySem.W.keepIn K (.ref f_is_integer) = true)
    (a_is_fence_name : PySem.W.nsIn K mainGlobals "is_fence_name" = some (some (.ref f_is_fence_name)))
    (l_is_fence_name : K.lookup f_is_fence_name = some ⟨oc_is_fence_name, od_is_fence_name, .func (PySem.W.fnOf "is_fence_name" "is_fence_name" (defArgs sFence) (defBody sFence) (defScope sFence) .none kV_is_fence_name dc_is_fence_name pm_is_fence_name an_is_fence_name cd_is_fence_name ct_is_fence_name), sl_is_fence_name⟩)
    (c_is_fence_name : PySem.W.codeIn K cd_is_fence_name "is_fence_name" = true)
    (k_is_fence_name : PySem.W.keepIn K (.ref f_is_fence_name) = true)
    (a_is_cell : PySem.W.nsIn K mainGlobals "_is_cell" = some (some (.ref f_is_cell)))
    (l_is_cell : K.lookup f_is_cell = some ⟨oc_is_cell, od_is_cell, .func (PySem.W.fnOf "_is_cell" "_is_cell" (defArgs sCell) (defBody sCell) (defScope sCell) .none kV_is_cell dc_is_cell pm_is_cell an_is_cell cd_is_cell ct_is_cell), sl_is_cell⟩)
    (c_is_cell : PySem.W.codeIn K cd_is_cell "_is_cell" = true)
    (k_is_cell : PySem.W.keepIn K (.ref f_is_cell) = true)
    (a_is_value : PySem.W.nsIn K mainGlobals "_is_value" = some (some (.ref f_is_value)))
    (l_is_value : K.lookup f_is_value = some ⟨oc_is_value, od_is_value, .func (PySem.W.fnOf "_is_value" "_is_value" (defArgs sVal) (defBody sVal) (defScope sVal) .none kV_is_value dc_is_value pm_is_value an_is_value cd_is_value ct_is_value), sl_is_value⟩)
    (c_is_value : PySem.W.codeIn K cd_is_value "_is_value" = true)
    (k_is_value : PySem.W.keepIn K (.ref f_is_value) = true)
    (a_is_instruction : PySem.W.nsIn K mainGlobals "_is_instruction" = some (some (.ref f_is_instruction)))
    (l_is_instruction : K.lookup f_is_instruction = some ⟨oc_is_instruction, od_is_instruction, .func (PySem.W.fnOf "_is_instruction" "_is_instruction" (defArgs sInstr) (defBody sInstr) (defScope sInstr) .none kV_is_instruction dc_is_instruction pm_is_instruction an_is_instruction cd_is_instruction ct_is_instruction), sl_is_instruction⟩)
    (c_is_instruction : PySem.W.codeIn K cd_is_instruction "_is_instruction" = true)
    (k_is_instruction : PySem.W.keepIn K (.ref f_is_instruction) = true)
    (a_check_program : PySem.W.nsIn K mainGlobals "check_program" = some (some (.ref f_check_program)))
    (l_check_program : K.lookup f_check_program = some ⟨oc_check_program, od_check_program, .func (PySem.W.fnOf "check_program" "check_program" (defArgs sCheck) (defBody sCheck) (defScope sCheck) .none kV_check_program dc_check_program pm_check_program an_check_program cd_check_program ct_check_program), sl_check_program⟩)
    (c_check_program : PySem.W.codeIn K cd_check_program "check_program" = true)
    (k_check_program : PySem.W.keepIn K (.ref f_check_program) = true)
    (a_law : PySem.W.nsIn K mainGlobals "law" = some (some (.ref f_law)))
    (l_law : K.lookup f_law = some ⟨oc_law, od_law, .func (PySem.W.fnOf "law" "law" (defArgs sLaw) (defBody sLaw) (defScope sLaw) .none kV_law dc_law pm_law an_law cd_law ct_law), sl_law⟩)
    (c_law : PySem.W.codeIn K cd_law "law" = true)
    (k_law : PySem.W.keepIn K (.ref f_law) = true)
    (a_KINDS : PySem.W.nsIn K mainGlobals "KINDS" = some (some (.ref q_KINDS)))
    (l_KINDS : K.lookup q_KINDS = some o_KINDS)
    (y_KINDS : o_KINDS.cls = .type "tuple")
    (d_KINDS : o_KINDS.data = .seq its_KINDS n_KINDS)
    (s_KINDS : its_KINDS.size ≤ sizeLine)
    (v_KINDS : Vals kindsV its_KINDS.toList)
    (a_READS : PySem.W.nsIn K mainGlobals "READS" = some (some (.ref q_READS)))
    (l_READS : K.lookup q_READS = some o_READS)
    (y_READS : o_READS.cls = .type "tuple")
    (d_READS : o_READS.data = .seq its_READS n_READS)
    (s_READS : its_READS.size ≤ sizeLine)
    (v_READS : Vals (readsK.map V.str) its_READS.toList)
    (a_WRITES : PySem.W.nsIn K mainGlobals "WRITES" = some (some (.ref q_WRITES)))
    (l_WRITES : K.lookup q_WRITES = some o_WRITES)
    (y_WRITES : o_WRITES.cls = .type "tuple")
    (d_WRITES : o_WRITES.data = .seq its_WRITES n_WRITES)
    (s_WRITES : its_WRITES.size ≤ sizeLine)
    (v_WRITES : Vals (writesK.map V.str) its_WRITES.toList)
    (a_LAST_CELL : PySem.W.nsIn K mainGlobals "LAST_CELL" = some (some (.int 9 t_LAST_CELL)))
    (a_TOP_VALUE : PySem.W.nsIn K mainGlobals "TOP_VALUE" = some (some (.int 1000000000 t_TOP_VALUE)))
    (a_LONGEST_NAME : PySem.W.nsIn K mainGlobals "LONGEST_NAME" = some (some (.int 8 t_LONGEST_NAME)))
    (a_LETTERS : PySem.W.nsIn K mainGlobals "LETTERS" = some (some (.str lettersS t_LETTERS)))
    (a_OrderError : PySem.W.nsIn K mainGlobals "OrderError" = some (some (.ref CO)))
    (rd_O : PySem.W.readsIn K CO (.type "type") = true)
    (sg_O : PySem.W.specialIn K (.ref CO) "__getattribute__" = some (some (.builtin "type.__getattribute__")))
    (vv_O : PySem.W.findCls K (.ref CO) (.type "type") "__init__" = some (.val (.builtin "ValueError.__init__")))
    (a_InvalidProgram : PySem.W.nsIn K mainGlobals "InvalidProgram" = some (some (.ref CI)))
    (xL_I : K.lookup CI = some (excClassObj nmI qI CI NI bsI [.ref CO, .type "ValueError", .type "Exception", .type "BaseException", .type "object"] true snI subI abI colI ddI m0I m1I m2I m3I m5I "ValueError.__new__"))
    (sa_I : PySem.W.findIn K (.ref CI) "__setattr__" = some (some (.builtin "object.__setattr__")))
    (ga_I : PySem.W.findIn K (.ref CI) "__getattribute__" = some (some (.builtin "BaseException.__getattribute__")))
    (gg_I : PySem.W.findIn K (.ref CI) "__getattr__" = some none)
    (nb_T : PySem.W.findIn K (.ref CI) "thread" = some none)
    (nb_I : PySem.W.findIn K (.ref CI) "index" = some none)
    (eC_I : PySem.W.subIn K (.ref CI) (.type "BaseException") = some true)
    (tC_I : PySem.W.typeIn K (.ref CI) = some (.type "type"))
    (hC_I : PySem.W.hasDictIn K CI = true)
    (kC_I : PySem.W.keepIn K (.ref CI) = true)
    (xc0 : (PySem.W.clsIn K CI).isSome = true)
    (sC_I : PySem.W.subIn K (.ref CI) (.ref CI) = some true)
    (xc1 : PySem.W.findIn K (.ref CI) "__class__" = some (some (.builtin "object.__class__")))
    (xc2 : PySem.W.specialIn K (.builtin "object.__class__") "__get__" = some (some (.builtin "getset_descriptor.__get__")))
    (xc3 : PySem.W.takesIn K (.builtin "object.__class__") = some true)
    (xc4 : PySem.W.mroIn K CI (.type "object") = some true)
    (i_IP : PySem.W.findIn K (.ref CI) "__init__" = some (some (.ref f_IP)))
    (t_IP : PySem.W.typeIn K (.ref f_IP) = some (.type "function"))
    (l_IP : K.lookup f_IP = some ⟨oc_IP, od_IP, .func (PySem.W.fnOf "__init__" "InvalidProgram.__init__" (defArgs sIPr) (defBody sIPr) (defScope sIPr) .none kV_IP dc_IP pm_IP an_IP cd_IP ct_IP), sl_IP⟩)
    (c_IP : PySem.W.codeIn K cd_IP "InvalidProgram.__init__" = true)
    (k_IP : PySem.W.keepIn K (.ref f_IP) = true)
    (a_UnknownName : PySem.W.nsIn K mainGlobals "UnknownName" = some (some (.ref CU)))
    (a_NotALine : PySem.W.nsIn K mainGlobals "NotALine" = some (some (.ref CN)))
    (kIU : PySem.W.kitOne K (.ref CI) (.ref CU) = some false)
    (kIN : PySem.W.kitOne K (.ref CI) (.ref CN) = some false)
    (kIV : PySem.W.kitOne K (.ref CI) (.type "ValueError") = some true)
    (kIO : PySem.W.kitOne K (.ref CI) (.ref CO) = some true)
    : ∃ fd : FuncData, (∀ (s : Shared) (v : Value), BindsTo s fd ⟨[v], []⟩ [("script", v)]) ∧ ∀ base : Heap, K.In base → base.Ns mainGlobals mg → FnOk l.prog w K mg base CX0 10 fa fd ["script"] (spLaw K) := by
  have e := hfa.symm.trans (PySem.W.mg_of X G a_law)
  cases e
  have B : Blt mg := ⟨PySem.W.mg_none_of X G z_len, PySem.W.mg_none_of X G z_int, PySem.W.mg_none_of X G z_abs, PySem.W.mg_none_of X G z_range, PySem.W.mg_none_of X G z_list, PySem.W.mg_none_of X G z_tuple, PySem.W.mg_none_of X G z_isinstance, PySem.W.mg_none_of X G z_iter, PySem.W.mg_none_of X G z_all, PySem.W.mg_none_of X G z_any, PySem.W.mg_none_of X G z_bool, PySem.W.mg_none_of X G z_str, PySem.W.mg_none_of X G z_sorted, PySem.W.mg_none_of X G z_ValueError, PySem.W.mg_none_of X G z_dict, PySem.W.mg_none_of X G z_enumerate, PySem.W.mg_none_of X G z_set⟩
  have At_law_draws : FnAt K mg "_law_draws" sDraws ["script", "k", "count"] := ⟨_, _, PySem.W.mg_of X G a_law_draws, (fun_mk (st := sDraws) l_law_draws c_law_draws k_law_draws).binds (fun _ _ _ _ _ _ us hl => match us, hl with | [_, _, _], _ => rfl), fun_mk (st := sDraws) l_law_draws c_law_draws k_law_draws⟩
  have At_law_kinds : FnAt K mg "_law_kinds" sKinds [] := ⟨_, _, PySem.W.mg_of X G a_law_kinds, (fun_mk (st := sKinds) l_law_kinds c_law_kinds k_law_kinds).binds (fun _ _ _ _ _ _ us hl => match us, hl with | [], _ => rfl), fun_mk (st := sKinds) l_law_kinds c_law_kinds k_law_kinds⟩
  have At_law_number : FnAt K mg "_law_number" sNum ["draws", "at", "count"] := ⟨_, _, PySem.W.mg_of X G a_law_number, (fun_mk (st := sNum) l_law_number c_law_number k_law_number).binds (fun _ _ _ _ _ _ us hl => match us, hl with | [_, _, _], _ => rfl), fun_mk (st := sNum) l_law_number c_law_number k_law_number⟩
  have At_law_is_number : FnAt K mg "_law_is_number" sIsNum ["thing"] := ⟨_, _, PySem.W.mg_of X G a_law_is_number, (fun_mk (st := sIsNum) l_law_is_number c_law_is_number k_law_is_number).binds (fun _ _ _ _ _ _ us hl => match us, hl with | [_], _ => rfl), fun_mk (st := sIsNum) l_law_is_number c_law_is_number k_law_is_number⟩
  have At_law_fence_name : FnAt K mg "_law_fence_name" sFName ["number"] := ⟨_, _, PySem.W.mg_of X G a_law_fence_name, (fun_mk (st := sFName) l_law_fence_name c_law_fence_name k_law_fence_name).binds (fun _ _ _ _ _ _ us hl => match us, hl with | [_], _ => rfl), fun_mk (st := sFName) l_law_fence_name c_law_fence_name k_law_fence_name⟩
  have At_law_bad_item : FnAt K mg "_law_bad_item" sBadI ["number"] := ⟨_, _, PySem.W.mg_of X G a_law_bad_item, (fun_mk (st := sBadI) l_law_bad_item c_law_bad_item k_law_bad_item).binds (fun _ _ _ _ _ _ us hl => match us, hl with | [_], _ => rfl), fun_mk (st := sBadI) l_law_bad_item c_law_bad_item k_law_bad_item⟩
  have At_law_valid_item : FnAt K mg "_law_valid_item" sValid ["draw", "more", "number"] := ⟨_, _, PySem.W.mg_of X G a_law_valid_item, (fun_mk (st := sValid) l_law_valid_item c_law_valid_item k_law_valid_item).binds (fun _ _ _ _ _ _ us hl => match us, hl with | [_, _, _], _ => rfl), fun_mk (st := sValid) l_law_valid_item c_law_valid_item k_law_valid_item⟩
  have At_law_place_of : FnAt K mg "_law_place_of" sPlace ["program"] := ⟨_, _, PySem.W.mg_of X G a_law_place_of, (fun_mk (st := sPlace) l_law_place_of c_law_place_of k_law_place_of).binds (fun _ _ _ _ _ _ us hl => match us, hl with | [_], _ => rfl), fun_mk (st := sPlace) l_law_place_of c_law_place_of k_law_place_of⟩
  have At_is_integer : FnAt K mg "is_integer" sInt ["item"] := ⟨_, _, PySem.W.mg_of X G a_is_integer, (fun_mk (st := sInt) l_is_integer c_is_integer k_is_integer).binds (fun _ _ _ _ _ _ us hl => match us, hl with | [_], _ => rfl), fun_mk (st := sInt) l_is_integer c_is_integer k_is_integer⟩
  have At_is_fence_name : FnAt K mg "is_fence_name" sFence ["word"] := ⟨_, _, PySem.W.mg_of X G a_is_fence_name, (fun_mk (st := sFence) l_is_fence_name c_is_fence_name k_is_fence_name).binds (fun _ _ _ _ _ _ us hl => match us, hl with | [_], _ => rfl), fun_mk (st := sFence) l_is_fence_name c_is_fence_name k_is_fence_name⟩
  have At_is_cell : FnAt K mg "_is_cell" sCell ["item"] := ⟨_, _, PySem.W.mg_of X G a_is_cell, (fun_mk (st := sCell) l_is_cell c_is_cell k_is_cell).binds (fun _ _ _ _ _ _ us hl => match us, hl with | [_], _ => rfl), fun_mk (st := sCell) l_is_cell c_is_cell k_is_cell⟩
  have At_is_value : FnAt K mg "_is_value" sVal ["item"] := ⟨_, _, PySem.W.mg_of X G a_is_value, (fun_mk (st := sVal) l_is_value c_is_value k_is_value).binds (fun _ _ _ _ _ _ us hl => match us, hl with | [_], _ => rfl), fun_mk (st := sVal) l_is_value c_is_value k_is_value⟩
  have At_is_instruction : FnAt K mg "_is_instruction" sInstr ["item"] := ⟨_, _, PySem.W.mg_of X G a_is_instruction, (fun_mk (st := sInstr) l_is_instruction c_is_instruction k_is_instruction).binds (fun _ _ _ _ _ _ us hl => match us, hl with | [_], _ => rfl), fun_mk (st := sInstr) l_is_instruction c_is_instruction k_is_instruction⟩
  have At_check_program : FnAt K mg "check_program" sCheck ["program"] := ⟨_, _, PySem.W.mg_of X G a_check_program, (fun_mk (st := sCheck) l_check_program c_check_program k_check_program).binds (fun _ _ _ _ _ _ us hl => match us, hl with | [_], _ => rfl), fun_mk (st := sCheck) l_check_program c_check_program k_check_program⟩
  have At_law : FnAt K mg "law" sLaw ["script"] := ⟨_, _, PySem.W.mg_of X G a_law, (fun_mk (st := sLaw) l_law c_law k_law).binds (fun _ _ _ _ _ _ us hl => match us, hl with | [_], _ => rfl), fun_mk (st := sLaw) l_law c_law k_law⟩
  have G_KINDS : GlT K mg "KINDS" kindsV := ⟨_, PySem.W.mg_of X G a_KINDS, fun H => .inr ⟨_, _, _, l_KINDS, y_KINDS, d_KINDS, s_KINDS, v_KINDS⟩⟩
  have G_READS : GlT K mg "READS" (readsK.map V.str) := ⟨_, PySem.W.mg_of X G a_READS, fun H => .inr ⟨_, _, _, l_READS, y_READS, d_READS, s_READS, v_READS⟩⟩
  have G_WRITES : GlT K mg "WRITES" (writesK.map V.str) := ⟨_, PySem.W.mg_of X G a_WRITES, fun H => .inr ⟨_, _, _, l_WRITES, y_WRITES, d_WRITES, s_WRITES, v_WRITES⟩⟩
  have G_LAST_CELL : ∃ t, mg "LAST_CELL" = some (.int 9 t) := ⟨_, PySem.W.mg_of X G a_LAST_CELL⟩
  have G_TOP_VALUE : ∃ t, mg "TOP_VALUE" = some (.int 1000000000 t) := ⟨_, PySem.W.mg_of X G a_TOP_VALUE⟩
  have G_LONGEST_NAME : ∃ t, mg "LONGEST_NAME" = some (.int 8 t) := ⟨_, PySem.W.mg_of X G a_LONGEST_NAME⟩
  have G_LETTERS : ∃ t, mg "LETTERS" = some (.str lettersS t) := ⟨_, PySem.W.mg_of X G a_LETTERS⟩
  have TI : OexC K CI := ⟨⟨nmI, qI, NI, bsI, _, snI, subI, abI, colI, ddI, m0I, m1I, m2I, m3I, m5I, xL_I, by show PySem.HandSPX.refsVE PySem.HandSPX.veTail = true; decide +kernel⟩, sa_I, eC_I, tC_I, kC_I⟩
  have EP : ErrPr K mg CO CI CU CN := ⟨PySem.W.mg_of X G a_InvalidProgram, PySem.W.mg_of X G a_UnknownName, PySem.W.mg_of X G a_NotALine, PySem.W.mg_of X G a_OrderError, PySem.W.exm_ref eC_I hC_I tC_I sC_I, kIU, kIN, kIV, kIO, ⟨ga_I, gg_I, eC_I, hC_I⟩, ⟨xc0, ga_I, gg_I, eC_I, xc1, xc2, xc3, xc4⟩, nb_T, nb_I⟩
  exact ⟨PySem.W.fnOf "law" "law" (defArgs sLaw) (defBody sLaw) (defScope sLaw) .none kV_law dc_law pm_law an_law cd_law ct_law, fun s v => .of_eq rfl, fun base _ _ => by have Odraws := ok_draws (P := l.prog) (w := w) (base := base) At_law_draws B; have Okinds := ok_kinds (P := l.prog) (w := w) (base := base) At_law_kinds; have Onum := ok_num (P := l.prog) (w := w) (base := base) At_law_number B; have Oisn := ok_isnum (P := l.prog) (w := w) (base := base) At_law_is_number B; have Ofname := ok_fname (P := l.prog) (w := w) (base := base) At_law_fence_name B Okinds; have Obadi := ok_badi (P := l.prog) (w := w) (base := base) At_law_bad_item B; have Ovalid := ok_valid (P := l.prog) (w := w) (base := base) At_law_valid_item B Ofname; have Oint := ok_int (P := l.prog) (w := w) (base := base) At_is_integer B; have Ocell := ok_cell (P := l.prog) (w := w) (base := base) At_is_cell G_LAST_CELL Oint; have Oval := ok_val (P := l.prog) (w := w) (base := base) At_is_value G_TOP_VALUE Oint; have Ofn := ok_fence (P := l.prog) (w := w) (base := base) At_is_fence_name B G_KINDS G_LONGEST_NAME G_LETTERS; have Oinstr := ok_instr (P := l.prog) (w := w) (base := base) At_is_instruction B G_READS G_WRITES Ocell Oval Ofn; have EMP : EMkP l.prog w K mg base 1 CI := ⟨⟨_, _, i_IP, t_IP, (fun_mk (st := sIPr) l_IP c_IP k_IP).binds (fun _ _ _ _ _ _ us hl => match us, hl with | [_, _, _], _ => rfl), ok_iprinit (fun_mk (st := sIPr) l_IP c_IP k_IP) (PySem.W.mg_of X G a_OrderError) ⟨rd_O, sg_O⟩ vv_O TI nb_T nb_I⟩, PySem.W.mg_of X G a_InvalidProgram, TI⟩; have Och := ok_check (P := l.prog) (w := w) (base := base) At_check_program B EMP Oinstr; have Oplace := ok_place (P := l.prog) (w := w) (base := base) At_law_place_of B EP Och Oisn; exact ok_law (fun_mk (st := sLaw) l_law c_law k_law) B Odraws Ovalid Onum Obadi Oplace⟩
end KP
open PySem PySem.W PyProof.Rows
set_option maxHeartbeats 0 in
theorem PySem.Challenge.cw_keptpairs_k05_check_program_holds : PySem.Challenge.rw_keptpairs_k05_check_program.Holds := by
  w_on; o_law; k_head; (case hw => w_witness2)
  k_fill
  refine L2.walk_of (l := PySem.Challenge.rw_keptpairs_k05_check_program) (n := 63) (k := 10) (x := "script") (CX := fun _ => L2.CX0) (sp := fun w => KP.spLaw _) rfl (by decide) rfl ⟨rfl, by decide, by decide⟩ (fun w h Y => PySem.W.kIn_of Y) ?F (fun _ _ a ns hl _ hS => ⟨a, ns, rfl, hS, hl, fun _ => rfl⟩) (fun _ _ _ _ _ h => h)
  case F =>
    intro w mg fa h KX G hmg
    refine' KP.all_mk KX G hmg ?z_len ?z_int ?z_abs ?z_range ?z_list ?z_tuple ?z_isinstance ?z_iter ?z_all ?z_any ?z_bool ?z_str ?z_sorted ?z_ValueError ?z_dict ?z_enumerate ?z_set ?a_law_draws ?l_law_draws ?c_law_draws ?k_law_draws ?a_law_kinds ?l_law_kinds ?c_law_kinds ?k_law_kinds ?a_law_number ?l_law_number ?c_law_number ?k_law_number ?a_law_is_number ?l_law_is_number ?c_law_is_number ?k_law_is_number ?a_law_fence_name ?l_law_fence_name ?c_law_fence_name ?k_law_fence_name ?a_law_bad_item ?l_law_bad_item ?c_law_bad_item ?k_law_bad_item ?a_law_valid_item ?l_law_valid_item ?c_law_valid_item ?k_law_valid_item ?a_law_place_of ?l_law_place_of ?c_law_place_of ?k_law_place_of ?a_is_integer ?l_is_integer ?c_is_integer ?k_is_integer ?a_is_fence_name ?l_is_fence_name ?c_is_fence_name ?k_is_fence_name ?a_is_cell ?l_is_cell ?c_is_cell ?k_is_cell ?a_is_value ?l_is_value ?c_is_value ?k_is_value ?a_is_instruction ?l_is_instruction ?c_is_instruction ?k_is_instruction ?a_check_program ?l_check_program ?c_check_program ?k_check_program ?a_law ?l_law ?c_law ?k_law ?a_KINDS ?l_KINDS ?y_KINDS ?d_KINDS ?s_KINDS ?v_KINDS ?a_READS ?l_READS ?y_READS ?d_READS ?s_READS ?v_READS ?a_WRITES ?l_WRITES ?y_WRITES ?d_WRITES ?s_WRITES ?v_WRITES ?a_LAST_CELL ?a_TOP_VALUE ?a_LONGEST_NAME ?a_LETTERS ?a_OrderError ?rd_O ?sg_O ?vv_O ?a_InvalidProgram ?xL_I ?sa_I ?ga_I ?gg_I ?nb_T ?nb_I ?eC_I ?tC_I ?hC_I ?kC_I ?xc0 ?sC_I ?xc1 ?xc2 ?xc3 ?xc4 ?i_IP ?t_IP ?l_IP ?c_IP ?k_IP ?a_UnknownName ?a_NotALine ?kIU ?kIN ?kIV ?kIO
    (case z_len => k_is)
    (case z_int => k_is)
    (case z_abs => k_is)
    (case z_range => k_is)
    (case z_list => k_is)
    (case z_tuple => k_is)
    (case z_isinstance => k_is)
    (case z_iter => k_is)
    (case z_all => k_is)
    (case z_any => k_is)
    (case z_bool => k_is)
    (case z_str => k_is)
    (case z_sorted => k_is)
    (case z_ValueError => k_is)
    (case z_dict => k_is)
    (case z_enumerate => k_is)
    (case z_set => k_is)
    (case a_law_draws => k_is)
    (case l_law_draws => k_is)
    (case c_law_draws => k_is)
    (case k_law_draws => k_is)
    (case a_law_kinds => k_is)
    (case l_law_kinds => k_is)
    (case c_law_kinds => k_is)
    (case k_law_kinds => k_is)
    (case a_law_number => k_is)
    (case l_law_number => k_is)
    (case c_law_number => k_is)
    (case k_law_number => k_is)
    (case a_law_is_number => k_is)
    (case l_law_is_number => k_is)
    (case c_law_is_number => k_is)
    (case k_law_is_number => k_is)
    (case a_law_fence_name => k_is)
    (case l_law_fence_name => k_is)
    (case c_law_fence_name => k_is)
    (case k_law_fence_name => k_is)
    (case a_law_bad_item => k_is)
    (case l_law_bad_item => k_is)
    (case c_law_bad_item => k_is)
    (case k_law_bad_item => k_is)
    (case a_law_valid_item => k_is)
    (case l_law_valid_item => k_is)
    (case c_law_valid_item => k_is)
    (case k_law_valid_item => k_is)
    (case a_law_place_of => k_is)
    (case l_law_place_of => k_is)
    (case c_law_place_of => k_is)
    (case k_law_place_of => k_is)
    (case a_is_integer => k_is)
    (case l_is_integer => k_is)
    (case c_is_integer => k_is)
    (case k_is_integer => k_is)
    (case a_is_fence_name => k_is)
    (case l_is_fence_name => k_is)
    (case c_is_fence_name => k_is)
    (case k_is_fence_name => k_is)
    (case a_is_cell => k_is)
    (case l_is_cell => k_is)
    (case c_is_cell => k_is)
    (case k_is_cell => k_is)
    (case a_is_value => k_is)
    (case l_is_value => k_is)
    (case c_is_value => k_is)
    (case k_is_value => k_is)
    (case a_is_instruction => k_is)
    (case l_is_instruction => k_is)
    (case c_is_instruction => k_is)
    (case k_is_instruction => k_is)
    (case a_check_program => k_is)
    (case l_check_program => k_is)
    (case c_check_program => k_is)
    (case k_check_program => k_is)
    (case a_law => k_is)
    (case l_law => k_is)
    (case c_law => k_is)
    (case k_law => k_is)
    (case a_KINDS => k_is)
    (case l_KINDS => k_is)
    (case y_KINDS => first | k_is | rfl)
    (case d_KINDS => first | k_is | rfl)
    (case s_KINDS => first | decide | (rw [sizeLine_eq]; decide) | k_is)
    (case v_KINDS => repeat (first | exact .nil | refine .cons ⟨_, rfl⟩ ?_ | refine .cons rfl ?_))
    (case a_READS => k_is)
    (case l_READS => k_is)
    (case y_READS => first | k_is | rfl)
    (case d_READS => first | k_is | rfl)
    (case s_READS => first | decide | (rw [sizeLine_eq]; decide) | k_is)
    (case v_READS => repeat (first | exact .nil | refine .cons ⟨_, rfl⟩ ?_ | refine .cons rfl ?_))
    (case a_WRITES => k_is)
    (case l_WRITES => k_is)
    (case y_WRITES => first | k_is | rfl)
    (case d_WRITES => first | k_is | rfl)
    (case s_WRITES => first | decide | (rw [sizeLine_eq]; decide) | k_is)
    (case v_WRITES => repeat (first | exact .nil | refine .cons ⟨_, rfl⟩ ?_ | refine .cons rfl ?_))
    (case a_LAST_CELL => k_is)
    (case a_TOP_VALUE => k_is)
    (case a_LONGEST_NAME => k_is)
    (case a_LETTERS => k_is)
    (case a_OrderError => k_is)
    (case rd_O => k_is)
    (case sg_O => k_is)
    (case vv_O => k_is)
    (case a_InvalidProgram => k_is)
    (case xL_I => k_is)
    (case sa_I => k_is)
    (case ga_I => k_is)
    (case gg_I => k_is)
    (case nb_T => k_is)
    (case nb_I => k_is)
    (case eC_I => k_is)
    (case tC_I => k_is)
    (case hC_I => k_is)
    (case kC_I => k_is)
    (case xc0 => first | k_is | rfl)
    (case sC_I => k_is)
    (case xc1 => first | k_is | rfl)
    (case xc2 => first | k_is | rfl)
    (case xc3 => first | k_is | rfl)
    (case xc4 => first | k_is | rfl)
    (case i_IP => k_is)
    (case t_IP => k_is)
    (case l_IP => k_is)
    (case c_IP => k_is)
    (case k_IP => k_is)
    (case a_UnknownName => k_is)
    (case a_NotALine => k_is)
    (case kIU => first | k_is | rfl)
    (case kIN => first | k_is | rfl)
    (case kIV => first | k_is | rfl)
    (case kIO => first | k_is | rfl)

