import PyProof.Rows.All
import Wide.All
import OpenK.AllK
import Wide.FinOn
import KE.KOpsOwn
import HandS.Base
import HandS.Call
import HandS.List
import HandS.Exc
import HandS.IsInst
import HandS.Wide
import HandS.ExcField
import HandS.ExcInit
import HandS.TryOnly
import HandS.WordsExc
import HandS.Defaults
import HandS.MakeKw
import HandS.Gcd
import PyProof.InstNe
import HandS.Strs
import HandS.Zip
import HandS.Style
import HandS.WordsList
import HandS.Comp
import HandS.Text
import HandS.Walk
import HandS.Steps
import HandS.Dict
import HandS.Star
import HandS.TupAny
import HandS.More
import HandS.Ends
import PySem.Challenge.RW_toldwithin_k04_grids_made_or_refused
set_option Elab.async false
set_option linter.all false
set_option maxRecDepth 100000
set_option maxHeartbeats 2000000
/-! operators of a class of one's own, over the layer -/
namespace PySem.OwnOps
open PySem PySem.W PySem.Calls
section
variable {prog : Program} {w : World} {A : Around} {E : Value → Shared → Prop} {s : Shared} {K : Frag} {x C g q : Addr} {ox : Obj} {od : Option Obj}
/-- what an int's own binary method says of an instance: that it knows nothing of it -/
theorem int_knows_not {B : Builtin} {nm : String} {f : Int → Int → Sem Fin} {n : Int} {t : Tok} (hB : B = Builtin.Int.intBinary nm f) (ho : s.heap.get? x = some ox) (hp : ox.data = .plain) {Q : Fin → Shared → Prop}
    (h : Q (.done (.ret .notImplemented)) s) : wpAny (model prog w) A (B ⟨[.int n t, .ref x], []⟩) Q E s := by
  subst hB
  obtain ⟨hp', g, d, tk, os⟩ := s
  obtain ⟨oc, odd, dt, sl⟩ := ox
  dsimp only at hp
  subst hp
  unfold Builtin.Int.intBinary
  wp_walk using wpAny_load' ho
  exact h
/-- int op instance: the int's own method knows nothing of it, so the instance's reflected one is asked -/
theorem refl_int {op : Operator} {id : String} {B : Builtin} {nm : String} {f : Int → Int → Sem Fin} {n : Int} {t : Tok} {Q : Value → Shared → Prop} (X : K.In s.heap) (I : InstAt s.heap x ox C od) (hp : ox.data = .plain)
    (hc : selfFirst K C = true) (hs : findIn K (.ref C) (dunderR op.info.2) = some (some (.ref g))) (hf : isFn K (.ref g) = true)
    (hl : findIn K (.ref C) (PySem.dunder op.info.2) = some (some (.ref q)))
    (hfi : fillsNumberSlot (.type "int") op.info.2 = pure true) (slot : Slot "int" (PySem.dunder op.info.2) id) (entry : entryFor table id = some B) (args : ∀ b : Value, argsOk id ⟨[.int n t, b], []⟩)
    (hB : B = Builtin.Int.intBinary nm f)
    (hsub : subIn K (.ref C) (.type "int") = some false)
    (h : wpAny (model prog w) A (call (.ref g) [.ref x, .int n t]) (W.CmpBack Q) E s) : wpAny (model prog w) A (binaryOp op (.int n t) (.ref x)) Q E s := by
  obtain ⟨cd, rest, hcd, hm⟩ := ksp_first hc
  rcases hi : op.info with ⟨sym, nm'⟩
  rw [hi] at hs hl hfi slot
  dsimp only at hs hl hfi slot
  have one : wpAny (model prog w) A (tryMethod (.int n t) (PySem.dunder nm') (.ref x)) (fun r s' => r = none ∧ s' = s) E s := by
    unfold tryMethod
    refine wpAny_bind (wpAny_callSpecial?_slot (typeIs_int s n t) slot ?_)
    refine wpAny_call (codeAny_call_builtin slot.plain entry (slot.check _ _ _ _ _ _ _ _ (typeIs_int s n t) (args _) ?_))
    refine int_knows_not hB I.1 hp ?_
    exact wpAny_pure ⟨rfl, rfl⟩
  have two := ksp_try X I hs hf h
  obtain ⟨hh, g', d, tt, os⟩ := s
  have L1 : Looks (model prog w) hh (typeOf (.ref x)) (.ref C) := I.type
  have L2 : Looks (model prog w) hh (typeOf (.int n t)) (.type "int") := Looks.of_pure rfl
  have L3 : Looks (model prog w) hh (fillsNumberSlot (.ref C) nm') true := fills_K X hcd hm hl
  have L4 : Looks (model prog w) hh (fillsNumberSlot (.type "int") nm') true := Looks.of_pure hfi
  have L5 : Looks (model prog w) hh (isSubtype (.ref C) (.type "int")) false := looks_subIn X hsub
  have L7 : Looks (model prog w) hh (numberSlotInPython (.type "int") nm') false := Looks.of_pure rfl
  have hne : (Value.type "int" == Value.ref C) = false := Bool.eq_false_iff.mpr fun q => by cases beq_iff_eq.mp q
  simp only [binaryOp, hi]
  refine wpAny_holding (wpAny_bind ?_)
  unfold binaryOp1
  refine wpAny_bind (L2.at (wpAny_bind (L1.at (wpAny_bind (L4.at ?_)))))
  simp only [hne, Bool.false_eq_true, if_false]
  ksp_lk
  refine wpAny_mono one (fun r s' hr' => ?_) fun _ _ e => e
  obtain ⟨rfl, rfl⟩ := hr'
  ksp_lk
  refine wpAny_mono two (fun r s' hr' => ?_) fun _ _ e => e
  obtain ⟨v, rfl, hq⟩ := hr'
  ksp_lk
  exact hq
end
end PySem.OwnOps

set_option Elab.async false
set_option linter.all false
set_option maxRecDepth 100000
set_option maxHeartbeats 2000000
namespace L2
open PySem PySem.Spec PyProof.Rows
theorem backs {P : Value → Shared → Prop} {z : V} {v : Value} {s' : Shared} (r : RelV z v) (h : P v s') : PySem.W.CmpBack P v s' := by
  cases z <;> first
    | (obtain ⟨t, e⟩ := (show ∃ t, _ from r); subst e; exact h)
    | (have e := (show v = _ from r); subst e; exact h)
section
variable {X : Cx} {CX : CXT} {C g q : Addr} {fd : FuncData} {ps : List Str} {k : Nat} {sp : Sp} {E : XK}
/-- what of the class its operators ask -/
structure OwnC (K : PySem.W.Frag) (C : Addr) : Prop where
  first : PySem.W.selfFirst K C = true
  subI : PySem.W.subIn K (.type "int") (.ref C) = some false
  subC : PySem.W.subIn K (.ref C) (.type "int") = some false
/-- both are of the class -/
theorem op_same {op : Operator} (T : OwnC X.K C) (hs : PySem.W.findIn X.K (.ref C) (PySem.dunder op.info.2) = some (some (.ref g))) (hf : PySem.W.isFn X.K (.ref g) = true)
    (F : FnOk X.prog X.w X.K X.mg X.base CX k g fd ps sp) (hr : Room k X.A) (hb : Binds X.K fd ps []) (hx : Passes CX X E) :
    OpR X (binaryOp op) (fun x y H Q => ∃ a dx fs b dy gs, x = .ref a ∧ y = .ref b ∧ H a = some (.ins C dx fs) ∧ H b = some (.ins C dy gs) ∧ sp [x, y] H Q E) := by
  intro pins s σ H x y v u Q I rx ry h
  obtain ⟨a, dx, fs, b, dy, gs, rfl, rfl, ha, hb', z⟩ := h
  cases (show v = Value.ref a from rx)
  cases (show u = Value.ref b from ry)
  obtain ⟨mA, O, _⟩ := ins_get I.hok ha
  obtain ⟨od, J, _⟩ := O.look
  obtain ⟨mB, O', _⟩ := ins_get I.hok hb'
  obtain ⟨od', J', _⟩ := O'.look
  obtain ⟨m, hF⟩ := I.fr
  refine PySem.W.binop_K hF I.ok.mod.kin J J'.type T.first hs hf ?_
  refine wpAny_mono (run_fn (us := [.ref a, .ref b]) (vs := [.ref a, .ref b]) F hr hb .nil hx I (.cons rfl (.cons rfl .nil)) z) (fun w s' z => ?_) fun _ _ x => x
  obtain ⟨z', H', I', rz, qz⟩ := z
  exact backs rz ⟨z', H', I', rz, qz⟩
/-- an instance op an int -/
theorem op_instInt {op : Operator} {fo ro : Option Value} (T : OwnC X.K C) (hs : PySem.W.findIn X.K (.ref C) (PySem.dunder op.info.2) = some (some (.ref g))) (hf : PySem.W.isFn X.K (.ref g) = true)
    (hr' : PySem.W.findIn X.K (.ref C) (dunderR op.info.2) = some (some (.ref q)))
    (h1 : PySem.W.findIn X.K (.type "int") (PySem.dunder op.info.2) = some fo) (h2 : PySem.W.findIn X.K (.type "int") (dunderR op.info.2) = some ro)
    (F : FnOk X.prog X.w X.K X.mg X.base CX k g fd ps sp) (hr : Room k X.A) (hb : Binds X.K fd ps []) (hx : Passes CX X E) :
    OpR X (binaryOp op) (fun x y H Q => ∃ a dx fs n, x = .ref a ∧ y = .int n ∧ H a = some (.ins C dx fs) ∧ sp [x, y] H Q E) := by
  intro pins s σ H x y v u Q I rx ry h
  obtain ⟨a, dx, fs, n, rfl, rfl, ha, z⟩ := h
  cases (show v = Value.ref a from rx)
  obtain ⟨t, e⟩ := (show ∃ t, u = Value.int n t from ry)
  subst e
  obtain ⟨mA, O, _⟩ := ins_get I.hok ha
  obtain ⟨od, J, _⟩ := O.look
  obtain ⟨m, hF⟩ := I.fr
  refine PySem.W.ksp_binT hF I.ok.mod.kin J rfl T.first hs hf hr' (.inr ⟨_, rfl⟩) h1 h2 T.subI ?_
  refine wpAny_mono (run_fn (us := [.ref a, .int n t]) (vs := [.ref a, .int n]) F hr hb .nil hx I (.cons rfl (.cons ⟨t, rfl⟩ .nil)) z) (fun w s' z => ?_) fun _ _ x => x
  obtain ⟨z', H', I', rz, qz⟩ := z
  exact backs rz ⟨z', H', I', rz, qz⟩
/-- an int op an instance -/
theorem op_intInst {op : Operator} {id : String} {B : Builtin} {nm : String} {f : Int → Int → Sem Fin} (T : OwnC X.K C) (hs : PySem.W.findIn X.K (.ref C) (dunderR op.info.2) = some (some (.ref g))) (hf : PySem.W.isFn X.K (.ref g) = true)
    (hl : PySem.W.findIn X.K (.ref C) (PySem.dunder op.info.2) = some (some (.ref q)))
    (hfi : fillsNumberSlot (.type "int") op.info.2 = pure true) (slot : Slot "int" (PySem.dunder op.info.2) id) (entry : entryFor table id = some B) (args : ∀ a b : Value, argsOk id ⟨[a, b], []⟩)
    (hB : B = Builtin.Int.intBinary nm f)
    (F : FnOk X.prog X.w X.K X.mg X.base CX k g fd ps sp) (hr : Room k X.A) (hb : Binds X.K fd ps []) (hx : Passes CX X E) :
    OpR X (binaryOp op) (fun x y H Q => ∃ n a dx fs, x = .int n ∧ y = .ref a ∧ H a = some (.ins C dx fs) ∧ sp [y, x] H Q E) := by
  intro pins s σ H x y v u Q I rx ry h
  obtain ⟨n, a, dx, fs, rfl, rfl, ha, z⟩ := h
  cases (show u = Value.ref a from ry)
  obtain ⟨t, e⟩ := (show ∃ t, v = Value.int n t from rx)
  subst e
  obtain ⟨mA, O, _⟩ := ins_get I.hok ha
  obtain ⟨od, J, _⟩ := O.look
  refine PySem.OwnOps.refl_int I.kIn J rfl T.first hs hf hl hfi slot entry (args _) hB T.subC ?_
  refine wpAny_mono (run_fn (us := [.ref a, .int n t]) (vs := [.ref a, .int n]) F hr hb .nil hx I (.cons rfl (.cons ⟨t, rfl⟩ .nil)) z) (fun w s' z => ?_) fun _ _ x => x
  obtain ⟨z', H', I', rz, qz⟩ := z
  exact backs rz ⟨z', H', I', rz, qz⟩
theorem op_addRI (T : OwnC X.K C) (hs : PySem.W.findIn X.K (.ref C) "__radd__" = some (some (.ref g))) (hf : PySem.W.isFn X.K (.ref g) = true) (hl : PySem.W.findIn X.K (.ref C) "__add__" = some (some (.ref q)))
    (F : FnOk X.prog X.w X.K X.mg X.base CX k g fd ps sp) (hr : Room k X.A) (hb : Binds X.K fd ps []) (hx : Passes CX X E) :
    OpR X (binaryOp .Add) (fun x y H Q => ∃ n a dx fs, x = .int n ∧ y = .ref a ∧ H a = some (.ins C dx fs) ∧ sp [y, x] H Q E) :=
  op_intInst (op := .Add) T hs hf hl PySem.F.fills_int_add PySem.F.slot_int_add PySem.F.entry_int_add (fun a b => PySem.F.args_int_add_2 a b) rfl F hr hb hx
theorem op_subRI (T : OwnC X.K C) (hs : PySem.W.findIn X.K (.ref C) "__rsub__" = some (some (.ref g))) (hf : PySem.W.isFn X.K (.ref g) = true) (hl : PySem.W.findIn X.K (.ref C) "__sub__" = some (some (.ref q)))
    (F : FnOk X.prog X.w X.K X.mg X.base CX k g fd ps sp) (hr : Room k X.A) (hb : Binds X.K fd ps []) (hx : Passes CX X E) :
    OpR X (binaryOp .Sub) (fun x y H Q => ∃ n a dx fs, x = .int n ∧ y = .ref a ∧ H a = some (.ins C dx fs) ∧ sp [y, x] H Q E) :=
  op_intInst (op := .Sub) T hs hf hl PySem.F.fills_int_sub PySem.F.slot_int_sub PySem.F.entry_int_sub (fun a b => PySem.F.args_int_sub_2 a b) rfl F hr hb hx
theorem op_mulRI (T : OwnC X.K C) (hs : PySem.W.findIn X.K (.ref C) "__rmul__" = some (some (.ref g))) (hf : PySem.W.isFn X.K (.ref g) = true) (hl : PySem.W.findIn X.K (.ref C) "__mul__" = some (some (.ref q)))
    (F : FnOk X.prog X.w X.K X.mg X.base CX k g fd ps sp) (hr : Room k X.A) (hb : Binds X.K fd ps []) (hx : Passes CX X E) :
    OpR X (binaryOp .Mult) (fun x y H Q => ∃ n a dx fs, x = .int n ∧ y = .ref a ∧ H a = some (.ins C dx fs) ∧ sp [y, x] H Q E) :=
  op_intInst (op := .Mult) T hs hf hl PySem.F.fills_int_mul PySem.F.slot_int_mul PySem.F.entry_int_mul (fun a b => PySem.F.args_int_mul_2 a b) rfl F hr hb hx
/-- -x -/
theorem un_negO (hs : PySem.W.findIn X.K (.ref C) "__neg__" = some (some (.ref g))) (hf : PySem.W.isFn X.K (.ref g) = true)
    (F : FnOk X.prog X.w X.K X.mg X.base CX k g fd ps sp) (hr : Room k X.A) (hb : Binds X.K fd ps []) (hx : Passes CX X E) :
    UnR X (unaryOp .USub) (fun x H Q => ∃ a dx fs, x = .ref a ∧ H a = some (.ins C dx fs) ∧ sp [x] H Q E) := by
  intro pins s σ H x v Q I rx h
  obtain ⟨a, dx, fs, rfl, ha, z⟩ := h
  cases (show v = Value.ref a from rx)
  obtain ⟨mA, O, _⟩ := ins_get I.hok ha
  obtain ⟨od, J, _⟩ := O.look
  obtain ⟨m, hF⟩ := I.fr
  exact PySem.W.ksp_neg hF I.ok.mod.kin J hs hf (run_fn (us := [.ref a]) (vs := [.ref a]) F hr hb .nil hx I (.cons rfl .nil) z)
/-- abs(x) -/
theorem call_absO (hs : PySem.W.findIn X.K (.ref C) "__abs__" = some (some (.ref g))) (hf : PySem.W.isFn X.K (.ref g) = true)
    (F : FnOk X.prog X.w X.K X.mg X.base CX k g fd ps sp) (hr : Room (k + 1) X.A) (hb : Binds X.K fd ps []) (hx : Passes CX X E) :
    CallR X (.builtin "abs") (fun xs H Q => ∃ a dx fs, xs = [.ref a] ∧ H a = some (.ins C dx fs) ∧ sp xs H Q E) := by
  intro pins s σ H xs us Q I r h
  obtain ⟨a, dx, fs, rfl, ha, z⟩ := h
  obtain ⟨u, rfl, ru⟩ := vals1 r
  cases (show u = Value.ref a from ru)
  obtain ⟨mA, O, _⟩ := ins_get I.hok ha
  obtain ⟨od, J, _⟩ := O.look
  refine PySem.Calls.call_function_entry kind_abs plain_abs entry_abs (args_abs _) ?_
  unfold Builtin.«abs»
  refine wpAny_bind (m := oneArg "abs" _) (wpAny_pure ?_)
  refine wpAny_bind (m := callSpecial? (.ref a) (Str.ofString "__abs__")) (PySem.W.special_fn I.kIn J hs (beq_iff_eq.mp hf) ?_)
  have hr1 : Room k X.A.in1 := hr.in1
  have hl : ([Value.ref a] ++ []).length = ps.length := by
    have e := F.len _ _ _ _ z
    exact e
  have r1 : Vals [V.ref a] [Value.ref a] := .cons rfl .nil
  have bd : BindsTo s fd ⟨[Value.ref a], []⟩ (ps.zip [Value.ref a]) := by
    have b1 := hb s [Value.ref a] I.kIn hl
    rw [List.append_nil] at b1
    exact b1
  refine wpAny_call (codeAny_mono (F.run X.A.in1 X.stack s H _ _ _ Q E hr1 I.env0.in1 bd r1 z) fun r s' hq => ?_)
  cases r with
  | error e => exact hx pins σ H s e s' I hq
  | ok fl =>
    cases fl with
    | ret u => exact wpAny_pure ⟨_, rfl, I.after hq⟩
    | next => exact False.elim hq
    | brk => exact False.elim hq
    | cont => exact False.elim hq
/-- // by any divisor but 0 of less than 9000 bits -/
def CDivX (_ j : Int) : Prop := j ≠ 0 ∧ j.natAbs.log2 < 9000
theorem op_fdivX : OpR X (binaryOp .FloorDiv) (rI CDivX fun i j => .int (i.fdiv j)) := opI fun _ _ _ _ _ _ _ hc q => floordiv_int hc.1 q (.inl (PyProof.noPylong_of_log2 hc.2))
theorem op_modX : OpR X (binaryOp .Mod) (rI (fun _ j => j ≠ 0) fun i j => .int (i.fmod j)) := op_modN
end
end L2

set_option Elab.async false
set_option linter.all false
set_option maxRecDepth 100000
set_option maxHeartbeats 2000000
namespace PySem.OwnOps
open PySem PySem.W PySem.Calls
section
variable {prog : Program} {w : World} {A : Around} {E : Value → Shared → Prop} {s : Shared} {K : Frag} {x : Addr} {t c : Value}
/-- isinstance says yes by the classes alone -/
theorem isi_by_class {Q : Value → Shared → Prop} (X : K.In s.heap) (L0 : Looks (model prog w) s.heap (typeOf (.ref x)) t) (hne : (t == c) = false) (e : kitCls K t c = some true) (h : Q (.bool true) s) :
    wpAny (model prog w) A (call (.builtin "isinstance") [.ref x, c]) Q E s := by
  obtain ⟨h0, g, d, tt, os⟩ := s
  obtain ⟨L1, L2, L3⟩ := kit_cls (M := model prog w) X e
  have L4 : Looks (model prog w) h0 (isInstance (.ref x) c) true := L0.andThen L3
  refine PyProof.Rows.call_isinstance_of ?_ (fun z => nomatch z)
  unfold Builtin.«isinstance.nested»
  refine wpAny_bind (L0.at ?_)
  rw [hne, if_neg Bool.false_ne_true]
  refine wpAny_bind (L1.at ?_)
  rw [if_pos (by decide)]
  k_delta "plainIsInstance"
  refine wpAny_bind (wpAny_bind (L2.at ?_))
  simp only [Bool.not_true, Bool.false_eq_true, if_false]
  refine wpAny_bind (L4.at ?_)
  first
    | exact wpAny_pure (wpAny_pure h)
    | (simp only [if_true]; exact wpAny_pure (wpAny_pure h))
    | (simp only [if_true]; exact wpAny_bind (wpAny_pure (wpAny_pure h)))
    | (simp only [if_true]; exact wpAny_pure h)
end
end PySem.OwnOps
namespace L2
open PySem PySem.Spec PyProof.Rows
/-- isinstance(e, c), e the exception that the suite holds, c a class above its own -/
theorem call_isUp {X : Cx} {a D B : Addr} {cls : Value} {d : Option Addr} {oe : Obj} {pn : List (Addr × Obj)} (hz : Zc cls d oe) (hne : D ≠ B) (hk : PySem.W.kitCls X.K (.ref D) (.ref B) = some true) :
    CallR (X.suite a ((a, oe) :: pn)) (.builtin "isinstance") (fun xs H Q => cls = .ref D ∧ xs = [.ref a, .ref B] ∧ Q (.bl true) H) := by
  intro pins s σ H xs us Q I r h
  obtain ⟨rfl, rfl, q⟩ := h
  obtain ⟨u1, u2, rfl, r1, r2⟩ := vals2 r
  cases (show u1 = Value.ref a from r1)
  cases (show u2 = Value.ref B from r2)
  obtain ⟨hget, _⟩ := I.pin (a, oe) (List.mem_append.mpr (.inl List.mem_cons_self))
  have L0 : PySem.W.Looks (model X.prog X.w) s.heap (typeOf (.ref a)) (.ref D) := by
    intro A Q E s' k q'
    unfold typeOf
    refine wpAny_bind (wpAny_loadPart (k _ _ hget) ?_)
    rw [hz.1]
    exact wpAny_pure q'
  exact PySem.OwnOps.isi_by_class I.kIn L0 (Bool.eq_false_iff.mpr fun z => hne (Value.ref.inj (beq_iff_eq.mp z))) hk ⟨.bl true, H, I.kept (t' := s.toks) fun _ _ z => z, rfl, q⟩
end L2

set_option Elab.async false
set_option linter.all false
set_option maxRecDepth 100000
set_option maxHeartbeats 2000000
/-! comparisons of a class of one's own -/
namespace PySem.OwnOps
open PySem PySem.W PySem.Calls
section
variable {prog : Program} {w : World} {A : Around} {E : Value → Shared → Prop} {s : Shared} {K : Frag} {x C g q : Addr} {ox : Obj} {od : Option Obj}
theorem try_own {op : CmpOp} {name : Str} {b : Value} {Q : Value → Shared → Prop} (X : K.In s.heap) (I : InstAt s.heap x ox C od) (hs : findIn K (.ref C) name = some (some (.ref g))) (hf : isFn K (.ref g) = true)
    (h : wpAny (model prog w) A (call (.ref g) [.ref x, b]) (W.CmpBack Q) E s) : wpAny (model prog w) A (tryCompare (.ref x) name b) (fun r s' => ∃ v, r = some v ∧ Q v s') E s := by
  unfold tryCompare
  refine wpAny_bind (ifBound_K X I hs hf (wpAny_mono h (fun v s' hv => ?_) fun _ _ e => e))
  cases v <;> first | exact hv.elim | exact wpAny_pure ⟨_, rfl, hv⟩
/-- int cmp instance: the int's own method knows nothing of it, so the instance's reflected one is asked -/
theorem refl_cmp {op : CmpOp} {id : String} {B : Builtin} {nm : String} {f : Int → Int → Sem Fin} {n : Int} {t : Tok} {Q : Value → Shared → Prop} (hu : A.units < cLine) (X : K.In s.heap) (I : InstAt s.heap x ox C od) (hp : ox.data = .plain)
    (hs : findIn K (.ref C) (cmpInfo op).2.2 = some (some (.ref g))) (hf : isFn K (.ref g) = true)
    (slot : Slot "int" (cmpInfo op).2.1 id) (entry : entryFor table id = some B) (args : ∀ b : Value, argsOk id ⟨[.int n t, b], []⟩)
    (hB : B = Builtin.Int.intBinary nm f) (hsub : subIn K (.ref C) (.type "int") = some false)
    (h : wpAny (model prog w) A (call (.ref g) [.ref x, .int n t]) (W.CmpBack Q) E s) : wpAny (model prog w) A (richCompare op (.int n t) (.ref x)) Q E s := by
  have one : wpAny (model prog w) A (tryCompare (.int n t) (cmpInfo op).2.1 (.ref x)) (fun r s' => r = none ∧ s' = s) E s := by
    unfold tryCompare
    refine wpAny_bind (wpAny_callSpecialIfBound?_slot (typeIs_int s n t) slot ?_)
    refine wpAny_call (codeAny_call_builtin slot.plain entry (slot.check _ _ _ _ _ _ _ _ (typeIs_int s n t) (args _) ?_))
    refine int_knows_not hB I.1 hp ?_
    exact wpAny_pure ⟨rfl, rfl⟩
  have two := try_own (op := op) X I hs hf h
  have h1 : oneThing? op (.int n t) (.ref x) = none := by cases op <;> rfl
  rcases hi : cmpInfo op with ⟨sym, f', r⟩
  rw [hi] at one two
  dsimp only at one two
  have hne : (Value.type "int" != Value.ref C) = true := by
    show (!(Value.type "int" == Value.ref C)) = true
    rw [show (Value.type "int" == Value.ref C) = false from Bool.eq_false_iff.mpr fun q => by cases beq_iff_eq.mp q]
    rfl
  simp only [richCompare, hi, h1]
  refine wpAny_holding (wpAny_bind (wpAny_cRoomFor hu ?_))
  refine wpAny_bind (wpAny_typeOf (typeIs_int s n t) (wpAny_bind (I.type.here ?_)))
  simp only [hne, if_true]
  refine wpAny_bind ((looks_subIn X hsub).here ?_)
  simp only [Bool.false_eq_true, if_false]
  refine wpAny_bind (wpAny_mono one (fun r' s' z => ?_) fun _ _ e => e)
  obtain ⟨rfl, rfl⟩ := z
  simp only [Bool.not_false, if_true]
  refine wpAny_bind (wpAny_mono two (fun r' s' z => ?_) fun _ _ e => e)
  obtain ⟨v, rfl, hq⟩ := z
  exact wpAny_pure hq
/-- != of an instance whose class says == alone -/
theorem own_ne {b : Value} {tb : Value} {Q : Value → Shared → Prop} (hu : A.units + 1 < cLine) (X : K.In s.heap) (I : InstAt s.heap x ox C od) (hb : Looks (model prog w) s.heap (typeOf b) tb) (hn : notFirst K C tb = true)
    (hne : findIn K (.ref C) "__ne__" = some (some (.builtin "object.__ne__"))) (hob : mroIn K C (.type "object") = some true) (hs : findIn K (.ref C) "__eq__" = some (some (.ref g))) (hf : isFn K (.ref g) = true)
    (h : wpAny (model prog w) A.in1 (call (.ref g) [.ref x, b]) (fun v s' => ∃ k, v = .bool k ∧ Q (.bool (!k)) s') E s) : wpAny (model prog w) A (richCompare .NotEq (.ref x) b) Q E s := by
  have sub : Looks (model prog w) s.heap (isInstance (.ref x) (.type "object")) true := I.type.andThen (looks_mroIn X hob)
  have S := PySem.F.cmp_object.ne
  have one : wpAny (model prog w) A (tryCompare (.ref x) "__ne__" b) (fun r s' => ∃ v, r = some v ∧ Q v s') E s := by
    unfold tryCompare
    refine wpAny_bind ?_
    simp only [callSpecialIfBound?, bindSpecialIfBound?]
    refine wpAny_holding (wpAny_bind (wpAny_bind (wpAny_bind (I.type.here ((looks_findIn X hne).here ?_)))))
    simp only [S.bind]
    refine wpAny_bind (wpAny_askSetting (wpAny_ite ?_))
    have fin : ∀ R : Option Value → Shared → Prop, (∀ k s', Q (.bool k) s' → R (some (.bool k)) s') → wpAny (model prog w) A (call (.builtin "object.__ne__") ([.ref x] ++ [b]) >>= fun v => pure (some v)) R E s := fun R hR => by
      refine wpAny_bind (wpAny_call (codeAny_call_builtin S.plain PySem.F.cmpEntry_ne ?_))
      refine @check_slot (model prog w) _ _ s "object.__ne__" "object" "__ne__" (.ref x) [b] [] _ PySem.F.cmpKind_ne PySem.F.cmpSplit_ne sub (PySem.F.cmpArgs_ne _ _) ?_
      unfold Builtin.«object.__ne__»
      refine wpAny_bind (wpAny_of_eq (a := ((Value.ref x : Value), [b])) (by first | rfl | (simp only [slotArgs]; rfl)) ?_)
      refine wpAny_bind (wpAny_cRoomFor (by exact hu) ?_)
      refine wpAny_bind (m := callSpecialIfBound? (.ref x) (Str.ofString "__eq__") [b]) (ifBound_K X I hs hf (wpAny_mono h (fun v s' z => ?_) fun _ _ e => e))
      obtain ⟨k, rfl, hq⟩ := z
      refine wpAny_bind (m := truthy (.bool _)) (wpAny_truthy_bool ?_)
      exact wpAny_pure (wpAny_pure (hR _ _ hq))
    have end_ : ∀ k s', Q (.bool k) s' → wpAny (model prog w) A (match (some (.bool k) : Option Value) with
        | some .notImplemented | none => pure none
        | some v => pure (some v)) (fun r s' => ∃ v, r = some v ∧ Q v s') E s' := fun k s' hq => wpAny_pure ⟨_, rfl, hq⟩
    split
    · exact wpAny_bind (wpAny_pure (wpAny_pure (by exact fin _ end_)))
    · exact wpAny_tryCatch (wpAny_bind (wpAny_pure (wpAny_pure (by exact fin _ end_))))
  unfold richCompare
  simp only [oneThing_ref]
  refine wpAny_holding (wpAny_bind (wpAny_cRoomFor (Nat.lt_of_succ_lt hu) ?_))
  refine wpAny_bind (I.type.here (wpAny_bind (hb.here ?_)))
  have e : (tb == .ref C) = true ∨ subIn K tb (.ref C) = some false := by
    rcases Bool.or_eq_true_iff.mp hn with e | e
    · exact .inl e
    · exact .inr (beq_iff_eq.mp e)
  split
  · rename_i q
    have e' : subIn K tb (.ref C) = some false := by
      rcases e with e | e
      · rw [beq_iff_eq.mp e] at q
        simp at q
      · exact e
    refine wpAny_bind ((looks_subIn X e').here ?_)
    simp only [Bool.false_eq_true, if_false]
    refine wpAny_bind (wpAny_mono one (fun r s' z => ?_) fun _ _ e => e)
    obtain ⟨v, rfl, hq⟩ := z
    exact wpAny_pure hq
  · refine wpAny_bind (wpAny_pure ?_)
    simp only [Bool.false_eq_true, if_false]
    refine wpAny_bind (wpAny_mono one (fun r s' z => ?_) fun _ _ e => e)
    obtain ⟨v, rfl, hq⟩ := z
    exact wpAny_pure hq
end
end PySem.OwnOps

set_option Elab.async false
set_option linter.all false
set_option maxRecDepth 100000
set_option maxHeartbeats 2000000
namespace L2
open PySem PySem.Spec PyProof.Rows
section
variable {X : Cx} {CX : CXT} {C g q : Addr} {fd : FuncData} {ps : List Str} {k : Nat} {sp : Sp} {E : XK}
theorem ty_looks {pins : List (Addr × Obj)} {σ : St} {H : Hp} {s : Shared} {x : V} {u t : Value} (I : Inv X pins σ H s) (rx : RelV x u) (ty : TyX X.K H x t) : PySem.W.Looks (model X.prog X.w) s.heap (typeOf u) t := by
  obtain ⟨P, Z, p, _⟩ := kit_of I rx ty
  exact Z.ty _ _ I.kIn p
/-- x cmp y, x an instance of the class at C whose def for cmp is at g -/
def rCmp (K : PySem.W.Frag) (C : Addr) (sp : Sp) (E : XK) : R2 := fun x y H Q => ∃ a dx fs t, x = .ref a ∧ H a = some (.ins C dx fs) ∧ TyX K H y t ∧ PySem.W.notFirst K C t = true ∧ sp [x, y] H Q E
theorem op_cmp {op : CmpOp} (hop : ∀ a b, compareOp op a b = richCompare op a b) (hs : PySem.W.findIn X.K (.ref C) (cmpInfo op).2.1 = some (some (.ref g))) (hf : PySem.W.isFn X.K (.ref g) = true)
    (F : FnOk X.prog X.w X.K X.mg X.base CX k g fd ps sp) (hr : Room k X.A) (hb : Binds X.K fd ps []) (hx : Passes CX X E) : OpR X (compareOp op) (rCmp X.K C sp E) := by
  intro pins s σ H x y v u Q I rx ry h
  obtain ⟨a, dx, fs, t, rfl, ha, ty, hn, z⟩ := h
  cases (show v = Value.ref a from rx)
  obtain ⟨mA, O, _⟩ := ins_get I.hok ha
  obtain ⟨od, J, _⟩ := O.look
  obtain ⟨m, hF⟩ := I.fr
  rw [hop]
  refine PySem.W.cmp_K (op := op) hr.units0 hF I.ok.mod.kin J (ty_looks I ry ty) hn hs hf ?_
  refine wpAny_mono (run_fn (us := [.ref a, u]) (vs := [.ref a, y]) F hr hb .nil hx I (.cons rfl (.cons ry .nil)) z) (fun w s' z => ?_) fun _ _ x => x
  obtain ⟨z', H', I', rz, qz⟩ := z
  exact backs rz ⟨z', H', I', rz, qz⟩
/-- an int cmp an instance -/
theorem op_cmpI {op : CmpOp} {id : String} {B : Builtin} {nm : String} {f : Int → Int → Sem Fin} (hop : ∀ a b, compareOp op a b = richCompare op a b) (hs : PySem.W.findIn X.K (.ref C) (cmpInfo op).2.2 = some (some (.ref g))) (hf : PySem.W.isFn X.K (.ref g) = true)
    (slot : Slot "int" (cmpInfo op).2.1 id) (entry : entryFor table id = some B) (args : ∀ a b : Value, argsOk id ⟨[a, b], []⟩) (hB : B = Builtin.Int.intBinary nm f) (hsub : PySem.W.subIn X.K (.ref C) (.type "int") = some false)
    (F : FnOk X.prog X.w X.K X.mg X.base CX k g fd ps sp) (hr : Room k X.A) (hb : Binds X.K fd ps []) (hx : Passes CX X E) :
    OpR X (compareOp op) (fun x y H Q => ∃ n a dx fs, x = .int n ∧ y = .ref a ∧ H a = some (.ins C dx fs) ∧ sp [y, x] H Q E) := by
  intro pins s σ H x y v u Q I rx ry h
  obtain ⟨n, a, dx, fs, rfl, rfl, ha, z⟩ := h
  cases (show u = Value.ref a from ry)
  obtain ⟨t, e⟩ := (show ∃ t, v = Value.int n t from rx)
  subst e
  obtain ⟨mA, O, _⟩ := ins_get I.hok ha
  obtain ⟨od, J, _⟩ := O.look
  rw [hop]
  refine PySem.OwnOps.refl_cmp hr.units0 I.kIn J rfl hs hf slot entry (args _) hB hsub ?_
  refine wpAny_mono (run_fn (us := [.ref a, .int n t]) (vs := [.ref a, .int n]) F hr hb .nil hx I (.cons rfl (.cons ⟨t, rfl⟩ .nil)) z) (fun w s' z => ?_) fun _ _ x => x
  obtain ⟨z', H', I', rz, qz⟩ := z
  exact backs rz ⟨z', H', I', rz, qz⟩
theorem op_ltI (hs : PySem.W.findIn X.K (.ref C) "__gt__" = some (some (.ref g))) (hf : PySem.W.isFn X.K (.ref g) = true) (hsub : PySem.W.subIn X.K (.ref C) (.type "int") = some false)
    (F : FnOk X.prog X.w X.K X.mg X.base CX k g fd ps sp) (hr : Room k X.A) (hb : Binds X.K fd ps []) (hx : Passes CX X E) :
    OpR X (compareOp .Lt) (fun x y H Q => ∃ n a dx fs, x = .int n ∧ y = .ref a ∧ H a = some (.ins C dx fs) ∧ sp [y, x] H Q E) :=
  op_cmpI (op := .Lt) (fun _ _ => rfl) hs hf PySem.F.slot_int_lt PySem.F.entry_int_lt (fun a b => PySem.F.args_int_lt_2 a b) rfl hsub F hr hb hx
theorem op_eqI (hs : PySem.W.findIn X.K (.ref C) "__eq__" = some (some (.ref g))) (hf : PySem.W.isFn X.K (.ref g) = true) (hsub : PySem.W.subIn X.K (.ref C) (.type "int") = some false)
    (F : FnOk X.prog X.w X.K X.mg X.base CX k g fd ps sp) (hr : Room k X.A) (hb : Binds X.K fd ps []) (hx : Passes CX X E) :
    OpR X (compareOp .Eq) (fun x y H Q => ∃ n a dx fs, x = .int n ∧ y = .ref a ∧ H a = some (.ins C dx fs) ∧ sp [y, x] H Q E) :=
  op_cmpI (op := .Eq) (fun _ _ => rfl) hs hf PySem.F.slot_int_eq PySem.F.entry_int_eq (fun a b => PySem.F.args_int_eq_2 a b) rfl hsub F hr hb hx
/-- x != y by the class's == -/
theorem op_neOwn (hne : PySem.W.findIn X.K (.ref C) "__ne__" = some (some (.builtin "object.__ne__"))) (hob : PySem.W.mroIn X.K C (.type "object") = some true) (hs : PySem.W.findIn X.K (.ref C) "__eq__" = some (some (.ref g))) (hf : PySem.W.isFn X.K (.ref g) = true)
    (F : FnOk X.prog X.w X.K X.mg X.base CX k g fd ps sp) (hr : Room (k + 1) X.A) (hb : Binds X.K fd ps []) (hx : Passes CX X E) :
    OpR X (compareOp .NotEq) (fun x y H Q => ∃ a dx fs t, x = .ref a ∧ H a = some (.ins C dx fs) ∧ TyX X.K H y t ∧ PySem.W.notFirst X.K C t = true ∧ sp [x, y] H (fun z H' => ∃ r, z = .bl r ∧ Q (.bl (!r)) H') E) := by
  intro pins s σ H x y v u Q I rx ry h
  obtain ⟨a, dx, fs, t, rfl, ha, ty, hn, z⟩ := h
  cases (show v = Value.ref a from rx)
  obtain ⟨mA, O, _⟩ := ins_get I.hok ha
  obtain ⟨od, J, _⟩ := O.look
  have hr1 : Room k X.A.in1 := hr.in1
  have r1 : Vals [V.ref a, y] [Value.ref a, u] := .cons rfl (.cons ry .nil)
  have hl : ([Value.ref a, u] ++ []).length = ps.length := by
    have e := F.len _ _ _ _ z
    exact e
  have bd : BindsTo s fd ⟨[Value.ref a, u], []⟩ (ps.zip [Value.ref a, u]) := by
    have b1 := hb s [Value.ref a, u] I.kIn hl
    rw [List.append_nil] at b1
    exact b1
  show wpAny _ _ (richCompare .NotEq (.ref a) u) _ _ _
  refine PySem.OwnOps.own_ne (Nat.lt_of_le_of_lt (Nat.add_le_add_left (by decide : 1 ≤ 64) _) hr.units) I.kIn J (ty_looks I ry ty) hn hne hob hs hf ?_
  refine wpAny_call (codeAny_mono (F.run X.A.in1 X.stack s H _ _ _ _ E hr1 I.env0.in1 bd r1 z) fun r s' hq => ?_)
  match r, hq with
  | .error e, hq => exact hx pins σ H s e s' I hq
  | .ok (.ret w), hq =>
    obtain ⟨z', H', I', rz, r, rfl, qz⟩ := I.after hq
    cases rz
    exact ⟨r, rfl, .bl (!r), H', I', rfl, qz⟩
  | .ok .next, hq => exact hq.elim
  | .ok .brk, hq => exact hq.elim
  | .ok .cont, hq => exact hq.elim
end
end L2

set_option Elab.async false
set_option linter.all false
set_option maxRecDepth 100000
set_option maxHeartbeats 2000000
namespace L2
open PySem PySem.Spec PyProof.Rows
/-- C(e, ..) in a try: what is raised is wished for at the slots as they stand -/
def tMakeS (C : Addr) (sp : Sp) (dvs : List V) (E : St → XK) (t : TA) : TE := fun σ H Q => t σ H fun vs H1 => ∀ x dx, H1 x = none → H1 dx = none → dx ≠ x →
  sp (.ref x :: (vs ++ dvs)) (upd (upd H1 dx (.own x)) x (.ins C dx [])) (fun v H2 => v = .non ∧ Q (.ref x) H2) (E σ)
section
variable {X : Cx} {CX : CXT} {k : Nat} {g C : Addr} {fd : FuncData} {ps : List Str} {sp : Sp} {dvs : List V} {ds : List Value} {E : St → XK} {x : Str} {p pos : Pos} {e : Expr} {es : List Expr} {t : TA}
theorem pe_makeS (M : Mk X.K C g) (F : FnOk X.prog X.w X.K X.mg X.base CX k g fd ps sp) (hr : Room (k + 1) X.A) (hg : Gl X x) (hm : X.mg x = some (.ref C)) (hb : Binds X.K fd ps ds) (hd : Vals dvs ds) (hx : ∀ σ, PassesAt CX X σ (E σ))
    (ha : PA X (e :: es) t) (hdb : (x == ("__debug__" : Str)) = false := by decide) (he : starEach (e :: es) X.env = (false, eval e X.env) :: starEach es X.env := by rfl) (hpl : (backTo pos (starEach es X.env)).any (·.1) = false := by rfl) :
    PE X (.Call (.Name x p) (e :: es) [] pos) (tMakeS C sp dvs E t) := by
  constructor
  intro pins s σ H Q I0 h0
  refine wpAny_Call_Name_kw (ld_glob I0 hg hm ?_ hdb)
  refine PySem.W.callWith_K (h₀ := X.base) I0.ok.mod.kin M.kp (thn (ha.run pos pins s σ H _ I0 h0) fun us s1 hh => ?_) he hpl
  obtain ⟨vs, H1, I, r, h⟩ := hh
  refine ⟨I.kIn, ?_⟩
  have hq := h (s1.heap.objs.size + 1) s1.heap.objs.size (I.hok.fresh (Nat.le_succ _)) (I.hok.fresh (Nat.le_refl _)) (Nat.ne_of_lt (Nat.lt_succ_self _))
  have J := Inv.made (C := C) I
  have rr : Vals (V.ref (s1.heap.objs.size + 1) :: (vs ++ dvs)) (Value.ref (s1.heap.objs.size + 1) :: (us ++ ds)) := .cons rfl (r.append hd)
  have ll : (Value.ref (s1.heap.objs.size + 1) :: us ++ ds).length = ps.length := by
    have z := rr.length
    rw [F.len _ _ _ _ hq] at z
    exact z.symm
  have bd := hb { s1 with heap := (s1.heap.push PySem.W.emptyDict).push (PySem.W.instObj C s1.heap.objs.size) } (Value.ref (s1.heap.objs.size + 1) :: us) J.kIn ll
  show wpAny _ _ (call (.ref C) us) _ _ _
  refine wpAny_call (make_map (f := g) I.kIn M.makes M.init (beq_iff_eq.mp M.fn) (codeAny_mono (F.run _ X.stack _ _ _ _ _ _ (E σ) (hr.make C us []) (J.env0.make C us []) bd rr hq) fun res s' z => ?_))
  match res, z with
  | .error er, z => exact hx σ pins _ _ er s' J z
  | .ok (.ret u), z =>
    obtain ⟨v, H', I3, rv, ev, q3⟩ := J.after z
    subst ev
    exact ⟨rv, V.ref (s1.heap.objs.size + 1), H', I3, rfl, q3⟩
  | .ok .next, z => exact z.elim
  | .ok .brk, z => exact z.elim
  | .ok .cont, z => exact z.elim
end
end L2

set_option Elab.async false
set_option linter.all false
set_option maxRecDepth 100000
/-! len(set(xs)), xs a list or a tuple of any texts -/
namespace TxS
open PySem PySem.Spec PyProof.Rows
/-- one text more among those that were met -/
def put (l : List Str) (x : Str) : List Str := if x ∈ l then l else l ++ [x]
def met (xs : List Str) : List Str := xs.foldl put []
theorem met_snoc (xs : List Str) (x : Str) : met (xs ++ [x]) = put (met xs) x := by
  unfold met
  rw [List.foldl_append]
  rfl
theorem mem_put {l : List Str} {x y : Str} : y ∈ put l x ↔ y ∈ l ∨ y = x := by
  unfold put
  split
  · rename_i h
    constructor
    · exact .inl
    · rintro (h' | rfl)
      · exact h'
      · exact h
  · rw [List.mem_append, List.mem_singleton]
theorem mem_met : ∀ (xs : List Str) (y : Str), y ∈ met xs ↔ y ∈ xs := by
  intro xs y
  have go : ∀ (r l : List Str), y ∈ r.foldl put l ↔ y ∈ l ∨ y ∈ r := by
    intro r
    induction r with
    | nil => intro l; simp
    | cons x r ih => intro l; rw [List.foldl_cons, ih, mem_put, List.mem_cons, or_assoc]
  rw [show met xs = xs.foldl put [] from rfl, go]
  simp
theorem put_len (l : List Str) (x : Str) : (put l x).length = if x ∈ l then l.length else l.length + 1 := by
  unfold put
  split
  · rfl
  · rw [List.length_append]
    rfl
/-- as many were met as there are texts: no text twice -/
theorem met_nodup (xs : List Str) : (met xs).length ≤ xs.length ∧ ((met xs).length = xs.length ↔ xs.Nodup) := by
  have go : ∀ (r l : List Str), l.Nodup → (r.foldl put l).length ≤ l.length + r.length ∧ ((r.foldl put l).length = l.length + r.length ↔ (l ++ r).Nodup) := by
    intro r
    induction r with
    | nil =>
      intro l h
      rw [List.append_nil]
      exact ⟨Nat.le_refl _, fun _ => h, fun _ => rfl⟩
    | cons x r ih =>
      intro l h
      rw [List.foldl_cons, List.length_cons]
      by_cases e : x ∈ l
      · have p : put l x = l := if_pos e
        obtain ⟨i1, i2⟩ := ih l h
        rw [p]
        refine ⟨by omega, fun z => by omega, fun z => ?_⟩
        have d := (List.nodup_append.mp z).2.2 x e x List.mem_cons_self
        exact absurd rfl d
      · have p : put l x = l ++ [x] := if_neg e
        have hn : (l ++ [x]).Nodup := by
          rw [List.nodup_append]
          refine ⟨h, by simp, fun a ha b hb => ?_⟩
          rw [List.mem_singleton.mp hb]
          exact fun z => e (by rw [← z]; exact ha)
        obtain ⟨i1, i2⟩ := ih (l ++ [x]) hn
        rw [p]
        rw [List.length_append, List.length_singleton] at i1 i2
        refine ⟨by omega, ?_⟩
        rw [show l ++ x :: r = (l ++ [x]) ++ r by rw [List.append_assoc]; rfl]
        rw [← i2]
        omega
  have z := go xs [] List.nodup_nil
  rw [List.length_nil, Nat.zero_add, List.nil_append] at z
  exact z
section
variable {prog : Program} {w : World}
/-- the texts of l stand in the set at a -/
def Has (prog : Program) (w : World) (h : Heap) (a : Addr) (l : List Str) : Prop := h.SetOf (PySem.strKind prog w) a (fun k => decide (k ∈ l)) l.length
theorem Has.keep {h h' : Heap} {a : Addr} {l : List Str} (x : Has prog w h a l) (k : ∀ o, h.get? a = some o → h'.get? a = some o) : Has prog w h' a l := by
  obtain ⟨o, es, ep, t, ho, more⟩ := x
  exact ⟨o, es, ep, t, k o ho, more⟩
theorem adds {A : Around} {E : Value → Shared → Prop} {s : Shared} {a : Addr} {l : List Str} {x : Str} {t : Tok} {Q : Bool → Shared → Prop} (hs : Has prog w s.heap a l) (room : l.length + 1 < scanBound)
    (h : ∀ h', Heap.SameBut a s.heap h' → Has prog w h' a (put l x) → ∀ b, Q b { s with heap := h', toks := s.toks + 1 }) : wpAny (model prog w) A (holding [Value.str x t] (setAdd a (.str x t))) Q E s := by
  refine wpAny_holding ?_
  unfold setAdd
  refine wpAny_holding (wpAny_bind ((PySem.strKind prog w).pyHash (k := x) (strKind_is _ _ _ _) ?_))
  refine wpAny_setAddHashed_of (knd := PySem.strKind prog w) (s := { s with toks := s.toks + 1 }) (strKind_is _ _ _ _) rfl hs room fun h' sb z => h h' sb ?_ _
  refine SetOf_congr z (fun k => ?_) ?_
  · rw [← Bool.decide_or]
    exact decide_eq_decide.mpr mem_put.symm
  · rw [put_len]
    by_cases e : x ∈ l
    · rw [if_pos e, if_pos (decide_eq_true e)]
    · rw [if_neg e, if_neg (by rw [decide_eq_false e]; exact Bool.false_ne_true)]
/-- the texts that a walk gives are added one by one -/
theorem each {A : Around} {R : Result → Shared → Prop} {it S : Addr} {fp wr : List Addr} {G : Array GenState → Array GenState → Prop} {n : Nat} {P : Nat → Value → Prop} {St : Nat → Shared → Prop} (W : WalksS prog w A.in1 it fp wr G n P St) (out : S ∉ fp) (xs : List Str) (len : xs.length = n)
    (room : n + 1 < scanBound) (txt : ∀ i v, P i v → ∃ x t, xs[i]? = some x ∧ v = .str x t) (d : Nat) : ∀ (i : Nat) (s : Shared), n - i = d → i ≤ n → St i s → Has prog w s.heap S (met (xs.take i)) →
      (∀ s2, Moved (S :: wr) G s s2 → Has prog w s2.heap S (met xs) → R (.ok (.ret .none)) s2) → codeAny (model prog w) A (.builtin "set.update.loop" ⟨[.ref S, .ref it], []⟩) R s := by
  have nw : S ∉ wr := fun z => out (W.sub _ z)
  have up : ∀ b ∈ wr, b ∈ S :: wr := fun b z => List.mem_cons_of_mem _ z
  induction d with
  | zero =>
    intro i s hd hi st hs fin
    obtain rfl : i = n := by omega
    refine codeAny_builtin PyProof.Rows.F.entry_set_update_loop ?_
    rw [Around.under_plainId PyProof.Rows.F.plain_set_update_loop _]
    show wpAny _ A.in1 (pyNext (.ref it) >>= _) _ _ s
    refine wpAny_bind (W.done s _ _ st fun s2 mv => ?_)
    refine wpAny_pure (fin s2 (mv.mono up) ?_)
    rw [List.take_of_length_le (by omega)] at hs
    exact hs.keep fun o e => mv.heap S o nw e
  | succ d ih =>
    intro i s hd hi st hs fin
    refine codeAny_builtin PyProof.Rows.F.entry_set_update_loop ?_
    rw [Around.under_plainId PyProof.Rows.F.plain_set_update_loop _]
    show wpAny _ A.in1 (pyNext (.ref it) >>= _) _ _ s
    refine wpAny_bind (W.item i s _ _ (by omega) st fun v s2 hp st2 mv => ?_)
    obtain ⟨x, t, hx, rfl⟩ := txt i v hp
    have nx : xs.take (i + 1) = xs.take i ++ [x] := by
      rw [List.take_add_one, hx]
      rfl
    have ln := (met_nodup (xs.take i)).1
    rw [List.length_take] at ln
    refine wpAny_bind (adds (hs.keep fun o e => mv.heap S o nw e) (by omega) fun h3 sb has b => ?_)
    rw [← met_snoc, ← nx] at has
    refine wpAny_pure ⟨plainId_quiet PyProof.Rows.F.plain_set_update_loop _, ih (i + 1) _ (by omega) (by omega) (W.frame _ s2 _ _ st2 (Nat.le_succ _) fun c hc o e => ?_) has fun s4 mv4 z => ?_⟩
    · rw [sb.2 c fun q => out (q ▸ hc)]
      exact e
    · refine fin s4 (Moved.trans W.gtrans ((mv.mono up).then_heap (Nat.le_succ _) fun c o hc e => ?_) mv4) z
      rw [sb.2 c fun q => hc (q ▸ List.mem_cons_self)]
      exact e
end
end TxS

set_option Elab.async false
set_option linter.all false
set_option maxRecDepth 100000
namespace TxS
open PySem PySem.Spec PyProof.Rows
/-- an empty set that was laid just now -/
abbrev bare (led : Bool) : Obj := { cls := .type "set", dict := none, data := .set #[] 0 (.fresh 0 0 led) }
section
variable {prog : Program} {w : World} {A : Around} {E : Value → Shared → Prop} {s : Shared}
set_option maxHeartbeats 3200000 in
theorem made {T : String} (hT : T = "list" ∨ T = "tuple") {l : Addr} {oc : Option Addr} {sl : Array (Option Value)} {items : Array Value} {nl : Nat} {xs : List Str} {Q : Value → Shared → Prop} (hh : A.handled = none) (at_ : s.heap.get? l = some { cls := .type T, dict := oc, data := .seq items nl, slots := sl })
    (txt : ∀ (i : Nat) (v : Value), items[i]? = some v → ∃ x t, xs[i]? = some x ∧ v = Value.str x t) (len : xs.length = items.size) (room : items.size + 1 < scanBound)
    (h : ∀ (h' : Heap) (tk : Nat), Has prog w h' s.heap.objs.size (met xs) → (∀ b o, b < s.heap.objs.size → s.heap.get? b = some o → h'.get? b = some o) → Q (.ref s.heap.objs.size) { s with heap := h', toks := tk }) : wpAny (model prog w) A (call (.type "set") [.ref l]) Q E s := by
  have lS : l < s.heap.objs.size := Heap.lt_size at_
  have m1 := PySem.F.called_set.mro
  obtain ⟨c, tl, m1⟩ := m1
  have m2 := PySem.F.called_set.made
  have m3 := PySem.F.called_set.sub
  have m4 := PySem.F.called_set.notType
  have m5 := PySem.F.called_set.canCreate
  have m6 := PySem.F.typeCall_set_1 (.ref l)
  refine wpAny_call (codeAny_of_tree ?_)
  show wpAny _ _ (callAny (.type "set") _) _ _ _
  refine wpAny_pure ⟨Code.quiet_builtin _ (by decide +kernel), codeAny_builtin PySem.F.entry_type_call ?_⟩
  rw [Around.under_plain (weight_type_call_type "set" [.ref l] []) rfl]
  repeat (any_goals (first | assumption | wp_step))
  refine codeAny_mono (code_set_new_1 (.ref l) (E := E) (Q₁ := fun u s1 => ∃ led, u = .ref s.heap.objs.size ∧ s1 = { s with heap := s.heap.push (bare led) }) fun led => ⟨led, rfl, rfl⟩) fun r s1 hr => ?_
  rcases r with e | f
  · exact hr
  rcases f with u | _ | _ | _
  rotate_left
  all_goals first | exact hr.elim | skip
  obtain ⟨led, rfl, rfl⟩ := hr
  have hS : (s.heap.push (bare led)).get? s.heap.objs.size = some (bare led) := Heap.get?_push_size _ rfl
  have tS : Shared.TypeIs { s with heap := s.heap.push (bare led) } (.ref s.heap.objs.size) "set" := ⟨_, hS, rfl⟩
  have i1 := PySem.F.called_set.init.lookup
  have i2 := PySem.F.called_set.init.bind (.ref s.heap.objs.size)
  repeat (any_goals (first | assumption | wp_step))
  refine codeAny_mono (codeAny_call_builtin (R := wants (fun u s2 => u = .none ∧ ∃ h' tk, s2 = { s with heap := h', toks := tk } ∧ Has prog w h' s.heap.objs.size (met xs) ∧ ∀ b o, b < s.heap.objs.size → s.heap.get? b = some o → h'.get? b = some o) E)
    PySem.F.called_set.init.plain PySem.F.entry_set_init (check_set_init_1 tS ?_)) fun r s2 hr => ?_
  · have at2 : (s.heap.push (bare led)).get? l = some { cls := .type T, dict := oc, data := .seq items nl, slots := sl } := Heap.get?_push_of_some _ at_
    have h3 : A.in1.in1.in1.handled = none := by simp [hh]
    have ne1 : l ≠ (s.heap.push (bare led)).objs.size := by
      rw [Heap.size_push]
      exact Nat.ne_of_lt (Nat.lt_succ_of_lt lS)
    have out : s.heap.objs.size ∉ [(s.heap.push (bare led)).objs.size, l] := by
      rw [Heap.size_push]
      simp only [List.mem_cons, List.not_mem_nil, or_false, not_or]
      exact ⟨Nat.ne_of_lt (Nat.lt_succ_self _), Nat.ne_of_gt lS⟩
    have last : ∀ (cls : String) (s2 : Shared), Moved [s.heap.objs.size, (s.heap.push (bare led)).objs.size] (fun a b => b = a) { s with heap := (s.heap.push (bare led)).push { cls := .type cls, data := .fields #[.ref l, .int 0 0] } } s2 → Has prog w s2.heap s.heap.objs.size (met xs) →
        wants (fun u s2 => u = .none ∧ ∃ h' tk, s2 = { s with heap := h', toks := tk } ∧ Has prog w h' s.heap.objs.size (met xs) ∧ ∀ b o, b < s.heap.objs.size → s.heap.get? b = some o → h'.get? b = some o) E (.ok (.ret .none)) s2 := fun cls s2 mv hs => by
      obtain ⟨h2, g2, d2, k2, os2⟩ := s2
      obtain rfl : g2 = s.gens := mv.gens
      obtain rfl : d2 = s.drawn := mv.drawn
      obtain rfl : os2 = s.os := mv.os
      refine ⟨rfl, h2, k2, rfl, hs, fun b o lt e => mv.heap b o ?_ (Heap.get?_push_of_some _ (Heap.get?_push_of_some _ e))⟩
      rw [Heap.size_push]
      simp only [List.mem_cons, List.not_mem_nil, or_false, not_or]
      exact ⟨Nat.ne_of_lt lt, Nat.ne_of_lt (Nat.lt_succ_of_lt lt)⟩
    have first : ∀ cls : String, Has prog w ((s.heap.push (bare led)).push { cls := .type cls, data := .fields #[.ref l, .int 0 0] }) s.heap.objs.size (met (xs.take 0)) := fun cls =>
      SetOf_congr ((setObjOf_fresh (knd := PySem.strKind prog w) led).setOf (Heap.get?_push_of_some _ hS) (by unfold scanBound; omega)) (fun _ => rfl) rfl
    rcases hT with rfl | rfl
    · have n1 : (Value.type "list" == Value.type "dict") = false := by decide
      have n2 := PySem.F.sub_list_set
      have n3 := PySem.F.sub_list_frozenset
      have il : (s.heap.push (bare led)).IsList l items := ⟨_, at2, rfl, nl, rfl⟩
      unfold Builtin.«set.__init__» noKeywords Builtin.Frozenset.updateFrom
      generalize hPI : pyIter = PI
      wp_walk
      subst hPI
      refine wpAny_pyIter_list il (wpAny_bind (wpAny_runValue ?_))
      refine each ((Walks.list h3 _ l ne1 items).toS) out xs len room txt (items.size - 0) 0 _ rfl (Nat.zero_le _) ⟨⟨_, Heap.get?_push_size _ rfl, rfl, rfl⟩, il.push _⟩ (first _) fun s2 mv hs => ?_
      exact wpAny_pure (wpAny_pure (last _ s2 mv hs))
    · have n1 : (Value.type "tuple" == Value.type "dict") = false := by decide
      have n2 := PySem.F.sub_tuple_set
      have n3 := PySem.F.sub_tuple_frozenset
      have il : (s.heap.push (bare led)).IsTuple l items := ⟨_, at2, rfl, nl, rfl⟩
      unfold Builtin.«set.__init__» noKeywords Builtin.Frozenset.updateFrom
      generalize hPI : pyIter = PI
      wp_walk
      subst hPI
      refine wpAny_pyIter_tuple il (wpAny_bind (wpAny_runValue ?_))
      refine each ((Walks.tuple h3 _ l ne1 items).toS) out xs len room txt (items.size - 0) 0 _ rfl (Nat.zero_le _) ⟨⟨_, Heap.get?_push_size _ rfl, rfl, rfl⟩, il.push _⟩ (first _) fun s2 mv hs => ?_
      exact wpAny_pure (wpAny_pure (last _ s2 mv hs))
  · rcases r with e | f
    · exact hr
    rcases f with u | _ | _ | _
    rotate_left
    all_goals first | exact hr.elim | skip
    obtain ⟨rfl, h2, tk, rfl, hs, kp⟩ := hr
    repeat (any_goals (first | assumption | wp_step))
    exact h _ _ hs kp
end
end TxS

set_option Elab.async false
set_option linter.all false
set_option maxRecDepth 100000
set_option maxHeartbeats 4000000
namespace L2
open PySem PySem.Spec PyProof.Rows
/-- len(set(row)), the row all texts -/
def tLenTx (K : PySem.W.Frag) (ta : TE) : TE := fun σ H Q => ta σ H fun x H1 => ∃ l, ∃ xs : List Str, x = .ref l ∧ (SqL K H1 l (xs.map V.str) ∨ SqT K H1 l (xs.map V.str)) ∧ xs.length ≤ 100 ∧ Q (.int ((TxS.met xs).length : Int)) H1
theorem strs_get {xs : List Str} {us : List Value} (r : Vals (xs.map V.str) us) (i : Nat) (v : Value) (h : us.toArray[i]? = some v) : ∃ x t, xs[i]? = some x ∧ v = Value.str x t := by
  rw [List.getElem?_toArray] at h
  obtain ⟨t, e⟩ := SS.strs_at (strsAre_of r) i v h
  have l := r.length
  rw [List.length_map] at l
  have hi : i < xs.length := by
    have := (List.getElem?_eq_some_iff.mp h).1
    omega
  refine ⟨xs[i], t, List.getElem?_eq_getElem hi, ?_⟩
  rw [e, List.getD_eq_getElem?_getD, List.getElem?_eq_getElem hi]
  rfl
section
variable {X : Cx}
theorem pe_lenTx {a : Expr} {ta : TE} {p p2 q pos : Pos} (hc : X.calm = true) (hg : Gl X "len") (hm : X.mg "len" = none) (hg2 : Gl X "set") (hm2 : X.mg "set" = none) (ha : PE X a ta) (na : starEach [a] X.env = (false, eval a X.env) :: starEach [] X.env := by rfl) :
    PE X (.Call (.Name "len" p) [.Call (.Name "set" p2) [a] [] q] [] pos) (tLenTx X.K ta) := by
  constructor
  intro pins s σ H Q I h
  refine Call_ (ld_blt I hg hm boot_len (PyProof.Rows.callWith_builtin1 (PyProof.Rows.args_cons ?_ rfl) rfl rfl))
  refine Call_ (ld_blt I hg2 hm2 boot_set (PyProof.Rows.callWith_type1 (PyProof.Rows.args_cons (thn (ha.run pins s σ H _ I h) fun v s1 hh => PyProof.Rows.args_nil ?_) na) na rfl))
  obtain ⟨x, H1, I1, r1, l, xs, rfl, hq, h1, q1⟩ := hh
  cases r1
  have fin : ∀ (h' : Heap) (tk : Nat), TxS.Has X.prog X.w h' s1.heap.objs.size (TxS.met xs) → (∀ b o, b < s1.heap.objs.size → s1.heap.get? b = some o → h'.get? b = some o) →
      wpAny (model X.prog X.w) X.A (spliced (backTo pos (starEach [] X.env))) (fun vs s2 => wpAny (model X.prog X.w) X.A (call (.builtin "len") (Value.ref s1.heap.objs.size :: vs)) (EP X pins σ Q) X.xe s2) X.xe { s1 with heap := h', toks := tk } := fun h' tk hs kp => by
    obtain ⟨o, es, ep, t, ho, hex, hd, _, _, _, hf, hn⟩ := hs
    have I2 : Inv X pins σ H1 { s1 with heap := h', toks := tk } := I1.kept fun b o e => kp b o (Heap.lt_size e) e
    have le := (TxS.met_nodup xs).1
    exact PyProof.Rows.args_nil (call_len_set ho hex hd hf (by rw [hn]; omega) ⟨.int _, H1, I2.tok _, ⟨_, by rw [hn]⟩, q1⟩)
  have room : 100 + 1 < scanBound := by unfold scanBound; omega
  rcases hq with hq | hq
  · obtain ⟨its, r, pl, hz⟩ := I1.list hq
    obtain ⟨⟨oc, od, odt, osl⟩, ho, hc', nl, hdl⟩ := pl.isList
    dsimp only at hc' hdl
    subst hc' hdl
    have ln := r.length
    rw [List.length_map] at ln
    exact TxS.made (.inl rfl) (I1.ok.hd hc) ho (strs_get r) (by rw [List.size_toArray, ← ln]) (by rw [List.size_toArray, ← ln]; omega) fun h' tk hs kp => fin h' tk hs kp
  · obtain ⟨its, r, pl, hz⟩ := I1.tuple hq
    obtain ⟨⟨oc, od, odt, osl⟩, ho, hc', nl, hdl⟩ := (show s1.heap.IsTuple l its.toArray from pl)
    dsimp only at hc' hdl
    subst hc' hdl
    have ln := r.length
    rw [List.length_map] at ln
    exact TxS.made (.inr rfl) (I1.ok.hd hc) ho (strs_get r) (by rw [List.size_toArray, ← ln]) (by rw [List.size_toArray, ← ln]; omega) fun h' tk hs kp => fin h' tk hs kp
end
end L2

set_option Elab.async false
set_option linter.all false
set_option maxRecDepth 100000
set_option maxHeartbeats 4000000
/-! t[::-1], t a tuple -/
namespace TupBack
open PySem PySem.Calls PySem.Spec PyProof.Rows HT
section
variable {prog : Program} {w : World} {A : Around} {E : Value → Shared → Prop} {s : Shared}
theorem adjust (n : Nat) : Builtin.Slice.sliceAdjust none none (-1) (n : Int) = ((n : Int) - 1, -1) := by
  unfold Builtin.Slice.sliceAdjust
  have h1 : ((-1 : Int) < 0) := by decide
  simp only [h1, if_true]
theorem places (n : Nat) : Builtin.Slice.slicePlaces ((n : Int) - 1) (-1) (-1) = n := by
  unfold Builtin.Slice.slicePlaces
  have h1 : ¬ ((-1 : Int) > 0) := by decide
  have h2 : (- (-1 : Int)) = 1 := by decide
  simp only [h1, if_false, h2, Int.ediv_one]
  split <;> omega
theorem applied {sl : Addr} {vl vu vs : Value} {n : Nat} {Q : Int × Int × Nat → Shared → Prop} (hs : s.heap.IsSliceOf sl vl vu vs) (pl : IsPart vl none) (pu : IsPart vu none) (ps : IsPart vs (some (-1)))
    (h : Q ((n : Int) - 1, -1, n) s) : wpAny (model prog w) A (Builtin.Slice.sliceApplied (.ref sl) (pure (n : Int))) Q E s := by
  obtain ⟨os, hos, hcs, hds⟩ := id hs
  unfold Builtin.Slice.sliceApplied Builtin.Slice.sliceFields
  refine wpAny_bind (wpAny_bind (wpAny_field hos hds (x := vl) rfl (wpAny_bind (wpAny_field hos hds (x := vu) rfl (wpAny_bind (wpAny_field hos hds (x := vs) rfl (wpAny_pure ?_)))))))
  refine wpAny_bind (HT.slicePart_ ps ?_)
  show wpAny _ _ (if ((-1 : Int) == 0) = true then _ else _) _ _ s
  rw [if_neg (by decide)]
  refine wpAny_bind (HT.slicePart_ pl (wpAny_bind (HT.slicePart_ pu (wpAny_bind (wpAny_pure ?_)))))
  show wpAny _ _ (match Builtin.Slice.sliceAdjust none none (-1) (n : Int) with | (lo, hi) => pure (lo, (-1 : Int), Builtin.Slice.slicePlaces lo hi (-1))) _ _ s
  rw [adjust]
  show wpAny _ _ (pure ((n : Int) - 1, (-1 : Int), Builtin.Slice.slicePlaces ((n : Int) - 1) (-1) (-1))) _ _ s
  rw [places]
  exact wpAny_pure h
theorem fm_congr {α β : Type} {f g : α → Option β} : ∀ {l : List α}, (∀ x ∈ l, f x = g x) → l.filterMap f = l.filterMap g
  | [], _ => rfl
  | a :: r, h => by
    rw [List.filterMap_cons, List.filterMap_cons, h a List.mem_cons_self, fm_congr fun x hx => h x (List.mem_cons_of_mem _ hx)]
theorem pick (xs : Array Value) : ((List.range xs.size).filterMap fun (k : Nat) => xs[(((xs.size : Int) - 1) + (k : Int) * (-1)).toNat]?).toArray = xs.toList.reverse.toArray := by
  have e : (List.range xs.size).filterMap (fun (k : Nat) => xs[(((xs.size : Int) - 1) + (k : Int) * (-1)).toNat]?) = ((List.range xs.size).map fun k => xs.size - 1 - k).filterMap (xs[·]?) := by
    rw [List.filterMap_map]
    refine fm_congr fun k hk => ?_
    have := List.mem_range.mp hk
    have e : (((xs.size : Int) - 1) + (k : Int) * (-1)).toNat = xs.size - 1 - k := by omega
    show xs[(((xs.size : Int) - 1) + (k : Int) * (-1)).toNat]? = xs[xs.size - 1 - k]?
    rw [e]
  rw [e, PySem.W.krv_range, List.filterMap_reverse, PySem.W.krv_all]
theorem getItem {t sl : Addr} {items : Array Value} {vl vu vs : Value} {Q : Value → Shared → Prop} (ht : IsTup s.heap t items) (hs : s.heap.IsSliceOf sl vl vu vs) (pl : IsPart vl none) (pu : IsPart vu none) (ps : IsPart vs (some (-1)))
    (h : Q (.ref s.heap.objs.size) { s with heap := s.heap.push { cls := .type "tuple", data := .seq items.toList.reverse.toArray } })
    (hsz : items.size ≤ sizeLine) : wpAny (model prog w) A (PySem.getItem (.ref t) (.ref sl)) Q E s := by
  have htake : sizeOk (.seq items.toList.reverse.toArray) := by
    show (items.toList.reverse.toArray).size ≤ sizeLine
    rw [List.size_toArray, List.length_reverse, Array.length_toList]
    exact hsz
  obtain ⟨os, hos, hcs, hds⟩ := id hs
  have hTs : s.TypeIs (.ref sl) "slice" := ⟨os, hos, hcs⟩
  unfold PySem.getItem
  try with_reducible refine wpAny_holding ?_
  first | refine wpAny_bind (wpAny_pure ?_) | skip
  refine wpAny_bind (wpAny_sequenceKey ht.typeIs (by decide) ?_)
  refine wpAny_bind (wpAny_callSpecial?_slot (name := Str.ofString "__getitem__") ht.typeIs PyProof.Rows.slot_tuple_getitem
    (wpAny_call_entry PyProof.Rows.slot_tuple_getitem ht.typeIs entry_tuple_getitem ?_ (args_tuple_getitem _ _)))
  show wpAny _ _ (Builtin.Tuple.tupleItemsOf (.ref t) >>= _) _ _ s
  refine wpAny_bind (tupleItemsOf_ ht ?_)
  refine wpAny_bind (wpAny_typeOf hTs ?_)
  rw [if_pos (by decide)]
  refine wpAny_bind (applied hs pl pu ps ?_)
  have hno : ¬ ((((items.size : Int) - 1) == 0 && (-1 : Int) == 1 && items.size == items.size) = true) := by
    intro q
    rw [Bool.and_eq_true, Bool.and_eq_true] at q
    exact absurd q.1.2 (by decide)
  show wpAny _ _ (if (((items.size : Int) - 1) == 0 && (-1 : Int) == 1 && items.size == items.size) = true then _ else _) _ _ s
  rw [if_neg hno, pick]
  first
    | exact wpAny_bind (m := Builtin.Tuple.tupleExact _) (wpAny_newObj_type (wpAny_pure ⟨_, rfl, wpAny_pure h⟩) htake)
    | exact wpAny_bind (m := Builtin.Tuple.tupleExact _) (wpAny_newObj_type (wpAny_bind (wpAny_pure (wpAny_pure ⟨_, rfl, wpAny_pure h⟩))) htake)
    | exact wpAny_bind (wpAny_bind (m := Builtin.Tuple.tupleExact _) (wpAny_newObj_type (wpAny_pure (wpAny_pure ⟨_, rfl, wpAny_pure h⟩)) htake))
    | exact wpAny_bind (wpAny_bind (m := Builtin.Tuple.tupleExact _) (wpAny_newObj_type (wpAny_pure ⟨_, rfl, wpAny_pure h⟩) htake))
end
end TupBack
namespace L2
open PySem PySem.Spec PyProof.Rows
def tRevT (K : PySem.W.Frag) (te : TE) : TE := fun σ H Q => te σ H fun x H1 => ∃ a xs, x = .ref a ∧ SqT K H1 a xs ∧ ∀ p, H1 p = none → Q (.ref p) (upd H1 p (.tup xs.reverse))
theorem pe_revT {X : Cx} {e : Expr} {te : TE} {k : Nat} {p1 p2 p3 pos : Pos} (he : PE X e te) : PE X (.Subscript e (.Slice none none (some (.UnaryOp .USub (.Constant (.int 1) k p1) p2)) p3) pos) (tRevT X.K te) := by
  refine ⟨fun pins s σ H Q I h => ?_⟩
  refine Subscript_ (thn (he.run pins s σ H _ I h) fun v s1 ⟨x, H1, I1, r1, q1⟩ => ?_)
  obtain ⟨a, xs, ex, hx, q⟩ := q1
  subst ex
  cases r1
  have hst : PO X (some (.UnaryOp .USub (.Constant (.int 1) k p1) p2)) (tPart (tUn (rU fun i => .int (-i)) (tC (.int 1)))) := po_some (pe_un un_neg pe_int)
  refine wpAny_Slice (thn (po_none.run pins s1 σ H1 (fun o H2 => o = none ∧ H2 = H1) I1 ⟨rfl, rfl⟩) fun vl s2 ⟨l, H2, I2, pl, el, e2⟩ => ?_)
  subst el e2
  refine thn (po_none.run pins s2 σ H2 (fun o H3 => o = none ∧ H3 = H2) I2 ⟨rfl, rfl⟩) fun vu s3 ⟨u, H3, I3, pu, eu, e3⟩ => ?_
  subst eu e3
  refine thn (hst.run pins s3 σ H3 (fun o H4 => o = some (-1) ∧ H4 = H3) I3 ⟨1, rfl, -1, rfl, rfl, rfl⟩) fun vs s4 ⟨o, H4, I4, ps, eo, e4⟩ => ?_
  subst eo e4
  have I5 : Inv X pins σ H4 { s4 with heap := s4.heap.push { cls := .type "slice", data := .fields #[vl, vu, vs] } } := I4.kept (t' := s4.toks) fun b ob q => Heap.get?_push_of_some _ q
  obtain ⟨its, r, ht, hz⟩ := I5.tuple hx
  have hlen := r.length
  show wpAny (model X.prog X.w) X.A (subscriptTail e (.Slice none none (some (.UnaryOp .USub (.Constant (.int 1) k p1) p2)) p3) (.ref a) (.ref s4.heap.objs.size)) (EP X pins σ Q) X.xe { s4 with heap := s4.heap.push { cls := .type "slice", data := .fields #[vl, vu, vs] } }
  refine tail_any (ops := [.ref a, .ref s4.heap.objs.size]) ht.typeIs (PyProof.Rows.slot_tuple_getitem.lookup) ?_ (by with_unfolding_all rfl)
  refine TupBack.getItem ht (Heap.IsSliceOf.new _ vl vu vs) pl pu ps ?_ (by rw [List.size_toArray]; omega)
  refine ⟨.ref _, _, I5.laid (t' := s4.toks) (o := .tup xs.reverse) (fun b ob q => Heap.get?_push_of_some _ q) (Nat.le_refl _) ?_, rfl, q _ (I5.hok.fresh (Nat.le_refl _))⟩
  exact ⟨by rw [List.length_reverse]; exact hz, _, r.reverse, IsTup.new _ _⟩
end L2

set_option Elab.async false
set_option linter.all false
set_option maxRecDepth 100000
set_option maxHeartbeats 4000000
/-! law k04: words for what its defs ask of things -/
namespace K4
open PySem L2 TL
def top (i : Nat) : Stmt := PySem.Challenge.pw_toldwithin_k04_grids_made_or_refused.main.body.getD i (.Pass ⟨0, 0, 0, 0⟩)
abbrev FnP (K : PySem.W.Frag) (x q : Str) (st : Stmt) (dvs : List V) (f : Addr) (fd : FuncData) : Prop := FunD K x q (defArgs st) (defBody st) (defScope st) dvs [] f fd
section
variable (P : Program) (w : World) (K : PySem.W.Frag) (mg : Str → Option Value) (base : Heap)
def GloOk (CX : CXT) (k : Nat) (x : Str) (ps : List Str) (sp : Sp) : Prop := ∃ f fd, FnOk P w K mg base CX k f fd ps sp ∧ mg x = some (.ref f) ∧ PySem.W.keepIn K (.ref f) = true ∧ Binds K fd ps []
def MthOk (C : Addr) (CX : CXT) (k : Nat) (m : Str) (ps : List Str) (sp : Sp) : Prop := ∃ f fd, FnOk P w K mg base CX k f fd ps sp ∧ Meth K C m f ∧ Binds K fd ps []
def MkOk (C : Addr) (CX : CXT) (k : Nat) (ps : List Str) (sp : Sp) : Prop := ∃ f fd, FnOk P w K mg base CX k f fd ps sp ∧ Mk K C f ∧ Binds K fd ps []
def ErrOk (E : Addr) (k : Nat) (ps : List Str) (sp : Sp) : Prop := ∃ f fd, FnOk P w K mg base CX0 k f fd ps sp ∧ PySem.W.findIn K (.ref E) "__init__" = some (some (.ref f)) ∧ PySem.W.typeIn K (.ref f) = some (.type "function") ∧ Binds K fd ps []
end
theorem itF {c : Bool} {A B : Prop} (h : c = false) (k : B) : if c = true then A else B := by
  subst h
  exact iteF k
theorem itT {c : Bool} {A B : Prop} (h : c = true) (k : A) : if c = true then A else B := by
  subst h
  exact iteT k
theorem dec_vi {i j : Int} : decide (V.int i = V.int j) = decide (i = j) := decide_eq_decide.mpr ⟨V.int.inj, congrArg V.int⟩
theorem big1000 {n : Nat} (h : n ≤ 1000) : n ≤ sizeLine := Nat.le_trans h (by decide)
theorem new {H : Hp} {p : Addr} {o : HO} (n : H p = none) : Same H (upd H p o) := fun b u e => by
  rw [upd_ne (ne_of_none e n)]
  exact e
theorem gname_step {i : Nat} {x : V} {σ : St} {H : Hp} {Q : St → Hp → Prop} (h : Q (σ.set i (some x)) H) : gName i x σ H Q := h
theorem at_any {xs : List V} {d : Int} (h0 : 0 ≤ d) (h1 : d < (xs.length : Int)) : ∃ v, v ∈ xs ∧ atI xs d = some v := by
  obtain ⟨n, rfl⟩ := Int.eq_ofNat_of_zero_le h0
  exact ⟨xs[n]'(by omega), List.getElem_mem _, atI_nat (List.getElem?_eq_getElem (by omega))⟩
/-- what of the text is asked -/
structure Txt (K : PySem.W.Frag) (mg : Str → Option Value) : Prop where
  isinst : mg "isinstance" = none
  int : mg "int" = none
  str : mg "str" = none
  list : mg "list" = none
  tuple : mg "tuple" = none
  set : mg "set" = none
  abs : mg "abs" = none
  len : mg "len" = none
  range : mg "range" = none
  min : mg "min" = none
  all : mg "all" = none
  any : mg "any" = none
/-! ### rows -/
/-- v is a list or a tuple of xs -/
def Row (H : Hp) (v : V) (xs : List V) : Prop := ∃ p, v = .ref p ∧ (H p = some (.lst xs) ∨ H p = some (.tup xs))
/-- v is none -/
def NoRow (H : Hp) (v : V) : Prop := v = .non ∨ (∃ b, v = .bl b) ∨ (∃ i, v = .int i) ∨ (∃ z, v = .str z) ∨ ∃ p, v = .ref p ∧ H p = some (.dK [])
theorem Row.same {H H' : Hp} {v : V} {xs : List V} (h : Row H v xs) (s : Same H H') : Row H' v xs := by
  obtain ⟨p, e, h | h⟩ := h
  · exact ⟨p, e, .inl (s _ _ h)⟩
  · exact ⟨p, e, .inr (s _ _ h)⟩
theorem NoRow.same {H H' : Hp} {v : V} (h : NoRow H v) (s : Same H H') : NoRow H' v := by
  rcases h with h | h | h | h | ⟨p, e, h⟩
  · exact .inl h
  · exact .inr (.inl h)
  · exact .inr (.inr (.inl h))
  · exact .inr (.inr (.inr (.inl h)))
  · exact .inr (.inr (.inr (.inr ⟨p, e, s _ _ h⟩)))
theorem Row.one {H : Hp} {v : V} {xs ys : List V} (h : Row H v xs) (k : Row H v ys) : xs = ys := by
  obtain ⟨p, rfl, h⟩ := h
  obtain ⟨q, e, k⟩ := k
  cases e
  rcases h with h | h <;> rcases k with k | k <;> rw [h] at k <;> cases k <;> rfl
theorem Row.no {H : Hp} {v : V} {xs : List V} (h : Row H v xs) (k : NoRow H v) : False := by
  obtain ⟨p, rfl, h⟩ := h
  rcases k with k | ⟨_, k⟩ | ⟨_, k⟩ | ⟨_, k⟩ | ⟨q, e, k⟩
  · cases k
  · cases k
  · cases k
  · cases k
  · cases e
    rcases h with h | h <;> rw [h] at k <;> cases k
theorem Row.seq {K : PySem.W.Frag} {H : Hp} {v : V} {xs : List V} (h : Row H v xs) : ∃ p, v = .ref p ∧ (SqL K H p xs ∨ SqT K H p xs) := by
  obtain ⟨p, e, h | h⟩ := h
  · exact ⟨p, e, .inl (SqL.of h)⟩
  · exact ⟨p, e, .inr (SqT.of h)⟩
/-- the kind of a thing is known, that of what it has, too, n levels down; texts are short, rows, too -/
def Kn : Nat → Hp → V → Prop
  | 0, H, v => (∃ xs, Row H v xs ∧ xs.length ≤ 100) ∨ (NoRow H v ∧ ∀ z, v = .str z → z.length ≤ 100)
  | n + 1, H, v => (∃ xs, Row H v xs ∧ xs.length ≤ 100 ∧ ∀ x ∈ xs, Kn n H x) ∨ (NoRow H v ∧ ∀ z, v = .str z → z.length ≤ 100)
theorem Kn.same {H H' : Hp} (s : Same H H') : ∀ {n : Nat} {v : V}, Kn n H v → Kn n H' v
  | 0, v, h => by
    rcases h with ⟨xs, r, l⟩ | ⟨r, l⟩
    · exact .inl ⟨xs, r.same s, l⟩
    · exact .inr ⟨r.same s, l⟩
  | n + 1, v, h => by
    rcases h with ⟨xs, r, l, k⟩ | ⟨r, l⟩
    · exact .inl ⟨xs, r.same s, l, fun x hx => (k x hx).same s⟩
    · exact .inr ⟨r.same s, l⟩
theorem Kn.less {H : Hp} : ∀ {n : Nat} {v : V}, Kn (n + 1) H v → Kn n H v
  | 0, v, h => by
    rcases h with ⟨xs, r, l, k⟩ | ⟨r, l⟩
    · exact .inl ⟨xs, r, l⟩
    · exact .inr ⟨r, l⟩
  | n + 1, v, h => by
    rcases h with ⟨xs, r, l, k⟩ | ⟨r, l⟩
    · exact .inl ⟨xs, r, l, fun x hx => (k x hx).less⟩
    · exact .inr ⟨r, l⟩
theorem Kn.row {H : Hp} {n : Nat} {v : V} (h : Kn n H v) : (∃ xs, Row H v xs ∧ xs.length ≤ 100) ∨ (NoRow H v ∧ ∀ z, v = .str z → z.length ≤ 100) := by
  cases n with
  | zero => exact h
  | succ n =>
    rcases h with ⟨xs, r, l, k⟩ | h
    · exact .inl ⟨xs, r, l⟩
    · exact .inr h
/-- its kind, as isinstance sees it -/
theorem Row.ty {K : PySem.W.Frag} {H : Hp} {v : V} {xs : List V} (h : Row H v xs) : ∃ t : String, (t = "list" ∨ t = "tuple") ∧ TyX K H v (.type t) := by
  obtain ⟨p, rfl, h | h⟩ := h
  · exact ⟨_, .inl rfl, .base (.lst h)⟩
  · exact ⟨_, .inr rfl, .base (.tup h)⟩
theorem NoRow.ty {K : PySem.W.Frag} {H : Hp} {v : V} (h : NoRow H v) : ∃ t : String, (t = "NoneType" ∨ t = "bool" ∨ t = "int" ∨ t = "str" ∨ t = "dict") ∧ TyX K H v (.type t) ∧ (t = "str" ↔ ∃ z, v = .str z) := by
  rcases h with rfl | ⟨b, rfl⟩ | ⟨i, rfl⟩ | ⟨z, rfl⟩ | ⟨p, rfl, h⟩
  · exact ⟨"NoneType", .inl rfl, .base .non, fun z => absurd z (by decide), fun ⟨_, e⟩ => by cases e⟩
  · exact ⟨"bool", .inr (.inl rfl), .base (.bl b), fun z => absurd z (by decide), fun ⟨_, e⟩ => by cases e⟩
  · exact ⟨"int", .inr (.inr (.inl rfl)), .base (.int i), fun z => absurd z (by decide), fun ⟨_, e⟩ => by cases e⟩
  · exact ⟨"str", .inr (.inr (.inr (.inl rfl))), .base (.str z), fun _ => ⟨z, rfl⟩, fun _ => rfl⟩
  · exact ⟨"dict", .inr (.inr (.inr (.inr rfl))), .base (.dK h), fun z => absurd z (by decide), fun ⟨_, e⟩ => by cases e⟩
theorem kit_any2 {K : PySem.W.Frag} {t : String} {b1 b2 : Bool} (h1 : PySem.W.kitOne K (.type t) (.type "list") = some b1) (h2 : PySem.W.kitOne K (.type t) (.type "tuple") = some b2) : PySem.W.kitAny K (.type t) [.type "list", .type "tuple"] = some (b1 || b2) := by
  unfold PySem.W.kitAny
  rw [h1]
  cases b1 with
  | true => rfl
  | false =>
    unfold PySem.W.kitAny
    rw [h2]
    cases b2 <;> rfl
theorem row_kit {K : PySem.W.Frag} {t : String} (h : t = "list" ∨ t = "tuple") : PySem.W.kitAny K (.type t) [.type "list", .type "tuple"] = some true := by
  rcases h with rfl | rfl
  · exact kit_any2 (b1 := true) (b2 := false) (kit_ty (by decide +kernel)) (kit_ty (by decide +kernel))
  · exact kit_any2 (b1 := false) (b2 := true) (kit_ty (by decide +kernel)) (kit_ty (by decide +kernel))
theorem norow_kit {K : PySem.W.Frag} {t : String} (h : t = "NoneType" ∨ t = "bool" ∨ t = "int" ∨ t = "str" ∨ t = "dict") : PySem.W.kitAny K (.type t) [.type "list", .type "tuple"] = some false := by
  rcases h with rfl | rfl | rfl | rfl | rfl <;> exact kit_any2 (b1 := false) (b2 := false) (kit_ty (by decide +kernel)) (kit_ty (by decide +kernel))
end K4

set_option Elab.async false
set_option linter.all false
set_option maxRecDepth 100000
set_option maxHeartbeats 4000000
namespace L2
open PySem PySem.Spec PyProof.Rows
/-- a row, be it a list or a tuple, walked -/
def iRow (K : PySem.W.Frag) (t : TE) : TI := fun σ H R => t σ H fun x H1 => ∃ a, x = .ref a ∧ (((∃ xs, SqL K H1 a xs) ∧ R (Itl K a) H1) ∨ ((∃ xs, SqT K H1 a xs) ∧ R (Itt K a) H1))
theorem pi_row {X : Cx} {tg e : Expr} {t : TE} (he : PE X e t) : PI X tg e (iRow X.K t) := by
  constructor
  intro pins s σ H R I h
  refine thn (he.run pins s σ H _ I h) fun v s1 hh => ?_
  obtain ⟨x, H1, I1, r1, a, rfl, hh⟩ := hh
  cases r1
  have free : ∀ b ∈ [s1.heap.objs.size], FpOk X pins H1 b := fun b hb => by
    rw [List.mem_singleton.mp hb]
    exact I1.fpOk (Nat.le_refl _) (I1.hok.fresh (Nat.le_refl _))
  rcases hh with ⟨⟨xs, hq⟩, q⟩ | ⟨⟨xs, hq⟩, q⟩
  · obtain ⟨its, _, p, _⟩ := I1.list hq
    exact wpAny_pyIter_list p.isList ⟨_, [s1.heap.objs.size], _, _, H1, rfl, I1.kept (t' := s1.toks) fun b o z => Heap.get?_push_of_some _ z, turn_list a _, ⟨_, Heap.get?_push_size _ rfl, rfl, rfl⟩, free, q⟩
  · obtain ⟨its, _, p, _⟩ := I1.tuple hq
    exact wpAny_pyIter_tuple (items := its.toArray) p ⟨_, [s1.heap.objs.size], _, _, H1, rfl, I1.kept (t' := s1.toks) fun b o z => Heap.get?_push_of_some _ z, turn_tuple a _, ⟨_, Heap.get?_push_size _ rfl, rfl, rfl⟩, free, q⟩
end L2
namespace K4
open PySem L2 TL
/-- .. as the walk of its things -/
theorem row_walk {K : PySem.W.Frag} {H : Hp} {x : V} {xs : List V} {R : It → Hp → Prop} (r : Row H x xs) (k : ∀ J, Walk J xs.length (fun H' => Same H H') (YAt xs) → R J H) :
    ∃ a, x = .ref a ∧ (((∃ xs, SqL K H a xs) ∧ R (Itl K a) H) ∨ ((∃ xs, SqT K H a xs) ∧ R (Itt K a) H)) := by
  obtain ⟨p, rfl, h | h⟩ := r
  · exact ⟨p, rfl, .inl ⟨⟨xs, SqL.of h⟩, k _ (walk_list.mono (fun H' s => SqL.of (s _ _ h)) fun _ _ _ _ _ _ y => y)⟩⟩
  · exact ⟨p, rfl, .inr ⟨⟨xs, SqT.of h⟩, k _ (walk_tup.mono (fun H' s => SqT.of (s _ _ h)) fun _ _ _ _ _ _ y => y)⟩⟩
/-- a comprehension over a row in a name -/
theorem tLc_row {K : PySem.W.Frag} {g : TG} {tt : TT} {te : TE} {vs : List Nat} {σ : St} {H : Hp} {Q : VK} {i : Nat} {x : V} {xs : List V} (hi : σ[i]? = some (some x)) (r : Row H x xs)
    (k : ∀ J, Walk J xs.length (fun H' => Same H H') (YAt xs) → tLc (fun _ H R => R J H) g tt te vs σ H Q) : tLc (iRow K (tVar i)) g tt te vs σ H Q :=
  ⟨x, hi, row_walk (R := fun J H1 => tLc (fun _ H R => R J H) g tt te vs σ H1 Q) r k⟩
theorem cb_one {r : List V → Hp → VK → Prop} {t : TE} {σ : St} {H : Hp} {Q : VK} (h : t σ H fun x H1 => r [x] H1 Q) : tCB r (tCons t tNil) σ H Q := h
/-- the answer to whether p -/
def Ans (p : Prop) (H : Hp) (Q : VK) : Prop := ∀ H', Same H H' → (p → Q (.bl true) H') ∧ (¬ p → Q (.bl false) H')
theorem Ans.here {p : Prop} {H : Hp} {Q : VK} {b : Bool} (h : Ans p H Q) (e : b = true ↔ p) : Q (.bl b) H := by
  obtain ⟨h1, h2⟩ := h H (Same.refl H)
  cases b with
  | true => exact h1 (e.mp rfl)
  | false => exact h2 fun z => Bool.noConfusion (e.mpr z)
theorem Ans.at {p : Prop} {H H' : Hp} {Q : VK} {b : Bool} (h : Ans p H Q) (s : Same H H') (e : b = true ↔ p) : Q (.bl b) H' := by
  obtain ⟨h1, h2⟩ := h H' s
  cases b with
  | true => exact h1 (e.mp rfl)
  | false => exact h2 fun z => Bool.noConfusion (e.mpr z)
open Classical in
noncomputable def bits (p : V → Prop) (xs : List V) : List Bool := xs.map fun v => decide (p v)
open Classical in
theorem bits_all (p : V → Prop) (xs : List V) : (bits p xs).all id = true ↔ ∀ v ∈ xs, p v := by
  unfold bits
  rw [List.all_map, List.all_eq_true]
  constructor
  · intro h v hv
    exact of_decide_eq_true (h v hv)
  · intro h v hv
    exact decide_eq_true (h v hv)
open Classical in
theorem bits_any (p : V → Prop) (xs : List V) : (bits p xs).any id = true ↔ ∃ v ∈ xs, p v := by
  unfold bits
  rw [List.any_map, List.any_eq_true]
  constructor
  · rintro ⟨v, hv, h⟩
    exact ⟨v, hv, of_decide_eq_true h⟩
  · rintro ⟨v, hv, h⟩
    exact ⟨v, hv, decide_eq_true h⟩
open Classical in
/-- [p(v) for v in row]: the list of the answers -/
theorem lc_bits {p : V → Prop} {xs : List V} {J : It} {te : TE} {i : Nat} {vs : List Nat} {σ : St} {H : Hp} {D : Addr} {Qd : Hp → Prop} (wk : Walk J xs.length (fun H' => Same H H') (YAt xs)) (nD : H D = none) (len : xs.length ≤ 1000) (hw : ∀ v : V, wipe ((wipe σ vs).set i (some v)) vs = wipe σ vs)
    (elem : ∀ v ∈ xs, ∀ H' (Q : VK), Same H H' → Ans (p v) H' Q → te ((wipe σ vs).set i (some v)) H' Q) (hd : ∀ H', Same H H' → H' D = some (.lst ((bits p xs).map V.bl)) → Qd H') :
    ∃ W : Nat → Nat → Hp → Prop, (∃ m, W 0 m (upd H D (.lst []))) ∧ ∀ j m H', W j m H' → ((J.stop j H' ∧ Qd H') ∨ (J.go j H' ∧ ∃ Nx : Hp → Prop, (∀ H', Nx H' → ∃ m', m' < m ∧ W (j + 1) m' H') ∧
      ∀ x H2, J.yld j H' x H2 → gName i x (wipe σ vs) H2 fun σ2 H3 => wipe σ2 vs = wipe σ vs ∧ tYes σ2 H3 fun b H4 => if b = true then te σ2 H4 fun y H5 => ∃ acc, H5 D = some (.lst acc) ∧ acc.length < sizeLine ∧ Nx (upd H5 D (.lst (acc ++ [y]))) else Nx H4)) := by
  refine lc_it wk (fun j H' => Same H H' ∧ H' D = some (.lst (((bits p xs).take j).map V.bl))) ⟨new nD, upd_same⟩ (fun _ _ _ h => h.1) ?_ ?_
  · rintro j v H1 H2 hj ⟨s1, e1⟩ ⟨rfl, hv⟩
    refine ⟨hw v, ?_⟩
    unfold tYes
    refine iteT (elem v (List.mem_of_getElem? hv) _ _ s1 fun H3 s3 => ?_)
    have go : ∀ b : Bool, (b = true ↔ p v) → ∃ acc, H3 D = some (.lst acc) ∧ acc.length < sizeLine ∧ Same H (upd H3 D (.lst (acc ++ [V.bl b]))) ∧ (upd H3 D (.lst (acc ++ [V.bl b]))) D = some (.lst (((bits p xs).take (j + 1)).map V.bl)) := fun b hb => by
      refine ⟨_, s3 _ _ e1, ?_, fun c o e => ?_, ?_⟩
      · rw [List.length_map, List.length_take]
        unfold bits
        rw [List.length_map]
        exact Nat.lt_of_lt_of_le (show _ < 1001 by omega) (show 1001 ≤ sizeLine by decide)
      · rw [upd_ne (ne_of_none e nD)]
        exact s3 _ _ (s1 _ _ e)
      · rw [upd_same, List.take_add_one, List.map_append]
        have e : (bits p xs)[j]? = some b := by
          unfold bits
          rw [List.getElem?_map, hv]
          cases b with
          | true => exact congrArg some (decide_eq_true (hb.mp rfl))
          | false => exact congrArg some (decide_eq_false fun z => Bool.noConfusion (hb.mpr z))
        rw [e]
        rfl
    exact ⟨fun z => go true ⟨fun _ => z, fun _ => rfl⟩, fun z => go false ⟨fun y => Bool.noConfusion y, fun y => absurd y z⟩⟩
  · rintro H1 ⟨s1, e1⟩
    refine hd H1 s1 ?_
    rw [e1, List.take_of_length_le]
    unfold bits
    rw [List.length_map]
    exact Nat.le_refl _
end K4

set_option Elab.async false
set_option linter.all false
set_option maxRecDepth 100000
set_option maxHeartbeats 4000000
namespace K4
open PySem L2 TL
abbrev sErr : Stmt := inClass (top 3) 0
abbrev sSeq : Stmt := top 9
abbrev sPair : Stmt := top 10
abbrev sWord : Stmt := top 11
abbrev sName : Stmt := top 12
abbrev sNames : Stmt := top 13
abbrev sUnlike : Stmt := top 14
abbrev LT : Str := ("abcdefghijklmnopqrstuvwxyz" : Str)
abbrev DG : Str := ("0123456789" : Str)
theorem mem_lt (c : Nat) : c ∈ LT.cps.toList ↔ 97 ≤ c ∧ c ≤ 122 := by
  have e : LT.cps.toList = (List.range 26).map (97 + ·) := by decide +kernel
  rw [e, List.mem_map]
  constructor
  · rintro ⟨a, h, rfl⟩
    have := List.mem_range.mp h
    omega
  · intro h
    exact ⟨c - 97, List.mem_range.mpr (by omega), by omega⟩
theorem mem_dg (c : Nat) : c ∈ DG.cps.toList ↔ 48 ≤ c ∧ c ≤ 57 := by
  have e : DG.cps.toList = (List.range 10).map (48 + ·) := by decide +kernel
  rw [e, List.mem_map]
  constructor
  · rintro ⟨a, h, rfl⟩
    have := List.mem_range.mp h
    omega
  · intro h
    exact ⟨c - 48, List.mem_range.mpr (by omega), by omega⟩
def Let (c : Nat) : Prop := 97 ≤ c ∧ c ≤ 122
def Dig (c : Nat) : Prop := 48 ≤ c ∧ c ≤ 57
/-- a word -/
structure WordL (l : List Nat) : Prop where
  lo : 1 ≤ l.length
  hi : l.length ≤ 8
  hd : ∀ c, l[0]? = some c → Let c
  al : ∀ c ∈ l, Let c ∨ Dig c
/-- a NAME -/
def NameS (z : Str) : Prop := WordL (tl z) ∧ z ≠ "sum" ∧ z ≠ "each"
def IsName (v : V) : Prop := ∃ z, v = .str z ∧ NameS z
def Names (H : Hp) (v : V) : Prop := ∃ xs, Row H v xs ∧ xs ≠ [] ∧ ∀ x ∈ xs, IsName x
def Unlike (H : Hp) (v : V) : Prop := ∃ xs, Row H v xs ∧ xs ≠ [] ∧ (∀ x ∈ xs, IsName x) ∧ xs.Nodup
def Short (z : Str) : Prop := z.length ≤ 100
def spErr (K : PySem.W.Frag) (E : Addr) : Sp := fun vs H Q _ => ∃ a v, vs = [.ref a, v] ∧ H a = some (exo a E none) ∧
  ∀ d, H d = none → d ≠ a → Q .non (upd (upd H d (exd d [(("word" : Str), v)])) a (exo a E (some d)))
def spSeq : Sp := fun vs H Q _ => ∃ x, vs = [x] ∧ Kn 0 H x ∧ Ans (∃ xs, Row H x xs) H Q
def spPair : Sp := fun vs H Q _ => ∃ x, vs = [x] ∧ Kn 0 H x ∧ Ans (∃ a b, Row H x [a, b]) H Q
def spWord : Sp := fun vs H Q _ => ∃ z : Str, vs = [.str z] ∧ Short z ∧ Ans (WordL (tl z)) H Q
def spName : Sp := fun vs H Q _ => ∃ x, vs = [x] ∧ Kn 0 H x ∧ Ans (IsName x) H Q
def spNames : Sp := fun vs H Q _ => ∃ x, vs = [x] ∧ Kn 1 H x ∧ Ans (Names H x) H Q
def spUnlike : Sp := fun vs H Q _ => ∃ x, vs = [x] ∧ Kn 1 H x ∧ Ans (Unlike H x) H Q
theorem get_tl {z : Str} {i c : Nat} (h : z.cps[i]? = some c) : (tl z)[i]? = some c := by
  rw [show tl z = z.cps.toList from rfl, Array.getElem?_toList]
  exact h
/-- names as texts -/
theorem names_strs {xs : List V} (h : ∀ x ∈ xs, IsName x) : ∃ zs : List Str, xs = zs.map V.str ∧ ∀ z ∈ zs, NameS z := by
  induction xs with
  | nil => exact ⟨[], rfl, fun _ h => by cases h⟩
  | cons x r ih =>
    obtain ⟨z, rfl, hz⟩ := h x List.mem_cons_self
    obtain ⟨zs, rfl, hs⟩ := ih fun y hy => h y (List.mem_cons_of_mem _ hy)
    refine ⟨z :: zs, rfl, fun y hy => ?_⟩
    rcases List.mem_cons.mp hy with rfl | hy
    · exact hz
    · exact hs y hy
theorem nodup_strs (zs : List Str) : (zs.map V.str).Nodup ↔ zs.Nodup := by
  constructor
  · intro h
    induction zs with
    | nil => exact List.nodup_nil
    | cons z r ih =>
      obtain ⟨h1, h2⟩ := List.nodup_cons.mp h
      exact List.nodup_cons.mpr ⟨fun hm => h1 (List.mem_map_of_mem hm), ih h2⟩
  · intro h
    induction zs with
    | nil => exact List.nodup_nil
    | cons z r ih =>
      obtain ⟨h1, h2⟩ := List.nodup_cons.mp h
      refine List.nodup_cons.mpr ⟨fun hm => ?_, ih h2⟩
      obtain ⟨y, hy, e⟩ := List.mem_map.mp hm
      cases e
      exact h1 hy
section
variable {P : Program} {w : World} {K : PySem.W.Frag} {mg : Str → Option Value} {base : Heap} {C E B f g h : Addr} {fd gd hd : FuncData}
theorem scSeq : FnScope ["found"] ["found"] (defScope sSeq) := ⟨rfl, rfl, rfl, by decide +kernel, rfl, by decide +kernel, by decide +kernel⟩
theorem ok_seq (F : FnP K "is_sequence" "is_sequence" sSeq [] f fd) (T : Txt K mg) : FnOk P w K mg base CX0 1 f fd ["found"] spSeq := by
  refine F.ok scSeq (fun vs H Q X z => ?_) (fun cdv A outer s H vs Q X hr z => ?_)
  · obtain ⟨x, rfl, _⟩ := z
    rfl
  · obtain ⟨x, rfl, kn, k⟩ := z
    refine ⟨_, PSs.nox (pss_one (ps_ret (pe_callB call_isiT (by rfl) T.isinst (by decide +kernel) (pa_cons (pv 0) (pa_cons (pe_tup (pa_cons (pe_bltn (v := .ty "list") (by rfl) T.list (by decide +kernel) rfl) (pa_cons (pe_bltn (v := .ty "tuple") (by rfl) T.tuple (by decide +kernel) rfl) pa_nil))) pa_nil))))), ?_⟩
    refine ⟨_, rfl, (by show 2 ≤ sizeLine; decide), fun p hp => ?_⟩
    have s1 : Same H (upd H p (.tup [.ty "list", .ty "tuple"])) := new hp
    rcases kn with ⟨xs, r, _⟩ | ⟨n, _⟩
    · obtain ⟨t, ht, ty⟩ := (r.same s1).ty (K := K)
      exact ⟨x, p, [.ty "list", .ty "tuple"], .type t, [.type "list", .type "tuple"], true, rfl, upd_same, .cons (.ty _) (.cons (.ty _) .nil), ty, row_kit ht, k.at s1 ⟨fun _ => ⟨xs, r⟩, fun _ => rfl⟩⟩
    · obtain ⟨t, ht, ty, _⟩ := (n.same s1).ty (K := K)
      exact ⟨x, p, [.ty "list", .ty "tuple"], .type t, [.type "list", .type "tuple"], false, rfl, upd_same, .cons (.ty _) (.cons (.ty _) .nil), ty, norow_kit ht, k.at s1 ⟨fun z => Bool.noConfusion z, fun ⟨xs, r⟩ => (r.no n).elim⟩⟩
theorem scPair : FnScope ["found"] ["found"] (defScope sPair) := ⟨rfl, rfl, rfl, by decide +kernel, rfl, by decide +kernel, by decide +kernel⟩
theorem ok_pair (F : FnP K "is_pair" "is_pair" sPair [] f fd) (T : Txt K mg) (GS : GloOk P w K mg base CX0 1 "is_sequence" ["found"] spSeq) : FnOk P w K mg base CX0 2 f fd ["found"] spPair := by
  obtain ⟨fS, fdS, GS, mS, kS, bS⟩ := GS
  refine F.ok scPair (fun vs H Q X z => ?_) (fun cdv A outer s H vs Q X hr z => ?_)
  · obtain ⟨x, rfl, _⟩ := z
    rfl
  · obtain ⟨x, rfl, kn, k⟩ := z
    refine ⟨_, PSs.nox (pss_one (ps_ret (pe_and (pe_call GS hr rfl mS kS bS .nil pass0 (pa_cons (pv 0) pa_nil)) (pe_one (pe_cmpR op_eq (pe_callB call_len_seq (by rfl) T.len PySem.boot_len (pa_cons (pv 0) pa_nil)) pe_int (nomark _)))))), ?_⟩
    refine ⟨_, rfl, x, rfl, kn, fun H' s' => ⟨fun ⟨xs, r⟩ => ⟨_, rfl, iteT ?_⟩, fun nr => ⟨_, rfl, iteF ?_⟩⟩⟩
    · obtain ⟨p, rfl, hq⟩ := (r.same s').seq (K := K)
      refine ⟨_, rfl, p, xs, rfl, hq, rfl, ?_⟩
      refine k.at s' ⟨fun z => ?_, fun ⟨a, b, r2⟩ => ?_⟩
      · have l := of_decide_eq_true z
        have l2 : xs.length = 2 := by have := V.int.inj l; omega
        match xs, l2 with
        | [a, b], _ => exact ⟨a, b, r⟩
      · rw [r.one r2]
        exact decide_eq_true rfl
    · exact k.at s' ⟨fun z => Bool.noConfusion z, fun ⟨a, b, r⟩ => (nr ⟨_, r⟩).elim⟩
theorem scWord : FnScope ["found", "sign"] ["found"] (defScope sWord) := ⟨rfl, rfl, rfl, by decide +kernel, rfl, by decide +kernel, by decide +kernel⟩
/-- letters and digits, sign by sign -/
def wbits (l : List Nat) : List Bool := l.map fun c => decide (c ∈ LT.cps.toList) || decide (c ∈ DG.cps.toList)
theorem wbits_all (l : List Nat) : (wbits l).all id = true ↔ ∀ c ∈ l, Let c ∨ Dig c := by
  unfold wbits
  rw [List.all_map, List.all_eq_true]
  constructor
  · intro h c hc
    have e : (decide (c ∈ LT.cps.toList) || decide (c ∈ DG.cps.toList)) = true := h c hc
    rcases Bool.or_eq_true_iff.mp e with e | e
    · exact .inl ((mem_lt c).mp (of_decide_eq_true e))
    · exact .inr ((mem_dg c).mp (of_decide_eq_true e))
  · intro h c hc
    show (decide (c ∈ LT.cps.toList) || decide (c ∈ DG.cps.toList)) = true
    rcases h c hc with e | e
    · rw [decide_eq_true ((mem_lt c).mpr e), Bool.true_or]
    · rw [decide_eq_true ((mem_dg c).mpr e), Bool.or_true]
theorem ok_word {t1 t2 t3 : Tok} (F : FnP K "is_word" "is_word" sWord [] f fd) (T : Txt K mg) (hL : mg "LETTERS" = some (.str LT t1)) (hD : mg "DIGITS" = some (.str DG t2)) (hM : mg "MOST_NAME_LENGTH" = some (.int 8 t3)) : FnOk P w K mg base CX0 1 f fd ["found"] spWord := by
  refine F.ok scWord (fun vs H Q X z => ?_) (fun cdv A outer s H vs Q X hr z => ?_)
  · obtain ⟨z, rfl, _⟩ := z
    rfl
  · obtain ⟨z, rfl, hz, k⟩ := z
    refine ⟨_, PSs.nox (pss_cons (ps_if (pt_not (pt_chain op_le op_le pe_int (pe_callB call_len_str (by rfl) T.len PySem.boot_len (pa_cons (pv 0) pa_nil)) (pe_glob (v := .int 8) (by rfl) hM ⟨t3, rfl⟩))) (pss_one (ps_ret pe_bl)) pss_nil)
      (pss_one (ps_ret (pe_and (pe_cmpR (r := rInS) op_inS (pe_ix ix_str (pv 0) pe_int (fun _ _ => rfl)) (pe_glob (v := .str LT) (by rfl) hL ⟨t1, rfl⟩) (by rfl)) (pe_one (pe_callB (cr_all rfl) (by rfl) T.all (by decide +kernel) (pa_cons
          (pe_lc (own := [("sign", 1)]) (g := gName 1) (tt := tYes) (by rfl) scWord.nd (pi_str (pv 0)) (blkOk_by (own := [("sign", 1)]) (N := ["found", "sign"]) (sc := defScope sWord) (by decide +kernel)) (fun _ _ _ _ _ => pg_name (i := 1) scWord.nd rfl (Or.inl rfl)) (fun _ _ _ _ _ => pts_nil)
            (fun _ _ _ _ _ => pe_or (pe_cmpR (r := rInS) op_inS (pv 1) (pe_glob (v := .str LT) (by rfl) hL ⟨t1, rfl⟩) (by rfl)) (pe_one (pe_cmpR (r := rInS) op_inS (pv 1) (pe_glob (v := .str DG) (by rfl) hD ⟨t2, rfl⟩) (by rfl))))) pa_nil))))))), ?_⟩
    have hz' : z.length ≤ 1000 := Nat.le_trans hz (by decide)
    refine ⟨_, rfl, z, rfl, big1000 hz', _, _, rfl, rfl, _, rfl, ?_⟩
    have lz : z.length = (tl z).length := len_tl z
    by_cases c1 : (1 : Int) ≤ (z.length : Int)
    · refine itT (decide_eq_true c1) ⟨_, _, rfl, rfl, _, rfl, ?_⟩
      by_cases c2 : (z.length : Int) ≤ 8
      · refine itF (by rw [decide_eq_true c2]; rfl) ?_
        obtain ⟨c, r, er⟩ : ∃ c r, tl z = c :: r := by
          cases e : tl z with
          | nil => rw [e] at lz; simp at lz; omega
          | cons c r => exact ⟨c, r, rfl⟩
        refine ⟨_, rfl, z, _, c, rfl, rfl, big1000 hz', by rw [show z.cps.toList = c :: r from er]; exact atI_nat (j := 0) rfl, c, LT, rfl, rfl, _, rfl, ?_⟩
        by_cases c3 : c ∈ LT.cps.toList
        · refine itT (decide_eq_true c3) ?_
          refine ⟨_, rfl, z, rfl, fun D nD => lc_it walk_str (fun i H' => Same H H' ∧ H' D = some (.lst (((wbits (tl z)).take i).map V.bl))) ⟨new nD, upd_same⟩ (fun _ _ _ _ => trivial) ?_ ?_⟩
          · rintro i x H5 H6 hi ⟨s5, hD5⟩ ⟨rfl, c, hc, rfl⟩
            refine ⟨rfl, ?_⟩
            unfold tYes
            refine iteT ?_
            have go : ∀ b : Bool, b = (decide (c ∈ LT.cps.toList) || decide (c ∈ DG.cps.toList)) → ∃ acc, H6 D = some (.lst acc) ∧ acc.length < sizeLine ∧ Same H (upd H6 D (.lst (acc ++ [V.bl b]))) ∧ (upd H6 D (.lst (acc ++ [V.bl b]))) D = some (.lst (((wbits (tl z)).take (i + 1)).map V.bl)) := fun b hb => by
              refine ⟨_, hD5, ?_, fun b o e => ?_, ?_⟩
              · rw [List.length_map, List.length_take]
                exact Nat.lt_of_lt_of_le (show min i _ < 1001 by have : z.cps.size ≤ 1000 := hz'; omega) (show 1001 ≤ sizeLine by decide)
              · rw [upd_ne (ne_of_none e nD)]
                exact s5 _ _ e
              · rw [upd_same, List.take_add_one, List.map_append]
                have e : (wbits (tl z))[i]? = some b := by
                  unfold wbits
                  rw [List.getElem?_map, get_tl hc, hb]
                  rfl
                rw [e]
                rfl
            refine ⟨_, rfl, c, LT, rfl, rfl, _, rfl, ?_⟩
            by_cases d1 : c ∈ LT.cps.toList
            · refine itT (decide_eq_true d1) ?_
              exact go _ (by rw [decide_eq_true d1, Bool.true_or])
            · refine itF (decide_eq_false d1) ?_
              exact ⟨_, rfl, c, DG, rfl, rfl, go _ (by rw [decide_eq_false d1, Bool.false_or])⟩
          · rintro H5 ⟨s5, hD5⟩
            have e5 : H5 D = some (.lst ((wbits (tl z)).map V.bl)) := by
              rw [hD5, List.take_of_length_le]
              unfold wbits
              rw [List.length_map]
              exact Nat.le_of_eq rfl
            refine ⟨D, _, rfl, SqL.of e5, k.at s5 ⟨fun y => ⟨by omega, by omega, fun d hd => ?_, (wbits_all _).mp y⟩, fun y => (wbits_all _).mpr y.al⟩⟩
            rw [er] at hd
            cases hd
            exact (mem_lt c).mp c3
        · refine itF (decide_eq_false c3) ?_
          exact k.here ⟨fun y => Bool.noConfusion y, fun y => absurd ((mem_lt c).mpr (y.hd c (by rw [er]; rfl))) c3⟩
      · refine itT (by rw [decide_eq_false c2]; rfl) ?_
        exact k.here ⟨fun y => Bool.noConfusion y, fun y => by have := y.hi; omega⟩
    · refine itF (decide_eq_false c1) ⟨_, rfl, itT rfl ?_⟩
      exact k.here ⟨fun y => Bool.noConfusion y, fun y => by have := y.lo; omega⟩
theorem scName : FnScope ["found"] ["found"] (defScope sName) := ⟨rfl, rfl, rfl, by decide +kernel, rfl, by decide +kernel, by decide +kernel⟩
/-- x in ("sum", "each") -/
theorem in_reserved (z : Str) : inV (.str z) [.str "sum", .str "each"] = true ↔ z = "sum" ∨ z = "each" := by
  have e : inV (.str z) [.str "sum", .str "each"] = ((("sum" : Str) == z) || ((("each" : Str) == z) || false)) := rfl
  rw [e, Bool.or_false, Bool.or_eq_true_iff, beq_iff_eq, beq_iff_eq]
  constructor
  · rintro (h | h)
    · exact .inl h.symm
    · exact .inr h.symm
  · rintro (h | h)
    · exact .inl h.symm
    · exact .inr h.symm
theorem ok_name {R : Addr} (F : FnP K "is_name" "is_name" sName [] f fd) (T : Txt K mg) (hR : mg "RESERVED" = some (.ref R)) (sR : ∀ H, SqT K H R [.str "sum", .str "each"]) (GW : GloOk P w K mg base CX0 1 "is_word" ["found"] spWord) : FnOk P w K mg base CX0 2 f fd ["found"] spName := by
  obtain ⟨fW, fdW, GW, mW, kW, bW⟩ := GW
  refine F.ok scName (fun vs H Q X z => ?_) (fun cdv A outer s H vs Q X hr z => ?_)
  · obtain ⟨x, rfl, _⟩ := z
    rfl
  · obtain ⟨x, rfl, kn, k⟩ := z
    refine ⟨_, PSs.nox (pss_one (ps_ret (pe_and (pe_callB call_isi (by rfl) T.isinst (by decide +kernel) (pa_cons (pv 0) (pa_cons (pe_bltn (v := .ty "str") (by rfl) T.str (by decide +kernel) rfl) pa_nil)))
      (pe_and (pe_call GW hr rfl mW kW bW .nil pass0 (pa_cons (pv 0) pa_nil)) (pe_one (pe_cmpR op_notIn_seq (pv 0) (pe_glob (v := .ref R) (by rfl) hR rfl) (by rfl))))))), ?_⟩
    rcases kn with ⟨xs, r, _⟩ | ⟨n, sh⟩
    · obtain ⟨t, ht, ty⟩ := r.ty (K := K)
      refine ⟨_, rfl, x, .ty "str", .type t, _, false, rfl, .ty _, ty, by rcases ht with rfl | rfl <;> exact kit_ty (by decide +kernel), false, rfl, iteF (k.here ⟨fun y => Bool.noConfusion y, ?_⟩)⟩
      rintro ⟨z, rfl, _⟩
      obtain ⟨p, e, _⟩ := r
      cases e
    · obtain ⟨t, ht, ty, iff⟩ := n.ty (K := K)
      by_cases st : ∃ z, x = .str z
      · obtain ⟨z, rfl⟩ := st
        refine ⟨_, rfl, _, .ty "str", .type "str", _, true, rfl, .ty _, .base (.str z), kit_ty (by decide +kernel), true, rfl, iteT ?_⟩
        refine ⟨_, rfl, z, rfl, sh z rfl, fun H' s' => ⟨fun y => ⟨_, rfl, iteT ?_⟩, fun y => ⟨_, rfl, iteF ?_⟩⟩⟩
        · refine ⟨_, rfl, R, _, rfl, .inr (sR H'), rfl, rfl, ?_⟩
          refine k.at s' ⟨fun u => ⟨z, rfl, y, ?_⟩, ?_⟩
          · have u' : (!inV (.str z) [.str "sum", .str "each"]) = true := u
            have nu : ¬ (z = "sum" ∨ z = "each") := fun q => by
              rw [(in_reserved z).mpr q] at u'
              cases u'
            exact ⟨fun q => nu (.inl q), fun q => nu (.inr q)⟩
          · rintro ⟨z', e, _, n1, n2⟩
            cases e
            show (!inV (.str z) [.str "sum", .str "each"]) = true
            cases q : inV (.str z) [.str "sum", .str "each"] with
            | false => rfl
            | true =>
              rcases (in_reserved z).mp q with q | q
              · exact absurd q n1
              · exact absurd q n2
        · refine k.at s' ⟨fun u => Bool.noConfusion u, ?_⟩
          rintro ⟨z', e, hw, _⟩
          cases e
          exact absurd hw y
      · refine ⟨_, rfl, x, .ty "str", .type t, _, false, rfl, .ty _, ty, ?_, false, rfl, iteF (k.here ⟨fun y => Bool.noConfusion y, fun ⟨z, e, _⟩ => (st ⟨z, e⟩).elim⟩)⟩
        rcases ht with rfl | rfl | rfl | rfl | rfl
        · exact kit_ty (by decide +kernel)
        · exact kit_ty (by decide +kernel)
        · exact kit_ty (by decide +kernel)
        · exact (st (iff.mp rfl)).elim
        · exact kit_ty (by decide +kernel)
end
end K4

set_option Elab.async false
set_option linter.all false
set_option maxRecDepth 100000
set_option maxHeartbeats 4000000
namespace K4
open PySem L2 TL
abbrev sAxes : Stmt := top 20
abbrev sMem : Stmt := top 21
def Pairs (H : Hp) (v : V) : Prop := ∃ xs, Row H v xs ∧ 1 ≤ xs.length ∧ xs.length ≤ 3 ∧ ∀ x ∈ xs, ∃ a b, Row H x [a, b]
def Mem (H : Hp) (v : V) : Prop := ∃ xs, Row H v xs ∧ xs ≠ [] ∧ (∀ x ∈ xs, IsName x) ∧ xs.Nodup ∧ xs.length ≤ 4
def spAxes : Sp := fun vs H Q _ => ∃ x, vs = [x] ∧ Kn 1 H x ∧ Ans (Pairs H x) H Q
def spMem : Sp := fun vs H Q _ => ∃ x, vs = [x] ∧ Kn 1 H x ∧ Ans (Mem H x) H Q
theorem Kn.of_row {n : Nat} {H : Hp} {v : V} {xs : List V} (h : Kn (n + 1) H v) (r : Row H v xs) : xs.length ≤ 100 ∧ ∀ x ∈ xs, Kn n H x := by
  rcases h with ⟨ys, r2, l, kx⟩ | ⟨n, _⟩
  · obtain rfl := r.one r2
    exact ⟨l, kx⟩
  · exact (r.no n).elim
section
variable {P : Program} {w : World} {K : PySem.W.Frag} {mg : Str → Option Value} {base : Heap} {C E B f g h : Addr} {fd gd hd : FuncData}
theorem scNames : FnScope ["found", "name"] ["found"] (defScope sNames) := ⟨rfl, rfl, rfl, by decide +kernel, rfl, by decide +kernel, by decide +kernel⟩
theorem ok_names (F : FnP K "are_names" "are_names" sNames [] f fd) (T : Txt K mg) (GS : GloOk P w K mg base CX0 1 "is_sequence" ["found"] spSeq) (GN : GloOk P w K mg base CX0 2 "is_name" ["found"] spName) : FnOk P w K mg base CX0 3 f fd ["found"] spNames := by
  obtain ⟨fS, fdS, GS, mS, kS, bS⟩ := GS
  obtain ⟨fN, fdN, GN, mN, kN, bN⟩ := GN
  refine F.ok scNames (fun vs H Q X z => ?_) (fun cdv A outer s H vs Q X hr z => ?_)
  · obtain ⟨x, rfl, _⟩ := z
    rfl
  · obtain ⟨x, rfl, kn, k⟩ := z
    have hr1 : Room 1 _ := hr.mono (by decide)
    refine ⟨_, PSs.nox (pss_one (ps_ret (pe_and (pe_call GS hr1 rfl mS kS bS .nil pass0 (pa_cons (pv 0) pa_nil)) (pe_and (pe_cmpR op_gt (pe_callB call_len_seq (by rfl) T.len PySem.boot_len (pa_cons (pv 0) pa_nil)) pe_int (nomark _))
      (pe_one (pe_callB (cr_all rfl) (by rfl) T.all (by decide +kernel) (pa_cons
        (pe_lc (own := [("name", 1)]) (g := gName 1) (tt := tYes) (by rfl) scNames.nd (pi_row (pv 0)) (blkOk_by (own := [("name", 1)]) (N := ["found", "name"]) (sc := defScope sNames) (by decide +kernel)) (fun _ _ _ _ _ => pg_name (i := 1) scNames.nd rfl (Or.inl rfl)) (fun _ _ _ _ _ => pts_nil)
          (fun _ _ _ _ _ => pe_call GN hr rfl mN kN bN .nil pass0 (pa_cons (pv 1) pa_nil))) pa_nil))))))), ?_⟩
    refine ⟨_, rfl, x, rfl, kn.less, fun H1 s1 => ⟨fun ⟨xs, r⟩ => ⟨_, rfl, iteT ?_⟩, fun nr => ⟨_, rfl, iteF ?_⟩⟩⟩
    · obtain ⟨l, kx⟩ := kn.of_row r
      have r1 := r.same s1
      obtain ⟨p, rfl, hq⟩ := r1.seq (K := K)
      refine ⟨_, rfl, p, xs, rfl, hq, _, _, rfl, rfl, _, rfl, ?_⟩
      by_cases c : (0 : Int) < (xs.length : Int)
      · refine itT (decide_eq_true c) ?_
        refine cb_one (tLc_row rfl r1 fun J wk D nD => lc_bits (p := IsName) wk nD (by omega) (fun _ => by rfl) (fun v hv H2 Q2 s2 a => ?_) fun H2 s2 e2 => ?_)
        · exact ⟨_, rfl, v, rfl, (kx v hv).same (s1.trans s2), a⟩
        · refine ⟨D, _, rfl, SqL.of e2, k.at (s1.trans s2) ⟨fun y => ⟨xs, r, fun z => by rw [z] at c; simp at c, (bits_all _ _).mp y⟩, ?_⟩⟩
          rintro ⟨ys, r3, _, al⟩
          obtain rfl := r.one r3
          exact (bits_all _ _).mpr al
      · refine itF (decide_eq_false c) ?_
        refine k.at s1 ⟨fun y => Bool.noConfusion y, ?_⟩
        rintro ⟨ys, r3, ne, _⟩
        obtain rfl := r.one r3
        have := List.length_pos_iff.mpr ne
        omega
    · refine k.at s1 ⟨fun y => Bool.noConfusion y, ?_⟩
      rintro ⟨ys, r3, _, _⟩
      exact (nr ⟨_, r3⟩).elim
theorem scUnlike : FnScope ["found"] ["found"] (defScope sUnlike) := ⟨rfl, rfl, rfl, by decide +kernel, rfl, by decide +kernel, by decide +kernel⟩
theorem ok_unlike (F : FnP K "are_unlike_names" "are_unlike_names" sUnlike [] f fd) (T : Txt K mg) (GN : GloOk P w K mg base CX0 3 "are_names" ["found"] spNames) : FnOk P w K mg base CX0 4 f fd ["found"] spUnlike := by
  obtain ⟨fN, fdN, GN, mN, kN, bN⟩ := GN
  refine F.ok scUnlike (fun vs H Q X z => ?_) (fun cdv A outer s H vs Q X hr z => ?_)
  · obtain ⟨x, rfl, _⟩ := z
    rfl
  · obtain ⟨x, rfl, kn, k⟩ := z
    refine ⟨_, PSs.nox (pss_one (ps_ret (pe_and (pe_call GN hr rfl mN kN bN .nil pass0 (pa_cons (pv 0) pa_nil)) (pe_one (pe_cmpR op_eq (pe_lenTx (by rfl) (by rfl) T.len (by rfl) T.set (pv 0)) (pe_callB call_len_seq (by rfl) T.len PySem.boot_len (pa_cons (pv 0) pa_nil)) (nomark _)))))), ?_⟩
    refine ⟨_, rfl, x, rfl, kn, fun H1 s1 => ⟨fun ⟨xs, r, ne, al⟩ => ⟨_, rfl, iteT ?_⟩, fun nr => ⟨_, rfl, iteF ?_⟩⟩⟩
    · obtain ⟨l, kx⟩ := kn.of_row r
      have r1 := r.same s1
      obtain ⟨p, rfl, hq⟩ := r1.seq (K := K)
      obtain ⟨zs, rfl, hz⟩ := names_strs al
      have lz : zs.length ≤ 100 := by rw [List.length_map] at l; exact l
      refine ⟨_, rfl, p, zs, rfl, hq, lz, _, rfl, p, _, rfl, hq, rfl, ?_⟩
      refine k.at s1 ⟨fun y => ⟨_, r, ne, al, (nodup_strs zs).mpr ((TxS.met_nodup zs).2.mp ?_)⟩, ?_⟩
      · have e := V.int.inj (of_decide_eq_true y)
        rw [List.length_map] at e
        omega
      · rintro ⟨ys, r3, _, _, nd⟩
        obtain rfl := r.one r3
        refine decide_eq_true (congrArg V.int ?_)
        rw [(TxS.met_nodup zs).2.mpr ((nodup_strs zs).mp nd), List.length_map]
    · refine k.at s1 ⟨fun y => Bool.noConfusion y, ?_⟩
      rintro ⟨ys, r3, ne, al, _⟩
      exact (nr ⟨_, r3, ne, al⟩).elim
theorem scAxes : FnScope ["axes", "axis"] ["axes"] (defScope sAxes) := ⟨rfl, rfl, rfl, by decide +kernel, rfl, by decide +kernel, by decide +kernel⟩
theorem ok_axes {t1 : Tok} (F : FnP K "are_pairs_of_axes" "are_pairs_of_axes" sAxes [] f fd) (T : Txt K mg) (hM : mg "MOST_AXES" = some (.int 3 t1)) (GS : GloOk P w K mg base CX0 1 "is_sequence" ["found"] spSeq) (GP : GloOk P w K mg base CX0 2 "is_pair" ["found"] spPair) : FnOk P w K mg base CX0 3 f fd ["axes"] spAxes := by
  obtain ⟨fS, fdS, GS, mS, kS, bS⟩ := GS
  obtain ⟨fP, fdP, GP, mP, kP, bP⟩ := GP
  refine F.ok scAxes (fun vs H Q X z => ?_) (fun cdv A outer s H vs Q X hr z => ?_)
  · obtain ⟨x, rfl, _⟩ := z
    rfl
  · obtain ⟨x, rfl, kn, k⟩ := z
    have hr1 : Room 1 _ := hr.mono (by decide)
    refine ⟨_, PSs.nox (pss_one (ps_ret (pe_and (pe_call GS hr1 rfl mS kS bS .nil pass0 (pa_cons (pv 0) pa_nil)) (pe_and (pe_chain op_le op_le pe_int (pe_callB call_len_seq (by rfl) T.len PySem.boot_len (pa_cons (pv 0) pa_nil)) (pe_glob (v := .int 3) (by rfl) hM ⟨t1, rfl⟩))
      (pe_one (pe_callB (cr_all rfl) (by rfl) T.all (by decide +kernel) (pa_cons
        (pe_lc (own := [("axis", 1)]) (g := gName 1) (tt := tYes) (by rfl) scAxes.nd (pi_row (pv 0)) (blkOk_by (own := [("axis", 1)]) (N := ["axes", "axis"]) (sc := defScope sAxes) (by decide +kernel)) (fun _ _ _ _ _ => pg_name (i := 1) scAxes.nd rfl (Or.inl rfl)) (fun _ _ _ _ _ => pts_nil)
          (fun _ _ _ _ _ => pe_call GP hr rfl mP kP bP .nil pass0 (pa_cons (pv 1) pa_nil))) pa_nil))))))), ?_⟩
    refine ⟨_, rfl, x, rfl, kn.less, fun H1 s1 => ⟨fun ⟨xs, r⟩ => ⟨_, rfl, iteT ?_⟩, fun nr => ⟨_, rfl, iteF ?_⟩⟩⟩
    · obtain ⟨l, kx⟩ := kn.of_row r
      have r1 := r.same s1
      obtain ⟨p, rfl, hq⟩ := r1.seq (K := K)
      refine ⟨_, rfl, p, xs, rfl, hq, _, _, rfl, rfl, _, rfl, ?_⟩
      by_cases c1 : (1 : Int) ≤ (xs.length : Int)
      · refine itT (decide_eq_true c1) ⟨_, _, rfl, rfl, _, rfl, ?_⟩
        by_cases c2 : (xs.length : Int) ≤ 3
        · refine itT (decide_eq_true c2) ?_
          refine cb_one (tLc_row rfl r1 fun J wk D nD => lc_bits (p := fun v => ∃ a b, Row H v [a, b]) wk nD (by omega) (fun _ => by rfl) (fun v hv H2 Q2 s2 a => ?_) fun H2 s2 e2 => ?_)
          · refine ⟨_, rfl, v, rfl, (kx v hv).same (s1.trans s2), fun H3 s3 => ⟨fun ⟨a1, b1, r2⟩ => (a H3 s3).1 ?_, fun nr => (a H3 s3).2 fun ⟨a1, b1, r2⟩ => nr ⟨a1, b1, r2.same (s1.trans s2)⟩⟩⟩
            rcases (kx v hv).row with ⟨ys, r3, _⟩ | ⟨n, _⟩
            · obtain rfl := (r3.same (s1.trans s2)).one r2
              exact ⟨a1, b1, r3⟩
            · exact (r2.no (n.same (s1.trans s2))).elim
          · refine ⟨D, _, rfl, SqL.of e2, k.at (s1.trans s2) ⟨fun y => ⟨xs, r, by omega, by omega, (bits_all _ _).mp y⟩, ?_⟩⟩
            rintro ⟨ys, r3, _, _, al⟩
            obtain rfl := r.one r3
            exact (bits_all _ _).mpr al
        · refine itF (decide_eq_false c2) (k.at s1 ⟨fun y => Bool.noConfusion y, ?_⟩)
          rintro ⟨ys, r3, _, h3, _⟩
          obtain rfl := r.one r3
          omega
      · refine itF (decide_eq_false c1) ⟨_, rfl, iteF (k.at s1 ⟨fun y => Bool.noConfusion y, ?_⟩)⟩
        rintro ⟨ys, r3, h3, _⟩
        obtain rfl := r.one r3
        omega
    · refine k.at s1 ⟨fun y => Bool.noConfusion y, ?_⟩
      rintro ⟨ys, r3, _, _⟩
      exact (nr ⟨_, r3⟩).elim
theorem scMem : FnScope ["found"] ["found"] (defScope sMem) := ⟨rfl, rfl, rfl, by decide +kernel, rfl, by decide +kernel, by decide +kernel⟩
theorem ok_mem {t1 : Tok} (F : FnP K "are_members" "are_members" sMem [] f fd) (T : Txt K mg) (hM : mg "MOST_MEMBERS" = some (.int 4 t1)) (GU : GloOk P w K mg base CX0 4 "are_unlike_names" ["found"] spUnlike) : FnOk P w K mg base CX0 5 f fd ["found"] spMem := by
  obtain ⟨fU, fdU, GU, mU, kU, bU⟩ := GU
  refine F.ok scMem (fun vs H Q X z => ?_) (fun cdv A outer s H vs Q X hr z => ?_)
  · obtain ⟨x, rfl, _⟩ := z
    rfl
  · obtain ⟨x, rfl, kn, k⟩ := z
    refine ⟨_, PSs.nox (pss_one (ps_ret (pe_and (pe_call GU hr rfl mU kU bU .nil pass0 (pa_cons (pv 0) pa_nil)) (pe_one (pe_cmpR op_le (pe_callB call_len_seq (by rfl) T.len PySem.boot_len (pa_cons (pv 0) pa_nil)) (pe_glob (v := .int 4) (by rfl) hM ⟨t1, rfl⟩) (nomark _)))))), ?_⟩
    refine ⟨_, rfl, x, rfl, kn, fun H1 s1 => ⟨fun ⟨xs, r, ne, al, nd⟩ => ⟨_, rfl, iteT ?_⟩, fun nr => ⟨_, rfl, iteF ?_⟩⟩⟩
    · obtain ⟨p, rfl, hq⟩ := (r.same s1).seq (K := K)
      refine ⟨_, rfl, p, xs, rfl, hq, _, _, rfl, rfl, ?_⟩
      refine k.at s1 ⟨fun y => ⟨xs, r, ne, al, nd, by have := of_decide_eq_true y; omega⟩, ?_⟩
      rintro ⟨ys, r3, _, _, _, h4⟩
      obtain rfl := r.one r3
      exact decide_eq_true (by omega)
    · refine k.at s1 ⟨fun y => Bool.noConfusion y, ?_⟩
      rintro ⟨ys, r3, ne, al, nd, _⟩
      exact (nr ⟨_, r3, ne, al, nd⟩).elim
end
end K4

set_option Elab.async false
set_option linter.all false
set_option maxRecDepth 100000
set_option maxHeartbeats 4000000
namespace K4
open PySem L2 TL
abbrev sCells : Stmt := top 22
/-- [e for x in list for y in tuple], both in names -/
theorem lc2_names {K : PySem.W.Frag} {σ : St} {H : Hp} {Q : VK} {ci mi a b : Nat} {l mp : Addr} {cs ms : List V} {te : TE} {vs vs1 : List Nat} (hi : σ[ci]? = some (some (.ref l))) (hm : ∀ x : V, ((wipe σ vs).set a (some x))[mi]? = some (some (.ref mp))) (hl : H l = some (.lst cs)) (hmp : H mp = some (.tup ms))
    (hw : ∀ x : V, wipe ((wipe σ vs).set a (some x)) vs = wipe σ vs) (hw1 : ∀ x y : V, wipe ((wipe ((wipe σ vs).set a (some x)) vs1).set b (some y)) vs1 = wipe ((wipe σ vs).set a (some x)) vs1)
    (Pv : Addr → Nat → Nat → Hp → Prop) (hk : ∀ D j i H', Pv D j i H' → Same H H') (h0 : ∀ D, H D = none → Pv D 0 0 (upd H D (.lst []))) (hn : ∀ D j H', Pv D j ms.length H' → Pv D (j + 1) 0 H')
    (elem : ∀ D j i x y, H D = none → cs[j]? = some x → ms[i]? = some y → ∀ H', Pv D j i H' → te ((wipe ((wipe σ vs).set a (some x)) vs1).set b (some y)) H' fun z H7 => ∃ acc, H7 D = some (.lst acc) ∧ acc.length < sizeLine ∧ Pv D j (i + 1) (upd H7 D (.lst (acc ++ [z]))))
    (hd : ∀ D H', H D = none → Pv D cs.length 0 H' → Q (.ref D) H') : tLc2 (iList K (tVar ci)) (gName a) tYes (iTup K (tVar mi)) (gName b) tYes te vs vs1 σ H Q := by
  refine ⟨_, hi, l, rfl, ⟨cs, SqL.of hl⟩, fun D nD => ⟨fun j m H' => m = cs.length - j ∧ j ≤ cs.length ∧ Pv D j 0 H', ⟨_, rfl, Nat.zero_le _, h0 D nD⟩, ?_⟩⟩
  rintro j m H' ⟨rfl, hj, pv⟩
  have wk : Walk (Itl K l) cs.length (fun H' => Same H H') (YAt cs) := walk_list.mono (fun H' s => SqL.of (s _ _ hl)) fun _ _ _ _ _ _ y => y
  by_cases lt : j < cs.length
  · refine .inr ⟨wk.goes j H' lt (hk D j 0 H' pv), Pv D (j + 1) 0, fun H2 p2 => ⟨_, by omega, rfl, lt, p2⟩, fun x H2 y => ?_⟩
    obtain ⟨rfl, hx⟩ := wk.yields j H' x H2 lt (hk D j 0 H' pv) y
    refine ⟨hw x, ?_⟩
    unfold tYes
    refine iteT ?_
    refine ⟨_, hm x, mp, rfl, ⟨ms, SqT.of (hk D j 0 _ pv _ _ hmp)⟩, fun i m H' => m = ms.length - i ∧ i ≤ ms.length ∧ Pv D j i H', ⟨_, rfl, Nat.zero_le _, pv⟩, ?_⟩
    rintro i m H3 ⟨rfl, hi', pw⟩
    have wk1 : Walk (Itt K mp) ms.length (fun H' => Same H H') (YAt ms) := walk_tup.mono (fun H' s => SqT.of (s _ _ hmp)) fun _ _ _ _ _ _ y => y
    by_cases lt1 : i < ms.length
    · refine .inr ⟨wk1.goes i H3 lt1 (hk D j i H3 pw), Pv D j (i + 1), fun H4 p4 => ⟨_, by omega, rfl, lt1, p4⟩, fun y1 H4 y2 => ?_⟩
      obtain ⟨rfl, hy⟩ := wk1.yields i H3 y1 H4 lt1 (hk D j i H3 pw) y2
      refine ⟨hw1 x y1, ?_⟩
      exact iteT (elem D j i x y1 nD hx hy _ pw)
    · have e : i = ms.length := by omega
      subst e
      exact .inl ⟨wk1.stops H3 (hk D j _ H3 pw), hn D j H3 pw⟩
  · have e : j = cs.length := by omega
    subst e
    exact .inl ⟨wk.stops H' (hk D _ 0 H' pv), hd D H' nD pv⟩
/-! ### axes and cells in the heap -/
abbrev Ax := Str × List Str
def StrsT (H : Hp) (v : V) (zs : List Str) : Prop := ∃ m, v = .ref m ∧ H m = some (.tup (zs.map V.str))
def AxAt (H : Hp) (v : V) (a : Ax) : Prop := ∃ q m, v = .ref q ∧ H q = some (.tup [.str a.1, .ref m]) ∧ H m = some (.tup (a.2.map V.str))
/-- things and what each is -/
def All2 {α : Type} (R : V → α → Prop) (vs : List V) (as : List α) : Prop := vs.length = as.length ∧ ∀ (i : Nat) (v : V) (a : α), vs[i]? = some v → as[i]? = some a → R v a
def AxesAt (H : Hp) (v : V) (as : List Ax) : Prop := ∃ p vs, v = .ref p ∧ H p = some (.tup vs) ∧ All2 (AxAt H) vs as
def CellsAt (H : Hp) (v : V) (cs : List (List Str)) : Prop := ∃ p vs, v = .ref p ∧ H p = some (.tup vs) ∧ All2 (StrsT H) vs cs
theorem All2.imp {α : Type} {R S : V → α → Prop} {vs : List V} {as : List α} (h : All2 R vs as) (k : ∀ v a, R v a → S v a) : All2 S vs as := ⟨h.1, fun i v a h1 h2 => k v a (h.2 i v a h1 h2)⟩
theorem All2.snoc {α : Type} {R : V → α → Prop} {vs : List V} {as : List α} {v : V} {a : α} (h : All2 R vs as) (k : R v a) : All2 R (vs ++ [v]) (as ++ [a]) := by
  refine ⟨by rw [List.length_append, List.length_append, h.1]; rfl, fun i x y h1 h2 => ?_⟩
  by_cases lt : i < vs.length
  · rw [List.getElem?_append_left lt] at h1
    rw [List.getElem?_append_left (by rw [← h.1]; exact lt)] at h2
    exact h.2 i x y h1 h2
  · rw [List.getElem?_append_right (by omega)] at h1
    rw [List.getElem?_append_right (by rw [← h.1]; omega), ← h.1] at h2
    cases e : i - vs.length with
    | zero =>
      rw [e] at h1 h2
      cases h1
      cases h2
      exact k
    | succ n =>
      rw [e] at h1
      cases h1
theorem All2.nil {α : Type} {R : V → α → Prop} : All2 R [] ([] : List α) := ⟨rfl, fun i v a h => by simp at h⟩
theorem StrsT.same {H H' : Hp} {v : V} {zs : List Str} (h : StrsT H v zs) (s : Same H H') : StrsT H' v zs := let ⟨m, e, h⟩ := h; ⟨m, e, s _ _ h⟩
theorem AxAt.same {H H' : Hp} {v : V} {a : Ax} (h : AxAt H v a) (s : Same H H') : AxAt H' v a := let ⟨q, m, e, h1, h2⟩ := h; ⟨q, m, e, s _ _ h1, s _ _ h2⟩
theorem AxesAt.same {H H' : Hp} {v : V} {as : List Ax} (h : AxesAt H v as) (s : Same H H') : AxesAt H' v as := let ⟨p, vs, e, h1, h2⟩ := h; ⟨p, vs, e, s _ _ h1, h2.imp fun _ _ x => x.same s⟩
theorem CellsAt.same {H H' : Hp} {v : V} {cs : List (List Str)} (h : CellsAt H v cs) (s : Same H H') : CellsAt H' v cs := let ⟨p, vs, e, h1, h2⟩ := h; ⟨p, vs, e, s _ _ h1, h2.imp fun _ _ x => x.same s⟩
/-- cells, one axis longer -/
def longer (cs : List (List Str)) (ms : List Str) : List (List Str) := cs.flatMap fun c => ms.map fun m => c ++ [m]
def cellsL (as : List Ax) : List (List Str) := as.foldl (fun cs a => longer cs a.2) [[]]
theorem cellsL_snoc (as : List Ax) (a : Ax) : cellsL (as ++ [a]) = longer (cellsL as) a.2 := by
  unfold cellsL
  rw [List.foldl_append]
  rfl
theorem longer_len (cs : List (List Str)) (ms : List Str) : (longer cs ms).length = cs.length * ms.length := by
  unfold longer
  rw [List.length_flatMap]
  induction cs with
  | nil => simp
  | cons c r ih => rw [List.map_cons, List.sum_cons, ih, List.length_map, List.length_cons, Nat.add_mul, Nat.one_mul, Nat.add_comm]
/-- what stands after j whole cells and i members more -/
def upTo (cs : List (List Str)) (ms : List Str) (j i : Nat) : List (List Str) := longer (cs.take j) ms ++ (match cs[j]? with | some c => (ms.take i).map fun m => c ++ [m] | none => [])
theorem upTo_start (cs : List (List Str)) (ms : List Str) (j : Nat) : upTo cs ms j 0 = longer (cs.take j) ms := by
  unfold upTo
  cases cs[j]? with
  | none => exact List.append_nil _
  | some c => exact List.append_nil _
theorem longer_snoc (cs : List (List Str)) (c : List Str) (ms : List Str) : longer (cs ++ [c]) ms = longer cs ms ++ ms.map fun m => c ++ [m] := by
  unfold longer
  rw [List.flatMap_append]
  simp
theorem upTo_end {cs : List (List Str)} {ms : List Str} {j : Nat} {c : List Str} (h : cs[j]? = some c) : upTo cs ms j ms.length = upTo cs ms (j + 1) 0 := by
  rw [upTo_start, List.take_add_one, h]
  show _ = longer (cs.take j ++ [c]) ms
  rw [longer_snoc]
  unfold upTo
  rw [h]
  show _ ++ (ms.take ms.length).map _ = _
  rw [List.take_length]
theorem upTo_step {cs : List (List Str)} {ms : List Str} {j i : Nat} {c : List Str} {m : Str} (h : cs[j]? = some c) (k : ms[i]? = some m) : upTo cs ms j (i + 1) = upTo cs ms j i ++ [c ++ [m]] := by
  unfold upTo
  rw [h]
  show _ ++ (ms.take (i + 1)).map _ = (_ ++ (ms.take i).map _) ++ _
  rw [List.take_add_one, k, List.map_append, List.append_assoc]
  rfl
end K4

set_option Elab.async false
set_option linter.all false
set_option maxRecDepth 100000
set_option maxHeartbeats 4000000
namespace K4
open PySem L2 TL
def Small (as : List Ax) : Prop := as.length ≤ 3 ∧ ∀ a ∈ as, a.2.length ≤ 4
def spCells : Sp := fun vs H Q _ => ∃ v as, vs = [v] ∧ AxesAt H v as ∧ Small as ∧ ∀ v' H', Same H H' → CellsAt H' v' (cellsL as) → Q v' H'
theorem cells_le (as : List Ax) (h : Small as) : ∀ j, j ≤ as.length → (cellsL (as.take j)).length ≤ 4 ^ j
  | 0, _ => Nat.le_refl _
  | j + 1, hj => by
    have ih := cells_le as h j (by omega)
    have e : as.take (j + 1) = as.take j ++ [as[j]'(by omega)] := by
      rw [List.take_add_one, List.getElem?_eq_getElem (by omega)]
      rfl
    rw [e, cellsL_snoc, longer_len, Nat.pow_succ]
    exact Nat.mul_le_mul ih (h.2 _ (List.getElem_mem _))
theorem cell_len : ∀ (as : List Ax) (c : List Str), c ∈ cellsL as → c.length = as.length := by
  have go : ∀ (as : List Ax) (cs : List (List Str)) (n : Nat), (∀ c ∈ cs, c.length = n) → ∀ c ∈ as.foldl (fun cs a => longer cs a.2) cs, c.length = n + as.length := by
    intro as
    induction as with
    | nil => intro cs n h c hc; exact h c hc
    | cons a r ih =>
      intro cs n h c hc
      rw [List.foldl_cons] at hc
      have z := ih (longer cs a.2) (n + 1) (fun d hd => ?_) c hc
      · rw [List.length_cons]
        omega
      · unfold longer at hd
        obtain ⟨e, he, hd⟩ := List.mem_flatMap.mp hd
        obtain ⟨m, _, rfl⟩ := List.mem_map.mp hd
        rw [List.length_append, h e he]
        rfl
  intro as c hc
  have z := go as [[]] 0 (fun d hd => by rw [List.mem_singleton.mp hd]; rfl) c hc
  omega
theorem upTo_len {cs : List (List Str)} {ms : List Str} {j i : Nat} {c : List Str} (h : cs[j]? = some c) (k : i ≤ ms.length) : (upTo cs ms j i).length = j * ms.length + i := by
  have lt := (List.getElem?_eq_some_iff.mp h).1
  unfold upTo
  rw [h]
  show (longer (cs.take j) ms ++ (ms.take i).map _).length = _
  rw [List.length_append, longer_len, List.length_map, List.length_take, List.length_take, Nat.min_eq_left (Nat.le_of_lt lt), Nat.min_eq_left k]
section
variable {P : Program} {w : World} {K : PySem.W.Frag} {mg : Str → Option Value} {base : Heap} {C E B f g h : Addr} {fd gd hd : FuncData}
theorem scCells : FnScope ["axes", "cells", "_", "members", "cell", "member"] ["axes"] (defScope sCells) := ⟨rfl, rfl, rfl, by decide +kernel, rfl, by decide +kernel, by decide +kernel⟩
theorem ok_cells (F : FnP K "cells_of" "cells_of" sCells [] f fd) (T : Txt K mg) : FnOk P w K mg base CX0 1 f fd ["axes"] spCells := by
  refine F.ok scCells (fun vs H Q X z => ?_) (fun cdv A outer s H vs Q X hr z => ?_)
  · obtain ⟨v, as, rfl, _⟩ := z
    rfl
  · obtain ⟨v, as, rfl, ax, sm, k⟩ := z
    refine ⟨_, PSs.nox (pss_cons (ps_set (i := 1) scCells.nd rfl (Or.inl rfl) (pe_lst (pa_cons (pe_tup pa_nil) pa_nil)))
      (pss_cons (ps_for PassesOwn.never rfl (pi_tup (pv 0)) (pg_tup (by rfl) (pgs_cons (pg_name (i := 2) scCells.nd rfl (Or.inl rfl)) (pgs_cons (pg_name (i := 3) scCells.nd rfl (Or.inr rfl)) pgs_nil)))
        (pss_one (ps_setLc2 (i := 1) (own := [("cell", 4), ("member", 5)]) (vs1 := [5]) (g := gName 4) (g1 := gName 5) (tt := tYes) (tt1 := tYes) (by rfl) scCells.nd rfl (by rfl) (by rfl) (pi_list (pv 1))
          (blkOk_by (own := [("cell", 4), ("member", 5)]) (N := ["axes", "cells", "_", "members", "cell", "member"]) (sc := defScope sCells) (by decide +kernel)) (by decide) (fun _ _ _ _ _ => pg_name (i := 4) scCells.nd rfl (Or.inl rfl)) (fun _ _ _ _ _ => pts_nil)
          (fun _ _ _ _ _ => show PI _ _ _ (iTup K (tVar 3)) from pi_tup (pv 3)) (fun _ _ _ _ _ => pg_name (i := 5) scCells.nd rfl (Or.inl rfl)) (fun _ _ _ _ _ => pts_nil)
          (fun _ _ _ _ _ => show PE _ _ (tTup (StX.tStar K (tVar 4) (tCons (tVar 5) tNil))) from pe_tup (StX.pa_star (pv 4) (pa_cons (pv 5) pa_nil))))))
      (pss_one (ps_ret (pe_callTy call_tuple_of (by rfl) T.tuple (by decide +kernel) (pa_cons (pv 1) pa_nil)))))), ?_⟩
    obtain ⟨p, ws, rfl, hp, al⟩ := ax
    refine ⟨(by show 0 ≤ sizeLine; decide), fun q nq => ⟨(by show 1 ≤ sizeLine; decide), fun l nl => ?_⟩⟩
    have s0 : Same H (upd (upd H q (.tup [])) l (.lst [.ref q])) := (new nq).trans (new nl)
    refine ⟨_, rfl, p, rfl, ⟨ws, SqT.of (s0 _ _ hp)⟩, ?_⟩
    refine for_it (walk_tup (xs := ws)) (fun j σ H' => Same H H' ∧ ∃ (l : Addr) (us : List V) (v2 v3 v4 v5 : Option V), σ = [some (.ref p), some (.ref l), v2, v3, v4, v5] ∧ H' l = some (.lst us) ∧ All2 (StrsT H') us (cellsL (as.take j)))
      ⟨s0, l, [.ref q], none, none, none, none, rfl, upd_same, rfl, fun i v c h1 h2 => ?_⟩ (fun _ _ _ _ h => SqT.of (h.1 _ _ hp)) ?_ ?_
    · cases i with
      | zero =>
        cases h1
        cases h2
        exact ⟨q, rfl, by rw [upd_ne (ne_of_none upd_same nl)]; exact upd_same⟩
      | succ i => simp at h1
    · rintro j x σ H1 H1' hj ⟨s1, l, us, v2, v3, v4, v5, rfl, hl, cs⟩ ⟨rfl, hx⟩
      have hja : j < as.length := by rw [← al.1]; exact hj
      obtain ⟨a, ha⟩ : ∃ a, as[j]? = some a := ⟨_, List.getElem?_eq_getElem hja⟩
      obtain ⟨q, mp, rfl, hq, hm⟩ := (al.2 j x a hx ha).same s1
      have nx : as.take (j + 1) = as.take j ++ [a] := by
        rw [List.take_add_one, ha]
        rfl
      have len1 := cells_le as sm (j + 1) (by omega)
      rw [nx, cellsL_snoc] at len1 ⊢
      have p4 : 4 ^ (j + 1) ≤ 4 ^ 3 := Nat.pow_le_pow_right (by decide) (by have := sm.1; omega)
      refine ⟨q, _, rfl, SqT.of hq, rfl, _, _, rfl, _, _, rfl, rfl, ?_⟩
      refine lc2_names (l := l) (mp := mp) (cs := us) (ms := a.2.map V.str) rfl (fun _ => rfl) hl hm (fun _ => rfl) (fun _ _ => rfl)
        (fun D j' i' H' => Same H1' H' ∧ ∃ ys, H' D = some (.lst ys) ∧ All2 (StrsT H') ys (upTo (cellsL (as.take j)) a.2 j' i')) (fun _ _ _ _ h => h.1) (fun D nD => ⟨new nD, [], upd_same, ?_⟩) ?_ ?_ ?_
      · rw [upTo_start]
        exact All2.nil
      · rintro D j' H' ⟨s2, ys, e, h⟩
        refine ⟨s2, ys, e, ?_⟩
        rw [List.length_map] at h
        cases hc : (cellsL (as.take j))[j']? with
        | some c => rw [← upTo_end hc]; exact h
        | none =>
          have z : upTo (cellsL (as.take j)) a.2 j' a.2.length = upTo (cellsL (as.take j)) a.2 (j' + 1) 0 := by
            have big := List.getElem?_eq_none_iff.mp hc
            rw [upTo_start]
            unfold upTo
            rw [hc]
            show longer _ _ ++ [] = _
            rw [List.append_nil, List.take_of_length_le big, List.take_of_length_le (Nat.le_succ_of_le big)]
          rw [← z]
          exact h
      · rintro D j' i' x y nD hx' hy H' ⟨s2, ys, e, h⟩
        obtain ⟨c, hc⟩ : ∃ c, (cellsL (as.take j))[j']? = some c := by
          have lt := (List.getElem?_eq_some_iff.mp hx').1
          rw [cs.1] at lt
          exact ⟨_, List.getElem?_eq_getElem lt⟩
        obtain ⟨m, hm', rfl⟩ : ∃ m, a.2[i']? = some m ∧ y = .str m := by
          rw [List.getElem?_map] at hy
          cases em : a.2[i']? with
          | none => rw [em] at hy; cases hy
          | some m => rw [em] at hy; exact ⟨m, rfl, (Option.some.inj hy).symm⟩
        obtain ⟨cp, rfl, hcp⟩ := (cs.2 j' x c hx' hc).same s2
        have st := upTo_step hc hm'
        refine ⟨_, rfl, cp, _, rfl, .inl (SqT.of hcp), _, rfl, ?_, fun r nr => ⟨ys, ?_, ?_, ?_⟩⟩
        · rw [List.length_append, List.length_map]
          have lc := cell_len (as.take j) c (List.mem_of_getElem? hc)
          rw [List.length_take] at lc
          have := sm.1
          exact Nat.le_trans (show _ ≤ 10 by show c.length + 1 ≤ 10; omega) (show 10 ≤ sizeLine by decide)
        · rw [upd_ne (ne_of_none e nr)]
          exact e
        · have l1 := upTo_len hc (show i' ≤ a.2.length from Nat.le_of_lt (List.getElem?_eq_some_iff.mp hm').1)
          rw [h.1, l1]
          have b1 : j' < (cellsL (as.take j)).length := (List.getElem?_eq_some_iff.mp hc).1
          have b2 := cells_le as sm j (by omega)
          have b3 : 4 ^ j ≤ 4 ^ 3 := Nat.pow_le_pow_right (by decide) (by have := sm.1; omega)
          have b4 := sm.2 a (List.mem_of_getElem? ha)
          have b5 : j' * a.2.length ≤ 64 * 4 := Nat.mul_le_mul (by omega) b4
          have b6 := (List.getElem?_eq_some_iff.mp hm').1
          exact Nat.lt_of_lt_of_le (show _ < 1000 by omega) (show 1000 ≤ sizeLine by decide)
        · have s3 : Same H1' (upd (upd H' r (.tup (c.map V.str ++ [V.str m]))) D (.lst (ys ++ [V.ref r]))) := fun b o q => by
            rw [upd_ne (ne_of_none q nD)]
            exact (s2.trans (new nr)) _ _ q
          have nrD : r ≠ D := fun z => by rw [z, e] at nr; cases nr
          have s4 : ∀ b o, b ≠ D → H' b = some o → (upd (upd H' r (.tup (c.map V.str ++ [V.str m]))) D (.lst (ys ++ [V.ref r]))) b = some o := fun b o ne q => by
            rw [upd_ne ne]
            exact new nr _ _ q
          refine ⟨s3, _, upd_same, ?_⟩
          rw [st]
          refine All2.snoc ⟨h.1, fun i v zs h1 h2 => ?_⟩ ⟨r, rfl, ?_⟩
          · obtain ⟨mm, rfl, hmm⟩ := h.2 i v zs h1 h2
            exact ⟨mm, rfl, s4 mm _ (fun z => by rw [z, e] at hmm; cases hmm) hmm⟩
          · rw [upd_ne nrD, upd_same, List.map_append]
            rfl
      · rintro D H' nD ⟨s2, ys, e, h⟩
        refine ⟨s1.trans s2, D, ys, _, _, _, _, rfl, e, ?_⟩
        rw [upTo_start, List.take_of_length_le (by rw [cs.1]; exact Nat.le_refl _)] at h
        exact h
    · rintro σ H1 ⟨s1, l, us, v2, v3, v4, v5, rfl, hl, cs⟩
      rw [List.take_of_length_le (by rw [al.1]; exact Nat.le_refl _)] at cs
      refine ⟨_, rfl, l, us, rfl, .inl ⟨SqL.of hl, fun r nr => k _ _ (s1.trans (new nr)) ⟨r, us, rfl, upd_same, cs.imp fun _ _ h => h.same (new nr)⟩⟩⟩
end
end K4

set_option Elab.async false
set_option linter.all false
set_option maxRecDepth 100000
set_option maxHeartbeats 4000000
namespace L2
open PySem PySem.Spec PyProof.Rows
/-- a target by whichever of two rules the thing keeps -/
theorem pg_or {X : Cx} {e : Expr} {g1 g2 : TG} (h1 : PG X e g1) (h2 : PG X e g2) : PG X e (fun v σ H Q => g1 v σ H Q ∨ g2 v σ H Q) :=
  ⟨fun pins s σ H v u Q I r hw => hw.elim (fun z => h1.run pins s σ H v u Q I r z) (fun z => h2.run pins s σ H v u Q I r z)⟩
end L2
namespace K4
open PySem L2 TL
/-- both things of a pair -/
def gRow (K : PySem.W.Frag) (t : TGs) : TG := fun v σ H Q => gTup K 2 t v σ H Q ∨ gLst K 2 t v σ H Q
theorem g_row {K : PySem.W.Frag} {t : TGs} {v : V} {σ : St} {H : Hp} {Q : St → Hp → Prop} {a b : V} (r : Row H v [a, b]) (k : t [a, b] σ H Q) : gRow K t v σ H Q := by
  obtain ⟨p, rfl, h | h⟩ := r
  · exact .inr ⟨p, _, rfl, SqL.of h, rfl, k⟩
  · exact .inl ⟨p, _, rfl, SqT.of h, rfl, k⟩
/-- row[j] -/
theorem ix_row {K : PySem.W.Frag} {H : Hp} {v x : V} {xs : List V} {j : Nat} {Q : VK} (r : Row H v xs) (e : xs[j]? = some x) (k : Q x H) : rIx K v (.int (j : Int)) H Q := by
  obtain ⟨p, rfl, h | h⟩ := r
  · exact .inl ⟨p, _, _, x, rfl, rfl, SqL.of h, at_of (j := j) rfl e, k⟩
  · exact .inr (.inl ⟨p, _, _, x, rfl, rfl, SqT.of h, at_of (j := j) rfl e, k⟩)
/-- [f(v) for v in row]: things of whatever kind, one by one -/
theorem lc_each {xs : List V} {J : It} {te : TE} {i : Nat} {vs : List Nat} {σ : St} {H : Hp} {D : Addr} {Qd : Hp → Prop} (G : Nat → List V → Hp → Prop) (wk : Walk J xs.length (fun H' => Same H H') (YAt xs)) (nD : H D = none) (len : xs.length ≤ 1000) (hw : ∀ v : V, wipe ((wipe σ vs).set i (some v)) vs = wipe σ vs)
    (g0 : G 0 [] H) (gl : ∀ j us H', G j us H' → us.length = j) (gs : ∀ j us H' H'', Same H' H'' → G j us H' → G j us H'')
    (gb : ∀ j us H' old o, H' D = some (.lst old) → G j us H' → G j us (upd H' D o))
    (elem : ∀ j v us, xs[j]? = some v → ∀ H' (Q : VK), Same H H' → G j us H' → (∀ u H'', Same H' H'' → G (j + 1) (us ++ [u]) H'' → Q u H'') → te ((wipe σ vs).set i (some v)) H' Q) (hd : ∀ us H', Same H H' → H' D = some (.lst us) → G xs.length us H' → Qd H') :
    ∃ W : Nat → Nat → Hp → Prop, (∃ m, W 0 m (upd H D (.lst []))) ∧ ∀ j m H', W j m H' → ((J.stop j H' ∧ Qd H') ∨ (J.go j H' ∧ ∃ Nx : Hp → Prop, (∀ H', Nx H' → ∃ m', m' < m ∧ W (j + 1) m' H') ∧
      ∀ x H2, J.yld j H' x H2 → gName i x (wipe σ vs) H2 fun σ2 H3 => wipe σ2 vs = wipe σ vs ∧ tYes σ2 H3 fun b H4 => if b = true then te σ2 H4 fun y H5 => ∃ acc, H5 D = some (.lst acc) ∧ acc.length < sizeLine ∧ Nx (upd H5 D (.lst (acc ++ [y]))) else Nx H4)) := by
  refine lc_it wk (fun j H' => Same H H' ∧ ∃ us, H' D = some (.lst us) ∧ G j us H') ⟨new nD, [], upd_same, gs 0 [] H _ (new nD) g0⟩ (fun _ _ _ h => h.1) ?_ ?_
  · rintro j v H1 H2 hj ⟨s1, us, e1, g1⟩ ⟨rfl, hv⟩
    refine ⟨hw v, ?_⟩
    unfold tYes
    refine iteT (elem j v us hv _ _ s1 g1 fun u H3 s3 g3 => ⟨us, s3 _ _ e1, ?_, fun c o e => ?_, us ++ [u], upd_same, ?_⟩)
    · rw [gl j us _ g1]
      exact Nat.lt_of_lt_of_le (show j < 1000 by omega) (by decide)
    · rw [upd_ne (ne_of_none e nD)]
      exact s3 _ _ (s1 _ _ e)
    · exact gb _ _ H3 us _ (s3 _ _ e1) g3
  · rintro H1 ⟨s1, us, e1, g1⟩
    exact hd us H1 s1 e1 g1
/-! ### what is wrong with axes -/
abbrev Pr := V × V
def PairsOf (H : Hp) (x : V) (ps : List Pr) : Prop := ∃ xs, Row H x xs ∧ All2 (fun v p => Row H v [p.1, p.2]) xs ps
def NameOk (ps : List Pr) : Prop := (∀ p ∈ ps, IsName p.1) ∧ (ps.map (·.1)).Nodup
def MemOk (H : Hp) (ps : List Pr) : Prop := ∀ p ∈ ps, Mem H p.2
def AsOf (H : Hp) (ps : List Pr) (as : List Ax) : Prop := ps.length = as.length ∧ ∀ (i : Nat) (p : Pr) (a : Ax), ps[i]? = some p → as[i]? = some a → p.1 = .str a.1 ∧ Row H p.2 (a.2.map V.str)
def Few (ps : List Pr) : Prop := 1 ≤ ps.length ∧ ps.length ≤ 3
def Wrong (H : Hp) (x : V) (w : Str) : Prop := (w = "axes" ∧ ¬ Pairs H x) ∨ ∃ ps, PairsOf H x ps ∧ Few ps ∧ ((w = "name" ∧ ¬ NameOk ps) ∨ (w = "members" ∧ NameOk ps ∧ ¬ MemOk H ps) ∨ (∃ as, w = "cells" ∧ NameOk ps ∧ MemOk H ps ∧ AsOf H ps as ∧ 8 < (cellsL as).length))
def Right (H : Hp) (x : V) (as : List Ax) : Prop := ∃ ps, PairsOf H x ps ∧ Few ps ∧ NameOk ps ∧ MemOk H ps ∧ AsOf H ps as ∧ (cellsL as).length ≤ 8
theorem pairs_of {H : Hp} {x : V} (h : Pairs H x) : ∃ ps, PairsOf H x ps ∧ Few ps := by
  obtain ⟨xs, r, l1, l3, al⟩ := h
  have go : ∀ xs : List V, (∀ v ∈ xs, ∃ a b, Row H v [a, b]) → ∃ ps : List Pr, All2 (fun v p => Row H v [p.1, p.2]) xs ps := by
    intro xs
    induction xs with
    | nil => exact fun _ => ⟨[], All2.nil⟩
    | cons v r ih =>
      intro al
      obtain ⟨a, b, rv⟩ := al v List.mem_cons_self
      obtain ⟨ps, h1, h2⟩ := ih fun u hu => al u (List.mem_cons_of_mem _ hu)
      refine ⟨(a, b) :: ps, by rw [List.length_cons, List.length_cons, h1], fun i u p e1 e2 => ?_⟩
      cases i with
      | zero => cases e1; cases e2; exact rv
      | succ i => exact h2 i u p e1 e2
  obtain ⟨ps, a2⟩ := go xs al
  exact ⟨ps, ⟨xs, r, a2⟩, by rw [← a2.1]; exact l1, by rw [← a2.1]; exact l3⟩
theorem of_pairs {H : Hp} {x : V} {ps : List Pr} (h : PairsOf H x ps) (f : Few ps) : Pairs H x := by
  obtain ⟨xs, r, a2⟩ := h
  refine ⟨xs, r, by rw [a2.1]; exact f.1, by rw [a2.1]; exact f.2, fun v hv => ?_⟩
  obtain ⟨i, hi, rfl⟩ := List.mem_iff_getElem.mp hv
  have lt : i < ps.length := by rw [← a2.1]; exact hi
  exact ⟨_, _, a2.2 i _ ps[i] (List.getElem?_eq_getElem hi) (List.getElem?_eq_getElem lt)⟩
theorem pairs_one {H : Hp} {x : V} {ps qs : List Pr} (h : PairsOf H x ps) (k : PairsOf H x qs) : ps = qs := by
  obtain ⟨xs, r, a⟩ := h
  obtain ⟨ys, r2, b⟩ := k
  obtain rfl := r.one r2
  refine List.ext_getElem? fun i => ?_
  by_cases lt : i < xs.length
  · have l1 : i < ps.length := by rw [← a.1]; exact lt
    have l2 : i < qs.length := by rw [← b.1]; exact lt
    rw [List.getElem?_eq_getElem l1, List.getElem?_eq_getElem l2]
    have z1 := a.2 i xs[i] ps[i] (List.getElem?_eq_getElem lt) (List.getElem?_eq_getElem l1)
    have z2 := b.2 i xs[i] qs[i] (List.getElem?_eq_getElem lt) (List.getElem?_eq_getElem l2)
    have z := z1.one z2
    have e1 := (List.cons.inj z).1
    have e2 := (List.cons.inj (List.cons.inj z).2).1
    exact congrArg some (Prod.ext e1 e2)
  · rw [List.getElem?_eq_none (by rw [← a.1]; omega), List.getElem?_eq_none (by rw [← b.1]; omega)]
/-- names and members, read off -/
theorem as_of {H : Hp} : ∀ {ps : List Pr}, (∀ p ∈ ps, IsName p.1) → MemOk H ps → ∃ as, AsOf H ps as
  | [], _, _ => ⟨[], rfl, fun i p a h => by simp at h⟩
  | p :: r, hn, hm => by
    obtain ⟨as, l, al⟩ := as_of (ps := r) (fun q hq => hn q (List.mem_cons_of_mem _ hq)) fun q hq => hm q (List.mem_cons_of_mem _ hq)
    obtain ⟨z, ez, _⟩ := hn p List.mem_cons_self
    obtain ⟨ms, rm, _, nm, _⟩ := hm p List.mem_cons_self
    obtain ⟨zs, rfl, _⟩ := names_strs nm
    refine ⟨(z, zs) :: as, by rw [List.length_cons, List.length_cons, l], fun i q a e1 e2 => ?_⟩
    cases i with
    | zero => cases e1; cases e2; exact ⟨ez, rm⟩
    | succ i => exact al i q a e1 e2
theorem as_one {H : Hp} {ps : List Pr} {as bs : List Ax} (h : AsOf H ps as) (k : AsOf H ps bs) : as = bs := by
  refine List.ext_getElem? fun i => ?_
  by_cases lt : i < ps.length
  · have l1 : i < as.length := by rw [← h.1]; exact lt
    have l2 : i < bs.length := by rw [← k.1]; exact lt
    rw [List.getElem?_eq_getElem l1, List.getElem?_eq_getElem l2]
    obtain ⟨a1, a2⟩ := h.2 i ps[i] as[i] (List.getElem?_eq_getElem lt) (List.getElem?_eq_getElem l1)
    obtain ⟨b1, b2⟩ := k.2 i ps[i] bs[i] (List.getElem?_eq_getElem lt) (List.getElem?_eq_getElem l2)
    have e1 : as[i].1 = bs[i].1 := V.str.inj (a1.symm.trans b1)
    have e2 : as[i].2 = bs[i].2 := by
      have z := a2.one b2
      have inj : ∀ {l m : List Str}, l.map V.str = m.map V.str → l = m := by
        intro l
        induction l with
        | nil => intro m e; cases m with
          | nil => rfl
          | cons _ _ => cases e
        | cons x r ih => intro m e; cases m with
          | nil => cases e
          | cons y s =>
            obtain ⟨q1, q2⟩ := List.cons.inj e
            rw [V.str.inj q1, ih q2]
      exact inj z
    exact congrArg some (Prod.ext e1 e2)
  · rw [List.getElem?_eq_none (by rw [← h.1]; omega), List.getElem?_eq_none (by rw [← k.1]; omega)]
/-- some word is due, or the axes are right -/
theorem sorts (H : Hp) (x : V) : (∃ w, Wrong H x w) ∨ ∃ as, Right H x as := by
  by_cases h1 : Pairs H x
  · obtain ⟨ps, po, fw⟩ := pairs_of h1
    by_cases h2 : NameOk ps
    · by_cases h3 : MemOk H ps
      · obtain ⟨as, ao⟩ := as_of h2.1 h3
        by_cases h4 : (cellsL as).length ≤ 8
        · exact .inr ⟨as, ps, po, fw, h2, h3, ao, h4⟩
        · exact .inl ⟨"cells", .inr ⟨ps, po, fw, .inr (.inr ⟨as, rfl, h2, h3, ao, by omega⟩)⟩⟩
      · exact .inl ⟨"members", .inr ⟨ps, po, fw, .inr (.inl ⟨rfl, h2, h3⟩)⟩⟩
    · exact .inl ⟨"name", .inr ⟨ps, po, fw, .inl ⟨rfl, h2⟩⟩⟩
  · exact .inl ⟨"axes", .inl ⟨rfl, h1⟩⟩
/-! .. in a later heap -/
theorem Mem.iff {H H' : Hp} {v : V} (k : Kn 0 H v) (s : Same H H') : Mem H' v ↔ Mem H v := by
  constructor
  · rintro ⟨xs, r, m⟩
    rcases k.row with ⟨ys, r2, _⟩ | ⟨n, _⟩
    · obtain rfl := r.one (r2.same s)
      exact ⟨xs, r2, m⟩
    · exact (r.no (n.same s)).elim
  · rintro ⟨xs, r, m⟩
    exact ⟨xs, r.same s, m⟩
theorem pair_back {H H' : Hp} {v a b : V} (k : Kn 0 H v) (s : Same H H') (r : Row H' v [a, b]) : Row H v [a, b] := by
  rcases k.row with ⟨ys, r2, _⟩ | ⟨n, _⟩
  · rw [← (r2.same s).one r]
    exact r2
  · exact (r.no (n.same s)).elim
end K4

set_option Elab.async false
set_option linter.all false
set_option maxRecDepth 100000
set_option maxHeartbeats 4000000
namespace K4
open PySem L2 TL
/-! ### grids as data -/
def strsD (zs : List Str) : PyData := .tuple (zs.map .str)
def axD (a : Ax) : PyData := .tuple [.str a.1, strsD a.2]
def axsD (as : List Ax) : PyData := .tuple (as.map axD)
def cellsD (cs : List (List Str)) : PyData := .tuple (cs.map strsD)
theorem eqvAll_map {α : Type} {f : α → PyData} (h : ∀ x y, PyData.eqv (f x) (f y) = true ↔ x = y) : ∀ xs ys : List α, PyData.eqvAll (xs.map f) (ys.map f) = true ↔ xs = ys
  | [], [] => by simp [PyData.eqvAll]
  | [], y :: ys => by simp [PyData.eqvAll]
  | x :: xs, [] => by simp [PyData.eqvAll]
  | x :: xs, y :: ys => by
    rw [List.map_cons, List.map_cons, PyData.eqvAll, Bool.and_eq_true, h, eqvAll_map h xs ys, List.cons.injEq]
theorem eqv_str (x y : Str) : PyData.eqv (.str x) (.str y) = true ↔ x = y := by
  rw [PyData.eqv]
  exact beq_iff_eq
theorem eqv_strs (xs ys : List Str) : PyData.eqv (strsD xs) (strsD ys) = true ↔ xs = ys := by
  unfold strsD
  rw [PyData.eqv]
  exact eqvAll_map eqv_str xs ys
theorem eqv_ax (a b : Ax) : PyData.eqv (axD a) (axD b) = true ↔ a = b := by
  unfold axD
  rw [PyData.eqv, PyData.eqvAll, PyData.eqvAll, PyData.eqvAll, Bool.and_eq_true, Bool.and_eq_true, eqv_str, eqv_strs]
  constructor
  · rintro ⟨h1, h2, _⟩
    exact Prod.ext h1 h2
  · rintro rfl
    exact ⟨rfl, rfl, rfl⟩
theorem eqv_axs (as bs : List Ax) : PyData.eqv (axsD as) (axsD bs) = true ↔ as = bs := by
  unfold axsD
  rw [PyData.eqv]
  exact eqvAll_map eqv_ax as bs
theorem eqv_axl (as bs : List Ax) : PyData.eqv (.list (as.map axD)) (.list (bs.map axD)) = true ↔ as = bs := by
  rw [PyData.eqv]
  exact eqvAll_map eqv_ax as bs
theorem eqv_cells (as bs : List (List Str)) : PyData.eqv (cellsD as) (cellsD bs) = true ↔ as = bs := by
  unfold cellsD
  rw [PyData.eqv]
  exact eqvAll_map eqv_strs as bs
theorem lay_map {α : Type} {f : α → PyData} : ∀ {xs : List α}, (∀ x ∈ xs, (f x).canLay0 = true) → PyData.canLayAll0 (xs.map f) = true
  | [], _ => by rw [List.map_nil, PyData.canLayAll0]
  | x :: xs, h => by
    rw [List.map_cons, PyData.canLayAll0, h x List.mem_cons_self, lay_map fun y hy => h y (List.mem_cons_of_mem _ hy)]
    rfl
theorem depth_map {α : Type} {f : α → PyData} {n : Nat} (h : ∀ x, (f x).depth ≤ n) : ∀ xs : List α, PyData.depthAll (xs.map f) ≤ n
  | [] => by rw [List.map_nil, PyData.depthAll]; exact Nat.zero_le _
  | x :: xs => by
    rw [List.map_cons, PyData.depthAll]
    exact Nat.max_le.mpr ⟨h x, depth_map h xs⟩
theorem depth_str (x : Str) : (PyData.str x).depth ≤ 0 := by
  rw [PyData.depth]
  exact Nat.le_refl _
theorem depth_strs (zs : List Str) : (strsD zs).depth ≤ 1 := by
  unfold strsD
  rw [PyData.depth]
  have := depth_map (f := PyData.str) depth_str zs
  omega
theorem depth_ax (a : Ax) : (axD a).depth ≤ 2 := by
  unfold axD
  rw [PyData.depth, PyData.depthAll, PyData.depthAll, PyData.depthAll]
  have h1 := depth_str a.1
  have h2 := depth_strs a.2
  omega
theorem depth_axs (as : List Ax) : PyData.depthAll (as.map axD) ≤ 2 := depth_map depth_ax as
/-- names all over -/
def AxOk (as : List Ax) : Prop := ∀ a ∈ as, NameS a.1 ∧ ∀ m ∈ a.2, NameS m
theorem lay_name {z : Str} (h : NameS z) : (PyData.str z).canLay0 = true := by
  rw [PyData.canLay0]
  show (z.cps.all _) = true
  rw [Array.all_eq_true]
  intro i hi
  have hm : z.cps[i] ∈ tl z := by
    show z.cps[i] ∈ z.cps.toList
    exact Array.mem_toList_iff.mpr (Array.getElem_mem hi)
  rcases h.1.al _ hm with c | c
  · exact decide_eq_true (Nat.lt_of_le_of_lt c.2 (by decide))
  · exact decide_eq_true (Nat.lt_of_le_of_lt c.2 (by decide))
theorem lay_strs {zs : List Str} (h : ∀ z ∈ zs, NameS z) : (strsD zs).canLay0 = true := by
  unfold strsD
  rw [PyData.canLay0]
  exact lay_map fun z hz => lay_name (h z hz)
theorem lay_ax {a : Ax} (h : NameS a.1 ∧ ∀ m ∈ a.2, NameS m) : (axD a).canLay0 = true := by
  unfold axD
  rw [PyData.canLay0, PyData.canLayAll0, PyData.canLayAll0, PyData.canLayAll0, lay_name h.1, lay_strs h.2]
  rfl
theorem shaped_axs {as : List Ax} (h : AxOk as) : SeqAt.shaped (axsD as) = true := by
  unfold SeqAt.shaped axsD
  rw [PyData.canLay0, lay_map fun a ha => lay_ax (h a ha), PyData.depth]
  have := depth_axs as
  exact decide_eq_true (by omega)
theorem shaped_axl {as : List Ax} (h : AxOk as) : SeqAt.shaped (.list (as.map axD)) = true := by
  unfold SeqAt.shaped
  rw [PyData.canLay0, lay_map fun a ha => lay_ax (h a ha), PyData.depth]
  have := depth_axs as
  exact decide_eq_true (by omega)
theorem shaped_cells {cs : List (List Str)} (h : ∀ c ∈ cs, ∀ m ∈ c, NameS m) : SeqAt.shaped (cellsD cs) = true := by
  unfold SeqAt.shaped cellsD
  rw [PyData.canLay0, lay_map fun c hc => lay_strs (h c hc), PyData.depth]
  have := depth_map depth_strs cs
  exact decide_eq_true (by omega)
/-- the cells have members alone -/
theorem cells_names {as : List Ax} (h : AxOk as) : ∀ c ∈ cellsL as, ∀ m ∈ c, NameS m := by
  have go : ∀ (as : List Ax) (cs : List (List Str)), AxOk as → (∀ c ∈ cs, ∀ m ∈ c, NameS m) → ∀ c ∈ as.foldl (fun cs a => longer cs a.2) cs, ∀ m ∈ c, NameS m := by
    intro as
    induction as with
    | nil => intro cs _ h; exact h
    | cons a r ih =>
      intro cs ho h
      rw [List.foldl_cons]
      refine ih _ (fun b hb => ho b (List.mem_cons_of_mem _ hb)) fun c hc m hm => ?_
      unfold longer at hc
      obtain ⟨e, he, hd⟩ := List.mem_flatMap.mp hc
      obtain ⟨k, hk, rfl⟩ := List.mem_map.mp hd
      rcases List.mem_append.mp hm with hm | hm
      · exact h e he m hm
      · rw [List.mem_singleton.mp hm]
        exact (ho a List.mem_cons_self).2 k hk
  exact go as [[]] h fun c hc m hm => by
    rw [List.mem_singleton.mp hc] at hm
    cases hm
theorem dpall {K : PySem.W.Frag} {H : Hp} {α : Type} {R : V → α → Prop} {f : α → PyData} (k : ∀ v a, R v a → Dp K H v (f a)) : ∀ {vs : List V} {as : List α}, All2 R vs as → DpAll K H vs (as.map f)
  | [], [], _ => .nil
  | [], a :: as, h => by cases h.1
  | v :: vs, [], h => by cases h.1
  | v :: vs, a :: as, h => .cons (k v a (h.2 0 v a rfl rfl)) (dpall k ⟨Nat.succ.inj h.1, fun i x b h1 h2 => h.2 (i + 1) x b h1 h2⟩)
theorem dp_strs0 {K : PySem.W.Frag} {H : Hp} : ∀ zs : List Str, DpAll K H (zs.map V.str) (zs.map PyData.str)
  | [] => .nil
  | z :: r => .cons (.str z) (dp_strs0 r)
theorem dp_strs {K : PySem.W.Frag} {H : Hp} {v : V} {zs : List Str} (h : StrsT H v zs) : Dp K H v (strsD zs) := by
  obtain ⟨m, rfl, h⟩ := h
  exact .tup (SqT.of h) (dp_strs0 zs)
theorem dp_ax {K : PySem.W.Frag} {H : Hp} {v : V} {a : Ax} (h : AxAt H v a) : Dp K H v (axD a) := by
  obtain ⟨q, m, rfl, h1, h2⟩ := h
  exact .tup (SqT.of h1) (.cons (.str _) (.cons (.tup (SqT.of h2) (dp_strs0 _)) .nil))
theorem dp_axs {K : PySem.W.Frag} {H : Hp} {v : V} {as : List Ax} (h : AxesAt H v as) : Dp K H v (axsD as) := by
  obtain ⟨p, vs, rfl, h1, h2⟩ := h
  exact .tup (SqT.of h1) (dpall (f := axD) (fun _ _ => dp_ax) h2)
theorem dp_cells {K : PySem.W.Frag} {H : Hp} {v : V} {cs : List (List Str)} (h : CellsAt H v cs) : Dp K H v (cellsD cs) := by
  obtain ⟨p, vs, rfl, h1, h2⟩ := h
  exact .tup (SqT.of h1) (dpall (f := strsD) (fun _ _ => dp_strs) h2)
theorem dp_axl {K : PySem.W.Frag} {H : Hp} {p : Addr} {vs : List V} {as : List Ax} (h : H p = some (.lst vs)) (al : All2 (AxAt H) vs as) : Dp K H (.ref p) (.list (as.map axD)) := .lst (SqL.of h) (dpall (f := axD) (fun _ _ => dp_ax) al)
/-! ### tuples stay -/
def TSame (H H' : Hp) : Prop := ∀ a xs, H a = some (.tup xs) → H' a = some (.tup xs)
theorem Same.t {H H' : Hp} (s : Same H H') : TSame H H' := fun _ _ h => s _ _ h
theorem TSame.trans {H H1 H2 : Hp} (a : TSame H H1) (b : TSame H1 H2) : TSame H H2 := fun _ _ h => b _ _ (a _ _ h)
theorem TSame.refl (H : Hp) : TSame H H := fun _ _ h => h
theorem tsame_upd {H : Hp} {p : Addr} {o : HO} (h : ∀ xs, H p ≠ some (.tup xs)) : TSame H (upd H p o) := fun a xs e => by
  rw [upd_ne fun z => h xs (by rw [← z]; exact e)]
  exact e
theorem StrsT.t {H H' : Hp} {v : V} {zs : List Str} (h : StrsT H v zs) (s : TSame H H') : StrsT H' v zs := let ⟨m, e, h⟩ := h; ⟨m, e, s _ _ h⟩
theorem AxAt.t {H H' : Hp} {v : V} {a : Ax} (h : AxAt H v a) (s : TSame H H') : AxAt H' v a := let ⟨q, m, e, h1, h2⟩ := h; ⟨q, m, e, s _ _ h1, s _ _ h2⟩
theorem AxesAt.t {H H' : Hp} {v : V} {as : List Ax} (h : AxesAt H v as) (s : TSame H H') : AxesAt H' v as := let ⟨p, vs, e, h1, h2⟩ := h; ⟨p, vs, e, s _ _ h1, h2.imp fun _ _ x => x.t s⟩
theorem CellsAt.t {H H' : Hp} {v : V} {cs : List (List Str)} (h : CellsAt H v cs) (s : TSame H H') : CellsAt H' v cs := let ⟨p, vs, e, h1, h2⟩ := h; ⟨p, vs, e, s _ _ h1, h2.imp fun _ _ x => x.t s⟩
/-! ### right axes -/
structure GoodAx (as : List Ax) : Prop where
  lo : 1 ≤ as.length
  hi : as.length ≤ 3
  ok : AxOk as
  nd : (as.map (·.1)).Nodup
  ms : ∀ a ∈ as, a.2 ≠ [] ∧ a.2.Nodup ∧ a.2.length ≤ 4
  sz : (cellsL as).length ≤ 8
theorem GoodAx.small {as : List Ax} (h : GoodAx as) : Small as := ⟨h.hi, fun a ha => (h.ms a ha).2.2⟩
def AxRow (H : Hp) (v : V) (a : Ax) : Prop := ∃ mv, Row H v [.str a.1, mv] ∧ Row H mv (a.2.map V.str)
theorem AxAt.row {H : Hp} {v : V} {a : Ax} (h : AxAt H v a) : AxRow H v a := by
  obtain ⟨q, m, rfl, h1, h2⟩ := h
  exact ⟨.ref m, ⟨q, rfl, .inr h1⟩, ⟨m, rfl, .inr h2⟩⟩
theorem right_good {H : Hp} {x : V} {as : List Ax} (h : Right H x as) : GoodAx as ∧ ∃ xs, Row H x xs ∧ All2 (AxRow H) xs as := by
  obtain ⟨ps, ⟨xs, rx, a2⟩, fw, nm, mm, ⟨len, ao⟩, sz⟩ := h
  have get : ∀ a ∈ as, ∃ (i : Nat) (p : Pr), ps[i]? = some p ∧ as[i]? = some a ∧ p ∈ ps := by
    intro a ha
    obtain ⟨i, hi, rfl⟩ := List.mem_iff_getElem.mp ha
    have lt : i < ps.length := by rw [len]; exact hi
    exact ⟨i, ps[i], List.getElem?_eq_getElem lt, List.getElem?_eq_getElem hi, List.getElem_mem lt⟩
  have mem : ∀ (p : Pr) (a : Ax), p ∈ ps → Row H p.2 (a.2.map V.str) → a.2 ≠ [] ∧ (∀ m ∈ a.2, NameS m) ∧ a.2.Nodup ∧ a.2.length ≤ 4 := by
    intro p a hp r
    obtain ⟨ys, r2, ne, al, nd, l4⟩ := mm p hp
    obtain rfl := r.one r2
    refine ⟨fun z => ne (by rw [z]; rfl), fun m hm => ?_, (nodup_strs _).mp nd, by rw [List.length_map] at l4; exact l4⟩
    obtain ⟨z, e, hz⟩ := al (.str m) (List.mem_map_of_mem hm)
    cases e
    exact hz
  refine ⟨⟨by rw [← len]; exact fw.1, by rw [← len]; exact fw.2, fun a ha => ?_, ?_, fun a ha => ?_, sz⟩, xs, rx, by rw [a2.1, len], fun i v a h1 h2 => ?_⟩
  · obtain ⟨i, p, e1, e2, hp⟩ := get a ha
    obtain ⟨n1, n2⟩ := ao i p a e1 e2
    obtain ⟨z, e, hz⟩ := nm.1 p hp
    rw [n1] at e
    cases e
    exact ⟨hz, (mem p a hp n2).2.1⟩
  · have e : ps.map (·.1) = (as.map (·.1)).map V.str := by
      refine List.ext_getElem? fun i => ?_
      rw [List.getElem?_map, List.getElem?_map, List.getElem?_map]
      by_cases lt : i < ps.length
      · have l2 : i < as.length := by rw [← len]; exact lt
        rw [List.getElem?_eq_getElem lt, List.getElem?_eq_getElem l2]
        exact congrArg some (ao i _ _ (List.getElem?_eq_getElem lt) (List.getElem?_eq_getElem l2)).1
      · rw [List.getElem?_eq_none (by omega), List.getElem?_eq_none (by rw [← len]; omega)]
        rfl
    have nd := nm.2
    rw [e] at nd
    exact (nodup_strs _).mp nd
  · obtain ⟨i, p, e1, e2, hp⟩ := get a ha
    obtain ⟨m1, _, m2, m3⟩ := mem p a hp (ao i p a e1 e2).2
    exact ⟨m1, m2, m3⟩
  · have l1 := (List.getElem?_eq_some_iff.mp h1).1
    have l2 : i < ps.length := by rw [← a2.1]; exact l1
    have r := a2.2 i v ps[i] h1 (List.getElem?_eq_getElem l2)
    obtain ⟨n1, n2⟩ := ao i ps[i] a (List.getElem?_eq_getElem l2) h2
    exact ⟨_, by rw [← n1]; exact r, n2⟩
/-- a row of right axes is right -/
theorem good_right {H : Hp} {x : V} {as : List Ax} {xs : List V} (g : GoodAx as) (rx : Row H x xs) (al : All2 (AxRow H) xs as) : Right H x as := by
  have go : ∀ (xs : List V) (as : List Ax), All2 (AxRow H) xs as → ∃ ps : List Pr, All2 (fun v p => Row H v [p.1, p.2]) xs ps ∧ AsOf H ps as := by
    intro xs
    induction xs with
    | nil =>
      intro as h
      cases as with
      | nil => exact ⟨[], All2.nil, rfl, fun i p a e => by simp at e⟩
      | cons a r => cases h.1
    | cons v r ih =>
      intro as h
      cases as with
      | nil => cases h.1
      | cons a as =>
        obtain ⟨mv, r1, r2⟩ := h.2 0 v a rfl rfl
        obtain ⟨ps, h1, h2⟩ := ih as ⟨Nat.succ.inj h.1, fun i x b e1 e2 => h.2 (i + 1) x b e1 e2⟩
        refine ⟨(.str a.1, mv) :: ps, ⟨by rw [List.length_cons, List.length_cons, h1.1], fun i x p e1 e2 => ?_⟩, by rw [List.length_cons, List.length_cons, h2.1], fun i p b e1 e2 => ?_⟩
        · cases i with
          | zero => cases e1; cases e2; exact r1
          | succ i => exact h1.2 i x p e1 e2
        · cases i with
          | zero => cases e1; cases e2; exact ⟨rfl, r2⟩
          | succ i => exact h2.2 i p b e1 e2
  obtain ⟨ps, po, ao⟩ := go xs as al
  have get : ∀ p ∈ ps, ∃ a, a ∈ as ∧ p.1 = .str a.1 ∧ Row H p.2 (a.2.map V.str) := by
    intro p hp
    obtain ⟨i, hi, rfl⟩ := List.mem_iff_getElem.mp hp
    have lt : i < as.length := by rw [← ao.1]; exact hi
    exact ⟨as[i], List.getElem_mem lt, ao.2 i _ _ (List.getElem?_eq_getElem hi) (List.getElem?_eq_getElem lt)⟩
  refine ⟨ps, ⟨xs, rx, po⟩, ⟨by rw [ao.1]; exact g.lo, by rw [ao.1]; exact g.hi⟩, ⟨fun p hp => ?_, ?_⟩, fun p hp => ?_, ao, g.sz⟩
  · obtain ⟨a, ha, e, _⟩ := get p hp
    exact ⟨a.1, e, (g.ok a ha).1⟩
  · have e : ps.map (·.1) = (as.map (·.1)).map V.str := by
      refine List.ext_getElem? fun i => ?_
      rw [List.getElem?_map, List.getElem?_map, List.getElem?_map]
      by_cases lt : i < ps.length
      · have l2 : i < as.length := by rw [← ao.1]; exact lt
        rw [List.getElem?_eq_getElem lt, List.getElem?_eq_getElem l2]
        exact congrArg some (ao.2 i _ _ (List.getElem?_eq_getElem lt) (List.getElem?_eq_getElem l2)).1
      · rw [List.getElem?_eq_none (by omega), List.getElem?_eq_none (by rw [← ao.1]; omega)]
        rfl
    rw [e]
    exact (nodup_strs _).mpr g.nd
  · obtain ⟨a, ha, _, r⟩ := get p hp
    obtain ⟨m1, m2, m3⟩ := g.ms a ha
    refine ⟨_, r, fun z => m1 (List.map_eq_nil_iff.mp z), fun y hy => ?_, (nodup_strs _).mpr m2, by rw [List.length_map]; exact m3⟩
    obtain ⟨m, hm, rfl⟩ := List.mem_map.mp hy
    exact ⟨m, rfl, (g.ok a ha).2 m hm⟩
theorem nodup_back {α : Type} {l : List α} (h : l.Nodup) : l.reverse.Nodup := List.pairwise_reverse.mpr (h.imp fun h => Ne.symm h)
/-- how many cells -/
theorem cellsL_len (as : List Ax) : (cellsL as).length = (as.map fun a => a.2.length).foldl (· * ·) 1 := by
  have go : ∀ (as : List Ax) (cs : List (List Str)), (as.foldl (fun cs a => longer cs a.2) cs).length = (as.map fun a => a.2.length).foldl (· * ·) cs.length := by
    intro as
    induction as with
    | nil => intro cs; rfl
    | cons a r ih =>
      intro cs
      rw [List.foldl_cons, ih, longer_len, List.map_cons, List.foldl_cons]
  exact go as [[]]
theorem GoodAx.back {as : List Ax} (g : GoodAx as) : GoodAx as.reverse := by
  refine ⟨by rw [List.length_reverse]; exact g.lo, by rw [List.length_reverse]; exact g.hi, fun a ha => g.ok a (List.mem_reverse.mp ha), ?_, fun a ha => g.ms a (List.mem_reverse.mp ha), ?_⟩
  · rw [List.map_reverse]
    exact nodup_back g.nd
  · have h := g.sz
    have h3 := g.hi
    rw [cellsL_len] at h ⊢
    match as, h3, h with
    | [], _, h => exact h
    | [a], _, h => exact h
    | [a, b], _, h =>
      have e : 1 * b.2.length * a.2.length = 1 * a.2.length * b.2.length := by rw [Nat.one_mul, Nat.one_mul, Nat.mul_comm]
      show 1 * b.2.length * a.2.length ≤ 8
      rw [e]
      exact h
    | [a, b, c], _, h =>
      have e : 1 * c.2.length * b.2.length * a.2.length = 1 * a.2.length * b.2.length * c.2.length := by
        rw [Nat.one_mul, Nat.one_mul, Nat.mul_comm, ← Nat.mul_assoc, Nat.mul_right_comm]
      show 1 * c.2.length * b.2.length * a.2.length ≤ 8
      rw [e]
      exact h
def turned (as : List Ax) : List Ax := as.map fun a => (a.1, a.2.reverse)
theorem GoodAx.turn {as : List Ax} (g : GoodAx as) : GoodAx (turned as) := by
  unfold turned
  refine ⟨by rw [List.length_map]; exact g.lo, by rw [List.length_map]; exact g.hi, fun b hb => ?_, ?_, fun b hb => ?_, ?_⟩
  · obtain ⟨a, ha, rfl⟩ := List.mem_map.mp hb
    exact ⟨(g.ok a ha).1, fun m hm => (g.ok a ha).2 m (List.mem_reverse.mp hm)⟩
  · rw [List.map_map]
    exact g.nd
  · obtain ⟨a, ha, rfl⟩ := List.mem_map.mp hb
    obtain ⟨m1, m2, m3⟩ := g.ms a ha
    exact ⟨fun z => m1 (List.reverse_eq_nil_iff.mp z), nodup_back m2, by rw [List.length_reverse]; exact m3⟩
  · have h := g.sz
    rw [cellsL_len] at h ⊢
    rw [List.map_map]
    have e : ((fun a : Ax => a.2.length) ∘ fun a : Ax => (a.1, a.2.reverse)) = fun a : Ax => a.2.length := by
      funext a
      exact List.length_reverse
    rw [e]
    exact h
end K4

set_option Elab.async false
set_option linter.all false
set_option maxRecDepth 100000
set_option maxHeartbeats 4000000
namespace K4
open PySem L2 TL
abbrev sInit : Stmt := inClass (top 19) 0
abbrev sEq : Stmt := inClass (top 19) 1
/-! ### what a Grid looks like -/
theorem nac : ¬ (("axes" : Str) = "cells") := by decide +kernel
theorem nas : ¬ (("axes" : Str) = "size") := by decide +kernel
theorem ncs : ¬ (("cells" : Str) = "size") := by decide +kernel
def f1 (va : V) : List (Str × V) := putF "axes" va []
def f2 (va vc : V) : List (Str × V) := putF "cells" vc (f1 va)
def flds (va vc : V) (n : Int) : List (Str × V) := putF "size" (.int n) (f2 va vc)
theorem f1_axes (va : V) : (f1 va).lookup ("axes" : Str) = some va := by
  unfold f1
  rw [lookup_putF, if_pos rfl]
theorem f2_axes (va vc : V) : (f2 va vc).lookup ("axes" : Str) = some va := by
  unfold f2
  rw [lookup_putF, if_neg nac, f1_axes]
theorem f2_cells (va vc : V) : (f2 va vc).lookup ("cells" : Str) = some vc := by
  unfold f2
  rw [lookup_putF, if_pos rfl]
theorem flds_axes (va vc : V) (n : Int) : (flds va vc n).lookup ("axes" : Str) = some va := by
  unfold flds
  rw [lookup_putF, if_neg nas, f2_axes]
theorem flds_cells (va vc : V) (n : Int) : (flds va vc n).lookup ("cells" : Str) = some vc := by
  unfold flds
  rw [lookup_putF, if_neg ncs, f2_cells]
theorem flds_size (va vc : V) (n : Int) : (flds va vc n).lookup ("size" : Str) = some (.int n) := by
  unfold flds
  rw [lookup_putF, if_pos rfl]
def GridAt (C : Addr) (H : Hp) (p : Addr) (as : List Ax) : Prop := ∃ dx va vc, H p = some (.ins C dx (flds va vc ((cellsL as).length : Int))) ∧ AxesAt H va as ∧ CellsAt H vc (cellsL as)
theorem GridAt.same {C : Addr} {H H' : Hp} {p : Addr} {as : List Ax} (h : GridAt C H p as) (s : Same H H') : GridAt C H' p as := let ⟨dx, va, vc, e, a, c⟩ := h; ⟨dx, va, vc, s _ _ e, a.same s, c.same s⟩
structure GTxt (K : PySem.W.Frag) (mg : Str → Option Value) (C E B : Addr) : Prop where
  cl : Cls K C
  nA : NoAttr K C "axes"
  nC : NoAttr K C "cells"
  nS : NoAttr K C "size"
  mgC : mg "Grid" = some (.ref C)
  ca : PySem.W.findIn K (.ref C) "__class__" = some (some (.builtin "object.__class__"))
  cn : PySem.W.specialIn K (.builtin "object.__class__") "__get__" = some (some (.builtin "getset_descriptor.__get__"))
  ct : PySem.W.takesIn K (.builtin "object.__class__") = some true
  cm : PySem.W.mroIn K C (.type "object") = some true
  ox : OexC K E
  mgE : mg "NoGrid" = some (.ref E)
  noW : PySem.W.findIn K (.ref E) "word" = some none
  xf : XfC K E
  exm : PySem.W.exmOne K (.ref E) (.ref E) = some true
  up : PySem.W.kitCls K (.ref E) (.ref B) = some true
  neB : E ≠ B
  mgB : mg "ToldError" = some (.ref B)
/-- an error with this word is let out; but for what stands at p all is as it was -/
def Raised (E : Addr) (p : Addr) (H : Hp) (X : XK) (w : Str) : Prop := ∀ d H', (∀ a o, a ≠ p → H a = some o → H' a = some o) → H' d = some (.xd [(("word" : Str), .str w)]) → X (.ref E) (some d) H'
theorem Raised.at {E p : Addr} {H H1 : Hp} {X : XK} {w : Str} (h : Raised E p H X w) (s : ∀ a o, a ≠ p → H a = some o → H1 a = some o) : Raised E p H1 X w := fun d H' s' => h d H' fun a o n e => s' a o n (s a o n e)
def spInit (K : PySem.W.Frag) (C E : Addr) : Sp := fun vs H Q X => ∃ p dx x, vs = [.ref p, x] ∧ H p = some (.ins C dx []) ∧ Kn 3 H x ∧
  ((∃ w, Wrong H x w ∧ Raised E p H X w) ∨ (∃ as, Right H x as ∧ ∀ H', (∀ a o, a ≠ p → H a = some o → H' a = some o) → GridAt C H' p as → Q .non H'))
def spEq (K : PySem.W.Frag) (C : Addr) : Sp := fun vs H Q _ => ∃ p y as, vs = [.ref p, y] ∧ GridAt C H p as ∧ AxOk as ∧
  ((∃ q bs, y = .ref q ∧ GridAt C H q bs ∧ AxOk bs ∧ ∀ r : Bool, (r = true ↔ as = bs) → Q (.bl r) H) ∨ (∃ ty, TyX K H y ty ∧ PySem.W.kitOne K ty (.ref C) = some false ∧ Q (.bl false) H))
theorem raised_ok {K : PySem.W.Frag} {E p : Addr} {H : Hp} {X : XK} {w : Str} (h : Raised E p H X w) : ([V.str w] : List V).length ≤ 1000 ∧ ∀ a, H a = none → spErr K E (.ref a :: ([V.str w] ++ [])) (upd H a (exo a E none))
    (fun v H2 => v = .non ∧ ∃ (d : Addr) (fs : List (Str × V)), H2 a = some (exo a E (some d)) ∧ H2 d = some (exd d fs) ∧ H d = none ∧ X (.ref E) (some d) (upd (del H2 a) d (.xd fs))) (fun _ _ _ => False) := by
  refine ⟨by show 1 ≤ 1000; decide, fun a ha => ⟨a, .str w, rfl, upd_same, fun d hd ne => ?_⟩⟩
  have hd' : H d = none := by
    rw [upd_ne ne] at hd
    exact hd
  refine ⟨rfl, d, _, upd_same, by rw [upd_ne ne, upd_same], hd', h d _ (fun b o _ e => ?_) upd_same⟩
  have nb : b ≠ d := ne_of_none e hd'
  have na : b ≠ a := ne_of_none e ha
  rw [upd_ne nb, del_ne na, upd_ne na, upd_ne nb, upd_ne na]
  exact e
/-- a comprehension over a row with any target -/
theorem lc_eachG {xs : List V} {J : It} {te : TE} {g : TG} {vs : List Nat} {σ : St} {H : Hp} {D : Addr} {Qd : Hp → Prop} (σ2 : Nat → St) (G : Nat → List V → Hp → Prop) (wk : Walk J xs.length (fun H' => Same H H') (YAt xs)) (nD : H D = none) (len : xs.length ≤ 1000)
    (hg : ∀ j v, xs[j]? = some v → ∀ H' (Q : St → Hp → Prop), Same H H' → Q (σ2 j) H' → g v (wipe σ vs) H' Q) (hw : ∀ j, j < xs.length → wipe (σ2 j) vs = wipe σ vs)
    (g0 : G 0 [] H) (gl : ∀ j us H', G j us H' → us.length = j) (gs : ∀ j us H' H'', Same H' H'' → G j us H' → G j us H'')
    (gb : ∀ j us H' old o, H' D = some (.lst old) → G j us H' → G j us (upd H' D o))
    (elem : ∀ j v us, xs[j]? = some v → ∀ H' (Q : VK), Same H H' → G j us H' → (∀ u H'', Same H' H'' → G (j + 1) (us ++ [u]) H'' → Q u H'') → te (σ2 j) H' Q) (hd : ∀ us H', Same H H' → H' D = some (.lst us) → G xs.length us H' → Qd H') :
    ∃ W : Nat → Nat → Hp → Prop, (∃ m, W 0 m (upd H D (.lst []))) ∧ ∀ j m H', W j m H' → ((J.stop j H' ∧ Qd H') ∨ (J.go j H' ∧ ∃ Nx : Hp → Prop, (∀ H', Nx H' → ∃ m', m' < m ∧ W (j + 1) m' H') ∧
      ∀ x H2, J.yld j H' x H2 → g x (wipe σ vs) H2 fun σ2 H3 => wipe σ2 vs = wipe σ vs ∧ tYes σ2 H3 fun b H4 => if b = true then te σ2 H4 fun y H5 => ∃ acc, H5 D = some (.lst acc) ∧ acc.length < sizeLine ∧ Nx (upd H5 D (.lst (acc ++ [y]))) else Nx H4)) := by
  refine lc_it wk (fun j H' => Same H H' ∧ ∃ us, H' D = some (.lst us) ∧ G j us H') ⟨new nD, [], upd_same, gs 0 [] H _ (new nD) g0⟩ (fun _ _ _ h => h.1) ?_ ?_
  · rintro j v H1 H2 hj ⟨s1, us, e1, g1⟩ ⟨rfl, hv⟩
    refine hg j v hv _ _ s1 ⟨hw j hj, ?_⟩
    unfold tYes
    refine iteT (elem j v us hv _ _ s1 g1 fun u H3 s3 g3 => ⟨us, s3 _ _ e1, ?_, fun c o e => ?_, us ++ [u], upd_same, ?_⟩)
    · rw [gl j us _ g1]
      exact Nat.lt_of_lt_of_le (show j < 1000 by omega) (by decide)
    · rw [upd_ne (ne_of_none e nD)]
      exact s3 _ _ (s1 _ _ e)
    · exact gb _ _ H3 us _ (s3 _ _ e1) g3
  · rintro H1 ⟨s1, us, e1, g1⟩
    exact hd us H1 s1 e1 g1
section
variable {P : Program} {w : World} {K : PySem.W.Frag} {mg : Str → Option Value} {base : Heap} {C E B f g h : Addr} {fd gd hd : FuncData}
theorem scErr : FnScope ["self", "word"] ["self", "word"] (defScope sErr) := ⟨rfl, rfl, rfl, by decide +kernel, rfl, by decide +kernel, by decide +kernel⟩
theorem ok_err (F : FnP K "__init__" "NoGrid.__init__" sErr [] f fd) (T : GTxt K mg C E B) : FnOk P w K mg base CX0 1 f fd ["self", "word"] (spErr K E) := by
  refine F.ok scErr (fun vs H Q X z => ?_) (fun cdv A outer s H vs Q X hr z => ?_)
  · obtain ⟨a, v, rfl, _⟩ := z
    rfl
  · obtain ⟨a, v, rfl, ha, k⟩ := z
    refine ⟨_, PSs.nox (pss_one (ps_ost (pv 0) (pv 1))), ?_⟩
    exact ⟨_, rfl, _, rfl, a, E, rfl, T.ox, T.noW, .inl ⟨ha, fun d hd ne => k d hd ne⟩⟩
theorem ty_grid (T : GTxt K mg C E B) {H : Hp} {p : Addr} {as : List Ax} (h : GridAt C H p as) : TyX K H (.ref p) (.ref C) := by
  obtain ⟨dx, va, vc, e, _⟩ := h
  exact .base (.ins e T.cl T.ca T.cn T.ct T.cm)
theorem kit_self {K : PySem.W.Frag} {t : Value} : PySem.W.kitOne K t t = some true := by
  unfold PySem.W.kitOne
  rw [if_pos (beq_self_eq_true t)]
theorem scEq : FnScope ["self", "other"] ["self", "other"] (defScope sEq) := ⟨rfl, rfl, rfl, by decide +kernel, rfl, by decide +kernel, by decide +kernel⟩
theorem ok_eq (F : FnP K "__eq__" "Grid.__eq__" sEq [] f fd) (T : Txt K mg) (G : GTxt K mg C E B) : FnOk P w K mg base CX0 1 f fd ["self", "other"] (spEq K C) := by
  refine F.ok scEq (fun vs H Q X z => ?_) (fun cdv A outer s H vs Q X hr z => ?_)
  · obtain ⟨p, y, as, rfl, _⟩ := z
    rfl
  · obtain ⟨p, y, as, rfl, gp, oa, z⟩ := z
    refine ⟨_, PSs.nox (pss_one (ps_ret (pe_and (pe_callB call_isi (by rfl) T.isinst (by decide +kernel) (pa_cons (pv 1) (pa_cons (pe_glob (v := .ref C) (by rfl) G.mgC rfl) pa_nil)))
      (pe_one (pe_cmpR (op_eqD hr.units) (pe_fld (pv 0) rfl) (pe_fld (pv 1) rfl) (nomark _)))))), ?_⟩
    rcases z with ⟨q, bs, rfl, gq, ob, k⟩ | ⟨ty, hty, hk, k⟩
    · have t2 := ty_grid G gq
      obtain ⟨dx, va, vc, e1, a1, _⟩ := gp
      obtain ⟨dy, vb, vd, e2, a2, _⟩ := gq
      refine ⟨_, rfl, _, .ref C, .ref C, _, true, rfl, .own C, t2, kit_self, true, rfl, iteT ?_⟩
      refine ⟨_, rfl, p, C, dx, _, _, rfl, e1, G.cl, G.nA, flds_axes _ _ _, _, rfl, q, C, dy, _, _, rfl, e2, G.cl, G.nA, flds_axes _ _ _, _, _, dp_axs a1, dp_axs a2, shaped_axs oa, shaped_axs ob, k _ (eqv_axs as bs)⟩
    · exact ⟨_, rfl, y, .ref C, ty, _, false, rfl, .own C, hty, hk, false, rfl, iteF k⟩
end
end K4

set_option Elab.async false
set_option linter.all false
set_option maxRecDepth 100000
set_option maxHeartbeats 4000000
namespace K4
open PySem L2 TL
theorem Few.len {ps : List Pr} (f : Few ps) : ps.length ≤ 100 := Nat.le_trans f.2 (by decide)
/-- the pairs of a row, and the things in them -/
theorem pairs_kn {H : Hp} {x : V} {ps : List Pr} (k : Kn 3 H x) (h : PairsOf H x ps) : ∃ xs, Row H x xs ∧ All2 (fun v p => Row H v [p.1, p.2]) xs ps ∧ (∀ v ∈ xs, Kn 2 H v) ∧ ∀ p ∈ ps, Kn 1 H p.1 ∧ Kn 1 H p.2 := by
  obtain ⟨xs, r, a⟩ := h
  have kx := (k.of_row r).2
  refine ⟨xs, r, a, kx, fun p hp => ?_⟩
  obtain ⟨i, hi, rfl⟩ := List.mem_iff_getElem.mp hp
  have lt : i < xs.length := by rw [a.1]; exact hi
  have rv := a.2 i xs[i] ps[i] (List.getElem?_eq_getElem lt) (List.getElem?_eq_getElem hi)
  have k2 := ((kx _ (List.getElem_mem lt)).of_row rv).2
  exact ⟨k2 _ List.mem_cons_self, k2 _ (List.mem_cons_of_mem _ List.mem_cons_self)⟩
theorem take_snoc {α : Type} {l : List α} {j : Nat} {a : α} (h : l[j]? = some a) : l.take (j + 1) = l.take j ++ [a] := by
  rw [List.take_add_one, h]
  rfl
theorem take_all {α : Type} {l : List α} {n : Nat} (h : n = l.length) : l.take n = l := List.take_of_length_le (Nat.le_of_eq h.symm)
theorem Unlike.iff {H : Hp} {D : Addr} {ps : List Pr} (f : Few ps) (e : H D = some (.lst (ps.map (·.1)))) : Unlike H (.ref D) ↔ NameOk ps := by
  constructor
  · rintro ⟨xs, r, _, al, nd⟩
    obtain rfl := r.one ⟨D, rfl, .inl e⟩
    exact ⟨fun p hp => al _ (List.mem_map_of_mem hp), nd⟩
  · rintro ⟨al, nd⟩
    refine ⟨_, ⟨D, rfl, .inl e⟩, fun z => ?_, fun x hx => ?_, nd⟩
    · have l := f.1
      have l2 : (ps.map (·.1)).length = 0 := by rw [z]; rfl
      rw [List.length_map] at l2
      omega
    · obtain ⟨p, hp, rfl⟩ := List.mem_map.mp hx
      exact al p hp
/-- a pair whose second thing is members -/
def PMem (H : Hp) (v : V) : Prop := ∃ a b, Row H v [a, b] ∧ Mem H b
theorem pmem_all {H : Hp} {xs : List V} {ps : List Pr} (a : All2 (fun v p => Row H v [p.1, p.2]) xs ps) : (∀ v ∈ xs, PMem H v) ↔ MemOk H ps := by
  constructor
  · intro h p hp
    obtain ⟨i, hi, rfl⟩ := List.mem_iff_getElem.mp hp
    have lt : i < xs.length := by rw [a.1]; exact hi
    have r := a.2 i xs[i] ps[i] (List.getElem?_eq_getElem lt) (List.getElem?_eq_getElem hi)
    obtain ⟨c, d, r2, m⟩ := h _ (List.getElem_mem lt)
    have e := r.one r2
    rw [show ps[i].2 = d from (List.cons.inj (List.cons.inj e).2).1]
    exact m
  · intro h v hv
    obtain ⟨i, hi, rfl⟩ := List.mem_iff_getElem.mp hv
    have lt : i < ps.length := by rw [← a.1]; exact hi
    exact ⟨_, _, a.2 i xs[i] ps[i] (List.getElem?_eq_getElem hi) (List.getElem?_eq_getElem lt), h _ (List.getElem_mem lt)⟩
section
variable {D : Ends} {σ : St} {H : Hp} {sp : Sp} {E : XK} {te : TE} {r : List V → Hp → VK → Prop} {c : TT} {t u a b : TS} {Q : Bool → Hp → Prop}
theorem nx_ {n : St → Hp → Prop} {r2 : VK} {b2 c2 : St → Hp → Prop} (h : n σ H) : tNext { nx := n, rt := r2, bk := b2, ct := c2 } σ H := h
theorem sq (h : a { D with nx := b D } σ H) : tSeq a b D σ H := h
theorem if_ (h : c σ H fun k H1 => if k = true then t D σ H1 else u D σ H1) : tIfS c t u D σ H := h
theorem nb_call (h : te σ H fun x H1 => sp [x] H1 (fun z H2 => ∃ k, z = .bl k ∧ Q (!k) H2) E) : tNot (tB (tCall sp [] E (tCons te tNil))) σ H Q := h
theorem nb_cb (h : te σ H fun x H1 => r [x] H1 (fun z H2 => ∃ k, z = .bl k ∧ Q (!k) H2)) : tNot (tB (tCB r (tCons te tNil))) σ H Q := h
theorem fld_cb {K : PySem.W.Frag} {ta : TE} {f : Str} (h : te σ H fun x H1 => r [x] H1 fun y H2 => ta σ H2 fun x H2 => ∃ a C dx fs, x = .ref a ∧ H2 a = some (.ins C dx fs) ∧ Cls K C ∧ NoAttr K C f ∧ fs.length < 1000 ∧
  D.nx σ (upd H2 a (.ins C dx (putF f y fs)))) : sFld K ta (tCB r (tCons te tNil)) f D σ H := h
end
section
variable {P : Program} {w : World} {K : PySem.W.Frag} {mg : Str → Option Value} {base : Heap} {C E B f g h : Addr} {fd gd hd : FuncData}
theorem scInit : FnScope ["self", "axes", "axis", "name", "members"] ["self", "axes"] (defScope sInit) := ⟨rfl, rfl, rfl, by decide +kernel, rfl, by decide +kernel, by decide +kernel⟩
abbrev rTup (K : PySem.W.Frag) : List V → Hp → VK → Prop := fun xs H Q => ∃ p ys, xs = [.ref p] ∧ ((SqL K H p ys ∧ ∀ l, H l = none → Q (.ref l) (upd H l (.tup ys))) ∨ (SqT K H p ys ∧ Q (.ref p) H))
abbrev gPair (K : PySem.W.Frag) : TG := fun v σ H Q => gTup K 2 (gCons (gName 3) (gCons (gName 4) gNil)) v σ H Q ∨ gLst K 2 (gCons (gName 3) (gCons (gName 4) gNil)) v σ H Q
theorem ok_init {t1 : Tok} (F : FnP K "__init__" "Grid.__init__" sInit [] f fd) (T : Txt K mg) (G : GTxt K mg C E B) (hM : mg "MOST_CELLS" = some (.int 8 t1)) (GE : ErrOk P w K mg base E 1 ["self", "word"] (spErr K E))
    (GA : GloOk P w K mg base CX0 3 "are_pairs_of_axes" ["axes"] spAxes) (GU : GloOk P w K mg base CX0 4 "are_unlike_names" ["found"] spUnlike) (GM : GloOk P w K mg base CX0 5 "are_members" ["found"] spMem) (GC : GloOk P w K mg base CX0 1 "cells_of" ["axes"] spCells) :
    FnOk P w K mg base (L2.CX P w) 6 f fd ["self", "axes"] (spInit K C E) := by
  obtain ⟨fE, fdE, GE, iE, tE, bE⟩ := GE
  obtain ⟨fA, fdA, GA, mA, kA, bA⟩ := GA
  obtain ⟨fU, fdU, GU, mU, kU, bU⟩ := GU
  obtain ⟨fM, fdM, GM, mM, kM, bM⟩ := GM
  obtain ⟨fC, fdC, GC, mC, kC, bC⟩ := GC
  refine F.ok scInit (fun vs H Q X z => ?_) (fun cdv A outer s H vs Q X hr z => ?_)
  · obtain ⟨p, dx, x, rfl, _⟩ := z
    rfl
  · obtain ⟨p, dx, x, rfl, hp, kn, z⟩ := z
    have hr1 : Room 1 _ := hr.mono (by decide)
    have hr2 : Room 2 _ := hr.mono (by decide)
    have hr3 : Room 3 _ := hr.mono (by decide)
    have hr4 : Room 4 _ := hr.mono (by decide)
    refine ⟨_, pss_cons (ps_if (pt_not (pt_val (pe_call GA hr3 rfl mA kA bA .nil pass0 (pa_cons (pv 1) pa_nil)))) (pss_one (ps_raise rfl (takes_of rfl rfl rfl rfl) (pmk_oex G.ox iE tE GE hr2 bE .nil pass0 rfl G.mgE (pa_cons pe_str pa_nil)))) pss_nil)
      (pss_cons (ps_if (pt_not (pt_val (pe_call GU hr4 rfl mU kU bU .nil pass0 (pa_cons
          (pe_lc (own := [("axis", 2)]) (g := gName 2) (tt := tYes) (by rfl) scInit.nd (pi_row (pv 1)) (blkOk_by (own := [("axis", 2)]) (N := ["self", "axes", "axis", "name", "members"]) (sc := defScope sInit) (by decide +kernel)) (fun _ _ _ _ _ => pg_name (i := 2) scInit.nd rfl (Or.inl rfl)) (fun _ _ _ _ _ => pts_nil)
            (fun _ _ _ _ _ => show PE _ _ (tOp (rIx K) (tVar 2) (tC (.int 0))) from pe_ix ix_seq (pv 2) pe_int (fun _ _ => rfl))) pa_nil)))) (pss_one (ps_raise rfl (takes_of rfl rfl rfl rfl) (pmk_oex G.ox iE tE GE hr2 bE .nil pass0 rfl G.mgE (pa_cons pe_str pa_nil)))) pss_nil)
      (pss_cons (ps_if (pt_not (pt_val (pe_callB (cr_all rfl) (by rfl) T.all (by decide +kernel) (pa_cons
          (pe_lc (own := [("axis", 2)]) (g := gName 2) (tt := tYes) (by rfl) scInit.nd (pi_row (pv 1)) (blkOk_by (own := [("axis", 2)]) (N := ["self", "axes", "axis", "name", "members"]) (sc := defScope sInit) (by decide +kernel)) (fun _ _ _ _ _ => pg_name (i := 2) scInit.nd rfl (Or.inl rfl)) (fun _ _ _ _ _ => pts_nil)
            (fun _ _ _ _ _ => show PE _ _ (tCall spMem [] E0 (tCons (tOp (rIx K) (tVar 2) (tC (.int 1))) tNil)) from pe_call GM hr rfl mM kM bM .nil pass0 (pa_cons (pe_ix ix_seq (pv 2) pe_int (fun _ _ => rfl)) pa_nil))) pa_nil)))) (pss_one (ps_raise rfl (takes_of rfl rfl rfl rfl) (pmk_oex G.ox iE tE GE hr2 bE .nil pass0 rfl G.mgE (pa_cons pe_str pa_nil)))) pss_nil)
      (pss_cons (ps_fld (pv 0) (pe_callTy call_tuple_of (by rfl) T.tuple (by decide +kernel) (pa_cons
          (pe_lc (own := [("name", 3), ("members", 4)]) (g := gPair K) (tt := tYes) (by rfl) scInit.nd (pi_row (pv 1)) (blkOk_by (own := [("name", 3), ("members", 4)]) (N := ["self", "axes", "axis", "name", "members"]) (sc := defScope sInit) (by decide +kernel))
            (fun _ _ _ _ _ => pg_or (pg_tup (by rfl) (pgs_cons (pg_name (i := 3) scInit.nd rfl (Or.inl rfl)) (pgs_cons (pg_name (i := 4) scInit.nd rfl (Or.inl rfl)) pgs_nil))) (pg_lst (by rfl) (pgs_cons (pg_name (i := 3) scInit.nd rfl (Or.inl rfl)) (pgs_cons (pg_name (i := 4) scInit.nd rfl (Or.inl rfl)) pgs_nil)))) (fun _ _ _ _ _ => pts_nil)
            (fun _ _ _ _ _ => show PE _ _ (tTup (tCons (tVar 3) (tCons (tCB (rTup K) (tCons (tVar 4) tNil)) tNil))) from pe_tup (pa_cons (pv 3) (pa_cons (pe_callTy (show CallR _ (.type "tuple") (rTup K) from call_tuple_of) (by rfl) T.tuple (by decide +kernel) (pa_cons (pv 4) pa_nil)) pa_nil)))) pa_nil)) rfl)
      (pss_cons (ps_fld (pv 0) (pe_call GC hr1 rfl mC kC bC .nil pass0 (pa_cons (pe_fld (pv 0) rfl) pa_nil)) rfl)
      (pss_cons (ps_fld (pv 0) (pe_callB call_len_seq (by rfl) T.len PySem.boot_len (pa_cons (pe_fld (pv 0) rfl) pa_nil)) rfl)
      (pss_one (ps_if (pt_cmpR op_gt (pe_fld (pv 0) rfl) (pe_glob (v := .int 8) (by rfl) hM ⟨t1, rfl⟩) (nomark _)) (pss_one (ps_raise rfl (takes_of rfl rfl rfl rfl) (pmk_oex G.ox iE tE GE hr2 bE .nil pass0 rfl G.mgE (pa_cons pe_str pa_nil)))) pss_nil))))))), ?_⟩
    refine ⟨_, rfl, x, rfl, kn.less.less, fun H1 s1 => ⟨fun hp1 => ⟨_, rfl, iteF ?_⟩, fun np => ⟨_, rfl, iteT ?_⟩⟩⟩
    · obtain ⟨ps, po, fw⟩ := pairs_of hp1
      obtain ⟨xs, rx, al, kx, kp⟩ := pairs_kn kn po
      have lx : xs.length = ps.length := al.1
      have l3 := fw.2
      have at_ : ∀ (j : Nat) (v : V), xs[j]? = some v → ∃ q, ps[j]? = some q ∧ q ∈ ps ∧ Row H v [q.1, q.2] := fun j v hv => by
        have lt := (List.getElem?_eq_some_iff.mp hv).1
        have l2 : j < ps.length := by omega
        exact ⟨ps[j], List.getElem?_eq_getElem l2, List.getElem_mem l2, al.2 j v _ hv (List.getElem?_eq_getElem l2)⟩
      have z2 : (Raised E p H X "name" ∧ ¬ NameOk ps) ∨ (Raised E p H X "members" ∧ NameOk ps ∧ ¬ MemOk H ps) ∨ (∃ as, NameOk ps ∧ MemOk H ps ∧ AsOf H ps as ∧
          ((8 < (cellsL as).length ∧ Raised E p H X "cells") ∨ ((cellsL as).length ≤ 8 ∧ ∀ H', (∀ a o, a ≠ p → H a = some o → H' a = some o) → GridAt C H' p as → Q .non H'))) := by
        rcases z with ⟨w, (⟨rfl, np⟩ | ⟨qs, qo, fq, h⟩), r⟩ | ⟨as, ⟨qs, qo, fq, n1, n2, n3, n4⟩, k⟩
        · exact (np hp1).elim
        · obtain rfl := pairs_one po qo
          rcases h with ⟨rfl, h⟩ | ⟨rfl, h1, h2⟩ | ⟨as, rfl, h1, h2, h3, h4⟩
          · exact .inl ⟨r, h⟩
          · exact .inr (.inl ⟨r, h1, h2⟩)
          · exact .inr (.inr ⟨as, h1, h2, h3, .inl ⟨h4, r⟩⟩)
        · obtain rfl := pairs_one po qo
          exact .inr (.inr ⟨as, n1, n2, n3, .inr ⟨n4, k⟩⟩)
      refine nx_ ?_
      refine sq ?_
      refine if_ (nb_call ?_)
      refine tLc_row (x := x) (xs := xs) rfl (rx.same s1) fun J wk D nD => ?_
      refine lc_each (fun j us H' => us = (ps.take j).map (·.1) ∧ j ≤ ps.length) wk nD (by omega) (fun _ => by rfl) ⟨rfl, Nat.zero_le _⟩ (fun j us H' h => ?_) (fun _ _ _ _ _ h => h) (fun _ _ _ _ _ _ h => h) (fun j v us hv H' Q' s' h k => ?_) (fun us H2 s2 e2 h => ?_)
      · rw [h.1, List.length_map, List.length_take, Nat.min_eq_left h.2]
      · obtain ⟨q, hq, hm, r⟩ := at_ j v hv
        refine ⟨_, rfl, ix_row (j := 0) (r.same (s1.trans s')) rfl (k _ _ (Same.refl _) ⟨?_, (List.getElem?_eq_some_iff.mp hq).1⟩)⟩
        rw [take_snoc hq, List.map_append, ← h.1]
        rfl
      · obtain ⟨e, _⟩ := h
        rw [take_all lx] at e
        subst e
        have s12 := s1.trans s2
        refine ⟨.ref D, rfl, .inl ⟨_, ⟨D, rfl, .inl e2⟩, by rw [List.length_map]; exact fw.len, fun y hy => ?_⟩, fun H3 s3 => ⟨fun u => ⟨_, rfl, iteF ?_⟩, fun nu => ⟨_, rfl, iteT ?_⟩⟩⟩
        · obtain ⟨q, hq, rfl⟩ := List.mem_map.mp hy
          exact (kp q hq).1.less.same s12
        · have nok := (Unlike.iff fw e2).mp u
          have s13 := s12.trans s3
          refine nx_ ?_
          refine sq ?_
          refine if_ (nb_cb ?_)
          refine tLc_row (x := x) (xs := xs) rfl (rx.same s13) fun J wk D3 nD3 => ?_
          refine lc_bits (p := PMem H) wk nD3 (by omega) (fun _ => by rfl) (fun v hv H4 Q4 s4 a => ?_) fun H4 s4 e4 => ?_
          · obtain ⟨j, hj, rfl⟩ := List.mem_iff_getElem.mp hv
            obtain ⟨q, hq, hm, r⟩ := at_ j _ (List.getElem?_eq_getElem hj)
            have s14 := s13.trans s4
            refine ⟨_, rfl, ix_row (j := 1) (r.same s14) rfl ⟨_, rfl, ?_, fun H5 s5 => ⟨fun m => (a H5 s5).1 ?_, fun nm => (a H5 s5).2 fun pm => nm ?_⟩⟩⟩
            · exact (kp q hm).2.same s14
            · exact ⟨_, _, r, (Mem.iff (kp q hm).2.less s14).mp m⟩
            · obtain ⟨c, d, r2, m⟩ := pm
              have e := r.one r2
              have ed : q.2 = d := (List.cons.inj (List.cons.inj e).2).1
              exact (Mem.iff (kp q hm).2.less s14).mpr (by rw [ed]; exact m)
          · have s14 := s13.trans s4
            refine ⟨D3, _, rfl, SqL.of e4, _, rfl, ?_⟩
            by_cases mok : MemOk H ps
            · refine itF (by rw [(bits_all _ _).mpr ((pmem_all al).mpr mok)]; rfl) ?_
              obtain ⟨as, _, _, ao, fin⟩ : ∃ as, NameOk ps ∧ MemOk H ps ∧ AsOf H ps as ∧ ((8 < (cellsL as).length ∧ Raised E p H X "cells") ∨ ((cellsL as).length ≤ 8 ∧ ∀ H', (∀ a o, a ≠ p → H a = some o → H' a = some o) → GridAt C H' p as → Q .non H')) := by
                rcases z2 with ⟨_, h⟩ | ⟨_, _, h⟩ | h
                · exact (h nok).elim
                · exact (h mok).elim
                · exact h
              have la : as.length = ps.length := ao.1.symm
              have ax_ : ∀ (j : Nat) (v : V), xs[j]? = some v → ∃ q a m ms, ps[j]? = some q ∧ as[j]? = some a ∧ Row H v [q.1, q.2] ∧ q.1 = .str a.1 ∧ q.2 = .ref m ∧ ms = a.2.map V.str ∧ (H m = some (.lst ms) ∨ H m = some (.tup ms)) := fun j v hv => by
                obtain ⟨q, hq, _, r⟩ := at_ j v hv
                have l1 := (List.getElem?_eq_some_iff.mp hq).1
                have l2 : j < as.length := by omega
                obtain ⟨a1, m, e, a2⟩ := ao.2 j q as[j] hq (List.getElem?_eq_getElem l2)
                exact ⟨q, as[j], m, _, hq, List.getElem?_eq_getElem l2, r, a1, e, rfl, a2⟩
              have sm : Small as := by
                refine ⟨by omega, fun a ha => ?_⟩
                obtain ⟨i, hi, rfl⟩ := List.mem_iff_getElem.mp ha
                have l2 : i < ps.length := by omega
                obtain ⟨ys, r2, _, _, _, l4⟩ := mok _ (List.getElem_mem l2)
                have e := r2.one (ao.2 i _ _ (List.getElem?_eq_getElem l2) (List.getElem?_eq_getElem hi)).2
                rw [e, List.length_map] at l4
                exact l4
              refine nx_ ?_
              refine sq ?_
              refine fld_cb ?_
              refine tLc_row (x := x) (xs := xs) rfl (rx.same s14) fun J wk D4 nD4 => ?_
              refine lc_eachG (fun j => [some (V.ref p), some x, none, some (ps.getD j (V.non, V.non)).1, some (ps.getD j (V.non, V.non)).2]) (fun j us H' => All2 (AxAt H') us (as.take j) ∧ j ≤ as.length) wk nD4 (by omega) (fun j v hv H' Q' s' h => ?_) (fun _ _ => by rfl) ⟨All2.nil, Nat.zero_le _⟩ (fun j us H' h => ?_) (fun j us H' H'' s' h => ⟨h.1.imp fun _ _ y => y.same s', h.2⟩) (fun j us H' old o e h => ⟨h.1.imp fun _ _ y => y.t (tsame_upd fun _ z => by rw [e] at z; cases z), h.2⟩) (fun j v us hv H' Q' s' h k => ?_) (fun us H5 s5 e5 h => ?_)
              · obtain ⟨q, a, m, ms, hq, _, r, _⟩ := ax_ j v hv
                have eq : ps.getD j (V.non, V.non) = q := by rw [List.getD_eq_getElem?_getD, hq]; rfl
                rw [eq] at h
                obtain ⟨b, rfl, hb | hb⟩ := r.same (s14.trans s')
                · exact .inr ⟨b, _, rfl, SqL.of hb, rfl, _, _, rfl, _, _, rfl, rfl, h⟩
                · exact .inl ⟨b, _, rfl, SqT.of hb, rfl, _, _, rfl, _, _, rfl, rfl, h⟩
              · rw [h.1.1, List.length_take, Nat.min_eq_left h.2]
              · obtain ⟨q, a, m, ms, hq, ha, r, n1, n2, rfl, hm⟩ := ax_ j v hv
                have eq : ps.getD j (V.non, V.non) = q := by rw [List.getD_eq_getElem?_getD, hq]; rfl
                rw [eq]
                have s15 := s14.trans s'
                have nxt : ∀ (H6 : Hp) (l r : Addr), Same H' H6 → H6 l = some (.tup (a.2.map V.str)) → H6 r = none → Q' (.ref r) (upd H6 r (.tup [q.1, .ref l])) := fun H6 l r s6 el nr => by
                  refine k _ _ (s6.trans (new nr)) ⟨?_, (List.getElem?_eq_some_iff.mp ha).1⟩
                  rw [take_snoc ha]
                  refine All2.snoc (h.1.imp fun _ _ y => y.same (s6.trans (new nr))) ⟨r, l, rfl, by rw [upd_same, n1], new nr _ _ el⟩
                refine ⟨_, rfl, _, rfl, m, a.2.map V.str, by rw [n2], ?_⟩
                rcases hm with hm | hm
                · exact .inl ⟨SqL.of (s15 _ _ hm), fun l nl => ⟨(by show 2 ≤ sizeLine; decide), fun r nr => nxt _ l r (new nl) upd_same nr⟩⟩
                · exact .inr ⟨SqT.of (s15 _ _ hm), ⟨(by show 2 ≤ sizeLine; decide), fun r nr => nxt _ m r (Same.refl _) (s15 _ _ hm) nr⟩⟩
              · obtain ⟨h, _⟩ := h
                rw [take_all (by omega)] at h
                refine ⟨D4, us, rfl, .inl ⟨SqL.of e5, fun l nl => ?_⟩⟩
                have s16 : Same H (upd H5 l (.tup us)) := (s14.trans s5).trans (new nl)
                have ax6 : AxesAt (upd H5 l (.tup us)) (.ref l) as := ⟨l, us, rfl, upd_same, h.imp fun _ _ y => y.same (new nl)⟩
                generalize upd H5 l (.tup us) = H6 at s16 ax6 ⊢
                have nt : ∀ (H' : Hp) (o : HO), H' p = some o → (∀ xs, o ≠ .tup xs) → ∀ xs, H' p ≠ some (.tup xs) := fun H' o e n xs z => n xs (Option.some.inj (e.symm.trans z))
                refine ⟨_, rfl, p, C, dx, _, rfl, s16 _ _ hp, G.cl, G.nA, (by show 0 < 1000; decide), ?_⟩
                refine nx_ ?_
                refine sq ?_
                have ax7 := ax6.t (tsame_upd (p := p) (o := .ins C dx (putF "axes" (.ref l) [])) (nt _ _ (s16 _ _ hp) fun _ z => by cases z))
                refine ⟨_, rfl, p, C, dx, _, _, rfl, upd_same, G.cl, G.nA, f1_axes _, .ref l, as, rfl, ax7, sm, fun vc H8 s8 cc => ?_⟩
                have ep8 := s8 _ _ (upd_same (H := H6) (a := p) (o := .ins C dx (putF "axes" (.ref l) [])))
                refine ⟨_, rfl, p, C, dx, _, rfl, ep8, G.cl, G.nC, (by show 1 < 1000; decide), ?_⟩
                refine nx_ ?_
                refine sq ?_
                have t9 := tsame_upd (p := p) (o := .ins C dx (putF "cells" vc (putF "axes" (.ref l) []))) (nt _ _ ep8 fun _ z => by cases z)
                have ax9 := (ax7.same s8).t t9
                have cc9 := cc.t t9
                obtain ⟨pc, ws, rfl, hpc, alc⟩ := id cc9
                refine ⟨_, rfl, p, C, dx, _, _, rfl, upd_same, G.cl, G.nC, f2_cells _ _, pc, _, rfl, .inr (SqT.of hpc), _, rfl, p, C, dx, _, rfl, upd_same, G.cl, G.nS, (by show 2 < 1000; decide), ?_⟩
                refine nx_ ?_
                have t10 := tsame_upd (H := upd H8 p (.ins C dx (putF "cells" (.ref pc) (putF "axes" (.ref l) [])))) (p := p) (o := .ins C dx (putF "size" (.int (ws.length : Int)) (putF "cells" (.ref pc) (putF "axes" (.ref l) [])))) (nt _ _ upd_same fun _ z => by cases z)
                have ax10 := ax9.t t10
                have cc10 := cc9.t t10
                have lw : ws.length = (cellsL as).length := alc.1
                have fr : ∀ a o, a ≠ p → H a = some o → (upd (upd H8 p (.ins C dx (putF "cells" (.ref pc) (putF "axes" (.ref l) [])))) p (.ins C dx (putF "size" (.int (ws.length : Int)) (putF "cells" (.ref pc) (putF "axes" (.ref l) []))))) a = some o := fun a o ne e => by
                  rw [upd_ne ne, upd_ne ne]
                  refine s8 _ _ ?_
                  rw [upd_ne ne]
                  exact s16 _ _ e
                refine ⟨_, rfl, p, C, dx, _, _, rfl, upd_same, G.cl, G.nS, flds_size _ _ _, _, _, rfl, rfl, _, rfl, ?_⟩
                rcases fin with ⟨big, r⟩ | ⟨le, k⟩
                · refine itT (decide_eq_true (by omega)) ?_
                  exact raised_ok (r.at fr)
                · refine itF (decide_eq_false (by omega)) ?_
                  refine nx_ ?_
                  refine k _ fr ⟨dx, .ref l, .ref pc, ?_, ax10, cc10⟩
                  rw [← lw]
                  exact upd_same
            · have nb : (bits (PMem H) xs).all id = false := by
                cases q : (bits (PMem H) xs).all id with
                | false => rfl
                | true => exact (mok ((pmem_all al).mp ((bits_all _ _).mp q))).elim
              refine itT (by rw [nb]; rfl) ?_
              rcases z2 with ⟨_, h⟩ | ⟨r, _⟩ | ⟨as, _, h, _⟩
              · exact (h nok).elim
              · exact raised_ok (r.at fun a o _ e => s14 _ _ e)
              · exact (mok h).elim
        · rcases z2 with ⟨r, _⟩ | ⟨_, ok, _⟩ | ⟨as, ok, _⟩
          · exact raised_ok (r.at fun a o _ e => (s12.trans s3) _ _ e)
          · exact (nu ((Unlike.iff fw e2).mpr ok)).elim
          · exact (nu ((Unlike.iff fw e2).mpr ok)).elim
    · have r : Raised E p H X "axes" := by
        rcases z with ⟨w, (⟨rfl, _⟩ | ⟨ps, po, fw, _⟩), r⟩ | ⟨as, ⟨ps, po, fw, _⟩, _⟩
        · exact r
        · exact (np (of_pairs po fw)).elim
        · exact (np (of_pairs po fw)).elim
      exact raised_ok (r.at fun a o _ e => s1 _ _ e)
end
end K4

set_option Elab.async false
set_option linter.all false
set_option maxRecDepth 100000
set_option maxHeartbeats 4000000
/-! law k04: the law's own stream -/
namespace K4
open PySem L2 TL
abbrev sStream : Stmt := top 24
abbrev sDraw : Stmt := top 25
/-- sizes that every number here stays below -/
def Sz (n : Nat) (z : Int) : Prop := z.natAbs < 2 ^ n
/-- nothing but what stands at l has changed -/
def But (l : Addr) (H H' : Hp) : Prop := ∀ b o, b ≠ l → H b = some o → H' b = some o
theorem But.trans {l : Addr} {H H1 H2 : Hp} (a : But l H H1) (b : But l H1 H2) : But l H H2 := fun c o n e => b c o n (a c o n e)
theorem But.of {l : Addr} {H H' : Hp} (s : Same H H') : But l H H' := fun c o _ e => s c o e
/-- the stream: three ints in a list -/
def Strm (H : Hp) (l : Addr) : Prop := ∃ c f n : Int, H l = some (.lst [.int c, .int f, .int n])
def spStream (K : PySem.W.Frag) : Sp := fun vs H Q _ => ∃ (a : Addr) (ns : List Int) (k : Nat), vs = [.ref a, .int k] ∧ SqL K H a (ns.map V.int) ∧ k < 1000 ∧ ∀ p H', Same H H' → H p = none → Strm H' p → Q (.ref p) H'
def spDraw : Sp := fun vs H Q _ => ∃ (l : Addr) (m : Int), vs = [.ref l, .int m] ∧ Strm H l ∧ 0 < m ∧ Sz 8000 m ∧ ∀ (d : Int) H', 0 ≤ d → d < m → But l H H' → Strm H' l → Q (.int d) H'
section
variable {P : Program} {w : World} {K : PySem.W.Frag} {mg : Str → Option Value} {base : Heap} {C E B f g h : Addr} {fd gd hd : FuncData}
theorem scStream : FnScope ["script", "k", "cell"] ["script", "k"] (defScope sStream) := ⟨rfl, rfl, rfl, by decide +kernel, rfl, by decide +kernel, by decide +kernel⟩
theorem ok_stream (F : FnP K "_law_stream" "_law_stream" sStream [] f fd) (T : Txt K mg) : FnOk P w K mg base CX0 1 f fd ["script", "k"] (spStream K) := by
  refine F.ok scStream (fun vs H Q X z => ?_) (fun cdv A outer s H vs Q X hr z => ?_)
  · obtain ⟨a, ns, k, rfl, _⟩ := z
    rfl
  · obtain ⟨a, ns, k, rfl, hS, hk, q⟩ := z
    refine ⟨_, PSs.nox (pss_cons (ps_set (i := 2) scStream.nd rfl (Or.inl rfl) pe_int)
      (pss_cons (ps_if (pt_cmpR op_lt (pv 1) (pe_callB call_len_seq (by rfl) T.len PySem.boot_len (pa_cons (pv 0) pa_nil)) (nomark _))
        (pss_one (ps_set (i := 2) scStream.nd rfl (Or.inl rfl) (pe_callB call_abs (by rfl) T.abs (by decide +kernel) (pa_cons (pe_ix ix_list (pv 0) (pv 1) (fun _ _ => rfl)) pa_nil)))) pss_nil)
      (pss_one (ps_ret (pe_lst (pa_cons (pv 2) (pa_cons (pe_callTy call_int1 (by rfl) T.int (by decide +kernel) (pa_cons (pe_cmpR op_ge (pv 2) (pe_op op_pow pe_int pe_int) (nomark _)) pa_nil)) (pa_cons (pe_op op_mul pe_int (pv 1)) pa_nil)))))))), ?_⟩
    -- what comes behind, whatever the cell
    have tail : ∀ c : Int, ∃ v, ([some (V.ref a), some (V.int (k : Int)), some (V.int c)] : St)[2]? = some (some v) ∧ ∃ y, ([some (V.ref a), some (V.int (k : Int)), some (V.int c)] : St)[2]? = some (some y) ∧
        ∃ i j, V.int 10 = V.int i ∧ V.int 18 = V.int j ∧ CPow i j ∧ ∃ i' j', y = V.int i' ∧ V.int (i ^ j.toNat) = V.int j' ∧
          ((∃ i, [V.bl (decide (j' ≤ i'))] = [V.int i] ∧ False) ∨ ∃ kk, [V.bl (decide (j' ≤ i'))] = [V.bl kk] ∧ ∃ z, ([some (V.ref a), some (V.int (k : Int)), some (V.int c)] : St)[1]? = some (some z) ∧ ∃ i j, V.int 1000 = V.int i ∧ z = V.int j ∧ CMul i j ∧
            ([v, V.int (if kk then 1 else 0), V.int (i * j)] : List V).length ≤ sizeLine ∧ ∀ p, H p = none → Q (.ref p) (upd H p (.lst [v, V.int (if kk then 1 else 0), V.int (i * j)]))) := fun c =>
      ⟨_, rfl, _, rfl, _, _, rfl, rfl, ⟨by decide, by decide, by decide⟩, _, _, rfl, rfl, .inr ⟨_, rfl, _, rfl, _, _, rfl, rfl, .inl ⟨by decide, by decide⟩, (by show 3 ≤ sizeLine; decide), fun p hp => q p _ (fun b o e => by rw [upd_ne (ne_of_none e hp)]; exact e) hp ⟨_, _, _, upd_same⟩⟩⟩
    have hlen : (ns.map V.int).length = ns.length := List.length_map ..
    refine ⟨_, rfl, _, rfl, a, _, rfl, .inl hS, _, _, rfl, rfl, _, rfl, ?_⟩
    by_cases c : (k : Int) < ((ns.map V.int).length : Int)
    · refine itT (decide_eq_true c) ?_
      have hk2 : k < ns.length := by rw [hlen] at c; omega
      refine ⟨_, rfl, _, rfl, a, _, (k : Int), V.int ns[k], rfl, rfl, hS, atI_nat (by rw [List.getElem?_map, List.getElem?_eq_getElem hk2]; rfl), _, rfl, ?_⟩
      obtain ⟨v, h1, y, h2, i, j, h3, h4, h5, i', j', h6, h7, h8⟩ := tail (if ns[k] < 0 then -ns[k] else ns[k])
      refine ⟨v, h1, y, h2, i, j, h3, h4, h5, i', j', h6, h7, ?_⟩
      rcases h8 with ⟨_, _, z⟩ | z
      · exact z.elim
      · exact .inr z
    · refine itF (decide_eq_false c) ?_
      obtain ⟨v, h1, y, h2, i, j, h3, h4, h5, i', j', h6, h7, h8⟩ := tail 0
      refine ⟨v, h1, y, h2, i, j, h3, h4, h5, i', j', h6, h7, ?_⟩
      rcases h8 with ⟨_, _, z⟩ | z
      · exact z.elim
      · exact .inr z
theorem mod_in {x m : Int} (h : 0 < m) : 0 ≤ x % m ∧ x % m < m := ⟨Int.emod_nonneg _ (by omega), Int.emod_lt_of_pos _ h⟩
theorem scDraw : FnScope ["stream", "many", "digit", "mixed"] ["stream", "many"] (defScope sDraw) := ⟨rfl, rfl, rfl, by decide +kernel, rfl, by decide +kernel, by decide +kernel⟩
theorem ok_draw (F : FnP K "_law_draw" "_law_draw" sDraw [] f fd) (T : Txt K mg) : FnOk P w K mg base CX0 1 f fd ["stream", "many"] spDraw := by
  refine F.ok scDraw (fun vs H Q X z => ?_) (fun cdv A outer s H vs Q X hr z => ?_)
  · obtain ⟨l, m, rfl, _⟩ := z
    rfl
  · obtain ⟨l, m, rfl, ⟨c, e, n, hl⟩, hm, hs, q⟩ := z
    refine ⟨_, PSs.nox (pss_cons (ps_asg (pe_op op_add (pe_ix ix_list (pv 0) pe_int (fun _ _ => rfl)) pe_int) (pg_sub (pv 0) pe_int set_list))
      (pss_cons (ps_if (PW.pt (pw_and (pt_cmpR op_eq (pe_ix ix_list (pv 0) pe_int (fun _ _ => rfl)) pe_int (nomark _)) (pw_and1 (pt_cmpR op_gt (pe_ix ix_list (pv 0) pe_int (fun _ _ => rfl)) pe_int (nomark _)))))
        (pss_cons (ps_set (i := 2) scDraw.nd rfl (Or.inl rfl) (pe_op op_mod (pe_callTy call_int1 (by rfl) T.int (by decide +kernel) (pa_cons (pe_ix ix_list (pv 0) pe_int (fun _ _ => rfl)) pa_nil)) (pv 1)))
        (pss_cons (ps_asg (pe_op op_fdivW (pe_callTy call_int1 (by rfl) T.int (by decide +kernel) (pa_cons (pe_ix ix_list (pv 0) pe_int (fun _ _ => rfl)) pa_nil)) (pv 1)) (pg_sub (pv 0) pe_int set_list))
        (pss_one (ps_ret (pv 2))))) pss_nil)
      (pss_cons (ps_set (i := 3) scDraw.nd rfl (Or.inl rfl) (pe_op op_mod (pe_callTy call_int1 (by rfl) T.int (by decide +kernel) (pa_cons (pe_op op_mul (pe_op op_add (pe_op op_add (pe_ix ix_list (pv 0) pe_int (fun _ _ => rfl)) (pe_op op_mul pe_int (pe_ix ix_list (pv 0) pe_int (fun _ _ => rfl)))) pe_int) pe_int) pa_nil)) pe_int))
      (pss_cons (ps_set (i := 3) scDraw.nd rfl (Or.inl rfl) (pe_op op_mod (pe_callTy call_int1 (by rfl) T.int (by decide +kernel) (pa_cons (pe_op op_mul (pv 3) (pe_op op_add (pe_op op_fdiv (pv 3) pe_int) pe_int)) pa_nil)) pe_int))
      (pss_cons (ps_set (i := 3) scDraw.nd rfl (Or.inl rfl) (pe_op op_mod (pe_callTy call_int1 (by rfl) T.int (by decide +kernel) (pa_cons (pe_op op_mul (pv 3) (pe_op op_add (pe_op op_fdiv (pv 3) pe_int) pe_int)) pa_nil)) pe_int))
      (pss_one (ps_ret (pe_op op_mod (pe_callTy call_int1 (by rfl) T.int (by decide +kernel) (pa_cons (pe_op op_fdiv (pv 3) pe_int) pa_nil)) (pv 1))))))))), ?_⟩
    -- stream[2] = stream[2] + 1
    refine ⟨_, rfl, l, _, _, V.int n, rfl, rfl, SqL.of hl, at_of (j := 2) rfl rfl, _, _, rfl, rfl, _, rfl, l, _, _, 2, rfl, rfl, hl, rfl, ?_⟩
    have h1 : (upd H l (.lst [V.int c, V.int e, V.int (n + 1)])) l = some (.lst [V.int c, V.int e, V.int (n + 1)]) := upd_same
    -- the test
    refine ⟨_, rfl, l, _, _, V.int e, rfl, rfl, SqL.of h1, at_of (j := 1) rfl rfl, rfl, _, rfl, ?_⟩
    rcases Decidable.em (V.int e = V.int 1) with c1 | c1
    · refine itT (decide_eq_true c1) ?_
      refine ⟨_, rfl, l, _, _, V.int c, rfl, rfl, SqL.of h1, at_of (j := 0) rfl rfl, _, _, rfl, rfl, _, rfl, ?_⟩
      rcases Decidable.em ((0 : Int) < c) with c2 | c2
      · refine itT (decide_eq_true c2) ?_
        have hs' := PySem.Flt.log2_lt_of (by decide) hs
        refine ⟨_, rfl, l, _, _, V.int c, rfl, rfl, SqL.of h1, at_of (j := 0) rfl rfl, .inl ⟨_, rfl, _, rfl, _, _, rfl, rfl, hm, ?_⟩⟩
        refine ⟨_, rfl, l, _, _, V.int c, rfl, rfl, SqL.of h1, at_of (j := 0) rfl rfl, .inl ⟨_, rfl, _, rfl, _, _, rfl, rfl, ⟨hm, by omega⟩, _, rfl, l, _, _, 0, rfl, rfl, h1, rfl, ?_⟩⟩
        refine ⟨_, rfl, ?_⟩
        exact q _ _ (mod_in hm).1 (mod_in hm).2 (fun b o ne e => by rw [upd_ne ne, upd_ne ne]; exact e) ⟨_, _, _, upd_same⟩
      · refine itF (decide_eq_false c2) ?_
        -- the mixed one
        refine ⟨_, rfl, l, _, _, V.int c, rfl, rfl, SqL.of h1, at_of (j := 0) rfl rfl, _, rfl, l, _, _, V.int (n + 1), rfl, rfl, SqL.of h1, at_of (j := 2) rfl rfl, _, _, rfl, rfl, .inl ⟨by decide, by decide⟩, _, _, rfl, rfl, _, _, rfl, rfl, _, _, rfl, rfl, .inr ⟨by decide, by decide⟩, .inl ⟨_, rfl, _, _, rfl, rfl, (by show (0 : Int) < 2147483647; decide), ?_⟩⟩
        obtain ⟨a0, a1⟩ := mod_in (x := (c + 7919 * (n + 1) + 1) * 48271) (m := 2147483647) (by decide)
        refine ⟨_, rfl, _, rfl, _, _, rfl, rfl, ⟨by decide, by decide⟩, _, _, rfl, rfl, _, _, rfl, rfl, .inl ⟨by omega, by omega⟩, .inl ⟨_, rfl, _, _, rfl, rfl, (by show (0 : Int) < 2147483647; decide), ?_⟩⟩
        refine ⟨_, rfl, _, rfl, _, _, rfl, rfl, ⟨by decide, by decide⟩, _, _, rfl, rfl, _, _, rfl, rfl, .inl ⟨?_, ?_⟩, .inl ⟨_, rfl, _, _, rfl, rfl, (by show (0 : Int) < 2147483399; decide), ?_⟩⟩
        · exact Int.lt_of_lt_of_le (by decide) (mod_in (by decide)).1
        · exact Int.lt_trans (mod_in (by decide)).2 (by decide)
        refine ⟨_, rfl, _, _, rfl, rfl, ⟨by decide, by decide⟩, .inl ⟨_, rfl, _, rfl, _, _, rfl, rfl, hm, ?_⟩⟩
        exact q _ _ (mod_in hm).1 (mod_in hm).2 (fun b o ne e => by rw [upd_ne ne]; exact e) ⟨_, _, _, upd_same⟩
    · refine itF (decide_eq_false c1) (iteF ?_)
      -- the mixed one
      refine ⟨_, rfl, l, _, _, V.int c, rfl, rfl, SqL.of h1, at_of (j := 0) rfl rfl, _, rfl, l, _, _, V.int (n + 1), rfl, rfl, SqL.of h1, at_of (j := 2) rfl rfl, _, _, rfl, rfl, .inl ⟨by decide, by decide⟩, _, _, rfl, rfl, _, _, rfl, rfl, _, _, rfl, rfl, .inr ⟨by decide, by decide⟩, .inl ⟨_, rfl, _, _, rfl, rfl, (by show (0 : Int) < 2147483647; decide), ?_⟩⟩
      obtain ⟨a0, a1⟩ := mod_in (x := (c + 7919 * (n + 1) + 1) * 48271) (m := 2147483647) (by decide)
      refine ⟨_, rfl, _, rfl, _, _, rfl, rfl, ⟨by decide, by decide⟩, _, _, rfl, rfl, _, _, rfl, rfl, .inl ⟨by omega, by omega⟩, .inl ⟨_, rfl, _, _, rfl, rfl, (by show (0 : Int) < 2147483647; decide), ?_⟩⟩
      refine ⟨_, rfl, _, rfl, _, _, rfl, rfl, ⟨by decide, by decide⟩, _, _, rfl, rfl, _, _, rfl, rfl, .inl ⟨?_, ?_⟩, .inl ⟨_, rfl, _, _, rfl, rfl, (by show (0 : Int) < 2147483399; decide), ?_⟩⟩
      · exact Int.lt_of_lt_of_le (by decide) (mod_in (by decide)).1
      · exact Int.lt_trans (mod_in (by decide)).2 (by decide)
      refine ⟨_, rfl, _, _, rfl, rfl, ⟨by decide, by decide⟩, .inl ⟨_, rfl, _, rfl, _, _, rfl, rfl, hm, ?_⟩⟩
      exact q _ _ (mod_in hm).1 (mod_in hm).2 (fun b o ne e => by rw [upd_ne ne]; exact e) ⟨_, _, _, upd_same⟩
end
end K4

set_option Elab.async false
set_option linter.all false
set_option maxRecDepth 100000
set_option maxHeartbeats 4000000
namespace K4
open PySem L2 TL
abbrev sLNames : Stmt := top 26
theorem same_but {l : Addr} {H0 H1 H2 : Hp} (s : Same H0 H1) (n : H0 l = none) (b : But l H1 H2) : Same H0 H2 := fun c o e => b c o (ne_of_none e n) (s c o e)
theorem Strm.same {H H' : Hp} {l : Addr} (st : Strm H l) (s : Same H H') : Strm H' l := let ⟨c, e, n, h⟩ := st; ⟨c, e, n, s _ _ h⟩
theorem Strm.ne {H : Hp} {l p : Addr} (st : Strm H l) (h : H p = none) : p ≠ l := fun z => by
  obtain ⟨c, e, n, hl⟩ := st
  rw [z, hl] at h
  cases h
theorem at_nat {xs : List Nat} {d : Int} (h0 : 0 ≤ d) (h1 : d < (xs.length : Int)) : ∃ c, atI xs d = some c := by
  obtain ⟨j, rfl⟩ := Int.eq_ofNat_of_zero_le h0
  exact ⟨_, atI_nat (List.getElem?_eq_getElem (show j < xs.length by omega))⟩
theorem lt_len : LT.cps.toList.length = 26 := by decide +kernel
theorem ltdg_len : (LT ++ DG : Str).cps.toList.length = 36 := by decide +kernel
theorem flat_strs : ∀ zs : List Str, (zs.map V.str).all flatV = true
  | [] => rfl
  | _ :: r => flat_strs r
theorem str_len (a b : Str) : (a ++ b).length = a.length + b.length := Array.size_append
theorem eqF {b : Bool} (h : ¬ b = true) : b = false := Bool.eq_false_iff.mpr h
/-- what stands at l has changed; a list at p, not there at first, too -/
theorem but_upd {l p : Addr} {H H' : Hp} {o : HO} (b : But l H H') (n : H p = none) : But l H (upd H' p o) := fun c u ne e => by
  rw [upd_ne (ne_of_none e n)]
  exact b c u ne e
theorem strm_upd {l p : Addr} {H : Hp} {o : HO} (st : Strm H l) (n : p ≠ l) : Strm (upd H p o) l := by
  obtain ⟨c, e, k, h⟩ := st
  exact ⟨c, e, k, by rw [upd_ne (Ne.symm n)]; exact h⟩
theorem But.free {l p : Addr} {H H' : Hp} (b : But l H H') (st : Strm H' l) (h : H' p = none) : H p = none := by
  cases q : H p with
  | none => rfl
  | some o => rw [b p o (st.ne h) q] at h; cases h
def spLNames : Sp := fun vs H Q _ => ∃ (l : Addr) (m : Nat), vs = [.ref l, .int m] ∧ Strm H l ∧ m ≤ 8 ∧ ∀ (p : Addr) (zs : List Str) (H' : Hp), But l H H' → Strm H' l → H p = none → H' p = some (.lst (zs.map V.str)) → zs.length = m → (∀ z ∈ zs, z.length ≤ 9) → Q (.ref p) H'
section
variable {P : Program} {w : World} {K : PySem.W.Frag} {mg : Str → Option Value} {base : Heap} {C E B f g h : Addr} {fd gd hd : FuncData}
theorem scLNames : FnScope ["stream", "many", "letters", "found", "k", "name", "turn", "letter"] ["stream", "many"] (defScope sLNames) := ⟨rfl, rfl, rfl, by decide +kernel, rfl, by decide +kernel, by decide +kernel⟩
theorem ok_lnames (F : FnP K "_law_names" "_law_names" sLNames [] f fd) (T : Txt K mg) (GD : GloOk P w K mg base CX0 1 "_law_draw" ["stream", "many"] spDraw) : FnOk P w K mg base CX0 2 f fd ["stream", "many"] spLNames := by
  obtain ⟨fD, fdD, GD, mD, kD, bD⟩ := GD
  refine F.ok scLNames (fun vs H Q X z => ?_) (fun cdv A outer s H vs Q X hr z => ?_)
  · obtain ⟨l, m, rfl, _⟩ := z
    rfl
  · obtain ⟨l, m, rfl, st, hm, k⟩ := z
    refine ⟨_, PSs.nox (pss_cons (ps_set (i := 2) scLNames.nd rfl (Or.inl rfl) pe_str)
      (pss_cons (ps_set (i := 3) scLNames.nd rfl (Or.inl rfl) (pe_lst pa_nil))
      (pss_cons (ps_for PassesOwn.never rfl (pi_range1 rfl T.range (pa_cons (pv 1) pa_nil)) (pg_name (i := 4) scLNames.nd rfl (Or.inl rfl))
        (pss_cons (ps_set (i := 5) scLNames.nd rfl (Or.inl rfl) (pe_ix ix_str (pv 2) (pe_call GD hr rfl mD kD bD .nil pass0 (pa_cons (pv 0) (pa_cons pe_int pa_nil))) (fun _ _ => rfl)))
        (pss_cons (ps_for PassesOwn.never rfl (pi_range1 rfl T.range (pa_cons (pe_call GD hr rfl mD kD bD .nil pass0 (pa_cons (pv 0) (pa_cons (pe_ix ix_list (pe_lst (pa_cons pe_int (pa_cons pe_int (pa_cons pe_int pa_nil))))
            (pe_call GD hr rfl mD kD bD .nil pass0 (pa_cons (pv 0) (pa_cons pe_int pa_nil))) (fun _ _ => rfl)) pa_nil))) pa_nil)) (pg_name (i := 6) scLNames.nd rfl (Or.inl rfl))
          (pss_one (ps_set (i := 5) scLNames.nd rfl (Or.inl rfl) (pe_op op_add_str (pv 5) (pe_ix ix_str (pe_op op_add_str (pv 2) pe_str) (pe_call GD hr rfl mD kD bD .nil pass0 (pa_cons (pv 0) (pa_cons pe_int pa_nil))) (fun _ _ => rfl))))))
        (pss_cons (ps_for PassesOwn.never rfl (pi_str (pv 2)) (pg_name (i := 7) scLNames.nd rfl (Or.inl rfl))
          (pss_one (ps_if (PW.pt (pw_and (PW.pt (pw_or (pt_cmpR op_in_seq (pv 5) (pv 3) (by rfl)) (pw_or1 (pt_cmpR op_in_seq (pv 5) (pe_lst (pa_cons pe_str (pa_cons pe_str pa_nil))) (by rfl))))) (pw_and1 (pt_cmpR op_notIn_seq (pv 7) (pv 3) (by rfl)))))
            (pss_one (ps_set (i := 5) scLNames.nd rfl (Or.inl rfl) (pv 7))) pss_nil)))
        (pss_one (ps_expr (pe_bm PySem.F.plainAttrs_list PySem.F.slot_list_append PySem.F.type_list_append mt_append (pv 3) (pa_cons (pv 5) pa_nil))))))))
      (pss_one (ps_ret (pv 3)))))), ?_⟩
    refine ⟨(by show 0 ≤ sizeLine; decide), fun fp nf => ?_⟩
    have nfl : fp ≠ l := st.ne nf
    refine ⟨_, rfl, (m : Int), rfl, by omega, by omega, ?_⟩
    refine for_range (lo := 0) (n := (m : Int).toNat) (fun i σ H' => But l H H' ∧ Strm H' l ∧ ∃ (zs : List Str) (v4 v5 v6 v7 : Option V), σ = [some (.ref l), some (.int m), some (.str LT), some (.ref fp), v4, v5, v6, v7] ∧ H' fp = some (.lst (zs.map V.str)) ∧ zs.length = i ∧ ∀ z ∈ zs, z.length ≤ 9)
      ⟨But.of (new nf), st.same (new nf), [], none, none, none, none, rfl, upd_same, rfl, fun _ h => by cases h⟩ ?_ ?_
    · rintro i σ H1 hi ⟨b1, s1, zs, v4, v5, v6, v7, rfl, e1, lz, az⟩
      have i8 : i < 8 := by omega
      refine ⟨_, rfl, _, rfl, l, 26, rfl, s1, by decide, by unfold Sz; decide +kernel, fun d H2 d0 d1 b2 s2 => ?_⟩
      obtain ⟨c, hc⟩ := at_nat (xs := LT.cps.toList) d0 (by rw [lt_len]; exact d1)
      have e2 := b2 fp _ nfl e1
      refine ⟨LT, d, c, rfl, rfl, by decide +kernel, hc, ?_⟩
      refine ⟨_, rfl, (by show 3 ≤ sizeLine; decide), fun p np => ?_⟩
      have npl : p ≠ l := s2.ne np
      refine ⟨_, rfl, l, 3, rfl, s2.same (new np), by decide, by unfold Sz; decide +kernel, fun d3 H3 g0 g1 b3 s3 => ?_⟩
      have p3 := b3 p _ npl upd_same
      have e3 := b3 fp _ nfl (new np _ _ e2)
      obtain ⟨v, hv, ha⟩ := at_any (xs := [V.int 1, V.int 3, V.int 8]) g0 g1
      obtain ⟨q, rfl, q0, q1⟩ : ∃ q : Int, v = .int q ∧ 0 < q ∧ q ≤ 8 := by
        rcases List.mem_cons.mp hv with e | hv
        · exact ⟨1, e, by decide, by decide⟩
        rcases List.mem_cons.mp hv with e | hv
        · exact ⟨3, e, by decide, by decide⟩
        rcases List.mem_cons.mp hv with e | hv
        · exact ⟨8, e, by decide, by decide⟩
        · cases hv
      refine ⟨p, _, d3, _, rfl, rfl, SqL.of p3, ha, ?_⟩
      refine ⟨l, q, rfl, s3, q0, Nat.lt_of_lt_of_le (show q.natAbs < 2 ^ 4 by omega) (Nat.pow_le_pow_right (by decide) (by decide)), fun d4 H4 f0 f1 b4 s4 => ⟨d4, rfl, by omega, by omega, ?_⟩⟩
      have a4 : But l H H4 := (((b1.trans b2).trans (But.of (new np))).trans b3).trans b4
      have e4 := b4 fp _ nfl e3
      refine for_range (lo := 0) (n := d4.toNat) (fun j σ H' => But l H H' ∧ Strm H' l ∧ ∃ (z : Str) (v6 v7 : Option V), σ = [some (.ref l), some (.int m), some (.str LT), some (.ref fp), some (.int (0 + (i : Int))), some (.str z), v6, v7] ∧ H' fp = some (.lst (zs.map V.str)) ∧ z.length ≤ 1 + j)
        ⟨a4, s4, ⟨#[c]⟩, v6, v7, rfl, e4, Nat.le_refl _⟩ ?_ ?_
      · rintro j σ H5 hj ⟨b5, s5, z, w6, w7, rfl, e5, hz⟩
        refine ⟨_, rfl, _, rfl, _, _, rfl, rfl, (by decide +kernel), _, rfl, l, 36, rfl, s5, by decide, by unfold Sz; decide +kernel, fun d6 H6 h0 h1 b6 s6 => ?_⟩
        obtain ⟨c6, hc6⟩ := at_nat (xs := (LT ++ DG : Str).cps.toList) h0 (by rw [ltdg_len]; exact h1)
        refine ⟨LT ++ DG, d6, c6, rfl, rfl, by decide +kernel, hc6, _, _, rfl, rfl, ?_, ?_⟩
        · exact Nat.le_trans (show z.length + 1 ≤ 1000 by omega) (by decide)
        · refine ⟨b5.trans b6, s6, z ++ (⟨#[c6]⟩ : Str), _, _, rfl, b6 fp _ nfl e5, ?_⟩
          rw [str_len]
          show z.length + 1 ≤ _
          omega
      · rintro σ H5 ⟨b5, s5, z, w6, w7, rfl, e5, hz⟩
        have z9 : z.length ≤ 9 := by omega
        refine nx_ ?_
        refine sq ?_
        refine ⟨_, rfl, LT, rfl, ?_⟩
        refine for_it walk_str (fun j σ H' => But l H H' ∧ Strm H' l ∧ ∃ (z : Str) (v7 : Option V), σ = [some (.ref l), some (.int m), some (.str LT), some (.ref fp), some (.int (0 + (i : Int))), some (.str z), w6, v7] ∧ H' fp = some (.lst (zs.map V.str)) ∧ z.length ≤ 9)
          ⟨b5, s5, z, w7, rfl, e5, z9⟩ (fun _ _ _ _ _ => trivial) ?_ ?_
        · rintro j x σ H6 H7 hj ⟨b6, s6, y, u7, rfl, e6, hy⟩ ⟨rfl, c7, _, rfl⟩
          refine ⟨_, rfl, _, rfl, fp, _, rfl, .inl (SqL.of e6), rfl, flat_strs zs, _, rfl, ?_⟩
          by_cases cA : inV (.str y) (zs.map V.str) = true
          · refine itT cA (iteT ?_)
            refine ⟨_, rfl, _, rfl, fp, _, rfl, .inl (SqL.of e6), rfl, flat_strs zs, _, rfl, ?_⟩
            by_cases cC : inV (.str ⟨#[c7]⟩) (zs.map V.str) = true
            · refine itF (by show (!inV _ _) = false; rw [cC]; rfl) ?_
              exact ⟨b6, s6, y, _, rfl, e6, hy⟩
            · refine itT (by show (!inV _ _) = true; rw [eqF cC]; rfl) ?_
              exact ⟨_, rfl, b6, s6, ⟨#[c7]⟩, _, rfl, e6, (show 1 ≤ 9 by decide)⟩
          · refine itF (eqF cA) ?_
            refine ⟨_, rfl, (by show 2 ≤ sizeLine; decide), fun q nq => ⟨q, _, rfl, .inl (SqL.of upd_same), rfl, rfl, _, rfl, ?_⟩⟩
            have nqf : fp ≠ q := ne_of_none e6 nq
            have e7 := new (o := .lst [V.str "sum", V.str "each"]) nq _ _ e6
            have s7 := s6.same (new (o := .lst [V.str "sum", V.str "each"]) nq)
            have b7 := b6.trans (But.of (new (o := .lst [V.str "sum", V.str "each"]) nq))
            by_cases cB : inV (.str y) [V.str "sum", V.str "each"] = true
            · refine itT cB ?_
              refine ⟨_, rfl, _, rfl, fp, _, rfl, .inl (SqL.of e7), rfl, flat_strs zs, _, rfl, ?_⟩
              by_cases cC : inV (.str ⟨#[c7]⟩) (zs.map V.str) = true
              · refine itF (by show (!inV _ _) = false; rw [cC]; rfl) ?_
                exact ⟨b7, s7, y, _, rfl, e7, hy⟩
              · refine itT (by show (!inV _ _) = true; rw [eqF cC]; rfl) ?_
                exact ⟨_, rfl, b7, s7, ⟨#[c7]⟩, _, rfl, e7, (show 1 ≤ 9 by decide)⟩
            · refine itF (eqF cB) (iteF ?_)
              exact ⟨b7, s7, y, _, rfl, e7, hy⟩
        · rintro σ H6 ⟨b6, s6, y, u7, rfl, e6, hy⟩
          refine nx_ ?_
          refine ⟨_, rfl, .inl ⟨rfl, _, SqL.of e6⟩, _, rfl, fp, _, _, rfl, rfl, e6, ?_, ?_⟩
          · rw [List.length_map]
            exact Nat.lt_of_lt_of_le (show zs.length < 1000 by omega) (by decide)
          · refine ⟨but_upd b6 nf, strm_upd s6 nfl, zs ++ [y], _, _, _, _, rfl, ?_, ?_, fun z hz => ?_⟩
            · rw [upd_same, List.map_append]
              rfl
            · rw [List.length_append, lz]
              rfl
            · rcases List.mem_append.mp hz with hz | hz
              · exact az z hz
              · rw [List.mem_singleton.mp hz]
                exact hy
    · rintro σ H1 ⟨b1, s1, zs, v4, v5, v6, v7, rfl, e1, lz, az⟩
      refine nx_ ?_
      exact ⟨_, rfl, k fp zs H1 b1 s1 nf e1 (by omega) az⟩
end
end K4

set_option Elab.async false
set_option linter.all false
set_option maxRecDepth 100000
set_option maxHeartbeats 4000000
namespace K4
open PySem L2 TL
abbrev sLAxes : Stmt := top 27
abbrev sLWide : Stmt := top 29
theorem But.t {l : Addr} {H H' : Hp} (b : But l H H') (st : Strm H l) : TSame H H' := fun a xs e => b a _ (fun z => by
  obtain ⟨c, f, n, h⟩ := st
  rw [z, h] at e
  cases e) e
/-- what is known of axes that were drawn -/
structure Plain (as : List Ax) : Prop where
  lo : 1 ≤ as.length
  hi : as.length ≤ 3
  ax : ∀ a ∈ as, a.1.length ≤ 9 ∧ 1 ≤ a.2.length ∧ a.2.length ≤ 4 ∧ ∀ m ∈ a.2, m.length ≤ 9
def spLAxes : Sp := fun vs H Q _ => ∃ l : Addr, vs = [.ref l] ∧ Strm H l ∧ ∀ (v : V) (as : List Ax) (H' : Hp), But l H H' → Strm H' l → AxesAt H' v as → Plain as → Q v H'
theorem sz_small {z : Int} (h : z.natAbs < 1000) : Sz 8000 z := Nat.lt_of_lt_of_le (Nat.lt_of_lt_of_le h (show 1000 ≤ 2 ^ 10 by decide)) (Nat.pow_le_pow_right (by decide) (by decide))
section
variable {P : Program} {w : World} {K : PySem.W.Frag} {mg : Str → Option Value} {base : Heap} {C E B f g h : Addr} {fd gd hd : FuncData}
theorem scLAxes : FnScope ["stream", "many", "room", "axes", "name", "size"] ["stream"] (defScope sLAxes) := ⟨rfl, rfl, rfl, by decide +kernel, rfl, by decide +kernel, by decide +kernel⟩
theorem ok_laxes (F : FnP K "_law_axes" "_law_axes" sLAxes [] f fd) (T : Txt K mg) (GD : GloOk P w K mg base CX0 1 "_law_draw" ["stream", "many"] spDraw) (GN : GloOk P w K mg base CX0 2 "_law_names" ["stream", "many"] spLNames) : FnOk P w K mg base CX0 3 f fd ["stream"] spLAxes := by
  obtain ⟨fD, fdD, GD, mD, kD, bD⟩ := GD
  obtain ⟨fN, fdN, GN, mN, kN, bN⟩ := GN
  refine F.ok scLAxes (fun vs H Q X z => ?_) (fun cdv A outer s H vs Q X hr z => ?_)
  · obtain ⟨l, rfl, _⟩ := z
    rfl
  · obtain ⟨l, rfl, st, k⟩ := z
    have hr1 : Room 1 _ := hr.mono (by decide)
    refine ⟨_, PSs.nox (pss_cons (ps_set (i := 1) scLAxes.nd rfl (Or.inl rfl) (pe_op op_add pe_int (pe_call GD hr1 rfl mD kD bD .nil pass0 (pa_cons (pv 0) (pa_cons pe_int pa_nil)))))
      (pss_cons (ps_set (i := 2) scLAxes.nd rfl (Or.inl rfl) pe_int)
      (pss_cons (ps_set (i := 3) scLAxes.nd rfl (Or.inl rfl) (pe_lst pa_nil))
      (pss_cons (ps_for PassesOwn.never rfl (pi_list (pe_call GN hr rfl mN kN bN .nil pass0 (pa_cons (pv 0) (pa_cons (pv 1) pa_nil)))) (pg_name (i := 4) scLAxes.nd rfl (Or.inl rfl))
        (pss_cons (ps_set (i := 5) scLAxes.nd rfl (Or.inl rfl) (pe_op op_add pe_int (pe_call GD hr1 rfl mD kD bD .nil pass0 (pa_cons (pv 0) (pa_cons (pe_callB (call_min2 rfl) (by rfl) T.min (by decide +kernel) (pa_cons pe_int (pa_cons (pv 2) pa_nil))) pa_nil)))))
        (pss_cons (ps_set (i := 2) scLAxes.nd rfl (Or.inl rfl) (pe_op op_fdiv (pv 2) (pv 5)))
        (pss_one (ps_expr (pe_bm PySem.F.plainAttrs_list PySem.F.slot_list_append PySem.F.type_list_append mt_append (pv 3) (pa_cons (pe_tup (pa_cons (pv 4) (pa_cons (pe_callTy call_tuple_of (by rfl) T.tuple (by decide +kernel)
          (pa_cons (pe_call GN hr rfl mN kN bN .nil pass0 (pa_cons (pv 0) (pa_cons (pv 5) pa_nil))) pa_nil)) pa_nil))) pa_nil)))))))
      (pss_one (ps_ret (pe_callTy call_tuple_of (by rfl) T.tuple (by decide +kernel) (pa_cons (pv 3) pa_nil)))))))), ?_⟩
    refine ⟨_, rfl, l, 3, rfl, st, by decide, by unfold Sz; decide +kernel, fun d H1 d0 d1 b1 s1 => ?_⟩
    refine ⟨_, _, rfl, rfl, ?_⟩
    refine nx_ ?_
    refine sq ?_
    refine nx_ ?_
    refine sq ?_
    refine ⟨(by show 0 ≤ sizeLine; decide), fun ap na => ?_⟩
    have nal : ap ≠ l := s1.ne na
    have s1' := s1.same (new (o := .lst []) na)
    have b1' := b1.trans (But.of (new (o := .lst []) na))
    have naH : H ap = none := b1.free s1 na
    obtain ⟨m, rfl⟩ := Int.eq_ofNat_of_zero_le d0
    have em : (1 : Int) + (m : Int) = ((1 + m : Nat) : Int) := by omega
    refine nx_ ?_
    refine sq ?_
    refine ⟨_, rfl, _, rfl, l, 1 + m, by show [V.ref l, V.int (1 + (m : Int))] = _; rw [em], s1', by omega, fun np zs H2 b2 s2 nn en lz az => ?_⟩
    have nnl : np ≠ l := s1'.ne nn
    have ena : H2 ap = some (.lst []) := b2 ap _ nal upd_same
    have nna : np ≠ ap := fun z => by rw [z, upd_same] at nn; cases nn
    have nnH : H np = none := b1'.free s1' nn
    refine ⟨np, rfl, ⟨_, SqL.of en⟩, ?_⟩
    refine for_it walk_list (fun j σ H' => But l H H' ∧ Strm H' l ∧ H' np = some (.lst (zs.map V.str)) ∧ ∃ (us : List V) (as : List Ax) (r : Int) (v4 v5 : Option V), σ = [some (.ref l), some (.int (1 + (m : Int))), some (.int r), some (.ref ap), v4, v5] ∧ 1 ≤ r ∧ r ≤ 8 ∧ H' ap = some (.lst us) ∧ All2 (AxAt H') us as ∧ as.length = j ∧
        ∀ a ∈ as, a.1.length ≤ 9 ∧ 1 ≤ a.2.length ∧ a.2.length ≤ 4 ∧ ∀ q ∈ a.2, q.length ≤ 9)
      ⟨b1'.trans b2, s2, en, [], [], 8, none, none, rfl, by decide, by decide, ena, All2.nil, rfl, fun _ h => by cases h⟩ (fun _ _ _ _ h => SqL.of h.2.2.1) ?_ ?_
    · rintro j x σ H3 H3' hj ⟨b3, s3, en3, us, as, r, v4, v5, rfl, r1, r8, ea, al, la, aa⟩ ⟨rfl, hx⟩
      obtain ⟨nm, hnm, rfl⟩ : ∃ nm, zs[j]? = some nm ∧ x = .str nm := by
        rw [List.getElem?_map] at hx
        cases e : zs[j]? with
        | none => rw [e] at hx; cases hx
        | some q => rw [e] at hx; exact ⟨q, rfl, (Option.some.inj hx).symm⟩
      have hjl : j < zs.length := (List.getElem?_eq_some_iff.mp hnm).1
      refine ⟨_, rfl, _, rfl, _, _, rfl, l, _, rfl, s3, ?_, ?_, fun d4 H4 g0 g1 b4 s4 => ?_⟩
      · split <;> omega
      · refine sz_small ?_
        split <;> omega
      have g4 : d4 < 4 ∧ 1 + d4 ≤ r := by
        by_cases c : r < 4
        · rw [if_pos c] at g1
          omega
        · rw [if_neg c] at g1
          omega
      refine ⟨_, _, rfl, rfl, ?_⟩
      refine nx_ ?_
      refine sq ?_
      refine ⟨_, rfl, _, rfl, _, _, rfl, rfl, ⟨by omega, by omega⟩, ?_⟩
      have q1 : 1 ≤ r / (1 + d4) := Int.le_ediv_of_mul_le (by omega) (by omega)
      have q8 : r / (1 + d4) ≤ 8 := by
        have : r / (1 + d4) ≤ r := Int.ediv_le_self _ (by omega)
        omega
      obtain ⟨m4, rfl⟩ := Int.eq_ofNat_of_zero_le g0
      have em4 : (1 : Int) + (m4 : Int) = ((1 + m4 : Nat) : Int) := by omega
      have ea4 := b4 ap _ nal ea
      have en4 := b4 np _ nnl en3
      refine nx_ ?_
      refine ⟨_, rfl, .inl ⟨rfl, us, SqL.of ea4⟩, _, rfl, _, rfl, _, rfl, l, 1 + m4, by show [V.ref l, V.int (1 + (m4 : Int))] = _; rw [em4], s4, by omega, fun mp ms H5 b5 s5 nm5 em5 lm5 am5 => ?_⟩
      refine ⟨mp, _, rfl, .inl ⟨SqL.of em5, fun tp nt => ⟨(by show 2 ≤ sizeLine; decide), fun rp nr => ?_⟩⟩⟩
      have n6 : Same H5 (upd (upd H5 tp (.tup (ms.map V.str))) rp (.tup [V.str nm, V.ref tp])) := (new nt).trans (new nr)
      have ea6 := n6 _ _ (b5 ap _ nal ea4)
      have en6 := n6 _ _ (b5 np _ nnl en4)
      have t36 : TSame H3' (upd (upd H5 tp (.tup (ms.map V.str))) rp (.tup [V.str nm, V.ref tp])) := ((b4.trans b5).t s3).trans (Same.t n6)
      refine ⟨ap, us, _, rfl, rfl, ea6, ?_, ?_⟩
      · rw [al.1, la]
        exact Nat.lt_of_lt_of_le (show j < 1000 by omega) (by decide)
      · have tl6 := tsame_upd (H := upd (upd H5 tp (.tup (ms.map V.str))) rp (.tup [V.str nm, V.ref tp])) (p := ap) (o := .lst (us ++ [V.ref rp])) (fun xs z => by rw [ea6] at z; cases z)
        refine ⟨but_upd (b3.trans (b4.trans (b5.trans (But.of n6)))) naH, strm_upd (s5.same n6) nal, by rw [upd_ne nna]; exact en6, us ++ [V.ref rp], as ++ [(nm, ms)], _, _, _, rfl, q1, q8, upd_same, ?_, by rw [List.length_append, la]; rfl, fun a ha => ?_⟩
        · refine All2.snoc (al.imp fun _ _ y => (y.t t36).t tl6) (AxAt.t ⟨rp, tp, rfl, upd_same, new nr _ _ upd_same⟩ tl6)
        · rcases List.mem_append.mp ha with ha | ha
          · exact aa a ha
          · rw [List.mem_singleton.mp ha]
            exact ⟨az nm (List.mem_of_getElem? hnm), by show 1 ≤ ms.length; omega, by show ms.length ≤ 4; omega, am5⟩
    · rintro σ H3 ⟨b3, s3, en3, us, as, r, v4, v5, rfl, r1, r8, ea, al, la, aa⟩
      rw [List.length_map] at la
      refine nx_ ?_
      refine ⟨_, rfl, ap, us, rfl, .inl ⟨SqL.of ea, fun tp nt => ?_⟩⟩
      exact k _ as _ (b3.trans (But.of (new nt))) (s3.same (new nt)) ⟨tp, us, rfl, upd_same, al.imp fun _ _ y => y.same (new nt)⟩ ⟨by omega, by omega, aa⟩
theorem scLWide : FnScope ["stream", "axes", "name"] ["stream"] (defScope sLWide) := ⟨rfl, rfl, rfl, by decide +kernel, rfl, by decide +kernel, by decide +kernel⟩
theorem ok_lwide (F : FnP K "_law_wide" "_law_wide" sLWide [] f fd) (T : Txt K mg) (GD : GloOk P w K mg base CX0 1 "_law_draw" ["stream", "many"] spDraw) (GN : GloOk P w K mg base CX0 2 "_law_names" ["stream", "many"] spLNames) : FnOk P w K mg base CX0 3 f fd ["stream"] spLAxes := by
  obtain ⟨fD, fdD, GD, mD, kD, bD⟩ := GD
  obtain ⟨fN, fdN, GN, mN, kN, bN⟩ := GN
  refine F.ok scLWide (fun vs H Q X z => ?_) (fun cdv A outer s H vs Q X hr z => ?_)
  · obtain ⟨l, rfl, _⟩ := z
    rfl
  · obtain ⟨l, rfl, st, k⟩ := z
    have hr1 : Room 1 _ := hr.mono (by decide)
    refine ⟨_, PSs.nox (pss_cons (ps_set (i := 1) scLWide.nd rfl (Or.inl rfl) (pe_lst pa_nil))
      (pss_cons (ps_for PassesOwn.never rfl (pi_list (pe_call GN hr rfl mN kN bN .nil pass0 (pa_cons (pv 0) (pa_cons (pe_op op_add pe_int (pe_call GD hr1 rfl mD kD bD .nil pass0 (pa_cons (pv 0) (pa_cons pe_int pa_nil)))) pa_nil)))) (pg_name (i := 2) scLWide.nd rfl (Or.inl rfl))
        (pss_one (ps_expr (pe_bm PySem.F.plainAttrs_list PySem.F.slot_list_append PySem.F.type_list_append mt_append (pv 1) (pa_cons (pe_tup (pa_cons (pv 2) (pa_cons (pe_callTy call_tuple_of (by rfl) T.tuple (by decide +kernel)
          (pa_cons (pe_call GN hr rfl mN kN bN .nil pass0 (pa_cons (pv 0) (pa_cons (pe_op op_add pe_int (pe_call GD hr1 rfl mD kD bD .nil pass0 (pa_cons (pv 0) (pa_cons pe_int pa_nil)))) pa_nil))) pa_nil)) pa_nil))) pa_nil)))))
      (pss_one (ps_ret (pe_callTy call_tuple_of (by rfl) T.tuple (by decide +kernel) (pa_cons (pv 1) pa_nil)))))), ?_⟩
    refine ⟨(by show 0 ≤ sizeLine; decide), fun ap na => ?_⟩
    have nal : ap ≠ l := st.ne na
    have s0 := st.same (new (o := .lst []) na)
    refine nx_ ?_
    refine sq ?_
    refine ⟨_, rfl, _, rfl, l, 3, rfl, s0, by decide, by unfold Sz; decide +kernel, fun d H1 d0 d1 b1 s1 => ?_⟩
    have b1' := (But.of (new (o := .lst []) na)).trans b1
    refine ⟨_, _, rfl, rfl, ?_⟩
    obtain ⟨m, rfl⟩ := Int.eq_ofNat_of_zero_le d0
    have em : (1 : Int) + (m : Int) = ((1 + m : Nat) : Int) := by omega
    refine ⟨l, 1 + m, by show [V.ref l, V.int (1 + (m : Int))] = _; rw [em], s1, by omega, fun np zs H2 b2 s2 nn en lz az => ?_⟩
    have nnl : np ≠ l := s1.ne nn
    have ea1 : H1 ap = some (.lst []) := b1 ap _ nal upd_same
    have ena : H2 ap = some (.lst []) := b2 ap _ nal ea1
    have nna : np ≠ ap := fun z => by rw [z, ea1] at nn; cases nn
    refine ⟨np, rfl, ⟨_, SqL.of en⟩, ?_⟩
    refine for_it walk_list (fun j σ H' => But l H H' ∧ Strm H' l ∧ H' np = some (.lst (zs.map V.str)) ∧ ∃ (us : List V) (as : List Ax) (v2 : Option V), σ = [some (.ref l), some (.ref ap), v2] ∧ H' ap = some (.lst us) ∧ All2 (AxAt H') us as ∧ as.length = j ∧
        ∀ a ∈ as, a.1.length ≤ 9 ∧ 1 ≤ a.2.length ∧ a.2.length ≤ 4 ∧ ∀ q ∈ a.2, q.length ≤ 9)
      ⟨b1'.trans b2, s2, en, [], [], none, rfl, ena, All2.nil, rfl, fun _ h => by cases h⟩ (fun _ _ _ _ h => SqL.of h.2.2.1) ?_ ?_
    · rintro j x σ H3 H3' hj ⟨b3, s3, en3, us, as, v2, rfl, ea, al, la, aa⟩ ⟨rfl, hx⟩
      obtain ⟨nm, hnm, rfl⟩ : ∃ nm, zs[j]? = some nm ∧ x = .str nm := by
        rw [List.getElem?_map] at hx
        cases e : zs[j]? with
        | none => rw [e] at hx; cases hx
        | some q => rw [e] at hx; exact ⟨q, rfl, (Option.some.inj hx).symm⟩
      have hjl : j < zs.length := (List.getElem?_eq_some_iff.mp hnm).1
      refine ⟨_, rfl, .inl ⟨rfl, us, SqL.of ea⟩, _, rfl, _, rfl, _, rfl, l, 4, rfl, s3, by decide, by unfold Sz; decide +kernel, fun d4 H4 g0 g1 b4 s4 => ?_⟩
      refine ⟨_, _, rfl, rfl, ?_⟩
      obtain ⟨m4, rfl⟩ := Int.eq_ofNat_of_zero_le g0
      have em4 : (1 : Int) + (m4 : Int) = ((1 + m4 : Nat) : Int) := by omega
      have ea4 := b4 ap _ nal ea
      have en4 := b4 np _ nnl en3
      refine ⟨l, 1 + m4, by show [V.ref l, V.int (1 + (m4 : Int))] = _; rw [em4], s4, by omega, fun mp ms H5 b5 s5 nm5 em5 lm5 am5 => ?_⟩
      refine ⟨mp, _, rfl, .inl ⟨SqL.of em5, fun tp nt => ⟨(by show 2 ≤ sizeLine; decide), fun rp nr => ?_⟩⟩⟩
      have n6 : Same H5 (upd (upd H5 tp (.tup (ms.map V.str))) rp (.tup [V.str nm, V.ref tp])) := (new nt).trans (new nr)
      have ea6 := n6 _ _ (b5 ap _ nal ea4)
      have en6 := n6 _ _ (b5 np _ nnl en4)
      have t36 : TSame H3' (upd (upd H5 tp (.tup (ms.map V.str))) rp (.tup [V.str nm, V.ref tp])) := ((b4.trans b5).t s3).trans (Same.t n6)
      refine ⟨ap, us, _, rfl, rfl, ea6, ?_, ?_⟩
      · rw [al.1, la]
        exact Nat.lt_of_lt_of_le (show j < 1000 by omega) (by decide)
      · have tl6 := tsame_upd (H := upd (upd H5 tp (.tup (ms.map V.str))) rp (.tup [V.str nm, V.ref tp])) (p := ap) (o := .lst (us ++ [V.ref rp])) (fun xs z => by rw [ea6] at z; cases z)
        refine ⟨but_upd (b3.trans (b4.trans (b5.trans (But.of n6)))) na, strm_upd (s5.same n6) nal, by rw [upd_ne nna]; exact en6, us ++ [V.ref rp], as ++ [(nm, ms)], _, rfl, upd_same, ?_, by rw [List.length_append, la]; rfl, fun a ha => ?_⟩
        · refine All2.snoc (al.imp fun _ _ y => (y.t t36).t tl6) (AxAt.t ⟨rp, tp, rfl, upd_same, new nr _ _ upd_same⟩ tl6)
        · rcases List.mem_append.mp ha with ha | ha
          · exact aa a ha
          · rw [List.mem_singleton.mp ha]
            exact ⟨az nm (List.mem_of_getElem? hnm), by show 1 ≤ ms.length; omega, by show ms.length ≤ 4; omega, am5⟩
    · rintro σ H3 ⟨b3, s3, en3, us, as, v2, rfl, ea, al, la, aa⟩
      rw [List.length_map] at la
      refine nx_ ?_
      refine ⟨_, rfl, ap, us, rfl, .inl ⟨SqL.of ea, fun tp nt => ?_⟩⟩
      exact k _ as _ (b3.trans (But.of (new nt))) (s3.same (new nt)) ⟨tp, us, rfl, upd_same, al.imp fun _ _ y => y.same (new nt)⟩ ⟨by omega, by omega, aa⟩
end
end K4

set_option Elab.async false
set_option linter.all false
set_option maxRecDepth 100000
set_option maxHeartbeats 4000000
namespace K4
open PySem L2 TL
abbrev sLCells : Stmt := top 28
def spLCells : Sp := fun vs H Q _ => ∃ (v : V) (us : List V) (as : List Ax), vs = [v] ∧ Row H v us ∧ All2 (AxAt H) us as ∧ Small as ∧ ∀ (p : Addr) (ws : List V) (H' : Hp), Same H H' → H p = none → H' p = some (.lst ws) → All2 (StrsT H') ws (cellsL as) → Q (.ref p) H'
/-- for x in row -/
theorem for_row {K : PySem.W.Frag} {g : TG} {tb : TS} {D : Ends} {σ : St} {H : Hp} {i : Nat} {x : V} {xs : List V} (hi : σ[i]? = some (some x)) (r : Row H x xs)
    (k : ∀ J, Walk J xs.length (fun H' => Same H H') (YAt xs) → ∃ W : Nat → Nat → St → Hp → Prop, (∃ m, W 0 m σ H) ∧ ∀ i m σ H, W i m σ H →
      (J.stop i H ∧ D.nx σ H) ∨ (J.go i H ∧ ∃ N : St → Hp → Prop, (∀ σ' H', N σ' H' → ∃ m', m' < m ∧ W (i + 1) m' σ' H') ∧ ∀ x H', J.yld i H x H' → g x σ H' fun σ2 H2 => tb { D with nx := N, ct := N, bk := D.nx } σ2 H2)) :
    iRow K (tVar i) σ H fun J H1 => ∃ W : Nat → Nat → St → Hp → Prop, (∃ m, W 0 m σ H1) ∧ ∀ i m σ H, W i m σ H →
      (J.stop i H ∧ D.nx σ H) ∨ (J.go i H ∧ ∃ N : St → Hp → Prop, (∀ σ' H', N σ' H' → ∃ m', m' < m ∧ W (i + 1) m' σ' H') ∧ ∀ x H', J.yld i H x H' → g x σ H' fun σ2 H2 => tb { D with nx := N, ct := N, bk := D.nx } σ2 H2) :=
  ⟨x, hi, row_walk (R := fun J H1 => ∃ W : Nat → Nat → St → Hp → Prop, (∃ m, W 0 m σ H1) ∧ ∀ i m σ H, W i m σ H →
      (J.stop i H ∧ D.nx σ H) ∨ (J.go i H ∧ ∃ N : St → Hp → Prop, (∀ σ' H', N σ' H' → ∃ m', m' < m ∧ W (i + 1) m' σ' H') ∧ ∀ x H', J.yld i H x H' → g x σ H' fun σ2 H2 => tb { D with nx := N, ct := N, bk := D.nx } σ2 H2)) r k⟩
section
variable {P : Program} {w : World} {K : PySem.W.Frag} {mg : Str → Option Value} {base : Heap} {C E B f g h : Addr} {fd gd hd : FuncData}
theorem scLCells : FnScope ["axes", "cells", "axis", "longer", "cell", "member"] ["axes"] (defScope sLCells) := ⟨rfl, rfl, rfl, by decide +kernel, rfl, by decide +kernel, by decide +kernel⟩
theorem ok_lcells (F : FnP K "_law_cells" "_law_cells" sLCells [] f fd) (T : Txt K mg) : FnOk P w K mg base CX0 1 f fd ["axes"] spLCells := by
  refine F.ok scLCells (fun vs H Q X z => ?_) (fun cdv A outer s H vs Q X hr z => ?_)
  · obtain ⟨v, us, as, rfl, _⟩ := z
    rfl
  · obtain ⟨v, xs, as, rfl, rx, al, sm, k⟩ := z
    refine ⟨_, PSs.nox (pss_cons (ps_set (i := 1) scLCells.nd rfl (Or.inl rfl) (pe_lst (pa_cons (pe_tup pa_nil) pa_nil)))
      (pss_cons (ps_for PassesOwn.never rfl (pi_row (pv 0)) (pg_name (i := 2) scLCells.nd rfl (Or.inl rfl))
        (pss_cons (ps_set (i := 3) scLCells.nd rfl (Or.inl rfl) (pe_lst pa_nil))
        (pss_cons (ps_for PassesOwn.never rfl (pi_list (pe_callTy call_list_of (by rfl) T.list (by decide +kernel) (pa_cons (pv 1) pa_nil))) (pg_name (i := 4) scLCells.nd rfl (Or.inl rfl))
          (pss_one (ps_for PassesOwn.never rfl (pi_tup (pe_ix ix_tup (pv 2) pe_int (fun _ _ => rfl))) (pg_name (i := 5) scLCells.nd rfl (Or.inl rfl))
            (pss_one (ps_expr (pe_bm PySem.F.plainAttrs_list PySem.F.slot_list_append PySem.F.type_list_append mt_append (pv 3) (pa_cons (pe_op op_catA (pv 4) (pe_tup (pa_cons (pv 5) pa_nil))) pa_nil)))))))
        (pss_one (ps_set (i := 1) scLCells.nd rfl (Or.inl rfl) (pe_callTy call_list_of (by rfl) T.list (by decide +kernel) (pa_cons (pv 3) pa_nil)))))))
      (pss_one (ps_ret (pv 1))))), ?_⟩
    refine ⟨(by show 0 ≤ sizeLine; decide), fun q nq => ⟨(by show 1 ≤ sizeLine; decide), fun l nl => ?_⟩⟩
    have s0 : Same H (upd (upd H q (.tup [])) l (.lst [.ref q])) := (new nq).trans (new nl)
    have nlH : H l = none := (new (o := .tup []) nq).free nl
    refine nx_ ?_
    refine sq ?_
    refine for_row (x := v) (xs := xs) rfl (rx.same s0) fun J wk => ?_
    refine for_it wk (fun j σ H' => Same H H' ∧ Same (upd (upd H q (.tup [])) l (.lst [.ref q])) H' ∧ ∃ (l : Addr) (us : List V) (v2 v3 v4 v5 : Option V), σ = [some v, some (.ref l), v2, v3, v4, v5] ∧ H l = none ∧ H' l = some (.lst us) ∧ All2 (StrsT H') us (cellsL (as.take j)))
      ⟨s0, Same.refl _, l, [.ref q], none, none, none, none, rfl, nlH, upd_same, rfl, fun i u c h1 h2 => ?_⟩ (fun _ _ _ _ h => h.2.1) ?_ ?_
    · cases i with
      | zero =>
        cases h1
        cases h2
        exact ⟨q, rfl, by rw [upd_ne (ne_of_none upd_same nl)]; exact upd_same⟩
      | succ i => simp at h1
    · rintro j x σ H1 H1' hj ⟨s1, s1', l, us, v2, v3, v4, v5, rfl, nlH, hl, cs⟩ ⟨rfl, hx⟩
      have hja : j < as.length := by rw [← al.1]; exact hj
      obtain ⟨a, ha⟩ : ∃ a, as[j]? = some a := ⟨_, List.getElem?_eq_getElem hja⟩
      obtain ⟨aq, mp, rfl, hq, hm⟩ := (al.2 j x a hx ha).same s1
      have nx := take_snoc ha
      have len1 := cells_le as sm (j + 1) (by omega)
      have p4 : 4 ^ (j + 1) ≤ 4 ^ 3 := Nat.pow_le_pow_right (by decide) (by have := sm.1; omega)
      refine ⟨(by show 0 ≤ sizeLine; decide), fun gp ng => ?_⟩
      have ngH : H gp = none := s1.free ng
      have s2 := new (o := .lst []) ng
      refine nx_ ?_
      refine sq ?_
      refine ⟨_, rfl, l, us, rfl, .inl (SqL.of (s2 _ _ hl)), fun cp nc => ?_⟩
      have s3 := new (o := .lst us) nc
      have s23 : Same H1' (upd (upd H1' gp (.lst [])) cp (.lst us)) := s2.trans s3
      have ngc : gp ≠ cp := ne_of_none upd_same nc
      refine ⟨cp, rfl, ⟨us, SqL.of upd_same⟩, ?_⟩
      -- what holds within: the whole cells, the members
      refine for_it walk_list (fun i σ H' => Same H1' H' ∧ H' cp = some (.lst us) ∧ ∃ (ys : List V) (w4 w5 : Option V), σ = [some v, some (.ref l), some (.ref aq), some (.ref gp), w4, w5] ∧ H' gp = some (.lst ys) ∧ All2 (StrsT H') ys (upTo (cellsL (as.take j)) a.2 i 0))
        ⟨s23, upd_same, [], v4, v5, rfl, s3 _ _ upd_same, by rw [upTo_start]; exact All2.nil⟩ (fun _ _ _ _ h => SqL.of h.2.1) ?_ ?_
      · rintro i x σ H4 H4' hi ⟨s4, ec, ys, w4, w5, rfl, eg, al4⟩ ⟨rfl, hx'⟩
        obtain ⟨c, hc⟩ : ∃ c, (cellsL (as.take j))[i]? = some c := by
          have lt := (List.getElem?_eq_some_iff.mp hx').1
          rw [cs.1] at lt
          exact ⟨_, List.getElem?_eq_getElem lt⟩
        obtain ⟨ca, rfl, hca⟩ := (cs.2 i x c hx' hc).same s4
        refine ⟨_, rfl, aq, _, _, V.ref mp, rfl, rfl, SqT.of (s4 _ _ hq), at_of (j := 1) rfl rfl, mp, rfl, ⟨_, SqT.of (s4 _ _ hm)⟩, ?_⟩
        refine for_it walk_tup (fun n σ H' => Same H1' H' ∧ H' cp = some (.lst us) ∧ ∃ (ys : List V) (w5 : Option V), σ = [some v, some (.ref l), some (.ref aq), some (.ref gp), some (.ref ca), w5] ∧ H' gp = some (.lst ys) ∧ All2 (StrsT H') ys (upTo (cellsL (as.take j)) a.2 i n))
          ⟨s4, ec, ys, w5, rfl, eg, al4⟩ (fun _ _ _ _ h => SqT.of (h.1 _ _ hm)) ?_ ?_
        · rintro n x σ H5 H5' hn ⟨s5, ec5, ys, w5, rfl, eg5, al5⟩ ⟨rfl, hx5⟩
          obtain ⟨m, hm', rfl⟩ : ∃ m, a.2[n]? = some m ∧ x = .str m := by
            rw [List.getElem?_map] at hx5
            cases em : a.2[n]? with
            | none => rw [em] at hx5; cases hx5
            | some m => rw [em] at hx5; exact ⟨m, rfl, (Option.some.inj hx5).symm⟩
          have hca5 : H5' ca = some (.tup (c.map V.str)) := by
            obtain ⟨cb, e, h⟩ := (cs.2 i (.ref ca) c hx' hc).same s5
            cases e
            exact h
          have st := upTo_step hc hm'
          have lys : ys.length < sizeLine := by
            have l1 := upTo_len hc (show n ≤ a.2.length from Nat.le_of_lt (List.getElem?_eq_some_iff.mp hm').1)
            rw [al5.1, l1]
            have b1 : i < (cellsL (as.take j)).length := (List.getElem?_eq_some_iff.mp hc).1
            have b2 := cells_le as sm j (by omega)
            have b3 : 4 ^ j ≤ 4 ^ 3 := Nat.pow_le_pow_right (by decide) (by have := sm.1; omega)
            have b4 := sm.2 a (List.mem_of_getElem? ha)
            have b5 : i * a.2.length ≤ 64 * 4 := Nat.mul_le_mul (by omega) b4
            have b6 := (List.getElem?_eq_some_iff.mp hm').1
            exact Nat.lt_of_lt_of_le (show _ < 1000 by omega) (show 1000 ≤ sizeLine by decide)
          -- the longer cell, wherever it stands
          have fin : ∀ (H6 : Hp) (r : Addr), Same H5' H6 → H6 r = some (.tup ((c ++ [m]).map V.str)) → ∃ (l2 : Addr) (zs : List V) (y : V), V.ref gp = .ref l2 ∧ [V.ref r] = [y] ∧ H6 l2 = some (.lst zs) ∧ zs.length < sizeLine ∧
              (Same H1' (upd H6 l2 (.lst (zs ++ [y]))) ∧ (upd H6 l2 (.lst (zs ++ [y]))) cp = some (.lst us) ∧ ∃ (ys : List V) (w5 : Option V), [some v, some (V.ref l), some (V.ref aq), some (V.ref gp), some (V.ref ca), some (V.str m)] = [some v, some (V.ref l), some (V.ref aq), some (V.ref gp), some (V.ref ca), w5] ∧
                (upd H6 l2 (.lst (zs ++ [y]))) gp = some (.lst ys) ∧ All2 (StrsT (upd H6 l2 (.lst (zs ++ [y])))) ys (upTo (cellsL (as.take j)) a.2 i (n + 1))) := fun H6 r s6 er => by
            have eg6 := s6 _ _ eg5
            have tl := tsame_upd (H := H6) (p := gp) (o := .lst (ys ++ [V.ref r])) (fun xs z => by rw [eg6] at z; cases z)
            refine ⟨gp, ys, V.ref r, rfl, rfl, eg6, lys, fun b o e => ?_, by rw [upd_ne ngc.symm]; exact s6 _ _ ec5, ys ++ [V.ref r], _, rfl, upd_same, ?_⟩
            · rw [upd_ne (ne_of_none e ng)]
              exact s6 _ _ (s5 _ _ e)
            · rw [st]
              exact All2.snoc (al5.imp fun _ _ y => (y.same s6).t tl) (StrsT.t ⟨r, rfl, er⟩ tl)
          refine ⟨_, rfl, .inl ⟨rfl, ys, SqL.of eg5⟩, _, rfl, _, rfl, (by show 1 ≤ sizeLine; decide), fun r nr => ?_⟩
          have s6 := new (o := .tup [V.str m]) nr
          have lc := cell_len (as.take j) c (List.mem_of_getElem? hc)
          rw [List.length_take] at lc
          have a3 := sm.1
          refine ⟨ca, r, c.map V.str, [V.str m], rfl, rfl, SqT.of (s6 _ _ hca5), SqT.of upd_same, ?_, fun e => ?_, fun _ (e : ([V.str m] : List V) = []) => (List.cons_ne_nil _ _ e).elim, fun _ _ t nt => ?_⟩
          · rw [List.length_map]
            exact Nat.le_trans (show c.length + 1 ≤ 10 by omega) (show 10 ≤ sizeLine by decide)
          · have ce : c = [] := List.map_eq_nil_iff.mp e
            exact fin _ r s6 (by rw [upd_same, ce]; rfl)
          · exact fin _ t (s6.trans (new nt)) (by rw [upd_same, List.map_append]; rfl)
        · rintro σ H5 ⟨s5, ec5, ys, w5, rfl, eg5, al5⟩
          refine ⟨s5, ec5, ys, _, _, rfl, eg5, ?_⟩
          rw [List.length_map] at al5
          rw [← upTo_end hc]
          exact al5
      · rintro σ H4 ⟨s4, ec, ys, w4, w5, rfl, eg, al4⟩
        rw [upTo_start, List.take_of_length_le (by rw [cs.1]; exact Nat.le_refl _)] at al4
        refine nx_ ?_
        refine ⟨_, rfl, gp, ys, rfl, .inl (SqL.of eg), fun fp nf => ?_⟩
        have s5 := new (o := .lst ys) nf
        refine ⟨(s1.trans s4).trans s5, (s1'.trans s4).trans s5, fp, ys, _, _, _, _, rfl, (s1.trans s4).free nf, upd_same, ?_⟩
        rw [nx, cellsL_snoc]
        exact al4.imp fun _ _ y => y.same s5
    · rintro σ H1 ⟨s1, _, l, us, v2, v3, v4, v5, rfl, nlH, hl, cs⟩
      rw [List.take_of_length_le (by rw [al.1]; exact Nat.le_refl _)] at cs
      refine nx_ ?_
      exact ⟨_, rfl, k l us H1 s1 nlH hl cs⟩
end
end K4

set_option Elab.async false
set_option linter.all false
set_option maxRecDepth 100000
set_option maxHeartbeats 4000000
namespace K4
open PySem L2 TL
abbrev sLOdd : Stmt := top 30
abbrev sLIsName : Stmt := top 32
abbrev sLIsRow : Stmt := top 33
abbrev AL : Str := ("abcdefghijklmnopqrstuvwxyz0123456789" : Str)
theorem mem_al (c : Nat) : c ∈ AL.cps.toList ↔ Let c ∨ Dig c := by
  have e : AL.cps.toList = LT.cps.toList ++ DG.cps.toList := by decide +kernel
  rw [e, List.mem_append, mem_lt, mem_dg]
  exact Iff.rfl
/-- as Kn, rows of at most B things -/
def Kb (B : Nat) : Nat → Hp → V → Prop
  | 0, H, v => (∃ xs, Row H v xs ∧ xs.length ≤ B) ∨ (NoRow H v ∧ ∀ z, v = .str z → z.length ≤ 100)
  | n + 1, H, v => (∃ xs, Row H v xs ∧ xs.length ≤ B ∧ ∀ x ∈ xs, Kb B n H x) ∨ (NoRow H v ∧ ∀ z, v = .str z → z.length ≤ 100)
theorem Kb.kn {B : Nat} {H : Hp} (h : B ≤ 100) : ∀ {n : Nat} {v : V}, Kb B n H v → Kn n H v
  | 0, v, k => by
    rcases k with ⟨xs, r, l⟩ | k
    · exact .inl ⟨xs, r, Nat.le_trans l h⟩
    · exact .inr k
  | n + 1, v, k => by
    rcases k with ⟨xs, r, l, a⟩ | k
    · exact .inl ⟨xs, r, Nat.le_trans l h, fun x hx => (a x hx).kn h⟩
    · exact .inr k
theorem Kb.mono {B B' : Nat} {H : Hp} (h : B ≤ B') : ∀ {n : Nat} {v : V}, Kb B n H v → Kb B' n H v
  | 0, v, k => by
    rcases k with ⟨xs, r, l⟩ | k
    · exact .inl ⟨xs, r, Nat.le_trans l h⟩
    · exact .inr k
  | n + 1, v, k => by
    rcases k with ⟨xs, r, l, a⟩ | k
    · exact .inl ⟨xs, r, Nat.le_trans l h, fun x hx => (a x hx).mono h⟩
    · exact .inr k
theorem Kb.same {B : Nat} {H H' : Hp} (s : Same H H') : ∀ {n : Nat} {v : V}, Kb B n H v → Kb B n H' v
  | 0, v, h => by
    rcases h with ⟨xs, r, l⟩ | ⟨r, l⟩
    · exact .inl ⟨xs, r.same s, l⟩
    · exact .inr ⟨r.same s, l⟩
  | n + 1, v, h => by
    rcases h with ⟨xs, r, l, k⟩ | ⟨r, l⟩
    · exact .inl ⟨xs, r.same s, l, fun x hx => (k x hx).same s⟩
    · exact .inr ⟨r.same s, l⟩
theorem Kb.less {B : Nat} {H : Hp} : ∀ {n : Nat} {v : V}, Kb B (n + 1) H v → Kb B n H v
  | 0, v, h => by
    rcases h with ⟨xs, r, l, k⟩ | ⟨r, l⟩
    · exact .inl ⟨xs, r, l⟩
    · exact .inr ⟨r, l⟩
  | n + 1, v, h => by
    rcases h with ⟨xs, r, l, k⟩ | ⟨r, l⟩
    · exact .inl ⟨xs, r, l, fun x hx => (k x hx).less⟩
    · exact .inr ⟨r, l⟩
theorem Kb.of_row {B n : Nat} {H : Hp} {v : V} {xs : List V} (h : Kb B (n + 1) H v) (r : Row H v xs) : xs.length ≤ B ∧ ∀ x ∈ xs, Kb B n H x := by
  rcases h with ⟨ys, r2, l, kx⟩ | ⟨n, _⟩
  · obtain rfl := r.one r2
    exact ⟨l, kx⟩
  · exact (r.no n).elim
theorem kb_str {B n : Nat} {H : Hp} {z : Str} (h : z.length ≤ 100) : Kb B n H (.str z) := by
  have k : NoRow H (.str z) ∧ ∀ y, V.str z = .str y → y.length ≤ 100 := ⟨.inr (.inr (.inr (.inl ⟨z, rfl⟩))), fun y e => by cases e; exact h⟩
  cases n with
  | zero => exact .inr k
  | succ n => exact .inr k
/-- what a draw of something else gives -/
def OddV (H : Hp) (v : V) : Prop := (NoRow H v ∧ ∀ z, v = .str z → z.length ≤ 100) ∨ ∃ xs, Row H v xs ∧ xs.length ≤ 2 ∧ ∀ x ∈ xs, ∃ z : Str, x = .str z ∧ z.length ≤ 100
theorem OddV.kb {B n : Nat} {H : Hp} {v : V} (h : OddV H v) (hb : 2 ≤ B) : Kb B n H v := by
  rcases h with h | ⟨xs, r, l, a⟩
  · cases n with
    | zero => exact .inr h
    | succ n => exact .inr h
  · cases n with
    | zero => exact .inl ⟨xs, r, Nat.le_trans l hb⟩
    | succ n =>
      refine .inl ⟨xs, r, Nat.le_trans l hb, fun x hx => ?_⟩
      obtain ⟨z, rfl, lz⟩ := a x hx
      exact kb_str lz
theorem OddV.no {H : Hp} {v : V} (h : OddV H v) : ¬ Pairs H v := by
  rintro ⟨ys, r2, l1, _, al⟩
  rcases h with ⟨n, _⟩ | ⟨xs, r, _, a⟩
  · exact r2.no n
  · obtain rfl := r.one r2
    match xs, l1 with
    | x :: _, _ =>
      obtain ⟨z, rfl, _⟩ := a x List.mem_cons_self
      obtain ⟨c, d, q, e, _⟩ := al _ List.mem_cons_self
      cases e
theorem OddV.same {H H' : Hp} {v : V} (h : OddV H v) (s : Same H H') : OddV H' v := by
  rcases h with ⟨n, l⟩ | ⟨xs, r, l, a⟩
  · exact .inl ⟨n.same s, l⟩
  · exact .inr ⟨xs, r.same s, l, a⟩
/-- all but what stands at l -/
theorem But.del {l : Addr} {H H' : Hp} (b : But l H H') : Same (del H l) (del H' l) := fun c o e => by
  by_cases h : c = l
  · rw [h, del_same] at e
    cases e
  · rw [del_ne h] at e ⊢
    exact b c o h e
theorem del_sub {l : Addr} {H : Hp} : Same (del H l) H := fun c o e => by
  by_cases h : c = l
  · rw [h, del_same] at e
    cases e
  · rw [del_ne h] at e
    exact e
theorem at_del {l c : Addr} {H : Hp} {o : HO} (e : H c = some o) (h : c ≠ l) : del H l c = some o := by
  rw [del_ne h]
  exact e
/-- something else, laid anew -/
def OddN (H H' : Hp) (v : V) : Prop := v = .non ∨ (∃ b, v = .bl b) ∨ (∃ i, v = .int i) ∨ (∃ z : Str, v = .str z ∧ z.length ≤ 100) ∨
  ∃ q, v = .ref q ∧ H q = none ∧ (H' q = some (.dK []) ∨ ∃ xs, (H' q = some (.lst xs) ∨ H' q = some (.tup xs)) ∧ xs.length ≤ 2 ∧ ∀ x ∈ xs, ∃ z : Str, x = .str z ∧ z.length ≤ 100)
theorem OddN.at {H H' H2 : Hp} {v : V} (h : OddN H H' v) (s : ∀ q o, H q = none → H' q = some o → H2 q = some o) : OddV H2 v := by
  rcases h with rfl | ⟨b, rfl⟩ | ⟨i, rfl⟩ | ⟨z, rfl, lz⟩ | ⟨q, rfl, nq, h | ⟨xs, h, l, a⟩⟩
  · exact .inl ⟨.inl rfl, fun _ e => by cases e⟩
  · exact .inl ⟨.inr (.inl ⟨_, rfl⟩), fun _ e => by cases e⟩
  · exact .inl ⟨.inr (.inr (.inl ⟨_, rfl⟩)), fun _ e => by cases e⟩
  · exact .inl ⟨.inr (.inr (.inr (.inl ⟨z, rfl⟩))), fun y e => by cases e; exact lz⟩
  · exact .inl ⟨.inr (.inr (.inr (.inr ⟨q, rfl, s _ _ nq h⟩))), fun _ e => by cases e⟩
  · refine .inr ⟨xs, ⟨q, rfl, ?_⟩, l, a⟩
    rcases h with h | h
    · exact .inl (s _ _ nq h)
    · exact .inr (s _ _ nq h)
def spLOdd : Sp := fun vs H Q _ => ∃ l : Addr, vs = [.ref l] ∧ Strm H l ∧ ∀ (v : V) (H' : Hp), But l H H' → Strm H' l → OddN H H' v → Q v H'
def spLIsRow : Sp := fun vs H Q _ => ∃ (x : V) (a b : Int), vs = [x, .int a, .int b] ∧ Kn 0 H x ∧ Ans (∃ xs, Row H x xs ∧ a ≤ (xs.length : Int) ∧ (xs.length : Int) ≤ b) H Q
section
variable {P : Program} {w : World} {K : PySem.W.Frag} {mg : Str → Option Value} {base : Heap} {C E B f g h : Addr} {fd gd hd : FuncData}
theorem scLOdd : FnScope ["stream", "odd"] ["stream"] (defScope sLOdd) := ⟨rfl, rfl, rfl, by decide +kernel, rfl, by decide +kernel, by decide +kernel⟩
theorem ok_lodd (F : FnP K "_law_odd" "_law_odd" sLOdd [] f fd) (T : Txt K mg) (GD : GloOk P w K mg base CX0 1 "_law_draw" ["stream", "many"] spDraw) : FnOk P w K mg base CX0 2 f fd ["stream"] spLOdd := by
  obtain ⟨fD, fdD, GD, mD, kD, bD⟩ := GD
  refine F.ok scLOdd (fun vs H Q X z => ?_) (fun cdv A outer s H vs Q X hr z => ?_)
  · obtain ⟨l, rfl, _⟩ := z
    rfl
  · obtain ⟨l, rfl, st, k⟩ := z
    refine ⟨_, PSs.nox (pss_cons (ps_set (i := 1) scLOdd.nd rfl (Or.inl rfl) (pe_lst (pa_cons pe_non (pa_cons pe_bl (pa_cons pe_int (pa_cons pe_str (pa_cons pe_str (pa_cons pe_str (pa_cons pe_str (pa_cons pe_str (pa_cons pe_str (pa_cons pe_str (pa_cons pe_str
        (pa_cons (pe_tup pa_nil) (pa_cons (pe_lst pa_nil) (pa_cons pe_dnewK (pa_cons (pe_tup (pa_cons pe_str pa_nil)) (pa_cons (pe_lst (pa_cons pe_str (pa_cons pe_str pa_nil))) (pa_cons pe_str (pa_cons pe_str pa_nil))))))))))))))))))))
      (pss_one (ps_ret (pe_ix ix_list (pv 1) (pe_call GD hr rfl mD kD bD .nil pass0 (pa_cons (pv 0) (pa_cons pe_int pa_nil))) (fun _ _ => rfl))))), ?_⟩
    refine ⟨(by show 0 ≤ sizeLine; decide), fun p1 n1 => ⟨(by show 0 ≤ sizeLine; decide), fun p2 n2 p3 n3 => ⟨(by show 1 ≤ sizeLine; decide), fun p4 n4 => ⟨(by show 2 ≤ sizeLine; decide), fun p5 n5 => ⟨(by show 18 ≤ sizeLine; decide), fun p n => ?_⟩⟩⟩⟩⟩
    have e1 := upd_same (H := H) (a := p1) (o := .tup [])
    have t1 := new (o := .tup []) n1
    generalize upd H p1 (.tup []) = H1 at *
    have e2 := upd_same (H := H1) (a := p2) (o := .lst [])
    have t2 := new (o := .lst []) n2
    generalize upd H1 p2 (.lst []) = H2 at *
    have e3 := upd_same (H := H2) (a := p3) (o := .dK [])
    have t3 := new (o := .dK []) n3
    generalize upd H2 p3 (.dK []) = H3 at *
    have e4 := upd_same (H := H3) (a := p4) (o := .tup [V.str "a"])
    have t4 := new (o := .tup [V.str "a"]) n4
    generalize upd H3 p4 (.tup [V.str "a"]) = H4 at *
    have e5 := upd_same (H := H4) (a := p5) (o := .lst [V.str "a", V.str "b"])
    have t5 := new (o := .lst [V.str "a", V.str "b"]) n5
    generalize upd H4 p5 (.lst [V.str "a", V.str "b"]) = H5 at *
    have s5 : Same H H5 := t1.trans (t2.trans (t3.trans (t4.trans t5)))
    have st1 := st.same t1
    have st2 := st1.same t2
    have st3 := st2.same t3
    have st4 := st3.same t4
    have st5 := st4.same t5
    have d1 := st.ne n1
    have d2 := st1.ne n2
    have d3 := st2.ne n3
    have d4 := st3.ne n4
    have d5 := st4.ne n5
    have dp := st5.ne n
    refine nx_ ?_
    refine ⟨_, rfl, _, rfl, l, 18, rfl, st5.same (new n), by decide, by unfold Sz; decide +kernel, fun d H6 g0 g1 b6 s6 => ?_⟩
    have b56 := (But.of (new n)).trans b6
    have ep := b6 p _ dp upd_same
    obtain ⟨v, hv, ha⟩ := at_any (xs := [V.non, V.bl true, V.int 3, V.str "", V.str "sum", V.str "each", V.str "abcdefghi", V.str "A", V.str "1a", V.str "a b", V.str "a_", V.ref p1, V.ref p2, V.ref p3, V.ref p4, V.ref p5, V.str "ok", V.str "a1"]) g0 g1
    refine ⟨p, _, d, v, rfl, rfl, SqL.of ep, ha, ?_⟩
    refine k v H6 ((But.of s5).trans b56) s6 ?_
    have at_ : ∀ {q : Addr} {o : HO}, H5 q = some o → q ≠ l → H6 q = some o := fun e h => b56 _ _ h e
    have txt : ∀ z : Str, z.length ≤ 100 → OddN H H6 (.str z) := fun z hz => .inr (.inr (.inr (.inl ⟨z, rfl, hz⟩)))
    simp only [List.mem_cons, List.not_mem_nil, or_false] at hv
    rcases hv with rfl | rfl | rfl | rfl | rfl | rfl | rfl | rfl | rfl | rfl | rfl | rfl | rfl | rfl | rfl | rfl | rfl | rfl
    · exact .inl rfl
    · exact .inr (.inl ⟨_, rfl⟩)
    · exact .inr (.inr (.inl ⟨_, rfl⟩))
    · exact txt _ (by decide +kernel)
    · exact txt _ (by decide +kernel)
    · exact txt _ (by decide +kernel)
    · exact txt _ (by decide +kernel)
    · exact txt _ (by decide +kernel)
    · exact txt _ (by decide +kernel)
    · exact txt _ (by decide +kernel)
    · exact txt _ (by decide +kernel)
    · exact .inr (.inr (.inr (.inr ⟨p1, rfl, n1, .inr ⟨[], .inr (at_ (t5 _ _ (t4 _ _ (t3 _ _ (t2 _ _ e1)))) d1), by decide, fun _ h => by cases h⟩⟩)))
    · exact .inr (.inr (.inr (.inr ⟨p2, rfl, t1.free n2, .inr ⟨[], .inl (at_ (t5 _ _ (t4 _ _ (t3 _ _ e2))) d2), by decide, fun _ h => by cases h⟩⟩)))
    · exact .inr (.inr (.inr (.inr ⟨p3, rfl, t1.free (t2.free n3), .inl (at_ (t5 _ _ (t4 _ _ e3)) d3)⟩)))
    · refine .inr (.inr (.inr (.inr ⟨p4, rfl, t1.free (t2.free (t3.free n4)), .inr ⟨[V.str "a"], .inr (at_ (t5 _ _ e4) d4), (by show 1 ≤ 2; decide), fun x hx => ?_⟩⟩)))
      rw [List.mem_singleton.mp hx]
      exact ⟨_, rfl, by decide +kernel⟩
    · refine .inr (.inr (.inr (.inr ⟨p5, rfl, t1.free (t2.free (t3.free (t4.free n5))), .inr ⟨[V.str "a", V.str "b"], .inl (at_ e5 d5), (by show 2 ≤ 2; decide), fun x hx => ?_⟩⟩)))
      simp only [List.mem_cons, List.not_mem_nil, or_false] at hx
      rcases hx with rfl | rfl
      · exact ⟨_, rfl, by decide +kernel⟩
      · exact ⟨_, rfl, by decide +kernel⟩
    · exact txt _ (by decide +kernel)
    · exact txt _ (by decide +kernel)
theorem scLIsRow : FnScope ["thing", "least", "most"] ["thing", "least", "most"] (defScope sLIsRow) := ⟨rfl, rfl, rfl, by decide +kernel, rfl, by decide +kernel, by decide +kernel⟩
theorem ok_lisrow (F : FnP K "_law_is_row" "_law_is_row" sLIsRow [] f fd) (T : Txt K mg) : FnOk P w K mg base CX0 1 f fd ["thing", "least", "most"] spLIsRow := by
  refine F.ok scLIsRow (fun vs H Q X z => ?_) (fun cdv A outer s H vs Q X hr z => ?_)
  · obtain ⟨x, a, b, rfl, _⟩ := z
    rfl
  · obtain ⟨x, a, b, rfl, kn, k⟩ := z
    refine ⟨_, PSs.nox (pss_one (ps_ret (pe_and (pe_callB call_isiT (by rfl) T.isinst (by decide +kernel) (pa_cons (pv 0) (pa_cons (pe_tup (pa_cons (pe_bltn (v := .ty "list") (by rfl) T.list (by decide +kernel) rfl) (pa_cons (pe_bltn (v := .ty "tuple") (by rfl) T.tuple (by decide +kernel) rfl) pa_nil))) pa_nil)))
      (pe_one (pe_chain op_le op_le (pv 1) (pe_callB call_len_seq (by rfl) T.len PySem.boot_len (pa_cons (pv 0) pa_nil)) (pv 2)))))), ?_⟩
    refine ⟨_, rfl, (by show 2 ≤ sizeLine; decide), fun p hp => ?_⟩
    have s1 : Same H (upd H p (.tup [.ty "list", .ty "tuple"])) := new hp
    rcases kn with ⟨xs, r, _⟩ | ⟨n, _⟩
    · obtain ⟨t, ht, ty⟩ := (r.same s1).ty (K := K)
      refine ⟨x, p, [.ty "list", .ty "tuple"], .type t, [.type "list", .type "tuple"], true, rfl, upd_same, .cons (.ty _) (.cons (.ty _) .nil), ty, row_kit ht, true, rfl, iteT ?_⟩
      obtain ⟨q, rfl, hq⟩ := (r.same s1).seq (K := K)
      refine ⟨_, rfl, _, rfl, q, xs, rfl, hq, _, _, rfl, rfl, _, rfl, ?_⟩
      by_cases c1 : a ≤ (xs.length : Int)
      · refine itT (decide_eq_true c1) ⟨_, rfl, _, _, rfl, rfl, ?_⟩
        refine k.at s1 ⟨fun z => ⟨xs, r, c1, of_decide_eq_true z⟩, ?_⟩
        rintro ⟨ys, r2, _, c2⟩
        obtain rfl := r.one r2
        exact decide_eq_true c2
      · refine itF (decide_eq_false c1) ?_
        refine k.at s1 ⟨fun z => Bool.noConfusion z, ?_⟩
        rintro ⟨ys, r2, c2, _⟩
        obtain rfl := r.one r2
        exact (c1 c2).elim
    · obtain ⟨t, ht, ty, _⟩ := (n.same s1).ty (K := K)
      exact ⟨x, p, [.ty "list", .ty "tuple"], .type t, [.type "list", .type "tuple"], false, rfl, upd_same, .cons (.ty _) (.cons (.ty _) .nil), ty, norow_kit ht, false, rfl, iteF (k.at s1 ⟨fun z => Bool.noConfusion z, fun ⟨xs, r, _⟩ => (r.no n).elim⟩)⟩
end
end K4

set_option Elab.async false
set_option linter.all false
set_option maxRecDepth 100000
set_option maxHeartbeats 4000000
namespace K4
open PySem L2 TL
def spLIsName : Sp := fun vs H Q _ => ∃ x, vs = [x] ∧ Kn 0 H x ∧ Ans (IsName x) H Q
section
variable {P : Program} {w : World} {K : PySem.W.Frag} {mg : Str → Option Value} {base : Heap} {C E B f g h : Addr} {fd gd hd : FuncData}
theorem scLIsName : FnScope ["thing", "char"] ["thing"] (defScope sLIsName) := ⟨rfl, rfl, rfl, by decide +kernel, rfl, by decide +kernel, by decide +kernel⟩
theorem ok_lisname (F : FnP K "_law_is_name" "_law_is_name" sLIsName [] f fd) (T : Txt K mg) : FnOk P w K mg base CX0 1 f fd ["thing"] spLIsName := by
  refine F.ok scLIsName (fun vs H Q X z => ?_) (fun cdv A outer s H vs Q X hr z => ?_)
  · obtain ⟨x, rfl, _⟩ := z
    rfl
  · obtain ⟨x, rfl, kn, k⟩ := z
    refine ⟨_, PSs.nox (pss_cons (ps_if (PW.pt (pw_or (pt_not (pt_val (pe_callB call_isi (by rfl) T.isinst (by decide +kernel) (pa_cons (pv 0) (pa_cons (pe_bltn (v := .ty "str") (by rfl) T.str (by decide +kernel) rfl) pa_nil)))))
        (pw_or (pt_cmpR op_lt (pe_callB call_len_str (by rfl) T.len PySem.boot_len (pa_cons (pv 0) pa_nil)) pe_int (nomark _)) (pw_or (pt_cmpR op_gt (pe_callB call_len_str (by rfl) T.len PySem.boot_len (pa_cons (pv 0) pa_nil)) pe_int (nomark _))
          (pw_or1 (pt_cmpR op_in_seq (pv 0) (pe_lst (pa_cons pe_str (pa_cons pe_str pa_nil))) (by rfl))))))) (pss_one (ps_ret pe_bl)) pss_nil)
      (pss_cons (ps_if (pt_cmpR op_gt (pe_callB call_len_seq (by rfl) T.len PySem.boot_len (pa_cons
          (pe_lc (own := [("char", 1)]) (g := gName 1) (tt := tTest (tOp rNotInS (tVar 1) (tC (.str AL)))) (by rfl) scLIsName.nd (pi_str (pv 0)) (blkOk_by (own := [("char", 1)]) (N := ["thing", "char"]) (sc := defScope sLIsName) (by decide +kernel)) (fun _ _ _ _ _ => pg_name (i := 1) scLIsName.nd rfl (Or.inl rfl))
            (fun _ _ _ _ _ => pts_one (pt_cmpR op_notInS (pv 1) pe_str (by rfl))) (fun _ _ _ _ _ => show PE _ _ (tVar 1) from pv 1)) pa_nil)) pe_int (nomark _)) (pss_one (ps_ret pe_bl)) pss_nil)
      (pss_one (ps_ret (pe_cmpR (r := rNotInS) op_notInS (pe_ix ix_str (pv 0) pe_int (fun _ _ => rfl)) pe_str (by rfl)))))), ?_⟩
    rcases kn with ⟨xs, r, _⟩ | ⟨n, sh⟩
    · obtain ⟨t, ht, ty⟩ := r.ty (K := K)
      refine ⟨_, rfl, x, .ty "str", .type t, _, false, rfl, .ty _, ty, by rcases ht with rfl | rfl <;> exact kit_ty (by decide +kernel), _, rfl, iteT (iteT (k.here ⟨fun y => Bool.noConfusion y, ?_⟩))⟩
      rintro ⟨z, rfl, _⟩
      obtain ⟨p, e, _⟩ := r
      cases e
    · obtain ⟨t, ht, ty, iff⟩ := n.ty (K := K)
      by_cases st : ∃ z, x = .str z
      · obtain ⟨z, rfl⟩ := st
        have hz' : z.length ≤ 1000 := Nat.le_trans (sh z rfl) (by decide)
        have lz : z.length = (tl z).length := len_tl z
        refine ⟨_, rfl, _, .ty "str", .type "str", _, true, rfl, .ty _, .base (.str z), kit_ty (by decide +kernel), _, rfl, iteF ?_⟩
        refine ⟨_, rfl, z, rfl, big1000 hz', _, _, rfl, rfl, _, rfl, ?_⟩
        by_cases c1 : (z.length : Int) < 1
        · refine itT (decide_eq_true c1) (iteT ?_)
          refine k.here ⟨fun y => Bool.noConfusion y, ?_⟩
          rintro ⟨y, e, hw, _⟩
          cases e
          have := hw.lo
          omega
        · refine itF (decide_eq_false c1) ?_
          refine ⟨_, rfl, z, rfl, big1000 hz', _, _, rfl, rfl, _, rfl, ?_⟩
          by_cases c2 : (8 : Int) < (z.length : Int)
          · refine itT (decide_eq_true c2) (iteT ?_)
            refine k.here ⟨fun y => Bool.noConfusion y, ?_⟩
            rintro ⟨y, e, hw, _⟩
            cases e
            have := hw.hi
            omega
          · refine itF (decide_eq_false c2) ?_
            refine ⟨_, rfl, (by show 2 ≤ sizeLine; decide), fun p hp => ⟨p, _, rfl, .inl (SqL.of upd_same), rfl, rfl, _, rfl, ?_⟩⟩
            have s1 := new (o := .lst [V.str "sum", V.str "each"]) hp
            by_cases c3 : inV (.str z) [V.str "sum", V.str "each"] = true
            · refine itT c3 ?_
              refine k.at s1 ⟨fun y => Bool.noConfusion y, ?_⟩
              rintro ⟨y, e, _, n1, n2⟩
              cases e
              rcases (in_reserved z).mp c3 with q | q
              · exact absurd q n1
              · exact absurd q n2
            · refine itF (eqF c3) ?_
              have nr : z ≠ "sum" ∧ z ≠ "each" := ⟨fun q => c3 ((in_reserved z).mpr (.inl q)), fun q => c3 ((in_reserved z).mpr (.inr q))⟩
              obtain ⟨c0, r0, er⟩ : ∃ c r, tl z = c :: r := by
                cases e : tl z with
                | nil => rw [e] at lz; simp at lz; omega
                | cons c r => exact ⟨c, r, rfl⟩
              refine nx_ ?_
              refine sq ?_
              refine ⟨_, rfl, z, rfl, fun D nD => lc_it walk_str (fun i H' => Same H H' ∧ ∃ acc, H' D = some (.lst acc) ∧ acc.length ≤ i ∧ (acc.length = 0 ↔ ∀ c ∈ (tl z).take i, Let c ∨ Dig c)) ⟨s1.trans (new nD), [], upd_same, Nat.le_refl _, fun _ c hc => (by rw [List.take_zero] at hc; cases hc), fun _ => rfl⟩ (fun _ _ _ _ => trivial) ?_ ?_⟩
              · rintro i x H5 H6 hi ⟨s5, acc, hD5, la, iff5⟩ ⟨rfl, c, hc, rfl⟩
                have nDH : H D = none := s1.free nD
                refine ⟨rfl, _, rfl, c, AL, rfl, rfl, _, rfl, ?_⟩
                have tk : (tl z).take (i + 1) = (tl z).take i ++ [c] := take_snoc (get_tl hc)
                by_cases d1 : c ∈ AL.cps.toList
                · refine itF (by rw [decide_eq_true d1]; rfl) ?_
                  refine ⟨s5, acc, hD5, Nat.le_succ_of_le la, ?_⟩
                  rw [tk, iff5]
                  constructor
                  · intro q d hd
                    rcases List.mem_append.mp hd with hd | hd
                    · exact q d hd
                    · rw [List.mem_singleton.mp hd]
                      exact (mem_al c).mp d1
                  · exact fun q d hd => q d (List.mem_append.mpr (.inl hd))
                · refine itT (by rw [decide_eq_false d1]; rfl) ?_
                  refine ⟨_, rfl, acc, hD5, ?_, fun b o e => ?_, acc ++ [V.str ⟨#[c]⟩], upd_same, ?_, ?_⟩
                  · exact Nat.lt_of_lt_of_le (show acc.length < 1001 by have : z.cps.size ≤ 1000 := hz'; omega) (show 1001 ≤ sizeLine by decide)
                  · rw [upd_ne (ne_of_none e nDH)]
                    exact s5 _ _ e
                  · rw [List.length_append]
                    show acc.length + 1 ≤ i + 1
                    omega
                  · rw [List.length_append, tk]
                    constructor
                    · intro q
                      have q' : acc.length + 1 = 0 := q
                      omega
                    · intro q
                      exact absurd ((mem_al c).mpr (q c (List.mem_append.mpr (.inr (List.mem_singleton.mpr rfl))))) d1
              · rintro H5 ⟨s5, acc, hD5, la, iff5⟩
                rw [show (tl z).take z.cps.size = tl z from List.take_of_length_le (Nat.le_of_eq rfl)] at iff5
                refine ⟨D, acc, rfl, .inl (SqL.of hD5), _, _, rfl, rfl, _, rfl, ?_⟩
                by_cases c4 : (0 : Int) < (acc.length : Int)
                · refine itT (decide_eq_true c4) ?_
                  refine k.at s5 ⟨fun y => Bool.noConfusion y, ?_⟩
                  rintro ⟨y, e, hw, _⟩
                  cases e
                  have := iff5.mpr hw.al
                  omega
                · refine itF (decide_eq_false c4) ?_
                  have al := iff5.mp (by omega)
                  refine nx_ ?_
                  refine ⟨_, rfl, z, _, c0, rfl, rfl, big1000 hz', by rw [show z.cps.toList = c0 :: r0 from er]; exact atI_nat (j := 0) rfl, c0, DG, rfl, rfl, ?_⟩
                  refine k.at s5 ⟨fun y => ⟨z, rfl, ⟨by omega, by omega, fun d hd => ?_, al⟩, nr.1, nr.2⟩, ?_⟩
                  · rw [er] at hd
                    cases hd
                    have nd : c0 ∉ DG.cps.toList := fun q => by
                      rw [decide_eq_true q] at y
                      cases y
                    rcases al c0 (by rw [er]; exact List.mem_cons_self) with q | q
                    · exact q
                    · exact absurd ((mem_dg c0).mpr q) nd
                  · rintro ⟨y, e, hw, _⟩
                    cases e
                    have q := hw.hd c0 (by rw [er]; rfl)
                    have nd : c0 ∉ DG.cps.toList := fun q' => by
                      have := (mem_dg c0).mp q'
                      have := q.1
                      omega
                    rw [decide_eq_false nd]
                    rfl
      · refine ⟨_, rfl, x, .ty "str", .type t, _, false, rfl, .ty _, ty, ?_, _, rfl, iteT (iteT (k.here ⟨fun y => Bool.noConfusion y, fun ⟨z, e, _⟩ => (st ⟨z, e⟩).elim⟩))⟩
        rcases ht with rfl | rfl | rfl | rfl | rfl
        · exact kit_ty (by decide +kernel)
        · exact kit_ty (by decide +kernel)
        · exact kit_ty (by decide +kernel)
        · exact (st (iff.mp rfl)).elim
        · exact kit_ty (by decide +kernel)
end
end K4

set_option Elab.async false
set_option linter.all false
set_option maxRecDepth 100000
set_option maxHeartbeats 4000000
namespace K4
open PySem L2 TL
abbrev sLSpoil : Stmt := top 31
section
variable {D : Ends} {σ : St} {H : Hp} {i : Nat} {c d : Int} {a rest : TS}
theorem skip_if (hi : σ[i]? = some (some (.int d))) (ne : d ≠ c) (h : rest D σ H) : tSeq (tIfS (tTest (tOp rEq (tVar i) (tC (.int c)))) a tNext) rest D σ H :=
  ⟨_, hi, rfl, _, rfl, itF (decide_eq_false fun z => ne (V.int.inj z)) h⟩
theorem take_if (hi : σ[i]? = some (some (.int d))) (e : d = c) (h : a { D with nx := rest D } σ H) : tSeq (tIfS (tTest (tOp rEq (tVar i) (tC (.int c)))) a tNext) rest D σ H :=
  ⟨_, hi, rfl, _, rfl, itT (decide_eq_true (congrArg V.int e)) h⟩
end
/-- an axis as the law spoils it: a thing and a list -/
def RowP (B : Nat) (G : Hp) (x : V) : Prop := ∃ a lb ms, Row G x [a, .ref lb] ∧ G lb = some (.lst ms) ∧ ms.length ≤ B ∧ Kb B 1 G a ∧ ∀ m ∈ ms, Kb B 0 G m
/-- axes as they are handed over -/
def Giv (B : Nat) (G : Hp) (v : V) : Prop := Kb B 3 G v ∧ ((∃ p xs, v = .ref p ∧ G p = some (.lst xs)) ∨ ¬ Pairs G v)
def spLSpoil : Sp := fun vs H Q _ => ∃ (l p : Addr) (xs : List V) (B : Nat), vs = [.ref l, .ref p] ∧ Strm H l ∧ 4 ≤ B ∧ B ≤ 50 ∧ del H l p = some (.lst xs) ∧ 1 ≤ xs.length ∧ xs.length ≤ B ∧ (∀ x ∈ xs, RowP B (del H l) x) ∧
  ∀ (v : V) (H' : Hp), But l H H' → Strm H' l → Giv (B + 1) (del H' l) v → Q v H'
/-- a row of the law's own: where it stands, what is in it -/
structure RD (B : Nat) (l : Addr) (H H' : Hp) (ri : Addr) (a : V) (mi : Addr) (ms : List V) : Prop where
  nr : H ri = none
  nm : H mi = none
  er : H' ri = some (.lst [a, .ref mi])
  em : H' mi = some (.lst ms)
  lm : ms.length ≤ B
  ka : Kb B 1 (del H l) a
  km : ∀ m ∈ ms, Kb B 0 (del H l) m
theorem kb_new {B n : Nat} {l q : Addr} {H : Hp} (h : Kb B n (del H l) (.ref q)) (nq : H q = none) : False := by
  have z : del H l q = none := by
    unfold del
    split
    · rfl
    · exact nq
  have go : ∀ xs, ¬ Row (del H l) (.ref q) xs := by
    rintro xs ⟨p, e, h | h⟩
    · cases e; rw [z] at h; cases h
    · cases e; rw [z] at h; cases h
  have no : ¬ NoRow (del H l) (.ref q) := by
    rintro (h | ⟨_, h⟩ | ⟨_, h⟩ | ⟨_, h⟩ | ⟨p, e, h⟩)
    · cases h
    · cases h
    · cases h
    · cases h
    · cases e; rw [z] at h; cases h
  cases n with
  | zero =>
    rcases h with ⟨xs, r, _⟩ | ⟨n, _⟩
    · exact go xs r
    · exact no n
  | succ n =>
    rcases h with ⟨xs, r, _⟩ | ⟨n, _⟩
    · exact go xs r
    · exact no n
theorem RD.ne {B : Nat} {l : Addr} {H H' : Hp} {ri mi rj mj : Addr} {a b : V} {ms ns : List V} (h : RD B l H H' ri a mi ms) (k : RD B l H H' rj b mj ns) : mj ≠ ri := fun z => by
  have e := k.em
  rw [z, h.er] at e
  have e2 : [a, V.ref mi] = ns := by
    have := Option.some.inj e
    cases this
    rfl
  exact kb_new (k.km (.ref mi) (by rw [← e2]; exact List.mem_cons_of_mem _ List.mem_cons_self)) h.nm
theorem RD.but {B : Nat} {l : Addr} {H H' H'' : Hp} {ri mi : Addr} {a : V} {ms : List V} (h : RD B l H H' ri a mi ms) (st : Strm H l) (b : But l H' H'') : RD B l H H'' ri a mi ms :=
  ⟨h.nr, h.nm, b _ _ (st.ne h.nr) h.er, b _ _ (st.ne h.nm) h.em, h.lm, h.ka, h.km⟩
theorem kb_lst {B n : Nat} {G : Hp} {p : Addr} {xs : List V} (e : G p = some (.lst xs)) (h : xs.length ≤ B) (k : ∀ x ∈ xs, Kb B n G x) : Kb B (n + 1) G (.ref p) := .inl ⟨xs, ⟨p, rfl, .inl e⟩, h, k⟩
theorem kb_old {B n : Nat} {l : Addr} {H H' : Hp} {v : V} (b : But l H H') (h : Kb B n (del H l) v) : Kb (B + 1) n (del H' l) v := (h.same b.del).mono (Nat.le_succ _)
theorem RD.kb {B : Nat} {l : Addr} {H H' : Hp} {ri mi : Addr} {a : V} {ms : List V} (h : RD B l H H' ri a mi ms) (hb : 4 ≤ B) (st : Strm H l) (b : But l H H') : Kb (B + 1) 2 (del H' l) (.ref ri) := by
  refine kb_lst (at_del h.er (st.ne h.nr)) (show 2 ≤ B + 1 by omega) fun x hx => ?_
  rcases List.mem_cons.mp hx with rfl | hx
  · exact kb_old b h.ka
  · rw [List.mem_singleton.mp hx]
    exact kb_lst (at_del h.em (st.ne h.nm)) (Nat.le_succ_of_le h.lm) fun m hm => kb_old b (h.km m hm)
/-- two things in a list -/
theorem kb_two {B n : Nat} {G : Hp} {p : Addr} {a b : V} (hb : 4 ≤ B) (e : G p = some (.lst [a, b])) (ka : Kb B n G a) (kb : Kb B n G b) : Kb B (n + 1) G (.ref p) :=
  kb_lst e (show 2 ≤ B by omega) fun x hx => by
    rcases List.mem_cons.mp hx with rfl | hx
    · exact ka
    · rw [List.mem_singleton.mp hx]
      exact kb
theorem giv_lst {B : Nat} {G : Hp} {p : Addr} {xs : List V} (e : G p = some (.lst xs)) (h : xs.length ≤ B) (k : ∀ x ∈ xs, Kb B 2 G x) : Giv B G (.ref p) := ⟨kb_lst e h k, .inl ⟨p, xs, rfl, e⟩⟩
theorem RD.upd {B : Nat} {l D : Addr} {H H' : Hp} {ri mi : Addr} {a : V} {ms : List V} {o : HO} (h : RD B l H H' ri a mi ms) (n1 : ri ≠ D) (n2 : mi ≠ D) : RD B l H (upd H' D o) ri a mi ms :=
  ⟨h.nr, h.nm, by rw [upd_ne n1]; exact h.er, by rw [upd_ne n2]; exact h.em, h.lm, h.ka, h.km⟩
/-- the rows when one of them has changed -/
theorem kb_mod_r {B : Nat} {l : Addr} {H H' : Hp} {ri mi : Addr} {a x y : V} {ms : List V} (hb : 4 ≤ B) (st : Strm H l) (b : But l H H') (h : RD B l H H' ri a mi ms) (kx : Kb (B + 1) 1 (del (upd H' ri (.lst [x, y])) l) x)
    (ky : Kb (B + 1) 1 (del (upd H' ri (.lst [x, y])) l) y) {rj mj : Addr} {c : V} {ns : List V} (k : RD B l H H' rj c mj ns) : Kb (B + 1) 2 (del (upd H' ri (.lst [x, y])) l) (.ref rj) := by
  by_cases e : rj = ri
  · rw [e]
    exact kb_two (show 4 ≤ B + 1 by omega) (at_del upd_same (st.ne h.nr)) kx ky
  · refine kb_two (show 4 ≤ B + 1 by omega) (at_del (by rw [upd_ne e]; exact k.er) (st.ne k.nr)) (kb_old (but_upd b h.nr) k.ka) ?_
    exact kb_lst (at_del (by rw [upd_ne (RD.ne h k)]; exact k.em) (st.ne k.nm)) (Nat.le_succ_of_le k.lm) fun m hm => kb_old (but_upd b h.nr) (k.km m hm)
/-- the rows when the list within one of them has changed -/
theorem kb_mod_m {B : Nat} {l : Addr} {H H' : Hp} {ri mi : Addr} {a : V} {ms ls : List V} (hb : 4 ≤ B) (st : Strm H l) (b : But l H H') (h : RD B l H H' ri a mi ms) (ll : ls.length ≤ B + 1) (kl : ∀ x ∈ ls, Kb (B + 1) 0 (del (upd H' mi (.lst ls)) l) x)
    {rj mj : Addr} {c : V} {ns : List V} (k : RD B l H H' rj c mj ns) : Kb (B + 1) 2 (del (upd H' mi (.lst ls)) l) (.ref rj) := by
  have ne : rj ≠ mi := fun z => RD.ne k h z.symm
  refine kb_two (show 4 ≤ B + 1 by omega) (at_del (by rw [upd_ne ne]; exact k.er) (st.ne k.nr)) (kb_old (but_upd b h.nm) k.ka) ?_
  by_cases e : mj = mi
  · rw [e]
    exact kb_lst (at_del upd_same (st.ne h.nm)) ll kl
  · exact kb_lst (at_del (by rw [upd_ne e]; exact k.em) (st.ne k.nm)) (Nat.le_succ_of_le k.lm) fun m hm => kb_old (but_upd b h.nm) (k.km m hm)
abbrev rLstOf (K : PySem.W.Frag) : List V → Hp → VK → Prop := fun xs H Q => ∃ p ys, xs = [.ref p] ∧ (SqL K H p ys ∨ SqT K H p ys) ∧ ∀ l, H l = none → Q (.ref l) (upd H l (.lst ys))
section
variable {P : Program} {w : World} {K : PySem.W.Frag} {mg : Str → Option Value} {base : Heap} {C E B f g h : Addr} {fd gd hd : FuncData}
theorem scLSpoil : FnScope ["stream", "axes", "rows", "at", "kind", "axis"] ["stream", "axes"] (defScope sLSpoil) := ⟨rfl, rfl, rfl, by decide +kernel, rfl, by decide +kernel, by decide +kernel⟩
theorem ok_lspoil (F : FnP K "_law_spoiled" "_law_spoiled" sLSpoil [] f fd) (T : Txt K mg) (GD : GloOk P w K mg base CX0 1 "_law_draw" ["stream", "many"] spDraw) (GO : GloOk P w K mg base CX0 2 "_law_odd" ["stream"] spLOdd) : FnOk P w K mg base CX0 3 f fd ["stream", "axes"] spLSpoil := by
  obtain ⟨fD, fdD, GD, mD, kD, bD⟩ := GD
  obtain ⟨fO, fdO, GO, mO, kO, bO⟩ := GO
  refine F.ok scLSpoil (fun vs H Q X z => ?_) (fun cdv A outer s H vs Q X hr z => ?_)
  · obtain ⟨l, p, xs, B, rfl, _⟩ := z
    rfl
  · obtain ⟨l, p, xs, B, rfl, st, hb, hb2, ep, l1, lB, rp, k⟩ := z
    have hr1 : Room 1 _ := hr.mono (by decide)
    refine ⟨_, PSs.nox (pss_cons (ps_setLc (i := 2) (own := [("axis", 5)]) (g := gName 5) (tt := tYes) (by rfl) scLSpoil.nd rfl (by rfl) (by rfl) (pi_list (pv 1)) (blkOk_by (own := [("axis", 5)]) (N := ["stream", "axes", "rows", "at", "kind", "axis"]) (sc := defScope sLSpoil) (by decide +kernel)) (fun _ _ _ _ _ => pg_name (i := 5) scLSpoil.nd rfl (Or.inl rfl)) (fun _ _ _ _ _ => pts_nil)
        (fun _ _ _ _ _ => show PE _ _ (tLst (tCons (tOp (rIx K) (tVar 5) (tC (.int 0))) (tCons (tCB (rLstOf K) (tCons (tOp (rIx K) (tVar 5) (tC (.int 1))) tNil)) tNil))) from pe_lst (pa_cons (pe_ix ix_seq (pv 5) pe_int (fun _ _ => rfl)) (pa_cons (pe_callTy (show CallR _ (.type "list") (rLstOf K) from call_list_of) (by rfl) T.list (by decide +kernel) (pa_cons (pe_ix ix_seq (pv 5) pe_int (fun _ _ => rfl)) pa_nil)) pa_nil))))
      (pss_cons (ps_set (i := 3) scLSpoil.nd rfl (Or.inl rfl) (pe_call GD hr1 rfl mD kD bD .nil pass0 (pa_cons (pv 0) (pa_cons (pe_callB call_len_seq (by rfl) T.len PySem.boot_len (pa_cons (pv 2) pa_nil)) pa_nil))))
      (pss_cons (ps_set (i := 4) scLSpoil.nd rfl (Or.inl rfl) (pe_call GD hr1 rfl mD kD bD .nil pass0 (pa_cons (pv 0) (pa_cons pe_int pa_nil))))
      (pss_cons (ps_if (pt_cmpR op_eq (pv 4) pe_int (nomark _)) (pss_one (ps_expr (pe_bm PySem.F.plainAttrs_list PySem.F.slot_list_pop PySem.F.type_list_pop mt_popAt (pv 2) (pa_cons (pv 3) pa_nil)))) pss_nil)
      (pss_cons (ps_if (pt_cmpR op_eq (pv 4) pe_int (nomark _)) (pss_one (ps_expr (pe_bm PySem.F.plainAttrs_list PySem.F.slot_list_append PySem.F.type_list_append mt_append (pv 2) (pa_cons (pe_ix ix_list (pv 2) (pv 3) (fun _ _ => rfl)) pa_nil)))) pss_nil)
      (pss_cons (ps_if (pt_cmpR op_eq (pv 4) pe_int (nomark _)) (pss_one (ps_asg (pe_call GO hr rfl mO kO bO .nil pass0 (pa_cons (pv 0) pa_nil)) (pg_sub (pv 2) (pv 3) set_list))) pss_nil)
      (pss_cons (ps_if (pt_cmpR op_eq (pv 4) pe_int (nomark _)) (pss_one (ps_set (i := 2) scLSpoil.nd rfl (Or.inl rfl) (pe_slice sl_list (pe_op op_rep (pv 2) pe_int) po_none (po_some pe_int)))) pss_nil)
      (pss_cons (ps_if (pt_cmpR op_eq (pv 4) pe_int (nomark _)) (pss_one (ps_asg (pe_call GO hr rfl mO kO bO .nil pass0 (pa_cons (pv 0) pa_nil)) (pg_sub (pe_ix ix_list (pv 2) (pv 3) (fun _ _ => rfl)) pe_int set_list))) pss_nil)
      (pss_cons (ps_if (pt_cmpR op_eq (pv 4) pe_int (nomark _)) (pss_one (ps_asg (pe_call GO hr rfl mO kO bO .nil pass0 (pa_cons (pv 0) pa_nil)) (pg_sub (pe_ix ix_list (pv 2) (pv 3) (fun _ _ => rfl)) pe_int set_list))) pss_nil)
      (pss_cons (ps_if (pt_cmpR op_eq (pv 4) pe_int (nomark _)) (pss_one (ps_expr (pe_bm PySem.F.plainAttrs_list PySem.F.slot_list_insert PySem.F.type_list_insert mt_insert (pe_ix ix_list (pe_ix ix_list (pv 2) (pv 3) (fun _ _ => rfl)) pe_int (fun _ _ => rfl))
          (pa_cons (pe_call GD hr1 rfl mD kD bD .nil pass0 (pa_cons (pv 0) (pa_cons (pe_op op_add (pe_callB call_len_seq (by rfl) T.len PySem.boot_len (pa_cons (pe_ix ix_list (pe_ix ix_list (pv 2) (pv 3) (fun _ _ => rfl)) pe_int (fun _ _ => rfl)) pa_nil)) pe_int) pa_nil)))
            (pa_cons (pe_call GO hr rfl mO kO bO .nil pass0 (pa_cons (pv 0) pa_nil)) pa_nil))))) pss_nil)
      (pss_cons (ps_if (pt_cmpR op_eq (pv 4) pe_int (nomark _)) (pss_one (ps_asg (pe_op op_cat (pe_ix ix_list (pe_ix ix_list (pv 2) (pv 3) (fun _ _ => rfl)) pe_int (fun _ _ => rfl)) (pe_slice sl_list (pe_ix ix_list (pe_ix ix_list (pv 2) (pv 3) (fun _ _ => rfl)) pe_int (fun _ _ => rfl)) po_none (po_some pe_int)))
          (pg_sub (pe_ix ix_list (pv 2) (pv 3) (fun _ _ => rfl)) pe_int set_list))) pss_nil)
      (pss_cons (ps_if (pt_cmpR op_eq (pv 4) pe_int (nomark _)) (pss_one (ps_ret (pe_call GO hr rfl mO kO bO .nil pass0 (pa_cons (pv 0) pa_nil)))) pss_nil)
      (pss_one (ps_ret (pv 2))))))))))))))), ?_⟩
    have eph : H p = some (.lst xs) := del_sub _ _ ep
    have wk : Walk (Itl K p) xs.length (fun H' => Same H H') (YAt xs) := walk_list.mono (fun H' s => SqL.of (s _ _ eph)) fun _ _ _ _ _ _ y => y
    refine ⟨_, rfl, p, rfl, ⟨xs, SqL.of eph⟩, fun D nD => lc_it wk (fun j H' => Same H H' ∧ ∃ rs, H' D = some (.lst rs) ∧ rs.length = j ∧ ∀ r ∈ rs, ∃ ri a mi ms, r = V.ref ri ∧ ri ≠ D ∧ mi ≠ D ∧ RD B l H H' ri a mi ms)
      ⟨new nD, [], upd_same, rfl, fun _ h => by cases h⟩ (fun _ _ _ h => h.1) ?_ ?_⟩
    · rintro j v H1 H1' hj ⟨s1, rs, eD, lr, ar⟩ ⟨rfl, hv⟩
      obtain ⟨a, lb, ms, rw_, eb, lm, ka, km⟩ := rp v (List.mem_of_getElem? hv)
      have row1 := (rw_.same del_sub).same s1
      have eb1 : H1' lb = some (.lst ms) := s1 _ _ (del_sub _ _ eb)
      refine ⟨rfl, ?_⟩
      unfold tYes
      refine iteT ?_
      refine ⟨_, rfl, ix_row (j := 0) row1 rfl ⟨_, rfl, ix_row (j := 1) row1 rfl ⟨lb, ms, rfl, .inl (SqL.of eb1), fun mi nmi => ⟨(by show 2 ≤ sizeLine; decide), fun ri nri => ?_⟩⟩⟩⟩
      have t1 := new (o := .lst ms) nmi
      have t2 := new (o := .lst [a, V.ref mi]) nri
      have nDm : mi ≠ D := fun z => by rw [z, eD] at nmi; cases nmi
      have nDr : ri ≠ D := fun z => by rw [z, t1 _ _ eD] at nri; cases nri
      have nrm : mi ≠ ri := ne_of_none upd_same nri
      have s2 := s1.trans (t1.trans t2)
      refine ⟨rs, t2 _ _ (t1 _ _ eD), ?_, fun c o e => ?_, rs ++ [V.ref ri], upd_same, by rw [List.length_append, lr]; rfl, fun r hr => ?_⟩
      · rw [lr]
        exact Nat.lt_of_lt_of_le (show j < 1000 by omega) (by decide)
      · rw [upd_ne (ne_of_none e nD)]
        exact s2 _ _ e
      · rcases List.mem_append.mp hr with hr | hr
        · obtain ⟨rj, b, mj, ns, rfl, n1, n2, d⟩ := ar r hr
          exact ⟨rj, b, mj, ns, rfl, n1, n2, (d.but st (But.of (t1.trans t2))).upd n1 n2⟩
        · rw [List.mem_singleton.mp hr]
          refine ⟨ri, a, mi, ms, rfl, nDr, nDm, RD.upd ⟨s1.free (t1.free nri), s1.free nmi, upd_same, ?_, lm, ka, km⟩ nDr nDm⟩
          rw [upd_ne nrm]
          exact upd_same
    · rintro H1 ⟨s1, rs, eD, lr, ar⟩
      have nDl : D ≠ l := st.ne nD
      refine nx_ ?_
      refine sq ?_
      refine ⟨_, rfl, _, rfl, D, rs, rfl, .inl (SqL.of eD), l, _, rfl, st.same s1, by omega, sz_small (by omega), fun d H2 d0 d1 b2 s2 => ?_⟩
      refine nx_ ?_
      refine sq ?_
      refine ⟨_, rfl, l, 9, rfl, s2, by decide, by unfold Sz; decide +kernel, fun kd H3 k0 k1 b3 s3 => ?_⟩
      have b03 : But l H H3 := (But.of s1).trans (b2.trans b3)
      have eD3 : H3 D = some (.lst rs) := b3 _ _ nDl (b2 _ _ nDl eD)
      obtain ⟨n, rfl⟩ := Int.eq_ofNat_of_zero_le d0
      have hn : n < rs.length := by omega
      have all3 : ∀ r ∈ rs, ∃ ri a mi ms, r = V.ref ri ∧ ri ≠ D ∧ mi ≠ D ∧ RD B l H H3 ri a mi ms := fun r hr => by
        obtain ⟨ri, a, mi, ms, e, n1, n2, h⟩ := ar r hr
        exact ⟨ri, a, mi, ms, e, n1, n2, h.but st (b2.trans b3)⟩
      obtain ⟨ri, a, mi, ms, er, n1, n2, h⟩ := all3 rs[n] (List.getElem_mem hn)
      have hn? : rs[n]? = some (V.ref ri) := by rw [List.getElem?_eq_getElem hn, er]
      have atn : atI rs (n : Int) = some (V.ref ri) := atI_nat hn?
      have ixn : ixN rs.length (n : Int) = some n := by
        unfold ixN
        rw [if_pos (by omega), if_pos (by omega), Int.toNat_natCast]
      have sqn := (ixN_seq ixn).1
      have lrB : rs.length ≤ B := by omega
      -- the rows themselves are still good once other things stand at D
      have good : ∀ (H4 : Hp) (o : HO), But l H3 H4 → ∀ r ∈ rs, Kb (B + 1) 2 (del (upd H4 D o) l) r := fun H4 o b4 r hr => by
        obtain ⟨rj, b, mj, ns, rfl, m1, m2, k2⟩ := all3 r hr
        exact ((k2.but st b4).upd m1 m2).kb hb st (but_upd (b03.trans b4) nD)
      have szl : ∀ m : Nat, m ≤ 1000 → m < sizeLine := fun m hm => Nat.lt_of_le_of_lt hm (by decide)
      refine nx_ ?_
      have nine : kd = 0 ∨ kd = 1 ∨ kd = 2 ∨ kd = 3 ∨ kd = 4 ∨ kd = 5 ∨ kd = 6 ∨ kd = 7 ∨ kd = 8 := by omega
      rcases nine with rfl | rfl | rfl | rfl | rfl | rfl | rfl | rfl | rfl
      · refine take_if rfl rfl ?_
        refine ⟨_, rfl, .inl ⟨rfl, _, SqL.of eD3⟩, _, rfl, D, rs, (n : Int), n, _, rfl, rfl, eD3, by omega, by omega, sqn, hn?, ?_⟩
        refine skip_if rfl (by decide) (skip_if rfl (by decide) (skip_if rfl (by decide) (skip_if rfl (by decide) (skip_if rfl (by decide) (skip_if rfl (by decide) (skip_if rfl (by decide) (skip_if rfl (by decide) ?_)))))))
        refine ⟨_, rfl, k _ _ (but_upd b03 nD) (strm_upd s3 nDl) (giv_lst (at_del upd_same nDl) ?_ fun r hr => good H3 _ (fun _ _ _ e => e) r (List.mem_of_mem_eraseIdx hr))⟩
        rw [List.length_eraseIdx]
        split <;> omega
      · refine skip_if rfl (by decide) (take_if rfl rfl ?_)
        refine ⟨_, rfl, .inl ⟨rfl, _, SqL.of eD3⟩, _, rfl, _, rfl, D, _, (n : Int), _, rfl, rfl, SqL.of eD3, atn, D, rs, _, rfl, rfl, eD3, szl _ (by omega), ?_⟩
        refine skip_if rfl (by decide) (skip_if rfl (by decide) (skip_if rfl (by decide) (skip_if rfl (by decide) (skip_if rfl (by decide) (skip_if rfl (by decide) (skip_if rfl (by decide) ?_))))))
        refine ⟨_, rfl, k _ _ (but_upd b03 nD) (strm_upd s3 nDl) (giv_lst (at_del upd_same nDl) (by rw [List.length_append]; show rs.length + 1 ≤ _; omega) fun r hr => ?_)⟩
        rcases List.mem_append.mp hr with hr | hr
        · exact good H3 _ (fun _ _ _ e => e) r hr
        · rw [List.mem_singleton.mp hr]
          exact good H3 _ (fun _ _ _ e => e) _ (List.mem_of_getElem? hn?)
      · refine skip_if rfl (by decide) (skip_if rfl (by decide) (take_if rfl rfl ?_))
        refine ⟨_, rfl, l, rfl, s3, fun v H4 b4 s4 ov => ⟨_, rfl, _, rfl, D, rs, (n : Int), n, rfl, rfl, b4 _ _ nDl eD3, ixn, ?_⟩⟩
        refine skip_if rfl (by decide) (skip_if rfl (by decide) (skip_if rfl (by decide) (skip_if rfl (by decide) (skip_if rfl (by decide) (skip_if rfl (by decide) ?_)))))
        refine ⟨_, rfl, k _ _ (but_upd (b03.trans b4) nD) (strm_upd s4 nDl) (giv_lst (at_del upd_same nDl) (by rw [List.length_set]; omega) fun r hr => ?_)⟩
        rcases List.mem_or_eq_of_mem_set hr with hr | rfl
        · exact good H4 _ b4 r hr
        · refine (ov.at fun q o nq e => at_del ?_ (s3.ne nq)).kb (show 2 ≤ B + 1 by omega)
          rw [upd_ne fun z => by rw [z, eD3] at nq; cases nq]
          exact e
      · refine skip_if rfl (by decide) (skip_if rfl (by decide) (skip_if rfl (by decide) (take_if rfl rfl ?_)))
        refine ⟨_, rfl, D, 4, rs, rfl, rfl, eD3, by decide, by decide, Nat.le_of_lt (szl _ (by show rs.length * 4 ≤ 1000; omega)), fun q nq => ⟨4, rfl, q, _, rfl, SqL.of upd_same, fun p2 np => ?_⟩⟩
        have t4 := new (o := .lst (List.replicate (4 : Int).toNat rs).flatten) nq
        have np3 : H3 p2 = none := t4.free np
        refine skip_if rfl (by decide) (skip_if rfl (by decide) (skip_if rfl (by decide) (skip_if rfl (by decide) (skip_if rfl (by decide) ?_))))
        have s4 := s3.same t4
        have b4 : But l H3 _ := But.of t4
        have npH : H p2 = none := b03.free s3 np3
        refine ⟨_, rfl, k _ _ (but_upd (b03.trans b4) npH) (strm_upd s4 (s3.ne np3)) (giv_lst (at_del upd_same (s3.ne np3)) ?_ fun r hr => ?_)⟩
        · unfold cutV
          rw [List.length_take, HT.sIx_none, show (some (4 : Int)) = some ((4 : Nat) : Int) from rfl, HT.sIx_nat]
          omega
        · have hm : r ∈ rs := by
            unfold cutV at hr
            have h1 := List.mem_of_mem_drop (List.mem_of_mem_take hr)
            obtain ⟨l1, hl1, h2⟩ := List.mem_flatten.mp h1
            rw [List.eq_of_mem_replicate hl1] at h2
            exact h2
          obtain ⟨rj, c, mj, ns, rfl, _, _, k2⟩ := all3 r hm
          have k4 := k2.but st b4
          have e1 : rj ≠ p2 := ne_of_none (t4 _ _ k2.er) np
          have e2 : mj ≠ p2 := ne_of_none (t4 _ _ k2.em) np
          exact (k4.upd e1 e2).kb hb st (but_upd (b03.trans b4) npH)
      · refine skip_if rfl (by decide) (skip_if rfl (by decide) (skip_if rfl (by decide) (skip_if rfl (by decide) (take_if rfl rfl ?_))))
        refine ⟨_, rfl, l, rfl, s3, fun v H4 b4 s4 ov => ?_⟩
        have h4 := h.but st b4
        refine ⟨_, rfl, _, rfl, D, rs, (n : Int), _, rfl, rfl, SqL.of (b4 _ _ nDl eD3), atn, ri, [a, .ref mi], 0, 0, rfl, rfl, h4.er, rfl, ?_⟩
        refine skip_if rfl (by decide) (skip_if rfl (by decide) (skip_if rfl (by decide) (skip_if rfl (by decide) ?_)))
        have ne : D ≠ ri := fun z => n1 z.symm
        refine ⟨_, rfl, k _ _ (but_upd (b03.trans b4) h.nr) (strm_upd s4 (st.ne h.nr)) (giv_lst (at_del (by rw [upd_ne ne]; exact b4 _ _ nDl eD3) nDl) (by omega) fun r hr => ?_)⟩
        obtain ⟨rj, c, mj, ns, rfl, _, _, k2⟩ := all3 r hr
        refine kb_mod_r hb st (b03.trans b4) h4 ?_ ?_ (k2.but st b4)
        · refine (ov.at fun q o nq e => at_del ?_ (s3.ne nq)).kb (show 2 ≤ B + 1 by omega)
          rw [upd_ne fun z => by rw [z, h.er] at nq; cases nq]
          exact e
        · exact kb_lst (at_del (by rw [upd_ne (RD.ne h h)]; exact h4.em) (st.ne h.nm)) (Nat.le_succ_of_le h.lm) fun m hm => kb_old (but_upd (b03.trans b4) h.nr) (h.km m hm)
      · refine skip_if rfl (by decide) (skip_if rfl (by decide) (skip_if rfl (by decide) (skip_if rfl (by decide) (skip_if rfl (by decide) (take_if rfl rfl ?_)))))
        refine ⟨_, rfl, l, rfl, s3, fun v H4 b4 s4 ov => ?_⟩
        have h4 := h.but st b4
        refine ⟨_, rfl, _, rfl, D, rs, (n : Int), _, rfl, rfl, SqL.of (b4 _ _ nDl eD3), atn, ri, [a, .ref mi], 1, 1, rfl, rfl, h4.er, rfl, ?_⟩
        refine skip_if rfl (by decide) (skip_if rfl (by decide) (skip_if rfl (by decide) ?_))
        have ne : D ≠ ri := fun z => n1 z.symm
        refine ⟨_, rfl, k _ _ (but_upd (b03.trans b4) h.nr) (strm_upd s4 (st.ne h.nr)) (giv_lst (at_del (by rw [upd_ne ne]; exact b4 _ _ nDl eD3) nDl) (by omega) fun r hr => ?_)⟩
        obtain ⟨rj, c, mj, ns, rfl, _, _, k2⟩ := all3 r hr
        refine kb_mod_r (x := a) (y := v) hb st (b03.trans b4) h4 ?_ ?_ (k2.but st b4)
        · exact kb_old (but_upd (b03.trans b4) h.nr) h.ka
        · refine (ov.at fun q o nq e => at_del ?_ (s3.ne nq)).kb (show 2 ≤ B + 1 by omega)
          rw [upd_ne fun z => by rw [z, h.er] at nq; cases nq]
          exact e
      · refine skip_if rfl (by decide) (skip_if rfl (by decide) (skip_if rfl (by decide) (skip_if rfl (by decide) (skip_if rfl (by decide) (skip_if rfl (by decide) (take_if rfl rfl ?_))))))
        refine ⟨_, rfl, _, rfl, D, rs, (n : Int), _, rfl, rfl, SqL.of eD3, atn, ri, [a, .ref mi], _, .ref mi, rfl, rfl, SqL.of h.er, at_of (j := 1) rfl rfl, .inl ⟨rfl, ms, SqL.of h.em⟩, ?_⟩
        refine ⟨_, rfl, _, rfl, _, rfl, D, rs, (n : Int), _, rfl, rfl, SqL.of eD3, atn, ri, [a, .ref mi], _, .ref mi, rfl, rfl, SqL.of h.er, at_of (j := 1) rfl rfl, mi, ms, rfl, .inl (SqL.of h.em), _, _, rfl, rfl, l, _, rfl, s3, ?_, ?_, fun d5 H5 g0 g1 b5 s5 => ?_⟩
        · omega
        · exact sz_small (by have := h.lm; omega)
        refine ⟨_, rfl, l, rfl, s5, fun v H6 b6 s6 ov => ?_⟩
        have b36 := b5.trans b6
        have h6 := h.but st b36
        refine ⟨mi, ms, d5, v, rfl, rfl, h6.em, szl _ (by have := h.lm; omega), g0, by have := h.lm; omega, ?_⟩
        refine skip_if rfl (by decide) (skip_if rfl (by decide) ?_)
        have ne : D ≠ mi := fun z => n2 z.symm
        refine ⟨_, rfl, k _ _ (but_upd (b03.trans b36) h.nm) (strm_upd s6 (st.ne h.nm)) (giv_lst (at_del (by rw [upd_ne ne]; exact b36 _ _ nDl eD3) nDl) (by omega) fun r hr => ?_)⟩
        obtain ⟨rj, c, mj, ns, rfl, _, _, k2⟩ := all3 r hr
        refine kb_mod_m hb st (b03.trans b36) h6 ?_ (fun x hx => ?_) (k2.but st b36)
        · rw [List.length_append, List.length_append, List.length_take, List.length_drop]
          have := h.lm
          show min _ _ + 1 + _ ≤ _
          omega
        · rcases List.mem_append.mp hx with hx | hx
          · rcases List.mem_append.mp hx with hx | hx
            · exact kb_old (but_upd (b03.trans b36) h.nm) (h.km x (List.mem_of_mem_take hx))
            · rw [List.mem_singleton.mp hx]
              refine (ov.at fun q o nq e => at_del ?_ (s5.ne nq)).kb (show 2 ≤ B + 1 by omega)
              rw [upd_ne fun z => by rw [z, b5 _ _ (st.ne h.nm) h.em] at nq; cases nq]
              exact e
          · exact kb_old (but_upd (b03.trans b36) h.nm) (h.km x (List.mem_of_mem_drop hx))
      · refine skip_if rfl (by decide) (skip_if rfl (by decide) (skip_if rfl (by decide) (skip_if rfl (by decide) (skip_if rfl (by decide) (skip_if rfl (by decide) (skip_if rfl (by decide) (take_if rfl rfl ?_)))))))
        refine ⟨_, rfl, _, rfl, D, rs, (n : Int), _, rfl, rfl, SqL.of eD3, atn, ri, [a, .ref mi], _, .ref mi, rfl, rfl, SqL.of h.er, at_of (j := 1) rfl rfl, ?_⟩
        refine ⟨_, rfl, _, rfl, D, rs, (n : Int), _, rfl, rfl, SqL.of eD3, atn, ri, [a, .ref mi], _, .ref mi, rfl, rfl, SqL.of h.er, at_of (j := 1) rfl rfl, 1, rfl, mi, ms, rfl, SqL.of h.em, fun q nq => ?_⟩
        have t4 := new (o := .lst (cutV ms none (some 1))) nq
        have cl : (cutV ms none (some 1)).length ≤ 1 := by
          unfold cutV
          rw [List.length_take, HT.sIx_none, show (some (1 : Int)) = some ((1 : Nat) : Int) from rfl, HT.sIx_nat]
          omega
        refine ⟨mi, q, ms, _, rfl, rfl, t4 _ _ h.em, upd_same, Nat.le_of_lt (szl _ (by have := h.lm; omega)), fun p2 np => ?_⟩
        have t5 := t4.trans (new (o := .lst (ms ++ cutV ms none (some 1))) np)
        have b5 : But l H3 _ := But.of t5
        have s5 := s3.same t5
        have h5 := h.but st b5
        have np3 : H3 p2 = none := t4.free np
        have npH : H p2 = none := b03.free s3 np3
        refine ⟨_, rfl, _, rfl, D, rs, (n : Int), _, rfl, rfl, SqL.of (t5 _ _ eD3), atn, ri, [a, .ref mi], 1, 1, rfl, rfl, h5.er, rfl, ?_⟩
        refine skip_if rfl (by decide) ?_
        have ne : D ≠ ri := fun z => n1 z.symm
        refine ⟨_, rfl, k _ _ (but_upd (b03.trans b5) h.nr) (strm_upd s5 (st.ne h.nr)) (giv_lst (at_del (by rw [upd_ne ne]; exact t5 _ _ eD3) nDl) (by omega) fun r hr => ?_)⟩
        obtain ⟨rj, c, mj, ns, rfl, _, _, k2⟩ := all3 r hr
        have b' := but_upd (o := .lst [a, V.ref p2]) (b03.trans b5) h.nr
        refine kb_mod_r (x := a) (y := .ref p2) hb st (b03.trans b5) h5 ?_ ?_ (k2.but st b5)
        · exact kb_old b' h.ka
        · have nep : p2 ≠ ri := fun z => by rw [z, h.er] at np3; cases np3
          refine kb_lst (at_del (by rw [upd_ne nep]; exact upd_same) (s3.ne np3)) ?_ fun m hm => ?_
          · rw [List.length_append]
            have := h.lm
            omega
          · rcases List.mem_append.mp hm with hm | hm
            · exact kb_old b' (h.km m hm)
            · exact kb_old b' (h.km m (by unfold cutV at hm; exact List.mem_of_mem_drop (List.mem_of_mem_take hm)))
      · refine skip_if rfl (by decide) (skip_if rfl (by decide) (skip_if rfl (by decide) (skip_if rfl (by decide) (skip_if rfl (by decide) (skip_if rfl (by decide) (skip_if rfl (by decide) (skip_if rfl (by decide) (take_if rfl rfl ?_))))))))
        refine ⟨_, rfl, l, rfl, s3, fun v H4 b4 s4 ov => ?_⟩
        have od : OddV (del H4 l) v := ov.at fun q o nq e => at_del e (s3.ne nq)
        exact k v H4 (b03.trans b4) s4 ⟨od.kb (show 2 ≤ B + 1 by omega), .inr od.no⟩
end
end K4

set_option Elab.async false
set_option linter.all false
set_option maxRecDepth 100000
set_option maxHeartbeats 4000000
namespace K4
open PySem L2 TL
abbrev sLWrong : Stmt := top 34
theorem inV_strs (z : Str) : ∀ zs : List Str, inV (.str z) (zs.map V.str) = true ↔ z ∈ zs
  | [] => by
    constructor
    · intro h; cases h
    · intro h; cases h
  | y :: r => by
    have e : inV (.str z) ((y :: r).map V.str) = ((y == z) || inV (.str z) (r.map V.str)) := rfl
    rw [e, Bool.or_eq_true, inV_strs z r, beq_iff_eq, List.mem_cons]
    constructor
    · rintro (h | h)
      · exact .inl h.symm
      · exact .inr h
    · rintro (h | h)
      · exact .inl h.symm
      · exact .inr h
theorem cut_take (xs : List V) (k : Nat) : cutV xs none (some (k : Int)) = xs.take k := by
  unfold cutV
  rw [HT.sIx_none, HT.sIx_nat, List.drop_zero, Nat.sub_zero]
  by_cases h : k ≤ xs.length
  · rw [Nat.min_eq_left h]
  · rw [Nat.min_eq_right (by omega), List.take_length, List.take_of_length_le (by omega)]
/-- a row cut, be it a list or a tuple -/
abbrev rCut (K : PySem.W.Frag) : V → Option Int → Option Int → Hp → VK → Prop := fun x lo hi H Q => rSlL K x lo hi H Q ∨ rSlA K x lo hi H Q
theorem cut_row {K : PySem.W.Frag} {H : Hp} {v : V} {xs : List V} {k : Nat} {Q : VK} (r : Row H v xs) (h : ∀ q H', Same H H' → Row H' q (xs.take k) → Q q H') : rCut K v none (some (k : Int)) H Q := by
  obtain ⟨p, rfl, e | e⟩ := r
  · refine .inl ⟨p, xs, rfl, SqL.of e, fun q nq => h _ _ (new nq) ⟨q, rfl, .inl ?_⟩⟩
    rw [upd_same, cut_take]
  · refine .inr ⟨p, xs, rfl, SqT.of e, fun w => h _ _ (Same.refl _) ⟨p, rfl, .inr ?_⟩, fun _ q nq => h _ _ (new nq) ⟨q, rfl, .inr ?_⟩⟩
    · have w2 := w.2
      rw [HT.sIx_nat] at w2
      rw [List.take_of_length_le (by omega)]
      exact e
    · rw [upd_same, cut_take]
open Classical in
noncomputable def bitsN (p : Nat → Prop) (n : Nat) : List Bool := (List.range n).map fun v => decide (p v)
open Classical in
theorem bitsN_any (p : Nat → Prop) (n : Nat) : (bitsN p n).any id = true ↔ ∃ j, j < n ∧ p j := by
  unfold bitsN
  rw [List.any_map, List.any_eq_true]
  constructor
  · rintro ⟨v, hv, h⟩
    exact ⟨v, List.mem_range.mp hv, of_decide_eq_true h⟩
  · rintro ⟨v, hv, h⟩
    exact ⟨v, List.mem_range.mpr hv, decide_eq_true h⟩
open Classical in
/-- [p(k) for k in range(n)] -/
theorem lc_bitsN {p : Nat → Prop} {n : Nat} {te : TE} {i : Nat} {vs : List Nat} {σ : St} {H : Hp} {D : Addr} {Qd : Hp → Prop} (nD : H D = none) (len : n ≤ 1000) (hw : ∀ v : V, wipe ((wipe σ vs).set i (some v)) vs = wipe σ vs)
    (elem : ∀ j, j < n → ∀ H' (Q : VK), Same H H' → Ans (p j) H' Q → te ((wipe σ vs).set i (some (.int (0 + (j : Int))))) H' Q) (hd : ∀ H', Same H H' → H' D = some (.lst ((bitsN p n).map V.bl)) → Qd H') :
    ∃ W : Nat → Nat → Hp → Prop, (∃ m, W 0 m (upd H D (.lst []))) ∧ ∀ j m H', W j m H' → (((Itr 0 n).stop j H' ∧ Qd H') ∨ ((Itr 0 n).go j H' ∧ ∃ Nx : Hp → Prop, (∀ H', Nx H' → ∃ m', m' < m ∧ W (j + 1) m' H') ∧
      ∀ x H2, (Itr 0 n).yld j H' x H2 → gName i x (wipe σ vs) H2 fun σ2 H3 => wipe σ2 vs = wipe σ vs ∧ tYes σ2 H3 fun b H4 => if b = true then te σ2 H4 fun y H5 => ∃ acc, H5 D = some (.lst acc) ∧ acc.length < sizeLine ∧ Nx (upd H5 D (.lst (acc ++ [y]))) else Nx H4)) := by
  refine lc_it (walk_range (lo := 0) (n := n)) (fun j H' => Same H H' ∧ H' D = some (.lst (((bitsN p n).take j).map V.bl))) ⟨new nD, upd_same⟩ (fun _ _ _ _ => trivial) ?_ ?_
  · rintro j v H1 H2 hj ⟨s1, e1⟩ ⟨rfl, rfl⟩
    refine ⟨hw _, ?_⟩
    unfold tYes
    refine iteT (elem j hj _ _ s1 fun H3 s3 => ?_)
    have go : ∀ b : Bool, (b = true ↔ p j) → ∃ acc, H3 D = some (.lst acc) ∧ acc.length < sizeLine ∧ Same H (upd H3 D (.lst (acc ++ [V.bl b]))) ∧ (upd H3 D (.lst (acc ++ [V.bl b]))) D = some (.lst (((bitsN p n).take (j + 1)).map V.bl)) := fun b hb => by
      refine ⟨_, s3 _ _ e1, ?_, fun c o e => ?_, ?_⟩
      · rw [List.length_map, List.length_take]
        exact Nat.lt_of_lt_of_le (show _ < 1001 by omega) (show 1001 ≤ sizeLine by decide)
      · rw [upd_ne (ne_of_none e nD)]
        exact s3 _ _ (s1 _ _ e)
      · rw [upd_same, List.take_add_one, List.map_append]
        have e : (bitsN p n)[j]? = some b := by
          unfold bitsN
          rw [List.getElem?_map, List.getElem?_range hj]
          cases b with
          | true => exact congrArg some (decide_eq_true (hb.mp rfl))
          | false => exact congrArg some (decide_eq_false fun z => Bool.noConfusion (hb.mpr z))
        rw [e]
        rfl
    exact ⟨fun z => go true ⟨fun _ => z, fun _ => rfl⟩, fun z => go false ⟨fun y => Bool.noConfusion y, fun y => absurd y z⟩⟩
  · rintro H1 ⟨s1, e1⟩
    refine hd H1 s1 ?_
    rw [e1, List.take_of_length_le]
    unfold bitsN
    rw [List.length_map, List.length_range]
    exact Nat.le_refl _
/-- a list with a thing twice -/
theorem nodup_take {α : Type} (l : List α) : (∃ j, ∃ h : j < l.length, l[j] ∈ l.take j) ↔ ¬ l.Nodup := by
  constructor
  · rintro ⟨j, h, hm⟩ nd
    obtain ⟨i, hi, e⟩ := List.mem_iff_getElem.mp hm
    rw [List.length_take] at hi
    rw [List.getElem_take] at e
    exact List.pairwise_iff_getElem.mp nd i j (by omega) h (by omega) e
  · intro nn
    apply Classical.byContradiction
    intro no
    refine nn ?_
    refine List.pairwise_iff_getElem.mpr fun i j hi hj lt e => no ⟨j, hj, ?_⟩
    rw [← e]
    exact List.mem_iff_getElem.mpr ⟨i, by rw [List.length_take]; omega, List.getElem_take⟩
def spLWrong : Sp := fun vs H Q _ => ∃ x : V, vs = [x] ∧ Kn 3 H x ∧ ((∃ p xs, x = .ref p ∧ H p = some (.lst xs)) ∨ ¬ Pairs H x) ∧ ∀ (w : Str) (H' : Hp), Same H H' → (Wrong H x w ∨ (w = "" ∧ ∃ as, Right H x as)) → Q (.str w) H'
end K4

set_option Elab.async false
set_option linter.all false
set_option maxRecDepth 100000
set_option maxHeartbeats 4000000
namespace K4
open PySem L2 TL
theorem Pairs.iff {H H' : Hp} {v : V} (k : Kn 1 H v) (s : Same H H') : Pairs H' v ↔ Pairs H v := by
  constructor
  · rintro ⟨xs, r, l1, l3, al⟩
    rcases k.row with ⟨ys, r2, _⟩ | ⟨n, _⟩
    · obtain rfl := r.one (r2.same s)
      refine ⟨xs, r2, l1, l3, fun x hx => ?_⟩
      obtain ⟨a, b, rx⟩ := al x hx
      exact ⟨a, b, pair_back ((k.of_row r2).2 x hx) s rx⟩
    · exact (r.no (n.same s)).elim
  · rintro ⟨xs, r, l1, l3, al⟩
    exact ⟨xs, r.same s, l1, l3, fun x hx => by obtain ⟨a, b, rx⟩ := al x hx; exact ⟨a, b, rx.same s⟩⟩
theorem ix_row0 {K : PySem.W.Frag} {H : Hp} {v x : V} {xs : List V} {j : Nat} {Q : VK} (r : Row H v xs) (e : xs[j]? = some x) (k : Q x H) : rIx K v (.int (0 + (j : Int))) H Q := by
  rw [Int.zero_add]
  exact ix_row r e k
theorem cut_row0 {K : PySem.W.Frag} {H : Hp} {v : V} {xs : List V} {k : Nat} {Q : VK} (r : Row H v xs) (h : ∀ q H', Same H H' → Row H' q (xs.take k) → Q q H') : rCut K v none (some (0 + (k : Int))) H Q := by
  rw [Int.zero_add]
  exact cut_row r h
section
variable {K : PySem.W.Frag} {D : Ends} {σ : St} {H : Hp} {te t : TE} {r : List V → Hp → VK → Prop} {QB : Bool → Hp → Prop} {Q : VK} {g : TG} {tt : TT} {vs : List Nat} {v : V} {xs : List V}
theorem b_cb (h : te σ H fun x H1 => r [x] H1 (fun z H2 => ∃ k, z = .bl k ∧ QB k H2)) : tB (tCB r (tCons te tNil)) σ H QB := h
theorem tLc_rowx (h : ∀ Q' : VK, Q' v H → t σ H Q') (r : Row H v xs) (k : ∀ J, Walk J xs.length (fun H' => Same H H') (YAt xs) → tLc (fun _ H R => R J H) g tt te vs σ H Q) : tLc (iRow K t) g tt te vs σ H Q :=
  h _ (row_walk (R := fun J H1 => tLc (fun _ H R => R J H) g tt te vs σ H1 Q) r k)
end
theorem names_take {ps : List Pr} {i : Nat} {q : Pr} (h : ps[i]? = some q) (a : ∀ p ∈ ps.take i, IsName p.1) (n : IsName q.1) : ∀ p ∈ ps.take (i + 1), IsName p.1 := by
  rw [take_snoc h]
  intro p hp
  rcases List.mem_append.mp hp with hp | hp
  · exact a p hp
  · rw [List.mem_singleton.mp hp]
    exact n
theorem nodup_snoc {α : Type} {l : List α} {x : α} (h : l.Nodup) (n : x ∉ l) : (l ++ [x]).Nodup := by
  rw [List.nodup_append]
  refine ⟨h, by simp, fun a ha b hb => ?_⟩
  rw [List.mem_singleton.mp hb]
  exact fun z => n (by rw [← z]; exact ha)
section
variable {P : Program} {w : World} {K : PySem.W.Frag} {mg : Str → Option Value} {base : Heap} {C E B f g h : Addr} {fd gd hd : FuncData}
theorem scLWrong : FnScope ["axes", "axis", "k", "cells", "member"] ["axes"] (defScope sLWrong) := ⟨rfl, rfl, rfl, by decide +kernel, rfl, by decide +kernel, by decide +kernel⟩
theorem ok_lwrong (F : FnP K "_law_wrong" "_law_wrong" sLWrong [] f fd) (T : Txt K mg) (GR : GloOk P w K mg base CX0 1 "_law_is_row" ["thing", "least", "most"] spLIsRow) (GN : GloOk P w K mg base CX0 1 "_law_is_name" ["thing"] spLIsName) : FnOk P w K mg base CX0 2 f fd ["axes"] spLWrong := by
  obtain ⟨fR, fdR, GR, mR, kR, bR⟩ := GR
  obtain ⟨fN, fdN, GN, mN, kN, bN⟩ := GN
  refine F.ok scLWrong (fun vs H Q X z => ?_) (fun cdv A outer s H vs Q X hr z => ?_)
  · obtain ⟨x, rfl, _⟩ := z
    rfl
  · obtain ⟨x, rfl, kn, lst, k⟩ := z
    refine ⟨_, PSs.nox (pss_cons (ps_if (PW.pt (pw_or (pt_not (pt_val (pe_call GR hr rfl mR kR bR .nil pass0 (pa_cons (pv 0) (pa_cons pe_int (pa_cons pe_int pa_nil))))))
        (pw_or1 (pt_not (pt_val (pe_callB (cr_all rfl) (by rfl) T.all (by decide +kernel) (pa_cons
          (pe_lc (own := [("axis", 1)]) (g := gName 1) (tt := tYes) (by rfl) scLWrong.nd (pi_row (pv 0)) (blkOk_by (own := [("axis", 1)]) (N := ["axes", "axis", "k", "cells", "member"]) (sc := defScope sLWrong) (by decide +kernel)) (fun _ _ _ _ _ => pg_name (i := 1) scLWrong.nd rfl (Or.inl rfl)) (fun _ _ _ _ _ => pts_nil)
            (fun _ _ _ _ _ => show PE _ _ (tCall spLIsRow [] E0 (tCons (tVar 1) (tCons (tC (.int 2)) (tCons (tC (.int 2)) tNil)))) from pe_call GR hr rfl mR kR bR .nil pass0 (pa_cons (pv 1) (pa_cons pe_int (pa_cons pe_int pa_nil))))) pa_nil))))))) (pss_one (ps_ret pe_str)) pss_nil)
      (pss_cons (ps_for PassesOwn.never rfl (pi_range1 rfl T.range (pa_cons (pe_callB call_len_seq (by rfl) T.len PySem.boot_len (pa_cons (pv 0) pa_nil)) pa_nil)) (pg_name (i := 2) scLWrong.nd rfl (Or.inl rfl))
        (pss_one (ps_if (PW.pt (pw_or (pt_not (pt_val (pe_call GN hr rfl mN kN bN .nil pass0 (pa_cons (pe_ix ix_seq (pe_ix ix_seq (pv 0) (pv 2) (fun _ _ => rfl)) pe_int (fun _ _ => rfl)) pa_nil))))
          (pw_or1 (pt_cmpR op_in_seq (pe_ix ix_seq (pe_ix ix_seq (pv 0) (pv 2) (fun _ _ => rfl)) pe_int (fun _ _ => rfl))
            (pe_lc (own := [("axis", 1)]) (g := gName 1) (tt := tYes) (by rfl) scLWrong.nd (pi_list (pe_slice sl_list (pv 0) po_none (po_some (pv 2)))) (blkOk_by (own := [("axis", 1)]) (N := ["axes", "axis", "k", "cells", "member"]) (sc := defScope sLWrong) (by decide +kernel)) (fun _ _ _ _ _ => pg_name (i := 1) scLWrong.nd rfl (Or.inl rfl)) (fun _ _ _ _ _ => pts_nil)
              (fun _ _ _ _ _ => show PE _ _ (tOp (rIx K) (tVar 1) (tC (.int 0))) from pe_ix ix_seq (pv 1) pe_int (fun _ _ => rfl))) (by rfl))))) (pss_one (ps_ret pe_str)) pss_nil)))
      (pss_cons (ps_set (i := 3) scLWrong.nd rfl (Or.inl rfl) pe_int)
      (pss_cons (ps_for PassesOwn.never rfl (pi_row (pv 0)) (pg_name (i := 1) scLWrong.nd rfl (Or.inr rfl))
        (pss_cons (ps_if (PW.pt (pw_or (pt_not (pt_val (pe_call GR hr rfl mR kR bR .nil pass0 (pa_cons (pe_ix ix_seq (pv 1) pe_int (fun _ _ => rfl)) (pa_cons pe_int (pa_cons pe_int pa_nil))))))
          (pw_or1 (pt_not (pt_val (pe_callB (cr_all rfl) (by rfl) T.all (by decide +kernel) (pa_cons
            (pe_lc (own := [("member", 4)]) (g := gName 4) (tt := tYes) (by rfl) scLWrong.nd (pi_row (pe_ix ix_seq (pv 1) pe_int (fun _ _ => rfl))) (blkOk_by (own := [("member", 4)]) (N := ["axes", "axis", "k", "cells", "member"]) (sc := defScope sLWrong) (by decide +kernel)) (fun _ _ _ _ _ => pg_name (i := 4) scLWrong.nd rfl (Or.inl rfl)) (fun _ _ _ _ _ => pts_nil)
              (fun _ _ _ _ _ => show PE _ _ (tCall spLIsName [] E0 (tCons (tVar 4) tNil)) from pe_call GN hr rfl mN kN bN .nil pass0 (pa_cons (pv 4) pa_nil))) pa_nil))))))) (pss_one (ps_ret pe_str)) pss_nil)
        (pss_cons (ps_if (pt_val (pe_callB (cr_any rfl) (by rfl) T.any (by decide +kernel) (pa_cons
            (pe_lc (own := [("k", 2)]) (g := gName 2) (tt := tYes) (by rfl) scLWrong.nd (pi_range1 rfl T.range (pa_cons (pe_callB call_len_seq (by rfl) T.len PySem.boot_len (pa_cons (pe_ix ix_seq (pv 1) pe_int (fun _ _ => rfl)) pa_nil)) pa_nil))
              (blkOk_by (own := [("k", 2)]) (N := ["axes", "axis", "k", "cells", "member"]) (sc := defScope sLWrong) (by decide +kernel)) (fun _ _ _ _ _ => pg_name (i := 2) scLWrong.nd rfl (Or.inl rfl)) (fun _ _ _ _ _ => pts_nil)
              (fun _ _ _ _ _ => show PE _ _ (tOp (rIn K false) (tOp (rIx K) (tOp (rIx K) (tVar 1) (tC (.int 1))) (tVar 2)) (tSl (rCut K) (tOp (rIx K) (tVar 1) (tC (.int 1))) tNoPart (tPart (tVar 2)))) from
                pe_cmpR op_in_seq (pe_ix ix_seq (pe_ix ix_seq (pv 1) pe_int (fun _ _ => rfl)) (pv 2) (fun _ _ => rfl)) (pe_slice (sl_list.or sl_tupA) (pe_ix ix_seq (pv 1) pe_int (fun _ _ => rfl)) po_none (po_some (pv 2))) (by rfl))) pa_nil))) (pss_one (ps_ret pe_str)) pss_nil)
        (pss_one (ps_set (i := 3) scLWrong.nd rfl (Or.inl rfl) (pe_op op_mul (pv 3) (pe_callB call_len_seq (by rfl) T.len PySem.boot_len (pa_cons (pe_ix ix_seq (pv 1) pe_int (fun _ _ => rfl)) pa_nil))))))))
      (pss_one (ps_ret (pe_ix ix_list (pe_lst (pa_cons pe_str (pa_cons pe_str pa_nil))) (pe_callTy call_int1 (by rfl) T.int (by decide +kernel) (pa_cons (pe_cmpR op_gt (pv 3) pe_int (nomark _)) pa_nil)) (fun _ _ => rfl)))))))), ?_⟩
    refine ⟨_, rfl, x, 1, 3, rfl, kn.less.less.less, fun H1 s1 => ⟨fun ⟨xs, rx, l1, l3⟩ => ⟨_, rfl, iteF ?_⟩, fun nr => ⟨_, rfl, iteT (iteT (k "axes" H1 s1 (.inl (.inl ⟨rfl, fun ⟨xs, r, l1, l3, _⟩ => nr ⟨xs, r, by omega, by omega⟩⟩))))⟩⟩⟩
    have kx := (kn.of_row rx).2
    refine nb_cb ?_
    refine tLc_row (x := x) (xs := xs) rfl (rx.same s1) fun J wk D nD => ?_
    refine lc_bits (p := fun v => ∃ a b, Row H v [a, b]) wk nD (by omega) (fun _ => by rfl) (fun v hv H2 Q2 s2 a => ?_) fun H2 s2 e2 => ?_
    · have s12 := s1.trans s2
      refine ⟨_, rfl, v, 2, 2, rfl, (kx v hv).less.less.same s12, fun H3 s3 => ⟨fun ⟨ys, r, g1, g2⟩ => (a H3 s3).1 ?_, fun nr => (a H3 s3).2 fun ⟨c, d, r⟩ => nr ⟨_, r.same s12, by show (2 : Int) ≤ 2; omega, by show (2 : Int) ≤ 2; omega⟩⟩⟩
      match ys, r, g1, g2 with
      | [c, d], r, _, _ => exact ⟨c, d, pair_back (kx v hv).less.less s12 r⟩
      | [], _, g1, _ => exact absurd (show (2 : Int) ≤ 0 from g1) (by decide)
      | [_], _, g1, _ => exact absurd (show (2 : Int) ≤ 1 from g1) (by decide)
      | _ :: _ :: _ :: _, _, _, g2 => simp at g2; omega
    · have s12 := s1.trans s2
      refine ⟨D, _, rfl, SqL.of e2, _, rfl, ?_⟩
      by_cases pr : ∀ v ∈ xs, ∃ a b, Row H v [a, b]
      · refine itF (by rw [(bits_all _ _).mpr pr]; rfl) ?_
        have prs : Pairs H x := ⟨xs, rx, by omega, by omega, pr⟩
        obtain ⟨ps, po, fw⟩ := pairs_of prs
        obtain ⟨xs', rx', al, _, kp⟩ := pairs_kn kn po
        obtain rfl := rx.one rx'
        obtain ⟨px, zs, rfl, ex⟩ := lst.resolve_right (fun h => h prs)
        obtain rfl : xs = zs := rx.one ⟨px, rfl, .inl ex⟩
        have lx : xs.length = ps.length := al.1
        have f3 := fw.2
        have at_ : ∀ (j : Nat) (v : V), xs[j]? = some v → ∃ q, ps[j]? = some q ∧ q ∈ ps ∧ Row H v [q.1, q.2] := fun j v hv => by
          have lt := (List.getElem?_eq_some_iff.mp hv).1
          have l2 : j < ps.length := by omega
          exact ⟨ps[j], List.getElem?_eq_getElem l2, List.getElem_mem l2, al.2 j v _ hv (List.getElem?_eq_getElem l2)⟩
        refine nx_ ?_
        refine sq ?_
        refine ⟨_, rfl, px, xs, rfl, .inl (SqL.of (s12 _ _ ex)), _, rfl, by omega, by omega, ?_⟩
        refine for_range (lo := 0) (n := ((xs.length : Nat) : Int).toNat) (fun i σ H' => Same H H' ∧ ∃ v1 v2 v3 v4 : Option V, σ = [some (.ref px), v1, v2, v3, v4] ∧ (∀ q ∈ ps.take i, IsName q.1) ∧ ((ps.take i).map (·.1)).Nodup)
          ⟨s12, none, none, none, none, rfl, (fun q hq => by rw [List.take_zero] at hq; cases hq), by rw [List.take_zero]; exact List.nodup_nil⟩ ?_ ?_
        · rintro i σ H3 hi ⟨s3, v1, v2, v3, v4, rfl, an, nd⟩
          have hi2 : i < xs.length := by omega
          obtain ⟨q, hq, hm, rv⟩ := at_ i _ (List.getElem?_eq_getElem hi2)
          have li := (List.getElem?_eq_some_iff.mp hq).1
          refine ⟨_, rfl, _, rfl, ix_row0 (rx.same s3) (List.getElem?_eq_getElem hi2) (ix_row (j := 0) (rv.same s3) rfl ⟨_, rfl, (kp q hm).1.less.same s3, fun H4 s4 => ⟨fun nm => ⟨_, rfl, iteF ?_⟩, fun nn => ⟨_, rfl, iteT (iteT ?_)⟩⟩⟩)⟩
          · have s34 := s3.trans s4
            refine ⟨_, rfl, _, rfl, ix_row0 (rx.same s34) (List.getElem?_eq_getElem hi2) (ix_row (j := 0) (rv.same s34) rfl ?_)⟩
            refine ⟨_, rfl, _, rfl, _, rfl, px, xs, rfl, SqL.of (s34 _ _ ex), fun c nc => ?_⟩
            have ec : cutV xs none (some (0 + (i : Int))) = xs.take i := by
              rw [Int.zero_add, cut_take]
            have s5 := new (o := .lst (cutV xs none (some (0 + (i : Int))))) nc
            have ecp : (upd H4 c (.lst (cutV xs none (some (0 + (i : Int)))))) c = some (.lst (xs.take i)) := by rw [upd_same, ec]
            have s35 := s34.trans s5
            generalize upd H4 c (.lst (cutV xs none (some (0 + (i : Int))))) = H5 at s5 ecp s35 ⊢
            have wk : Walk (Itl K c) (xs.take i).length (fun H' => Same H5 H') (YAt (xs.take i)) := walk_list.mono (fun H' s => SqL.of (s _ _ ecp)) fun _ _ _ _ _ _ y => y
            have lti : (xs.take i).length = i := by rw [List.length_take]; omega
            refine ⟨c, rfl, ⟨_, SqL.of ecp⟩, fun D5 nD5 => ?_⟩
            refine lc_each (fun j us H' => us = ((ps.take i).take j).map (·.1) ∧ j ≤ i) wk nD5 (by omega) (fun _ => by rfl) ⟨by rw [List.take_zero]; rfl, Nat.zero_le _⟩ (fun j us H' h => ?_) (fun _ _ _ _ _ h => h) (fun _ _ _ _ _ _ h => h) (fun j v us hv H' Q' s' h k => ?_) (fun us H6 s6 e6 h => ?_)
            · rw [h.1, List.length_map, List.length_take, List.length_take]
              omega
            · have hj : j < i := by have := (List.getElem?_eq_some_iff.mp hv).1; omega
              rw [List.getElem?_take_of_lt hj] at hv
              obtain ⟨q2, hq2, _, r2⟩ := at_ j v hv
              refine ⟨_, rfl, ix_row (j := 0) (r2.same (s35.trans s')) rfl (k _ _ (Same.refl _) ⟨?_, hj⟩)⟩
              rw [take_snoc (a := q2) (by rw [List.getElem?_take_of_lt hj]; exact hq2), List.map_append, ← h.1]
              rfl
            · obtain ⟨eu, _⟩ := h
              rw [lti, List.take_of_length_le (by rw [List.length_take]; omega)] at eu
              subst eu
              obtain ⟨z, ez, hz⟩ := nm
              have anl : ∀ y ∈ (ps.take i).map (·.1), IsName y := fun y hy => by
                obtain ⟨q2, hq2, rfl⟩ := List.mem_map.mp hy
                exact an q2 hq2
              obtain ⟨ws, ew, _⟩ := names_strs anl
              rw [ew] at e6
              refine ⟨D5, _, rfl, .inl (SqL.of e6), by rw [ez]; rfl, flat_strs ws, _, rfl, ?_⟩
              have s36 := s35.trans s6
              by_cases cin : inV q.1 (ws.map V.str) = true
              · refine itT cin (k "name" H6 s36 (.inl (.inr ⟨ps, po, fw, .inl ⟨rfl, fun ok => ?_⟩⟩)))
                rw [ez] at cin
                have zm := (inV_strs z ws).mp cin
                have nd2 := ok.2
                have e2 : ps.map (·.1) = (ps.take i).map (·.1) ++ q.1 :: (ps.drop (i + 1)).map (·.1) := by
                  conv => lhs; rw [← List.take_append_drop i ps]
                  rw [List.map_append, List.drop_eq_getElem_cons li, List.map_cons]
                  rw [List.getElem?_eq_getElem li] at hq
                  rw [Option.some.inj hq]
                rw [e2] at nd2
                have d := (List.nodup_append.mp nd2).2.2 q.1 (by rw [ew, ez]; exact List.mem_map_of_mem zm) q.1 List.mem_cons_self
                exact d rfl
              · refine itF (eqF cin) ⟨s36, _, _, _, _, rfl, names_take hq an ⟨z, ez, hz⟩, ?_⟩
                rw [take_snoc hq, List.map_append]
                refine nodup_snoc nd fun hm => ?_
                have hm2 : q.1 ∈ (ps.take i).map (·.1) := hm
                rw [ew, ez] at hm2
                obtain ⟨y, hy, e⟩ := List.mem_map.mp hm2
                cases e
                rw [ez] at cin
                exact cin ((inV_strs z ws).mpr hy)
          · exact k "name" H4 (s3.trans s4) (.inl (.inr ⟨ps, po, fw, .inl ⟨rfl, fun ok => nn (ok.1 q hm)⟩⟩))
        · rintro σ H3 ⟨s3, v1, v2, v3, v4, rfl, an, nd⟩
          rw [List.take_of_length_le (by omega)] at an nd
          have nok : NameOk ps := ⟨an, nd⟩
          refine nx_ ?_
          refine sq ?_
          refine nx_ ?_
          refine sq ?_
          have lp : ps.length = xs.length := lx.symm
          refine for_row (x := .ref px) (xs := xs) rfl (rx.same s3) fun J wk => ?_
          refine for_it wk (fun j σ H' => Same H H' ∧ Same H3 H' ∧ ∃ (v1 v2 v4 : Option V) (as : List Ax), σ = [some (.ref px), v1, v2, some (.int ((cellsL as).length : Int)), v4] ∧ AsOf H (ps.take j) as ∧ MemOk H (ps.take j))
            ⟨s3, Same.refl _, v1, v2, v4, [], rfl, ⟨by rw [List.take_zero]; rfl, fun i p a h => by simp at h⟩, fun p hp => by rw [List.take_zero] at hp; cases hp⟩ (fun _ _ _ _ h => h.2.1) ?_ ?_
          · rintro j v σ H4 H4' hj ⟨s4, s34, v1, v2, v4, as, rfl, ao, mo⟩ ⟨rfl, hv⟩
            obtain ⟨q, hq, hm, rv⟩ := at_ j v hv
            have lj := (List.getElem?_eq_some_iff.mp hq).1
            have kq := (kp q hm).2
            have la : as.length = j := by rw [← ao.1, List.length_take]; omega
            have sm : Small as := ⟨by omega, fun a ha => by
              obtain ⟨i, hi, rfl⟩ := List.mem_iff_getElem.mp ha
              have l2 : i < (ps.take j).length := by rw [ao.1]; exact hi
              obtain ⟨ys, r2, _, _, _, l4⟩ := mo _ (List.getElem_mem l2)
              have e := r2.one (ao.2 i _ _ (List.getElem?_eq_getElem l2) (List.getElem?_eq_getElem hi)).2
              rw [e, List.length_map] at l4
              exact l4⟩
            have c64 : (cellsL as).length ≤ 64 := by
              have h := cells_le as sm as.length (Nat.le_refl _)
              rw [List.take_length] at h
              have : 4 ^ as.length ≤ 4 ^ 3 := Nat.pow_le_pow_right (by decide) (by omega)
              omega
            have bad : ¬ Mem H q.2 → ∀ H', Same H H' → Q (.str "members") H' := fun nm H' s' => k "members" H' s' (.inl (.inr ⟨ps, po, fw, .inr (.inl ⟨rfl, nok, fun h => nm (h q hm)⟩)⟩))
            refine ⟨_, rfl, ix_row (j := 1) (rv.same s4) rfl ⟨q.2, 1, 4, rfl, kq.less.same s4, fun H5 s5 => ⟨fun ⟨ms, rm, g1, g4⟩ => ⟨_, rfl, iteF ?_⟩, fun nr => ⟨_, rfl, iteT (iteT (bad ?_ H5 (s4.trans s5)))⟩⟩⟩⟩
            · have s45 := s4.trans s5
              obtain ⟨ms0, rm0, kms⟩ : ∃ ms0, Row H q.2 ms0 ∧ ∀ m ∈ ms0, Kn 0 H m := by
                rcases kq.row with ⟨ys, r2, _⟩ | ⟨n, _⟩
                · exact ⟨ys, r2, (kq.of_row r2).2⟩
                · exact (rm.no (n.same s4)).elim
              obtain rfl := (rm0.same s4).one rm
              refine nb_cb ?_
              refine tLc_rowx (v := q.2) (xs := ms0) (fun Q' q' => ⟨_, rfl, ix_row (j := 1) (rv.same s45) rfl q'⟩) (rm0.same s45) fun J wk D6 nD6 => ?_
              refine lc_bits (p := IsName) wk nD6 (by omega) (fun _ => by rfl) (fun m hm6 H6 Q6 s6 a => ?_) fun H6 s6 e6 => ?_
              · exact ⟨_, rfl, m, rfl, (kms m hm6).same (s45.trans s6), a⟩
              · have s46 := s45.trans s6
                refine ⟨D6, _, rfl, SqL.of e6, _, rfl, ?_⟩
                by_cases an6 : ∀ m ∈ ms0, IsName m
                · refine itF (by rw [(bits_all _ _).mpr an6]; rfl) ?_
                  obtain ⟨zs, ez, _⟩ := names_strs an6
                  refine nx_ ?_
                  refine sq ?_
                  refine if_ (b_cb ?_)
                  obtain ⟨pm, epm, hpm⟩ := (rm0.same s46).seq (K := K)
                  refine ⟨_, rfl, ix_row (j := 1) (rv.same s46) rfl ⟨pm, ms0, epm ▸ rfl, hpm, _, rfl, by omega, by omega, fun D7 nD7 => ?_⟩⟩
                  rw [Int.toNat_natCast]
                  refine lc_bitsN (p := fun j => ∃ h : j < ms0.length, ms0[j] ∈ ms0.take j) nD7 (by omega) (fun _ => by rfl) (fun i hi H7 Q7 s7 a => ?_) fun H7 s7 e7 => ?_
                  · have s47 := s46.trans s7
                    refine ⟨_, rfl, ix_row (j := 1) (rv.same s47) rfl ⟨_, rfl, ix_row0 (rm0.same s47) (List.getElem?_eq_getElem hi) ⟨_, rfl, ix_row (j := 1) (rv.same s47) rfl ⟨_, rfl, _, rfl, cut_row0 (rm0.same s47) fun c H8 s8 r8 => ?_⟩⟩⟩⟩
                    obtain ⟨pc, rfl, hpc⟩ := r8.seq (K := K)
                    have eg : ms0[i] = .str (zs[i]'(by rw [ez, List.length_map] at hi; exact hi)) := by
                      simp only [ez, List.getElem_map]
                    have et : ms0.take i = (zs.take i).map V.str := by rw [ez, List.map_take]
                    refine ⟨pc, _, rfl, hpc, by rw [eg]; rfl, by rw [et]; exact flat_strs _, ?_⟩
                    refine a.at s8 ?_
                    show inV _ _ = true ↔ _
                    rw [eg, et, inV_strs]
                    constructor
                    · intro h
                      exact ⟨hi, by rw [eg]; exact List.mem_map_of_mem h⟩
                    · rintro ⟨_, h⟩
                      rw [eg] at h
                      obtain ⟨y, hy, e⟩ := List.mem_map.mp h
                      cases e
                      exact hy
                  · have s47 := s46.trans s7
                    refine ⟨D7, _, rfl, SqL.of e7, _, rfl, ?_⟩
                    by_cases nd7 : ms0.Nodup
                    · refine itF ?_ ?_
                      · cases qq : (bitsN (fun j => ∃ h : j < ms0.length, ms0[j] ∈ ms0.take j) ms0.length).any id with
                        | false => rfl
                        | true =>
                          obtain ⟨j, _, h⟩ := (bitsN_any _ _).mp qq
                          exact ((nodup_take ms0).mp ⟨j, h⟩ nd7).elim
                      · refine nx_ ?_
                        have lm4 : ms0.length ≤ 4 := by omega
                        obtain ⟨pm, epm, hpm⟩ := (rm0.same s47).seq (K := K)
                        refine ⟨_, rfl, _, rfl, ix_row (j := 1) (rv.same s47) rfl ⟨pm, ms0, by rw [epm], hpm, _, _, rfl, rfl, .inl ⟨by omega, by omega⟩, ?_⟩⟩
                        obtain ⟨z, ezz, _⟩ := nok.1 q hm
                        have lz : zs.length = ms0.length := by rw [ez, List.length_map]
                        refine ⟨s47, (s34.trans s5).trans (s6.trans s7), some v, v2, v4, as ++ [(z, zs)], ?_, ⟨?_, fun i p a h1 h2 => ?_⟩, fun p hp => ?_⟩
                        · rw [cellsL_snoc, longer_len, lz]
                          show _ = _
                          rw [Int.natCast_mul]
                          rfl
                        · rw [take_snoc hq, List.length_append, List.length_append, ao.1]
                          rfl
                        · rw [take_snoc hq] at h1
                          by_cases lt : i < as.length
                          · rw [List.getElem?_append_left lt] at h2
                            rw [List.getElem?_append_left (by rw [ao.1]; exact lt)] at h1
                            exact ao.2 i p a h1 h2
                          · rw [List.getElem?_append_right (by omega)] at h2
                            rw [List.getElem?_append_right (by rw [ao.1]; omega), ao.1] at h1
                            cases e : i - as.length with
                            | zero =>
                              rw [e] at h1 h2
                              cases h1
                              cases h2
                              exact ⟨ezz, by rw [← ez]; exact rm0⟩
                            | succ n =>
                              rw [e] at h1
                              cases h1
                        · rw [take_snoc hq] at hp
                          rcases List.mem_append.mp hp with hp | hp
                          · exact mo p hp
                          · rw [List.mem_singleton.mp hp]
                            exact ⟨ms0, rm0, fun e => by rw [e] at g1; exact absurd (show (1 : Int) ≤ 0 from g1) (by decide), an6, nd7, lm4⟩
                    · refine itT ?_ (bad ?_ H7 s47)
                      · obtain ⟨j, h, hj⟩ := (nodup_take ms0).mpr nd7
                        exact (bitsN_any _ _).mpr ⟨j, h, h, hj⟩
                      · rintro ⟨ys, r2, _, _, nd2, _⟩
                        rw [← rm0.one r2] at nd2
                        exact nd7 nd2
                · refine itT ?_ (bad ?_ H6 s46)
                  · cases qq : (bits IsName ms0).all id with
                    | false => rfl
                    | true => exact (an6 ((bits_all _ _).mp qq)).elim
                  · rintro ⟨ys, r2, _, an2, _⟩
                    rw [← rm0.one r2] at an2
                    exact an6 an2
            · rintro ⟨ys, r2, ne, _, _, l4⟩
              have lp2 := List.length_pos_iff.mpr ne
              exact nr ⟨ys, r2.same s4, by omega, by omega⟩
          · rintro σ H4 ⟨s4, _, v1, v2, v4, as, rfl, ao, mo⟩
            rw [List.take_of_length_le (by omega)] at ao mo
            refine nx_ ?_
            refine ⟨(by show 2 ≤ sizeLine; decide), fun p np => ⟨_, rfl, _, _, rfl, rfl, .inr ⟨_, rfl, ?_⟩⟩⟩
            by_cases big : 8 < (cellsL as).length
            · rw [decide_eq_true (show (8 : Int) < ((cellsL as).length : Int) by omega)]
              exact ⟨p, _, _, V.str "cells", rfl, rfl, SqL.of upd_same, at_of (j := 1) rfl rfl, k "cells" _ (s4.trans (new np)) (.inl (.inr ⟨ps, po, fw, .inr (.inr ⟨as, rfl, nok, mo, ao, big⟩)⟩))⟩
            · rw [decide_eq_false (show ¬ (8 : Int) < ((cellsL as).length : Int) by omega)]
              exact ⟨p, _, _, V.str "", rfl, rfl, SqL.of upd_same, at_of (j := 0) rfl rfl, k "" _ (s4.trans (new np)) (.inr ⟨rfl, as, ps, po, fw, nok, mo, ao, by omega⟩)⟩
      · refine itT ?_ (k "axes" H2 s12 (.inl (.inl ⟨rfl, fun ⟨ys, r, _, _, h⟩ => pr (by rw [rx.one r]; exact h)⟩)))
        cases q : (bits (fun v => ∃ a b, Row H v [a, b]) xs).all id with
        | false => rfl
        | true => exact (pr ((bits_all _ _).mp q)).elim
end
end K4

set_option Elab.async false
set_option linter.all false
set_option maxRecDepth 100000
set_option maxHeartbeats 4000000
namespace K4
open PySem L2 TL
abbrev sLMade : Stmt := top 35
abbrev sLRight : Stmt := top 36
theorem PairsOf.same {H H' : Hp} {x : V} {ps : List Pr} (h : PairsOf H x ps) (s : Same H H') : PairsOf H' x ps := by
  obtain ⟨xs, r, a⟩ := h
  exact ⟨xs, r.same s, a.imp fun _ _ y => y.same s⟩
theorem AsOf.same {H H' : Hp} {ps : List Pr} {as : List Ax} (h : AsOf H ps as) (s : Same H H') : AsOf H' ps as := ⟨h.1, fun i p a h1 h2 => ⟨(h.2 i p a h1 h2).1, (h.2 i p a h1 h2).2.same s⟩⟩
theorem Mem.same {H H' : Hp} {v : V} (h : Mem H v) (s : Same H H') : Mem H' v := by
  obtain ⟨xs, r, m⟩ := h
  exact ⟨xs, r.same s, m⟩
theorem MemOk.same {H H' : Hp} {ps : List Pr} (h : MemOk H ps) (s : Same H H') : MemOk H' ps := fun p hp => Mem.same (h p hp) s
theorem Wrong.same {H H' : Hp} {x : V} {w : Str} (h : Wrong H x w) (k : Kn 3 H x) (s : Same H H') : Wrong H' x w := by
  rcases h with ⟨e, n⟩ | ⟨ps, po, fw, h⟩
  · exact .inl ⟨e, fun q => n ((Pairs.iff k.less.less s).mp q)⟩
  · obtain ⟨_, _, _, _, kp⟩ := pairs_kn k po
    refine .inr ⟨ps, PairsOf.same po s, fw, ?_⟩
    rcases h with h | ⟨e, h1, h2⟩ | ⟨as, e, h1, h2, h3, h4⟩
    · exact .inl h
    · exact .inr (.inl ⟨e, h1, fun m => h2 fun p hp => (Mem.iff (kp p hp).2.less s).mp (m p hp)⟩)
    · exact .inr (.inr ⟨as, e, h1, MemOk.same h2 s, AsOf.same h3 s, h4⟩)
theorem Right.same {H H' : Hp} {x : V} {as : List Ax} (h : Right H x as) (s : Same H H') : Right H' x as := by
  obtain ⟨ps, po, fw, h1, h2, h3, h4⟩ := h
  exact ⟨ps, PairsOf.same po s, fw, h1, MemOk.same h2 s, AsOf.same h3 s, h4⟩
theorem look_word {v : V} : ([(("word" : Str), v)] : List (Str × V)).lookup ("word" : Str) = some v := by simp [List.lookup]
theorem same_made {C : Addr} {H : Hp} {x dx : Addr} (nx : H x = none) (nd : H dx = none) : Same H (upd (upd H dx (.own x)) x (.ins C dx [])) := fun b o e => by
  rw [upd_ne (ne_of_none e nx), upd_ne (ne_of_none e nd)]
  exact e
def spLMade (K : PySem.W.Frag) (C : Addr) : Sp := fun vs H Q _ => ∃ x : V, vs = [x] ∧ Kn 3 H x ∧
  ((∃ w, Wrong H x w ∧ ∀ p H', Same H H' → H' p = some (.tup [.non, .str w, .bl true]) → Q (.ref p) H') ∨
   (∃ as, Right H x as ∧ ∀ p q H', Same H H' → GridAt C H' q as → H' p = some (.tup [.ref q, .str "", .bl true]) → Q (.ref p) H'))
def spLRight (C : Addr) : Sp := fun vs H Q _ => ∃ (g : Addr) (v : V) (us : List V) (as : List Ax), vs = [.ref g, v] ∧ GridAt C H g as ∧ Row H v us ∧ All2 (AxAt H) us as ∧ GoodAx as ∧ ∀ H', Same H H' → Q (.bl true) H'
section
variable {P : Program} {w : World} {K : PySem.W.Frag} {mg : Str → Option Value} {base : Heap} {C E B f g h : Addr} {fd gd hd : FuncData}
theorem scLMade : FnScope ["axes", "made", "refused", "below", "e"] ["axes"] (defScope sLMade) := ⟨rfl, rfl, rfl, by decide +kernel, rfl, by decide +kernel, by decide +kernel⟩
theorem ok_lmade (F : FnP K "_law_made" "_law_made" sLMade [] f fd) (T : Txt K mg) (G : GTxt K mg C E B) (GM : MkOk P w K mg base C (L2.CX P w) 6 ["self", "axes"] (spInit K C E)) : FnOk P w K mg base CX0 8 f fd ["axes"] (spLMade K C) := by
  obtain ⟨fM, fdM, GM, M, bM⟩ := GM
  refine F.ok scLMade (fun vs H Q X z => ?_) (fun cdv A outer s H vs Q X hr z => ?_)
  · obtain ⟨x, rfl, _⟩ := z
    rfl
  · obtain ⟨x, rfl, kn, z⟩ := z
    refine ⟨_, PSs.nox (pss_cons (ps_set (i := 1) scLMade.nd rfl (Or.inl rfl) pe_non)
      (pss_cons (ps_set (i := 2) scLMade.nd rfl (Or.inl rfl) pe_str)
      (pss_cons (ps_set (i := 3) scLMade.nd rfl (Or.inl rfl) pe_bl)
      (pss_cons (ps_try_as (i := 4) (tb := fun W => tAsg (tMakeS C (spInit K C E) [] (WE W) (tCons (tVar 0) tNil)) (gName 1))
          (ts := fun a cls d => tSeq (tAsg (tXf a cls d E "word" (tVar 4)) (gName 2)) (tAsg (tCB (fun xs H Q => cls = .ref E ∧ xs = [.ref a, .ref B] ∧ Q (.bl true) H) (tCons (tVar 4) (tCons (tC (.ref B)) tNil))) (gName 3)))
          (Wout := fun _ _ _ _ => False) rfl rfl scLMade.nd rfl rfl ⟨rfl, by decide, Or.inl G.mgE⟩ takes0
          (fun W pn xe tk _ => pss_one (ps_set (i := 1) scLMade.nd rfl (Or.inl rfl) (by exact (pe_makeS M GM hr rfl G.mgC bM .nil (fun σ => passAt tk σ) (by exact (pa_cons (pv 0) pa_nil))))))
          (fun a oe cls d pn hz hf => pss_cons (ps_set (i := 2) scLMade.nd rfl (Or.inl rfl) (by exact (pe_xf G.xf G.noW hz hf (pv 4))))
            (pss_one (ps_set (i := 3) scLMade.nd rfl (Or.inl rfl) (by exact (pe_callB (call_isUp hz G.neB G.up) (by rfl) T.isinst (by decide +kernel) (pa_cons (pv 4) (pa_cons (pe_glob (v := .ref B) (by rfl) G.mgB rfl) pa_nil))))))))
      (pss_one (ps_ret (pe_tup (pa_cons (pv 1) (pa_cons (pv 2) (pa_cons (pv 3) pa_nil)))))))))), ?_⟩
    refine ⟨_, rfl, fun q dx nq nd nex => ⟨q, dx, x, rfl, upd_same, kn.same (same_made nq nd), ?_⟩⟩
    have nw : Same H (upd (upd H dx (.own q)) q (.ins C dx [])) := same_made nq nd
    rcases z with ⟨wd, wr, k⟩ | ⟨as, ri, k⟩
    · refine .inl ⟨wd, Wrong.same wr kn nw, ?_⟩
      intro d H2 s2 hd
      have s02 : Same H H2 := fun a o e => s2 a o (ne_of_none e nq) (nw _ _ e)
      refine ⟨true, G.exm, fun _ a0 na => ?_, fun z => Bool.noConfusion z⟩
      refine ⟨_, rfl, rfl, rfl, d, _, _, rfl, hd, look_word, _, rfl, rfl, rfl, ?_⟩
      exact ⟨_, rfl, _, rfl, _, rfl, (by show 3 ≤ sizeLine; decide), fun p hp => k p _ (s02.trans (new hp)) upd_same⟩
    · refine .inr ⟨as, Right.same ri nw, fun H2 fr gr => ⟨rfl, ?_⟩⟩
      have s2 : Same H H2 := Same.made nq nd fun b o e ne => fr b o ne e
      exact ⟨_, rfl, _, rfl, _, rfl, (by show 3 ≤ sizeLine; decide), fun p hp => k p q _ (s2.trans (new hp)) (gr.same (new hp)) upd_same⟩
theorem eqv_self (as : List Ax) : PyData.eqv (axsD as) (axsD as) = true := (eqv_axs as as).mpr rfl
theorem scLRight : FnScope ["grid", "axes", "cells", "axis"] ["grid", "axes"] (defScope sLRight) := ⟨rfl, rfl, rfl, by decide +kernel, rfl, by decide +kernel, by decide +kernel⟩
theorem ok_lright (F : FnP K "_law_right" "_law_right" sLRight [] f fd) (T : Txt K mg) (G : GTxt K mg C E B) (GC : GloOk P w K mg base CX0 1 "_law_cells" ["axes"] spLCells) : FnOk P w K mg base CX0 2 f fd ["grid", "axes"] (spLRight C) := by
  obtain ⟨fC, fdC, GC, mC, kC, bC⟩ := GC
  refine F.ok scLRight (fun vs H Q X z => ?_) (fun cdv A outer s H vs Q X hr z => ?_)
  · obtain ⟨g, v, us, as, rfl, _⟩ := z
    rfl
  · obtain ⟨g, v, us, as, rfl, gr, rv, al, good, k⟩ := z
    refine ⟨_, PSs.nox (pss_cons (ps_set (i := 2) scLRight.nd rfl (Or.inl rfl) (pe_call GC hr rfl mC kC bC .nil pass0 (pa_cons (pv 1) pa_nil)))
      (pss_cons (ps_if (PW.pt (pw_or (pt_not (pt_val (pe_callB call_isi (by rfl) T.isinst (by decide +kernel) (pa_cons (pe_fld (pv 0) rfl) (pa_cons (pe_bltn (v := .ty "tuple") (by rfl) T.tuple (by decide +kernel) rfl) pa_nil)))))
        (pw_or1 (pt_cmpR (op_neD hr.units) (pe_fld (pv 0) rfl) (pe_callTy call_tuple_of (by rfl) T.tuple (by decide +kernel) (pa_cons
          (pe_lc (own := [("axis", 3)]) (g := gName 3) (tt := tYes) (by rfl) scLRight.nd (pi_row (pv 1)) (blkOk_by (own := [("axis", 3)]) (N := ["grid", "axes", "cells", "axis"]) (sc := defScope sLRight) (by decide +kernel)) (fun _ _ _ _ _ => pg_name (i := 3) scLRight.nd rfl (Or.inl rfl)) (fun _ _ _ _ _ => pts_nil)
            (fun _ _ _ _ _ => show PE _ _ (tTup (tCons (tOp (rIx K) (tVar 3) (tC (.int 0))) (tCons (tCB (rTup K) (tCons (tOp (rIx K) (tVar 3) (tC (.int 1))) tNil)) tNil))) from
              pe_tup (pa_cons (pe_ix ix_seq (pv 3) pe_int (fun _ _ => rfl)) (pa_cons (pe_callTy (show CallR _ (.type "tuple") (rTup K) from call_tuple_of) (by rfl) T.tuple (by decide +kernel) (pa_cons (pe_ix ix_seq (pv 3) pe_int (fun _ _ => rfl)) pa_nil)) pa_nil)))) pa_nil)) (nomark _))))) (pss_one (ps_ret pe_bl)) pss_nil)
      (pss_cons (ps_if (PW.pt (pw_or (pt_not (pt_val (pe_callB call_isi (by rfl) T.isinst (by decide +kernel) (pa_cons (pe_fld (pv 0) rfl) (pa_cons (pe_bltn (v := .ty "tuple") (by rfl) T.tuple (by decide +kernel) rfl) pa_nil)))))
        (pw_or1 (pt_cmpR (op_neD hr.units) (pe_fld (pv 0) rfl) (pe_callTy call_tuple_of (by rfl) T.tuple (by decide +kernel) (pa_cons (pv 2) pa_nil)) (nomark _))))) (pss_one (ps_ret pe_bl)) pss_nil)
      (pss_one (ps_ret (pe_and (pe_callB call_isi (by rfl) T.isinst (by decide +kernel) (pa_cons (pe_fld (pv 0) rfl) (pa_cons (pe_bltn (v := .ty "int") (by rfl) T.int (by decide +kernel) rfl) pa_nil)))
        (pe_one (pe_cmpR op_eq (pe_fld (pv 0) rfl) (pe_callB call_len_seq (by rfl) T.len PySem.boot_len (pa_cons (pv 2) pa_nil)) (nomark _))))))))), ?_⟩
    refine ⟨_, rfl, v, us, as, rfl, rv, al, good.small, fun cp ws H1 s1 nc ec alc => ?_⟩
    obtain ⟨dx, va, vc, eg, ax, cc⟩ := gr
    have ax1 := ax.same s1
    have cc1 := cc.same s1
    obtain ⟨pa, avs, rfl, ha, ala⟩ := id ax1
    obtain ⟨pc, cvs, rfl, hc, alcc⟩ := id cc1
    refine nx_ ?_
    refine sq ?_
    refine ⟨_, rfl, g, C, dx, _, _, rfl, s1 _ _ eg, G.cl, G.nA, flds_axes _ _ _, _, .ty "tuple", .type "tuple", _, true, rfl, .ty _, .base (.tup ha), kit_ty (by decide +kernel), _, rfl, iteF ?_⟩
    refine ⟨_, rfl, g, C, dx, _, _, rfl, s1 _ _ eg, G.cl, G.nA, flds_axes _ _ _, ?_⟩
    refine cb_one ?_
    refine tLc_row (x := v) (xs := us) rfl (rv.same s1) fun J wk D nD => ?_
    refine lc_each (fun j ys H' => All2 (AxAt H') ys (as.take j) ∧ j ≤ as.length) wk nD (by have := good.hi; rw [al.1]; omega) (fun _ => by rfl) ⟨All2.nil, Nat.zero_le _⟩ (fun j ys H' h => ?_) (fun j ys H' H'' s' h => ⟨h.1.imp fun _ _ y => y.same s', h.2⟩) (fun j ys H' old o e h => ⟨h.1.imp fun _ _ y => y.t (tsame_upd fun _ z => by rw [e] at z; cases z), h.2⟩) (fun j y ys hy H' Q' s' h k' => ?_) (fun ys H5 s5 e5 h => ?_)
    · rw [h.1.1, List.length_take, Nat.min_eq_left h.2]
    · have lt : j < as.length := by rw [← al.1]; exact (List.getElem?_eq_some_iff.mp hy).1
      have hja := List.getElem?_eq_getElem lt
      obtain ⟨aq, m, rfl, e1, e2⟩ := (al.2 j y _ hy hja).same (s1.trans s')
      have row : Row H' (.ref aq) [.str as[j].1, .ref m] := ⟨aq, rfl, .inr e1⟩
      refine ⟨_, rfl, ix_row (j := 0) row rfl ⟨_, rfl, ix_row (j := 1) row rfl ⟨m, _, rfl, .inr ⟨SqT.of e2, (by show 2 ≤ sizeLine; decide), fun r nr => ?_⟩⟩⟩⟩
      refine k' _ _ (new nr) ⟨?_, lt⟩
      rw [take_snoc hja]
      exact All2.snoc (h.1.imp fun _ _ y => y.same (new nr)) ⟨r, m, rfl, upd_same, new nr _ _ e2⟩
    · obtain ⟨h, _⟩ := h
      rw [take_all al.1] at h
      refine ⟨D, ys, rfl, .inl ⟨SqL.of e5, fun r nr => ?_⟩⟩
      have s6 := s5.trans (new (o := .tup ys) nr)
      have s16 := s1.trans s6
      refine ⟨_, _, dp_axs (ax1.same s6), dp_axs ⟨r, ys, rfl, upd_same, h.imp fun _ _ y => y.same (new nr)⟩, shaped_axs good.ok, shaped_axs good.ok, _, rfl, itF (by rw [eqv_self]; rfl) ?_⟩
      refine nx_ ?_
      refine sq ?_
      refine ⟨_, rfl, g, C, dx, _, _, rfl, s16 _ _ eg, G.cl, G.nC, flds_cells _ _ _, _, .ty "tuple", .type "tuple", _, true, rfl, .ty _, .base (.tup (s6 _ _ hc)), kit_ty (by decide +kernel), _, rfl, iteF ?_⟩
      have ec6 := s6 _ _ ec
      refine ⟨_, rfl, g, C, dx, _, _, rfl, s16 _ _ eg, G.cl, G.nC, flds_cells _ _ _, _, rfl, cp, ws, rfl, .inl ⟨SqL.of ec6, fun r2 nr2 => ?_⟩⟩
      have s7 := s6.trans (new (o := .tup ws) nr2)
      have nm := shaped_cells (cells_names good.ok)
      refine ⟨_, _, dp_cells (cc1.same s7), dp_cells ⟨r2, ws, rfl, upd_same, alc.imp fun _ _ y => y.same s7⟩, nm, nm, _, rfl, itF (by rw [(eqv_cells _ _).mpr rfl]; rfl) ?_⟩
      have s17 := s1.trans s7
      refine nx_ ?_
      refine ⟨_, rfl, g, C, dx, _, _, rfl, s17 _ _ eg, G.cl, G.nS, flds_size _ _ _, _, .ty "int", .type "int", _, true, rfl, .ty _, .base (.int _), kit_ty (by decide +kernel), true, rfl, iteT ?_⟩
      refine ⟨_, rfl, g, C, dx, _, _, rfl, s17 _ _ eg, G.cl, G.nS, flds_size _ _ _, _, rfl, cp, ws, rfl, .inl (SqL.of (s7 _ _ ec)), rfl, ?_⟩
      rw [dec_vi, decide_eq_true (show ((cellsL as).length : Int) = (ws.length : Int) by rw [alc.1])]
      exact k _ s17
end
end K4

set_option Elab.async false
set_option linter.all false
set_option maxRecDepth 100000
set_option maxHeartbeats 4000000
namespace K4
open PySem L2 TL
abbrev sLaw : Stmt := top 37
def spLaw (K : PySem.W.Frag) : Sp := fun vs H Q _ => ∃ (a : Addr) (ns : List Int), vs = [.ref a] ∧ SqL K H a (ns.map V.int) ∧ ns.length ≤ 63 ∧ ∀ H', Q (.bl true) H'
theorem Wrong.one {H : Hp} {x : V} {w u : Str} (h : Wrong H x w) (k : Wrong H x u) : w = u := by
  rcases h with ⟨rfl, n⟩ | ⟨ps, po, fw, h⟩
  · rcases k with ⟨rfl, _⟩ | ⟨qs, qo, fq, _⟩
    · rfl
    · exact (n (of_pairs qo fq)).elim
  · rcases k with ⟨rfl, n⟩ | ⟨qs, qo, fq, k⟩
    · exact (n (of_pairs po fw)).elim
    · obtain rfl := pairs_one po qo
      rcases h with ⟨rfl, h⟩ | ⟨rfl, h1, h2⟩ | ⟨as, rfl, h1, h2, h3, h4⟩
      · rcases k with ⟨rfl, _⟩ | ⟨rfl, k1, _⟩ | ⟨bs, rfl, k1, _⟩
        · rfl
        · exact (h k1).elim
        · exact (h k1).elim
      · rcases k with ⟨rfl, k⟩ | ⟨rfl, _⟩ | ⟨bs, rfl, _, k2, _⟩
        · exact (k h1).elim
        · rfl
        · exact (h2 k2).elim
      · rcases k with ⟨rfl, k⟩ | ⟨rfl, _, k2⟩ | ⟨bs, rfl, _⟩
        · exact (k h1).elim
        · exact (k2 h2).elim
        · rfl
theorem Wrong.not {H : Hp} {x : V} {w : Str} {as : List Ax} (h : Wrong H x w) (k : Right H x as) : False := by
  obtain ⟨qs, qo, fq, k1, k2, k3, k4⟩ := k
  rcases h with ⟨_, n⟩ | ⟨ps, po, fw, h⟩
  · exact n (of_pairs qo fq)
  · obtain rfl := pairs_one po qo
    rcases h with ⟨_, h⟩ | ⟨_, _, h⟩ | ⟨bs, _, _, _, h3, h4⟩
    · exact h k1
    · exact h k2
    · obtain rfl := as_one h3 k3
      omega
theorem Wrong.ne {H : Hp} {x : V} {w : Str} (h : Wrong H x w) : w ≠ "" := by
  rcases h with ⟨rfl, _⟩ | ⟨ps, po, fw, ⟨rfl, _⟩ | ⟨rfl, _⟩ | ⟨as, rfl, _⟩⟩ <;> decide +kernel
theorem name_len {z : Str} (h : NameS z) : z.length ≤ 100 := by
  have := h.1.hi
  rw [len_tl]
  omega
/-- a row of axes is known three levels down -/
theorem axes_kn {H : Hp} {v : V} {us : List V} {as : List Ax} (r : Row H v us) (al : All2 (AxAt H) us as) (g : GoodAx as) : Kn 3 H v := by
  have hi := g.hi
  refine .inl ⟨us, r, by rw [al.1]; omega, fun u hu => ?_⟩
  obtain ⟨i, hi', rfl⟩ := List.mem_iff_getElem.mp hu
  have lt : i < as.length := by rw [← al.1]; exact hi'
  obtain ⟨q, m, e, h1, h2⟩ := al.2 i us[i] as[i] (List.getElem?_eq_getElem hi') (List.getElem?_eq_getElem lt)
  have ok := g.ok as[i] (List.getElem_mem lt)
  have str : ∀ (n : Nat) (z : Str), NameS z → Kn n H (.str z) := fun n z hz => by
    have k : NoRow H (.str z) ∧ ∀ y, V.str z = .str y → y.length ≤ 100 := ⟨.inr (.inr (.inr (.inl ⟨z, rfl⟩))), fun y e => by cases e; exact name_len hz⟩
    cases n with
    | zero => exact .inr k
    | succ n => exact .inr k
  rw [e]
  refine .inl ⟨_, ⟨q, rfl, .inr h1⟩, (by show 2 ≤ 100; decide), fun x hx => ?_⟩
  rcases List.mem_cons.mp hx with rfl | hx
  · exact str 1 _ ok.1
  · rw [List.mem_singleton.mp hx]
    refine .inl ⟨_, ⟨m, rfl, .inr h2⟩, by rw [List.length_map]; have := (g.ms as[i] (List.getElem_mem lt)).2.2; omega, fun y hy => ?_⟩
    obtain ⟨z, hz, rfl⟩ := List.mem_map.mp hy
    exact str 0 z (ok.2 z hz)
theorem axes_right {H : Hp} {v : V} {us : List V} {as : List Ax} (r : Row H v us) (al : All2 (AxAt H) us as) (g : GoodAx as) : Right H v as := good_right g r (al.imp fun _ _ h => h.row)
/-- the same in the other order -/
theorem all2_back {H : Hp} {us : List V} {as : List Ax} (al : All2 (AxAt H) us as) : All2 (AxAt H) us.reverse as.reverse := by
  refine ⟨by rw [List.length_reverse, List.length_reverse, al.1], fun i v a h1 h2 => ?_⟩
  have l1 := (List.getElem?_eq_some_iff.mp h1).1
  have l2 := (List.getElem?_eq_some_iff.mp h2).1
  rw [List.length_reverse] at l1 l2
  rw [List.getElem?_reverse l1] at h1
  rw [List.getElem?_reverse l2] at h2
  rw [al.1] at h1
  exact al.2 _ v a h1 h2
/-- a comprehension over a row, its new list told within -/
theorem lc_each2 {xs : List V} {J : It} {te : TE} {i : Nat} {vs : List Nat} {σ : St} {H : Hp} {D : Addr} {Qd : Hp → Prop} (G : Nat → List V → Hp → Prop) (wk : Walk J xs.length (fun H' => Same H H') (YAt xs)) (nD : H D = none) (len : xs.length ≤ 1000) (hw : ∀ v : V, wipe ((wipe σ vs).set i (some v)) vs = wipe σ vs)
    (g0 : G 0 [] (upd H D (.lst []))) (gl : ∀ j us H', G j us H' → us.length = j)
    (elem : ∀ j v us, xs[j]? = some v → ∀ H' (Q : VK), Same H H' → H' D = some (.lst us) → G j us H' → (∀ u H'', Same H' H'' → G (j + 1) (us ++ [u]) (upd H'' D (.lst (us ++ [u]))) → Q u H'') → te ((wipe σ vs).set i (some v)) H' Q) (hd : ∀ us H', Same H H' → H' D = some (.lst us) → G xs.length us H' → Qd H') :
    ∃ W : Nat → Nat → Hp → Prop, (∃ m, W 0 m (upd H D (.lst []))) ∧ ∀ j m H', W j m H' → ((J.stop j H' ∧ Qd H') ∨ (J.go j H' ∧ ∃ Nx : Hp → Prop, (∀ H', Nx H' → ∃ m', m' < m ∧ W (j + 1) m' H') ∧
      ∀ x H2, J.yld j H' x H2 → gName i x (wipe σ vs) H2 fun σ2 H3 => wipe σ2 vs = wipe σ vs ∧ tYes σ2 H3 fun b H4 => if b = true then te σ2 H4 fun y H5 => ∃ acc, H5 D = some (.lst acc) ∧ acc.length < sizeLine ∧ Nx (upd H5 D (.lst (acc ++ [y]))) else Nx H4)) := by
  refine lc_it wk (fun j H' => Same H H' ∧ ∃ us, H' D = some (.lst us) ∧ G j us H') ⟨new nD, [], upd_same, g0⟩ (fun _ _ _ h => h.1) ?_ ?_
  · rintro j v H1 H2 hj ⟨s1, us, e1, g1⟩ ⟨rfl, hv⟩
    refine ⟨hw v, ?_⟩
    unfold tYes
    refine iteT (elem j v us hv _ _ s1 e1 g1 fun u H3 s3 g3 => ⟨us, s3 _ _ e1, ?_, fun c o e => ?_, us ++ [u], upd_same, g3⟩)
    · rw [gl j us _ g1]
      exact Nat.lt_of_lt_of_le (show j < 1000 by omega) (by decide)
    · rw [upd_ne (ne_of_none e nD)]
      exact s3 _ _ (s1 _ _ e)
  · rintro H1 ⟨s1, us, e1, g1⟩
    exact hd us H1 s1 e1 g1
theorem asg_ {te : TE} {g : TG} {D : Ends} {σ : St} {H : Hp} (h : te σ H fun x H1 => g x σ H1 D.nx) : tAsg te g D σ H := h
theorem Giv.mono {B B' : Nat} {G : Hp} {v : V} (h : Giv B G v) (l : B ≤ B') : Giv B' G v := ⟨h.1.mono l, h.2⟩
theorem Giv.same {B : Nat} {G G' : Hp} {v : V} (h : Giv B G v) (hb : B ≤ 100) (s : Same G G') : Giv B G' v := by
  refine ⟨h.1.same s, ?_⟩
  rcases h.2 with ⟨p, xs, e, h1⟩ | h1
  · exact .inl ⟨p, xs, e, s _ _ h1⟩
  · exact .inr fun q => h1 ((Pairs.iff (h.1.kn hb).less.less s).mp q)
/-- what is handed over, as the law's own test sees it -/
def IsLG (G : Hp) (v : V) : Prop := ∃ x lb ms, Row G v [x, .ref lb] ∧ G lb = some (.lst ms)
theorem lg_rowp {B : Nat} {G : Hp} {v : V} (h : IsLG G v) (k : Kb B 2 G v) : RowP B G v := by
  obtain ⟨x, lb, ms, r, e⟩ := h
  have k1 := (k.of_row r).2
  have kb := (k1 (.ref lb) (List.mem_cons_of_mem _ List.mem_cons_self)).of_row ⟨lb, rfl, .inl e⟩
  exact ⟨x, lb, ms, r, e, kb.1, k1 x List.mem_cons_self, kb.2⟩
theorem mk_grid {K : PySem.W.Frag} {C E : Addr} {H : Hp} {v : V} {us : List V} {as : List Ax} {Qn : Hp → Prop} (r : Row H v us) (al : All2 (AxAt H) us as) (g : GoodAx as) {x dx : Addr} (nx : H x = none) (nd : H dx = none)
    (k : ∀ H', Same H H' → GridAt C H' x as → Qn H') : spInit K C E (.ref x :: ([v] ++ [])) (upd (upd H dx (.own x)) x (.ins C dx [])) (fun u H2 => u = .non ∧ Qn H2) E0 := by
  have sx : Same H (upd (upd H dx (.own x)) x (.ins C dx [])) := same_made nx nd
  have alx := al.imp fun _ _ y => y.same sx
  exact ⟨x, dx, v, rfl, upd_same, axes_kn (r.same sx) alx g, .inr ⟨as, axes_right (r.same sx) alx g, fun H' fr gr => ⟨rfl, k H' (Same.made nx nd fun b o e ne => fr b o ne e) gr⟩⟩⟩
theorem GridAt.upd {C : Addr} {H : Hp} {p q : Addr} {as : List Ax} {zs : List V} {o : HO} (h : GridAt C H p as) (e : H q = some (.lst zs)) : GridAt C (upd H q o) p as := by
  obtain ⟨dx, va, vc, eg, a, c⟩ := h
  have t := tsame_upd (H := H) (p := q) (o := o) (fun xs z => by rw [e] at z; cases z)
  exact ⟨dx, va, vc, by rw [upd_ne fun z => by rw [z, e] at eg; cases eg]; exact eg, a.t t, c.t t⟩
/-- what of the axes stands while lists grow -/
def MI (n : Nat) (H : Hp) (xs : List V) : Prop := ∀ x ∈ xs, ∃ a b, Row H x [a, b] ∧ ((∃ (lb : Addr) (zs : List Str), b = .ref lb ∧ H lb = some (.lst (zs.map V.str)) ∧ zs.length ≤ n) ∨ (∃ (tb : Addr) (ts : List V), b = .ref tb ∧ H tb = some (.tup ts)))
theorem mi_row {n : Nat} {H : Hp} {xs : List V} (h : MI n H xs) {x : V} (hx : x ∈ xs) : ∃ p, x = .ref p := by
  obtain ⟨a, b, ⟨p, e, _⟩, _⟩ := h x hx
  exact ⟨p, e⟩
theorem strs_no {zs : List Str} {p : Addr} (h : V.ref p ∈ zs.map V.str) : False := by
  obtain ⟨z, _, e⟩ := List.mem_map.mp h
  cases e
theorem MI.grow {n : Nat} {H : Hp} {xs : List V} {lb : Addr} {zs : List Str} {z : Str} (h : MI n H xs) (e : H lb = some (.lst (zs.map V.str))) (lz : zs.length ≤ n) : MI (n + 1) (upd H lb (.lst (zs.map V.str ++ [V.str z]))) xs := by
  intro x hx
  obtain ⟨a, b, ⟨p, rfl, r⟩, k⟩ := h x hx
  have nb : ∃ q, b = .ref q := by
    rcases k with ⟨q, _, e, _⟩ | ⟨q, _, e, _⟩
    · exact ⟨q, e⟩
    · exact ⟨q, e⟩
  have np : p ≠ lb := fun q => by
    obtain ⟨c, rfl⟩ := nb
    rw [q, e] at r
    rcases r with r | r
    · have r2 : zs.map V.str = [a, .ref c] := HO.lst.inj (Option.some.inj r)
      exact strs_no (by rw [r2]; exact List.mem_cons_of_mem _ List.mem_cons_self)
    · cases r
  refine ⟨a, b, ⟨p, rfl, by rw [upd_ne np]; exact r⟩, ?_⟩
  rcases k with ⟨q, ys, rfl, e2, l2⟩ | ⟨q, ts, rfl, e2⟩
  · by_cases c : q = lb
    · refine .inl ⟨q, zs ++ [z], rfl, by rw [c, upd_same, List.map_append]; rfl, ?_⟩
      rw [List.length_append]
      show zs.length + 1 ≤ n + 1
      omega
    · exact .inl ⟨q, ys, rfl, by rw [upd_ne c]; exact e2, by omega⟩
  · exact .inr ⟨q, ts, rfl, by rw [upd_ne fun c => by rw [c, e] at e2; cases e2]; exact e2⟩
section
variable {P : Program} {w : World} {K : PySem.W.Frag} {mg : Str → Option Value} {base : Heap} {C E B f g h : Addr} {fd gd hd : FuncData}
theorem scLaw : FnScope ["script", "stream", "axes", "axis", "given", "k", "made", "refused", "below", "wrong", "kept", "rows", "other"] ["script"] (defScope sLaw) := ⟨rfl, rfl, rfl, by decide +kernel, rfl, by decide +kernel, by decide +kernel⟩
abbrev NL : List Str := ["script", "stream", "axes", "axis", "given", "k", "made", "refused", "below", "wrong", "kept", "rows", "other"]
theorem ok_law (F : FnP K "law" "law" sLaw [] f fd) (T : Txt K mg) (G : GTxt K mg C E B) (hne : PySem.W.findIn K (.ref C) "__ne__" = some (some (.builtin "object.__ne__"))) (hnt : PySem.W.notFirst K C (.type "tuple") = true) (hkt : PySem.W.kitOne K (.type "tuple") (.ref C) = some false)
    (GM : MkOk P w K mg base C (L2.CX P w) 6 ["self", "axes"] (spInit K C E)) (GQ : MthOk P w K mg base C CX0 1 "__eq__" ["self", "other"] (spEq K C))
    (LS : GloOk P w K mg base CX0 1 "_law_stream" ["script", "k"] (spStream K)) (LD : GloOk P w K mg base CX0 1 "_law_draw" ["stream", "many"] spDraw) (LA : GloOk P w K mg base CX0 3 "_law_axes" ["stream"] spLAxes) (LW : GloOk P w K mg base CX0 3 "_law_wide" ["stream"] spLAxes)
    (LP : GloOk P w K mg base CX0 3 "_law_spoiled" ["stream", "axes"] spLSpoil) (LR : GloOk P w K mg base CX0 1 "_law_is_row" ["thing", "least", "most"] spLIsRow) (LM : GloOk P w K mg base CX0 8 "_law_made" ["axes"] (spLMade K C)) (LX : GloOk P w K mg base CX0 2 "_law_wrong" ["axes"] spLWrong)
    (LT : GloOk P w K mg base CX0 2 "_law_right" ["grid", "axes"] (spLRight C)) : FnOk P w K mg base CX0 9 f fd ["script"] (spLaw K) := by
  obtain ⟨fM, fdM, GM, M, bM⟩ := GM
  obtain ⟨fQ, fdQ, GQ, MQ, bQ⟩ := GQ
  obtain ⟨lS, ldS, LS, mS, kS, dS⟩ := LS
  obtain ⟨lD, ldD, LD, mD, kD, dD⟩ := LD
  obtain ⟨lA, ldA, LA, mA, kA, dA⟩ := LA
  obtain ⟨lW, ldW, LW, mW, kW, dW⟩ := LW
  obtain ⟨lP, ldP, LP, mP, kP, dP⟩ := LP
  obtain ⟨lR, ldR, LR, mR, kR, dR⟩ := LR
  obtain ⟨lM, ldM, LM, mM, kM, dM⟩ := LM
  obtain ⟨lX, ldX, LX, mX, kX, dX⟩ := LX
  obtain ⟨lT, ldT, LT, mT, kT, dT⟩ := LT
  refine F.ok scLaw (fun vs H Q X z => ?_) (fun cdv A outer s H vs Q X hr z => ?_)
  · obtain ⟨a, ns, rfl, _⟩ := z
    rfl
  · obtain ⟨a, ns, rfl, hS, hlen, k⟩ := z
    have hr1 : Room 1 _ := hr.mono (by decide)
    have hr2 : Room 2 _ := hr.mono (by decide)
    have hr3 : Room 3 _ := hr.mono (by decide)
    have hr7 : Room 7 _ := hr.mono (by decide)
    refine ⟨_, PSs.nox (pss_cons (ps_set (i := 1) scLaw.nd rfl (Or.inl rfl) (pe_call LS hr1 rfl mS kS dS .nil pass0 (pa_cons (pv 0) (pa_cons pe_int pa_nil))))
      (pss_cons (ps_set (i := 2) scLaw.nd rfl (Or.inl rfl) (pe_ix ix_list (pe_lst (pa_cons (pe_call LA hr3 rfl mA kA dA .nil pass0 (pa_cons (pv 1) pa_nil)) (pa_cons (pe_call LW hr3 rfl mW kW dW .nil pass0 (pa_cons (pv 1) pa_nil)) pa_nil))) (pe_call LD hr1 rfl mD kD dD .nil pass0 (pa_cons (pv 1) (pa_cons pe_int pa_nil))) (fun _ _ => rfl)))
      (pss_cons (ps_setLc (i := 4) (own := [("axis", 3)]) (g := gName 3) (tt := tYes) (by rfl) scLaw.nd rfl (by rfl) (by rfl) (pi_row (pv 2)) (blkOk_by (own := [("axis", 3)]) (N := NL) (sc := defScope sLaw) (by decide +kernel)) (fun _ _ _ _ _ => pg_name (i := 3) scLaw.nd rfl (Or.inl rfl)) (fun _ _ _ _ _ => pts_nil)
        (fun _ _ _ _ _ => show PE _ _ (tTup (tCons (tOp (rIx K) (tVar 3) (tC (.int 0))) (tCons (tCB (rLstOf K) (tCons (tOp (rIx K) (tVar 3) (tC (.int 1))) tNil)) tNil))) from pe_tup (pa_cons (pe_ix ix_seq (pv 3) pe_int (fun _ _ => rfl)) (pa_cons (pe_callTy (show CallR _ (.type "list") (rLstOf K) from call_list_of) (by rfl) T.list (by decide +kernel) (pa_cons (pe_ix ix_seq (pv 3) pe_int (fun _ _ => rfl)) pa_nil)) pa_nil))))
      (pss_cons (ps_for PassesOwn.never rfl (pi_range1 rfl T.range (pa_cons (pe_call LD hr1 rfl mD kD dD .nil pass0 (pa_cons (pv 1) (pa_cons pe_int pa_nil))) pa_nil)) (pg_name (i := 5) scLaw.nd rfl (Or.inl rfl))
        (pss_one (ps_if (PW.pt (pw_and (pt_val (pe_callB call_isi (by rfl) T.isinst (by decide +kernel) (pa_cons (pv 4) (pa_cons (pe_bltn (v := .ty "list") (by rfl) T.list (by decide +kernel) rfl) pa_nil))))
            (pw_and (pt_cmpR op_gt (pe_callB call_len_seq (by rfl) T.len PySem.boot_len (pa_cons (pv 4) pa_nil)) pe_int (nomark _))
            (pw_and1 (pt_val (pe_callB (cr_all rfl) (by rfl) T.all (by decide +kernel) (pa_cons
              (pe_lc (own := [("axis", 3)]) (g := gName 3) (tt := tYes) (by rfl) scLaw.nd (pi_row (pv 4)) (blkOk_by (own := [("axis", 3)]) (N := NL) (sc := defScope sLaw) (by decide +kernel)) (fun _ _ _ _ _ => pg_name (i := 3) scLaw.nd rfl (Or.inl rfl)) (fun _ _ _ _ _ => pts_nil)
                (fun _ _ _ _ _ => show PE _ _ (tAndV (tCall spLIsRow [] E0 (tCons (tVar 3) (tCons (tC (.int 2)) (tCons (tC (.int 2)) tNil)))) (tCB (rIsi K) (tCons (tOp (rIx K) (tVar 3) (tC (.int 1))) (tCons (tC (.ty "list")) tNil)))) from
                  pe_and (pe_call LR hr1 rfl mR kR dR .nil pass0 (pa_cons (pv 3) (pa_cons pe_int (pa_cons pe_int pa_nil)))) (pe_one (pe_callB call_isi (by rfl) T.isinst (by decide +kernel) (pa_cons (pe_ix ix_seq (pv 3) pe_int (fun _ _ => rfl)) (pa_cons (pe_bltn (v := .ty "list") (by rfl) T.list (by decide +kernel) rfl) pa_nil)))))) pa_nil)))))))
          (pss_one (ps_set (i := 4) scLaw.nd rfl (Or.inl rfl) (pe_call LP hr3 rfl mP kP dP .nil pass0 (pa_cons (pv 1) (pa_cons (pv 4) pa_nil))))) pss_nil)))
      (pss_cons (ps_asg (pe_call LM hr rfl mM kM dM .nil pass0 (pa_cons (pv 4) pa_nil)) (pg_tup rfl (pgs_cons (pg_name (i := 6) scLaw.nd rfl (Or.inl rfl)) (pgs_cons (pg_name (i := 7) scLaw.nd rfl (Or.inl rfl)) (pgs_cons (pg_name (i := 8) scLaw.nd rfl (Or.inl rfl)) pgs_nil)))))
      (pss_cons (ps_set (i := 9) scLaw.nd rfl (Or.inl rfl) (pe_call LX hr2 rfl mX kX dX .nil pass0 (pa_cons (pv 4) pa_nil)))
      (pss_cons (ps_if (PW.pt (pw_or (pt_cmpR op_ne (pv 7) (pv 9) (nomark _)) (pw_or1 (pt_not (pt_val (pv 8)))))) (pss_one (ps_ret pe_bl)) pss_nil)
      (pss_cons (ps_if (pt_cmpR op_ne (pv 9) pe_str (nomark _)) (pss_one (ps_ret (pe_cmpR op_isN (pv 6) pe_non (nomark _)))) pss_nil)
      (pss_cons (ps_setLc (i := 10) (own := [("axis", 3)]) (g := gName 3) (tt := tYes) (by rfl) scLaw.nd rfl (by rfl) (by rfl) (pi_row (pv 4)) (blkOk_by (own := [("axis", 3)]) (N := NL) (sc := defScope sLaw) (by decide +kernel)) (fun _ _ _ _ _ => pg_name (i := 3) scLaw.nd rfl (Or.inl rfl)) (fun _ _ _ _ _ => pts_nil)
        (fun _ _ _ _ _ => show PE _ _ (tTup (tCons (tOp (rIx K) (tVar 3) (tC (.int 0))) (tCons (tCB (rTup K) (tCons (tOp (rIx K) (tVar 3) (tC (.int 1))) tNil)) tNil))) from pe_tup (pa_cons (pe_ix ix_seq (pv 3) pe_int (fun _ _ => rfl)) (pa_cons (pe_callTy (show CallR _ (.type "tuple") (rTup K) from call_tuple_of) (by rfl) T.tuple (by decide +kernel) (pa_cons (pe_ix ix_seq (pv 3) pe_int (fun _ _ => rfl)) pa_nil)) pa_nil))))
      (pss_cons (ps_if (PW.pt (pw_or (pt_not (pt_val (pe_call LT hr2 rfl mT kT dT .nil pass0 (pa_cons (pv 6) (pa_cons (pv 10) pa_nil)))))
          (pw_or (pt_cmpR (op_neOwn hne G.cm MQ.at_ MQ.fn GQ hr2 bQ pass0) (pv 6) (pe_make M GM hr7 rfl G.mgC bM .nil passL (pa_cons (pe_callTy call_tuple_of (by rfl) T.tuple (by decide +kernel) (pa_cons (pv 10) pa_nil)) pa_nil)) (nomark _))
          (pw_or1 (pt_not (pt_cmpR (op_cmp (op := .Eq) (fun _ _ => rfl) MQ.at_ MQ.fn GQ hr1 bQ pass0) (pv 6) (pe_make M GM hr7 rfl G.mgC bM .nil passL (pa_cons (pv 10) pa_nil)) (nomark _))))))) (pss_one (ps_ret pe_bl)) pss_nil)
      (pss_cons (ps_for PassesOwn.never rfl (pi_row (pv 4)) (pg_name (i := 3) scLaw.nd rfl (Or.inl rfl))
        (pss_one (ps_if (pt_val (pe_callB call_isi (by rfl) T.isinst (by decide +kernel) (pa_cons (pe_ix ix_seq (pv 3) pe_int (fun _ _ => rfl)) (pa_cons (pe_bltn (v := .ty "list") (by rfl) T.list (by decide +kernel) rfl) pa_nil))))
          (pss_cons (ps_set (i := 11) scLaw.nd rfl (Or.inl rfl) (pe_ix ix_seq (pv 3) pe_int (fun _ _ => rfl)))
          (pss_one (ps_expr (pe_bm PySem.F.plainAttrs_list PySem.F.slot_list_append PySem.F.type_list_append mt_append (pv 11) (pa_cons pe_str pa_nil))))) pss_nil)))
      (pss_cons (ps_expr (pe_bm PySem.F.plainAttrs_list PySem.F.slot_list_append PySem.F.type_list_append mt_append (pv 4) (pa_cons pe_non pa_nil)))
      (pss_cons (ps_if (PW.pt (pw_or (pt_not (pt_val (pe_call LT hr2 rfl mT kT dT .nil pass0 (pa_cons (pv 6) (pa_cons (pv 10) pa_nil))))) (pw_or1 (pt_cmpR (op_cmp (op := .Eq) (fun _ _ => rfl) MQ.at_ MQ.fn GQ hr1 bQ pass0) (pv 6) (pe_ix ix_list (pv 10) pe_int (fun _ _ => rfl)) (nomark _))))) (pss_one (ps_ret pe_bl)) pss_nil)
      (pss_cons (ps_setLc (i := 12) (own := [("axis", 3)]) (g := gName 3) (tt := tYes) (by rfl) scLaw.nd rfl (by rfl) (by rfl) (pi_row (pv 10)) (blkOk_by (own := [("axis", 3)]) (N := NL) (sc := defScope sLaw) (by decide +kernel)) (fun _ _ _ _ _ => pg_name (i := 3) scLaw.nd rfl (Or.inl rfl)) (fun _ _ _ _ _ => pts_nil)
        (fun _ _ _ _ _ => show PE _ _ (tTup (tCons (tOp (rIx K) (tVar 3) (tC (.int 0))) (tCons (tRevT K (tOp (rIx K) (tVar 3) (tC (.int 1)))) tNil))) from pe_tup (pa_cons (pe_ix ix_seq (pv 3) pe_int (fun _ _ => rfl)) (pa_cons (pe_revT (pe_ix ix_seq (pv 3) pe_int (fun _ _ => rfl))) pa_nil))))
      (pss_cons (ps_if (pt_cmpR op_ne (pe_cmpR (op_cmp (op := .Eq) (fun _ _ => rfl) MQ.at_ MQ.fn GQ hr1 bQ pass0) (pv 6) (pe_make M GM hr7 rfl G.mgC bM .nil passL (pa_cons (pv 12) pa_nil)) (nomark _))
          (pe_cmpR (op_eqD hr.units) (pe_callTy call_tuple_of (by rfl) T.tuple (by decide +kernel) (pa_cons (pv 12) pa_nil)) (pe_callTy call_tuple_of (by rfl) T.tuple (by decide +kernel) (pa_cons (pv 10) pa_nil)) (nomark _)) (nomark _)) (pss_one (ps_ret pe_bl)) pss_nil)
      (pss_one (ps_ret (pe_cmpR op_eq (pe_cmpR (op_cmp (op := .Eq) (fun _ _ => rfl) MQ.at_ MQ.fn GQ hr1 bQ pass0) (pv 6) (pe_make M GM hr7 rfl G.mgC bM .nil passL (pa_cons (pe_revL (pv 10)) pa_nil)) (nomark _)) (pe_cmpR (op_eqD hr.units) (pe_revL (pv 10)) (pv 10) (nomark _)) (nomark _))))))))))))))))))), ?_⟩
    refine ⟨_, rfl, a, ns, 0, rfl, hS, by decide, fun l H1 s1 nl st1 => ?_⟩
    refine nx_ ?_
    refine sq ?_
    refine ⟨_, rfl, l, rfl, st1, fun v1 as1 H2 b2 st2 ax1 pl1 => ⟨_, rfl, l, rfl, st2, fun v2 as2 H3 b3 st3 ax2 pl2 => ⟨(by show 2 ≤ sizeLine; decide), fun p np => ?_⟩⟩⟩
    have npl : p ≠ l := st3.ne np
    have st3' := st3.same (new (o := .lst [v1, v2]) np)
    refine ⟨_, rfl, l, 2, rfl, st3', by decide, by unfold Sz; decide +kernel, fun d H4 d0 d1 b4 st4 => ?_⟩
    obtain ⟨va, hva, ha⟩ := at_any (xs := [v1, v2]) d0 d1
    refine ⟨p, _, d, va, rfl, rfl, SqL.of (b4 p _ npl upd_same), ha, ?_⟩
    have t34 : TSame H3 H4 := (Same.t (new (o := .lst [v1, v2]) np)).trans (b4.t st3')
    obtain ⟨as0, ax, pl⟩ : ∃ as0, AxesAt H4 va as0 ∧ Plain as0 := by
      rcases List.mem_cons.mp hva with rfl | hva
      · exact ⟨as1, (ax1.t (b3.t st2)).t t34, pl1⟩
      · rw [List.mem_singleton.mp hva]
        exact ⟨as2, ax2.t t34, pl2⟩
    clear ha hva d0 d1 npl st3' t34
    obtain ⟨pa, us, rfl, epa, al⟩ := ax
    refine nx_ ?_
    refine sq ?_
    refine asg_ ?_
    refine tLc_row (x := .ref pa) (xs := us) rfl ⟨pa, rfl, .inr epa⟩ fun J wk gp ng => ?_
    have ngl : gp ≠ l := st4.ne ng
    have plhi := pl.hi
    have lus : us.length = as0.length := al.1
    refine lc_each2 (fun j ys H' => ys.length = j ∧ ∀ y ∈ ys, ∃ (r lm : Addr) (z : Str) (ms : List Str), y = V.ref r ∧ r ≠ l ∧ lm ≠ l ∧ H' r = some (.tup [.str z, .ref lm]) ∧ lm ≠ gp ∧ H' lm = some (.lst (ms.map V.str)) ∧ z.length ≤ 100 ∧ ms.length ≤ 4 ∧ ∀ m ∈ ms, m.length ≤ 100) wk ng (by omega) (fun _ => by rfl)
      ⟨rfl, fun _ h => by cases h⟩ (fun _ _ _ h => h.1) (fun j v ys hv H' Q' s' eD h k' => ?_) (fun ys H5 s5 e5 h => ?_)
    · have lt : j < as0.length := by rw [← lus]; exact (List.getElem?_eq_some_iff.mp hv).1
      obtain ⟨aq, m, rfl, e1, e2⟩ := (al.2 j v _ hv (List.getElem?_eq_getElem lt)).same s'
      obtain ⟨pz, _, pm4, pms⟩ := pl.ax _ (List.getElem_mem lt)
      have row : Row H' (.ref aq) [.str as0[j].1, .ref m] := ⟨aq, rfl, .inr e1⟩
      refine ⟨_, rfl, ix_row (j := 0) row rfl ⟨_, rfl, ix_row (j := 1) row rfl ⟨m, _, rfl, .inr (SqT.of e2), fun lm nlm => ⟨(by show 2 ≤ sizeLine; decide), fun r nr => ?_⟩⟩⟩⟩
      have t1 := new (o := .lst (as0[j].2.map V.str)) nlm
      have t2 := new (o := .tup [V.str as0[j].1, V.ref lm]) nr
      have n1 : lm ≠ gp := fun z => by rw [z, eD] at nlm; cases nlm
      have n2 : r ≠ gp := fun z => by rw [z, t1 _ _ eD] at nr; cases nr
      have st' := st4.same s'
      have n3 : lm ≠ l := st'.ne nlm
      have n4 : r ≠ l := (st'.same t1).ne nr
      refine k' _ _ (t1.trans t2) ⟨by rw [List.length_append, h.1]; rfl, fun y hy => ?_⟩
      rcases List.mem_append.mp hy with hy | hy
      · obtain ⟨r', lm', z, ms, e, m1, m2, e3, m3, e4, m4, m5, m6⟩ := h.2 y hy
        have n5 : r' ≠ gp := fun q => by rw [q, eD] at e3; cases e3
        exact ⟨r', lm', z, ms, e, m1, m2, by rw [upd_ne n5]; exact t2 _ _ (t1 _ _ e3), m3, by rw [upd_ne m3]; exact t2 _ _ (t1 _ _ e4), m4, m5, m6⟩
      · rw [List.mem_singleton.mp hy]
        exact ⟨r, lm, as0[j].1, as0[j].2, rfl, n4, n3, by rw [upd_ne n2]; exact upd_same, n1, by rw [upd_ne n1]; exact t2 _ _ upd_same, by omega, pm4, fun m hm => by have := pms m hm; omega⟩
    have st5 := st4.same s5
    have giv0 : Giv 4 (del H5 l) (.ref gp) := by
      refine giv_lst (at_del e5 ngl) (by rw [h.1]; omega) fun y hy => ?_
      obtain ⟨r, lm, z, ms, rfl, m1, m2, e3, m3, e4, m4, m5, m6⟩ := h.2 y hy
      refine .inl ⟨_, ⟨r, rfl, .inr (at_del e3 m1)⟩, (by show 2 ≤ 4; decide), fun x hx => ?_⟩
      rcases List.mem_cons.mp hx with rfl | hx
      · exact kb_str m4
      · rw [List.mem_singleton.mp hx]
        refine kb_lst (at_del e4 m2) (by rw [List.length_map]; exact m5) fun m hm => ?_
        obtain ⟨q, hq, rfl⟩ := List.mem_map.mp hm
        exact kb_str (m6 q hq)
    refine nx_ ?_
    refine sq ?_
    refine ⟨_, rfl, l, 3, rfl, st5, by decide, by unfold Sz; decide +kernel, fun d6 H6 d0 d1 b6 st6 => ⟨d6, rfl, by omega, by omega, ?_⟩⟩
    refine for_range (lo := 0) (n := d6.toNat) (fun i σ H' => Strm H' l ∧ ∃ (gv : V) (v3 v5 : Option V), σ = [some (.ref a), some (.ref l), some (.ref pa), v3, some gv, v5, none, none, none, none, none, none, none] ∧ Giv (4 + i) (del H' l) gv)
      ⟨st6, .ref gp, none, none, rfl, giv0.same (by decide) b6.del⟩ ?_ ?_
    · rintro i σ H7 hi ⟨st7, gv, v3, v5, rfl, giv⟩
      have i3 : i < 3 := by omega
      have nxt : ∀ (H8 : Hp) (v3 v5 : Option V), Same H7 H8 → Strm H8 l ∧ ∃ (gv' : V) (v3' v5' : Option V), ([some (.ref a), some (.ref l), some (.ref pa), v3, some gv, v5, none, none, none, none, none, none, none] : St) = [some (.ref a), some (.ref l), some (.ref pa), v3', some gv', v5', none, none, none, none, none, none, none] ∧ Giv (4 + (i + 1)) (del H8 l) gv' :=
        fun H8 v3 v5 s8 => ⟨st7.same s8, gv, v3, v5, rfl, (giv.same (by omega) (But.of s8).del).mono (by omega)⟩
      have kg := giv.1
      rcases kg with ⟨xs, ⟨p7, rfl, e7 | e7⟩, lB, kx⟩ | ⟨n, _⟩
      · have eH := del_sub _ _ e7
        refine ⟨_, rfl, _, .ty "list", .type "list", _, true, rfl, .ty _, .base (.lst eH), kit_ty (by decide +kernel), true, rfl, iteT ?_⟩
        refine ⟨_, rfl, p7, xs, rfl, .inl (SqL.of eH), _, _, rfl, rfl, _, rfl, ?_⟩
        by_cases c : (0 : Int) < (xs.length : Int)
        · refine itT (decide_eq_true c) ?_
          refine b_cb ?_
          refine tLc_row (x := .ref p7) (xs := xs) rfl ⟨p7, rfl, .inl eH⟩ fun J wk D nD => ?_
          refine lc_bits (p := IsLG (del H7 l)) wk nD (by omega) (fun _ => by rfl) (fun v hv H8 Q8 s8 aa => ?_) fun H8 s8 e8 => ?_
          · have kv := kx v hv
            have sd : Same (del H7 l) H8 := del_sub.trans s8
            refine ⟨_, rfl, v, 2, 2, rfl, (kv.kn (by omega)).less.less.same sd, fun H9 s9 => ⟨fun ⟨ys, r, g1, g2⟩ => ⟨_, rfl, iteT ?_⟩, fun nr => ⟨_, rfl, iteF ((aa H9 s9).2 ?_)⟩⟩⟩
            · have sd9 := sd.trans s9
              obtain ⟨x, y, rfl⟩ : ∃ x y, ys = [x, y] := by
                match ys, g1, g2 with
                | [x, y], _, _ => exact ⟨x, y, rfl⟩
                | [], g1, _ => exact absurd (show (2 : Int) ≤ 0 from g1) (by decide)
                | [_], g1, _ => exact absurd (show (2 : Int) ≤ 1 from g1) (by decide)
                | _ :: _ :: _ :: _, _, g2 => simp at g2; omega
              have r0 := pair_back (kv.kn (by omega)).less.less sd r
              have r9 := r0.same sd9
              have ky := (kv.of_row r0).2 y (List.mem_cons_of_mem _ List.mem_cons_self)
              rcases ky with ⟨ms, ⟨lb, rfl, e | e⟩, _⟩ | ⟨n, _⟩
              · exact ⟨_, rfl, ix_row (j := 1) r9 rfl ⟨_, .ty "list", .type "list", _, true, rfl, .ty _, .base (.lst (sd9 _ _ e)), kit_ty (by decide +kernel), (aa H9 s9).1 ⟨x, lb, ms, r0, e⟩⟩⟩
              · refine ⟨_, rfl, ix_row (j := 1) r9 rfl ⟨_, .ty "list", .type "tuple", _, false, rfl, .ty _, .base (.tup (sd9 _ _ e)), kit_ty (by decide +kernel), (aa H9 s9).2 ?_⟩⟩
                rintro ⟨x', lb', ms', r', e'⟩
                have q := (List.cons.inj (List.cons.inj (r0.one r')).2).1
                cases q
                rw [e] at e'
                cases e'
              · obtain ⟨t, ht, ty, _⟩ := (n.same sd9).ty (K := K)
                refine ⟨_, rfl, ix_row (j := 1) r9 rfl ⟨_, .ty "list", .type t, _, false, rfl, .ty _, ty, by rcases ht with rfl | rfl | rfl | rfl | rfl <;> exact kit_ty (by decide +kernel), (aa H9 s9).2 ?_⟩⟩
                rintro ⟨x', lb', ms', r', e'⟩
                have q := (List.cons.inj (List.cons.inj (r0.one r')).2).1
                rw [q] at n
                exact Row.no ⟨lb', rfl, .inl e'⟩ n
            · rintro ⟨x', lb', ms', r', _⟩
              exact nr ⟨_, r'.same sd, by show (2 : Int) ≤ 2; omega, by show (2 : Int) ≤ 2; omega⟩
          · refine ⟨D, _, rfl, SqL.of e8, _, rfl, ?_⟩
            by_cases ok : ∀ v ∈ xs, IsLG (del H7 l) v
            · refine itT ((bits_all _ _).mpr ok) ?_
              have d8 : Same (del H7 l) (del H8 l) := (But.of s8).del
              refine ⟨_, rfl, _, rfl, l, p7, xs, 4 + i, rfl, st7.same s8, by omega, by omega, d8 _ _ e7, by omega, lB, fun x hx => ?_, fun v' H9 b9 st9 giv9 => ⟨st9, v', _, _, rfl, giv9⟩⟩
              obtain ⟨x', lb, ms, r, e⟩ := ok x hx
              exact lg_rowp ⟨x', lb, ms, r.same d8, d8 _ _ e⟩ ((kx x hx).same d8)
            · refine itF ?_ (nxt H8 _ _ s8)
              cases q : (bits (IsLG (del H7 l)) xs).all id with
              | false => rfl
              | true => exact (ok ((bits_all _ _).mp q)).elim
        · refine itF (decide_eq_false c) (iteF ?_)
          exact nxt H7 _ _ (Same.refl _)
      · refine ⟨_, rfl, _, .ty "list", .type "tuple", _, false, rfl, .ty _, .base (.tup (del_sub _ _ e7)), kit_ty (by decide +kernel), false, rfl, iteF (iteF ?_)⟩
        exact nxt H7 _ _ (Same.refl _)
      · obtain ⟨t, ht, ty, _⟩ := (n.same del_sub).ty (K := K)
        refine ⟨_, rfl, _, .ty "list", .type t, _, false, rfl, .ty _, ty, by rcases ht with rfl | rfl | rfl | rfl | rfl <;> exact kit_ty (by decide +kernel), false, rfl, iteF (iteF ?_)⟩
        exact nxt H7 _ _ (Same.refl _)
    · rintro σ H7 ⟨st7, gv, v3, v5, rfl, giv⟩
      have kn := giv.1.kn (show 4 + d6.toNat ≤ 100 by omega)
      have kn7 : Kn 3 H7 gv := kn.same del_sub
      have lor : ∀ H8, Same H7 H8 → (∃ p xs, gv = .ref p ∧ H8 p = some (.lst xs)) ∨ ¬ Pairs H8 gv := fun H8 s8 => by
        rcases giv.2 with ⟨p, xs, e, h⟩ | h
        · exact .inl ⟨p, xs, e, s8 _ _ (del_sub _ _ h)⟩
        · exact .inr fun q => h ((Pairs.iff kn.less.less (del_sub.trans s8)).mp q)
      refine nx_ ?_
      refine sq ?_
      refine asg_ ?_
      rcases sorts H7 gv with ⟨wd, wr⟩ | ⟨as, ri⟩
      · refine ⟨_, rfl, gv, rfl, kn7, .inl ⟨wd, wr, fun p H8 s8 ep => ⟨p, _, rfl, SqT.of ep, rfl, _, _, rfl, _, _, rfl, _, _, rfl, rfl, ?_⟩⟩⟩
        refine nx_ ?_
        refine sq ?_
        refine ⟨_, rfl, gv, rfl, kn7.same s8, lor H8 s8, fun w' H9 s9 hw => ?_⟩
        have ew : w' = wd := by
          rcases hw with hw | ⟨_, bs, rb⟩
          · exact Wrong.one hw (Wrong.same wr kn7 s8)
          · exact (Wrong.not (Wrong.same wr kn7 s8) rb).elim
        subst ew
        refine nx_ ?_
        refine sq ?_
        refine ⟨_, rfl, _, rfl, rfl, _, rfl, itF (by rw [decide_eq_true rfl]; rfl) ⟨_, rfl, true, rfl, iteF ?_⟩⟩
        refine nx_ ?_
        refine sq ?_
        refine ⟨_, rfl, rfl, _, rfl, itT (by rw [decide_eq_false fun z => wr.ne (V.str.inj z)]; rfl) ?_⟩
        refine ⟨_, rfl, rfl, ?_⟩
        rw [decide_eq_true rfl]
        exact k _
      · refine ⟨_, rfl, gv, rfl, kn7, .inr ⟨as, ri, fun p g H8 s8 gr ep => ⟨p, _, rfl, SqT.of ep, rfl, _, _, rfl, _, _, rfl, _, _, rfl, rfl, ?_⟩⟩⟩
        refine nx_ ?_
        refine sq ?_
        refine ⟨_, rfl, gv, rfl, kn7.same s8, lor H8 s8, fun w' H9 s9 hw => ?_⟩
        have ew : w' = "" := by
          rcases hw with hw | ⟨e, _⟩
          · exact (Wrong.not hw (Right.same ri s8)).elim
          · exact e
        subst ew
        refine nx_ ?_
        refine sq ?_
        refine ⟨_, rfl, _, rfl, rfl, _, rfl, itF (by rw [decide_eq_true rfl]; rfl) ⟨_, rfl, true, rfl, iteF ?_⟩⟩
        refine nx_ ?_
        refine sq ?_
        refine ⟨_, rfl, rfl, _, rfl, itF (by rw [decide_eq_true rfl]; rfl) ?_⟩
        -- the axes as they were handed over
        obtain ⟨good, xs, rx, alr⟩ := right_good ri
        have prs : Pairs H7 gv := by
          obtain ⟨ps, po, fw, _⟩ := ri
          exact of_pairs po fw
        obtain ⟨gq, ys, rfl, e7⟩ := (lor H7 (Same.refl _)).resolve_right fun h => h prs
        obtain rfl : xs = ys := rx.one ⟨gq, rfl, .inl e7⟩
        have s79 := s8.trans s9
        have lxs : xs.length = as.length := alr.1
        have g3 := good.hi
        have g1 := good.lo
        have nfC : PySem.W.notFirst K C (.ref C) = true := by
          show (_ || _) = true
          rw [beq_self_eq_true]
          rfl
        refine nx_ ?_
        refine sq ?_
        refine asg_ ?_
        refine tLc_row (x := .ref gq) (xs := xs) rfl ⟨gq, rfl, .inl (s79 _ _ e7)⟩ fun J wk kp nk => ?_
        refine lc_each (fun j ys H' => All2 (AxAt H') ys (as.take j) ∧ j ≤ as.length) wk nk (by omega) (fun _ => by rfl) ⟨All2.nil, Nat.zero_le _⟩ (fun j ys H' h => ?_) (fun j ys H' H'' s' h => ⟨h.1.imp fun _ _ y => y.same s', h.2⟩) (fun j ys H' old o e h => ⟨h.1.imp fun _ _ y => y.t (tsame_upd fun _ z => by rw [e] at z; cases z), h.2⟩) (fun j y ys hy H' Q' s' h k' => ?_) (fun us H10 s10 e10 h => ?_)
        · rw [h.1.1, List.length_take, Nat.min_eq_left h.2]
        · have lt : j < as.length := by rw [← lxs]; exact (List.getElem?_eq_some_iff.mp hy).1
          have hja := List.getElem?_eq_getElem lt
          obtain ⟨mv, r1, ⟨m, rfl, r2⟩⟩ := alr.2 j y _ hy hja
          have s7' := s79.trans s'
          have r1' := r1.same s7'
          have nxt : ∀ (H6 : Hp) (t r : Addr), Same H' H6 → H6 t = some (.tup (as[j].2.map V.str)) → H6 r = none → Q' (.ref r) (upd H6 r (.tup [.str as[j].1, .ref t])) := fun H6 t r s6 et nr => by
            refine k' _ _ (s6.trans (new nr)) ⟨?_, lt⟩
            rw [take_snoc hja]
            exact All2.snoc (h.1.imp fun _ _ y => y.same (s6.trans (new nr))) ⟨r, t, rfl, upd_same, new nr _ _ et⟩
          refine ⟨_, rfl, ix_row (j := 0) r1' rfl ⟨_, rfl, ix_row (j := 1) r1' rfl ⟨m, as[j].2.map V.str, rfl, ?_⟩⟩⟩
          rcases r2 with r2 | r2
          · exact .inl ⟨SqL.of (s7' _ _ r2), fun t nt => ⟨(by show 2 ≤ sizeLine; decide), fun r nr => nxt _ t r (new nt) upd_same nr⟩⟩
          · exact .inr ⟨SqT.of (s7' _ _ r2), (by show 2 ≤ sizeLine; decide), fun r nr => nxt _ m r (Same.refl _) (s7' _ _ r2) nr⟩
        · obtain ⟨al, _⟩ := h
          rw [take_all lxs] at al
          have lus : us.length = as.length := al.1
          have s7a := s79.trans s10
          have gr10 := gr.same (s9.trans s10)
          have ngk : gq ≠ kp := ne_of_none (s79 _ _ e7) nk
          -- what is known at each moment behind
          refine nx_ ?_
          refine sq ?_
          refine ⟨_, rfl, _, rfl, g, .ref kp, us, as, rfl, gr10, ⟨kp, rfl, .inl e10⟩, al, good, fun H11 s11 => ⟨_, rfl, iteF ?_⟩⟩
          have e11 := s11 _ _ e10
          have al11 := al.imp fun _ _ y => y.same s11
          have gr11 := gr10.same s11
          refine ⟨_, rfl, _, rfl, kp, us, rfl, .inl ⟨SqL.of e11, fun tp ntp => fun x dx nx nd nex => ?_⟩⟩
          refine mk_grid ⟨tp, rfl, .inr upd_same⟩ (al11.imp fun _ _ y => y.same (new ntp)) good nx nd fun H12 s12 gx => ?_
          have s12' := (new (o := .tup us) ntp).trans s12
          have gr12 := gr11.same s12'
          obtain ⟨dg, va, vc, eg, _⟩ := id gr12
          refine ⟨g, dg, _, .ref C, rfl, eg, ty_grid G gx, nfC, g, .ref x, as, rfl, gr12, good.ok, .inl ⟨x, as, rfl, gx, good.ok, fun r hr => ⟨r, rfl, _, rfl, ?_⟩⟩⟩
          obtain rfl : r = true := hr.mpr rfl
          refine iteF ?_
          have e12 := s12' _ _ e11
          have al12 := al11.imp fun _ _ y => y.same s12'
          refine ⟨_, rfl, _, rfl, fun x2 dx2 nx2 nd2 nex2 => ?_⟩
          refine mk_grid ⟨kp, rfl, .inl e12⟩ al12 good nx2 nd2 fun H13 s13 gx2 => ?_
          have gr13 := gr12.same s13
          obtain ⟨dg, va, vc, eg, _⟩ := id gr13
          refine ⟨g, dg, _, .ref C, rfl, eg, ty_grid G gx2, nfC, g, .ref x2, as, rfl, gr13, good.ok, .inl ⟨x2, as, rfl, gx2, good.ok, fun r hr => ⟨_, rfl, ?_⟩⟩⟩
          obtain rfl : r = true := hr.mpr rfl
          refine iteF ?_
          have e13 := s13 _ _ e12
          have al13 := al12.imp fun _ _ y => y.same s13
          have s7d := s7a.trans (s11.trans (s12'.trans s13))
          have eq13 := s7d _ _ e7
          have us0 : ∃ u r0, us = u :: r0 ∧ ∃ q m : Addr, ∃ a0 : Ax, u = .ref q ∧ as[0]? = some a0 := by
            match us, al13, lus with
            | [], _, lus => simp at lus; omega
            | u :: r0, al, _ =>
              have h0 := List.getElem?_eq_getElem (show 0 < as.length by omega)
              obtain ⟨q, m, e, _⟩ := al.2 0 u _ rfl h0
              exact ⟨u, r0, rfl, q, m, _, e, h0⟩
          obtain ⟨u0, r0, rfl, q0, _, a0, rfl, ha0⟩ := us0
          have mi0 : MI 10 H13 xs := fun x hx => by
            obtain ⟨i, hi', rfl⟩ := List.mem_iff_getElem.mp hx
            have lt : i < as.length := by omega
            obtain ⟨mv, r1, ⟨m, rfl, r2⟩⟩ := alr.2 i xs[i] as[i] (List.getElem?_eq_getElem hi') (List.getElem?_eq_getElem lt)
            refine ⟨_, _, r1.same s7d, ?_⟩
            rcases r2 with r2 | r2
            · exact .inl ⟨m, _, rfl, s7d _ _ r2, by have := (good.ms _ (List.getElem_mem lt)).2.2; omega⟩
            · exact .inr ⟨m, _, rfl, s7d _ _ r2⟩
          have xs0 : ∃ x, x ∈ xs := ⟨xs[0]'(by omega), List.getElem_mem _⟩
          refine nx_ ?_
          refine sq ?_
          refine ⟨_, rfl, gq, rfl, .inl ⟨⟨xs, SqL.of eq13⟩, ?_⟩⟩
          refine for_it walk_list (fun i σ H' => H' gq = some (.lst xs) ∧ GridAt C H' g as ∧ H' kp = some (.lst (.ref q0 :: r0)) ∧ All2 (AxAt H') (.ref q0 :: r0) as ∧ MI (10 + i) H' xs ∧ ∃ v3 v11 : Option V,
              σ = [some (.ref a), some (.ref l), some (.ref pa), v3, some (.ref gq), v5, some (.ref g), some (.str ""), some (.bl true), some (.str ""), some (.ref kp), v11, none])
            ⟨eq13, gr13, e13, al13, mi0, v3, none, rfl⟩ (fun _ _ _ _ h => SqL.of h.1) ?_ ?_
          · rintro i x σ H14 H14' hi14 ⟨eq14, gr14, e14, al14, mi14, w3, w11, rfl⟩ ⟨rfl, hx⟩
            have hxm := List.mem_of_getElem? hx
            obtain ⟨n14, b14, row, kb⟩ := mi14 x hxm
            rcases kb with ⟨lb, zs, rfl, eb, lz⟩ | ⟨tb, ts, rfl, eb⟩
            · refine ⟨_, rfl, ix_row (j := 1) row rfl ⟨_, .ty "list", .type "list", _, true, rfl, .ty _, .base (.lst eb), kit_ty (by decide +kernel), true, rfl, iteT ?_⟩⟩
              refine ⟨_, rfl, ix_row (j := 1) row rfl ?_⟩
              refine nx_ ?_
              refine ⟨_, rfl, .inl ⟨rfl, _, SqL.of eb⟩, lb, _, _, rfl, rfl, eb, ?_, ?_⟩
              · rw [List.length_map]
                have := i
                exact Nat.lt_of_lt_of_le (show zs.length < 1000 by omega) (by decide)
              · have n1 : gq ≠ lb := fun z => by
                  rw [z, eb] at eq14
                  have e2 : zs.map V.str = xs := HO.lst.inj (Option.some.inj eq14)
                  obtain ⟨q, e3⟩ := mi_row mi14 hxm
                  rw [← e2, e3] at hxm
                  exact strs_no hxm
                have n2 : kp ≠ lb := fun z => by
                  rw [z, eb] at e14
                  have e2 : zs.map V.str = .ref q0 :: r0 := HO.lst.inj (Option.some.inj e14)
                  exact strs_no (by rw [e2]; exact List.mem_cons_self)
                have tl := tsame_upd (H := H14') (p := lb) (o := .lst (zs.map V.str ++ [V.str "zz"])) (fun xs z => by rw [eb] at z; cases z)
                exact ⟨by rw [upd_ne n1]; exact eq14, gr14.upd eb, by rw [upd_ne n2]; exact e14, al14.imp fun _ _ y => y.t tl, mi14.grow eb lz, _, _, rfl⟩
            · refine ⟨_, rfl, ix_row (j := 1) row rfl ⟨_, .ty "list", .type "tuple", _, false, rfl, .ty _, .base (.tup eb), kit_ty (by decide +kernel), false, rfl, iteF ?_⟩⟩
              refine ⟨eq14, gr14, e14, al14, fun x hx => ?_, _, _, rfl⟩
              obtain ⟨c, d, r, k2⟩ := mi14 x hx
              refine ⟨c, d, r, ?_⟩
              rcases k2 with ⟨lb, zs, e1, e2, l2⟩ | k2
              · exact .inl ⟨lb, zs, e1, e2, by omega⟩
              · exact .inr k2
          · rintro σ H14 ⟨eq14, gr14, e14, al14, mi14, w3, w11, rfl⟩
            refine nx_ ?_
            refine sq ?_
            refine ⟨_, rfl, .inl ⟨rfl, _, SqL.of eq14⟩, gq, xs, _, rfl, rfl, eq14, Nat.lt_of_lt_of_le (show xs.length < 1000 by omega) (by decide), ?_⟩
            have gr15 := gr14.upd (o := .lst (xs ++ [V.non])) eq14
            have t15 := tsame_upd (H := H14) (p := gq) (o := .lst (xs ++ [V.non])) (fun xs z => by rw [eq14] at z; cases z)
            have e15 : (upd H14 gq (.lst (xs ++ [V.non]))) kp = some (.lst (.ref q0 :: r0)) := by rw [upd_ne ngk.symm]; exact e14
            have al15 : All2 (AxAt (upd H14 gq (.lst (xs ++ [V.non])))) (.ref q0 :: r0) as := al14.imp fun _ _ y => y.t t15
            generalize upd H14 gq (.lst (xs ++ [V.non])) = H15 at gr15 e15 al15 ⊢
            refine nx_ ?_
            refine sq ?_
            refine ⟨_, rfl, _, rfl, g, .ref kp, _, as, rfl, gr15, ⟨kp, rfl, .inl e15⟩, al15, good, fun H16 s16 => ⟨_, rfl, iteF ?_⟩⟩
            have gr16 := gr15.same s16
            have e16 := s16 _ _ e15
            have al16 := al15.imp fun _ _ y => y.same s16
            obtain ⟨q1, m1, eq1, ht1, _⟩ := al16.2 0 (.ref q0) a0 rfl ha0
            cases eq1
            obtain ⟨dg, va, vc, eg, _⟩ := id gr16
            refine ⟨_, rfl, _, rfl, kp, _, 0, .ref q0, rfl, rfl, SqL.of e16, at_of (j := 0) rfl rfl, ?_⟩
            refine ⟨g, dg, _, .type "tuple", rfl, eg, .base (.tup ht1), hnt, g, .ref q0, as, rfl, gr16, good.ok, .inr ⟨.type "tuple", .base (.tup ht1), hkt, _, rfl, iteF ?_⟩⟩
            refine nx_ ?_
            refine sq ?_
            refine asg_ ?_
            refine tLc_row (x := .ref kp) (xs := .ref q0 :: r0) rfl ⟨kp, rfl, .inl e16⟩ fun J wk op no => ?_
            have ltu : (turned as).length = as.length := by unfold turned; rw [List.length_map]
            refine lc_each (fun j ys H' => All2 (AxAt H') ys ((turned as).take j) ∧ j ≤ as.length) wk no (by omega) (fun _ => by rfl) ⟨All2.nil, Nat.zero_le _⟩ (fun j ys H' h => ?_) (fun j ys H' H'' s' h => ⟨h.1.imp fun _ _ y => y.same s', h.2⟩) (fun j ys H' old o e h => ⟨h.1.imp fun _ _ y => y.t (tsame_upd fun _ z => by rw [e] at z; cases z), h.2⟩) (fun j y ys hy H' Q' s' h k' => ?_) (fun us2 H17 s17 e17 h => ?_)
            · rw [h.1.1, List.length_take, ltu, Nat.min_eq_left h.2]
            · have lt : j < as.length := by rw [← al16.1]; exact (List.getElem?_eq_some_iff.mp hy).1
              have hja := List.getElem?_eq_getElem lt
              have htj : (turned as)[j]? = some (as[j].1, as[j].2.reverse) := by
                unfold turned
                rw [List.getElem?_map, hja]
                rfl
              obtain ⟨aq, m, rfl, e1, e2⟩ := (al16.2 j y _ hy hja).same s'
              have row : Row H' (.ref aq) [.str as[j].1, .ref m] := ⟨aq, rfl, .inr e1⟩
              refine ⟨_, rfl, ix_row (j := 0) row rfl ⟨_, rfl, ix_row (j := 1) row rfl ⟨m, _, rfl, SqT.of e2, fun t nt => ⟨(by show 2 ≤ sizeLine; decide), fun r nr => ?_⟩⟩⟩⟩
              have t1 := new (o := .tup (as[j].2.map V.str).reverse) nt
              refine k' _ _ (t1.trans (new nr)) ⟨?_, lt⟩
              rw [take_snoc htj]
              refine All2.snoc (h.1.imp fun _ _ y => y.same (t1.trans (new nr))) ⟨r, t, rfl, upd_same, new nr _ _ ?_⟩
              rw [upd_same, List.map_reverse]
            · obtain ⟨al2, _⟩ := h
              rw [take_all (show (V.ref q0 :: r0).length = (turned as).length by rw [ltu]; exact al16.1)] at al2
              have gr17 := gr16.same s17
              have ek17 := s17 _ _ e16
              have al17 := al16.imp fun _ _ y => y.same s17
              have good2 := good.turn
              refine nx_ ?_
              refine sq ?_
              refine ⟨_, rfl, _, rfl, fun x3 dx3 nx3 nd3 nex3 => ?_⟩
              refine mk_grid ⟨op, rfl, .inl e17⟩ al2 good2 nx3 nd3 fun H18 s18 gx3 => ?_
              have gr18 := gr17.same s18
              obtain ⟨dg, va, vc, eg, _⟩ := id gr18
              refine ⟨g, dg, _, .ref C, rfl, eg, ty_grid G gx3, nfC, g, .ref x3, as, rfl, gr18, good.ok, .inl ⟨x3, turned as, rfl, gx3, good2.ok, fun r hr => ?_⟩⟩
              have e18 := s18 _ _ e17
              have ek18 := s18 _ _ ek17
              have al18 := al17.imp fun _ _ y => y.same s18
              have al28 := al2.imp fun _ _ y => y.same s18
              refine ⟨_, rfl, op, us2, rfl, .inl ⟨SqL.of e18, fun t1 nt1 => ?_⟩⟩
              have u1 := new (o := .tup us2) nt1
              refine ⟨_, rfl, kp, _, rfl, .inl ⟨SqL.of (u1 _ _ ek18), fun t2 nt2 => ?_⟩⟩
              have u2 := new (o := .tup (V.ref q0 :: r0)) nt2
              have u12 := u1.trans u2
              refine ⟨_, _, dp_axs ⟨t1, us2, rfl, u2 _ _ upd_same, al28.imp fun _ _ y => y.same u12⟩, dp_axs ⟨t2, _, rfl, upd_same, al18.imp fun _ _ y => y.same u12⟩, shaped_axs good2.ok, shaped_axs good.ok, rfl, _, rfl, itF ?_ ?_⟩
              · have er : r = PyData.eqv (axsD (turned as)) (axsD as) := Bool.eq_iff_iff.mpr (hr.trans (eq_comm.trans (eqv_axs _ _).symm))
                rw [er, decide_eq_true rfl]
                rfl
              · have s18' := s18.trans u12
                have gr19 := gr17.same s18'
                have ek19 := s18' _ _ ek17
                have al19 := al17.imp fun _ _ y => y.same s18'
                refine nx_ ?_
                refine ⟨_, rfl, _, rfl, kp, _, rfl, SqL.of ek19, fun bp nb => fun x4 dx4 nx4 nd4 nex4 => ?_⟩
                have u3 := new (o := .lst (V.ref q0 :: r0).reverse) nb
                refine mk_grid ⟨bp, rfl, .inl upd_same⟩ (all2_back (al19.imp fun _ _ y => y.same u3)) good.back nx4 nd4 fun H20 s20 gx4 => ?_
                have s19 := u3.trans s20
                have gr20 := gr19.same s19
                obtain ⟨dg, va, vc, eg, _⟩ := id gr20
                refine ⟨g, dg, _, .ref C, rfl, eg, ty_grid G gx4, nfC, g, .ref x4, as, rfl, gr20, good.ok, .inl ⟨x4, as.reverse, rfl, gx4, good.back.ok, fun r hr => ?_⟩⟩
                have ek20 := s19 _ _ ek19
                have al20 := al19.imp fun _ _ y => y.same s19
                refine ⟨_, rfl, kp, _, rfl, SqL.of ek20, fun bp2 nb2 => ?_⟩
                have u4 := new (o := .lst (V.ref q0 :: r0).reverse) nb2
                refine ⟨_, rfl, _, _, dp_axl upd_same (all2_back (al20.imp fun _ _ y => y.same u4)), dp_axl (u4 _ _ ek20) (al20.imp fun _ _ y => y.same u4), shaped_axl good.back.ok, shaped_axl good.ok, rfl, ?_⟩
                have er : r = PyData.eqv (.list (as.reverse.map axD)) (.list (as.map axD)) := Bool.eq_iff_iff.mpr (hr.trans (eq_comm.trans (eqv_axl _ _).symm))
                rw [er, decide_eq_true rfl]
                exact k _
end
end K4

set_option Elab.async false
set_option linter.all false
set_option maxRecDepth 100000
set_option maxHeartbeats 4000000
/-! law k04: what the top has left, and the end -/
namespace K4
open PySem L2 TL
abbrev Lk (K : PySem.W.Frag) (f : Addr) (o : Obj) : Prop := K.lookup f = some o
/-- a def without defaults stands at f -/
theorem fnp {K : PySem.W.Frag} {x q : Str} {st : Stmt} {f : Addr} {oc : Value} {od an : Option Addr} {osl : Array (Option Value)} {kV doc pm cdv ct : Value}
    (l : K.lookup f = some ⟨oc, od, .func (PySem.W.fnOf x q (defArgs st) (defBody st) (defScope st) .none kV doc pm an cdv ct), osl⟩) (c : PySem.W.codeIn K cdv q = true) (k : PySem.W.keepIn K (.ref f) = true) : ∃ fd, FnP K x q st [] f fd :=
  ⟨_, ⟨oc, od, .none, kV, doc, pm, an, cdv, ct, osl, rfl, l, c, .inl ⟨rfl, rfl⟩, .inl rfl⟩, k⟩
/-- a global def -/
def GF (K : PySem.W.Frag) (x : Str) (st : Stmt) : Prop := ∃ f, PySem.W.nsIn K mainGlobals x = some (some (.ref f)) ∧ ∃ fd, FnP K x x st [] f fd
/-- a method of C -/
def MF (K : PySem.W.Frag) (C : Addr) (x q : Str) (st : Stmt) : Prop := ∃ f, PySem.W.findIn K (.ref C) x = some (some (.ref f)) ∧ PySem.W.isFn K (.ref f) = true ∧ ∃ fd, FnP K x q st [] f fd
section
variable {P : Program} {w : World} {K : PySem.W.Frag} {mg : Str → Option Value} {base h : Heap} {CX : CXT} {k : Nat} {x q : Str} {ps : List Str} {st : Stmt} {sp : Sp} {C : Addr}
theorem GF.ok (g : GF K x st) (X : K.In h) (G : h.Ns mainGlobals mg) (ok : ∀ f fd, FnP K x x st [] f fd → FnOk P w K mg base CX k f fd ps sp)
    (b : ∀ (kV doc pm : Value) (an : Option Addr) (cdv ct : Value) (us : List Value), us.length = ps.length → bindArgs (PySem.W.fnOf x x (defArgs st) (defBody st) (defScope st) .none kV doc pm an cdv ct) ⟨us, []⟩ = pure (ps.zip us)) : GloOk P w K mg base CX k x ps sp := by
  obtain ⟨f, a, fd, F⟩ := g
  exact ⟨f, fd, ok f fd F, PySem.W.mg_of X G a, F.kp, F.bindsN b⟩
theorem MF.ok (g : MF K C x q st) (ok : ∀ f fd, FnP K x q st [] f fd → FnOk P w K mg base CX k f fd ps sp)
    (b : ∀ (kV doc pm : Value) (an : Option Addr) (cdv ct : Value) (us : List Value), us.length = ps.length → bindArgs (PySem.W.fnOf x q (defArgs st) (defBody st) (defScope st) .none kV doc pm an cdv ct) ⟨us, []⟩ = pure (ps.zip us)) : MthOk P w K mg base C CX k x ps sp := by
  obtain ⟨f, a, i, fd, F⟩ := g
  exact ⟨f, fd, ok f fd F, ⟨a, i, F.kp⟩, F.bindsN b⟩
theorem MF.meth (g : MF K C x q st) : ∃ f, Meth K C x f := by
  obtain ⟨f, a, i, fd, F⟩ := g
  exact ⟨f, a, i, F.kp⟩
end
theorem kit_sub {K : PySem.W.Frag} {C : Addr} {n : String} {b : Bool} (h : PySem.W.subIn K (.ref C) (.type n) = some b) (hm : PySem.W.kitMeta n = true) : PySem.W.kitOne K (.ref C) (.type n) = some b := by
  unfold PySem.W.kitOne
  rw [if_neg (by simp)]
  show (if PySem.W.kitMeta n = true then PySem.W.subIn K (.ref C) (.type n) else none) = some b
  rw [if_pos hm]
  exact h
theorem kit_cl {K : PySem.W.Frag} {C : Addr} {t : Value} {b : Bool} (hc : PySem.W.isClsIn K C = true) (ht : PySem.W.typeIn K (.ref C) = some (.type "type")) (h : PySem.W.subIn K t (.ref C) = some b) : PySem.W.kitCls K t (.ref C) = some b := by
  have e : ((PySem.W.clsIn K C).isSome && PySem.W.typeIn K (.ref C) == some (.type "type")) = true := by
    rw [show (PySem.W.clsIn K C).isSome = true from hc, ht] <;> rfl
  show (if ((PySem.W.clsIn K C).isSome && PySem.W.typeIn K (.ref C) == some (.type "type")) = true then PySem.W.subIn K t (.ref C) else none) = some b
  rw [if_pos e]
  exact h
theorem kit_tyc {K : PySem.W.Frag} {C : Addr} {n : String} {b : Bool} (hc : PySem.W.isClsIn K C = true) (ht : PySem.W.typeIn K (.ref C) = some (.type "type")) (h : PySem.W.subIn K (.type n) (.ref C) = some b) : PySem.W.kitOne K (.type n) (.ref C) = some b := by
  unfold PySem.W.kitOne
  rw [if_neg (by simp)]
  exact kit_cl hc ht h
theorem exm_own {K : PySem.W.Frag} {S : Addr} (h1 : PySem.W.subIn K (.ref S) (.type "BaseException") = some true) (h2 : PySem.W.isClsIn K S = true) (h3 : PySem.W.typeIn K (.ref S) = some (.type "type")) (h4 : PySem.W.subIn K (.ref S) (.ref S) = some true) :
    PySem.W.exmOne K (.ref S) (.ref S) = some true := by
  have e1 : (PySem.W.subIn K (.ref S) (.type "BaseException") == some true) = true := by rw [h1] <;> rfl
  have e2 : ((PySem.W.clsIn K S).isSome && PySem.W.typeIn K (.ref S) == some (.type "type")) = true := by
    rw [show (PySem.W.clsIn K S).isSome = true from h2, h3] <;> rfl
  show (if (PySem.W.subIn K (.ref S) (.type "BaseException") == some true) = true then (if ((PySem.W.clsIn K S).isSome && PySem.W.typeIn K (.ref S) == some (.type "type")) = true then PySem.W.subIn K (.ref S) (.ref S) else none) else none) = some true
  rw [if_pos e1, if_pos e2]
  exact h4
/-- the class Grid -/
structure CF (K : PySem.W.Frag) (C : Addr) : Prop where
  pg : PySem.W.plainGet K C Str.empty = true
  hd : PySem.W.hasDictIn K C = true
  po : PySem.W.plainOver K C = true
  sa : PySem.W.findIn K (.ref C) "__setattr__" = some (some (.builtin "object.__setattr__"))
  mks : PySem.W.makesIn K C = true
  kc : PySem.W.keepIn K (.ref C) = true
  nA : PySem.W.findIn K (.ref C) "axes" = some none
  nC : PySem.W.findIn K (.ref C) "cells" = some none
  nS : PySem.W.findIn K (.ref C) "size" = some none
  ca : PySem.W.findIn K (.ref C) "__class__" = some (some (.builtin "object.__class__"))
  cn : PySem.W.specialIn K (.builtin "object.__class__") "__get__" = some (some (.builtin "getset_descriptor.__get__"))
  ct : PySem.W.takesIn K (.builtin "object.__class__") = some true
  cm : PySem.W.mroIn K C (.type "object") = some true
  ic : PySem.W.isClsIn K C = true
  ty : PySem.W.typeIn K (.ref C) = some (.type "type")
  ne : PySem.W.findIn K (.ref C) "__ne__" = some (some (.builtin "object.__ne__"))
  s3 : PySem.W.subIn K (.type "tuple") (.ref C) = some false
/-- the class of the error, and the one above it -/
structure EF (K : PySem.W.Frag) (E B : Addr) : Prop where
  sa : PySem.W.findIn K (.ref E) "__setattr__" = some (some (.builtin "object.__setattr__"))
  ex : PySem.W.subIn K (.ref E) (.type "BaseException") = some true
  ty : PySem.W.typeIn K (.ref E) = some (.type "type")
  kE : PySem.W.keepIn K (.ref E) = true
  noW : PySem.W.findIn K (.ref E) "word" = some none
  ga : PySem.W.findIn K (.ref E) "__getattribute__" = some (some (.builtin "BaseException.__getattribute__"))
  gg : PySem.W.findIn K (.ref E) "__getattr__" = some none
  hd : PySem.W.hasDictIn K E = true
  ic : PySem.W.isClsIn K E = true
  se : PySem.W.subIn K (.ref E) (.ref E) = some true
  ib : PySem.W.isClsIn K B = true
  tb : PySem.W.typeIn K (.ref B) = some (.type "type")
  sb : PySem.W.subIn K (.ref E) (.ref B) = some true
structure NF (K : PySem.W.Frag) : Prop where
  isinst : PySem.W.nsIn K mainGlobals "isinstance" = some none
  int : PySem.W.nsIn K mainGlobals "int" = some none
  str : PySem.W.nsIn K mainGlobals "str" = some none
  list : PySem.W.nsIn K mainGlobals "list" = some none
  tuple : PySem.W.nsIn K mainGlobals "tuple" = some none
  set : PySem.W.nsIn K mainGlobals "set" = some none
  abs : PySem.W.nsIn K mainGlobals "abs" = some none
  len : PySem.W.nsIn K mainGlobals "len" = some none
  range : PySem.W.nsIn K mainGlobals "range" = some none
  min : PySem.W.nsIn K mainGlobals "min" = some none
  all : PySem.W.nsIn K mainGlobals "all" = some none
  any : PySem.W.nsIn K mainGlobals "any" = some none
theorem txt_mk {K : PySem.W.Frag} {h : Heap} {mg : Str → Option Value} (X : K.In h) (G : h.Ns mainGlobals mg) (n : NF K) : Txt K mg where
  isinst := PySem.W.mg_none_of X G n.isinst
  int := PySem.W.mg_none_of X G n.int
  str := PySem.W.mg_none_of X G n.str
  list := PySem.W.mg_none_of X G n.list
  tuple := PySem.W.mg_none_of X G n.tuple
  set := PySem.W.mg_none_of X G n.set
  abs := PySem.W.mg_none_of X G n.abs
  len := PySem.W.mg_none_of X G n.len
  range := PySem.W.mg_none_of X G n.range
  min := PySem.W.mg_none_of X G n.min
  all := PySem.W.mg_none_of X G n.all
  any := PySem.W.mg_none_of X G n.any
theorem gtxt_mk {K : PySem.W.Frag} {h : Heap} {mg : Str → Option Value} {C E B : Addr} (X : K.In h) (G : h.Ns mainGlobals mg) (aC : PySem.W.nsIn K mainGlobals "Grid" = some (some (.ref C))) (aE : PySem.W.nsIn K mainGlobals "NoGrid" = some (some (.ref E))) (aB : PySem.W.nsIn K mainGlobals "ToldError" = some (some (.ref B))) (ne : E ≠ B)
    (c : CF K C) (e : EF K E B)
    {nm q : Str} {N : Addr} {bs bm : List Value} {sn : List Str} {sub : List Value} {ab : Bool} {col : Option Bool} {dd : Option Addr} {m0 m1 m2 m3 m5 : Option Value}
    (xL : K.lookup E = some (excClassObj nm q E N bs bm true sn sub ab col dd m0 m1 m2 m3 m5 "ValueError.__new__")) (rf : PySem.HandSPX.refsVE bm = true) : GTxt K mg C E B where
  cl := ⟨c.pg, c.hd, c.po, c.sa⟩
  nA := c.nA
  nC := c.nC
  nS := c.nS
  mgC := PySem.W.mg_of X G aC
  ca := c.ca
  cn := c.cn
  ct := c.ct
  cm := c.cm
  ox := ⟨⟨nm, q, N, bs, bm, sn, sub, ab, col, dd, m0, m1, m2, m3, m5, xL, rf⟩, e.sa, e.ex, e.ty, e.kE⟩
  mgE := PySem.W.mg_of X G aE
  noW := e.noW
  xf := ⟨e.ga, e.gg, e.ex, e.hd⟩
  exm := exm_own e.ex e.ic e.ty e.se
  up := kit_cl e.ib e.tb e.sb
  neB := ne
  mgB := PySem.W.mg_of X G aB
/-- a written tuple of two texts -/
theorem two_strs {K : PySem.W.Frag} {R : Addr} {od : Option Addr} {osl : Array (Option Value)} {n : Nat} {x y : Str} {t1 t2 : Tok} (l : K.lookup R = some ⟨.type "tuple", od, .seq #[.str x t1, .str y t2] n, osl⟩) (H : Hp) : SqT K H R [.str x, .str y] :=
  .inr ⟨_, #[.str x t1, .str y t2], n, l, rfl, rfl, by show 2 ≤ sizeLine; decide, .cons ⟨_, rfl⟩ (.cons ⟨_, rfl⟩ .nil)⟩
/-- the words of the module -/
structure WF (K : PySem.W.Frag) (R : Addr) (t1 t2 t3 t4 t5 t6 : Tok) : Prop where
  l : PySem.W.nsIn K mainGlobals "LETTERS" = some (some (.str LT t1))
  d : PySem.W.nsIn K mainGlobals "DIGITS" = some (some (.str DG t2))
  n : PySem.W.nsIn K mainGlobals "MOST_NAME_LENGTH" = some (some (.int 8 t3))
  r : PySem.W.nsIn K mainGlobals "RESERVED" = some (some (.ref R))
  a : PySem.W.nsIn K mainGlobals "MOST_AXES" = some (some (.int 3 t4))
  m : PySem.W.nsIn K mainGlobals "MOST_MEMBERS" = some (some (.int 4 t5))
  c : PySem.W.nsIn K mainGlobals "MOST_CELLS" = some (some (.int 8 t6))
theorem all_mk {P : Program} {w : World} {K : PySem.W.Frag} {h : Heap} {mg : Str → Option Value} {fa C E B R : Addr} {t1 t2 t3 t4 t5 t6 : Tok} (X : K.In h) (G : h.Ns mainGlobals mg) (hfa : mg "law" = some (.ref fa)) (T : Txt K mg) (GT : GTxt K mg C E B) (c : CF K C) (wf : WF K R t1 t2 t3 t4 t5 t6) (sR : ∀ H, SqT K H R [.str "sum", .str "each"])
    (gE : ∃ f, PySem.W.findIn K (.ref E) "__init__" = some (some (.ref f)) ∧ PySem.W.typeIn K (.ref f) = some (.type "function") ∧ ∃ fd, FnP K "__init__" "NoGrid.__init__" sErr [] f fd)
    (gM : ∃ f, PySem.W.findIn K (.ref C) "__init__" = some (some (.ref f)) ∧ PySem.W.isFn K (.ref f) = true ∧ ∃ fd, FnP K "__init__" "Grid.__init__" sInit [] f fd)
    (g1 : MF K C "__eq__" "Grid.__eq__" sEq)
    (f1 : GF K "is_sequence" sSeq) (f2 : GF K "is_pair" sPair) (f3 : GF K "is_word" sWord) (f4 : GF K "is_name" sName) (f5 : GF K "are_names" sNames) (f6 : GF K "are_unlike_names" sUnlike) (f7 : GF K "are_pairs_of_axes" sAxes) (f8 : GF K "are_members" sMem) (f9 : GF K "cells_of" sCells) (f10 : GF K "_law_stream" sStream) (f11 : GF K "_law_draw" sDraw) (f12 : GF K "_law_names" sLNames) (f13 : GF K "_law_axes" sLAxes) (f14 : GF K "_law_cells" sLCells) (f15 : GF K "_law_wide" sLWide) (f16 : GF K "_law_odd" sLOdd) (f17 : GF K "_law_spoiled" sLSpoil) (f18 : GF K "_law_is_name" sLIsName) (f19 : GF K "_law_is_row" sLIsRow) (f20 : GF K "_law_wrong" sLWrong) (f21 : GF K "_law_made" sLMade) (f22 : GF K "_law_right" sLRight) (f23 : GF K "law" sLaw) :
    ∃ fd : FuncData, (∀ (s : Shared) (v : Value), BindsTo s fd ⟨[v], []⟩ [("script", v)]) ∧ ∀ base : Heap, K.In base → base.Ns mainGlobals mg → FnOk P w K mg base CX0 9 fa fd ["script"] (spLaw K) := by
  obtain ⟨fL, aL, fdL, FL⟩ := f23
  have e := hfa.symm.trans (PySem.W.mg_of X G aL)
  cases e
  have bL := FL.bindsA (ps := ["script"]) fun _ _ _ _ _ _ us hl => match us, hl with | [_], _ => rfl
  refine ⟨fdL, fun s v => bL s [v] rfl, fun base _ _ => ?_⟩
  have hL := PySem.W.mg_of X G wf.l
  have hD := PySem.W.mg_of X G wf.d
  have hN := PySem.W.mg_of X G wf.n
  have hR := PySem.W.mg_of X G wf.r
  have hA := PySem.W.mg_of X G wf.a
  have hM := PySem.W.mg_of X G wf.m
  have hC := PySem.W.mg_of X G wf.c
  have GE : ErrOk P w K mg base E 1 ["self", "word"] (spErr K E) := by
    obtain ⟨f, a, t, fd, F⟩ := gE
    exact ⟨f, fd, ok_err F GT, a, t, F.bindsN fun _ _ _ _ _ _ us hl => match us, hl with | [_, _], _ => rfl⟩
  have D1 : GloOk P w K mg base CX0 1 "is_sequence" ["found"] spSeq := f1.ok X G (fun f fd F => ok_seq F T) fun _ _ _ _ _ _ us hl => match us, hl with | [_], _ => rfl
  have D2 : GloOk P w K mg base CX0 2 "is_pair" ["found"] spPair := f2.ok X G (fun f fd F => ok_pair F T D1) fun _ _ _ _ _ _ us hl => match us, hl with | [_], _ => rfl
  have D3 : GloOk P w K mg base CX0 1 "is_word" ["found"] spWord := f3.ok X G (fun f fd F => ok_word F T hL hD hN) fun _ _ _ _ _ _ us hl => match us, hl with | [_], _ => rfl
  have D4 : GloOk P w K mg base CX0 2 "is_name" ["found"] spName := f4.ok X G (fun f fd F => ok_name F T hR sR D3) fun _ _ _ _ _ _ us hl => match us, hl with | [_], _ => rfl
  have D5 : GloOk P w K mg base CX0 3 "are_names" ["found"] spNames := f5.ok X G (fun f fd F => ok_names F T D1 D4) fun _ _ _ _ _ _ us hl => match us, hl with | [_], _ => rfl
  have D6 : GloOk P w K mg base CX0 4 "are_unlike_names" ["found"] spUnlike := f6.ok X G (fun f fd F => ok_unlike F T D5) fun _ _ _ _ _ _ us hl => match us, hl with | [_], _ => rfl
  have D7 : GloOk P w K mg base CX0 3 "are_pairs_of_axes" ["axes"] spAxes := f7.ok X G (fun f fd F => ok_axes F T hA D1 D2) fun _ _ _ _ _ _ us hl => match us, hl with | [_], _ => rfl
  have D8 : GloOk P w K mg base CX0 5 "are_members" ["found"] spMem := f8.ok X G (fun f fd F => ok_mem F T hM D6) fun _ _ _ _ _ _ us hl => match us, hl with | [_], _ => rfl
  have D9 : GloOk P w K mg base CX0 1 "cells_of" ["axes"] spCells := f9.ok X G (fun f fd F => ok_cells F T) fun _ _ _ _ _ _ us hl => match us, hl with | [_], _ => rfl
  have D10 : GloOk P w K mg base CX0 1 "_law_stream" ["script", "k"] (spStream K) := f10.ok X G (fun f fd F => ok_stream F T) fun _ _ _ _ _ _ us hl => match us, hl with | [_, _], _ => rfl
  have D11 : GloOk P w K mg base CX0 1 "_law_draw" ["stream", "many"] spDraw := f11.ok X G (fun f fd F => ok_draw F T) fun _ _ _ _ _ _ us hl => match us, hl with | [_, _], _ => rfl
  have D12 : GloOk P w K mg base CX0 2 "_law_names" ["stream", "many"] spLNames := f12.ok X G (fun f fd F => ok_lnames F T D11) fun _ _ _ _ _ _ us hl => match us, hl with | [_, _], _ => rfl
  have D13 : GloOk P w K mg base CX0 3 "_law_axes" ["stream"] spLAxes := f13.ok X G (fun f fd F => ok_laxes F T D11 D12) fun _ _ _ _ _ _ us hl => match us, hl with | [_], _ => rfl
  have D14 : GloOk P w K mg base CX0 1 "_law_cells" ["axes"] spLCells := f14.ok X G (fun f fd F => ok_lcells F T) fun _ _ _ _ _ _ us hl => match us, hl with | [_], _ => rfl
  have D15 : GloOk P w K mg base CX0 3 "_law_wide" ["stream"] spLAxes := f15.ok X G (fun f fd F => ok_lwide F T D11 D12) fun _ _ _ _ _ _ us hl => match us, hl with | [_], _ => rfl
  have D16 : GloOk P w K mg base CX0 2 "_law_odd" ["stream"] spLOdd := f16.ok X G (fun f fd F => ok_lodd F T D11) fun _ _ _ _ _ _ us hl => match us, hl with | [_], _ => rfl
  have D17 : GloOk P w K mg base CX0 3 "_law_spoiled" ["stream", "axes"] spLSpoil := f17.ok X G (fun f fd F => ok_lspoil F T D11 D16) fun _ _ _ _ _ _ us hl => match us, hl with | [_, _], _ => rfl
  have D18 : GloOk P w K mg base CX0 1 "_law_is_name" ["thing"] spLIsName := f18.ok X G (fun f fd F => ok_lisname F T) fun _ _ _ _ _ _ us hl => match us, hl with | [_], _ => rfl
  have D19 : GloOk P w K mg base CX0 1 "_law_is_row" ["thing", "least", "most"] spLIsRow := f19.ok X G (fun f fd F => ok_lisrow F T) fun _ _ _ _ _ _ us hl => match us, hl with | [_, _, _], _ => rfl
  have D20 : GloOk P w K mg base CX0 2 "_law_wrong" ["axes"] spLWrong := f20.ok X G (fun f fd F => ok_lwrong F T D19 D18) fun _ _ _ _ _ _ us hl => match us, hl with | [_], _ => rfl
  have GM : MkOk P w K mg base C (L2.CX P w) 6 ["self", "axes"] (spInit K C E) := by
    obtain ⟨f, a, i, fd, F⟩ := gM
    exact ⟨f, fd, ok_init F T GT hC GE D7 D6 D8 D9, ⟨c.mks, a, i, c.kc⟩, F.bindsN fun _ _ _ _ _ _ us hl => match us, hl with | [_, _], _ => rfl⟩
  have GQ : MthOk P w K mg base C CX0 1 "__eq__" ["self", "other"] (spEq K C) := g1.ok (fun f fd F => ok_eq F T GT) fun _ _ _ _ _ _ us hl => match us, hl with | [_, _], _ => rfl
  have D21 : GloOk P w K mg base CX0 8 "_law_made" ["axes"] (spLMade K C) := f21.ok X G (fun f fd F => ok_lmade F T GT GM) fun _ _ _ _ _ _ us hl => match us, hl with | [_], _ => rfl
  have D22 : GloOk P w K mg base CX0 2 "_law_right" ["grid", "axes"] (spLRight C) := f22.ok X G (fun f fd F => ok_lright F T GT D14) fun _ _ _ _ _ _ us hl => match us, hl with | [_, _], _ => rfl
  have hnt : PySem.W.notFirst K C (.type "tuple") = true := by
    show (_ || _) = true
    rw [c.s3]
    rfl
  exact ok_law FL T GT c.ne hnt (kit_tyc c.ic c.ty c.s3) GM GQ D10 D11 D13 D15 D17 D19 D21 D20 D22
theorem walk {l : PySem.W.OpenLaw} {q : Program} {loose : List Str} {XP : (Str → Option Value) → Heap → Prop} {YP : World → Heap → Prop} {d : DefRec} {K : Params → PySem.W.Frag} (hn : l.most = some 63) (hdf : d.params.defaults = [])
    (hY : ∀ (w : World) (h : Heap), YP w h → (K w.params).In h)
    (F : ∀ (w : World) (mg : Str → Option Value) (fa : Addr) (h : Heap), (K w.params).In h → h.Ns mainGlobals mg → mg d.name = some (.ref fa) →
      ∃ fd : FuncData, (∀ (s : Shared) (u : Value), BindsTo s fd ⟨[u], []⟩ [("script", u)]) ∧ ∀ base : Heap, (K w.params).In base → base.Ns mainGlobals mg → FnOk l.prog w (K w.params) mg base CX0 9 fa fd ["script"] (spLaw (K w.params))) :
    PySem.W.WalkO q loose XP YP l.row.toRowW d [] (fun f vs => PySem.call f vs) :=
  L2.walk_of (n := 63) (k := 9) (x := "script") (CX := fun _ => CX0) (sp := fun w => spLaw (K w.params)) hn (by decide) hdf ⟨rfl, by decide, by decide⟩ hY F (fun _ _ a ns hl _ hS => ⟨a, ns, rfl, hS, hl, fun _ => rfl⟩) fun _ _ _ _ _ z => z
end K4

set_option Elab.async false
open PySem PySem.W PyProof.Rows
local macro_rules | `(tactic| walk_at "k4 global") => `(tactic| (refine' ⟨_, ?a, K4.fnp ?l ?c ?k⟩; (case a => k_is); (case l => k_is); (case c => k_is); (case k => k_is)))
local macro_rules | `(tactic| walk_at "k4 method") => `(tactic| (refine' ⟨_, ?a, ?i, K4.fnp ?l ?c ?k⟩; (case a => k_is); (case i => k_is); (case l => k_is); (case c => k_is); (case k => k_is)))
set_option maxRecDepth 100000 in
set_option maxHeartbeats 0 in
theorem PySem.Challenge.cw_toldwithin_k04_grids_made_or_refused_holds : PySem.Challenge.rw_toldwithin_k04_grids_made_or_refused.Holds := by
  w_on; o_law; k_head; (case hw => w_witness2)
  k_fill
  refine K4.walk (l := PySem.Challenge.rw_toldwithin_k04_grids_made_or_refused) rfl rfl (fun w h Y => PySem.W.kIn_of Y) ?F
  case F =>
    intro w mg fa h KX G hmg
    refine' K4.all_mk KX G hmg (K4.txt_mk KX G ?nf) (K4.gtxt_mk KX G ?aC ?aE ?aB ?ne ?cf ?ef ?xL ?rf) ?cf ?wf (K4.two_strs ?sR) ?gE ?gM ?g1 ?f1 ?f2 ?f3 ?f4 ?f5 ?f6 ?f7 ?f8 ?f9 ?f10 ?f11 ?f12 ?f13 ?f14 ?f15 ?f16 ?f17 ?f18 ?f19 ?f20 ?f21 ?f22 ?f23
    (case aC => k_is); (case aE => k_is); (case aB => k_is); (case ne => decide); (case xL => k_is); (case rf => decide +kernel)
    (case cf => constructor <;> k_is)
    (case ef => constructor <;> first | k_is | rfl)
    (case nf => constructor <;> k_is)
    (case wf => constructor <;> k_is)
    (case sR => k_is)
    (case gE => (refine' ⟨_, ?za, ?zt, K4.fnp ?zl ?zc ?zk⟩; (case za => k_is); (case zt => k_is); (case zl => k_is); (case zc => k_is); (case zk => k_is)))
    (case gM => (refine' ⟨_, ?ya, ?yi, K4.fnp ?yl ?yc ?yk⟩; (case ya => k_is); (case yi => k_is); (case yl => k_is); (case yc => k_is); (case yk => k_is)))
    (case g1 => walk_at "k4 method")
    (case f1 => walk_at "k4 global"); (case f2 => walk_at "k4 global"); (case f3 => walk_at "k4 global"); (case f4 => walk_at "k4 global"); (case f5 => walk_at "k4 global"); (case f6 => walk_at "k4 global"); (case f7 => walk_at "k4 global"); (case f8 => walk_at "k4 global"); (case f9 => walk_at "k4 global"); (case f10 => walk_at "k4 global"); (case f11 => walk_at "k4 global"); (case f12 => walk_at "k4 global"); (case f13 => walk_at "k4 global"); (case f14 => walk_at "k4 global"); (case f15 => walk_at "k4 global"); (case f16 => walk_at "k4 global"); (case f17 => walk_at "k4 global"); (case f18 => walk_at "k4 global"); (case f19 => walk_at "k4 global"); (case f20 => walk_at "k4 global"); (case f21 => walk_at "k4 global"); (case f22 => walk_at "k4 global"); (case f23 => walk_at "k4 global")
