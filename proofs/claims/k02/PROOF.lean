import PyProof.Rows.All
import Wide.All
import OpenK.AllK
import Wide.FinOn
import KE.KOpsOwn
import HandS.Base
import HandS.Call
import HandS.List
import HandS.Exc
import HandS.IsInst
import HandS.Wide
import HandS.ExcField
import HandS.ExcInit
import HandS.TryOnly
import HandS.WordsExc
import HandS.Defaults
import HandS.MakeKw
import HandS.Gcd
import HandS.WordsList
import HandS.Dict
import HandS.Comp
import HandS.Ends
import PySem.Challenge.RW_toldwithin_k02_ratios_made_and_reckoned
/-! plain mathematics of fractions in lowest terms -/
namespace Rt
/-- the divisor that takes the sign of the bottom -/
def shr (p q : Int) : Int := if 0 < q then (Nat.gcd p.natAbs q.natAbs : Nat) else -((Nat.gcd p.natAbs q.natAbs : Nat) : Int)
def nrmT (p q : Int) : Int := p.fdiv (shr p q)
def nrmB (p q : Int) : Int := q.fdiv (shr p q)
/-- lowest terms -/
structure Low (t b : Int) : Prop where
  pos : 0 < b
  cop : Nat.gcd t.natAbs b.natAbs = 1
theorem gcd_pos {p q : Int} (h : q ≠ 0) : 0 < Nat.gcd p.natAbs q.natAbs := Nat.gcd_pos_of_pos_right _ (by omega)
theorem shr_ne {p q : Int} (h : q ≠ 0) : shr p q ≠ 0 := by
  have := gcd_pos (p := p) h
  unfold shr
  split <;> omega
theorem shr_abs (p q : Int) : (shr p q).natAbs = Nat.gcd p.natAbs q.natAbs := by
  unfold shr
  split <;> omega
theorem shr_dvd_l (p q : Int) : shr p q ∣ p := by
  rw [← Int.natAbs_dvd_natAbs, shr_abs]
  exact Nat.gcd_dvd_left _ _
theorem shr_dvd_r (p q : Int) : shr p q ∣ q := by
  rw [← Int.natAbs_dvd_natAbs, shr_abs]
  exact Nat.gcd_dvd_right _ _
theorem fdiv_mul {s p : Int} (hs : s ≠ 0) (h : s ∣ p) : s * p.fdiv s = p := by
  obtain ⟨c, rfl⟩ := h
  rw [Int.mul_fdiv_cancel_left _ hs]
theorem nrm_low {p q : Int} (h : q ≠ 0) : Low (nrmT p q) (nrmB p q) := by
  have hs := shr_ne (p := p) h
  have e1 : shr p q * nrmT p q = p := fdiv_mul hs (shr_dvd_l p q)
  have e2 : shr p q * nrmB p q = q := fdiv_mul hs (shr_dvd_r p q)
  have hg := gcd_pos (p := p) h
  refine ⟨?_, ?_⟩
  · by_cases c : 0 < q
    · have sp : 0 < shr p q := by unfold shr; rw [if_pos c]; omega
      have : 0 < shr p q * nrmB p q := by rw [e2]; exact c
      exact Int.pos_of_mul_pos_right this sp |> fun z => z
    · have sn : shr p q < 0 := by unfold shr; rw [if_neg c]; omega
      have hq : q < 0 := by omega
      by_cases z : 0 < nrmB p q
      · exact z
      · exfalso
        have z1 : nrmB p q ≤ 0 := by omega
        have : 0 ≤ shr p q * nrmB p q := Int.mul_nonneg_of_nonpos_of_nonpos (Int.le_of_lt sn) z1
        omega
  · have g1 : Nat.gcd p.natAbs q.natAbs = (shr p q).natAbs * Nat.gcd (nrmT p q).natAbs (nrmB p q).natAbs := by
      have a1 : p.natAbs = (shr p q).natAbs * (nrmT p q).natAbs := by rw [← Int.natAbs_mul, e1]
      have a2 : q.natAbs = (shr p q).natAbs * (nrmB p q).natAbs := by rw [← Int.natAbs_mul, e2]
      rw [a1, a2, Nat.gcd_mul_left]
    rw [shr_abs] at g1
    have g2 : Nat.gcd p.natAbs q.natAbs * 1 = Nat.gcd p.natAbs q.natAbs * Nat.gcd (nrmT p q).natAbs (nrmB p q).natAbs := by omega
    exact (Nat.eq_of_mul_eq_mul_left hg g2).symm
theorem nrm_of_low {t b : Int} (h : Low t b) : nrmT t b = t ∧ nrmB t b = b := by
  have e : shr t b = 1 := by
    unfold shr
    rw [if_pos h.pos, h.cop]
    rfl
  unfold nrmT nrmB
  rw [e]
  exact ⟨Int.fdiv_one _, Int.fdiv_one _⟩
theorem Low.neg {t b : Int} (h : Low t b) : Low (-t) b := ⟨h.pos, by rw [Int.natAbs_neg]; exact h.cop⟩
theorem Low.abs {t b : Int} (h : Low t b) : Low (if t < 0 then -t else t) b := by
  split
  · exact h.neg
  · exact h
theorem nrm_le {p q : Int} (h : q ≠ 0) : (nrmT p q).natAbs ≤ p.natAbs ∧ (nrmB p q).natAbs ≤ q.natAbs := by
  have hs := shr_ne (p := p) h
  have e1 : shr p q * nrmT p q = p := fdiv_mul hs (shr_dvd_l p q)
  have e2 : shr p q * nrmB p q = q := fdiv_mul hs (shr_dvd_r p q)
  have k : 1 ≤ (shr p q).natAbs := by omega
  refine ⟨?_, ?_⟩
  · conv => rhs; rw [← e1, Int.natAbs_mul]
    exact Nat.le_mul_of_pos_left _ k
  · conv => rhs; rw [← e2, Int.natAbs_mul]
    exact Nat.le_mul_of_pos_left _ k
/-! Euclid's steps, counted -/
/-- behind i turns -/
structure Eu (g n i : Nat) (a b : Nat) : Prop where
  gcd : Nat.gcd a b = g
  step : b = 0 ∨ (i = 0 ∧ b < 2 ^ n) ∨ (b < a ∧ a * b * 2 ^ i < 2 ^ (2 * n + 1))
theorem Eu.start {a b n : Nat} (h : b < 2 ^ n) : Eu (Nat.gcd a b) n 0 a b := ⟨rfl, .inr (.inl ⟨rfl, h⟩)⟩
theorem Eu.turn {g n i a b : Nat} (h : Eu g n i a b) (hb : b ≠ 0) : Eu g n (i + 1) b (a % b) := by
  have hlt : a % b < b := Nat.mod_lt _ (by omega)
  refine ⟨?_, ?_⟩
  · rw [← h.gcd, Nat.gcd_comm a b, Nat.gcd_rec b a, Nat.gcd_comm]
  · rcases h.step with z | ⟨rfl, z⟩ | ⟨z, y⟩
    · exact absurd z hb
    · right; right
      refine ⟨hlt, ?_⟩
      have h1 : b * (a % b) < 2 ^ n * 2 ^ n := by
        have : b * (a % b) ≤ b * b := Nat.mul_le_mul_left _ (Nat.le_of_lt hlt)
        exact Nat.lt_of_le_of_lt this (Nat.mul_lt_mul'' z z)
      rw [show 2 * n + 1 = n + n + 1 by omega, Nat.pow_succ 2 (n + n), Nat.pow_add 2 n n]
      show b * (a % b) * 2 ^ 1 < _
      omega
    · right; right
      refine ⟨hlt, ?_⟩
      have hd := Nat.div_add_mod a b
      have hq : 1 ≤ a / b := Nat.div_pos (Nat.le_of_lt z) (by omega)
      have h2 : b ≤ b * (a / b) := Nat.le_mul_of_pos_right _ hq
      have h3 : 2 * (a % b) ≤ a := by omega
      have h4 : b * (a % b) * 2 ≤ a * b := by
        have : b * (2 * (a % b)) ≤ b * a := Nat.mul_le_mul_left _ h3
        rw [Nat.mul_comm a b, Nat.mul_assoc, Nat.mul_comm (a % b) 2]
        exact this
      refine Nat.lt_of_le_of_lt ?_ y
      rw [Nat.pow_succ, Nat.mul_comm (2 ^ i) 2, ← Nat.mul_assoc]
      exact Nat.mul_le_mul_right _ h4
theorem Eu.last {g n i a b : Nat} (h : Eu g n i a b) (hi : 2 * n + 1 ≤ i) : b = 0 := by
  rcases h.step with z | ⟨z, _⟩ | ⟨z, y⟩
  · exact z
  · omega
  · by_cases c : b = 0
    · exact c
    · exfalso
      have h1 : 1 ≤ a * b := Nat.mul_pos (by omega) (by omega)
      have h2 : 2 ^ (2 * n + 1) ≤ 2 ^ i := Nat.pow_le_pow_right (by omega) hi
      have h3 : 1 * 2 ^ i ≤ a * b * 2 ^ i := Nat.mul_le_mul_right _ h1
      omega
theorem Eu.done {g n i a b : Nat} (h : Eu g n i a b) (hb : b = 0) : a = g := by
  rw [← h.gcd, hb, Nat.gcd_zero_right]
end Rt

set_option Elab.async false
set_option linter.all false
set_option maxRecDepth 100000
set_option maxHeartbeats 2000000
/-! operators of a class of one's own, over the layer -/
namespace PySem.OwnOps
open PySem PySem.W PySem.Calls
section
variable {prog : Program} {w : World} {A : Around} {E : Value → Shared → Prop} {s : Shared} {K : Frag} {x C g q : Addr} {ox : Obj} {od : Option Obj}
/-- what an int's own binary method says of an instance: that it knows nothing of it -/
theorem int_knows_not {B : Builtin} {nm : String} {f : Int → Int → Sem Fin} {n : Int} {t : Tok} (hB : B = Builtin.Int.intBinary nm f) (ho : s.heap.get? x = some ox) (hp : ox.data = .plain) {Q : Fin → Shared → Prop}
    (h : Q (.done (.ret .notImplemented)) s) : wpAny (model prog w) A (B ⟨[.int n t, .ref x], []⟩) Q E s := by
  subst hB
  obtain ⟨hp', g, d, tk, os⟩ := s
  obtain ⟨oc, odd, dt, sl⟩ := ox
  dsimp only at hp
  subst hp
  unfold Builtin.Int.intBinary
  wp_walk using wpAny_load' ho
  exact h
/-- int op instance: the int's own method knows nothing of it, so the instance's reflected one is asked -/
theorem refl_int {op : Operator} {id : String} {B : Builtin} {nm : String} {f : Int → Int → Sem Fin} {n : Int} {t : Tok} {Q : Value → Shared → Prop} (X : K.In s.heap) (I : InstAt s.heap x ox C od) (hp : ox.data = .plain)
    (hc : selfFirst K C = true) (hs : findIn K (.ref C) (dunderR op.info.2) = some (some (.ref g))) (hf : isFn K (.ref g) = true)
    (hl : findIn K (.ref C) (PySem.dunder op.info.2) = some (some (.ref q)))
    (hfi : fillsNumberSlot (.type "int") op.info.2 = pure true) (slot : Slot "int" (PySem.dunder op.info.2) id) (entry : entryFor table id = some B) (args : ∀ b : Value, argsOk id ⟨[.int n t, b], []⟩)
    (hB : B = Builtin.Int.intBinary nm f)
    (hsub : subIn K (.ref C) (.type "int") = some false)
    (h : wpAny (model prog w) A (call (.ref g) [.ref x, .int n t]) (W.CmpBack Q) E s) : wpAny (model prog w) A (binaryOp op (.int n t) (.ref x)) Q E s := by
  obtain ⟨cd, rest, hcd, hm⟩ := ksp_first hc
  rcases hi : op.info with ⟨sym, nm'⟩
  rw [hi] at hs hl hfi slot
  dsimp only at hs hl hfi slot
  have one : wpAny (model prog w) A (tryMethod (.int n t) (PySem.dunder nm') (.ref x)) (fun r s' => r = none ∧ s' = s) E s := by
    unfold tryMethod
    refine wpAny_bind (wpAny_callSpecial?_slot (typeIs_int s n t) slot ?_)
    refine wpAny_call (codeAny_call_builtin slot.plain entry (slot.check _ _ _ _ _ _ _ _ (typeIs_int s n t) (args _) ?_))
    refine int_knows_not hB I.1 hp ?_
    exact wpAny_pure ⟨rfl, rfl⟩
  have two := ksp_try X I hs hf h
  obtain ⟨hh, g', d, tt, os⟩ := s
  have L1 : Looks (model prog w) hh (typeOf (.ref x)) (.ref C) := I.type
  have L2 : Looks (model prog w) hh (typeOf (.int n t)) (.type "int") := Looks.of_pure rfl
  have L3 : Looks (model prog w) hh (fillsNumberSlot (.ref C) nm') true := fills_K X hcd hm hl
  have L4 : Looks (model prog w) hh (fillsNumberSlot (.type "int") nm') true := Looks.of_pure hfi
  have L5 : Looks (model prog w) hh (isSubtype (.ref C) (.type "int")) false := looks_subIn X hsub
  have L7 : Looks (model prog w) hh (numberSlotInPython (.type "int") nm') false := Looks.of_pure rfl
  have hne : (Value.type "int" == Value.ref C) = false := Bool.eq_false_iff.mpr fun q => by cases beq_iff_eq.mp q
  simp only [binaryOp, hi]
  refine wpAny_holding (wpAny_bind ?_)
  unfold binaryOp1
  refine wpAny_bind (L2.at (wpAny_bind (L1.at (wpAny_bind (L4.at ?_)))))
  simp only [hne, Bool.false_eq_true, if_false]
  ksp_lk
  refine wpAny_mono one (fun r s' hr' => ?_) fun _ _ e => e
  obtain ⟨rfl, rfl⟩ := hr'
  ksp_lk
  refine wpAny_mono two (fun r s' hr' => ?_) fun _ _ e => e
  obtain ⟨v, rfl, hq⟩ := hr'
  ksp_lk
  exact hq
end
end PySem.OwnOps

set_option Elab.async false
set_option linter.all false
set_option maxRecDepth 100000
set_option maxHeartbeats 2000000
namespace L2
open PySem PySem.Spec PyProof.Rows
theorem backs {P : Value → Shared → Prop} {z : V} {v : Value} {s' : Shared} (r : RelV z v) (h : P v s') : PySem.W.CmpBack P v s' := by
  cases z <;> first
    | (obtain ⟨t, e⟩ := (show ∃ t, _ from r); subst e; exact h)
    | (have e := (show v = _ from r); subst e; exact h)
section
variable {X : Cx} {CX : CXT} {C g q : Addr} {fd : FuncData} {ps : List Str} {k : Nat} {sp : Sp} {E : XK}
/-- what of the class its operators ask -/
structure OwnC (K : PySem.W.Frag) (C : Addr) : Prop where
  first : PySem.W.selfFirst K C = true
  subI : PySem.W.subIn K (.type "int") (.ref C) = some false
  subC : PySem.W.subIn K (.ref C) (.type "int") = some false
/-- both are of the class -/
theorem op_same {op : Operator} (T : OwnC X.K C) (hs : PySem.W.findIn X.K (.ref C) (PySem.dunder op.info.2) = some (some (.ref g))) (hf : PySem.W.isFn X.K (.ref g) = true)
    (F : FnOk X.prog X.w X.K X.mg X.base CX k g fd ps sp) (hr : Room k X.A) (hb : Binds X.K fd ps []) (hx : Passes CX X E) :
    OpR X (binaryOp op) (fun x y H Q => ∃ a dx fs b dy gs, x = .ref a ∧ y = .ref b ∧ H a = some (.ins C dx fs) ∧ H b = some (.ins C dy gs) ∧ sp [x, y] H Q E) := by
  intro pins s σ H x y v u Q I rx ry h
  obtain ⟨a, dx, fs, b, dy, gs, rfl, rfl, ha, hb', z⟩ := h
  cases (show v = Value.ref a from rx)
  cases (show u = Value.ref b from ry)
  obtain ⟨mA, O, _⟩ := ins_get I.hok ha
  obtain ⟨od, J, _⟩ := O.look
  obtain ⟨mB, O', _⟩ := ins_get I.hok hb'
  obtain ⟨od', J', _⟩ := O'.look
  obtain ⟨m, hF⟩ := I.fr
  refine PySem.W.binop_K hF I.ok.mod.kin J J'.type T.first hs hf ?_
  refine wpAny_mono (run_fn (us := [.ref a, .ref b]) (vs := [.ref a, .ref b]) F hr hb .nil hx I (.cons rfl (.cons rfl .nil)) z) (fun w s' z => ?_) fun _ _ x => x
  obtain ⟨z', H', I', rz, qz⟩ := z
  exact backs rz ⟨z', H', I', rz, qz⟩
/-- an instance op an int -/
theorem op_instInt {op : Operator} {fo ro : Option Value} (T : OwnC X.K C) (hs : PySem.W.findIn X.K (.ref C) (PySem.dunder op.info.2) = some (some (.ref g))) (hf : PySem.W.isFn X.K (.ref g) = true)
    (hr' : PySem.W.findIn X.K (.ref C) (dunderR op.info.2) = some (some (.ref q)))
    (h1 : PySem.W.findIn X.K (.type "int") (PySem.dunder op.info.2) = some fo) (h2 : PySem.W.findIn X.K (.type "int") (dunderR op.info.2) = some ro)
    (F : FnOk X.prog X.w X.K X.mg X.base CX k g fd ps sp) (hr : Room k X.A) (hb : Binds X.K fd ps []) (hx : Passes CX X E) :
    OpR X (binaryOp op) (fun x y H Q => ∃ a dx fs n, x = .ref a ∧ y = .int n ∧ H a = some (.ins C dx fs) ∧ sp [x, y] H Q E) := by
  intro pins s σ H x y v u Q I rx ry h
  obtain ⟨a, dx, fs, n, rfl, rfl, ha, z⟩ := h
  cases (show v = Value.ref a from rx)
  obtain ⟨t, e⟩ := (show ∃ t, u = Value.int n t from ry)
  subst e
  obtain ⟨mA, O, _⟩ := ins_get I.hok ha
  obtain ⟨od, J, _⟩ := O.look
  obtain ⟨m, hF⟩ := I.fr
  refine PySem.W.ksp_binT hF I.ok.mod.kin J rfl T.first hs hf hr' (.inr ⟨_, rfl⟩) h1 h2 T.subI ?_
  refine wpAny_mono (run_fn (us := [.ref a, .int n t]) (vs := [.ref a, .int n]) F hr hb .nil hx I (.cons rfl (.cons ⟨t, rfl⟩ .nil)) z) (fun w s' z => ?_) fun _ _ x => x
  obtain ⟨z', H', I', rz, qz⟩ := z
  exact backs rz ⟨z', H', I', rz, qz⟩
/-- an int op an instance -/
theorem op_intInst {op : Operator} {id : String} {B : Builtin} {nm : String} {f : Int → Int → Sem Fin} (T : OwnC X.K C) (hs : PySem.W.findIn X.K (.ref C) (dunderR op.info.2) = some (some (.ref g))) (hf : PySem.W.isFn X.K (.ref g) = true)
    (hl : PySem.W.findIn X.K (.ref C) (PySem.dunder op.info.2) = some (some (.ref q)))
    (hfi : fillsNumberSlot (.type "int") op.info.2 = pure true) (slot : Slot "int" (PySem.dunder op.info.2) id) (entry : entryFor table id = some B) (args : ∀ a b : Value, argsOk id ⟨[a, b], []⟩)
    (hB : B = Builtin.Int.intBinary nm f)
    (F : FnOk X.prog X.w X.K X.mg X.base CX k g fd ps sp) (hr : Room k X.A) (hb : Binds X.K fd ps []) (hx : Passes CX X E) :
    OpR X (binaryOp op) (fun x y H Q => ∃ n a dx fs, x = .int n ∧ y = .ref a ∧ H a = some (.ins C dx fs) ∧ sp [y, x] H Q E) := by
  intro pins s σ H x y v u Q I rx ry h
  obtain ⟨n, a, dx, fs, rfl, rfl, ha, z⟩ := h
  cases (show u = Value.ref a from ry)
  obtain ⟨t, e⟩ := (show ∃ t, v = Value.int n t from rx)
  subst e
  obtain ⟨mA, O, _⟩ := ins_get I.hok ha
  obtain ⟨od, J, _⟩ := O.look
  refine PySem.OwnOps.refl_int I.kIn J rfl T.first hs hf hl hfi slot entry (args _) hB T.subC ?_
  refine wpAny_mono (run_fn (us := [.ref a, .int n t]) (vs := [.ref a, .int n]) F hr hb .nil hx I (.cons rfl (.cons ⟨t, rfl⟩ .nil)) z) (fun w s' z => ?_) fun _ _ x => x
  obtain ⟨z', H', I', rz, qz⟩ := z
  exact backs rz ⟨z', H', I', rz, qz⟩
theorem op_addRI (T : OwnC X.K C) (hs : PySem.W.findIn X.K (.ref C) "__radd__" = some (some (.ref g))) (hf : PySem.W.isFn X.K (.ref g) = true) (hl : PySem.W.findIn X.K (.ref C) "__add__" = some (some (.ref q)))
    (F : FnOk X.prog X.w X.K X.mg X.base CX k g fd ps sp) (hr : Room k X.A) (hb : Binds X.K fd ps []) (hx : Passes CX X E) :
    OpR X (binaryOp .Add) (fun x y H Q => ∃ n a dx fs, x = .int n ∧ y = .ref a ∧ H a = some (.ins C dx fs) ∧ sp [y, x] H Q E) :=
  op_intInst (op := .Add) T hs hf hl PySem.F.fills_int_add PySem.F.slot_int_add PySem.F.entry_int_add (fun a b => PySem.F.args_int_add_2 a b) rfl F hr hb hx
theorem op_subRI (T : OwnC X.K C) (hs : PySem.W.findIn X.K (.ref C) "__rsub__" = some (some (.ref g))) (hf : PySem.W.isFn X.K (.ref g) = true) (hl : PySem.W.findIn X.K (.ref C) "__sub__" = some (some (.ref q)))
    (F : FnOk X.prog X.w X.K X.mg X.base CX k g fd ps sp) (hr : Room k X.A) (hb : Binds X.K fd ps []) (hx : Passes CX X E) :
    OpR X (binaryOp .Sub) (fun x y H Q => ∃ n a dx fs, x = .int n ∧ y = .ref a ∧ H a = some (.ins C dx fs) ∧ sp [y, x] H Q E) :=
  op_intInst (op := .Sub) T hs hf hl PySem.F.fills_int_sub PySem.F.slot_int_sub PySem.F.entry_int_sub (fun a b => PySem.F.args_int_sub_2 a b) rfl F hr hb hx
theorem op_mulRI (T : OwnC X.K C) (hs : PySem.W.findIn X.K (.ref C) "__rmul__" = some (some (.ref g))) (hf : PySem.W.isFn X.K (.ref g) = true) (hl : PySem.W.findIn X.K (.ref C) "__mul__" = some (some (.ref q)))
    (F : FnOk X.prog X.w X.K X.mg X.base CX k g fd ps sp) (hr : Room k X.A) (hb : Binds X.K fd ps []) (hx : Passes CX X E) :
    OpR X (binaryOp .Mult) (fun x y H Q => ∃ n a dx fs, x = .int n ∧ y = .ref a ∧ H a = some (.ins C dx fs) ∧ sp [y, x] H Q E) :=
  op_intInst (op := .Mult) T hs hf hl PySem.F.fills_int_mul PySem.F.slot_int_mul PySem.F.entry_int_mul (fun a b => PySem.F.args_int_mul_2 a b) rfl F hr hb hx
/-- -x -/
theorem un_negO (hs : PySem.W.findIn X.K (.ref C) "__neg__" = some (some (.ref g))) (hf : PySem.W.isFn X.K (.ref g) = true)
    (F : FnOk X.prog X.w X.K X.mg X.base CX k g fd ps sp) (hr : Room k X.A) (hb : Binds X.K fd ps []) (hx : Passes CX X E) :
    UnR X (unaryOp .USub) (fun x H Q => ∃ a dx fs, x = .ref a ∧ H a = some (.ins C dx fs) ∧ sp [x] H Q E) := by
  intro pins s σ H x v Q I rx h
  obtain ⟨a, dx, fs, rfl, ha, z⟩ := h
  cases (show v = Value.ref a from rx)
  obtain ⟨mA, O, _⟩ := ins_get I.hok ha
  obtain ⟨od, J, _⟩ := O.look
  obtain ⟨m, hF⟩ := I.fr
  exact PySem.W.ksp_neg hF I.ok.mod.kin J hs hf (run_fn (us := [.ref a]) (vs := [.ref a]) F hr hb .nil hx I (.cons rfl .nil) z)
/-- abs(x) -/
theorem call_absO (hs : PySem.W.findIn X.K (.ref C) "__abs__" = some (some (.ref g))) (hf : PySem.W.isFn X.K (.ref g) = true)
    (F : FnOk X.prog X.w X.K X.mg X.base CX k g fd ps sp) (hr : Room (k + 1) X.A) (hb : Binds X.K fd ps []) (hx : Passes CX X E) :
    CallR X (.builtin "abs") (fun xs H Q => ∃ a dx fs, xs = [.ref a] ∧ H a = some (.ins C dx fs) ∧ sp xs H Q E) := by
  intro pins s σ H xs us Q I r h
  obtain ⟨a, dx, fs, rfl, ha, z⟩ := h
  obtain ⟨u, rfl, ru⟩ := vals1 r
  cases (show u = Value.ref a from ru)
  obtain ⟨mA, O, _⟩ := ins_get I.hok ha
  obtain ⟨od, J, _⟩ := O.look
  refine PySem.Calls.call_function_entry kind_abs plain_abs entry_abs (args_abs _) ?_
  unfold Builtin.«abs»
  refine wpAny_bind (m := oneArg "abs" _) (wpAny_pure ?_)
  refine wpAny_bind (m := callSpecial? (.ref a) (Str.ofString "__abs__")) (PySem.W.special_fn I.kIn J hs (beq_iff_eq.mp hf) ?_)
  have hr1 : Room k X.A.in1 := hr.in1
  have hl : ([Value.ref a] ++ []).length = ps.length := by
    have e := F.len _ _ _ _ z
    exact e
  have r1 : Vals [V.ref a] [Value.ref a] := .cons rfl .nil
  have bd : BindsTo s fd ⟨[Value.ref a], []⟩ (ps.zip [Value.ref a]) := by
    have b1 := hb s [Value.ref a] I.kIn hl
    rw [List.append_nil] at b1
    exact b1
  refine wpAny_call (codeAny_mono (F.run X.A.in1 X.stack s H _ _ _ Q E hr1 I.env0.in1 bd r1 z) fun r s' hq => ?_)
  cases r with
  | error e => exact hx pins σ H s e s' I hq
  | ok fl =>
    cases fl with
    | ret u => exact wpAny_pure ⟨_, rfl, I.after hq⟩
    | next => exact False.elim hq
    | brk => exact False.elim hq
    | cont => exact False.elim hq
/-- // by any divisor but 0 of less than 9000 bits -/
def CDivX (_ j : Int) : Prop := j ≠ 0 ∧ j.natAbs.log2 < 9000
theorem op_fdivX : OpR X (binaryOp .FloorDiv) (rI CDivX fun i j => .int (i.fdiv j)) := opI fun _ _ _ _ _ _ _ hc q => floordiv_int hc.1 q (.inl (PyProof.noPylong_of_log2 hc.2))
theorem op_modX : OpR X (binaryOp .Mod) (rI (fun _ j => j ≠ 0) fun i j => .int (i.fmod j)) := op_modN
end
end L2

set_option Elab.async false
set_option linter.all false
set_option maxRecDepth 100000
set_option maxHeartbeats 2000000
namespace PySem.OwnOps
open PySem PySem.W PySem.Calls
section
variable {prog : Program} {w : World} {A : Around} {E : Value → Shared → Prop} {s : Shared} {K : Frag} {x : Addr} {t c : Value}
/-- isinstance says yes by the classes alone -/
theorem isi_by_class {Q : Value → Shared → Prop} (X : K.In s.heap) (L0 : Looks (model prog w) s.heap (typeOf (.ref x)) t) (hne : (t == c) = false) (e : kitCls K t c = some true) (h : Q (.bool true) s) :
    wpAny (model prog w) A (call (.builtin "isinstance") [.ref x, c]) Q E s := by
  obtain ⟨h0, g, d, tt, os⟩ := s
  obtain ⟨L1, L2, L3⟩ := kit_cls (M := model prog w) X e
  have L4 : Looks (model prog w) h0 (isInstance (.ref x) c) true := L0.andThen L3
  refine PyProof.Rows.call_isinstance_of ?_ (fun z => nomatch z)
  unfold Builtin.«isinstance.nested»
  refine wpAny_bind (L0.at ?_)
  rw [hne, if_neg Bool.false_ne_true]
  refine wpAny_bind (L1.at ?_)
  rw [if_pos (by decide)]
  k_delta "plainIsInstance"
  refine wpAny_bind (wpAny_bind (L2.at ?_))
  simp only [Bool.not_true, Bool.false_eq_true, if_false]
  refine wpAny_bind (L4.at ?_)
  first
    | exact wpAny_pure (wpAny_pure h)
    | (simp only [if_true]; exact wpAny_pure (wpAny_pure h))
    | (simp only [if_true]; exact wpAny_bind (wpAny_pure (wpAny_pure h)))
    | (simp only [if_true]; exact wpAny_pure h)
end
end PySem.OwnOps
namespace L2
open PySem PySem.Spec PyProof.Rows
/-- isinstance(e, c), e the exception that the suite holds, c a class above its own -/
theorem call_isUp {X : Cx} {a D B : Addr} {cls : Value} {d : Option Addr} {oe : Obj} {pn : List (Addr × Obj)} (hz : Zc cls d oe) (hne : D ≠ B) (hk : PySem.W.kitCls X.K (.ref D) (.ref B) = some true) :
    CallR (X.suite a ((a, oe) :: pn)) (.builtin "isinstance") (fun xs H Q => cls = .ref D ∧ xs = [.ref a, .ref B] ∧ Q (.bl true) H) := by
  intro pins s σ H xs us Q I r h
  obtain ⟨rfl, rfl, q⟩ := h
  obtain ⟨u1, u2, rfl, r1, r2⟩ := vals2 r
  cases (show u1 = Value.ref a from r1)
  cases (show u2 = Value.ref B from r2)
  obtain ⟨hget, _⟩ := I.pin (a, oe) (List.mem_append.mpr (.inl List.mem_cons_self))
  have L0 : PySem.W.Looks (model X.prog X.w) s.heap (typeOf (.ref a)) (.ref D) := by
    intro A Q E s' k q'
    unfold typeOf
    refine wpAny_bind (wpAny_loadPart (k _ _ hget) ?_)
    rw [hz.1]
    exact wpAny_pure q'
  exact PySem.OwnOps.isi_by_class I.kIn L0 (Bool.eq_false_iff.mpr fun z => hne (Value.ref.inj (beq_iff_eq.mp z))) hk ⟨.bl true, H, I.kept (t' := s.toks) fun _ _ z => z, rfl, q⟩
end L2

set_option Elab.async false
set_option linter.all false
set_option maxRecDepth 100000
set_option maxHeartbeats 2000000
namespace L2
open PySem PySem.Spec PyProof.Rows
/-- C(e, ..) in a try: what is raised is wished for at the slots as they stand -/
def tMakeS (C : Addr) (sp : Sp) (dvs : List V) (E : St → XK) (t : TA) : TE := fun σ H Q => t σ H fun vs H1 => ∀ x dx, H1 x = none → H1 dx = none → dx ≠ x →
  sp (.ref x :: (vs ++ dvs)) (upd (upd H1 dx (.own x)) x (.ins C dx [])) (fun v H2 => v = .non ∧ Q (.ref x) H2) (E σ)
/-- o.m(e, ..) in a try -/
def tMethS (C : Addr) (m : Str) (sp : Sp) (E : St → XK) (ta : TE) (t : TA) : TE := fun σ H Q => ta σ H fun x H1 => ∃ a dx fs, x = .ref a ∧ H1 a = some (.ins C dx fs) ∧ fs.lookup m = none ∧
  t σ H1 fun vs H2 => sp (x :: vs) H2 Q (E σ)
section
variable {X : Cx} {CX : CXT} {k : Nat} {g C : Addr} {fd : FuncData} {ps : List Str} {sp : Sp} {dvs : List V} {ds : List Value} {E : St → XK} {x m : Str} {p pos apos : Pos} {e o : Expr} {es : List Expr} {ta : TE} {t : TA}
theorem pe_makeS (M : Mk X.K C g) (F : FnOk X.prog X.w X.K X.mg X.base CX k g fd ps sp) (hr : Room (k + 1) X.A) (hg : Gl X x) (hm : X.mg x = some (.ref C)) (hb : Binds X.K fd ps ds) (hd : Vals dvs ds) (hx : ∀ σ, PassesAt CX X σ (E σ))
    (ha : PA X (e :: es) t) (hdb : (x == ("__debug__" : Str)) = false := by decide) (he : starEach (e :: es) X.env = (false, eval e X.env) :: starEach es X.env := by rfl) (hpl : (backTo pos (starEach es X.env)).any (·.1) = false := by rfl) :
    PE X (.Call (.Name x p) (e :: es) [] pos) (tMakeS C sp dvs E t) := by
  constructor
  intro pins s σ H Q I0 h0
  refine wpAny_Call_Name_kw (ld_glob I0 hg hm ?_ hdb)
  refine PySem.W.callWith_K (h₀ := X.base) I0.ok.mod.kin M.kp (thn (ha.run pos pins s σ H _ I0 h0) fun us s1 hh => ?_) he hpl
  obtain ⟨vs, H1, I, r, h⟩ := hh
  refine ⟨I.kIn, ?_⟩
  have hq := h (s1.heap.objs.size + 1) s1.heap.objs.size (I.hok.fresh (Nat.le_succ _)) (I.hok.fresh (Nat.le_refl _)) (Nat.ne_of_lt (Nat.lt_succ_self _))
  have J := Inv.made (C := C) I
  have rr : Vals (V.ref (s1.heap.objs.size + 1) :: (vs ++ dvs)) (Value.ref (s1.heap.objs.size + 1) :: (us ++ ds)) := .cons rfl (r.append hd)
  have ll : (Value.ref (s1.heap.objs.size + 1) :: us ++ ds).length = ps.length := by
    have z := rr.length
    rw [F.len _ _ _ _ hq] at z
    exact z.symm
  have bd := hb { s1 with heap := (s1.heap.push PySem.W.emptyDict).push (PySem.W.instObj C s1.heap.objs.size) } (Value.ref (s1.heap.objs.size + 1) :: us) J.kIn ll
  show wpAny _ _ (call (.ref C) us) _ _ _
  refine wpAny_call (make_map (f := g) I.kIn M.makes M.init (beq_iff_eq.mp M.fn) (codeAny_mono (F.run _ X.stack _ _ _ _ _ _ (E σ) (hr.make C us []) (J.env0.make C us []) bd rr hq) fun res s' z => ?_))
  match res, z with
  | .error er, z => exact hx σ pins _ _ er s' J z
  | .ok (.ret u), z =>
    obtain ⟨v, H', I3, rv, ev, q3⟩ := J.after z
    subst ev
    exact ⟨rv, V.ref (s1.heap.objs.size + 1), H', I3, rfl, q3⟩
  | .ok .next, z => exact z.elim
  | .ok .brk, z => exact z.elim
  | .ok .cont, z => exact z.elim
theorem pe_methS {pl : Sem Bool} (he : PE X o ta) (c : Cls X.K C) (hm : Meth X.K C m g) (F : FnOk X.prog X.w X.K X.mg X.base CX k g fd ps sp) (hr : Room k X.A) (hb : Binds X.K fd ps []) (hx : ∀ σ, PassesAt CX X σ (E σ)) (ha : PA X (e :: es) t)
    (hst : starEach (e :: es) X.env = (false, eval e X.env) :: starEach es X.env := by rfl) (hpl : (backTo pos (starEach es X.env)).any (·.1) = false := by rfl)
    (ht : eval (.Call (.Attribute o m apos) (e :: es) [] pos) X.env = (do
      let recv ← eval o X.env
      standAt apos.atName
      let (f, first) ← holding [recv] (getMethod recv m pl)
      callWith pos f first (backTo pos (starEach (e :: es) X.env)) (backToKw pos (keywordEach [] X.env))) := by rfl) :
    PE X (.Call (.Attribute o m apos) (e :: es) [] pos) (tMethS C m sp E ta t) := by
  constructor
  intro pins s σ H Q I0 h0
  refine PySem.W.methodCall_KW (pl := pl) (thn (he.run pins s σ H _ I0 h0) fun u s1 hh => ?_) ht
  obtain ⟨x, H1, I1, rx, a, dx, fs, rfl, ea, l, q⟩ := hh
  obtain rfl : u = Value.ref a := rx
  refine getmeth_ok I1 ea c hm l ?_
  refine PySem.W.callWith_K (first := [.ref a]) (h₀ := X.base) I1.ok.mod.kin hm.kp (thn (ha.run pos pins s1 σ H1 _ I1 q) fun us s2 hh => ?_) hst hpl
  obtain ⟨vs, H2, I2, r, q2⟩ := hh
  exact ⟨I2.kIn, run_fnS (us := .ref a :: us) (vs := .ref a :: vs) F hr hb (hx σ) I2 (.cons rfl r) q2⟩
end
end L2

set_option Elab.async false
set_option linter.all false
set_option maxRecDepth 100000
set_option maxHeartbeats 4000000
/-! law k02: the program's own defs -/
namespace K2
open PySem L2 Rt
/-! ### the text by places -/
def top (i : Nat) : Stmt := PySem.Challenge.pw_toldwithin_k02_ratios_made_and_reckoned.main.body.getD i (.Pass ⟨0, 0, 0, 0⟩)
abbrev sErr : Stmt := inClass (top 3) 0
abbrev sIsInt : Stmt := top 7
abbrev sInit : Stmt := inClass (top 10) 0
abbrev sAdd : Stmt := inClass (top 10) 1
abbrev sRadd : Stmt := inClass (top 10) 2
abbrev sSub : Stmt := inClass (top 10) 3
abbrev sRsub : Stmt := inClass (top 10) 4
abbrev sMul : Stmt := inClass (top 10) 5
abbrev sRmul : Stmt := inClass (top 10) 6
abbrev sNeg : Stmt := inClass (top 10) 7
abbrev sAbs : Stmt := inClass (top 10) 8
abbrev sOver : Stmt := inClass (top 10) 9
abbrev sIsNum : Stmt := top 11
abbrev sAsR : Stmt := top 12
abbrev FnP (K : PySem.W.Frag) (x q : Str) (st : Stmt) (dvs : List V) (f : Addr) (fd : FuncData) : Prop := FunD K x q (defArgs st) (defBody st) (defScope st) dvs [] f fd
/-! ### what a Ratio looks like -/
theorem ktb : ¬ (("top" : Str) = "bottom") := by decide +kernel
theorem kbt : ¬ (("bottom" : Str) = "top") := by decide +kernel
def flds (t b : Int) : List (Str × V) := putF "bottom" (.int b) (putF "top" (.int t) [])
theorem flds_top (t b : Int) : (flds t b).lookup ("top" : Str) = some (.int t) := by
  unfold flds
  rw [lookup_putF, if_neg ktb, lookup_putF, if_pos rfl]
theorem flds_bot (t b : Int) : (flds t b).lookup ("bottom" : Str) = some (.int b) := by
  unfold flds
  rw [lookup_putF, if_pos rfl]
theorem flds_no (t b : Int) {m : Str} (h1 : ¬ m = "top") (h2 : ¬ m = "bottom") : (flds t b).lookup m = none := by
  unfold flds
  rw [lookup_putF, if_neg h2, lookup_putF, if_neg h1]
  rfl
def RatAt (C : Addr) (H : Hp) (p : Addr) (t b : Int) : Prop := ∃ dx, H p = some (.ins C dx (flds t b))
theorem RatAt.same {C : Addr} {H H' : Hp} {p : Addr} {t b : Int} (h : RatAt C H p t b) (s : Same H H') : RatAt C H' p t b := let ⟨dx, e⟩ := h; ⟨dx, s _ _ e⟩
/-- y is the number t / b -/
def NumV (C : Addr) (H : Hp) (y : V) (t b : Int) : Prop := (y = .int t ∧ b = 1) ∨ ∃ p, y = .ref p ∧ RatAt C H p t b
theorem NumV.same {C : Addr} {H H' : Hp} {y : V} {t b : Int} (h : NumV C H y t b) (s : Same H H') : NumV C H' y t b := by
  rcases h with h | ⟨p, e, h⟩
  · exact .inl h
  · exact .inr ⟨p, e, h.same s⟩
/-- whether x is an integer -/
def IntV (K : PySem.W.Frag) (H : Hp) (x : V) (r : Bool) : Prop := ∃ t b1 b2, TyX K H x t ∧ PySem.W.kitOne K t (.type "int") = some b1 ∧ PySem.W.kitOne K t (.type "bool") = some b2 ∧ r = (b1 && !b2)
theorem IntV.int {K : PySem.W.Frag} {H : Hp} (i : Int) : IntV K H (.int i) true := ⟨_, true, false, .base (.int i), kit_ty (by decide +kernel), kit_ty (by decide +kernel), rfl⟩
/-- sizes that every number here stays below -/
def Sz (n : Nat) (z : Int) : Prop := z.natAbs < 2 ^ n
theorem Sz.mul {a b : Nat} {x y : Int} (h : Sz a x) (k : Sz b y) : Sz (a + b) (x * y) := wide_lt h k
theorem Sz.mono {a b : Nat} {x : Int} (h : Sz a x) (l : a ≤ b) : Sz b x := Nat.lt_of_lt_of_le h (Nat.pow_le_pow_right (by decide) l)
/-! ### what of the text is asked -/
structure Txt (K : PySem.W.Frag) (mg : Str → Option Value) (C E B : Addr) : Prop where
  cl : Cls K C
  nT : NoAttr K C "top"
  nB : NoAttr K C "bottom"
  mgC : mg "Ratio" = some (.ref C)
  own : OwnC K C
  ca : PySem.W.findIn K (.ref C) "__class__" = some (some (.builtin "object.__class__"))
  cn : PySem.W.specialIn K (.builtin "object.__class__") "__get__" = some (some (.builtin "getset_descriptor.__get__"))
  ct : PySem.W.takesIn K (.builtin "object.__class__") = some true
  cm : PySem.W.mroIn K C (.type "object") = some true
  rInt : PySem.W.kitOne K (.ref C) (.type "int") = some false
  rBool : PySem.W.kitOne K (.ref C) (.type "bool") = some false
  iC : PySem.W.kitOne K (.type "int") (.ref C) = some false
  ox : OexC K E
  mgE : mg "NoRatio" = some (.ref E)
  noW : PySem.W.findIn K (.ref E) "word" = some none
  xf : XfC K E
  exm : PySem.W.exmOne K (.ref E) (.ref E) = some true
  up : PySem.W.kitCls K (.ref E) (.ref B) = some true
  neB : E ≠ B
  mgB : mg "ToldError" = some (.ref B)
  iAdd : PySem.W.findIn K (.type "int") "__add__" = some (some (.builtin "int.__add__"))
  iRadd : PySem.W.findIn K (.type "int") "__radd__" = some (some (.builtin "int.__radd__"))
  iSub : PySem.W.findIn K (.type "int") "__sub__" = some (some (.builtin "int.__sub__"))
  iRsub : PySem.W.findIn K (.type "int") "__rsub__" = some (some (.builtin "int.__rsub__"))
  iMul : PySem.W.findIn K (.type "int") "__mul__" = some (some (.builtin "int.__mul__"))
  iRmul : PySem.W.findIn K (.type "int") "__rmul__" = some (some (.builtin "int.__rmul__"))
  gcd : mg "gcd" = some (.builtin "math.gcd")
  isinst : mg "isinstance" = none
  int : mg "int" = none
  bool : mg "bool" = none
  abs : mg "abs" = none
  len : mg "len" = none
  range : mg "range" = none
  max : mg "max" = none
  min : mg "min" = none
  all : mg "all" = none
/-! ### promises -/
/-- an error with this word is let out; what was tracked stands as it was -/
def Raised (E : Addr) (H : Hp) (X : XK) (w : Str) : Prop := ∀ d H', Same H H' → H' d = some (.xd [(("word" : Str), .str w)]) → X (.ref E) (some d) H'
def spErr (K : PySem.W.Frag) (E : Addr) : Sp := fun vs H Q _ => ∃ a v, vs = [.ref a, v] ∧ H a = some (exo a E none) ∧
  ∀ d, H d = none → d ≠ a → Q .non (upd (upd H d (exd d [(("word" : Str), v)])) a (exo a E (some d)))
def spIsInt (K : PySem.W.Frag) : Sp := fun vs H Q _ => ∃ x r, vs = [x] ∧ IntV K H x r ∧ Q (.bl r) H
/-- __init__ of Ratio -/
def spInit (K : PySem.W.Frag) (C E : Addr) : Sp := fun vs H Q X => ∃ p dx x y, vs = [.ref p, x, y] ∧ H p = some (.ins C dx []) ∧
  ((IntV K H x false ∧ Raised E H X "top") ∨ (∃ t, x = .int t ∧ IntV K H y false ∧ Raised E H X "bottom") ∨ (∃ t, x = .int t ∧ y = .int 0 ∧ Raised E H X "zero") ∨
    ∃ t b, x = .int t ∧ y = .int b ∧ b ≠ 0 ∧ Sz 8000 b ∧ ∀ H', (∀ a o, a ≠ p → H a = some o → H' a = some o) → RatAt C H' p (nrmT t b) (nrmB t b) → Q .non H')
def spIsNum (C : Addr) : Sp := fun vs H Q _ => ∃ x t b, vs = [x] ∧ NumV C H x t b ∧ Q (.bl true) H
def spAsR (C : Addr) : Sp := fun vs H Q _ => ∃ x t b, vs = [x] ∧ NumV C H x t b ∧ ∀ q H', Same H H' → RatAt C H' q t b → Q (.ref q) H'
/-- a binary method: top and bottom of the answer as fT, fB say -/
def spBin (C : Addr) (fT fB : Int → Int → Int → Int → Int) : Sp := fun vs H Q _ => ∃ p y t b t2 b2, vs = [.ref p, y] ∧ RatAt C H p t b ∧ Low t b ∧ NumV C H y t2 b2 ∧ Low t2 b2 ∧ Sz 4000 t ∧ Sz 4000 b ∧ Sz 4000 t2 ∧ Sz 4000 b2 ∧
  ∀ q H', Same H H' → RatAt C H' q (nrmT (fT t b t2 b2) (fB t b t2 b2)) (nrmB (fT t b t2 b2) (fB t b t2 b2)) → Q (.ref q) H'
abbrev addT : Int → Int → Int → Int → Int := fun t b t2 b2 => t * b2 + t2 * b
abbrev subT : Int → Int → Int → Int → Int := fun t b t2 b2 => t * b2 - t2 * b
abbrev rsubT : Int → Int → Int → Int → Int := fun t b t2 b2 => -t * b2 + t2 * b
abbrev mulT : Int → Int → Int → Int → Int := fun t _ t2 _ => t * t2
abbrev bb : Int → Int → Int → Int → Int := fun _ b _ b2 => b * b2
def spUn (C : Addr) (f : Int → Int) : Sp := fun vs H Q _ => ∃ p t b, vs = [.ref p] ∧ RatAt C H p t b ∧ Low t b ∧ Sz 8000 b ∧ ∀ q H', Same H H' → RatAt C H' q (f t) b → Q (.ref q) H'
def spOver (C E : Addr) : Sp := fun vs H Q X => ∃ p y t b t2 b2, vs = [.ref p, y] ∧ RatAt C H p t b ∧ Low t b ∧ NumV C H y t2 b2 ∧ Low t2 b2 ∧ Sz 4000 t ∧ Sz 4000 b ∧ Sz 4000 t2 ∧ Sz 4000 b2 ∧
  ((t2 = 0 ∧ Raised E H X "zero") ∨ (t2 ≠ 0 ∧ ∀ q H', Same H H' → RatAt C H' q (nrmT (t * b2) (b * t2)) (nrmB (t * b2) (b * t2)) → Q (.ref q) H'))
section
variable {P : Program} {w : World} {K : PySem.W.Frag} {mg : Str → Option Value} {base : Heap} {C E B f g h : Addr} {fd gd hd : FuncData}
theorem scErr : FnScope ["self", "word"] ["self", "word"] (defScope sErr) := ⟨rfl, rfl, rfl, by decide +kernel, rfl, by decide +kernel, by decide +kernel⟩
theorem ok_err (F : FnP K "__init__" "NoRatio.__init__" sErr [] f fd) (T : Txt K mg C E B) : FnOk P w K mg base CX0 1 f fd ["self", "word"] (spErr K E) := by
  refine F.ok scErr (fun vs H Q X z => ?_) (fun cdv A outer s H vs Q X hr z => ?_)
  · obtain ⟨a, v, rfl, _⟩ := z
    rfl
  · obtain ⟨a, v, rfl, ha, k⟩ := z
    refine ⟨_, PSs.nox (pss_one (ps_ost (pv 0) (pv 1))), ?_⟩
    exact ⟨_, rfl, _, rfl, a, E, rfl, T.ox, T.noW, .inl ⟨ha, fun d hd ne => k d hd ne⟩⟩
theorem scIsInt : FnScope ["found"] ["found"] (defScope sIsInt) := ⟨rfl, rfl, rfl, by decide +kernel, rfl, by decide +kernel, by decide +kernel⟩
theorem ok_isInt (F : FnP K "is_integer" "is_integer" sIsInt [] f fd) (T : Txt K mg C E B) : FnOk P w K mg base CX0 1 f fd ["found"] (spIsInt K) := by
  refine F.ok scIsInt (fun vs H Q X z => ?_) (fun cdv A outer s H vs Q X hr z => ?_)
  · obtain ⟨x, r, rfl, _⟩ := z
    rfl
  · obtain ⟨x, r, rfl, ⟨t, b1, b2, ty, k1, k2, rfl⟩, q⟩ := z
    refine ⟨_, PSs.nox (pss_one (ps_ret (pe_and
      (pe_callB call_isi (by rfl) T.isinst (by decide +kernel) (pa_cons (pv 0) (pa_cons (pe_bltn (v := .ty "int") (by rfl) T.int (by decide +kernel) rfl) pa_nil)))
      (pe_one (pe_not (pe_callB call_isi (by rfl) T.isinst (by decide +kernel) (pa_cons (pv 0) (pa_cons (pe_bltn (v := .ty "bool") (by rfl) T.bool (by decide +kernel) rfl) pa_nil)))))))), ?_⟩
    refine ⟨_, rfl, x, .ty "int", t, _, b1, rfl, .ty _, ty, k1, b1, rfl, ?_⟩
    cases b1 with
    | false => exact iteF q
    | true => exact iteT ⟨_, rfl, x, .ty "bool", t, _, b2, rfl, .ty _, ty, k2, b2, rfl, q⟩
end
end K2

set_option Elab.async false
set_option linter.all false
set_option maxRecDepth 100000
set_option maxHeartbeats 4000000
namespace K2
open PySem L2 Rt
theorem itF {c : Bool} {A B : Prop} (h : c = false) (k : B) : if c = true then A else B := by
  subst h
  exact iteF k
theorem itT {c : Bool} {A B : Prop} (h : c = true) (k : A) : if c = true then A else B := by
  subst h
  exact iteT k
/-! ### the defs in bundles -/
section
variable (P : Program) (w : World) (K : PySem.W.Frag) (mg : Str → Option Value) (base : Heap)
def GloOk (CX : CXT) (k : Nat) (x : Str) (ps : List Str) (sp : Sp) : Prop := ∃ f fd, FnOk P w K mg base CX k f fd ps sp ∧ mg x = some (.ref f) ∧ PySem.W.keepIn K (.ref f) = true ∧ Binds K fd ps []
def MthOk (C : Addr) (CX : CXT) (k : Nat) (m : Str) (ps : List Str) (sp : Sp) : Prop := ∃ f fd, FnOk P w K mg base CX k f fd ps sp ∧ Meth K C m f ∧ Binds K fd ps []
def MkOk (C : Addr) (CX : CXT) (k : Nat) (ps : List Str) (dvs : List V) (sp : Sp) : Prop := ∃ f fd, FnOk P w K mg base CX k f fd ps sp ∧ Mk K C f ∧ Binds K fd ps [] ∧ ∃ ds, Vals dvs ds ∧ Binds K fd ps ds
def ErrOk (E : Addr) (k : Nat) (ps : List Str) (sp : Sp) : Prop := ∃ f fd, FnOk P w K mg base CX0 k f fd ps sp ∧ PySem.W.findIn K (.ref E) "__init__" = some (some (.ref f)) ∧ PySem.W.typeIn K (.ref f) = some (.type "function") ∧ Binds K fd ps []
end
theorem raised_ok {K : PySem.W.Frag} {E : Addr} {H : Hp} {X : XK} {w : Str} (h : Raised E H X w) : ([V.str w] : List V).length ≤ 1000 ∧ ∀ a, H a = none → spErr K E (.ref a :: ([V.str w] ++ [])) (upd H a (exo a E none))
    (fun v H2 => v = .non ∧ ∃ (d : Addr) (fs : List (Str × V)), H2 a = some (exo a E (some d)) ∧ H2 d = some (exd d fs) ∧ H d = none ∧ X (.ref E) (some d) (upd (del H2 a) d (.xd fs))) (fun _ _ _ => False) := by
  refine ⟨by show 1 ≤ 1000; decide, fun a ha => ⟨a, .str w, rfl, upd_same, fun d hd ne => ?_⟩⟩
  have hd' : H d = none := by
    rw [upd_ne ne] at hd
    exact hd
  refine ⟨rfl, d, _, upd_same, by rw [upd_ne ne, upd_same], hd', h d _ (fun b o e => ?_) upd_same⟩
  have nb : b ≠ d := ne_of_none e hd'
  have na : b ≠ a := ne_of_none e ha
  rw [upd_ne nb, del_ne na, upd_ne na, upd_ne nb, upd_ne na]
  exact e
theorem gcd_div {t b : Int} (hb : b ≠ 0) (h : Sz 8000 b) : CDivX t ((Nat.gcd t.natAbs b.natAbs : Nat) : Int) ∧ CDivX t (-((Nat.gcd t.natAbs b.natAbs : Nat) : Int)) := by
  have h1 := gcd_pos (p := t) hb
  have h2 : Nat.gcd t.natAbs b.natAbs ≤ b.natAbs := Nat.gcd_le_right _ (by omega)
  have h3 : (((Nat.gcd t.natAbs b.natAbs : Nat) : Int)).natAbs < 2 ^ 8000 := Nat.lt_of_le_of_lt (by omega) h
  have h4 := PySem.Flt.log2_lt_of (by decide) h3
  refine ⟨⟨by omega, by omega⟩, ⟨by omega, ?_⟩⟩
  rw [Int.natAbs_neg]
  omega
section
variable {P : Program} {w : World} {K : PySem.W.Frag} {mg : Str → Option Value} {base : Heap} {C E B f g h : Addr} {fd gd hd : FuncData}
theorem scInit : FnScope ["self", "top", "bottom", "shared"] ["self", "top", "bottom"] (defScope sInit) := ⟨rfl, rfl, rfl, by decide +kernel, rfl, by decide +kernel, by decide +kernel⟩
theorem ok_init (F : FnP K "__init__" "Ratio.__init__" sInit [.int 1] f fd) (T : Txt K mg C E B) (GI : GloOk P w K mg base CX0 1 "is_integer" ["found"] (spIsInt K)) (GE : ErrOk P w K mg base E 1 ["self", "word"] (spErr K E)) :
    FnOk P w K mg base (L2.CX P w) 3 f fd ["self", "top", "bottom"] (spInit K C E) := by
  obtain ⟨fI, fdI, GI, mI, kI, bI⟩ := GI
  obtain ⟨fE, fdE, GE, iE, tE, bE⟩ := GE
  refine F.ok scInit (fun vs H Q X z => ?_) (fun cdv A outer s H vs Q X hr z => ?_)
  · obtain ⟨p, dx, x, y, rfl, _⟩ := z
    rfl
  · obtain ⟨p, dx, x, y, rfl, hp, z⟩ := z
    have hr1 : Room 1 _ := hr.mono (by decide)
    refine ⟨_, pss_cons (ps_if (pt_not (pt_val (pe_call GI hr1 rfl mI kI bI .nil pass0 (pa_cons (pv 1) pa_nil)))) (pss_one (ps_raise rfl (takes_of rfl rfl rfl rfl) (pmk_oex T.ox iE tE GE hr bE .nil pass0 rfl T.mgE (pa_cons pe_str pa_nil)))) pss_nil)
      (pss_cons (ps_if (pt_not (pt_val (pe_call GI hr1 rfl mI kI bI .nil pass0 (pa_cons (pv 2) pa_nil)))) (pss_one (ps_raise rfl (takes_of rfl rfl rfl rfl) (pmk_oex T.ox iE tE GE hr bE .nil pass0 rfl T.mgE (pa_cons pe_str pa_nil)))) pss_nil)
      (pss_cons (ps_if (pt_cmpR op_eq (pv 2) pe_int (nomark _)) (pss_one (ps_raise rfl (takes_of rfl rfl rfl rfl) (pmk_oex T.ox iE tE GE hr bE .nil pass0 rfl T.mgE (pa_cons pe_str pa_nil)))) pss_nil)
      (pss_cons (ps_set (i := 3) scInit.nd rfl (Or.inl rfl) (pe_ifExp (pt_cmpR op_gt (pv 2) pe_int (nomark _)) (pe_callBfun cr_gcd (by rfl) T.gcd (pa_cons (pv 1) (pa_cons (pv 2) pa_nil))) (pe_un un_neg (pe_callBfun cr_gcd (by rfl) T.gcd (pa_cons (pv 1) (pa_cons (pv 2) pa_nil))))))
      (pss_cons (ps_fld (pv 0) (pe_op op_fdivX (pv 1) (pv 3)) rfl)
      (pss_one (ps_fld (pv 0) (pe_op op_fdivX (pv 2) (pv 3)) rfl)))))), ?_⟩
    rcases z with ⟨iv, k⟩ | ⟨t, rfl, iv, k⟩ | ⟨t, rfl, rfl, k⟩ | ⟨t, b, rfl, rfl, hb, hs, k⟩
    · exact ⟨_, rfl, x, false, rfl, iv, _, rfl, iteT (raised_ok k)⟩
    · exact ⟨_, rfl, _, true, rfl, .int t, _, rfl, iteF ⟨_, rfl, y, false, rfl, iv, _, rfl, iteT (raised_ok k)⟩⟩
    · exact ⟨_, rfl, _, true, rfl, .int t, _, rfl, iteF ⟨_, rfl, _, true, rfl, .int 0, _, rfl, iteF ⟨_, rfl, rfl, _, rfl, iteT (raised_ok k)⟩⟩⟩
    · refine ⟨_, rfl, _, true, rfl, .int t, _, rfl, iteF ⟨_, rfl, _, true, rfl, .int b, _, rfl, iteF ⟨_, rfl, rfl, _, rfl, ?_⟩⟩⟩
      obtain ⟨d1, d2⟩ := gcd_div (t := t) hb hs
      refine itF (by rw [dec_int]; simpa using hb) ?_
      refine ⟨_, rfl, _, _, rfl, rfl, _, rfl, ?_⟩
      by_cases c : 0 < b
      · have e1 : nrmT t b = t.fdiv ((Nat.gcd t.natAbs b.natAbs : Nat) : Int) := by unfold nrmT shr; rw [if_pos c]
        have e2 : nrmB t b = b.fdiv ((Nat.gcd t.natAbs b.natAbs : Nat) : Int) := by unfold nrmB shr; rw [if_pos c]
        refine itT (decide_eq_true c) ?_
        refine ⟨_, rfl, _, rfl, t, b, rfl, ?_⟩
        refine ⟨_, rfl, _, rfl, _, _, rfl, rfl, d1, _, rfl, p, C, dx, _, rfl, hp, T.cl, T.nT, (by show 0 < 1000; decide), ?_⟩
        refine ⟨_, rfl, _, rfl, _, _, rfl, rfl, ⟨d1.1, d1.2⟩, _, rfl, p, C, dx, _, rfl, upd_same, T.cl, T.nB, (by show 1 < 1000; decide), ?_⟩
        refine k _ (fun a o ne e => ?_) ⟨dx, ?_⟩
        · rw [upd_ne ne, upd_ne ne]
          exact e
        · rw [e1, e2]
          exact upd_same
      · have e1 : nrmT t b = t.fdiv (-((Nat.gcd t.natAbs b.natAbs : Nat) : Int)) := by unfold nrmT shr; rw [if_neg c]
        have e2 : nrmB t b = b.fdiv (-((Nat.gcd t.natAbs b.natAbs : Nat) : Int)) := by unfold nrmB shr; rw [if_neg c]
        refine itF (decide_eq_false c) ?_
        refine ⟨_, rfl, _, rfl, t, b, rfl, _, rfl, ?_⟩
        refine ⟨_, rfl, _, rfl, _, _, rfl, rfl, d2, _, rfl, p, C, dx, _, rfl, hp, T.cl, T.nT, (by show 0 < 1000; decide), ?_⟩
        refine ⟨_, rfl, _, rfl, _, _, rfl, rfl, ⟨d2.1, d2.2⟩, _, rfl, p, C, dx, _, rfl, upd_same, T.cl, T.nB, (by show 1 < 1000; decide), ?_⟩
        refine k _ (fun a o ne e => ?_) ⟨dx, ?_⟩
        · rw [upd_ne ne, upd_ne ne]
          exact e
        · rw [e1, e2]
          exact upd_same
end
end K2

set_option Elab.async false
set_option linter.all false
set_option maxRecDepth 100000
set_option maxHeartbeats 4000000
namespace K2
open PySem L2 Rt
theorem kit_self {K : PySem.W.Frag} {t : Value} : PySem.W.kitOne K t t = some true := by
  unfold PySem.W.kitOne
  rw [if_pos (beq_self_eq_true t)]
theorem low_int (i : Int) : Low i 1 := ⟨by decide, by rw [show (1 : Int).natAbs = 1 from rfl, Nat.gcd_one_right]⟩
section
variable {K : PySem.W.Frag} {mg : Str → Option Value} {C E B : Addr} {H : Hp}
theorem ty_rat (T : Txt K mg C E B) {p : Addr} {t b : Int} (h : RatAt C H p t b) : TyX K H (.ref p) (.ref C) := by
  obtain ⟨dx, e⟩ := h
  exact .base (.ins e T.cl T.ca T.cn T.ct T.cm)
/-- isinstance(x, Ratio) of a number -/
theorem num_isi (T : Txt K mg C E B) {x : V} {t b : Int} (h : NumV C H x t b) : ∃ ty r, TyX K H x ty ∧ PySem.W.kitOne K ty (.ref C) = some r ∧ (r = true → ∃ p, x = .ref p ∧ RatAt C H p t b) ∧ (r = false → x = .int t ∧ b = 1) := by
  rcases h with ⟨rfl, e⟩ | ⟨p, rfl, h⟩
  · exact ⟨_, false, .base (.int t), T.iC, (fun z => by cases z), fun _ => ⟨rfl, e⟩⟩
  · exact ⟨_, true, ty_rat T h, kit_self, fun _ => ⟨p, rfl, h⟩, fun z => by cases z⟩
end
section
variable {P : Program} {w : World} {K : PySem.W.Frag} {mg : Str → Option Value} {base : Heap} {C E B f g h : Addr} {fd gd hd : FuncData}
theorem scIsNum : FnScope ["found"] ["found"] (defScope sIsNum) := ⟨rfl, rfl, rfl, by decide +kernel, rfl, by decide +kernel, by decide +kernel⟩
theorem ok_isNum (F : FnP K "is_number" "is_number" sIsNum [] f fd) (T : Txt K mg C E B) (GI : GloOk P w K mg base CX0 1 "is_integer" ["found"] (spIsInt K)) : FnOk P w K mg base CX0 2 f fd ["found"] (spIsNum C) := by
  obtain ⟨fI, fdI, GI, mI, kI, bI⟩ := GI
  refine F.ok scIsNum (fun vs H Q X z => ?_) (fun cdv A outer s H vs Q X hr z => ?_)
  · obtain ⟨x, t, b, rfl, _⟩ := z
    rfl
  · obtain ⟨x, t, b, rfl, num, k⟩ := z
    refine ⟨_, PSs.nox (pss_one (ps_ret (pe_or
      (pe_callB call_isi (by rfl) T.isinst (by decide +kernel) (pa_cons (pv 0) (pa_cons (pe_glob (v := .ref C) (by rfl) T.mgC rfl) pa_nil)))
      (pe_one (pe_call GI hr rfl mI kI bI .nil pass0 (pa_cons (pv 0) pa_nil)))))), ?_⟩
    obtain ⟨ty, r, hty, hk, yes, no⟩ := num_isi T num
    refine ⟨_, rfl, x, .ref C, ty, _, r, rfl, .own C, hty, hk, r, rfl, ?_⟩
    cases r with
    | true => exact iteT k
    | false =>
      obtain ⟨rfl, rfl⟩ := no rfl
      exact iteF ⟨_, rfl, .int t, true, rfl, .int t, k⟩
theorem scAsR : FnScope ["number"] ["number"] (defScope sAsR) := ⟨rfl, rfl, rfl, by decide +kernel, rfl, by decide +kernel, by decide +kernel⟩
theorem ok_asR (F : FnP K "as_ratio" "as_ratio" sAsR [] f fd) (T : Txt K mg C E B) (GM : MkOk P w K mg base C (L2.CX P w) 3 ["self", "top", "bottom"] [.int 1] (spInit K C E)) : FnOk P w K mg base CX0 5 f fd ["number"] (spAsR C) := by
  obtain ⟨fM, fdM, GM, M, bM, ds, vM, bD⟩ := GM
  refine F.ok scAsR (fun vs H Q X z => ?_) (fun cdv A outer s H vs Q X hr z => ?_)
  · obtain ⟨x, t, b, rfl, _⟩ := z
    rfl
  · obtain ⟨x, t, b, rfl, num, k⟩ := z
    refine ⟨_, PSs.nox (pss_one (ps_ret (pe_ifExp
      (pt_val (pe_callB call_isi (by rfl) T.isinst (by decide +kernel) (pa_cons (pv 0) (pa_cons (pe_glob (v := .ref C) (by rfl) T.mgC rfl) pa_nil))))
      (pv 0) (pe_make M GM hr rfl T.mgC bD vM passL (pa_cons (pv 0) pa_nil))))), ?_⟩
    obtain ⟨ty, r, hty, hk, yes, no⟩ := num_isi T num
    refine ⟨_, rfl, x, .ref C, ty, _, r, rfl, .own C, hty, hk, r, rfl, ?_⟩
    cases r with
    | true =>
      obtain ⟨p, rfl, hp⟩ := yes rfl
      exact iteT ⟨_, rfl, k p H (Same.refl H) hp⟩
    | false =>
      obtain ⟨rfl, rfl⟩ := no rfl
      refine iteF ⟨_, rfl, fun x dx nx nd nex => ⟨x, dx, .int t, .int 1, rfl, upd_same, .inr (.inr (.inr ⟨t, 1, rfl, rfl, by decide, by unfold Sz; decide +kernel, fun H' fr rt => ⟨rfl, ?_⟩⟩))⟩⟩
      rw [(nrm_of_low (low_int t)).1, (nrm_of_low (low_int t)).2] at rt
      exact k x H' (Same.made nx nd fun b o e ne => fr b o ne e) rt
/-! ### the three binary methods and their reflected ones -/
theorem scAdd : FnScope ["self", "other", "right"] ["self", "other"] (defScope sAdd) := ⟨rfl, rfl, rfl, by decide +kernel, rfl, by decide +kernel, by decide +kernel⟩
theorem mulOk {x y : Int} (a : Sz 4000 x) (b : Sz 4000 y) : CMulW x y := wide_mul a b (by decide) (by decide) (by decide)
theorem bot_ne {t b t2 b2 : Int} (h : Low t b) (k : Low t2 b2) : b * b2 ≠ 0 := Int.ne_of_gt (Int.mul_pos h.pos k.pos)
theorem ok_add (F : FnP K "__add__" "Ratio.__add__" sAdd [] f fd) (T : Txt K mg C E B) (GM : MkOk P w K mg base C (L2.CX P w) 3 ["self", "top", "bottom"] [.int 1] (spInit K C E))
    (GN : GloOk P w K mg base CX0 2 "is_number" ["found"] (spIsNum C)) (GA : GloOk P w K mg base CX0 5 "as_ratio" ["number"] (spAsR C)) : FnOk P w K mg base CX0 6 f fd ["self", "other"] (spBin C addT bb) := by
  obtain ⟨fM, fdM, GM, M, bM, _⟩ := GM
  obtain ⟨fN, fdN, GN, mN, kN, bN⟩ := GN
  obtain ⟨fA, fdA, GA, mA, kA, bA⟩ := GA
  refine F.ok scAdd (fun vs H Q X z => ?_) (fun cdv A outer s H vs Q X hr z => ?_)
  · obtain ⟨p, y, t, b, t2, b2, rfl, _⟩ := z
    rfl
  · obtain ⟨p, y, t, b, t2, b2, rfl, hp, l1, num, l2, z1, z2, z3, z4, k⟩ := z
    have hrN : Room 2 _ := hr.mono (by decide)
    have hrM : Room 4 _ := hr.mono (by decide)
    refine ⟨_, PSs.nox (pss_cons (ps_if (pt_not (pt_val (pe_call GN hrN rfl mN kN bN .nil pass0 (pa_cons (pv 1) pa_nil)))) pss_never pss_nil)
      (pss_cons (ps_set (i := 2) scAdd.nd rfl (Or.inl rfl) (pe_call GA hr rfl mA kA bA .nil pass0 (pa_cons (pv 1) pa_nil)))
      (pss_one (ps_ret (pe_make M GM hrM rfl T.mgC bM .nil passL
        (pa_cons (pe_op op_add (pe_op op_mulW (pe_fld (pv 0) rfl) (pe_fld (pv 2) rfl)) (pe_op op_mulW (pe_fld (pv 2) rfl) (pe_fld (pv 0) rfl)))
        (pa_cons (pe_op op_mulW (pe_fld (pv 0) rfl) (pe_fld (pv 2) rfl)) pa_nil))))))), ?_⟩
    refine ⟨_, rfl, y, t2, b2, rfl, num, true, rfl, iteF ?_⟩
    refine ⟨_, rfl, y, t2, b2, rfl, num, fun q H1 sm hq => ?_⟩
    obtain ⟨dx, e1⟩ := hp.same sm
    obtain ⟨dq, e2⟩ := id hq
    refine ⟨_, rfl, p, C, dx, _, _, rfl, e1, T.cl, T.nT, flds_top _ _, _, rfl, q, C, dq, _, _, rfl, e2, T.cl, T.nB, flds_bot _ _, _, _, rfl, rfl, mulOk z1 z4,
      _, rfl, q, C, dq, _, _, rfl, e2, T.cl, T.nT, flds_top _ _, _, rfl, p, C, dx, _, _, rfl, e1, T.cl, T.nB, flds_bot _ _, _, _, rfl, rfl, mulOk z3 z2, _, _, rfl, rfl, ?_⟩
    refine ⟨_, rfl, p, C, dx, _, _, rfl, e1, T.cl, T.nB, flds_bot _ _, _, rfl, q, C, dq, _, _, rfl, e2, T.cl, T.nB, flds_bot _ _, _, _, rfl, rfl, mulOk z2 z4, ?_⟩
    intro x dx' nx nd nex
    exact ⟨x, dx', _, _, rfl, upd_same, .inr (.inr (.inr ⟨_, _, rfl, rfl, bot_ne l1 l2, z2.mul z4, fun H' fr rt => ⟨rfl, k x H' (sm.trans (Same.made nx nd fun b o e ne => fr b o ne e)) rt⟩⟩))⟩
end
end K2

set_option Elab.async false
set_option linter.all false
set_option maxRecDepth 100000
set_option maxHeartbeats 4000000
namespace K2
open PySem L2 Rt
section
variable {P : Program} {w : World} {K : PySem.W.Frag} {mg : Str → Option Value} {base : Heap} {C E B f g h : Addr} {fd gd hd : FuncData}
theorem scSub : FnScope ["self", "other", "right"] ["self", "other"] (defScope sSub) := ⟨rfl, rfl, rfl, by decide +kernel, rfl, by decide +kernel, by decide +kernel⟩
theorem ok_sub (F : FnP K "__sub__" "Ratio.__sub__" sSub [] f fd) (T : Txt K mg C E B) (GM : MkOk P w K mg base C (L2.CX P w) 3 ["self", "top", "bottom"] [.int 1] (spInit K C E))
    (GN : GloOk P w K mg base CX0 2 "is_number" ["found"] (spIsNum C)) (GA : GloOk P w K mg base CX0 5 "as_ratio" ["number"] (spAsR C)) : FnOk P w K mg base CX0 6 f fd ["self", "other"] (spBin C subT bb) := by
  obtain ⟨fM, fdM, GM, M, bM, _⟩ := GM
  obtain ⟨fN, fdN, GN, mN, kN, bN⟩ := GN
  obtain ⟨fA, fdA, GA, mA, kA, bA⟩ := GA
  refine F.ok scSub (fun vs H Q X z => ?_) (fun cdv A outer s H vs Q X hr z => ?_)
  · obtain ⟨p, y, t, b, t2, b2, rfl, _⟩ := z
    rfl
  · obtain ⟨p, y, t, b, t2, b2, rfl, hp, l1, num, l2, z1, z2, z3, z4, k⟩ := z
    have hrN : Room 2 _ := hr.mono (by decide)
    have hrM : Room 4 _ := hr.mono (by decide)
    refine ⟨_, PSs.nox (pss_cons (ps_if (pt_not (pt_val (pe_call GN hrN rfl mN kN bN .nil pass0 (pa_cons (pv 1) pa_nil)))) pss_never pss_nil)
      (pss_cons (ps_set (i := 2) scSub.nd rfl (Or.inl rfl) (pe_call GA hr rfl mA kA bA .nil pass0 (pa_cons (pv 1) pa_nil)))
      (pss_one (ps_ret (pe_make M GM hrM rfl T.mgC bM .nil passL
        (pa_cons (pe_op op_sub (pe_op op_mulW (pe_fld (pv 0) rfl) (pe_fld (pv 2) rfl)) (pe_op op_mulW (pe_fld (pv 2) rfl) (pe_fld (pv 0) rfl)))
        (pa_cons (pe_op op_mulW (pe_fld (pv 0) rfl) (pe_fld (pv 2) rfl)) pa_nil))))))), ?_⟩
    refine ⟨_, rfl, y, t2, b2, rfl, num, true, rfl, iteF ?_⟩
    refine ⟨_, rfl, y, t2, b2, rfl, num, fun q H1 sm hq => ?_⟩
    obtain ⟨dx, e1⟩ := hp.same sm
    obtain ⟨dq, e2⟩ := id hq
    refine ⟨_, rfl, p, C, dx, _, _, rfl, e1, T.cl, T.nT, flds_top _ _, _, rfl, q, C, dq, _, _, rfl, e2, T.cl, T.nB, flds_bot _ _, _, _, rfl, rfl, mulOk z1 z4,
      _, rfl, q, C, dq, _, _, rfl, e2, T.cl, T.nT, flds_top _ _, _, rfl, p, C, dx, _, _, rfl, e1, T.cl, T.nB, flds_bot _ _, _, _, rfl, rfl, mulOk z3 z2, _, _, rfl, rfl, ?_⟩
    refine ⟨_, rfl, p, C, dx, _, _, rfl, e1, T.cl, T.nB, flds_bot _ _, _, rfl, q, C, dq, _, _, rfl, e2, T.cl, T.nB, flds_bot _ _, _, _, rfl, rfl, mulOk z2 z4, ?_⟩
    intro x dx' nx nd nex
    exact ⟨x, dx', _, _, rfl, upd_same, .inr (.inr (.inr ⟨_, _, rfl, rfl, bot_ne l1 l2, z2.mul z4, fun H' fr rt => ⟨rfl, k x H' (sm.trans (Same.made nx nd fun b o e ne => fr b o ne e)) rt⟩⟩))⟩

theorem scMul : FnScope ["self", "other", "right"] ["self", "other"] (defScope sMul) := ⟨rfl, rfl, rfl, by decide +kernel, rfl, by decide +kernel, by decide +kernel⟩
theorem ok_mul (F : FnP K "__mul__" "Ratio.__mul__" sMul [] f fd) (T : Txt K mg C E B) (GM : MkOk P w K mg base C (L2.CX P w) 3 ["self", "top", "bottom"] [.int 1] (spInit K C E))
    (GN : GloOk P w K mg base CX0 2 "is_number" ["found"] (spIsNum C)) (GA : GloOk P w K mg base CX0 5 "as_ratio" ["number"] (spAsR C)) : FnOk P w K mg base CX0 6 f fd ["self", "other"] (spBin C mulT bb) := by
  obtain ⟨fM, fdM, GM, M, bM, _⟩ := GM
  obtain ⟨fN, fdN, GN, mN, kN, bN⟩ := GN
  obtain ⟨fA, fdA, GA, mA, kA, bA⟩ := GA
  refine F.ok scMul (fun vs H Q X z => ?_) (fun cdv A outer s H vs Q X hr z => ?_)
  · obtain ⟨p, y, t, b, t2, b2, rfl, _⟩ := z
    rfl
  · obtain ⟨p, y, t, b, t2, b2, rfl, hp, l1, num, l2, z1, z2, z3, z4, k⟩ := z
    have hrN : Room 2 _ := hr.mono (by decide)
    have hrM : Room 4 _ := hr.mono (by decide)
    refine ⟨_, PSs.nox (pss_cons (ps_if (pt_not (pt_val (pe_call GN hrN rfl mN kN bN .nil pass0 (pa_cons (pv 1) pa_nil)))) pss_never pss_nil)
      (pss_cons (ps_set (i := 2) scMul.nd rfl (Or.inl rfl) (pe_call GA hr rfl mA kA bA .nil pass0 (pa_cons (pv 1) pa_nil)))
      (pss_one (ps_ret (pe_make M GM hrM rfl T.mgC bM .nil passL
        (pa_cons (pe_op op_mulW (pe_fld (pv 0) rfl) (pe_fld (pv 2) rfl))
        (pa_cons (pe_op op_mulW (pe_fld (pv 0) rfl) (pe_fld (pv 2) rfl)) pa_nil))))))), ?_⟩
    refine ⟨_, rfl, y, t2, b2, rfl, num, true, rfl, iteF ?_⟩
    refine ⟨_, rfl, y, t2, b2, rfl, num, fun q H1 sm hq => ?_⟩
    obtain ⟨dx, e1⟩ := hp.same sm
    obtain ⟨dq, e2⟩ := id hq
    refine ⟨_, rfl, p, C, dx, _, _, rfl, e1, T.cl, T.nT, flds_top _ _, _, rfl, q, C, dq, _, _, rfl, e2, T.cl, T.nT, flds_top _ _, _, _, rfl, rfl, mulOk z1 z3, ?_⟩
    refine ⟨_, rfl, p, C, dx, _, _, rfl, e1, T.cl, T.nB, flds_bot _ _, _, rfl, q, C, dq, _, _, rfl, e2, T.cl, T.nB, flds_bot _ _, _, _, rfl, rfl, mulOk z2 z4, ?_⟩
    intro x dx' nx nd nex
    exact ⟨x, dx', _, _, rfl, upd_same, .inr (.inr (.inr ⟨_, _, rfl, rfl, bot_ne l1 l2, z2.mul z4, fun H' fr rt => ⟨rfl, k x H' (sm.trans (Same.made nx nd fun b o e ne => fr b o ne e)) rt⟩⟩))⟩

theorem scRadd : FnScope ["self", "other"] ["self", "other"] (defScope sRadd) := ⟨rfl, rfl, rfl, by decide +kernel, rfl, by decide +kernel, by decide +kernel⟩
theorem ok_radd (F : FnP K "__radd__" "Ratio.__radd__" sRadd [] f fd) (T : Txt K mg C E B) (GM : MthOk P w K mg base C CX0 6 "__add__" ["self", "other"] (spBin C addT bb)) (GR : ∃ q, Meth K C "__radd__" q) : FnOk P w K mg base CX0 7 f fd ["self", "other"] (spBin C addT bb) := by
  obtain ⟨fM, fdM, GM, M, bM⟩ := GM
  obtain ⟨fR, R⟩ := GR
  refine F.ok scRadd (fun vs H Q X z => ?_) (fun cdv A outer s H vs Q X hr z => ?_)
  · obtain ⟨p, y, t, b, t2, b2, rfl, _⟩ := z
    rfl
  · obtain ⟨p, y, t, b, t2, b2, rfl, hp, l1, num, l2, z1, z2, z3, z4, k⟩ := z
    refine ⟨_, PSs.nox (pss_one (ps_ret (pe_op (OpR.or (op_same (op := .Add) T.own M.at_ M.fn GM hr bM pass0) (op_instInt (op := .Add) T.own M.at_ M.fn R.at_ T.iAdd T.iRadd GM hr bM pass0)) (pv 0) (pv 1)))), ?_⟩
    refine ⟨_, rfl, _, rfl, ?_⟩
    obtain ⟨dx, e1⟩ := id hp
    rcases num with ⟨rfl, rfl⟩ | ⟨q, rfl, hq⟩
    · exact .inr ⟨p, dx, _, t2, rfl, rfl, e1, p, _, t, b, t2, 1, rfl, hp, l1, .inl ⟨rfl, rfl⟩, l2, z1, z2, z3, z4, k⟩
    · obtain ⟨dq, e2⟩ := id hq
      exact .inl ⟨p, dx, _, q, dq, _, rfl, rfl, e1, e2, p, _, t, b, t2, b2, rfl, hp, l1, .inr ⟨q, rfl, hq⟩, l2, z1, z2, z3, z4, k⟩

theorem scRmul : FnScope ["self", "other"] ["self", "other"] (defScope sRmul) := ⟨rfl, rfl, rfl, by decide +kernel, rfl, by decide +kernel, by decide +kernel⟩
theorem ok_rmul (F : FnP K "__rmul__" "Ratio.__rmul__" sRmul [] f fd) (T : Txt K mg C E B) (GM : MthOk P w K mg base C CX0 6 "__mul__" ["self", "other"] (spBin C mulT bb)) (GR : ∃ q, Meth K C "__rmul__" q) : FnOk P w K mg base CX0 7 f fd ["self", "other"] (spBin C mulT bb) := by
  obtain ⟨fM, fdM, GM, M, bM⟩ := GM
  obtain ⟨fR, R⟩ := GR
  refine F.ok scRmul (fun vs H Q X z => ?_) (fun cdv A outer s H vs Q X hr z => ?_)
  · obtain ⟨p, y, t, b, t2, b2, rfl, _⟩ := z
    rfl
  · obtain ⟨p, y, t, b, t2, b2, rfl, hp, l1, num, l2, z1, z2, z3, z4, k⟩ := z
    refine ⟨_, PSs.nox (pss_one (ps_ret (pe_op (OpR.or (op_same (op := .Mult) T.own M.at_ M.fn GM hr bM pass0) (op_instInt (op := .Mult) T.own M.at_ M.fn R.at_ T.iMul T.iRmul GM hr bM pass0)) (pv 0) (pv 1)))), ?_⟩
    refine ⟨_, rfl, _, rfl, ?_⟩
    obtain ⟨dx, e1⟩ := id hp
    rcases num with ⟨rfl, rfl⟩ | ⟨q, rfl, hq⟩
    · exact .inr ⟨p, dx, _, t2, rfl, rfl, e1, p, _, t, b, t2, 1, rfl, hp, l1, .inl ⟨rfl, rfl⟩, l2, z1, z2, z3, z4, k⟩
    · obtain ⟨dq, e2⟩ := id hq
      exact .inl ⟨p, dx, _, q, dq, _, rfl, rfl, e1, e2, p, _, t, b, t2, b2, rfl, hp, l1, .inr ⟨q, rfl, hq⟩, l2, z1, z2, z3, z4, k⟩

theorem scNeg : FnScope ["self"] ["self"] (defScope sNeg) := ⟨rfl, rfl, rfl, by decide +kernel, rfl, by decide +kernel, by decide +kernel⟩
theorem ok_neg (F : FnP K "__neg__" "Ratio.__neg__" sNeg [] f fd) (T : Txt K mg C E B) (GM : MkOk P w K mg base C (L2.CX P w) 3 ["self", "top", "bottom"] [.int 1] (spInit K C E)) : FnOk P w K mg base CX0 5 f fd ["self"] (spUn C fun t => -t) := by
  obtain ⟨fM, fdM, GM, M, bM, _⟩ := GM
  refine F.ok scNeg (fun vs H Q X z => ?_) (fun cdv A outer s H vs Q X hr z => ?_)
  · obtain ⟨p, t, b, rfl, _⟩ := z
    rfl
  · obtain ⟨p, t, b, rfl, ⟨dx, e1⟩, lo, zb, k⟩ := z
    refine ⟨_, PSs.nox (pss_one (ps_ret (pe_make M GM hr rfl T.mgC bM .nil passL (pa_cons (pe_un un_neg (pe_fld (pv 0) rfl)) (pa_cons (pe_fld (pv 0) rfl) pa_nil))))), ?_⟩
    refine ⟨_, rfl, p, C, dx, _, _, rfl, e1, T.cl, T.nT, flds_top _ _, _, rfl, _, rfl, p, C, dx, _, _, rfl, e1, T.cl, T.nB, flds_bot _ _, ?_⟩
    intro x dx' nx nd nex
    refine ⟨x, dx', _, _, rfl, upd_same, .inr (.inr (.inr ⟨_, _, rfl, rfl, Int.ne_of_gt lo.pos, zb, fun H' fr rt => ⟨rfl, ?_⟩⟩))⟩
    rw [(nrm_of_low lo.neg).1, (nrm_of_low lo.neg).2] at rt
    exact k x H' (Same.made nx nd fun b o e ne => fr b o ne e) rt
theorem scAbs : FnScope ["self"] ["self"] (defScope sAbs) := ⟨rfl, rfl, rfl, by decide +kernel, rfl, by decide +kernel, by decide +kernel⟩
theorem ok_abs (F : FnP K "__abs__" "Ratio.__abs__" sAbs [] f fd) (T : Txt K mg C E B) (GM : MkOk P w K mg base C (L2.CX P w) 3 ["self", "top", "bottom"] [.int 1] (spInit K C E)) : FnOk P w K mg base CX0 5 f fd ["self"] (spUn C fun t => if t < 0 then -t else t) := by
  obtain ⟨fM, fdM, GM, M, bM, _⟩ := GM
  refine F.ok scAbs (fun vs H Q X z => ?_) (fun cdv A outer s H vs Q X hr z => ?_)
  · obtain ⟨p, t, b, rfl, _⟩ := z
    rfl
  · obtain ⟨p, t, b, rfl, ⟨dx, e1⟩, lo, zb, k⟩ := z
    refine ⟨_, PSs.nox (pss_one (ps_ret (pe_make M GM hr rfl T.mgC bM .nil passL (pa_cons (pe_callB call_abs (by rfl) T.abs (by decide +kernel) (pa_cons (pe_fld (pv 0) rfl) pa_nil)) (pa_cons (pe_fld (pv 0) rfl) pa_nil))))), ?_⟩
    refine ⟨_, rfl, p, C, dx, _, _, rfl, e1, T.cl, T.nT, flds_top _ _, _, rfl, _, rfl, p, C, dx, _, _, rfl, e1, T.cl, T.nB, flds_bot _ _, ?_⟩
    intro x dx' nx nd nex
    refine ⟨x, dx', _, _, rfl, upd_same, .inr (.inr (.inr ⟨_, _, rfl, rfl, Int.ne_of_gt lo.pos, zb, fun H' fr rt => ⟨rfl, ?_⟩⟩))⟩
    rw [(nrm_of_low lo.abs).1, (nrm_of_low lo.abs).2] at rt
    exact k x H' (Same.made nx nd fun b o e ne => fr b o ne e) rt
theorem scRsub : FnScope ["self", "other"] ["self", "other"] (defScope sRsub) := ⟨rfl, rfl, rfl, by decide +kernel, rfl, by decide +kernel, by decide +kernel⟩
theorem ok_rsub (F : FnP K "__rsub__" "Ratio.__rsub__" sRsub [] f fd) (T : Txt K mg C E B) (GM : MthOk P w K mg base C CX0 6 "__add__" ["self", "other"] (spBin C addT bb)) (GR : ∃ q, Meth K C "__radd__" q)
    (GN : MthOk P w K mg base C CX0 5 "__neg__" ["self"] (spUn C fun t => -t)) : FnOk P w K mg base CX0 7 f fd ["self", "other"] (spBin C rsubT bb) := by
  obtain ⟨fM, fdM, GM, M, bM⟩ := GM
  obtain ⟨fN, fdN, GN, N, bN⟩ := GN
  obtain ⟨fR, R⟩ := GR
  refine F.ok scRsub (fun vs H Q X z => ?_) (fun cdv A outer s H vs Q X hr z => ?_)
  · obtain ⟨p, y, t, b, t2, b2, rfl, _⟩ := z
    rfl
  · obtain ⟨p, y, t, b, t2, b2, rfl, hp, l1, num, l2, z1, z2, z3, z4, k⟩ := z
    have hr5 : Room 5 _ := hr.mono (by decide)
    refine ⟨_, PSs.nox (pss_one (ps_ret (pe_op (OpR.or (op_same (op := .Add) T.own M.at_ M.fn GM hr bM pass0) (op_instInt (op := .Add) T.own M.at_ M.fn R.at_ T.iAdd T.iRadd GM hr bM pass0)) (pe_un (un_negO N.at_ N.fn GN hr5 bN pass0) (pv 0)) (pv 1)))), ?_⟩
    obtain ⟨dx, e1⟩ := id hp
    refine ⟨_, rfl, p, dx, _, rfl, e1, p, t, b, rfl, hp, l1, z2.mono (by decide), fun n H1 sm hn => ?_⟩
    refine ⟨_, rfl, ?_⟩
    have zn : Sz 4000 (-t) := by
      unfold Sz
      rw [Int.natAbs_neg]
      exact z1
    obtain ⟨dn, e3⟩ := id hn
    have num' := num.same sm
    rcases num' with ⟨rfl, rfl⟩ | ⟨q, rfl, hq⟩
    · exact .inr ⟨n, dn, _, t2, rfl, rfl, e3, n, _, -t, b, t2, 1, rfl, hn, l1.neg, .inl ⟨rfl, rfl⟩, l2, zn, z2, z3, z4, fun q H' s' => k q H' (sm.trans s')⟩
    · obtain ⟨dq, e2⟩ := id hq
      exact .inl ⟨n, dn, _, q, dq, _, rfl, rfl, e3, e2, n, _, -t, b, t2, b2, rfl, hn, l1.neg, .inr ⟨q, rfl, hq⟩, l2, zn, z2, z3, z4, fun q H' s' => k q H' (sm.trans s')⟩
theorem scOver : FnScope ["self", "number", "right"] ["self", "number"] (defScope sOver) := ⟨rfl, rfl, rfl, by decide +kernel, rfl, by decide +kernel, by decide +kernel⟩
theorem ok_over (F : FnP K "over" "Ratio.over" sOver [] f fd) (T : Txt K mg C E B) (GM : MkOk P w K mg base C (L2.CX P w) 3 ["self", "top", "bottom"] [.int 1] (spInit K C E))
    (GA : GloOk P w K mg base CX0 5 "as_ratio" ["number"] (spAsR C)) : FnOk P w K mg base (L2.CX P w) 6 f fd ["self", "number"] (spOver C E) := by
  obtain ⟨fM, fdM, GM, M, bM, _⟩ := GM
  obtain ⟨fA, fdA, GA, mA, kA, bA⟩ := GA
  refine F.ok scOver (fun vs H Q X z => ?_) (fun cdv A outer s H vs Q X hr z => ?_)
  · obtain ⟨p, y, t, b, t2, b2, rfl, _⟩ := z
    rfl
  · obtain ⟨p, y, t, b, t2, b2, rfl, hp, l1, num, l2, z1, z2, z3, z4, k⟩ := z
    have hrM : Room 4 _ := hr.mono (by decide)
    refine ⟨_, pss_cons (ps_set (i := 2) scOver.nd rfl (Or.inl rfl) (pe_call GA hr rfl mA kA bA .nil pass0 (pa_cons (pv 1) pa_nil)))
      (pss_one (ps_ret (pe_make M GM hrM rfl T.mgC bM .nil (passes_call (takes_of rfl rfl rfl rfl) (fun _ _ _ _ h => h))
        (pa_cons (pe_op op_mulW (pe_fld (pv 0) rfl) (pe_fld (pv 2) rfl)) (pa_cons (pe_op op_mulW (pe_fld (pv 0) rfl) (pe_fld (pv 2) rfl)) pa_nil))))), ?_⟩
    refine ⟨_, rfl, y, t2, b2, rfl, num, fun q H1 sm hq => ?_⟩
    obtain ⟨dx, e1⟩ := hp.same sm
    obtain ⟨dq, e2⟩ := id hq
    refine ⟨_, rfl, p, C, dx, _, _, rfl, e1, T.cl, T.nT, flds_top _ _, _, rfl, q, C, dq, _, _, rfl, e2, T.cl, T.nB, flds_bot _ _, _, _, rfl, rfl, mulOk z1 z4, ?_⟩
    refine ⟨_, rfl, p, C, dx, _, _, rfl, e1, T.cl, T.nB, flds_bot _ _, _, rfl, q, C, dq, _, _, rfl, e2, T.cl, T.nT, flds_top _ _, _, _, rfl, rfl, mulOk z2 z3, ?_⟩
    intro x dx' nx nd nex
    have nw : Same H1 (upd (upd H1 dx' (.own x)) x (.ins C dx' [])) := fun b o e => by
      rw [upd_ne (ne_of_none e nx), upd_ne (ne_of_none e nd)]
      exact e
    rcases k with ⟨rfl, k⟩ | ⟨hz, k⟩
    · refine ⟨x, dx', _, _, rfl, upd_same, .inr (.inr (.inl ⟨_, rfl, congrArg V.int (Int.mul_zero b), fun d H' s' hd => k d H' (sm.trans (nw.trans s')) hd⟩))⟩
    · exact ⟨x, dx', _, _, rfl, upd_same, .inr (.inr (.inr ⟨_, _, rfl, rfl, Int.mul_ne_zero (Int.ne_of_gt l1.pos) hz, z2.mul z3, fun H' fr rt => ⟨rfl, k x H' (sm.trans (Same.made nx nd fun b o e ne => fr b o ne e)) rt⟩⟩))⟩
end
end K2

set_option Elab.async false
set_option linter.all false
set_option maxRecDepth 100000
set_option maxHeartbeats 4000000
/-! law k02: the law's own small defs -/
namespace K2
open PySem L2 Rt
abbrev sLInt : Stmt := top 15
abbrev sStream : Stmt := top 16
abbrev sDraw : Stmt := top 17
abbrev sCommon : Stmt := top 18
abbrev sFrac : Stmt := top 19
abbrev sPlus : Stmt := top 20
abbrev sBy : Stmt := top 21
abbrev sIs : Stmt := top 22
/-- nothing but what stands at l has changed -/
def But (l : Addr) (H H' : Hp) : Prop := ∀ b o, b ≠ l → H b = some o → H' b = some o
theorem But.trans {l : Addr} {H H1 H2 : Hp} (a : But l H H1) (b : But l H1 H2) : But l H H2 := fun c o n e => b c o n (a c o n e)
theorem But.of {l : Addr} {H H' : Hp} (s : Same H H') : But l H H' := fun c o _ e => s c o e
/-- the stream: three ints in a list -/
def Strm (H : Hp) (l : Addr) : Prop := ∃ c f n : Int, H l = some (.lst [.int c, .int f, .int n])
def Pair (H : Hp) (p : Addr) (x y : Int) : Prop := H p = some (.tup [.int x, .int y])
theorem Pair.same {H H' : Hp} {p : Addr} {x y : Int} (h : Pair H p x y) (s : Same H H') : Pair H' p x y := s _ _ h
def spStream (K : PySem.W.Frag) : Sp := fun vs H Q _ => ∃ (a : Addr) (ns : List Int) (k : Nat), vs = [.ref a, .int k] ∧ SqL K H a (ns.map V.int) ∧ k < 1000 ∧ ∀ p H', Same H H' → H p = none → Strm H' p → Q (.ref p) H'
def spDraw : Sp := fun vs H Q _ => ∃ (l : Addr) (m : Int), vs = [.ref l, .int m] ∧ Strm H l ∧ 0 < m ∧ Sz 8000 m ∧ ∀ (d : Int) H', 0 ≤ d → d < m → But l H H' → Strm H' l → Q (.int d) H'
def spCommon : Sp := fun vs H Q _ => ∃ a b : Nat, vs = [.int (a : Int), .int (b : Int)] ∧ b < 2 ^ 4900 ∧ Q (.int ((Nat.gcd a b : Nat) : Int)) H
def spFrac : Sp := fun vs H Q _ => ∃ t b : Int, vs = [.int t, .int b] ∧ b ≠ 0 ∧ Sz 4900 b ∧ ∀ p H', Same H H' → H p = none → Pair H' p (nrmT t b) (nrmB t b) → Q (.ref p) H'
def spPair (fT : Int → Int → Int → Int → Int) : Sp := fun vs H Q _ => ∃ p q t b t2 b2, vs = [.ref p, .ref q] ∧ Pair H p t b ∧ Pair H q t2 b2 ∧ b * b2 ≠ 0 ∧ Sz 400 t ∧ Sz 400 b ∧ Sz 400 t2 ∧ Sz 400 b2 ∧
  ∀ r H', Same H H' → H r = none → Pair H' r (nrmT (fT t b t2 b2) (b * b2)) (nrmB (fT t b t2 b2) (b * b2)) → Q (.ref r) H'
def spIs (C : Addr) : Sp := fun vs H Q _ => ∃ p q t b, vs = [.ref p, .ref q] ∧ RatAt C H p t b ∧ Pair H q t b ∧ Q (.bl true) H
section
variable {P : Program} {w : World} {K : PySem.W.Frag} {mg : Str → Option Value} {base : Heap} {C E B f g h : Addr} {fd gd hd : FuncData}
theorem scLInt : FnScope ["thing"] ["thing"] (defScope sLInt) := ⟨rfl, rfl, rfl, by decide +kernel, rfl, by decide +kernel, by decide +kernel⟩
theorem ok_lint (F : FnP K "_law_is_integer" "_law_is_integer" sLInt [] f fd) (T : Txt K mg C E B) : FnOk P w K mg base CX0 1 f fd ["thing"] (spIsInt K) := by
  refine F.ok scLInt (fun vs H Q X z => ?_) (fun cdv A outer s H vs Q X hr z => ?_)
  · obtain ⟨x, r, rfl, _⟩ := z
    rfl
  · obtain ⟨x, r, rfl, ⟨t, b1, b2, ty, k1, k2, rfl⟩, q⟩ := z
    refine ⟨_, PSs.nox (pss_one (ps_ret (pe_and
      (pe_callB call_isi (by rfl) T.isinst (by decide +kernel) (pa_cons (pv 0) (pa_cons (pe_bltn (v := .ty "int") (by rfl) T.int (by decide +kernel) rfl) pa_nil)))
      (pe_one (pe_not (pe_callB call_isi (by rfl) T.isinst (by decide +kernel) (pa_cons (pv 0) (pa_cons (pe_bltn (v := .ty "bool") (by rfl) T.bool (by decide +kernel) rfl) pa_nil)))))))), ?_⟩
    refine ⟨_, rfl, x, .ty "int", t, _, b1, rfl, .ty _, ty, k1, b1, rfl, ?_⟩
    cases b1 with
    | false => exact iteF q
    | true => exact iteT ⟨_, rfl, x, .ty "bool", t, _, b2, rfl, .ty _, ty, k2, b2, rfl, q⟩
theorem scStream : FnScope ["script", "k", "cell"] ["script", "k"] (defScope sStream) := ⟨rfl, rfl, rfl, by decide +kernel, rfl, by decide +kernel, by decide +kernel⟩
theorem ok_stream (F : FnP K "_law_stream" "_law_stream" sStream [] f fd) (T : Txt K mg C E B) : FnOk P w K mg base CX0 1 f fd ["script", "k"] (spStream K) := by
  refine F.ok scStream (fun vs H Q X z => ?_) (fun cdv A outer s H vs Q X hr z => ?_)
  · obtain ⟨a, ns, k, rfl, _⟩ := z
    rfl
  · obtain ⟨a, ns, k, rfl, hS, hk, q⟩ := z
    refine ⟨_, PSs.nox (pss_cons (ps_set (i := 2) scStream.nd rfl (Or.inl rfl) pe_int)
      (pss_cons (ps_if (pt_cmpR op_lt (pv 1) (pe_callB call_len_seq (by rfl) T.len PySem.boot_len (pa_cons (pv 0) pa_nil)) (nomark _))
        (pss_one (ps_set (i := 2) scStream.nd rfl (Or.inl rfl) (pe_callB call_abs (by rfl) T.abs (by decide +kernel) (pa_cons (pe_ix ix_list (pv 0) (pv 1) (fun _ _ => rfl)) pa_nil)))) pss_nil)
      (pss_one (ps_ret (pe_lst (pa_cons (pv 2) (pa_cons (pe_callTy call_int1 (by rfl) T.int (by decide +kernel) (pa_cons (pe_cmpR op_ge (pv 2) (pe_op op_pow pe_int pe_int) (nomark _)) pa_nil)) (pa_cons (pe_op op_mul pe_int (pv 1)) pa_nil)))))))), ?_⟩
    -- what comes behind, whatever the cell
    have tail : ∀ c : Int, ∃ v, ([some (V.ref a), some (V.int (k : Int)), some (V.int c)] : St)[2]? = some (some v) ∧ ∃ y, ([some (V.ref a), some (V.int (k : Int)), some (V.int c)] : St)[2]? = some (some y) ∧
        ∃ i j, V.int 10 = V.int i ∧ V.int 18 = V.int j ∧ CPow i j ∧ ∃ i' j', y = V.int i' ∧ V.int (i ^ j.toNat) = V.int j' ∧
          ((∃ i, [V.bl (decide (j' ≤ i'))] = [V.int i] ∧ False) ∨ ∃ kk, [V.bl (decide (j' ≤ i'))] = [V.bl kk] ∧ ∃ z, ([some (V.ref a), some (V.int (k : Int)), some (V.int c)] : St)[1]? = some (some z) ∧ ∃ i j, V.int 1000 = V.int i ∧ z = V.int j ∧ CMul i j ∧
            ([v, V.int (if kk then 1 else 0), V.int (i * j)] : List V).length ≤ sizeLine ∧ ∀ p, H p = none → Q (.ref p) (upd H p (.lst [v, V.int (if kk then 1 else 0), V.int (i * j)]))) := fun c =>
      ⟨_, rfl, _, rfl, _, _, rfl, rfl, ⟨by decide, by decide, by decide⟩, _, _, rfl, rfl, .inr ⟨_, rfl, _, rfl, _, _, rfl, rfl, .inl ⟨by decide, by decide⟩, (by show 3 ≤ sizeLine; decide), fun p hp => q p _ (fun b o e => by rw [upd_ne (ne_of_none e hp)]; exact e) hp ⟨_, _, _, upd_same⟩⟩⟩
    have hlen : (ns.map V.int).length = ns.length := List.length_map ..
    refine ⟨_, rfl, _, rfl, a, _, rfl, .inl hS, _, _, rfl, rfl, _, rfl, ?_⟩
    by_cases c : (k : Int) < ((ns.map V.int).length : Int)
    · refine itT (decide_eq_true c) ?_
      have hk2 : k < ns.length := by rw [hlen] at c; omega
      refine ⟨_, rfl, _, rfl, a, _, (k : Int), V.int ns[k], rfl, rfl, hS, atI_nat (by rw [List.getElem?_map, List.getElem?_eq_getElem hk2]; rfl), _, rfl, ?_⟩
      obtain ⟨v, h1, y, h2, i, j, h3, h4, h5, i', j', h6, h7, h8⟩ := tail (if ns[k] < 0 then -ns[k] else ns[k])
      refine ⟨v, h1, y, h2, i, j, h3, h4, h5, i', j', h6, h7, ?_⟩
      rcases h8 with ⟨_, _, z⟩ | z
      · exact z.elim
      · exact .inr z
    · refine itF (decide_eq_false c) ?_
      obtain ⟨v, h1, y, h2, i, j, h3, h4, h5, i', j', h6, h7, h8⟩ := tail 0
      refine ⟨v, h1, y, h2, i, j, h3, h4, h5, i', j', h6, h7, ?_⟩
      rcases h8 with ⟨_, _, z⟩ | z
      · exact z.elim
      · exact .inr z
end
end K2

set_option Elab.async false
set_option linter.all false
set_option maxRecDepth 100000
set_option maxHeartbeats 4000000
namespace K2
open PySem L2 Rt
section
variable {P : Program} {w : World} {K : PySem.W.Frag} {mg : Str → Option Value} {base : Heap} {C E B f g h : Addr} {fd gd hd : FuncData}
theorem mod_in {x m : Int} (h : 0 < m) : 0 ≤ x % m ∧ x % m < m := ⟨Int.emod_nonneg _ (by omega), Int.emod_lt_of_pos _ h⟩
theorem scDraw : FnScope ["stream", "many", "digit", "mixed"] ["stream", "many"] (defScope sDraw) := ⟨rfl, rfl, rfl, by decide +kernel, rfl, by decide +kernel, by decide +kernel⟩
theorem ok_draw (F : FnP K "_law_draw" "_law_draw" sDraw [] f fd) (T : Txt K mg C E B) : FnOk P w K mg base CX0 1 f fd ["stream", "many"] spDraw := by
  refine F.ok scDraw (fun vs H Q X z => ?_) (fun cdv A outer s H vs Q X hr z => ?_)
  · obtain ⟨l, m, rfl, _⟩ := z
    rfl
  · obtain ⟨l, m, rfl, ⟨c, e, n, hl⟩, hm, hs, q⟩ := z
    refine ⟨_, PSs.nox (pss_cons (ps_asg (pe_op op_add (pe_ix ix_list (pv 0) pe_int (fun _ _ => rfl)) pe_int) (pg_sub (pv 0) pe_int set_list))
      (pss_cons (ps_if (PW.pt (pw_and (pt_cmpR op_eq (pe_ix ix_list (pv 0) pe_int (fun _ _ => rfl)) pe_int (nomark _)) (pw_and1 (pt_cmpR op_gt (pe_ix ix_list (pv 0) pe_int (fun _ _ => rfl)) pe_int (nomark _)))))
        (pss_cons (ps_set (i := 2) scDraw.nd rfl (Or.inl rfl) (pe_op op_mod (pe_callTy call_int1 (by rfl) T.int (by decide +kernel) (pa_cons (pe_ix ix_list (pv 0) pe_int (fun _ _ => rfl)) pa_nil)) (pv 1)))
        (pss_cons (ps_asg (pe_op op_fdivW (pe_callTy call_int1 (by rfl) T.int (by decide +kernel) (pa_cons (pe_ix ix_list (pv 0) pe_int (fun _ _ => rfl)) pa_nil)) (pv 1)) (pg_sub (pv 0) pe_int set_list))
        (pss_one (ps_ret (pv 2))))) pss_nil)
      (pss_cons (ps_set (i := 3) scDraw.nd rfl (Or.inl rfl) (pe_op op_mod (pe_callTy call_int1 (by rfl) T.int (by decide +kernel) (pa_cons (pe_op op_mul (pe_op op_add (pe_op op_add (pe_ix ix_list (pv 0) pe_int (fun _ _ => rfl)) (pe_op op_mul pe_int (pe_ix ix_list (pv 0) pe_int (fun _ _ => rfl)))) pe_int) pe_int) pa_nil)) pe_int))
      (pss_cons (ps_set (i := 3) scDraw.nd rfl (Or.inl rfl) (pe_op op_mod (pe_callTy call_int1 (by rfl) T.int (by decide +kernel) (pa_cons (pe_op op_mul (pv 3) (pe_op op_add (pe_op op_fdiv (pv 3) pe_int) pe_int)) pa_nil)) pe_int))
      (pss_cons (ps_set (i := 3) scDraw.nd rfl (Or.inl rfl) (pe_op op_mod (pe_callTy call_int1 (by rfl) T.int (by decide +kernel) (pa_cons (pe_op op_mul (pv 3) (pe_op op_add (pe_op op_fdiv (pv 3) pe_int) pe_int)) pa_nil)) pe_int))
      (pss_one (ps_ret (pe_op op_mod (pe_callTy call_int1 (by rfl) T.int (by decide +kernel) (pa_cons (pe_op op_fdiv (pv 3) pe_int) pa_nil)) (pv 1))))))))), ?_⟩
    -- stream[2] = stream[2] + 1
    refine ⟨_, rfl, l, _, _, V.int n, rfl, rfl, SqL.of hl, at_of (j := 2) rfl rfl, _, _, rfl, rfl, _, rfl, l, _, _, 2, rfl, rfl, hl, rfl, ?_⟩
    have h1 : (upd H l (.lst [V.int c, V.int e, V.int (n + 1)])) l = some (.lst [V.int c, V.int e, V.int (n + 1)]) := upd_same
    -- the test
    refine ⟨_, rfl, l, _, _, V.int e, rfl, rfl, SqL.of h1, at_of (j := 1) rfl rfl, rfl, _, rfl, ?_⟩
    rcases Decidable.em (V.int e = V.int 1) with c1 | c1
    · refine itT (decide_eq_true c1) ?_
      refine ⟨_, rfl, l, _, _, V.int c, rfl, rfl, SqL.of h1, at_of (j := 0) rfl rfl, _, _, rfl, rfl, _, rfl, ?_⟩
      rcases Decidable.em ((0 : Int) < c) with c2 | c2
      · refine itT (decide_eq_true c2) ?_
        have hs' := PySem.Flt.log2_lt_of (by decide) hs
        refine ⟨_, rfl, l, _, _, V.int c, rfl, rfl, SqL.of h1, at_of (j := 0) rfl rfl, .inl ⟨_, rfl, _, rfl, _, _, rfl, rfl, hm, ?_⟩⟩
        refine ⟨_, rfl, l, _, _, V.int c, rfl, rfl, SqL.of h1, at_of (j := 0) rfl rfl, .inl ⟨_, rfl, _, rfl, _, _, rfl, rfl, ⟨hm, by omega⟩, _, rfl, l, _, _, 0, rfl, rfl, h1, rfl, ?_⟩⟩
        refine ⟨_, rfl, ?_⟩
        exact q _ _ (mod_in hm).1 (mod_in hm).2 (fun b o ne e => by rw [upd_ne ne, upd_ne ne]; exact e) ⟨_, _, _, upd_same⟩
      · refine itF (decide_eq_false c2) ?_
        -- the mixed one
        refine ⟨_, rfl, l, _, _, V.int c, rfl, rfl, SqL.of h1, at_of (j := 0) rfl rfl, _, rfl, l, _, _, V.int (n + 1), rfl, rfl, SqL.of h1, at_of (j := 2) rfl rfl, _, _, rfl, rfl, .inl ⟨by decide, by decide⟩, _, _, rfl, rfl, _, _, rfl, rfl, _, _, rfl, rfl, .inr ⟨by decide, by decide⟩, .inl ⟨_, rfl, _, _, rfl, rfl, (by show (0 : Int) < 2147483647; decide), ?_⟩⟩
        obtain ⟨a0, a1⟩ := mod_in (x := (c + 7919 * (n + 1) + 1) * 48271) (m := 2147483647) (by decide)
        refine ⟨_, rfl, _, rfl, _, _, rfl, rfl, ⟨by decide, by decide⟩, _, _, rfl, rfl, _, _, rfl, rfl, .inl ⟨by omega, by omega⟩, .inl ⟨_, rfl, _, _, rfl, rfl, (by show (0 : Int) < 2147483647; decide), ?_⟩⟩
        refine ⟨_, rfl, _, rfl, _, _, rfl, rfl, ⟨by decide, by decide⟩, _, _, rfl, rfl, _, _, rfl, rfl, .inl ⟨?_, ?_⟩, .inl ⟨_, rfl, _, _, rfl, rfl, (by show (0 : Int) < 2147483399; decide), ?_⟩⟩
        · exact Int.lt_of_lt_of_le (by decide) (mod_in (by decide)).1
        · exact Int.lt_trans (mod_in (by decide)).2 (by decide)
        refine ⟨_, rfl, _, _, rfl, rfl, ⟨by decide, by decide⟩, .inl ⟨_, rfl, _, rfl, _, _, rfl, rfl, hm, ?_⟩⟩
        exact q _ _ (mod_in hm).1 (mod_in hm).2 (fun b o ne e => by rw [upd_ne ne]; exact e) ⟨_, _, _, upd_same⟩
    · refine itF (decide_eq_false c1) (iteF ?_)
      -- the mixed one
      refine ⟨_, rfl, l, _, _, V.int c, rfl, rfl, SqL.of h1, at_of (j := 0) rfl rfl, _, rfl, l, _, _, V.int (n + 1), rfl, rfl, SqL.of h1, at_of (j := 2) rfl rfl, _, _, rfl, rfl, .inl ⟨by decide, by decide⟩, _, _, rfl, rfl, _, _, rfl, rfl, _, _, rfl, rfl, .inr ⟨by decide, by decide⟩, .inl ⟨_, rfl, _, _, rfl, rfl, (by show (0 : Int) < 2147483647; decide), ?_⟩⟩
      obtain ⟨a0, a1⟩ := mod_in (x := (c + 7919 * (n + 1) + 1) * 48271) (m := 2147483647) (by decide)
      refine ⟨_, rfl, _, rfl, _, _, rfl, rfl, ⟨by decide, by decide⟩, _, _, rfl, rfl, _, _, rfl, rfl, .inl ⟨by omega, by omega⟩, .inl ⟨_, rfl, _, _, rfl, rfl, (by show (0 : Int) < 2147483647; decide), ?_⟩⟩
      refine ⟨_, rfl, _, rfl, _, _, rfl, rfl, ⟨by decide, by decide⟩, _, _, rfl, rfl, _, _, rfl, rfl, .inl ⟨?_, ?_⟩, .inl ⟨_, rfl, _, _, rfl, rfl, (by show (0 : Int) < 2147483399; decide), ?_⟩⟩
      · exact Int.lt_of_lt_of_le (by decide) (mod_in (by decide)).1
      · exact Int.lt_trans (mod_in (by decide)).2 (by decide)
      refine ⟨_, rfl, _, _, rfl, rfl, ⟨by decide, by decide⟩, .inl ⟨_, rfl, _, rfl, _, _, rfl, rfl, hm, ?_⟩⟩
      exact q _ _ (mod_in hm).1 (mod_in hm).2 (fun b o ne e => by rw [upd_ne ne]; exact e) ⟨_, _, _, upd_same⟩
end
end K2

set_option Elab.async false
set_option linter.all false
set_option maxRecDepth 100000
set_option maxHeartbeats 4000000
namespace K2
open PySem L2 Rt
theorem abs_nat (i : Int) : (if i < 0 then -i else i) = ((i.natAbs : Nat) : Int) := by
  split <;> omega
section
variable {P : Program} {w : World} {K : PySem.W.Frag} {mg : Str → Option Value} {base : Heap} {C E B f g h : Addr} {fd gd hd : FuncData}
theorem scCommon : FnScope ["one", "rest", "k", "after"] ["one", "rest"] (defScope sCommon) := ⟨rfl, rfl, rfl, by decide +kernel, rfl, by decide +kernel, by decide +kernel⟩
theorem ok_common (F : FnP K "_law_common" "_law_common" sCommon [] f fd) (T : Txt K mg C E B) : FnOk P w K mg base CX0 1 f fd ["one", "rest"] spCommon := by
  refine F.ok scCommon (fun vs H Q X z => ?_) (fun cdv A outer s H vs Q X hr z => ?_)
  · obtain ⟨a, b, rfl, _⟩ := z
    rfl
  · obtain ⟨a, b, rfl, hb, q⟩ := z
    refine ⟨_, PSs.nox (pss_cons (ps_for PassesOwn.never rfl (pi_range1 rfl T.range (pa_cons (pe_op op_pow pe_int pe_int) pa_nil)) (pg_name (i := 2) scCommon.nd rfl (Or.inl rfl))
      (pss_cons (ps_if (pt_cmpR op_eq (pv 1) pe_int (nomark _)) (pss_one (ps_ret (pv 0))) pss_nil)
      (pss_cons (ps_set (i := 3) scCommon.nd rfl (Or.inl rfl) (pe_op op_mod (pe_callTy call_int1 (by rfl) T.int (by decide +kernel) (pa_cons (pv 0) pa_nil)) (pv 1)))
      (pss_cons (ps_set (i := 0) scCommon.nd rfl (Or.inl rfl) (pv 1))
      (pss_one (ps_set (i := 1) scCommon.nd rfl (Or.inl rfl) (pv 3)))))))
      (pss_one (ps_ret (pv 0)))), ?_⟩
    refine ⟨_, _, rfl, rfl, ⟨by decide, by decide, by decide⟩, _, rfl, by decide, by decide, ?_⟩
    have e4 : ((10 : Int) ^ (4 : Int).toNat).toNat = 10000 := by decide
    rw [e4]
    refine for_range (lo := 0) (n := 10000) (fun i σ H1 => H1 = H ∧ ∃ (x y : Nat) (u v : Option V), σ = [some (.int (x : Int)), some (.int (y : Int)), u, v] ∧ Eu (Nat.gcd a b) 4900 i x y)
      ⟨rfl, a, b, none, none, rfl, Eu.start hb⟩ ?_ ?_
    · rintro i σ H1 hi ⟨rfl, x, y, u, v, rfl, eu⟩
      refine ⟨_, rfl, rfl, _, rfl, ?_⟩
      rcases Decidable.em (V.int (y : Int) = V.int 0) with c | c
      · refine itT (decide_eq_true c) ⟨_, rfl, ?_⟩
        have hy : y = 0 := by
          have := V.int.inj c
          omega
        rw [eu.done hy]
        exact q
      · refine itF (decide_eq_false c) ?_
        have hy : y ≠ 0 := fun z => c (by rw [z]; rfl)
        refine ⟨_, rfl, .inl ⟨_, rfl, _, rfl, _, _, rfl, rfl, (by show (0 : Int) < (y : Int); omega), ?_⟩⟩
        refine ⟨_, rfl, _, rfl, rfl, y, x % y, some (.int (0 + (i : Int))), some (.int ((x : Int) % (y : Int))), ?_, eu.turn hy⟩
        rw [Int.natCast_emod]
        rfl
    · rintro σ H1 ⟨rfl, x, y, u, v, rfl, eu⟩
      refine ⟨_, rfl, ?_⟩
      rw [eu.done (eu.last (by decide))]
      exact q
theorem scFrac : FnScope ["top", "bottom", "part"] ["top", "bottom"] (defScope sFrac) := ⟨rfl, rfl, rfl, by decide +kernel, rfl, by decide +kernel, by decide +kernel⟩
theorem ok_frac (F : FnP K "_law_frac" "_law_frac" sFrac [] f fd) (T : Txt K mg C E B) (GC : GloOk P w K mg base CX0 1 "_law_common" ["one", "rest"] spCommon) : FnOk P w K mg base CX0 2 f fd ["top", "bottom"] spFrac := by
  obtain ⟨fC, fdC, GC, mC, kC, bC⟩ := GC
  refine F.ok scFrac (fun vs H Q X z => ?_) (fun cdv A outer s H vs Q X hr z => ?_)
  · obtain ⟨t, b, rfl, _⟩ := z
    rfl
  · obtain ⟨t, b, rfl, hb, hs, q⟩ := z
    refine ⟨_, PSs.nox (pss_cons (ps_set (i := 2) scFrac.nd rfl (Or.inl rfl) (pe_call GC hr rfl mC kC bC .nil pass0 (pa_cons (pe_callB call_abs (by rfl) T.abs (by decide +kernel) (pa_cons (pv 0) pa_nil)) (pa_cons (pe_callB call_abs (by rfl) T.abs (by decide +kernel) (pa_cons (pv 1) pa_nil)) pa_nil))))
      (pss_cons (ps_if (pt_cmpR op_lt (pv 1) pe_int (nomark _)) (pss_one (ps_set (i := 2) scFrac.nd rfl (Or.inl rfl) (pe_un un_neg (pv 2)))) pss_nil)
      (pss_one (ps_ret (pe_tup (pa_cons (pe_op op_fdivX (pv 0) (pv 2)) (pa_cons (pe_op op_fdivX (pv 1) (pv 2)) pa_nil))))))), ?_⟩
    have hs8 : Sz 8000 b := hs.mono (by decide)
    obtain ⟨d1, d2⟩ := gcd_div (t := t) hb hs8
    refine ⟨_, rfl, t, rfl, _, rfl, b, rfl, t.natAbs, b.natAbs, by rw [abs_nat, abs_nat]; rfl, hs, ?_⟩
    refine ⟨_, rfl, _, _, rfl, rfl, _, rfl, ?_⟩
    rcases Decidable.em (b < 0) with c | c
    · refine itT (decide_eq_true c) ?_
      have e1 : nrmT t b = t.fdiv (-((Nat.gcd t.natAbs b.natAbs : Nat) : Int)) := by unfold nrmT shr; rw [if_neg (by omega)]
      have e2 : nrmB t b = b.fdiv (-((Nat.gcd t.natAbs b.natAbs : Nat) : Int)) := by unfold nrmB shr; rw [if_neg (by omega)]
      refine ⟨_, rfl, _, rfl, _, rfl, _, rfl, _, _, rfl, rfl, d2, _, rfl, _, rfl, _, _, rfl, rfl, ⟨d2.1, d2.2⟩, (by show 2 ≤ sizeLine; decide), fun p hp => ?_⟩
      refine q p _ (fun x o e => by rw [upd_ne (ne_of_none e hp)]; exact e) hp ?_
      rw [e1, e2]
      exact upd_same
    · refine itF (decide_eq_false c) ?_
      have e1 : nrmT t b = t.fdiv (((Nat.gcd t.natAbs b.natAbs : Nat) : Int)) := by unfold nrmT shr; rw [if_pos (by omega)]
      have e2 : nrmB t b = b.fdiv (((Nat.gcd t.natAbs b.natAbs : Nat) : Int)) := by unfold nrmB shr; rw [if_pos (by omega)]
      refine ⟨_, rfl, _, rfl, _, _, rfl, rfl, d1, _, rfl, _, rfl, _, _, rfl, rfl, ⟨d1.1, d1.2⟩, (by show 2 ≤ sizeLine; decide), fun p hp => ?_⟩
      refine q p _ (fun x o e => by rw [upd_ne (ne_of_none e hp)]; exact e) hp ?_
      rw [e1, e2]
      exact upd_same
theorem m400 {x y : Int} (a : Sz 400 x) (b : Sz 400 y) : CMulW x y := wide_mul a b (by decide) (by decide) (by decide)
theorem scPlus : FnScope ["one", "other"] ["one", "other"] (defScope sPlus) := ⟨rfl, rfl, rfl, by decide +kernel, rfl, by decide +kernel, by decide +kernel⟩
theorem ok_plus (F : FnP K "_law_plus" "_law_plus" sPlus [] f fd) (T : Txt K mg C E B) (GC : GloOk P w K mg base CX0 2 "_law_frac" ["top", "bottom"] spFrac) : FnOk P w K mg base CX0 3 f fd ["one", "other"] (spPair addT) := by
  obtain ⟨fC, fdC, GC, mC, kC, bC⟩ := GC
  refine F.ok scPlus (fun vs H Q X z => ?_) (fun cdv A outer s H vs Q X hr z => ?_)
  · obtain ⟨p, q, t, b, t2, b2, rfl, _⟩ := z
    rfl
  · obtain ⟨p, q, t, b, t2, b2, rfl, hp, hq, hb, z1, z2, z3, z4, k⟩ := z
    refine ⟨_, PSs.nox (pss_one (ps_ret (pe_call GC hr rfl mC kC bC .nil pass0
      (pa_cons (pe_op op_add (pe_op op_mulW (pe_ix ix_tup (pv 0) pe_int (fun _ _ => rfl)) (pe_ix ix_tup (pv 1) pe_int (fun _ _ => rfl))) (pe_op op_mulW (pe_ix ix_tup (pv 1) pe_int (fun _ _ => rfl)) (pe_ix ix_tup (pv 0) pe_int (fun _ _ => rfl))))
      (pa_cons (pe_op op_mulW (pe_ix ix_tup (pv 0) pe_int (fun _ _ => rfl)) (pe_ix ix_tup (pv 1) pe_int (fun _ _ => rfl))) pa_nil))))), ?_⟩
    refine ⟨_, rfl, p, _, _, V.int t, rfl, rfl, SqT.of hp, at_of (j := 0) rfl rfl, _, rfl, q, _, _, V.int b2, rfl, rfl, SqT.of hq, at_of (j := 1) rfl rfl, _, _, rfl, rfl, m400 z1 z4,
      _, rfl, q, _, _, V.int t2, rfl, rfl, SqT.of hq, at_of (j := 0) rfl rfl, _, rfl, p, _, _, V.int b, rfl, rfl, SqT.of hp, at_of (j := 1) rfl rfl, _, _, rfl, rfl, m400 z3 z2, _, _, rfl, rfl, ?_⟩
    refine ⟨_, rfl, p, _, _, V.int b, rfl, rfl, SqT.of hp, at_of (j := 1) rfl rfl, _, rfl, q, _, _, V.int b2, rfl, rfl, SqT.of hq, at_of (j := 1) rfl rfl, _, _, rfl, rfl, m400 z2 z4, ?_⟩
    exact ⟨_, _, rfl, hb, (z2.mul z4).mono (by decide), k⟩
theorem scBy : FnScope ["one", "other"] ["one", "other"] (defScope sBy) := ⟨rfl, rfl, rfl, by decide +kernel, rfl, by decide +kernel, by decide +kernel⟩
theorem ok_by (F : FnP K "_law_by" "_law_by" sBy [] f fd) (T : Txt K mg C E B) (GC : GloOk P w K mg base CX0 2 "_law_frac" ["top", "bottom"] spFrac) : FnOk P w K mg base CX0 3 f fd ["one", "other"] (spPair mulT) := by
  obtain ⟨fC, fdC, GC, mC, kC, bC⟩ := GC
  refine F.ok scBy (fun vs H Q X z => ?_) (fun cdv A outer s H vs Q X hr z => ?_)
  · obtain ⟨p, q, t, b, t2, b2, rfl, _⟩ := z
    rfl
  · obtain ⟨p, q, t, b, t2, b2, rfl, hp, hq, hb, z1, z2, z3, z4, k⟩ := z
    refine ⟨_, PSs.nox (pss_one (ps_ret (pe_call GC hr rfl mC kC bC .nil pass0
      (pa_cons (pe_op op_mulW (pe_ix ix_tup (pv 0) pe_int (fun _ _ => rfl)) (pe_ix ix_tup (pv 1) pe_int (fun _ _ => rfl)))
      (pa_cons (pe_op op_mulW (pe_ix ix_tup (pv 0) pe_int (fun _ _ => rfl)) (pe_ix ix_tup (pv 1) pe_int (fun _ _ => rfl))) pa_nil))))), ?_⟩
    refine ⟨_, rfl, p, _, _, V.int t, rfl, rfl, SqT.of hp, at_of (j := 0) rfl rfl, _, rfl, q, _, _, V.int t2, rfl, rfl, SqT.of hq, at_of (j := 0) rfl rfl, _, _, rfl, rfl, m400 z1 z3, ?_⟩
    refine ⟨_, rfl, p, _, _, V.int b, rfl, rfl, SqT.of hp, at_of (j := 1) rfl rfl, _, rfl, q, _, _, V.int b2, rfl, rfl, SqT.of hq, at_of (j := 1) rfl rfl, _, _, rfl, rfl, m400 z2 z4, ?_⟩
    exact ⟨_, _, rfl, hb, (z2.mul z4).mono (by decide), k⟩
theorem scIs : FnScope ["told", "due"] ["told", "due"] (defScope sIs) := ⟨rfl, rfl, rfl, by decide +kernel, rfl, by decide +kernel, by decide +kernel⟩
theorem ok_is (F : FnP K "_law_is" "_law_is" sIs [] f fd) (T : Txt K mg C E B) (GI : GloOk P w K mg base CX0 1 "_law_is_integer" ["thing"] (spIsInt K)) : FnOk P w K mg base CX0 2 f fd ["told", "due"] (spIs C) := by
  obtain ⟨fI, fdI, GI, mI, kI, bI⟩ := GI
  refine F.ok scIs (fun vs H Q X z => ?_) (fun cdv A outer s H vs Q X hr z => ?_)
  · obtain ⟨p, q, t, b, rfl, _⟩ := z
    rfl
  · obtain ⟨p, q, t, b, rfl, hp, hq, k⟩ := z
    refine ⟨_, PSs.nox (pss_cons (ps_if (PW.pt (pw_or (pt_not (pt_val (pe_callB call_isi (by rfl) T.isinst (by decide +kernel) (pa_cons (pv 0) (pa_cons (pe_glob (v := .ref C) (by rfl) T.mgC rfl) pa_nil)))))
        (pw_or (pt_not (pt_val (pe_call GI hr rfl mI kI bI .nil pass0 (pa_cons (pe_fld (pv 0) rfl) pa_nil)))) (pw_or1 (pt_not (pt_val (pe_call GI hr rfl mI kI bI .nil pass0 (pa_cons (pe_fld (pv 0) rfl) pa_nil))))))))
        (pss_one (ps_ret pe_bl)) pss_nil)
      (pss_one (ps_ret (pe_and (pe_cmpR op_eq (pe_fld (pv 0) rfl) (pe_ix ix_tup (pv 1) pe_int (fun _ _ => rfl)) (nomark _)) (pe_one (pe_cmpR op_eq (pe_fld (pv 0) rfl) (pe_ix ix_tup (pv 1) pe_int (fun _ _ => rfl)) (nomark _))))))), ?_⟩
    have ty := ty_rat T hp
    obtain ⟨dx, e⟩ := hp
    refine ⟨_, rfl, _, .ref C, _, _, true, rfl, .own C, ty, kit_self, true, rfl, iteF ?_⟩
    refine ⟨_, rfl, p, C, dx, _, _, rfl, e, T.cl, T.nT, flds_top _ _, _, true, rfl, .int t, true, rfl, iteF ?_⟩
    refine ⟨_, rfl, p, C, dx, _, _, rfl, e, T.cl, T.nB, flds_bot _ _, _, true, rfl, .int b, true, rfl, iteF ?_⟩
    refine ⟨_, rfl, p, C, dx, _, _, rfl, e, T.cl, T.nT, flds_top _ _, _, rfl, q, _, _, V.int t, rfl, rfl, SqT.of hq, at_of (j := 0) rfl rfl, rfl, _, rfl, itT (decide_eq_true rfl) ?_⟩
    refine ⟨_, rfl, p, C, dx, _, _, rfl, e, T.cl, T.nB, flds_bot _ _, _, rfl, q, _, _, V.int b, rfl, rfl, SqT.of hq, at_of (j := 1) rfl rfl, rfl, ?_⟩
    rw [decide_eq_true (rfl : V.int b = V.int b)]
    exact k
end
end K2

set_option Elab.async false
set_option linter.all false
set_option maxRecDepth 100000
set_option maxHeartbeats 4000000
namespace K2
open PySem L2 Rt
abbrev sInteger : Stmt := top 23
abbrev sOdd : Stmt := top 24
abbrev sMade : Stmt := top 25
abbrev sRefused : Stmt := top 26
abbrev sLOver : Stmt := top 27
theorem new {H : Hp} {p : Addr} {o : HO} (n : H p = none) : Same H (upd H p o) := fun b u e => by
  rw [upd_ne (ne_of_none e n)]
  exact e
theorem ty_same {K : PySem.W.Frag} {H H' : Hp} {x : V} {t : Value} (h : TyX K H x t) (s : Same H H') : TyX K H' x t := by
  cases h with
  | base b =>
    cases b with
    | non => exact .base .non
    | bl y => exact .base (.bl y)
    | int y => exact .base (.int y)
    | str y => exact .base (.str y)
    | flt y => exact .base (.flt y)
    | lst e => exact .base (.lst (s _ _ e))
    | frz e => exact .base (.frz (s _ _ e))
    | tup e => exact .base (.tup (s _ _ e))
    | dK e => exact .base (.dK (s _ _ e))
    | dT e => exact .base (.dT (s _ _ e))
    | ins e a b c d f => exact .base (.ins (s _ _ e) a b c d f)
  | byt y => exact .byt y
  | set e => exact .set (s _ _ e)
  | kList e c => exact .kList e c
  | kTuple e c => exact .kTuple e c
  | kDict e c => exact .kDict e c
  | fTuple e => exact .fTuple (s _ _ e)
  | fDict e => exact .fDict (s _ _ e)
theorem IntV.same {K : PySem.W.Frag} {H H' : Hp} {x : V} {r : Bool} (h : IntV K H x r) (s : Same H H') : IntV K H' x r := by
  obtain ⟨t, b1, b2, ty, z⟩ := h
  exact ⟨t, b1, b2, ty_same ty s, z⟩
theorem at_any {xs : List V} {d : Int} (h0 : 0 ≤ d) (h1 : d < (xs.length : Int)) : ∃ v, v ∈ xs ∧ atI xs d = some v := by
  obtain ⟨j, rfl⟩ := Int.eq_ofNat_of_zero_le h0
  have hj : j < xs.length := by omega
  exact ⟨xs[j], List.getElem_mem hj, atI_nat (List.getElem?_eq_getElem hj)⟩
/-- a thing that is no integer, at l nothing of it -/
def OddV (C : Addr) (H : Hp) (l : Addr) (v : V) : Prop := v = .non ∨ (∃ b, v = .bl b) ∨ (∃ z, v = .str z) ∨ ∃ p, v = .ref p ∧ p ≠ l ∧
  ((∃ xs, H p = some (.lst xs)) ∨ (∃ xs, H p = some (.tup xs)) ∨ (∃ kvs, H p = some (.dK kvs)) ∨ ∃ t b, RatAt C H p t b)
theorem OddV.but {C : Addr} {H H' : Hp} {l : Addr} {v : V} (h : OddV C H l v) (s : But l H H') : OddV C H' l v := by
  rcases h with h | h | h | ⟨p, e, n, h⟩
  · exact .inl h
  · exact .inr (.inl h)
  · exact .inr (.inr (.inl h))
  · refine .inr (.inr (.inr ⟨p, e, n, ?_⟩))
    rcases h with ⟨xs, h⟩ | ⟨xs, h⟩ | ⟨xs, h⟩ | ⟨t, b, dx, h⟩
    · exact .inl ⟨xs, s _ _ n h⟩
    · exact .inr (.inl ⟨xs, s _ _ n h⟩)
    · exact .inr (.inr (.inl ⟨xs, s _ _ n h⟩))
    · exact .inr (.inr (.inr ⟨t, b, dx, s _ _ n h⟩))
theorem OddV.int {K : PySem.W.Frag} {mg : Str → Option Value} {C E B : Addr} (T : Txt K mg C E B) {H : Hp} {l : Addr} {v : V} (h : OddV C H l v) : IntV K H v false := by
  rcases h with rfl | ⟨b, rfl⟩ | ⟨z, rfl⟩ | ⟨p, rfl, n, h⟩
  · exact ⟨_, false, false, .base .non, kit_ty (by decide +kernel), kit_ty (by decide +kernel), rfl⟩
  · exact ⟨_, true, true, .base (.bl b), kit_ty (by decide +kernel), kit_ty (by decide +kernel), rfl⟩
  · exact ⟨_, false, false, .base (.str z), kit_ty (by decide +kernel), kit_ty (by decide +kernel), rfl⟩
  · rcases h with ⟨xs, h⟩ | ⟨xs, h⟩ | ⟨xs, h⟩ | ⟨t, b, h⟩
    · exact ⟨_, false, false, .base (.lst h), kit_ty (by decide +kernel), kit_ty (by decide +kernel), rfl⟩
    · exact ⟨_, false, false, .base (.tup h), kit_ty (by decide +kernel), kit_ty (by decide +kernel), rfl⟩
    · exact ⟨_, false, false, .base (.dK h), kit_ty (by decide +kernel), kit_ty (by decide +kernel), rfl⟩
    · exact ⟨_, false, false, ty_rat T h, T.rInt, T.rBool, rfl⟩
def spInteger : Sp := fun vs H Q _ => ∃ l, vs = [.ref l] ∧ Strm H l ∧ ∀ (z : Int) H', But l H H' → Strm H' l → z.natAbs ≤ 10 ^ 40 → Q (.int z) H'
def spOdd (C : Addr) : Sp := fun vs H Q _ => ∃ l, vs = [.ref l] ∧ Strm H l ∧ ∀ v H', But l H H' → Strm H' l → OddV C H' l v → Q v H'
/-- the word that is due -/
def Due (K : PySem.W.Frag) (H : Hp) (x y : V) (w : Str) : Prop := (IntV K H x false ∧ w = "top") ∨ (∃ t, x = .int t ∧ IntV K H y false ∧ w = "bottom") ∨ (∃ t, x = .int t ∧ y = .int 0 ∧ w = "zero")
def spMade (K : PySem.W.Frag) (C : Addr) : Sp := fun vs H Q _ => ∃ x y, vs = [x, y] ∧
  ((∃ w, Due K H x y w ∧ ∀ p H', Same H H' → H' p = some (.tup [.non, .str w, .bl true]) → Q (.ref p) H') ∨
    ∃ t b, x = .int t ∧ y = .int b ∧ b ≠ 0 ∧ Sz 8000 b ∧ ∀ p q H', Same H H' → RatAt C H' q (nrmT t b) (nrmB t b) → H' p = some (.tup [.ref q, .str "", .bl true]) → Q (.ref p) H')
def spRefused (K : PySem.W.Frag) : Sp := fun vs H Q _ => ∃ x y, vs = [x, y] ∧ ((∃ w, Due K H x y w ∧ ∀ H', Same H H' → Q (.str w) H') ∨ ∃ t b, x = .int t ∧ y = .int b ∧ b ≠ 0 ∧ ∀ H', Same H H' → Q (.str "") H')
def spLOver (C : Addr) : Sp := fun vs H Q _ => ∃ p y t b t2 b2, vs = [.ref p, y] ∧ RatAt C H p t b ∧ Low t b ∧ NumV C H y t2 b2 ∧ Low t2 b2 ∧ Sz 4000 t ∧ Sz 4000 b ∧ Sz 4000 t2 ∧ Sz 4000 b2 ∧
  ((t2 = 0 ∧ ∀ r H', Same H H' → H' r = some (.tup [.non, .str "zero"]) → Q (.ref r) H') ∨
    (t2 ≠ 0 ∧ ∀ r q H', Same H H' → RatAt C H' q (nrmT (t * b2) (b * t2)) (nrmB (t * b2) (b * t2)) → H' r = some (.tup [.ref q, .str ""]) → Q (.ref r) H'))
section
variable {P : Program} {w : World} {K : PySem.W.Frag} {mg : Str → Option Value} {base : Heap} {C E B f g h : Addr} {fd gd hd : FuncData}
theorem scInteger : FnScope ["stream", "size"] ["stream"] (defScope sInteger) := ⟨rfl, rfl, rfl, by decide +kernel, rfl, by decide +kernel, by decide +kernel⟩
theorem ok_integer (F : FnP K "_law_integer" "_law_integer" sInteger [] f fd) (T : Txt K mg C E B) (GD : GloOk P w K mg base CX0 1 "_law_draw" ["stream", "many"] spDraw) : FnOk P w K mg base CX0 2 f fd ["stream"] spInteger := by
  obtain ⟨fD, fdD, GD, mD, kD, bD⟩ := GD
  refine F.ok scInteger (fun vs H Q X z => ?_) (fun cdv A outer s H vs Q X hr z => ?_)
  · obtain ⟨l, rfl, _⟩ := z
    rfl
  · obtain ⟨l, rfl, st, k⟩ := z
    refine ⟨_, PSs.nox (pss_cons (ps_set (i := 1) scInteger.nd rfl (Or.inl rfl) (pe_ix ix_list (pe_lst (pa_cons pe_int (pa_cons pe_int (pa_cons (pe_op op_pow pe_int pe_int) pa_nil)))) (pe_call GD hr rfl mD kD bD .nil pass0 (pa_cons (pv 0) (pa_cons pe_int pa_nil))) (fun _ _ => rfl)))
      (pss_one (ps_ret (pe_op op_sub (pe_call GD hr rfl mD kD bD .nil pass0 (pa_cons (pv 0) (pa_cons (pe_op op_add (pe_op op_mul pe_int (pv 1)) pe_int) pa_nil))) (pv 1))))), ?_⟩
    refine ⟨_, _, rfl, rfl, ⟨by decide, by decide, by decide⟩, (by show 3 ≤ sizeLine; decide), fun p hp => ?_⟩
    obtain ⟨c, e, n, hl⟩ := id st
    have npl : p ≠ l := fun z => by rw [z, hl] at hp; cases hp
    refine ⟨_, rfl, l, 3, rfl, ⟨c, e, n, by rw [upd_ne npl.symm]; exact hl⟩, by decide, by unfold Sz; decide +kernel, fun d H1 h0 h1 b1 s1 => ?_⟩
    have hp1 := b1 p _ npl upd_same
    obtain ⟨v, hv, ha⟩ := at_any (xs := [V.int 4, V.int 30, V.int (10 ^ (40 : Int).toNat)]) h0 h1
    obtain ⟨z, rfl, z0, z1⟩ : ∃ z : Int, v = .int z ∧ 0 < z ∧ z.natAbs ≤ 10 ^ 40 := by
      rcases List.mem_cons.mp hv with e | hv
      · exact ⟨4, e, by decide, by decide⟩
      rcases List.mem_cons.mp hv with e | hv
      · exact ⟨30, e, by decide, by decide⟩
      rcases List.mem_cons.mp hv with e | hv
      · exact ⟨_, e, by decide, by decide⟩
      · cases hv
    refine ⟨p, _, d, _, rfl, rfl, SqL.of hp1, ha, ?_⟩
    have hz : Sz 8000 (2 * z + 1) := by
      have h2 : (2 * z + 1).natAbs < 10 ^ 42 := by omega
      exact Nat.lt_of_lt_of_le h2 (by decide +kernel)
    refine ⟨_, rfl, _, rfl, _, _, rfl, rfl, .inl ⟨by decide, by decide⟩, _, _, rfl, rfl, l, _, rfl, s1, by omega, hz, fun d2 H2 g0 g1 b2 s2 => ?_⟩
    refine ⟨_, rfl, _, _, rfl, rfl, ?_⟩
    refine k _ H2 (fun x o ne e => b2 x o ne (b1 x o ne (by rw [upd_ne (ne_of_none e hp)]; exact e))) s2 ?_
    omega
theorem scOdd : FnScope ["stream", "odd"] ["stream"] (defScope sOdd) := ⟨rfl, rfl, rfl, by decide +kernel, rfl, by decide +kernel, by decide +kernel⟩
theorem ok_odd (F : FnP K "_law_odd" "_law_odd" sOdd [] f fd) (T : Txt K mg C E B) (GD : GloOk P w K mg base CX0 1 "_law_draw" ["stream", "many"] spDraw) (GM : MkOk P w K mg base C (L2.CX P w) 3 ["self", "top", "bottom"] [.int 1] (spInit K C E)) : FnOk P w K mg base CX0 5 f fd ["stream"] (spOdd C) := by
  obtain ⟨fD, fdD, GD, mD, kD, bD⟩ := GD
  obtain ⟨fM, fdM, GM, M, bM, ds, vM, bMD⟩ := GM
  refine F.ok scOdd (fun vs H Q X z => ?_) (fun cdv A outer s H vs Q X hr z => ?_)
  · obtain ⟨l, rfl, _⟩ := z
    rfl
  · obtain ⟨l, rfl, st, k⟩ := z
    have hr1 : Room 1 _ := hr.mono (by decide)
    refine ⟨_, PSs.nox (pss_cons (ps_set (i := 1) scOdd.nd rfl (Or.inl rfl) (pe_lst (pa_cons pe_non (pa_cons pe_bl (pa_cons pe_bl (pa_cons pe_str (pa_cons pe_str (pa_cons (pe_tup (pa_cons pe_int pa_nil)) (pa_cons (pe_lst pa_nil) (pa_cons pe_dnewK
        (pa_cons (pe_make M GM hr rfl T.mgC bMD vM passL (pa_cons pe_int pa_nil)) (pa_cons (pe_tup pa_nil) (pa_cons (pe_lst (pa_cons pe_int pa_nil)) pa_nil)))))))))))))
      (pss_one (ps_ret (pe_ix ix_list (pv 1) (pe_call GD hr1 rfl mD kD bD .nil pass0 (pa_cons (pv 0) (pa_cons pe_int pa_nil))) (fun _ _ => rfl))))), ?_⟩
    obtain ⟨c, e, n, hl⟩ := id st
    refine ⟨(by show 1 ≤ sizeLine; decide), fun p1 n1 => ⟨(by show 0 ≤ sizeLine; decide), fun p2 n2 => fun p3 n3 => fun x dx nx nd nex => ?_⟩⟩
    refine ⟨x, dx, .int 1, .int 1, rfl, upd_same, .inr (.inr (.inr ⟨1, 1, rfl, rfl, by decide, by unfold Sz; decide +kernel, fun H5 fr rt => ⟨rfl, ?_⟩⟩))⟩
    refine ⟨(by show 0 ≤ sizeLine; decide), fun p6 n6 => ⟨(by show 1 ≤ sizeLine; decide), fun p7 n7 => ⟨(by show 11 ≤ sizeLine; decide), fun p8 n8 => ?_⟩⟩⟩
    -- each heap stands in the next one
    have a1 : Same H (upd H p1 (.tup [.int 1])) := new n1
    have a2 := new (o := .lst []) n2
    have a3 := new (o := .dK []) n3
    have a5 := Same.made (C := C) (H1 := H5) nx nd fun b o e ne => fr b o ne e
    have a6 := new (o := .tup []) n6
    have a7 := new (o := .lst [.int 2]) n7
    have a8 := new (o := .lst [.non, .bl true, .bl false, .str "1", .str "", .ref p1, .ref p2, .ref p3, .ref x, .ref p6, .ref p7]) n8
    have t7 := a8
    have t6 := a7.trans t7
    have t5 := a6.trans t6
    have t3 := a5.trans t5
    have t2 := a3.trans t3
    have t1 := a2.trans t2
    have t0 := a1.trans t1
    have nl : ∀ {b : Addr}, H b = none → b ≠ l := fun {b} q z => by rw [z, hl] at q; cases q
    have m1 : p1 ≠ l := nl n1
    have m2 : p2 ≠ l := nl (a1.free n2)
    have m3 : p3 ≠ l := nl (a1.free (a2.free n3))
    have m5 : x ≠ l := nl (a1.free (a2.free (a3.free nx)))
    have m6 : p6 ≠ l := nl (a1.free (a2.free (a3.free (a5.free n6))))
    have m7 : p7 ≠ l := nl (a1.free (a2.free (a3.free (a5.free (a6.free n7)))))
    have m8 : p8 ≠ l := nl (a1.free (a2.free (a3.free (a5.free (a6.free (a7.free n8))))))
    refine ⟨_, rfl, _, rfl, l, 11, rfl, ⟨c, e, n, t0 _ _ hl⟩, by decide, by unfold Sz; decide +kernel, fun d H9 h0 h1 b9 s9 => ?_⟩
    obtain ⟨v, hv, ha⟩ := at_any (xs := [V.non, V.bl true, V.bl false, V.str "1", V.str "", V.ref p1, V.ref p2, V.ref p3, V.ref x, V.ref p6, V.ref p7]) h0 h1
    refine ⟨p8, _, d, v, rfl, rfl, SqL.of (b9 p8 _ m8 upd_same), ha, ?_⟩
    refine k v H9 (fun b o ne e => b9 b o ne (t0 b o e)) s9 (OddV.but (H := upd (upd (upd H5 p6 (.tup [])) p7 (.lst [.int 2])) p8 (.lst [.non, .bl true, .bl false, .str "1", .str "", .ref p1, .ref p2, .ref p3, .ref x, .ref p6, .ref p7])) ?_ b9)
    simp only [List.mem_cons, List.not_mem_nil, or_false] at hv
    rcases hv with rfl | rfl | rfl | rfl | rfl | rfl | rfl | rfl | rfl | rfl | rfl
    · exact .inl rfl
    · exact .inr (.inl ⟨_, rfl⟩)
    · exact .inr (.inl ⟨_, rfl⟩)
    · exact .inr (.inr (.inl ⟨_, rfl⟩))
    · exact .inr (.inr (.inl ⟨_, rfl⟩))
    · exact .inr (.inr (.inr ⟨p1, rfl, m1, .inr (.inl ⟨_, t1 _ _ upd_same⟩)⟩))
    · exact .inr (.inr (.inr ⟨p2, rfl, m2, .inl ⟨_, t2 _ _ upd_same⟩⟩))
    · exact .inr (.inr (.inr ⟨p3, rfl, m3, .inr (.inr (.inl ⟨_, t3 _ _ upd_same⟩))⟩))
    · exact .inr (.inr (.inr ⟨x, rfl, m5, .inr (.inr (.inr ⟨_, _, rt.same t5⟩))⟩))
    · exact .inr (.inr (.inr ⟨p6, rfl, m6, .inr (.inl ⟨_, t6 _ _ upd_same⟩)⟩))
    · exact .inr (.inr (.inr ⟨p7, rfl, m7, .inl ⟨_, t7 _ _ upd_same⟩⟩))
end
end K2

set_option Elab.async false
set_option linter.all false
set_option maxRecDepth 100000
set_option maxHeartbeats 4000000
namespace K2
open PySem L2 Rt
theorem same_made {C : Addr} {H : Hp} {x dx : Addr} (nx : H x = none) (nd : H dx = none) : Same H (upd (upd H dx (.own x)) x (.ins C dx [])) := fun b o e => by
  rw [upd_ne (ne_of_none e nx), upd_ne (ne_of_none e nd)]
  exact e
theorem look_word {v : V} : ([(("word" : Str), v)] : List (Str × V)).lookup ("word" : Str) = some v := by simp [List.lookup]
section
variable {P : Program} {w : World} {K : PySem.W.Frag} {mg : Str → Option Value} {base : Heap} {C E B f g h : Addr} {fd gd hd : FuncData}
theorem scMade : FnScope ["top", "bottom", "made", "refused", "below", "e"] ["top", "bottom"] (defScope sMade) := ⟨rfl, rfl, rfl, by decide +kernel, rfl, by decide +kernel, by decide +kernel⟩
theorem ok_made (F : FnP K "_law_made" "_law_made" sMade [] f fd) (T : Txt K mg C E B) (GM : MkOk P w K mg base C (L2.CX P w) 3 ["self", "top", "bottom"] [.int 1] (spInit K C E)) : FnOk P w K mg base CX0 5 f fd ["top", "bottom"] (spMade K C) := by
  obtain ⟨fM, fdM, GM, M, bM, ds, vM, bMD⟩ := GM
  refine F.ok scMade (fun vs H Q X z => ?_) (fun cdv A outer s H vs Q X hr z => ?_)
  · obtain ⟨x, y, rfl, _⟩ := z
    rfl
  · obtain ⟨x, y, rfl, z⟩ := z
    refine ⟨_, PSs.nox (pss_cons (ps_set (i := 2) scMade.nd rfl (Or.inl rfl) pe_non)
      (pss_cons (ps_set (i := 3) scMade.nd rfl (Or.inl rfl) pe_str)
      (pss_cons (ps_set (i := 4) scMade.nd rfl (Or.inl rfl) pe_bl)
      (pss_cons (ps_try_as (i := 5) (tb := fun W => tAsg (tMakeS C (spInit K C E) [] (WE W) (tCons (tVar 0) (tCons (tVar 1) tNil))) (gName 2))
          (ts := fun a cls d => tSeq (tAsg (tXf a cls d E "word" (tVar 5)) (gName 3)) (tAsg (tCB (fun xs H Q => cls = .ref E ∧ xs = [.ref a, .ref B] ∧ Q (.bl true) H) (tCons (tVar 5) (tCons (tC (.ref B)) tNil))) (gName 4)))
          (Wout := fun _ _ _ _ => False) rfl rfl scMade.nd rfl rfl ⟨rfl, by decide, Or.inl T.mgE⟩ takes0
          (fun W pn xe tk _ => pss_one (ps_set (i := 2) scMade.nd rfl (Or.inl rfl) (by exact (pe_makeS M GM hr rfl T.mgC bM .nil (fun σ => passAt tk σ) (by exact (pa_cons (pv 0) (pa_cons (pv 1) pa_nil)))))))
          (fun a oe cls d pn hz hf => pss_cons (ps_set (i := 3) scMade.nd rfl (Or.inl rfl) (by exact (pe_xf T.xf T.noW hz hf (pv 5))))
            (pss_one (ps_set (i := 4) scMade.nd rfl (Or.inl rfl) (by exact (pe_callB (call_isUp hz T.neB T.up) (by rfl) T.isinst (by decide +kernel) (pa_cons (pv 5) (pa_cons (pe_glob (v := .ref B) (by rfl) T.mgB rfl) pa_nil))))))))
      (pss_one (ps_ret (pe_tup (pa_cons (pv 2) (pa_cons (pv 3) (pa_cons (pv 4) pa_nil)))))))))), ?_⟩
    refine ⟨_, rfl, _, rfl, fun q dx nq nd nex => ⟨q, dx, x, y, rfl, upd_same, ?_⟩⟩
    have nw : Same H (upd (upd H dx (.own q)) q (.ins C dx [])) := same_made nq nd
    rcases z with ⟨wd, due, k⟩ | ⟨t, b, rfl, rfl, hb, hs, k⟩
    · rcases due with ⟨iv, rfl⟩ | ⟨t, rfl, iv, rfl⟩ | ⟨t, rfl, rfl, rfl⟩
      all_goals
        first
          | refine .inl ⟨iv.same nw, ?_⟩
          | refine .inr (.inl ⟨t, rfl, iv.same nw, ?_⟩)
          | refine .inr (.inr (.inl ⟨t, rfl, rfl, ?_⟩))
        intro d H2 s2 hd
        refine ⟨true, T.exm, fun _ a0 na => ?_, fun z => Bool.noConfusion z⟩
        refine ⟨_, rfl, rfl, rfl, d, _, _, rfl, hd, look_word, _, rfl, rfl, rfl, ?_⟩
        exact ⟨_, rfl, _, rfl, _, rfl, (by show 3 ≤ sizeLine; decide), fun p hp => k p _ (nw.trans (s2.trans (new hp))) upd_same⟩
    · refine .inr (.inr (.inr ⟨t, b, rfl, rfl, hb, hs, fun H2 fr rt => ⟨rfl, ?_⟩⟩))
      have s2 : Same H H2 := Same.made nq nd fun b o e ne => fr b o ne e
      exact ⟨_, rfl, _, rfl, _, rfl, (by show 3 ≤ sizeLine; decide), fun p hp => k p q _ (s2.trans (new hp)) (rt.same (new hp)) upd_same⟩
theorem scRefused : FnScope ["top", "bottom"] ["top", "bottom"] (defScope sRefused) := ⟨rfl, rfl, rfl, by decide +kernel, rfl, by decide +kernel, by decide +kernel⟩
theorem ok_refused (F : FnP K "_law_refused" "_law_refused" sRefused [] f fd) (T : Txt K mg C E B) (GI : GloOk P w K mg base CX0 1 "_law_is_integer" ["thing"] (spIsInt K)) : FnOk P w K mg base CX0 2 f fd ["top", "bottom"] (spRefused K) := by
  obtain ⟨fI, fdI, GI, mI, kI, bI⟩ := GI
  refine F.ok scRefused (fun vs H Q X z => ?_) (fun cdv A outer s H vs Q X hr z => ?_)
  · obtain ⟨x, y, rfl, _⟩ := z
    rfl
  · obtain ⟨x, y, rfl, z⟩ := z
    refine ⟨_, PSs.nox (pss_cons (ps_if (pt_not (pt_val (pe_call GI hr rfl mI kI bI .nil pass0 (pa_cons (pv 0) pa_nil)))) (pss_one (ps_ret pe_str)) pss_nil)
      (pss_cons (ps_if (pt_not (pt_val (pe_call GI hr rfl mI kI bI .nil pass0 (pa_cons (pv 1) pa_nil)))) (pss_one (ps_ret pe_str)) pss_nil)
      (pss_one (ps_ret (pe_ix ix_list (pe_lst (pa_cons pe_str (pa_cons pe_str pa_nil))) (pe_callTy call_int1 (by rfl) T.int (by decide +kernel) (pa_cons (pe_cmpR op_eq (pv 1) pe_int (nomark _)) pa_nil)) (fun _ _ => rfl)))))), ?_⟩
    rcases z with ⟨wd, due, k⟩ | ⟨t, b, rfl, rfl, hb, k⟩
    · rcases due with ⟨iv, rfl⟩ | ⟨t, rfl, iv, rfl⟩ | ⟨t, rfl, rfl, rfl⟩
      · exact ⟨_, rfl, x, false, rfl, iv, _, rfl, iteT (k H (Same.refl H))⟩
      · exact ⟨_, rfl, _, true, rfl, .int t, _, rfl, iteF ⟨_, rfl, y, false, rfl, iv, _, rfl, iteT (k H (Same.refl H))⟩⟩
      · refine ⟨_, rfl, _, true, rfl, .int t, _, rfl, iteF ⟨_, rfl, _, true, rfl, .int 0, _, rfl, iteF ?_⟩⟩
        refine ⟨(by show 2 ≤ sizeLine; decide), fun p hp => ⟨_, rfl, rfl, .inr ⟨_, rfl, ?_⟩⟩⟩
        rw [decide_eq_true (rfl : V.int 0 = V.int 0)]
        exact ⟨p, _, _, V.str "zero", rfl, rfl, SqL.of upd_same, at_of (j := 1) rfl rfl, k _ (new hp)⟩
    · refine ⟨_, rfl, _, true, rfl, .int t, _, rfl, iteF ⟨_, rfl, _, true, rfl, .int b, _, rfl, iteF ?_⟩⟩
      refine ⟨(by show 2 ≤ sizeLine; decide), fun p hp => ⟨_, rfl, rfl, .inr ⟨_, rfl, ?_⟩⟩⟩
      rw [decide_eq_false (fun z => hb (V.int.inj z))]
      exact ⟨p, _, _, V.str "", rfl, rfl, SqL.of upd_same, at_of (j := 0) rfl rfl, k _ (new hp)⟩
theorem scLOver : FnScope ["one", "other", "told", "refused", "e"] ["one", "other"] (defScope sLOver) := ⟨rfl, rfl, rfl, by decide +kernel, rfl, by decide +kernel, by decide +kernel⟩
theorem ok_lover (F : FnP K "_law_over" "_law_over" sLOver [] f fd) (T : Txt K mg C E B) (GO : MthOk P w K mg base C (L2.CX P w) 6 "over" ["self", "number"] (spOver C E)) : FnOk P w K mg base CX0 7 f fd ["one", "other"] (spLOver C) := by
  obtain ⟨fO, fdO, GO, O, bO⟩ := GO
  refine F.ok scLOver (fun vs H Q X z => ?_) (fun cdv A outer s H vs Q X hr z => ?_)
  · obtain ⟨p, y, t, b, t2, b2, rfl, _⟩ := z
    rfl
  · obtain ⟨p, y, t, b, t2, b2, rfl, hp, l1, num, l2, z1, z2, z3, z4, k⟩ := z
    refine ⟨_, PSs.nox (pss_cons (ps_set (i := 2) scLOver.nd rfl (Or.inl rfl) pe_non)
      (pss_cons (ps_set (i := 3) scLOver.nd rfl (Or.inl rfl) pe_str)
      (pss_cons (ps_try_as (i := 4) (tb := fun W => tAsg (tMethS C "over" (spOver C E) (WE W) (tVar 0) (tCons (tVar 1) tNil)) (gName 2))
          (ts := fun a cls d => tAsg (tXf a cls d E "word" (tVar 4)) (gName 3))
          (Wout := fun _ _ _ _ => False) rfl rfl scLOver.nd rfl rfl ⟨rfl, by decide, Or.inl T.mgE⟩ takes0
          (fun W pn xe tk _ => pss_one (ps_set (i := 2) scLOver.nd rfl (Or.inl rfl) (by exact (pe_methS (pv 0) T.cl O GO hr bO (fun σ => passAt tk σ) (by exact (pa_cons (pv 1) pa_nil))))))
          (fun a oe cls d pn hz hf => pss_one (ps_set (i := 3) scLOver.nd rfl (Or.inl rfl) (by exact (pe_xf T.xf T.noW hz hf (pv 4))))))
      (pss_one (ps_ret (pe_tup (pa_cons (pv 2) (pa_cons (pv 3) pa_nil)))))))), ?_⟩
    obtain ⟨dx, e1⟩ := id hp
    refine ⟨_, rfl, p, dx, _, rfl, e1, flds_no _ _ (by decide +kernel) (by decide +kernel), _, rfl, ?_⟩
    refine ⟨p, y, t, b, t2, b2, rfl, hp, l1, num, l2, z1, z2, z3, z4, ?_⟩
    rcases k with ⟨h0, k⟩ | ⟨h0, k⟩
    · refine .inl ⟨h0, fun d H2 s2 hd => ⟨true, T.exm, fun _ a0 na => ?_, fun z => Bool.noConfusion z⟩⟩
      refine ⟨_, rfl, rfl, rfl, d, _, _, rfl, hd, look_word, ?_⟩
      exact ⟨_, rfl, _, rfl, (by show 2 ≤ sizeLine; decide), fun r hr => k r _ (s2.trans (new hr)) upd_same⟩
    · refine .inr ⟨h0, fun q H2 s2 hq => ?_⟩
      exact ⟨_, rfl, _, rfl, (by show 2 ≤ sizeLine; decide), fun r hr => k r q _ (s2.trans (new hr)) (hq.same (new hr)) upd_same⟩
end
end K2

set_option Elab.async false
set_option linter.all false
set_option maxRecDepth 100000
set_option maxHeartbeats 4000000
namespace K2
open PySem L2 Rt
abbrev sReckons : Stmt := top 28
/-- te gives a thing that G tells of, from H on, and leaves what is tracked -/
def Gv (te : TE) (σ : St) (H : Hp) (G : V → Hp → Prop) : Prop := ∀ H1 Q, Same H H1 → (∀ v H2, Same H1 H2 → G v H2 → Q v H2) → te σ H1 Q
def Keeps (G : V → Hp → Prop) : Prop := ∀ v H H', Same H H' → G v H → G v H'
def RatG (C : Addr) (t b : Int) : V → Hp → Prop := fun v H => ∃ r, v = .ref r ∧ RatAt C H r t b
def PairG (t b : Int) : V → Hp → Prop := fun v H => ∃ s, v = .ref s ∧ Pair H s t b
theorem RatG.keeps {C : Addr} {t b : Int} : Keeps (RatG C t b) := fun v H H' s ⟨r, e, h⟩ => ⟨r, e, h.same s⟩
theorem PairG.keeps {t b : Int} : Keeps (PairG t b) := fun v H H' s ⟨r, e, h⟩ => ⟨r, e, h.same s⟩
/-- a pair of a Ratio and of what it should be -/
def PairOk (C : Addr) : V → Hp → Prop := fun x H => ∃ u r s t b, x = .ref u ∧ H u = some (.tup [.ref r, .ref s]) ∧ RatAt C H r t b ∧ Pair H s t b
theorem PairOk.keeps {C : Addr} : Keeps (PairOk C) := fun v H H' sm ⟨u, r, s, t, b, e, h1, h2, h3⟩ => ⟨u, r, s, t, b, e, sm _ _ h1, h2.same sm, h3.same sm⟩
theorem gv_pair {C : Addr} {te ue : TE} {σ : St} {H : Hp} {t b : Int} (h : Gv te σ H (RatG C t b)) (k : Gv ue σ H (PairG t b)) : Gv (tTup (tCons te (tCons ue tNil))) σ H (PairOk C) := by
  intro H1 Q s1 q
  refine h H1 _ s1 fun v H2 s2 g => ?_
  refine k H2 _ (s1.trans s2) fun u H3 s3 g' => ?_
  refine ⟨(by show 2 ≤ sizeLine; decide), fun p hp => q _ _ (s2.trans (s3.trans (new hp))) ?_⟩
  obtain ⟨r, rfl, g⟩ := g
  obtain ⟨s, rfl, g'⟩ := g'
  exact ⟨p, r, s, t, b, rfl, upd_same, g.same (s3.trans (new hp)), g'.same (new hp)⟩
/-- a list of such pairs -/
def LstG (C : Addr) : V → Hp → Prop := fun v H => ∃ l xs, v = .ref l ∧ H l = some (.lst xs) ∧ xs.length ≤ 100 ∧ ∀ x ∈ xs, PairOk C x H
theorem LstG.keeps {C : Addr} : Keeps (LstG C) := fun v H H' s ⟨l, xs, e, h, n, k⟩ => ⟨l, xs, e, s _ _ h, n, fun x hx => PairOk.keeps x H H' s (k x hx)⟩
theorem gv_lst3 {C : Addr} {a b c : TE} {σ : St} {H : Hp} (ha : Gv a σ H (PairOk C)) (hb : Gv b σ H (PairOk C)) (hc : Gv c σ H (PairOk C)) : Gv (tLst (tCons a (tCons b (tCons c tNil)))) σ H (fun v H => ∃ l xs, v = .ref l ∧ H l = some (.lst xs) ∧ xs.length = 3 ∧ ∀ x ∈ xs, PairOk C x H) := by
  intro H1 Q s1 q
  refine ha H1 _ s1 fun x H2 s2 gx => hb H2 _ (s1.trans s2) fun y H3 s3 gy => hc H3 _ (s1.trans (s2.trans s3)) fun z H4 s4 gz => ⟨(by show 3 ≤ sizeLine; decide), fun p hp => q _ _ (s2.trans (s3.trans (s4.trans (new hp)))) ⟨p, _, rfl, upd_same, rfl, fun w hw => ?_⟩⟩
  simp only [List.mem_cons, List.not_mem_nil, or_false] at hw
  rcases hw with rfl | rfl | rfl
  · exact PairOk.keeps _ _ _ (s3.trans (s4.trans (new hp))) gx
  · exact PairOk.keeps _ _ _ (s4.trans (new hp)) gy
  · exact PairOk.keeps _ _ _ (new hp) gz
theorem gv_lst2 {C : Addr} {a b : TE} {σ : St} {H : Hp} (ha : Gv a σ H (PairOk C)) (hb : Gv b σ H (PairOk C)) : Gv (tLst (tCons a (tCons b tNil))) σ H (fun v H => ∃ l xs, v = .ref l ∧ H l = some (.lst xs) ∧ xs.length = 2 ∧ ∀ x ∈ xs, PairOk C x H) := by
  intro H1 Q s1 q
  refine ha H1 _ s1 fun x H2 s2 gx => hb H2 _ (s1.trans s2) fun y H3 s3 gy => ⟨(by show 2 ≤ sizeLine; decide), fun p hp => q _ _ (s2.trans (s3.trans (new hp))) ⟨p, _, rfl, upd_same, rfl, fun w hw => ?_⟩⟩
  simp only [List.mem_cons, List.not_mem_nil, or_false] at hw
  rcases hw with rfl | rfl
  · exact PairOk.keeps _ _ _ (s3.trans (new hp)) gx
  · exact PairOk.keeps _ _ _ (new hp) gy
/-- a list of them and some more -/
theorem gv_cat {C : Addr} {te : TE} {σ : St} {H : Hp} {i n m : Nat} {l : Addr} {xs : List V} (hi : σ[i]? = some (some (.ref l))) (hl : H l = some (.lst xs)) (hn : xs.length = n) (hx : ∀ x ∈ xs, PairOk C x H)
    (ht : Gv te σ H (fun v H => ∃ l ys, v = .ref l ∧ H l = some (.lst ys) ∧ ys.length = m ∧ ∀ x ∈ ys, PairOk C x H)) (hz : n + m ≤ 100) : Gv (tOp rCat (tVar i) te) σ H (fun v H => ∃ l ys, v = .ref l ∧ H l = some (.lst ys) ∧ ys.length = n + m ∧ ∀ x ∈ ys, PairOk C x H) := by
  intro H1 Q s1 q
  refine ⟨_, hi, ht H1 _ s1 fun v H2 s2 ⟨k, ys, ev, hk, hm, hy⟩ => ?_⟩
  subst ev
  have hz2 : xs.length + ys.length ≤ sizeLine := Nat.le_trans (by omega) (show 100 ≤ sizeLine by decide)
  refine ⟨l, k, xs, ys, rfl, rfl, s2 _ _ (s1 _ _ hl), hk, hz2, fun p hp => q _ _ (s2.trans (new hp)) ⟨p, _, rfl, upd_same, by rw [List.length_append, hn, hm], fun x hx' => ?_⟩⟩
  rcases List.mem_append.mp hx' with hx' | hx'
  · exact PairOk.keeps _ _ _ (s1.trans (s2.trans (new hp))) (hx x hx')
  · exact PairOk.keeps _ _ _ (new hp) (hy x hx')
section
variable {K : PySem.W.Frag} {C : Addr} {σ : St} {H : Hp} {p : Addr} {y : V} {t b t2 b2 num den : Int}
/-- what is known of both operands -/
structure Ops (C : Addr) (H : Hp) (p : Addr) (y : V) (t b t2 b2 : Int) : Prop where
  rp : RatAt C H p t b
  l1 : Low t b
  nm : NumV C H y t2 b2
  l2 : Low t2 b2
  z1 : Sz 200 t
  z2 : Sz 200 b
  z3 : Sz 200 t2
  z4 : Sz 200 b2
theorem Ops.same {H' : Hp} (o : Ops C H p y t b t2 b2) (s : Same H H') : Ops C H' p y t b t2 b2 := ⟨o.rp.same s, o.l1, o.nm.same s, o.l2, o.z1, o.z2, o.z3, o.z4⟩
theorem up4 {z : Int} (h : Sz 200 z) : Sz 4000 z := h.mono (by decide)
theorem gv_ab {fT : Int → Int → Int → Int → Int} (o : Ops C H p y t b t2 b2) (h0 : σ[0]? = some (some (.ref p))) (h1 : σ[1]? = some (some y)) (e : fT t b t2 b2 = num) (e' : b * b2 = den) :
    Gv (tOp (fun x y H Q => (∃ a dx fs b dy gs, x = V.ref a ∧ y = V.ref b ∧ H a = some (.ins C dx fs) ∧ H b = some (.ins C dy gs) ∧ spBin C fT bb [x, y] H Q E0) ∨ (∃ a dx fs n, x = V.ref a ∧ y = V.int n ∧ H a = some (.ins C dx fs) ∧ spBin C fT bb [x, y] H Q E0)) (tVar 0) (tVar 1)) σ H
      (RatG C (nrmT num den) (nrmB num den)) := by
  subst e e'
  intro H1 Q s1 q
  have o' := o.same s1
  have sp : spBin C fT bb [.ref p, y] H1 Q E0 := ⟨p, y, t, b, t2, b2, rfl, o'.rp, o'.l1, o'.nm, o'.l2, up4 o.z1, up4 o.z2, up4 o.z3, up4 o.z4, fun r H2 s2 hr => q _ _ s2 ⟨r, rfl, hr⟩⟩
  obtain ⟨dx, e1⟩ := o'.rp
  refine ⟨_, h0, _, h1, ?_⟩
  rcases o'.nm with ⟨rfl, hb⟩ | ⟨r, rfl, dr, hr⟩
  · exact .inr ⟨p, dx, _, t2, rfl, rfl, e1, sp⟩
  · exact .inl ⟨p, dx, _, r, dr, _, rfl, rfl, e1, hr, sp⟩
theorem gv_ba {f1 f2 : Int → Int → Int → Int → Int} (o : Ops C H p y t b t2 b2) (h0 : σ[0]? = some (some (.ref p))) (h1 : σ[1]? = some (some y)) (e1 : f1 t2 b2 t b = num) (e1' : b2 * b = den) (e2 : b2 = 1 → f2 t b t2 b2 = num) (e2' : b * b2 = den) :
    Gv (tOp (fun x y H Q => (∃ a dx fs b dy gs, x = V.ref a ∧ y = V.ref b ∧ H a = some (.ins C dx fs) ∧ H b = some (.ins C dy gs) ∧ spBin C f1 bb [x, y] H Q E0) ∨ (∃ n a dx fs, x = V.int n ∧ y = V.ref a ∧ H a = some (.ins C dx fs) ∧ spBin C f2 bb [y, x] H Q E0)) (tVar 1) (tVar 0)) σ H
      (RatG C (nrmT num den) (nrmB num den)) := by
  intro H1 Q s1 q
  have o' := o.same s1
  obtain ⟨dx, ep⟩ := o'.rp
  refine ⟨_, h1, _, h0, ?_⟩
  rcases o'.nm with ⟨rfl, hb⟩ | ⟨r, rfl, dr, hr⟩
  · refine .inr ⟨t2, p, dx, _, rfl, rfl, ep, p, _, t, b, t2, b2, rfl, o'.rp, o'.l1, .inl ⟨rfl, hb⟩, o'.l2, up4 o.z1, up4 o.z2, up4 o.z3, up4 o.z4, fun r H2 s2 hr => q _ _ s2 ⟨r, rfl, ?_⟩⟩
    rw [e2 hb, show bb t b t2 b2 = den from e2'] at hr
    exact hr
  · refine .inl ⟨r, dr, _, p, dx, _, rfl, rfl, hr, ep, r, _, t2, b2, t, b, rfl, ⟨dr, hr⟩, o'.l2, .inr ⟨p, rfl, o'.rp⟩, o'.l1, up4 o.z3, up4 o.z4, up4 o.z1, up4 o.z2, fun r H2 s2 hr => q _ _ s2 ⟨r, rfl, ?_⟩⟩
    rw [e1, show bb t2 b2 t b = den from e1'] at hr
    exact hr
theorem gv_neg (o : Ops C H p y t b t2 b2) (h0 : σ[0]? = some (some (.ref p))) : Gv (tUn (fun x H Q => ∃ a dx fs, x = V.ref a ∧ H a = some (.ins C dx fs) ∧ spUn C (fun t => -t) [x] H Q E0) (tVar 0)) σ H (RatG C (-t) b) := by
  intro H1 Q s1 q
  have o' := o.same s1
  obtain ⟨dx, ep⟩ := o'.rp
  exact ⟨_, h0, p, dx, _, rfl, ep, p, t, b, rfl, o'.rp, o'.l1, o.z2.mono (by decide), fun r H2 s2 hr => q _ _ s2 ⟨r, rfl, hr⟩⟩
theorem gv_abs (o : Ops C H p y t b t2 b2) (h0 : σ[0]? = some (some (.ref p))) : Gv (tCB (fun xs H Q => ∃ a dx fs, xs = [V.ref a] ∧ H a = some (.ins C dx fs) ∧ spUn C (fun t => if t < 0 then -t else t) xs H Q E0) (tCons (tVar 0) tNil)) σ H (RatG C (if t < 0 then -t else t) b) := by
  intro H1 Q s1 q
  have o' := o.same s1
  obtain ⟨dx, ep⟩ := o'.rp
  exact ⟨_, h0, p, dx, _, rfl, ep, p, t, b, rfl, o'.rp, o'.l1, o.z2.mono (by decide), fun r H2 s2 hr => q _ _ s2 ⟨r, rfl, hr⟩⟩
/-! the law's own pairs -/
theorem gv_var {i : Nat} {s : Addr} (hi : σ[i]? = some (some (.ref s))) (h : Pair H s t b) : Gv (tVar i) σ H (PairG t b) := fun H1 Q s1 q => ⟨_, hi, q _ _ (Same.refl _) ⟨s, rfl, h.same s1⟩⟩
theorem gv_minus {i : Nat} {s : Addr} (hi : σ[i]? = some (some (.ref s))) (h : Pair H s t b) : Gv (tTup (tCons (tUn (rU fun i => .int (-i)) (tOp (rIxT K) (tVar i) (tC (.int 0)))) (tCons (tOp (rIxT K) (tVar i) (tC (.int 1))) tNil))) σ H (PairG (-t) b) := by
  intro H1 Q s1 q
  have h' := h.same s1
  exact ⟨_, hi, s, _, _, V.int t, rfl, rfl, SqT.of h', at_of (j := 0) rfl rfl, _, rfl, _, hi, s, _, _, V.int b, rfl, rfl, SqT.of h', at_of (j := 1) rfl rfl, (by show 2 ≤ sizeLine; decide), fun p hp => q _ _ (new hp) ⟨p, rfl, upd_same⟩⟩
theorem gv_absp {i : Nat} {s : Addr} (hi : σ[i]? = some (some (.ref s))) (h : Pair H s t b) : Gv (tTup (tCons (tCB (fun xs H Q => ∃ i, xs = [V.int i] ∧ Q (.int (if i < 0 then -i else i)) H) (tCons (tOp (rIxT K) (tVar i) (tC (.int 0))) tNil)) (tCons (tOp (rIxT K) (tVar i) (tC (.int 1))) tNil))) σ H
    (PairG (if t < 0 then -t else t) b) := by
  intro H1 Q s1 q
  have h' := h.same s1
  exact ⟨_, hi, s, _, _, V.int t, rfl, rfl, SqT.of h', at_of (j := 0) rfl rfl, t, rfl, _, hi, s, _, _, V.int b, rfl, rfl, SqT.of h', at_of (j := 1) rfl rfl, (by show 2 ≤ sizeLine; decide), fun p hp => q _ _ (new hp) ⟨p, rfl, upd_same⟩⟩
theorem gv_call {fT : Int → Int → Int → Int → Int} {u v : TE} (hu : Gv u σ H (PairG t b)) (hv : Gv v σ H (PairG t2 b2)) (hb : b * b2 ≠ 0) (z1 : Sz 200 t) (z2 : Sz 200 b) (z3 : Sz 200 t2) (z4 : Sz 200 b2) (e : fT t b t2 b2 = num) (e' : b * b2 = den) :
    Gv (tCall (spPair fT) [] E0 (tCons u (tCons v tNil))) σ H (PairG (nrmT num den) (nrmB num den)) := by
  subst e e'
  intro H1 Q s1 q
  refine hu H1 _ s1 fun x H2 s2 ⟨r, ex, hr⟩ => hv H2 _ (s1.trans s2) fun x' H3 s3 ⟨r', ex', hr'⟩ => ?_
  subst ex ex'
  exact ⟨r, r', t, b, t2, b2, rfl, hr.same s3, hr', hb, z1.mono (by decide), z2.mono (by decide), z3.mono (by decide), z4.mono (by decide), fun s H4 s4 _ hs => q _ _ (s2.trans (s3.trans s4)) ⟨s, rfl, hs⟩⟩
end
theorem sz_neg {n : Nat} {z : Int} (h : Sz n z) : Sz n (-z) := by
  unfold Sz
  rw [Int.natAbs_neg]
  exact h
theorem gname_step {i : Nat} {x : V} {σ : St} {H : Hp} {Q : St → Hp → Prop} (h : Q (σ.set i (some x)) H) : gName i x σ H Q := h
theorem seq_asg {te : TE} {i : Nat} {rest : TS} {D : Ends} {σ σ' : St} {H : Hp} {G : V → Hp → Prop} (h : Gv te σ' H G) (e : σ = σ') (k : ∀ v H2, Same H H2 → G v H2 → rest D (σ'.set i (some v)) H2) : tSeq (tAsg te (gName i)) rest D σ H := by
  subst e
  exact h H _ (Same.refl _) fun v H2 s g => k v H2 s g
def spReckons (C : Addr) : Sp := fun vs H Q _ => ∃ a y p q t b t2 b2, vs = [.ref a, y, .ref p, .ref q] ∧ Ops C H a y t b t2 b2 ∧ Pair H p t b ∧ Pair H q t2 b2 ∧ ∀ H', Same H H' → Q (.bl true) H'
section
variable {P : Program} {w : World} {K : PySem.W.Frag} {mg : Str → Option Value} {base : Heap} {C E B f g h : Addr} {fd gd hd : FuncData}
theorem scReckons : FnScope ["a", "b", "one", "other", "minus", "pairs", "told", "refused", "pair"] ["a", "b", "one", "other"] (defScope sReckons) := ⟨rfl, rfl, rfl, by decide +kernel, rfl, by decide +kernel, by decide +kernel⟩
theorem ok_reckons (F : FnP K "_law_reckons" "_law_reckons" sReckons [] f fd) (T : Txt K mg C E B)
    (GA : MthOk P w K mg base C CX0 6 "__add__" ["self", "other"] (spBin C addT bb)) (GS : MthOk P w K mg base C CX0 6 "__sub__" ["self", "other"] (spBin C subT bb)) (GX : MthOk P w K mg base C CX0 6 "__mul__" ["self", "other"] (spBin C mulT bb))
    (RA : MthOk P w K mg base C CX0 7 "__radd__" ["self", "other"] (spBin C addT bb)) (RS : MthOk P w K mg base C CX0 7 "__rsub__" ["self", "other"] (spBin C rsubT bb)) (RX : MthOk P w K mg base C CX0 7 "__rmul__" ["self", "other"] (spBin C mulT bb))
    (GN : MthOk P w K mg base C CX0 5 "__neg__" ["self"] (spUn C fun t => -t)) (GB : MthOk P w K mg base C CX0 5 "__abs__" ["self"] (spUn C fun t => if t < 0 then -t else t))
    (LP : GloOk P w K mg base CX0 3 "_law_plus" ["one", "other"] (spPair addT)) (LB : GloOk P w K mg base CX0 3 "_law_by" ["one", "other"] (spPair mulT)) (LI : GloOk P w K mg base CX0 2 "_law_is" ["told", "due"] (spIs C))
    (LO : GloOk P w K mg base CX0 7 "_law_over" ["one", "other"] (spLOver C)) (LF : GloOk P w K mg base CX0 2 "_law_frac" ["top", "bottom"] spFrac) : FnOk P w K mg base CX0 8 f fd ["a", "b", "one", "other"] (spReckons C) := by
  obtain ⟨fA, fdA, GA, MA, bA⟩ := GA
  obtain ⟨fS, fdS, GS, MS, bS⟩ := GS
  obtain ⟨fX, fdX, GX, MX, bX⟩ := GX
  obtain ⟨gA, gdA, RA, NA, cA⟩ := RA
  obtain ⟨gS, gdS, RS, NS, cS⟩ := RS
  obtain ⟨gX, gdX, RX, NX, cX⟩ := RX
  obtain ⟨fN, fdN, GN, MN, bN⟩ := GN
  obtain ⟨fB, fdB, GB, MB, bB⟩ := GB
  obtain ⟨lP, ldP, LP, mP, kP, dP⟩ := LP
  obtain ⟨lB, ldB, LB, mB, kB, dB⟩ := LB
  obtain ⟨lI, ldI, LI, mI, kI, dI⟩ := LI
  obtain ⟨lO, ldO, LO, mO, kO, dO⟩ := LO
  obtain ⟨lF, ldF, LF, mF, kF, dF⟩ := LF
  refine F.ok scReckons (fun vs H Q X z => ?_) (fun cdv A outer s H vs Q X hr z => ?_)
  · obtain ⟨a, y, p, q, t, b, t2, b2, rfl, _⟩ := z
    rfl
  · obtain ⟨a, y, p, q, t, b, t2, b2, rfl, o, hp, hq, k⟩ := z
    have hr6 : Room 6 _ := hr.mono (by decide)
    have hr5 : Room 5 _ := hr.mono (by decide)
    have hr3 : Room 3 _ := hr.mono (by decide)
    have hr2 : Room 2 _ := hr.mono (by decide)
    refine ⟨_, PSs.nox (pss_cons (ps_set (i := 4) scReckons.nd rfl (Or.inl rfl) (pe_tup (pa_cons (pe_un un_neg (pe_ix ix_tup (pv 3) pe_int (fun _ _ => rfl))) (pa_cons (pe_ix ix_tup (pv 3) pe_int (fun _ _ => rfl)) pa_nil))))
      (pss_cons (ps_set (i := 5) scReckons.nd rfl (Or.inl rfl) (pe_lst
        (pa_cons (pe_tup (pa_cons (pe_op (OpR.or (op_same (op := .Add) T.own MA.at_ MA.fn GA hr6 bA pass0) (op_instInt (op := .Add) T.own MA.at_ MA.fn NA.at_ T.iAdd T.iRadd GA hr6 bA pass0)) (pv 0) (pv 1)) (pa_cons (pe_call LP hr3 rfl mP kP dP .nil pass0 (pa_cons (pv 2) (pa_cons (pv 3) pa_nil))) pa_nil)))
        (pa_cons (pe_tup (pa_cons (pe_op (OpR.or (op_same (op := .Sub) T.own MS.at_ MS.fn GS hr6 bS pass0) (op_instInt (op := .Sub) T.own MS.at_ MS.fn NS.at_ T.iSub T.iRsub GS hr6 bS pass0)) (pv 0) (pv 1)) (pa_cons (pe_call LP hr3 rfl mP kP dP .nil pass0 (pa_cons (pv 2) (pa_cons (pv 4) pa_nil))) pa_nil)))
        (pa_cons (pe_tup (pa_cons (pe_op (OpR.or (op_same (op := .Mult) T.own MX.at_ MX.fn GX hr6 bX pass0) (op_instInt (op := .Mult) T.own MX.at_ MX.fn NX.at_ T.iMul T.iRmul GX hr6 bX pass0)) (pv 0) (pv 1)) (pa_cons (pe_call LB hr3 rfl mB kB dB .nil pass0 (pa_cons (pv 2) (pa_cons (pv 3) pa_nil))) pa_nil))) pa_nil)))))
      (pss_cons (ps_set (i := 5) scReckons.nd rfl (Or.inl rfl) (pe_op op_cat (pv 5) (pe_lst
        (pa_cons (pe_tup (pa_cons (pe_op (OpR.or (op_same (op := .Add) T.own MA.at_ MA.fn GA hr6 bA pass0) (op_addRI T.own NA.at_ NA.fn MA.at_ RA hr cA pass0)) (pv 1) (pv 0)) (pa_cons (pe_call LP hr3 rfl mP kP dP .nil pass0 (pa_cons (pv 2) (pa_cons (pv 3) pa_nil))) pa_nil)))
        (pa_cons (pe_tup (pa_cons (pe_op (OpR.or (op_same (op := .Sub) T.own MS.at_ MS.fn GS hr6 bS pass0) (op_subRI T.own NS.at_ NS.fn MS.at_ RS hr cS pass0)) (pv 1) (pv 0)) (pa_cons (pe_call LP hr3 rfl mP kP dP .nil pass0 (pa_cons (pv 3) (pa_cons (pe_tup (pa_cons (pe_un un_neg (pe_ix ix_tup (pv 2) pe_int (fun _ _ => rfl))) (pa_cons (pe_ix ix_tup (pv 2) pe_int (fun _ _ => rfl)) pa_nil))) pa_nil))) pa_nil)))
        (pa_cons (pe_tup (pa_cons (pe_op (OpR.or (op_same (op := .Mult) T.own MX.at_ MX.fn GX hr6 bX pass0) (op_mulRI T.own NX.at_ NX.fn MX.at_ RX hr cX pass0)) (pv 1) (pv 0)) (pa_cons (pe_call LB hr3 rfl mB kB dB .nil pass0 (pa_cons (pv 2) (pa_cons (pv 3) pa_nil))) pa_nil))) pa_nil))))))
      (pss_cons (ps_set (i := 5) scReckons.nd rfl (Or.inl rfl) (pe_op op_cat (pv 5) (pe_lst
        (pa_cons (pe_tup (pa_cons (pe_un (un_negO MN.at_ MN.fn GN hr5 bN pass0) (pv 0)) (pa_cons (pe_tup (pa_cons (pe_un un_neg (pe_ix ix_tup (pv 2) pe_int (fun _ _ => rfl))) (pa_cons (pe_ix ix_tup (pv 2) pe_int (fun _ _ => rfl)) pa_nil))) pa_nil)))
        (pa_cons (pe_tup (pa_cons (pe_callB (call_absO MB.at_ MB.fn GB hr6 bB pass0) (by rfl) T.abs (by decide +kernel) (pa_cons (pv 0) pa_nil)) (pa_cons (pe_tup (pa_cons (pe_callB call_abs (by rfl) T.abs (by decide +kernel) (pa_cons (pe_ix ix_tup (pv 2) pe_int (fun _ _ => rfl)) pa_nil)) (pa_cons (pe_ix ix_tup (pv 2) pe_int (fun _ _ => rfl)) pa_nil))) pa_nil))) pa_nil)))))
      (pss_cons (ps_if (pt_not (pt_val (pe_callB (cr_all rfl) (by rfl) T.all (by decide +kernel) (pa_cons
          (pe_lc (own := [("pair", 8)]) (g := gName 8) (tt := tYes) (by rfl) scReckons.nd (pi_list (pv 5)) (blkOk_by (own := [("pair", 8)]) (N := ["a", "b", "one", "other", "minus", "pairs", "told", "refused", "pair"]) (sc := defScope sReckons) (by decide +kernel)) (fun _ _ _ _ _ => pg_name (i := 8) scReckons.nd rfl (Or.inl rfl)) (fun _ _ _ _ _ => pts_nil)
            (fun _ _ _ _ _ => pe_call LI hr2 rfl mI kI dI .nil pass0 (pa_cons (pe_ix (show IxR _ (rIxT K) from ix_tup) (pv 8) pe_int (fun _ _ => rfl)) (pa_cons (pe_ix (show IxR _ (rIxT K) from ix_tup) (pv 8) pe_int (fun _ _ => rfl)) pa_nil)))) pa_nil)))) (pss_one (ps_ret pe_bl)) pss_nil)
      (pss_cons (ps_asg (pe_call LO hr rfl mO kO dO .nil pass0 (pa_cons (pv 0) (pa_cons (pv 1) pa_nil))) (pg_tup (by rfl) (pgs_cons (pg_name (i := 6) scReckons.nd rfl (Or.inl rfl)) (pgs_cons (pg_name (i := 7) scReckons.nd rfl (Or.inl rfl)) pgs_nil))))
      (pss_cons (ps_if (pt_cmpR op_eq (pe_ix ix_tup (pv 3) pe_int (fun _ _ => rfl)) pe_int (nomark _)) (pss_one (ps_ret (pe_and (pe_cmp (pc_isN (pv 6)) rfl) (pe_one (pe_cmpR op_eq (pv 7) pe_str (nomark _)))))) pss_nil)
      (pss_one (ps_ret (pe_and (pe_cmpR op_eq (pv 7) pe_str (nomark _)) (pe_one (pe_call LI hr2 rfl mI kI dI .nil pass0 (pa_cons (pv 6) (pa_cons (pe_call LF hr2 rfl mF kF dF .nil pass0
        (pa_cons (pe_op op_mulW (pe_ix ix_tup (pv 2) pe_int (fun _ _ => rfl)) (pe_ix ix_tup (pv 3) pe_int (fun _ _ => rfl))) (pa_cons (pe_op op_mulW (pe_ix ix_tup (pv 2) pe_int (fun _ _ => rfl)) (pe_ix ix_tup (pv 3) pe_int (fun _ _ => rfl))) pa_nil))) pa_nil)))))))))))))), ?_⟩
    have bne : b * b2 ≠ 0 := bot_ne o.l1 o.l2
    have bne' : b2 * b ≠ 0 := bot_ne o.l2 o.l1
    -- minus
    refine ⟨_, rfl, q, _, _, V.int t2, rfl, rfl, SqT.of hq, at_of (j := 0) rfl rfl, _, rfl, _, rfl, q, _, _, V.int b2, rfl, rfl, SqT.of hq, at_of (j := 1) rfl rfl, (by show 2 ≤ sizeLine; decide), fun m nm => ?_⟩
    have s1 : Same H (upd H m (.tup [.int (-t2), .int b2])) := new nm
    generalize hH1 : upd H m (.tup [.int (-t2), .int b2]) = H1 at s1
    have hm : Pair H1 m (-t2) b2 := by rw [← hH1]; exact upd_same
    have o1 := o.same s1
    have hp1 := hp.same s1
    have hq1 := hq.same s1
    -- the first three
    have sb1 : subT t b t2 b2 = t * b2 + -t2 * b := by show t * b2 - t2 * b = t * b2 + -t2 * b; rw [Int.neg_mul, Int.sub_eq_add_neg]
    have sb2 : subT t2 b2 t b = t2 * b + -t * b2 := by show t2 * b - t * b2 = t2 * b + -t * b2; rw [Int.neg_mul, Int.sub_eq_add_neg]
    have g1 : Gv _ [some (.ref a), some y, some (.ref p), some (.ref q), some (.ref m), none, none, none, none] H1 _ := gv_lst3
      (gv_pair (gv_ab (fT := addT) (num := t * b2 + t2 * b) (den := b * b2) o1 rfl rfl rfl rfl) (gv_call (fT := addT) (gv_var (i := 2) rfl hp1) (gv_var (i := 3) rfl hq1) bne o.z1 o.z2 o.z3 o.z4 rfl rfl))
      (gv_pair (gv_ab (fT := subT) (num := t * b2 + -t2 * b) (den := b * b2) o1 rfl rfl sb1 rfl) (gv_call (fT := addT) (gv_var (i := 2) rfl hp1) (gv_var (i := 4) rfl hm) bne o.z1 o.z2 (sz_neg o.z3) o.z4 rfl rfl))
      (gv_pair (gv_ab (fT := mulT) (num := t * t2) (den := b * b2) o1 rfl rfl rfl rfl) (gv_call (fT := mulT) (gv_var (i := 2) rfl hp1) (gv_var (i := 3) rfl hq1) bne o.z1 o.z2 o.z3 o.z4 rfl rfl))
    refine gname_step ?_
    refine seq_asg g1 rfl fun v H2 s2 hv => ?_
    obtain ⟨l, xs, rfl, hl, hn, hx⟩ := hv
    have o2 := o1.same s2
    have hp2 := hp1.same s2
    have hq2 := hq1.same s2
    have g2 : Gv _ [some (.ref a), some y, some (.ref p), some (.ref q), some (.ref m), some (.ref l), none, none, none] H2 _ := gv_cat (i := 5) (n := 3) (m := 3) rfl hl hn hx (gv_lst3
      (gv_pair (gv_ba (f1 := addT) (f2 := addT) (num := t * b2 + t2 * b) (den := b * b2) o2 rfl rfl (Int.add_comm _ _) (Int.mul_comm _ _) (fun _ => rfl) rfl) (gv_call (fT := addT) (gv_var (i := 2) rfl hp2) (gv_var (i := 3) rfl hq2) bne o.z1 o.z2 o.z3 o.z4 rfl rfl))
      (gv_pair (gv_ba (f1 := subT) (f2 := rsubT) (num := t2 * b + -t * b2) (den := b2 * b) o2 rfl rfl sb2 rfl (fun _ => Int.add_comm _ _) (Int.mul_comm _ _)) (gv_call (fT := addT) (gv_var (i := 3) rfl hq2) (gv_minus (K := K) (i := 2) rfl hp2) bne' o.z3 o.z4 (sz_neg o.z1) o.z2 rfl rfl))
      (gv_pair (gv_ba (f1 := mulT) (f2 := mulT) (num := t * t2) (den := b * b2) o2 rfl rfl (Int.mul_comm _ _) (Int.mul_comm _ _) (fun _ => rfl) rfl) (gv_call (fT := mulT) (gv_var (i := 2) rfl hp2) (gv_var (i := 3) rfl hq2) bne o.z1 o.z2 o.z3 o.z4 rfl rfl))) (by decide)
    refine seq_asg g2 rfl fun v H3 s3 hv => ?_
    obtain ⟨l', ys, rfl, hl', hn', hx'⟩ := hv
    have o3 := o2.same s3
    have hp3 := hp2.same s3
    have g3 : Gv _ [some (.ref a), some y, some (.ref p), some (.ref q), some (.ref m), some (.ref l'), none, none, none] H3 _ := gv_cat (i := 5) (n := 6) (m := 2) rfl hl' hn' hx' (gv_lst2
      (gv_pair (gv_neg o3 rfl) (gv_minus (K := K) (i := 2) rfl hp3))
      (gv_pair (gv_abs o3 rfl) (gv_absp (K := K) (i := 2) rfl hp3))) (by decide)
    refine seq_asg g3 rfl fun v H4 s4 hv => ?_
    obtain ⟨l4, zs, rfl, hl4, hn4, hx4⟩ := hv
    have s14 : Same H H4 := s1.trans (s2.trans (s3.trans s4))
    -- all of them are as they should be
    refine ⟨_, rfl, l4, rfl, ⟨_, SqL.of hl4⟩, fun D nD => lc_list (K := K) (a := l4) (xs := zs) (fun i H' => Same H4 H' ∧ H' D = some (.lst (List.replicate i (.bl true)))) ⟨new nD, upd_same⟩ (fun i H' _ ⟨sm, _⟩ => SqL.of (sm _ _ hl4)) ?_ ?_⟩
    · rintro i x H5 hi ⟨s5, hD⟩
      obtain ⟨u, r, s', T', B', rfl, hu, hr', hs'⟩ := PairOk.keeps _ _ _ s5 (hx4 x (List.mem_of_getElem? hi))
      refine ⟨rfl, ?_⟩
      unfold tYes
      refine iteT ?_
      refine ⟨_, rfl, u, _, _, V.ref r, rfl, rfl, SqT.of hu, at_of (j := 0) rfl rfl, _, rfl, u, _, _, V.ref s', rfl, rfl, SqT.of hu, at_of (j := 1) rfl rfl, r, s', T', B', rfl, hr', hs', _, hD, ?_, fun b o e => ?_, ?_⟩
      · have : i < zs.length := (List.getElem?_eq_some_iff.mp hi).1
        rw [List.length_replicate]
        exact Nat.lt_of_lt_of_le (by omega) (show 100 ≤ sizeLine by decide)
      · rw [upd_ne (ne_of_none e nD)]
        exact s5 _ _ e
      · rw [upd_same, ← List.replicate_succ']
    rintro H5 ⟨s5, hD⟩
    refine ⟨D, List.replicate zs.length true, rfl, by rw [List.map_replicate]; exact SqL.of hD, true, by rw [show (List.replicate zs.length true).all id = true by simp], iteF ?_⟩
    -- over
    have s15 : Same H H5 := s14.trans s5
    have o5 := o.same s15
    refine ⟨_, rfl, _, rfl, a, y, t, b, t2, b2, rfl, o5.rp, o5.l1, o5.nm, o5.l2, up4 o.z1, up4 o.z2, up4 o.z3, up4 o.z4, ?_⟩
    rcases Decidable.em (t2 = 0) with c | c
    · refine .inl ⟨c, fun r H6 s6 h6 => ⟨r, _, rfl, SqT.of h6, rfl, _, _, rfl, _, _, rfl, rfl, ?_⟩⟩
      refine ⟨_, rfl, q, _, _, V.int t2, rfl, rfl, SqT.of (hq.same (s15.trans s6)), at_of (j := 0) rfl rfl, rfl, _, rfl, itT (decide_eq_true (congrArg V.int c)) ?_⟩
      exact ⟨_, rfl, _, rfl, itT (decide_eq_true rfl) ⟨_, rfl, rfl, k H6 (s15.trans s6)⟩⟩
    · refine .inr ⟨c, fun r r' H6 s6 hr6' h6 => ⟨r, _, rfl, SqT.of h6, rfl, _, _, rfl, _, _, rfl, rfl, ?_⟩⟩
      have hp6 := hp.same (s15.trans s6)
      have hq6 := hq.same (s15.trans s6)
      refine ⟨_, rfl, q, _, _, V.int t2, rfl, rfl, SqT.of hq6, at_of (j := 0) rfl rfl, rfl, _, rfl, itF (decide_eq_false fun z => c (V.int.inj z)) ?_⟩
      refine ⟨_, rfl, rfl, _, rfl, itT (decide_eq_true rfl) ?_⟩
      refine ⟨_, rfl, _, rfl, p, _, _, V.int t, rfl, rfl, SqT.of hp6, at_of (j := 0) rfl rfl, _, rfl, q, _, _, V.int b2, rfl, rfl, SqT.of hq6, at_of (j := 1) rfl rfl, _, _, rfl, rfl, mulOk (up4 o.z1) (up4 o.z4), ?_⟩
      refine ⟨_, rfl, p, _, _, V.int b, rfl, rfl, SqT.of hp6, at_of (j := 1) rfl rfl, _, rfl, q, _, _, V.int t2, rfl, rfl, SqT.of hq6, at_of (j := 0) rfl rfl, _, _, rfl, rfl, mulOk (up4 o.z2) (up4 o.z3), ?_⟩
      refine ⟨_, _, rfl, Int.mul_ne_zero (Int.ne_of_gt o.l1.pos) c, (o.z2.mul o.z3).mono (by decide), fun u H7 s7 _ hu => ?_⟩
      exact ⟨r', u, _, _, rfl, hr6'.same s7, hu, k H7 (s15.trans (s6.trans s7))⟩
end
end K2

set_option Elab.async false
set_option linter.all false
set_option maxRecDepth 100000
set_option maxHeartbeats 4000000
namespace K2
open PySem L2 Rt
abbrev sLaw : Stmt := top 29
theorem same_but {l : Addr} {H0 H1 H2 : Hp} (s : Same H0 H1) (n : H0 l = none) (b : But l H1 H2) : Same H0 H2 := fun c o e => b c o (ne_of_none e n) (s c o e)
theorem strm_ne {H : Hp} {l p : Addr} {o : HO} (st : Strm H l) (h : H p = some o) (d : ∀ xs, o ≠ .lst xs) : p ≠ l := fun z => by
  obtain ⟨c, e, n, hl⟩ := st
  rw [z, hl] at h
  exact d _ (Option.some.inj h).symm
theorem Strm.same {H H' : Hp} {l : Addr} (st : Strm H l) (s : Same H H') : Strm H' l := let ⟨c, e, n, h⟩ := st; ⟨c, e, n, s _ _ h⟩
theorem RatAt.but {C : Addr} {H H' : Hp} {l p : Addr} {t b : Int} (h : RatAt C H p t b) (n : p ≠ l) (s : But l H H') : RatAt C H' p t b := let ⟨dx, e⟩ := h; ⟨dx, s _ _ n e⟩
theorem Pair.but {H H' : Hp} {l p : Addr} {t b : Int} (h : Pair H p t b) (n : p ≠ l) (s : But l H H') : Pair H' p t b := s _ _ n h
theorem rat_ne {C : Addr} {H : Hp} {l p : Addr} {t b : Int} (st : Strm H l) (h : RatAt C H p t b) : p ≠ l := let ⟨dx, e⟩ := h; strm_ne st e fun _ z => by cases z
theorem pair_ne {H : Hp} {l p : Addr} {t b : Int} (st : Strm H l) (h : Pair H p t b) : p ≠ l := strm_ne st h fun _ z => by cases z
/-- what top and bottom may be -/
def TopV (C : Addr) (H : Hp) (l : Addr) (x : V) : Prop := (∃ t : Int, x = .int t ∧ t.natAbs ≤ 10 ^ 40) ∨ OddV C H l x
theorem TopV.but {C : Addr} {H H' : Hp} {l : Addr} {v : V} (h : TopV C H l v) (s : But l H H') : TopV C H' l v := by
  rcases h with h | h
  · exact .inl h
  · exact .inr (h.but s)
theorem sz40 {z : Int} (h : z.natAbs ≤ 10 ^ 40) : Sz 200 z := Nat.lt_of_le_of_lt h (by decide +kernel)
section
variable {K : PySem.W.Frag} {mg : Str → Option Value} {C E B : Addr} {D : Ends} {rest : TS} {σ : St} {H : Hp} {l : Addr}
/-- if _law_draw(stream, 6) == 0: x = _law_odd(stream) -/
theorem join_odd {i : Nat} (h2 : σ[2]? = some (some (.ref l))) (st : Strm H l) (k : ∀ σ' H', But l H H' → Strm H' l → (σ' = σ ∨ ∃ x, OddV C H' l x ∧ σ' = σ.set i (some x)) → rest D σ' H') :
    tSeq (tIfS (tTest (tOp rEq (tCall spDraw [] E0 (tCons (tVar 2) (tCons (tC (.int 6)) tNil))) (tC (.int 0)))) (tAsg (tCall (spOdd C) [] E0 (tCons (tVar 2) tNil)) (gName i)) tNext) rest D σ H := by
  refine ⟨_, h2, l, 6, rfl, st, by decide, by unfold Sz; decide +kernel, fun d H1 d0 d1 b1 s1 => ⟨rfl, _, rfl, ?_⟩⟩
  rcases Decidable.em (V.int d = V.int 0) with c | c
  · refine itT (decide_eq_true c) ?_
    exact ⟨_, h2, l, rfl, s1, fun v H2 b2 s2 ov => k _ H2 (b1.trans b2) s2 (.inr ⟨v, ov, rfl⟩)⟩
  · refine itF (decide_eq_false c) ?_
    exact k _ H1 b1 s1 (.inl rfl)
/-- if other[1] == 1 and _law_draw(stream, 2) == 0: second = other[0] -/
theorem join_second {p : Addr} {t b : Int} (h2 : σ[2]? = some (some (.ref l))) (h9 : σ[9]? = some (some (.ref p))) (st : Strm H l) (npl : p ≠ l) (hp : Pair H p t b) (k : ∀ σ' H', But l H H' → Strm H' l → (σ' = σ ∨ (b = 1 ∧ σ' = σ.set 10 (some (.int t)))) → rest D σ' H') :
    tSeq (tIfS (tAnd (tTest (tOp rEq (tOp (rIxT K) (tVar 9) (tC (.int 1))) (tC (.int 1)))) (tTest (tOp rEq (tCall spDraw [] E0 (tCons (tVar 2) (tCons (tC (.int 2)) tNil))) (tC (.int 0))))) (tAsg (tOp (rIxT K) (tVar 9) (tC (.int 0))) (gName 10)) tNext) rest D σ H := by
  refine ⟨_, h9, p, _, _, V.int b, rfl, rfl, SqT.of hp, at_of (j := 1) rfl rfl, rfl, _, rfl, ?_⟩
  rcases Decidable.em (V.int b = V.int 1) with c | c
  · refine itT (decide_eq_true c) ?_
    refine ⟨_, h2, l, 2, rfl, st, by decide, by unfold Sz; decide +kernel, fun d H1 d0 d1 b1 s1 => ⟨rfl, _, rfl, ?_⟩⟩
    rcases Decidable.em (V.int d = V.int 0) with c' | c'
    · refine itT (decide_eq_true c') ?_
      exact ⟨_, h9, p, _, _, V.int t, rfl, rfl, SqT.of (b1 _ _ npl hp), at_of (j := 0) rfl rfl, k _ H1 b1 s1 (.inr ⟨V.int.inj c, rfl⟩)⟩
    · refine itF (decide_eq_false c') ?_
      exact k _ H1 b1 s1 (.inl rfl)
  · refine itF (decide_eq_false c) (iteF ?_)
    exact k _ H (fun _ _ _ e => e) st (.inl rfl)
/-- what becomes of both -/
theorem sorts (T : Txt K mg C E B) {x y : V} (hx : TopV C H l x) (hy : TopV C H l y) : (∃ w, Due K H x y w ∧ V.str w ≠ V.str "") ∨ ∃ t b : Int, x = .int t ∧ y = .int b ∧ b ≠ 0 ∧ t.natAbs ≤ 10 ^ 40 ∧ b.natAbs ≤ 10 ^ 40 := by
  rcases hx with ⟨t, rfl, zt⟩ | hx
  · rcases hy with ⟨b, rfl, zb⟩ | hy
    · rcases Decidable.em (b = 0) with c | c
      · subst c
        exact .inl ⟨"zero", .inr (.inr ⟨t, rfl, rfl, rfl⟩), by decide +kernel⟩
      · exact .inr ⟨t, b, rfl, rfl, c, zt, zb⟩
    · exact .inl ⟨"bottom", .inr (.inl ⟨t, rfl, OddV.int T hy, rfl⟩), by decide +kernel⟩
  · exact .inl ⟨"top", .inl ⟨OddV.int T hx, rfl⟩, by decide +kernel⟩
end
def spLaw (K : PySem.W.Frag) : Sp := fun vs H Q _ => ∃ (a : Addr) (ns : List Int), vs = [.ref a] ∧ SqL K H a (ns.map V.int) ∧ ns.length ≤ 63 ∧ ∀ H', Q (.bl true) H'
theorem upto (n : Int) (h : 0 ≤ n) : 2 ≤ (if (if (21 : Int) < n then 21 else n) > 2 then (if (21 : Int) < n then 21 else n) else 2) ∧ (if (if (21 : Int) < n then 21 else n) > 2 then (if (21 : Int) < n then 21 else n) else 2) ≤ 21 := by
  split <;> split <;> omega
section
variable {P : Program} {w : World} {K : PySem.W.Frag} {mg : Str → Option Value} {base : Heap} {C E B f g h : Addr} {fd gd hd : FuncData}
theorem scLaw : FnScope ["script", "at", "stream", "top", "bottom", "made", "refused", "below", "one", "other", "second"] ["script"] (defScope sLaw) := ⟨rfl, rfl, rfl, by decide +kernel, rfl, by decide +kernel, by decide +kernel⟩
theorem ok_law (F : FnP K "law" "law" sLaw [] f fd) (T : Txt K mg C E B) (GM : MkOk P w K mg base C (L2.CX P w) 3 ["self", "top", "bottom"] [.int 1] (spInit K C E))
    (LS : GloOk P w K mg base CX0 1 "_law_stream" ["script", "k"] (spStream K)) (LD : GloOk P w K mg base CX0 1 "_law_draw" ["stream", "many"] spDraw) (LN : GloOk P w K mg base CX0 2 "_law_integer" ["stream"] spInteger)
    (LO : GloOk P w K mg base CX0 5 "_law_odd" ["stream"] (spOdd C)) (LM : GloOk P w K mg base CX0 5 "_law_made" ["top", "bottom"] (spMade K C)) (LU : GloOk P w K mg base CX0 2 "_law_refused" ["top", "bottom"] (spRefused K))
    (LF : GloOk P w K mg base CX0 2 "_law_frac" ["top", "bottom"] spFrac) (LI : GloOk P w K mg base CX0 2 "_law_is" ["told", "due"] (spIs C)) (LR : GloOk P w K mg base CX0 8 "_law_reckons" ["a", "b", "one", "other"] (spReckons C)) :
    FnOk P w K mg base CX0 9 f fd ["script"] (spLaw K) := by
  obtain ⟨fM, fdM, GM, M, bM, ds, vM, bMD⟩ := GM
  obtain ⟨lS, ldS, LS, mS, kS, dS⟩ := LS
  obtain ⟨lD, ldD, LD, mD, kD, dD⟩ := LD
  obtain ⟨lN, ldN, LN, mN, kN, dN⟩ := LN
  obtain ⟨lO, ldO, LO, mO, kO, dO⟩ := LO
  obtain ⟨lM, ldM, LM, mM, kM, dM⟩ := LM
  obtain ⟨lU, ldU, LU, mU, kU, dU⟩ := LU
  obtain ⟨lF, ldF, LF, mF, kF, dF⟩ := LF
  obtain ⟨lI, ldI, LI, mI, kI, dI⟩ := LI
  obtain ⟨lR, ldR, LR, mR, kR, dR⟩ := LR
  refine F.ok scLaw (fun vs H Q X z => ?_) (fun cdv A outer s H vs Q X hr z => ?_)
  · obtain ⟨a, ns, rfl, _⟩ := z
    rfl
  · obtain ⟨a, ns, rfl, hS, hlen, k⟩ := z
    have hr1 : Room 1 _ := hr.mono (by decide)
    have hr2 : Room 2 _ := hr.mono (by decide)
    have hr4 : Room 4 _ := hr.mono (by decide)
    have hr5 : Room 5 _ := hr.mono (by decide)
    refine ⟨_, PSs.nox (pss_cons (ps_for PassesOwn.never rfl (pi_range2 (by rfl) T.range (pa_cons pe_int (pa_cons (pe_callB (call_max2 rfl) (by rfl) T.max (by decide +kernel) (pa_cons pe_int (pa_cons (pe_callB (call_min2 rfl) (by rfl) T.min (by decide +kernel)
          (pa_cons (pe_callB call_len_seq (by rfl) T.len PySem.boot_len (pa_cons (pv 0) pa_nil)) (pa_cons pe_int pa_nil))) pa_nil))) pa_nil))) (pg_name (i := 1) scLaw.nd rfl (Or.inl rfl))
        (pss_cons (ps_set (i := 2) scLaw.nd rfl (Or.inl rfl) (pe_call LS hr1 rfl mS kS dS .nil pass0 (pa_cons (pv 0) (pa_cons (pv 1) pa_nil))))
        (pss_cons (ps_set (i := 3) scLaw.nd rfl (Or.inl rfl) (pe_call LN hr2 rfl mN kN dN .nil pass0 (pa_cons (pv 2) pa_nil)))
        (pss_cons (ps_set (i := 4) scLaw.nd rfl (Or.inl rfl) (pe_call LN hr2 rfl mN kN dN .nil pass0 (pa_cons (pv 2) pa_nil)))
        (pss_cons (ps_if (pt_cmpR op_eq (pe_call LD hr1 rfl mD kD dD .nil pass0 (pa_cons (pv 2) (pa_cons pe_int pa_nil))) pe_int (nomark _)) (pss_one (ps_set (i := 3) scLaw.nd rfl (Or.inl rfl) (pe_call LO hr5 rfl mO kO dO .nil pass0 (pa_cons (pv 2) pa_nil)))) pss_nil)
        (pss_cons (ps_if (pt_cmpR op_eq (pe_call LD hr1 rfl mD kD dD .nil pass0 (pa_cons (pv 2) (pa_cons pe_int pa_nil))) pe_int (nomark _)) (pss_one (ps_set (i := 4) scLaw.nd rfl (Or.inl rfl) (pe_call LO hr5 rfl mO kO dO .nil pass0 (pa_cons (pv 2) pa_nil)))) pss_nil)
        (pss_cons (ps_asg (pe_call LM hr5 rfl mM kM dM .nil pass0 (pa_cons (pv 3) (pa_cons (pv 4) pa_nil))) (pg_tup (by rfl) (pgs_cons (pg_name (i := 5) scLaw.nd rfl (Or.inl rfl)) (pgs_cons (pg_name (i := 6) scLaw.nd rfl (Or.inl rfl)) (pgs_cons (pg_name (i := 7) scLaw.nd rfl (Or.inl rfl)) pgs_nil)))))
        (pss_cons (ps_if (PW.pt (pw_or (pt_cmpR op_ne (pv 6) (pe_call LU hr2 rfl mU kU dU .nil pass0 (pa_cons (pv 3) (pa_cons (pv 4) pa_nil))) (nomark _)) (pw_or1 (pt_not (pt_val (pv 7)))))) (pss_one (ps_ret pe_bl)) pss_nil)
        (pss_one (ps_if (pt_cmpR op_eq (pv 6) pe_str (nomark _))
          (pss_cons (ps_set (i := 8) scLaw.nd rfl (Or.inl rfl) (pe_call LF hr2 rfl mF kF dF .nil pass0 (pa_cons (pv 3) (pa_cons (pv 4) pa_nil))))
          (pss_cons (ps_if (pt_not (pt_val (pe_call LI hr2 rfl mI kI dI .nil pass0 (pa_cons (pv 5) (pa_cons (pv 8) pa_nil))))) (pss_one (ps_ret pe_bl)) pss_nil)
          (pss_cons (ps_set (i := 9) scLaw.nd rfl (Or.inl rfl) (pe_call LF hr2 rfl mF kF dF .nil pass0 (pa_cons (pe_call LN hr2 rfl mN kN dN .nil pass0 (pa_cons (pv 2) pa_nil)) (pa_cons (pe_op op_add pe_int (pe_call LD hr1 rfl mD kD dD .nil pass0 (pa_cons (pv 2) (pa_cons pe_int pa_nil)))) pa_nil))))
          (pss_cons (ps_set (i := 10) scLaw.nd rfl (Or.inl rfl) (pe_make M GM hr4 rfl T.mgC bM .nil passL (pa_cons (pe_ix ix_tup (pv 9) pe_int (fun _ _ => rfl)) (pa_cons (pe_ix ix_tup (pv 9) pe_int (fun _ _ => rfl)) pa_nil))))
          (pss_cons (ps_if (PW.pt (pw_and (pt_cmpR op_eq (pe_ix ix_tup (pv 9) pe_int (fun _ _ => rfl)) pe_int (nomark _)) (pw_and1 (pt_cmpR op_eq (pe_call LD hr1 rfl mD kD dD .nil pass0 (pa_cons (pv 2) (pa_cons pe_int pa_nil))) pe_int (nomark _)))))
            (pss_one (ps_set (i := 10) scLaw.nd rfl (Or.inl rfl) (pe_ix ix_tup (pv 9) pe_int (fun _ _ => rfl)))) pss_nil)
          (pss_one (ps_if (PW.pt (pw_or (pt_not (pt_val (pe_call LR hr rfl mR kR dR .nil pass0 (pa_cons (pv 5) (pa_cons (pv 10) (pa_cons (pv 8) (pa_cons (pv 9) pa_nil))))))) (pw_or1 (pt_not (pt_val (pe_call LI hr2 rfl mI kI dI .nil pass0 (pa_cons (pv 5) (pa_cons (pv 8) pa_nil)))))))) (pss_one (ps_ret pe_bl)) pss_nil)))))))
          pss_nil))))))))))
      (pss_one (ps_ret (pe_and
        (pe_call LI hr2 rfl mI kI dI .nil pass0 (pa_cons (pe_make M GM hr4 rfl T.mgC bMD vM passL (pa_cons pe_int pa_nil)) (pa_cons (pe_tup (pa_cons pe_int (pa_cons pe_int pa_nil))) pa_nil)))
        (pe_one (pe_call LI hr2 rfl mI kI dI .nil pass0 (pa_cons (pe_make M GM hr4 rfl T.mgC bM .nil passL (pa_cons (pe_un un_neg pe_int) (pa_cons (pe_un un_neg pe_int) pa_nil))) (pa_cons (pe_tup (pa_cons pe_int (pa_cons pe_int pa_nil))) pa_nil)))))))), ?_⟩
    obtain ⟨u1, u2⟩ := upto ((ns.map V.int).length : Int) (by omega)
    refine ⟨_, rfl, a, _, rfl, .inl hS, _, _, rfl, _, _, rfl, _, _, rfl, ⟨by decide, by decide, by omega, by omega⟩, ?_⟩
    refine for_range (lo := 1) (n := _) (fun i σ H1 => Same H H1 ∧ ∃ v1 v2 v3 v4 v5 v6 v7 v8 v9 v10 : Option V, σ = [some (.ref a), v1, v2, v3, v4, v5, v6, v7, v8, v9, v10])
      ⟨Same.refl H, none, none, none, none, none, none, none, none, none, none, rfl⟩ ?_ ?_
    · rintro i σ H0 hi ⟨s0, v1, v2, v3, v4, v5, v6, v7, v8, v9, v10, rfl⟩
      have hi2 : i < 1000 := by omega
      refine ⟨_, rfl, _, rfl, a, ns, 1 + i, by rw [Int.natCast_add]; rfl, s0.seq hS, by omega, fun l H1 s1 nl st1 => ?_⟩
      have f1 : Same H H1 := s0.trans s1
      have nlH : H l = none := s0.free nl
      refine ⟨_, rfl, l, rfl, st1, fun z1 H2 b2 st2 hz1 => ?_⟩
      refine ⟨_, rfl, l, rfl, st2, fun z2 H3 b3 st3 hz2 => ?_⟩
      refine gname_step ?_
      have f3 : Same H H3 := same_but (same_but f1 nlH b2) nlH b3
      refine join_odd (C := C) (l := l) rfl st3 fun σ4 H4 b4 st4 h4 => ?_
      have f4 : Same H H4 := same_but f3 nlH b4
      obtain ⟨x, hx, rfl⟩ : ∃ x, TopV C H4 l x ∧ σ4 = [some (.ref a), some (.int (1 + (i : Int))), some (.ref l), some x, some (.int z2), v5, v6, v7, v8, v9, v10] := by
        rcases h4 with rfl | ⟨x, hx, rfl⟩
        · exact ⟨_, .inl ⟨z1, rfl, hz1⟩, rfl⟩
        · exact ⟨x, .inr hx, rfl⟩
      refine join_odd (C := C) (l := l) rfl st4 fun σ5 H5 b5 st5 h5 => ?_
      have f5 : Same H H5 := same_but f4 nlH b5
      have hx5 := hx.but b5
      obtain ⟨y, hy, rfl⟩ : ∃ y, TopV C H5 l y ∧ σ5 = [some (.ref a), some (.int (1 + (i : Int))), some (.ref l), some x, some y, v5, v6, v7, v8, v9, v10] := by
        rcases h5 with rfl | ⟨y, hy, rfl⟩
        · exact ⟨_, .inl ⟨z2, rfl, hz2⟩, rfl⟩
        · exact ⟨y, .inr hy, rfl⟩
      rcases sorts T hx5 hy with ⟨w', due, hw⟩ | ⟨t, b, rfl, rfl, hb, zt, zb⟩
      · -- refused
        refine ⟨_, rfl, _, rfl, x, y, rfl, .inl ⟨w', due, fun p H6 s6 h6 => ⟨p, _, rfl, SqT.of h6, rfl, _, _, rfl, _, _, rfl, _, _, rfl, rfl, ?_⟩⟩⟩
        have due6 : Due K H6 x y w' := by
          rcases due with ⟨iv, e⟩ | ⟨t, e, iv, e'⟩ | z
          · exact .inl ⟨iv.same s6, e⟩
          · exact .inr (.inl ⟨t, e, iv.same s6, e'⟩)
          · exact .inr (.inr z)
        refine ⟨_, rfl, _, rfl, _, rfl, x, y, rfl, .inl ⟨w', due6, fun H7 s7 => ⟨rfl, _, rfl, itF (by rw [decide_eq_true rfl]; rfl) ?_⟩⟩⟩
        refine ⟨_, rfl, true, rfl, iteF ?_⟩
        refine ⟨_, rfl, rfl, _, rfl, itF (decide_eq_false hw) ?_⟩
        exact ⟨f5.trans (s6.trans s7), _, _, _, _, _, _, _, _, _, _, rfl⟩
      · -- made
        refine ⟨_, rfl, _, rfl, _, _, rfl, .inr ⟨t, b, rfl, rfl, hb, (sz40 zb).mono (by decide), fun p q H6 s6 hq6 h6 => ⟨p, _, rfl, SqT.of h6, rfl, _, _, rfl, _, _, rfl, _, _, rfl, rfl, ?_⟩⟩⟩
        refine ⟨_, rfl, _, rfl, _, rfl, _, _, rfl, .inr ⟨t, b, rfl, rfl, hb, fun H7 s7 => ⟨rfl, _, rfl, itF (by rw [decide_eq_true rfl]; rfl) ?_⟩⟩⟩
        refine ⟨_, rfl, true, rfl, iteF ?_⟩
        refine ⟨_, rfl, rfl, _, rfl, itT (decide_eq_true rfl) ?_⟩
        have lo1 := nrm_low (p := t) hb
        obtain ⟨le1, le2⟩ := nrm_le (p := t) hb
        have q1 : Sz 200 (nrmT t b) := sz40 (Nat.le_trans le1 zt)
        have q2 : Sz 200 (nrmB t b) := sz40 (Nat.le_trans le2 zb)
        have st7 := (st5.same s6).same s7
        have hq7 := hq6.same s7
        have f7 := f5.trans (s6.trans s7)
        -- one
        refine ⟨_, rfl, _, rfl, t, b, rfl, hb, (sz40 zb).mono (by decide), fun p1 H8 s8 n1 pr1 => ?_⟩
        have hq8 := hq7.same s8
        have st8 := st7.same s8
        refine ⟨_, rfl, _, rfl, q, p1, _, _, rfl, hq8, pr1, true, rfl, iteF ?_⟩
        -- other
        refine ⟨_, rfl, l, rfl, st8, fun z3 H9 b9 st9 hz3 => ⟨_, rfl, l, 12, rfl, st9, by decide, by unfold Sz; decide +kernel, fun d H10 d0 d1 b10 st10 => ⟨_, _, rfl, rfl, ?_⟩⟩⟩
        have hd : 1 + d ≠ 0 := by omega
        have hd40 : (1 + d).natAbs ≤ 10 ^ 40 := Nat.le_trans (show (1 + d).natAbs ≤ 12 by omega) (by decide)
        refine ⟨z3, 1 + d, rfl, hd, (sz40 hd40).mono (by decide), fun p2 H11 s11 n2 pr2 => ?_⟩
        have b8 : But l H8 H10 := b9.trans b10
        have f10 : Same H H10 := same_but (f7.trans s8) nlH b8
        have hq11 := (hq8.but (rat_ne st8 hq8) b8).same s11
        have pr11 := (pr1.but (pair_ne st8 pr1) b8).same s11
        have st11 := st10.same s11
        have lo2 := nrm_low (p := z3) hd
        obtain ⟨le3, le4⟩ := nrm_le (p := z3) hd
        have q3 : Sz 200 (nrmT z3 (1 + d)) := sz40 (Nat.le_trans le3 hz3)
        have q4 : Sz 200 (nrmB z3 (1 + d)) := sz40 (Nat.le_trans le4 hd40)
        -- second
        refine ⟨_, rfl, p2, _, _, V.int (nrmT z3 (1 + d)), rfl, rfl, SqT.of pr2, at_of (j := 0) rfl rfl, _, rfl, p2, _, _, V.int (nrmB z3 (1 + d)), rfl, rfl, SqT.of pr2, at_of (j := 1) rfl rfl, fun x2 dx2 nx nd nex => ?_⟩
        refine ⟨x2, dx2, _, _, rfl, upd_same, .inr (.inr (.inr ⟨_, _, rfl, rfl, Int.ne_of_gt lo2.pos, q4.mono (by decide), fun H12 fr12 rt12 => ⟨rfl, ?_⟩⟩))⟩
        rw [(nrm_of_low lo2).1, (nrm_of_low lo2).2] at rt12
        have s12 : Same H11 H12 := Same.made nx nd fun b o e ne => fr12 b o ne e
        have st12 := st11.same s12
        have pr12 := pr2.same s12
        have hq12 := hq11.same s12
        have po12 := pr11.same s12
        refine gname_step ?_
        refine join_second (K := K) (l := l) (p := p2) rfl rfl st12 (pair_ne st12 pr12) pr12 fun σ13 H13 b13 st13 h13 => ?_
        have f13 : Same H H13 := same_but (f10.trans (s11.trans s12)) nlH b13
        obtain ⟨y2, num, rfl⟩ : ∃ y2, NumV C H13 y2 (nrmT z3 (1 + d)) (nrmB z3 (1 + d)) ∧ σ13 = [some (.ref a), some (.int (1 + (i : Int))), some (.ref l), some (.int t), some (.int b), some (.ref q), some (.str ""), some (.bl true), some (.ref p1), some (.ref p2), some y2] := by
          rcases h13 with rfl | ⟨e1, rfl⟩
          · exact ⟨_, .inr ⟨x2, rfl, rt12.but (rat_ne st12 rt12) b13⟩, rfl⟩
          · exact ⟨_, .inl ⟨rfl, e1⟩, rfl⟩
        have hq13 := hq12.but (rat_ne st12 hq12) b13
        have po13 := po12.but (pair_ne st12 po12) b13
        have pr13 := pr12.but (pair_ne st12 pr12) b13
        refine ⟨_, rfl, _, rfl, _, rfl, _, rfl, q, y2, p1, p2, _, _, _, _, rfl, ⟨hq13, lo1, num, lo2, q1, q2, q3, q4⟩, po13, pr13, fun H14 s14 => ⟨true, rfl, iteF ?_⟩⟩
        refine ⟨_, rfl, _, rfl, q, p1, _, _, rfl, hq13.same s14, po13.same s14, true, rfl, iteF ?_⟩
        exact ⟨f13.trans s14, _, _, _, _, _, _, _, _, _, _, rfl⟩
    · rintro σ H1 ⟨s0, v1, v2, v3, v4, v5, v6, v7, v8, v9, v10, rfl⟩
      intro x dx nx nd nex
      refine ⟨x, dx, .int 7, .int 1, rfl, upd_same, .inr (.inr (.inr ⟨7, 1, rfl, rfl, by decide, by unfold Sz; decide +kernel, fun H2 fr rt => ⟨rfl, (by show 2 ≤ sizeLine; decide), fun p hp => ?_⟩⟩))⟩
      rw [(nrm_of_low (low_int 7)).1, (nrm_of_low (low_int 7)).2] at rt
      refine ⟨x, p, 7, 1, rfl, rt.same (new hp), upd_same, true, rfl, iteT ?_⟩
      refine ⟨_, rfl, _, rfl, fun x' dx' nx' nd' nex' => ?_⟩
      refine ⟨x', dx', _, _, rfl, upd_same, .inr (.inr (.inr ⟨-6, -4, rfl, rfl, by decide, by unfold Sz; decide +kernel, fun H3 fr' rt' => ⟨rfl, (by show 2 ≤ sizeLine; decide), fun p' hp' => ?_⟩⟩))⟩
      rw [show nrmT (-6) (-4) = 3 by decide +kernel, show nrmB (-6) (-4) = 2 by decide +kernel] at rt'
      exact ⟨x', p', 3, 2, rfl, rt'.same (new hp'), upd_same, k _⟩
end
end K2

set_option Elab.async false
set_option linter.all false
set_option maxRecDepth 100000
set_option maxHeartbeats 4000000
/-! law k02: what the top has left, and the end -/
namespace K2
open PySem L2 Rt
abbrev Lk (K : PySem.W.Frag) (f : Addr) (o : Obj) : Prop := K.lookup f = some o
/-- a def without defaults stands at f -/
theorem fnp {K : PySem.W.Frag} {x q : Str} {st : Stmt} {f : Addr} {oc : Value} {od an : Option Addr} {osl : Array (Option Value)} {kV doc pm cdv ct : Value}
    (l : K.lookup f = some ⟨oc, od, .func (PySem.W.fnOf x q (defArgs st) (defBody st) (defScope st) .none kV doc pm an cdv ct), osl⟩) (c : PySem.W.codeIn K cdv q = true) (k : PySem.W.keepIn K (.ref f) = true) : ∃ fd, FnP K x q st [] f fd :=
  ⟨_, ⟨oc, od, .none, kV, doc, pm, an, cdv, ct, osl, rfl, l, c, .inl ⟨rfl, rfl⟩, .inl rfl⟩, k⟩
theorem fnp1 {K : PySem.W.Frag} {x q : Str} {st : Stmt} {f T : Addr} {oc oc' : Value} {od an od' : Option Addr} {osl osl' : Array (Option Value)} {kV doc pm cdv ct : Value} {i : Int} {t : Tok} {n : Nat}
    (l : K.lookup f = some ⟨oc, od, .func (PySem.W.fnOf x q (defArgs st) (defBody st) (defScope st) (.ref T) kV doc pm an cdv ct), osl⟩) (c : PySem.W.codeIn K cdv q = true) (k : PySem.W.keepIn K (.ref f) = true)
    (lT : K.lookup T = some ⟨oc', od', .seq #[.int i t] n, osl'⟩) : ∃ fd, FnP K x q st [.int i] f fd :=
  ⟨_, ⟨oc, od, .ref T, kV, doc, pm, an, cdv, ct, osl, rfl, l, c, .inr ⟨List.cons_ne_nil _ _, T, _, [.int i t], n, rfl, lT, rfl, .cons ⟨t, rfl⟩ .nil⟩, .inl rfl⟩, k⟩
/-- a global def -/
def GF (K : PySem.W.Frag) (x : Str) (st : Stmt) : Prop := ∃ f, PySem.W.nsIn K mainGlobals x = some (some (.ref f)) ∧ ∃ fd, FnP K x x st [] f fd
/-- a method of C -/
def MF (K : PySem.W.Frag) (C : Addr) (x q : Str) (st : Stmt) : Prop := ∃ f, PySem.W.findIn K (.ref C) x = some (some (.ref f)) ∧ PySem.W.isFn K (.ref f) = true ∧ ∃ fd, FnP K x q st [] f fd
section
variable {P : Program} {w : World} {K : PySem.W.Frag} {mg : Str → Option Value} {base h : Heap} {CX : CXT} {k : Nat} {x q : Str} {ps : List Str} {st : Stmt} {sp : Sp} {C : Addr}
theorem GF.ok (g : GF K x st) (X : K.In h) (G : h.Ns mainGlobals mg) (ok : ∀ f fd, FnP K x x st [] f fd → FnOk P w K mg base CX k f fd ps sp)
    (b : ∀ (kV doc pm : Value) (an : Option Addr) (cdv ct : Value) (us : List Value), us.length = ps.length → bindArgs (PySem.W.fnOf x x (defArgs st) (defBody st) (defScope st) .none kV doc pm an cdv ct) ⟨us, []⟩ = pure (ps.zip us)) : GloOk P w K mg base CX k x ps sp := by
  obtain ⟨f, a, fd, F⟩ := g
  exact ⟨f, fd, ok f fd F, PySem.W.mg_of X G a, F.kp, F.bindsN b⟩
theorem MF.ok (g : MF K C x q st) (ok : ∀ f fd, FnP K x q st [] f fd → FnOk P w K mg base CX k f fd ps sp)
    (b : ∀ (kV doc pm : Value) (an : Option Addr) (cdv ct : Value) (us : List Value), us.length = ps.length → bindArgs (PySem.W.fnOf x q (defArgs st) (defBody st) (defScope st) .none kV doc pm an cdv ct) ⟨us, []⟩ = pure (ps.zip us)) : MthOk P w K mg base C CX k x ps sp := by
  obtain ⟨f, a, i, fd, F⟩ := g
  exact ⟨f, fd, ok f fd F, ⟨a, i, F.kp⟩, F.bindsN b⟩
theorem MF.meth (g : MF K C x q st) : ∃ f, Meth K C x f := by
  obtain ⟨f, a, i, fd, F⟩ := g
  exact ⟨f, a, i, F.kp⟩
end
theorem kit_sub {K : PySem.W.Frag} {C : Addr} {n : String} {b : Bool} (h : PySem.W.subIn K (.ref C) (.type n) = some b) (hm : PySem.W.kitMeta n = true) : PySem.W.kitOne K (.ref C) (.type n) = some b := by
  unfold PySem.W.kitOne
  rw [if_neg (by simp)]
  show (if PySem.W.kitMeta n = true then PySem.W.subIn K (.ref C) (.type n) else none) = some b
  rw [if_pos hm]
  exact h
theorem kit_cl {K : PySem.W.Frag} {C : Addr} {t : Value} {b : Bool} (hc : PySem.W.isClsIn K C = true) (ht : PySem.W.typeIn K (.ref C) = some (.type "type")) (h : PySem.W.subIn K t (.ref C) = some b) : PySem.W.kitCls K t (.ref C) = some b := by
  have e : ((PySem.W.clsIn K C).isSome && PySem.W.typeIn K (.ref C) == some (.type "type")) = true := by
    rw [show (PySem.W.clsIn K C).isSome = true from hc, ht] <;> rfl
  show (if ((PySem.W.clsIn K C).isSome && PySem.W.typeIn K (.ref C) == some (.type "type")) = true then PySem.W.subIn K t (.ref C) else none) = some b
  rw [if_pos e]
  exact h
theorem kit_tyc {K : PySem.W.Frag} {C : Addr} {n : String} {b : Bool} (hc : PySem.W.isClsIn K C = true) (ht : PySem.W.typeIn K (.ref C) = some (.type "type")) (h : PySem.W.subIn K (.type n) (.ref C) = some b) : PySem.W.kitOne K (.type n) (.ref C) = some b := by
  unfold PySem.W.kitOne
  rw [if_neg (by simp)]
  exact kit_cl hc ht h
theorem exm_own {K : PySem.W.Frag} {S : Addr} (h1 : PySem.W.subIn K (.ref S) (.type "BaseException") = some true) (h2 : PySem.W.isClsIn K S = true) (h3 : PySem.W.typeIn K (.ref S) = some (.type "type")) (h4 : PySem.W.subIn K (.ref S) (.ref S) = some true) :
    PySem.W.exmOne K (.ref S) (.ref S) = some true := by
  have e1 : (PySem.W.subIn K (.ref S) (.type "BaseException") == some true) = true := by rw [h1] <;> rfl
  have e2 : ((PySem.W.clsIn K S).isSome && PySem.W.typeIn K (.ref S) == some (.type "type")) = true := by
    rw [show (PySem.W.clsIn K S).isSome = true from h2, h3] <;> rfl
  show (if (PySem.W.subIn K (.ref S) (.type "BaseException") == some true) = true then (if ((PySem.W.clsIn K S).isSome && PySem.W.typeIn K (.ref S) == some (.type "type")) = true then PySem.W.subIn K (.ref S) (.ref S) else none) else none) = some true
  rw [if_pos e1, if_pos e2]
  exact h4
/-- the class Ratio -/
structure CF (K : PySem.W.Frag) (C : Addr) : Prop where
  pg : PySem.W.plainGet K C Str.empty = true
  hd : PySem.W.hasDictIn K C = true
  po : PySem.W.plainOver K C = true
  sa : PySem.W.findIn K (.ref C) "__setattr__" = some (some (.builtin "object.__setattr__"))
  mks : PySem.W.makesIn K C = true
  kc : PySem.W.keepIn K (.ref C) = true
  nT : PySem.W.findIn K (.ref C) "top" = some none
  nB : PySem.W.findIn K (.ref C) "bottom" = some none
  sf : PySem.W.selfFirst K C = true
  si : PySem.W.subIn K (.type "int") (.ref C) = some false
  sc : PySem.W.subIn K (.ref C) (.type "int") = some false
  sb : PySem.W.subIn K (.ref C) (.type "bool") = some false
  ca : PySem.W.findIn K (.ref C) "__class__" = some (some (.builtin "object.__class__"))
  cn : PySem.W.specialIn K (.builtin "object.__class__") "__get__" = some (some (.builtin "getset_descriptor.__get__"))
  ct : PySem.W.takesIn K (.builtin "object.__class__") = some true
  cm : PySem.W.mroIn K C (.type "object") = some true
  ic : PySem.W.isClsIn K C = true
  ty : PySem.W.typeIn K (.ref C) = some (.type "type")
/-- the class of the error, and the one above it -/
structure EF (K : PySem.W.Frag) (E B : Addr) : Prop where
  sa : PySem.W.findIn K (.ref E) "__setattr__" = some (some (.builtin "object.__setattr__"))
  ex : PySem.W.subIn K (.ref E) (.type "BaseException") = some true
  ty : PySem.W.typeIn K (.ref E) = some (.type "type")
  kE : PySem.W.keepIn K (.ref E) = true
  noW : PySem.W.findIn K (.ref E) "word" = some none
  ga : PySem.W.findIn K (.ref E) "__getattribute__" = some (some (.builtin "BaseException.__getattribute__"))
  gg : PySem.W.findIn K (.ref E) "__getattr__" = some none
  hd : PySem.W.hasDictIn K E = true
  ic : PySem.W.isClsIn K E = true
  se : PySem.W.subIn K (.ref E) (.ref E) = some true
  ib : PySem.W.isClsIn K B = true
  tb : PySem.W.typeIn K (.ref B) = some (.type "type")
  sb : PySem.W.subIn K (.ref E) (.ref B) = some true
structure IF (K : PySem.W.Frag) : Prop where
  a : PySem.W.findIn K (.type "int") "__add__" = some (some (.builtin "int.__add__"))
  ra : PySem.W.findIn K (.type "int") "__radd__" = some (some (.builtin "int.__radd__"))
  s : PySem.W.findIn K (.type "int") "__sub__" = some (some (.builtin "int.__sub__"))
  rs : PySem.W.findIn K (.type "int") "__rsub__" = some (some (.builtin "int.__rsub__"))
  m : PySem.W.findIn K (.type "int") "__mul__" = some (some (.builtin "int.__mul__"))
  rm : PySem.W.findIn K (.type "int") "__rmul__" = some (some (.builtin "int.__rmul__"))
structure NF (K : PySem.W.Frag) : Prop where
  gcd : PySem.W.nsIn K mainGlobals "gcd" = some (some (.builtin "math.gcd"))
  isinst : PySem.W.nsIn K mainGlobals "isinstance" = some none
  int : PySem.W.nsIn K mainGlobals "int" = some none
  bool : PySem.W.nsIn K mainGlobals "bool" = some none
  abs : PySem.W.nsIn K mainGlobals "abs" = some none
  len : PySem.W.nsIn K mainGlobals "len" = some none
  range : PySem.W.nsIn K mainGlobals "range" = some none
  max : PySem.W.nsIn K mainGlobals "max" = some none
  min : PySem.W.nsIn K mainGlobals "min" = some none
  all : PySem.W.nsIn K mainGlobals "all" = some none
theorem txt_mk {K : PySem.W.Frag} {h : Heap} {mg : Str → Option Value} {C E B : Addr} (X : K.In h) (G : h.Ns mainGlobals mg) (aC : PySem.W.nsIn K mainGlobals "Ratio" = some (some (.ref C))) (aE : PySem.W.nsIn K mainGlobals "NoRatio" = some (some (.ref E))) (aB : PySem.W.nsIn K mainGlobals "ToldError" = some (some (.ref B))) (ne : E ≠ B)
    (c : CF K C) (e : EF K E B) (i : IF K) (n : NF K)
    {nm q : Str} {N : Addr} {bs bm : List Value} {sn : List Str} {sub : List Value} {ab : Bool} {col : Option Bool} {dd : Option Addr} {m0 m1 m2 m3 m5 : Option Value}
    (xL : K.lookup E = some (excClassObj nm q E N bs bm true sn sub ab col dd m0 m1 m2 m3 m5 "ValueError.__new__")) (rf : PySem.HandSPX.refsVE bm = true) : Txt K mg C E B where
  cl := ⟨c.pg, c.hd, c.po, c.sa⟩
  nT := c.nT
  nB := c.nB
  mgC := PySem.W.mg_of X G aC
  own := ⟨c.sf, c.si, c.sc⟩
  ca := c.ca
  cn := c.cn
  ct := c.ct
  cm := c.cm
  rInt := kit_sub c.sc (by decide +kernel)
  rBool := kit_sub c.sb (by decide +kernel)
  iC := kit_tyc c.ic c.ty c.si
  ox := ⟨⟨nm, q, N, bs, bm, sn, sub, ab, col, dd, m0, m1, m2, m3, m5, xL, rf⟩, e.sa, e.ex, e.ty, e.kE⟩
  mgE := PySem.W.mg_of X G aE
  noW := e.noW
  xf := ⟨e.ga, e.gg, e.ex, e.hd⟩
  exm := exm_own e.ex e.ic e.ty e.se
  up := kit_cl e.ib e.tb e.sb
  neB := ne
  mgB := PySem.W.mg_of X G aB
  iAdd := i.a
  iRadd := i.ra
  iSub := i.s
  iRsub := i.rs
  iMul := i.m
  iRmul := i.rm
  gcd := PySem.W.mg_of X G n.gcd
  isinst := PySem.W.mg_none_of X G n.isinst
  int := PySem.W.mg_none_of X G n.int
  bool := PySem.W.mg_none_of X G n.bool
  abs := PySem.W.mg_none_of X G n.abs
  len := PySem.W.mg_none_of X G n.len
  range := PySem.W.mg_none_of X G n.range
  max := PySem.W.mg_none_of X G n.max
  min := PySem.W.mg_none_of X G n.min
  all := PySem.W.mg_none_of X G n.all
theorem all_mk {P : Program} {w : World} {K : PySem.W.Frag} {h : Heap} {mg : Str → Option Value} {fa C E B : Addr} (X : K.In h) (G : h.Ns mainGlobals mg) (hfa : mg "law" = some (.ref fa)) (T : Txt K mg C E B) (c : CF K C)
    (gE : ∃ f, PySem.W.findIn K (.ref E) "__init__" = some (some (.ref f)) ∧ PySem.W.typeIn K (.ref f) = some (.type "function") ∧ ∃ fd, FnP K "__init__" "NoRatio.__init__" sErr [] f fd)
    (gM : ∃ f, PySem.W.findIn K (.ref C) "__init__" = some (some (.ref f)) ∧ PySem.W.isFn K (.ref f) = true ∧ ∃ fd, FnP K "__init__" "Ratio.__init__" sInit [.int 1] f fd)
    (g1 : MF K C "__add__" "Ratio.__add__" sAdd) (g2 : MF K C "__radd__" "Ratio.__radd__" sRadd) (g3 : MF K C "__sub__" "Ratio.__sub__" sSub) (g4 : MF K C "__rsub__" "Ratio.__rsub__" sRsub)
    (g5 : MF K C "__mul__" "Ratio.__mul__" sMul) (g6 : MF K C "__rmul__" "Ratio.__rmul__" sRmul) (g7 : MF K C "__neg__" "Ratio.__neg__" sNeg) (g8 : MF K C "__abs__" "Ratio.__abs__" sAbs) (g9 : MF K C "over" "Ratio.over" sOver)
    (f1 : GF K "is_integer" sIsInt) (f2 : GF K "is_number" sIsNum) (f3 : GF K "as_ratio" sAsR) (l1 : GF K "_law_is_integer" sLInt) (l2 : GF K "_law_stream" sStream) (l3 : GF K "_law_draw" sDraw) (l4 : GF K "_law_common" sCommon) (l5 : GF K "_law_frac" sFrac)
    (l6 : GF K "_law_plus" sPlus) (l7 : GF K "_law_by" sBy) (l8 : GF K "_law_is" sIs) (l9 : GF K "_law_integer" sInteger) (l10 : GF K "_law_odd" sOdd) (l11 : GF K "_law_made" sMade) (l12 : GF K "_law_refused" sRefused) (l13 : GF K "_law_over" sLOver) (l14 : GF K "_law_reckons" sReckons) (l15 : GF K "law" sLaw) :
    ∃ fd : FuncData, (∀ (s : Shared) (v : Value), BindsTo s fd ⟨[v], []⟩ [("script", v)]) ∧ ∀ base : Heap, K.In base → base.Ns mainGlobals mg → FnOk P w K mg base CX0 9 fa fd ["script"] (spLaw K) := by
  obtain ⟨fL, aL, fdL, FL⟩ := l15
  have e := hfa.symm.trans (PySem.W.mg_of X G aL)
  cases e
  have bL := FL.bindsA (ps := ["script"]) fun _ _ _ _ _ _ us hl => match us, hl with | [_], _ => rfl
  refine ⟨fdL, fun s v => bL s [v] rfl, fun base _ _ => ?_⟩
  have GI : GloOk P w K mg base CX0 1 "is_integer" ["found"] (spIsInt K) := f1.ok X G (fun f fd F => ok_isInt F T) fun _ _ _ _ _ _ us hl => match us, hl with | [_], _ => rfl
  have GE : ErrOk P w K mg base E 1 ["self", "word"] (spErr K E) := by
    obtain ⟨f, a, t, fd, F⟩ := gE
    exact ⟨f, fd, ok_err F T, a, t, F.bindsN fun _ _ _ _ _ _ us hl => match us, hl with | [_, _], _ => rfl⟩
  have GM : MkOk P w K mg base C (L2.CX P w) 3 ["self", "top", "bottom"] [.int 1] (spInit K C E) := by
    obtain ⟨f, a, i, fd, F⟩ := gM
    obtain ⟨ds, vd, bd⟩ := F.binds1 (ps := ["self", "top", "bottom"]) 3 1 (List.cons_ne_nil _ _) rfl fun _ _ _ _ _ _ _ us its hl hi => match us, its, hl, hi with | [_, _, _], [_], _, _ => ⟨_, rfl, rfl⟩
    obtain ⟨ds', vd', bd'⟩ := F.binds1 (ps := ["self", "top", "bottom"]) 2 0 (List.cons_ne_nil _ _) rfl fun _ _ _ _ _ _ _ us its hl hi => match us, its, hl, hi with | [_, _], [_], _, _ => ⟨_, rfl, rfl⟩
    cases vd
    exact ⟨f, fd, ok_init F T GI GE, ⟨c.mks, a, i, c.kc⟩, bd, ds', vd', bd'⟩
  have GN : GloOk P w K mg base CX0 2 "is_number" ["found"] (spIsNum C) := f2.ok X G (fun f fd F => ok_isNum F T GI) fun _ _ _ _ _ _ us hl => match us, hl with | [_], _ => rfl
  have GA : GloOk P w K mg base CX0 5 "as_ratio" ["number"] (spAsR C) := f3.ok X G (fun f fd F => ok_asR F T GM) fun _ _ _ _ _ _ us hl => match us, hl with | [_], _ => rfl
  have A1 : MthOk P w K mg base C CX0 6 "__add__" ["self", "other"] (spBin C addT bb) := g1.ok (fun f fd F => ok_add F T GM GN GA) fun _ _ _ _ _ _ us hl => match us, hl with | [_, _], _ => rfl
  have A3 : MthOk P w K mg base C CX0 6 "__sub__" ["self", "other"] (spBin C subT bb) := g3.ok (fun f fd F => ok_sub F T GM GN GA) fun _ _ _ _ _ _ us hl => match us, hl with | [_, _], _ => rfl
  have A5 : MthOk P w K mg base C CX0 6 "__mul__" ["self", "other"] (spBin C mulT bb) := g5.ok (fun f fd F => ok_mul F T GM GN GA) fun _ _ _ _ _ _ us hl => match us, hl with | [_, _], _ => rfl
  have A7 : MthOk P w K mg base C CX0 5 "__neg__" ["self"] (spUn C fun t => -t) := g7.ok (fun f fd F => ok_neg F T GM) fun _ _ _ _ _ _ us hl => match us, hl with | [_], _ => rfl
  have A8 : MthOk P w K mg base C CX0 5 "__abs__" ["self"] (spUn C fun t => if t < 0 then -t else t) := g8.ok (fun f fd F => ok_abs F T GM) fun _ _ _ _ _ _ us hl => match us, hl with | [_], _ => rfl
  have A9 : MthOk P w K mg base C (L2.CX P w) 6 "over" ["self", "number"] (spOver C E) := g9.ok (fun f fd F => ok_over F T GM GA) fun _ _ _ _ _ _ us hl => match us, hl with | [_, _], _ => rfl
  have A2 : MthOk P w K mg base C CX0 7 "__radd__" ["self", "other"] (spBin C addT bb) := g2.ok (fun f fd F => ok_radd F T A1 g2.meth) fun _ _ _ _ _ _ us hl => match us, hl with | [_, _], _ => rfl
  have A4 : MthOk P w K mg base C CX0 7 "__rsub__" ["self", "other"] (spBin C rsubT bb) := g4.ok (fun f fd F => ok_rsub F T A1 g2.meth A7) fun _ _ _ _ _ _ us hl => match us, hl with | [_, _], _ => rfl
  have A6 : MthOk P w K mg base C CX0 7 "__rmul__" ["self", "other"] (spBin C mulT bb) := g6.ok (fun f fd F => ok_rmul F T A5 g6.meth) fun _ _ _ _ _ _ us hl => match us, hl with | [_, _], _ => rfl
  have L1 : GloOk P w K mg base CX0 1 "_law_is_integer" ["thing"] (spIsInt K) := l1.ok X G (fun f fd F => ok_lint F T) fun _ _ _ _ _ _ us hl => match us, hl with | [_], _ => rfl
  have L2 : GloOk P w K mg base CX0 1 "_law_stream" ["script", "k"] (spStream K) := l2.ok X G (fun f fd F => ok_stream F T) fun _ _ _ _ _ _ us hl => match us, hl with | [_, _], _ => rfl
  have L3 : GloOk P w K mg base CX0 1 "_law_draw" ["stream", "many"] spDraw := l3.ok X G (fun f fd F => ok_draw F T) fun _ _ _ _ _ _ us hl => match us, hl with | [_, _], _ => rfl
  have L4 : GloOk P w K mg base CX0 1 "_law_common" ["one", "rest"] spCommon := l4.ok X G (fun f fd F => ok_common F T) fun _ _ _ _ _ _ us hl => match us, hl with | [_, _], _ => rfl
  have L5 : GloOk P w K mg base CX0 2 "_law_frac" ["top", "bottom"] spFrac := l5.ok X G (fun f fd F => ok_frac F T L4) fun _ _ _ _ _ _ us hl => match us, hl with | [_, _], _ => rfl
  have L6 : GloOk P w K mg base CX0 3 "_law_plus" ["one", "other"] (spPair addT) := l6.ok X G (fun f fd F => ok_plus F T L5) fun _ _ _ _ _ _ us hl => match us, hl with | [_, _], _ => rfl
  have L7 : GloOk P w K mg base CX0 3 "_law_by" ["one", "other"] (spPair mulT) := l7.ok X G (fun f fd F => ok_by F T L5) fun _ _ _ _ _ _ us hl => match us, hl with | [_, _], _ => rfl
  have L8 : GloOk P w K mg base CX0 2 "_law_is" ["told", "due"] (spIs C) := l8.ok X G (fun f fd F => ok_is F T L1) fun _ _ _ _ _ _ us hl => match us, hl with | [_, _], _ => rfl
  have L9 : GloOk P w K mg base CX0 2 "_law_integer" ["stream"] spInteger := l9.ok X G (fun f fd F => ok_integer F T L3) fun _ _ _ _ _ _ us hl => match us, hl with | [_], _ => rfl
  have L10 : GloOk P w K mg base CX0 5 "_law_odd" ["stream"] (spOdd C) := l10.ok X G (fun f fd F => ok_odd F T L3 GM) fun _ _ _ _ _ _ us hl => match us, hl with | [_], _ => rfl
  have L11 : GloOk P w K mg base CX0 5 "_law_made" ["top", "bottom"] (spMade K C) := l11.ok X G (fun f fd F => ok_made F T GM) fun _ _ _ _ _ _ us hl => match us, hl with | [_, _], _ => rfl
  have L12 : GloOk P w K mg base CX0 2 "_law_refused" ["top", "bottom"] (spRefused K) := l12.ok X G (fun f fd F => ok_refused F T L1) fun _ _ _ _ _ _ us hl => match us, hl with | [_, _], _ => rfl
  have L13 : GloOk P w K mg base CX0 7 "_law_over" ["one", "other"] (spLOver C) := l13.ok X G (fun f fd F => ok_lover F T A9) fun _ _ _ _ _ _ us hl => match us, hl with | [_, _], _ => rfl
  have L14 : GloOk P w K mg base CX0 8 "_law_reckons" ["a", "b", "one", "other"] (spReckons C) := l14.ok X G (fun f fd F => ok_reckons F T A1 A3 A5 A2 A4 A6 A7 A8 L6 L7 L8 L13 L5) fun _ _ _ _ _ _ us hl => match us, hl with | [_, _, _, _], _ => rfl
  exact ok_law FL T GM L2 L3 L9 L10 L11 L12 L5 L8 L14
theorem walk {l : PySem.W.OpenLaw} {q : Program} {loose : List Str} {XP : (Str → Option Value) → Heap → Prop} {YP : World → Heap → Prop} {d : DefRec} {K : Params → PySem.W.Frag} (hn : l.most = some 63) (hdf : d.params.defaults = [])
    (hY : ∀ (w : World) (h : Heap), YP w h → (K w.params).In h)
    (F : ∀ (w : World) (mg : Str → Option Value) (fa : Addr) (h : Heap), (K w.params).In h → h.Ns mainGlobals mg → mg d.name = some (.ref fa) →
      ∃ fd : FuncData, (∀ (s : Shared) (u : Value), BindsTo s fd ⟨[u], []⟩ [("script", u)]) ∧ ∀ base : Heap, (K w.params).In base → base.Ns mainGlobals mg → FnOk l.prog w (K w.params) mg base CX0 9 fa fd ["script"] (spLaw (K w.params))) :
    PySem.W.WalkO q loose XP YP l.row.toRowW d [] (fun f vs => PySem.call f vs) :=
  L2.walk_of (n := 63) (k := 9) (x := "script") (CX := fun _ => CX0) (sp := fun w => spLaw (K w.params)) hn (by decide) hdf ⟨rfl, by decide, by decide⟩ hY F (fun _ _ a ns hl _ hS => ⟨a, ns, rfl, hS, hl, fun _ => rfl⟩) fun _ _ _ _ _ z => z
end K2

set_option Elab.async false
open PySem PySem.W PyProof.Rows
local macro_rules | `(tactic| walk_at "k2 global") => `(tactic| (refine' ⟨_, ?a, K2.fnp ?l ?c ?k⟩; (case a => k_is); (case l => k_is); (case c => k_is); (case k => k_is)))
local macro_rules | `(tactic| walk_at "k2 method") => `(tactic| (refine' ⟨_, ?a, ?i, K2.fnp ?l ?c ?k⟩; (case a => k_is); (case i => k_is); (case l => k_is); (case c => k_is); (case k => k_is)))
set_option maxRecDepth 100000 in
set_option maxHeartbeats 0 in
theorem PySem.Challenge.cw_toldwithin_k02_ratios_made_and_reckoned_holds : PySem.Challenge.rw_toldwithin_k02_ratios_made_and_reckoned.Holds := by
  w_on; o_law; k_head; (case hw => w_witness2)
  k_fill
  refine K2.walk (l := PySem.Challenge.rw_toldwithin_k02_ratios_made_and_reckoned) rfl rfl (fun w h Y => PySem.W.kIn_of Y) ?F
  case F =>
    intro w mg fa h KX G hmg
    refine' K2.all_mk KX G hmg (K2.txt_mk KX G ?aC ?aE ?aB ?ne ?cf ?ef ?inf ?nf ?xL ?rf) ?cf ?gE ?gM ?g1 ?g2 ?g3 ?g4 ?g5 ?g6 ?g7 ?g8 ?g9 ?f1 ?f2 ?f3 ?l1 ?l2 ?l3 ?l4 ?l5 ?l6 ?l7 ?l8 ?l9 ?l10 ?l11 ?l12 ?l13 ?l14 ?l15
    (case aC => k_is); (case aE => k_is); (case aB => k_is); (case ne => decide); (case xL => k_is); (case rf => decide +kernel)
    (case cf => constructor <;> k_is)
    (case ef => constructor <;> first | k_is | rfl)
    (case inf => constructor <;> k_is)
    (case nf => constructor <;> k_is)
    (case gE => (refine' ⟨_, ?za, ?zt, K2.fnp ?zl ?zc ?zk⟩; (case za => k_is); (case zt => k_is); (case zl => k_is); (case zc => k_is); (case zk => k_is)))
    (case gM => (refine' ⟨_, ?ya, ?yi, K2.fnp1 ?yl ?yc ?yk ?yT⟩; (case ya => k_is); (case yi => k_is); (case yl => k_is); (case yc => k_is); (case yk => k_is); (case yT => k_is)))
    (case g1 => walk_at "k2 method"); (case g2 => walk_at "k2 method"); (case g3 => walk_at "k2 method"); (case g4 => walk_at "k2 method"); (case g5 => walk_at "k2 method"); (case g6 => walk_at "k2 method"); (case g7 => walk_at "k2 method"); (case g8 => walk_at "k2 method"); (case g9 => walk_at "k2 method")
    (case f1 => walk_at "k2 global"); (case f2 => walk_at "k2 global"); (case f3 => walk_at "k2 global")
    (case l1 => walk_at "k2 global"); (case l2 => walk_at "k2 global"); (case l3 => walk_at "k2 global"); (case l4 => walk_at "k2 global"); (case l5 => walk_at "k2 global"); (case l6 => walk_at "k2 global"); (case l7 => walk_at "k2 global"); (case l8 => walk_at "k2 global")
    (case l9 => walk_at "k2 global"); (case l10 => walk_at "k2 global"); (case l11 => walk_at "k2 global"); (case l12 => walk_at "k2 global"); (case l13 => walk_at "k2 global"); (case l14 => walk_at "k2 global"); (case l15 => walk_at "k2 global")
