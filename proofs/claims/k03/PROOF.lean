import PyProof.Rows.All
import Wide.All
import OpenK.AllK
import Wide.FinOn
import KE.KOpsOwn
import HandS.Base
import HandS.Call
import HandS.List
import HandS.Exc
import HandS.IsInst
import HandS.Wide
import HandS.ExcField
import HandS.ExcInit
import HandS.TryOnly
import HandS.WordsExc
import HandS.Defaults
import HandS.MakeKw
import HandS.Gcd
import PyProof.InstNe
import HandS.FStr
import HandS.WordsList
import HandS.Comp
import HandS.Text
import HandS.StrMore
import HandS.ClsMeth
import HandS.Walk
import HandS.Steps
import HandS.Dict
import HandS.Ends
import PySem.Challenge.RW_toldwithin_k03_ratios_compared_and_writt
/-! plain mathematics of fractions in lowest terms -/
namespace Rt
/-- the divisor that takes the sign of the bottom -/
def shr (p q : Int) : Int := if 0 < q then (Nat.gcd p.natAbs q.natAbs : Nat) else -((Nat.gcd p.natAbs q.natAbs : Nat) : Int)
def nrmT (p q : Int) : Int := p.fdiv (shr p q)
def nrmB (p q : Int) : Int := q.fdiv (shr p q)
/-- lowest terms -/
structure Low (t b : Int) : Prop where
  pos : 0 < b
  cop : Nat.gcd t.natAbs b.natAbs = 1
theorem gcd_pos {p q : Int} (h : q ≠ 0) : 0 < Nat.gcd p.natAbs q.natAbs := Nat.gcd_pos_of_pos_right _ (by omega)
theorem shr_ne {p q : Int} (h : q ≠ 0) : shr p q ≠ 0 := by
  have := gcd_pos (p := p) h
  unfold shr
  split <;> omega
theorem shr_abs (p q : Int) : (shr p q).natAbs = Nat.gcd p.natAbs q.natAbs := by
  unfold shr
  split <;> omega
theorem shr_dvd_l (p q : Int) : shr p q ∣ p := by
  rw [← Int.natAbs_dvd_natAbs, shr_abs]
  exact Nat.gcd_dvd_left _ _
theorem shr_dvd_r (p q : Int) : shr p q ∣ q := by
  rw [← Int.natAbs_dvd_natAbs, shr_abs]
  exact Nat.gcd_dvd_right _ _
theorem fdiv_mul {s p : Int} (hs : s ≠ 0) (h : s ∣ p) : s * p.fdiv s = p := by
  obtain ⟨c, rfl⟩ := h
  rw [Int.mul_fdiv_cancel_left _ hs]
theorem nrm_low {p q : Int} (h : q ≠ 0) : Low (nrmT p q) (nrmB p q) := by
  have hs := shr_ne (p := p) h
  have e1 : shr p q * nrmT p q = p := fdiv_mul hs (shr_dvd_l p q)
  have e2 : shr p q * nrmB p q = q := fdiv_mul hs (shr_dvd_r p q)
  have hg := gcd_pos (p := p) h
  refine ⟨?_, ?_⟩
  · by_cases c : 0 < q
    · have sp : 0 < shr p q := by unfold shr; rw [if_pos c]; omega
      have : 0 < shr p q * nrmB p q := by rw [e2]; exact c
      exact Int.pos_of_mul_pos_right this sp |> fun z => z
    · have sn : shr p q < 0 := by unfold shr; rw [if_neg c]; omega
      have hq : q < 0 := by omega
      by_cases z : 0 < nrmB p q
      · exact z
      · exfalso
        have z1 : nrmB p q ≤ 0 := by omega
        have : 0 ≤ shr p q * nrmB p q := Int.mul_nonneg_of_nonpos_of_nonpos (Int.le_of_lt sn) z1
        omega
  · have g1 : Nat.gcd p.natAbs q.natAbs = (shr p q).natAbs * Nat.gcd (nrmT p q).natAbs (nrmB p q).natAbs := by
      have a1 : p.natAbs = (shr p q).natAbs * (nrmT p q).natAbs := by rw [← Int.natAbs_mul, e1]
      have a2 : q.natAbs = (shr p q).natAbs * (nrmB p q).natAbs := by rw [← Int.natAbs_mul, e2]
      rw [a1, a2, Nat.gcd_mul_left]
    rw [shr_abs] at g1
    have g2 : Nat.gcd p.natAbs q.natAbs * 1 = Nat.gcd p.natAbs q.natAbs * Nat.gcd (nrmT p q).natAbs (nrmB p q).natAbs := by omega
    exact (Nat.eq_of_mul_eq_mul_left hg g2).symm
theorem nrm_of_low {t b : Int} (h : Low t b) : nrmT t b = t ∧ nrmB t b = b := by
  have e : shr t b = 1 := by
    unfold shr
    rw [if_pos h.pos, h.cop]
    rfl
  unfold nrmT nrmB
  rw [e]
  exact ⟨Int.fdiv_one _, Int.fdiv_one _⟩
theorem Low.neg {t b : Int} (h : Low t b) : Low (-t) b := ⟨h.pos, by rw [Int.natAbs_neg]; exact h.cop⟩
theorem Low.abs {t b : Int} (h : Low t b) : Low (if t < 0 then -t else t) b := by
  split
  · exact h.neg
  · exact h
theorem nrm_le {p q : Int} (h : q ≠ 0) : (nrmT p q).natAbs ≤ p.natAbs ∧ (nrmB p q).natAbs ≤ q.natAbs := by
  have hs := shr_ne (p := p) h
  have e1 : shr p q * nrmT p q = p := fdiv_mul hs (shr_dvd_l p q)
  have e2 : shr p q * nrmB p q = q := fdiv_mul hs (shr_dvd_r p q)
  have k : 1 ≤ (shr p q).natAbs := by omega
  refine ⟨?_, ?_⟩
  · conv => rhs; rw [← e1, Int.natAbs_mul]
    exact Nat.le_mul_of_pos_left _ k
  · conv => rhs; rw [← e2, Int.natAbs_mul]
    exact Nat.le_mul_of_pos_left _ k
/-! Euclid's steps, counted -/
/-- behind i turns -/
structure Eu (g n i : Nat) (a b : Nat) : Prop where
  gcd : Nat.gcd a b = g
  step : b = 0 ∨ (i = 0 ∧ b < 2 ^ n) ∨ (b < a ∧ a * b * 2 ^ i < 2 ^ (2 * n + 1))
theorem Eu.start {a b n : Nat} (h : b < 2 ^ n) : Eu (Nat.gcd a b) n 0 a b := ⟨rfl, .inr (.inl ⟨rfl, h⟩)⟩
theorem Eu.turn {g n i a b : Nat} (h : Eu g n i a b) (hb : b ≠ 0) : Eu g n (i + 1) b (a % b) := by
  have hlt : a % b < b := Nat.mod_lt _ (by omega)
  refine ⟨?_, ?_⟩
  · rw [← h.gcd, Nat.gcd_comm a b, Nat.gcd_rec b a, Nat.gcd_comm]
  · rcases h.step with z | ⟨rfl, z⟩ | ⟨z, y⟩
    · exact absurd z hb
    · right; right
      refine ⟨hlt, ?_⟩
      have h1 : b * (a % b) < 2 ^ n * 2 ^ n := by
        have : b * (a % b) ≤ b * b := Nat.mul_le_mul_left _ (Nat.le_of_lt hlt)
        exact Nat.lt_of_le_of_lt this (Nat.mul_lt_mul'' z z)
      rw [show 2 * n + 1 = n + n + 1 by omega, Nat.pow_succ 2 (n + n), Nat.pow_add 2 n n]
      show b * (a % b) * 2 ^ 1 < _
      omega
    · right; right
      refine ⟨hlt, ?_⟩
      have hd := Nat.div_add_mod a b
      have hq : 1 ≤ a / b := Nat.div_pos (Nat.le_of_lt z) (by omega)
      have h2 : b ≤ b * (a / b) := Nat.le_mul_of_pos_right _ hq
      have h3 : 2 * (a % b) ≤ a := by omega
      have h4 : b * (a % b) * 2 ≤ a * b := by
        have : b * (2 * (a % b)) ≤ b * a := Nat.mul_le_mul_left _ h3
        rw [Nat.mul_comm a b, Nat.mul_assoc, Nat.mul_comm (a % b) 2]
        exact this
      refine Nat.lt_of_le_of_lt ?_ y
      rw [Nat.pow_succ, Nat.mul_comm (2 ^ i) 2, ← Nat.mul_assoc]
      exact Nat.mul_le_mul_right _ h4
theorem Eu.last {g n i a b : Nat} (h : Eu g n i a b) (hi : 2 * n + 1 ≤ i) : b = 0 := by
  rcases h.step with z | ⟨z, _⟩ | ⟨z, y⟩
  · exact z
  · omega
  · by_cases c : b = 0
    · exact c
    · exfalso
      have h1 : 1 ≤ a * b := Nat.mul_pos (by omega) (by omega)
      have h2 : 2 ^ (2 * n + 1) ≤ 2 ^ i := Nat.pow_le_pow_right (by omega) hi
      have h3 : 1 * 2 ^ i ≤ a * b * 2 ^ i := Nat.mul_le_mul_right _ h1
      omega
theorem Eu.done {g n i a b : Nat} (h : Eu g n i a b) (hb : b = 0) : a = g := by
  rw [← h.gcd, hb, Nat.gcd_zero_right]
end Rt

set_option Elab.async false
set_option linter.all false
set_option maxRecDepth 100000
set_option maxHeartbeats 2000000
/-! operators of a class of one's own, over the layer -/
namespace PySem.OwnOps
open PySem PySem.W PySem.Calls
section
variable {prog : Program} {w : World} {A : Around} {E : Value → Shared → Prop} {s : Shared} {K : Frag} {x C g q : Addr} {ox : Obj} {od : Option Obj}
/-- what an int's own binary method says of an instance: that it knows nothing of it -/
theorem int_knows_not {B : Builtin} {nm : String} {f : Int → Int → Sem Fin} {n : Int} {t : Tok} (hB : B = Builtin.Int.intBinary nm f) (ho : s.heap.get? x = some ox) (hp : ox.data = .plain) {Q : Fin → Shared → Prop}
    (h : Q (.done (.ret .notImplemented)) s) : wpAny (model prog w) A (B ⟨[.int n t, .ref x], []⟩) Q E s := by
  subst hB
  obtain ⟨hp', g, d, tk, os⟩ := s
  obtain ⟨oc, odd, dt, sl⟩ := ox
  dsimp only at hp
  subst hp
  unfold Builtin.Int.intBinary
  wp_walk using wpAny_load' ho
  exact h
/-- int op instance: the int's own method knows nothing of it, so the instance's reflected one is asked -/
theorem refl_int {op : Operator} {id : String} {B : Builtin} {nm : String} {f : Int → Int → Sem Fin} {n : Int} {t : Tok} {Q : Value → Shared → Prop} (X : K.In s.heap) (I : InstAt s.heap x ox C od) (hp : ox.data = .plain)
    (hc : selfFirst K C = true) (hs : findIn K (.ref C) (dunderR op.info.2) = some (some (.ref g))) (hf : isFn K (.ref g) = true)
    (hl : findIn K (.ref C) (PySem.dunder op.info.2) = some (some (.ref q)))
    (hfi : fillsNumberSlot (.type "int") op.info.2 = pure true) (slot : Slot "int" (PySem.dunder op.info.2) id) (entry : entryFor table id = some B) (args : ∀ b : Value, argsOk id ⟨[.int n t, b], []⟩)
    (hB : B = Builtin.Int.intBinary nm f)
    (hsub : subIn K (.ref C) (.type "int") = some false)
    (h : wpAny (model prog w) A (call (.ref g) [.ref x, .int n t]) (W.CmpBack Q) E s) : wpAny (model prog w) A (binaryOp op (.int n t) (.ref x)) Q E s := by
  obtain ⟨cd, rest, hcd, hm⟩ := ksp_first hc
  rcases hi : op.info with ⟨sym, nm'⟩
  rw [hi] at hs hl hfi slot
  dsimp only at hs hl hfi slot
  have one : wpAny (model prog w) A (tryMethod (.int n t) (PySem.dunder nm') (.ref x)) (fun r s' => r = none ∧ s' = s) E s := by
    unfold tryMethod
    refine wpAny_bind (wpAny_callSpecial?_slot (typeIs_int s n t) slot ?_)
    refine wpAny_call (codeAny_call_builtin slot.plain entry (slot.check _ _ _ _ _ _ _ _ (typeIs_int s n t) (args _) ?_))
    refine int_knows_not hB I.1 hp ?_
    exact wpAny_pure ⟨rfl, rfl⟩
  have two := ksp_try X I hs hf h
  obtain ⟨hh, g', d, tt, os⟩ := s
  have L1 : Looks (model prog w) hh (typeOf (.ref x)) (.ref C) := I.type
  have L2 : Looks (model prog w) hh (typeOf (.int n t)) (.type "int") := Looks.of_pure rfl
  have L3 : Looks (model prog w) hh (fillsNumberSlot (.ref C) nm') true := fills_K X hcd hm hl
  have L4 : Looks (model prog w) hh (fillsNumberSlot (.type "int") nm') true := Looks.of_pure hfi
  have L5 : Looks (model prog w) hh (isSubtype (.ref C) (.type "int")) false := looks_subIn X hsub
  have L7 : Looks (model prog w) hh (numberSlotInPython (.type "int") nm') false := Looks.of_pure rfl
  have hne : (Value.type "int" == Value.ref C) = false := Bool.eq_false_iff.mpr fun q => by cases beq_iff_eq.mp q
  simp only [binaryOp, hi]
  refine wpAny_holding (wpAny_bind ?_)
  unfold binaryOp1
  refine wpAny_bind (L2.at (wpAny_bind (L1.at (wpAny_bind (L4.at ?_)))))
  simp only [hne, Bool.false_eq_true, if_false]
  ksp_lk
  refine wpAny_mono one (fun r s' hr' => ?_) fun _ _ e => e
  obtain ⟨rfl, rfl⟩ := hr'
  ksp_lk
  refine wpAny_mono two (fun r s' hr' => ?_) fun _ _ e => e
  obtain ⟨v, rfl, hq⟩ := hr'
  ksp_lk
  exact hq
end
end PySem.OwnOps

set_option Elab.async false
set_option linter.all false
set_option maxRecDepth 100000
set_option maxHeartbeats 2000000
namespace L2
open PySem PySem.Spec PyProof.Rows
theorem backs {P : Value → Shared → Prop} {z : V} {v : Value} {s' : Shared} (r : RelV z v) (h : P v s') : PySem.W.CmpBack P v s' := by
  cases z <;> first
    | (obtain ⟨t, e⟩ := (show ∃ t, _ from r); subst e; exact h)
    | (have e := (show v = _ from r); subst e; exact h)
section
variable {X : Cx} {CX : CXT} {C g q : Addr} {fd : FuncData} {ps : List Str} {k : Nat} {sp : Sp} {E : XK}
/-- what of the class its operators ask -/
structure OwnC (K : PySem.W.Frag) (C : Addr) : Prop where
  first : PySem.W.selfFirst K C = true
  subI : PySem.W.subIn K (.type "int") (.ref C) = some false
  subC : PySem.W.subIn K (.ref C) (.type "int") = some false
/-- both are of the class -/
theorem op_same {op : Operator} (T : OwnC X.K C) (hs : PySem.W.findIn X.K (.ref C) (PySem.dunder op.info.2) = some (some (.ref g))) (hf : PySem.W.isFn X.K (.ref g) = true)
    (F : FnOk X.prog X.w X.K X.mg X.base CX k g fd ps sp) (hr : Room k X.A) (hb : Binds X.K fd ps []) (hx : Passes CX X E) :
    OpR X (binaryOp op) (fun x y H Q => ∃ a dx fs b dy gs, x = .ref a ∧ y = .ref b ∧ H a = some (.ins C dx fs) ∧ H b = some (.ins C dy gs) ∧ sp [x, y] H Q E) := by
  intro pins s σ H x y v u Q I rx ry h
  obtain ⟨a, dx, fs, b, dy, gs, rfl, rfl, ha, hb', z⟩ := h
  cases (show v = Value.ref a from rx)
  cases (show u = Value.ref b from ry)
  obtain ⟨mA, O, _⟩ := ins_get I.hok ha
  obtain ⟨od, J, _⟩ := O.look
  obtain ⟨mB, O', _⟩ := ins_get I.hok hb'
  obtain ⟨od', J', _⟩ := O'.look
  obtain ⟨m, hF⟩ := I.fr
  refine PySem.W.binop_K hF I.ok.mod.kin J J'.type T.first hs hf ?_
  refine wpAny_mono (run_fn (us := [.ref a, .ref b]) (vs := [.ref a, .ref b]) F hr hb .nil hx I (.cons rfl (.cons rfl .nil)) z) (fun w s' z => ?_) fun _ _ x => x
  obtain ⟨z', H', I', rz, qz⟩ := z
  exact backs rz ⟨z', H', I', rz, qz⟩
/-- an instance op an int -/
theorem op_instInt {op : Operator} {fo ro : Option Value} (T : OwnC X.K C) (hs : PySem.W.findIn X.K (.ref C) (PySem.dunder op.info.2) = some (some (.ref g))) (hf : PySem.W.isFn X.K (.ref g) = true)
    (hr' : PySem.W.findIn X.K (.ref C) (dunderR op.info.2) = some (some (.ref q)))
    (h1 : PySem.W.findIn X.K (.type "int") (PySem.dunder op.info.2) = some fo) (h2 : PySem.W.findIn X.K (.type "int") (dunderR op.info.2) = some ro)
    (F : FnOk X.prog X.w X.K X.mg X.base CX k g fd ps sp) (hr : Room k X.A) (hb : Binds X.K fd ps []) (hx : Passes CX X E) :
    OpR X (binaryOp op) (fun x y H Q => ∃ a dx fs n, x = .ref a ∧ y = .int n ∧ H a = some (.ins C dx fs) ∧ sp [x, y] H Q E) := by
  intro pins s σ H x y v u Q I rx ry h
  obtain ⟨a, dx, fs, n, rfl, rfl, ha, z⟩ := h
  cases (show v = Value.ref a from rx)
  obtain ⟨t, e⟩ := (show ∃ t, u = Value.int n t from ry)
  subst e
  obtain ⟨mA, O, _⟩ := ins_get I.hok ha
  obtain ⟨od, J, _⟩ := O.look
  obtain ⟨m, hF⟩ := I.fr
  refine PySem.W.ksp_binT hF I.ok.mod.kin J rfl T.first hs hf hr' (.inr ⟨_, rfl⟩) h1 h2 T.subI ?_
  refine wpAny_mono (run_fn (us := [.ref a, .int n t]) (vs := [.ref a, .int n]) F hr hb .nil hx I (.cons rfl (.cons ⟨t, rfl⟩ .nil)) z) (fun w s' z => ?_) fun _ _ x => x
  obtain ⟨z', H', I', rz, qz⟩ := z
  exact backs rz ⟨z', H', I', rz, qz⟩
/-- an int op an instance -/
theorem op_intInst {op : Operator} {id : String} {B : Builtin} {nm : String} {f : Int → Int → Sem Fin} (T : OwnC X.K C) (hs : PySem.W.findIn X.K (.ref C) (dunderR op.info.2) = some (some (.ref g))) (hf : PySem.W.isFn X.K (.ref g) = true)
    (hl : PySem.W.findIn X.K (.ref C) (PySem.dunder op.info.2) = some (some (.ref q)))
    (hfi : fillsNumberSlot (.type "int") op.info.2 = pure true) (slot : Slot "int" (PySem.dunder op.info.2) id) (entry : entryFor table id = some B) (args : ∀ a b : Value, argsOk id ⟨[a, b], []⟩)
    (hB : B = Builtin.Int.intBinary nm f)
    (F : FnOk X.prog X.w X.K X.mg X.base CX k g fd ps sp) (hr : Room k X.A) (hb : Binds X.K fd ps []) (hx : Passes CX X E) :
    OpR X (binaryOp op) (fun x y H Q => ∃ n a dx fs, x = .int n ∧ y = .ref a ∧ H a = some (.ins C dx fs) ∧ sp [y, x] H Q E) := by
  intro pins s σ H x y v u Q I rx ry h
  obtain ⟨n, a, dx, fs, rfl, rfl, ha, z⟩ := h
  cases (show u = Value.ref a from ry)
  obtain ⟨t, e⟩ := (show ∃ t, v = Value.int n t from rx)
  subst e
  obtain ⟨mA, O, _⟩ := ins_get I.hok ha
  obtain ⟨od, J, _⟩ := O.look
  refine PySem.OwnOps.refl_int I.kIn J rfl T.first hs hf hl hfi slot entry (args _) hB T.subC ?_
  refine wpAny_mono (run_fn (us := [.ref a, .int n t]) (vs := [.ref a, .int n]) F hr hb .nil hx I (.cons rfl (.cons ⟨t, rfl⟩ .nil)) z) (fun w s' z => ?_) fun _ _ x => x
  obtain ⟨z', H', I', rz, qz⟩ := z
  exact backs rz ⟨z', H', I', rz, qz⟩
theorem op_addRI (T : OwnC X.K C) (hs : PySem.W.findIn X.K (.ref C) "__radd__" = some (some (.ref g))) (hf : PySem.W.isFn X.K (.ref g) = true) (hl : PySem.W.findIn X.K (.ref C) "__add__" = some (some (.ref q)))
    (F : FnOk X.prog X.w X.K X.mg X.base CX k g fd ps sp) (hr : Room k X.A) (hb : Binds X.K fd ps []) (hx : Passes CX X E) :
    OpR X (binaryOp .Add) (fun x y H Q => ∃ n a dx fs, x = .int n ∧ y = .ref a ∧ H a = some (.ins C dx fs) ∧ sp [y, x] H Q E) :=
  op_intInst (op := .Add) T hs hf hl PySem.F.fills_int_add PySem.F.slot_int_add PySem.F.entry_int_add (fun a b => PySem.F.args_int_add_2 a b) rfl F hr hb hx
theorem op_subRI (T : OwnC X.K C) (hs : PySem.W.findIn X.K (.ref C) "__rsub__" = some (some (.ref g))) (hf : PySem.W.isFn X.K (.ref g) = true) (hl : PySem.W.findIn X.K (.ref C) "__sub__" = some (some (.ref q)))
    (F : FnOk X.prog X.w X.K X.mg X.base CX k g fd ps sp) (hr : Room k X.A) (hb : Binds X.K fd ps []) (hx : Passes CX X E) :
    OpR X (binaryOp .Sub) (fun x y H Q => ∃ n a dx fs, x = .int n ∧ y = .ref a ∧ H a = some (.ins C dx fs) ∧ sp [y, x] H Q E) :=
  op_intInst (op := .Sub) T hs hf hl PySem.F.fills_int_sub PySem.F.slot_int_sub PySem.F.entry_int_sub (fun a b => PySem.F.args_int_sub_2 a b) rfl F hr hb hx
theorem op_mulRI (T : OwnC X.K C) (hs : PySem.W.findIn X.K (.ref C) "__rmul__" = some (some (.ref g))) (hf : PySem.W.isFn X.K (.ref g) = true) (hl : PySem.W.findIn X.K (.ref C) "__mul__" = some (some (.ref q)))
    (F : FnOk X.prog X.w X.K X.mg X.base CX k g fd ps sp) (hr : Room k X.A) (hb : Binds X.K fd ps []) (hx : Passes CX X E) :
    OpR X (binaryOp .Mult) (fun x y H Q => ∃ n a dx fs, x = .int n ∧ y = .ref a ∧ H a = some (.ins C dx fs) ∧ sp [y, x] H Q E) :=
  op_intInst (op := .Mult) T hs hf hl PySem.F.fills_int_mul PySem.F.slot_int_mul PySem.F.entry_int_mul (fun a b => PySem.F.args_int_mul_2 a b) rfl F hr hb hx
/-- -x -/
theorem un_negO (hs : PySem.W.findIn X.K (.ref C) "__neg__" = some (some (.ref g))) (hf : PySem.W.isFn X.K (.ref g) = true)
    (F : FnOk X.prog X.w X.K X.mg X.base CX k g fd ps sp) (hr : Room k X.A) (hb : Binds X.K fd ps []) (hx : Passes CX X E) :
    UnR X (unaryOp .USub) (fun x H Q => ∃ a dx fs, x = .ref a ∧ H a = some (.ins C dx fs) ∧ sp [x] H Q E) := by
  intro pins s σ H x v Q I rx h
  obtain ⟨a, dx, fs, rfl, ha, z⟩ := h
  cases (show v = Value.ref a from rx)
  obtain ⟨mA, O, _⟩ := ins_get I.hok ha
  obtain ⟨od, J, _⟩ := O.look
  obtain ⟨m, hF⟩ := I.fr
  exact PySem.W.ksp_neg hF I.ok.mod.kin J hs hf (run_fn (us := [.ref a]) (vs := [.ref a]) F hr hb .nil hx I (.cons rfl .nil) z)
/-- abs(x) -/
theorem call_absO (hs : PySem.W.findIn X.K (.ref C) "__abs__" = some (some (.ref g))) (hf : PySem.W.isFn X.K (.ref g) = true)
    (F : FnOk X.prog X.w X.K X.mg X.base CX k g fd ps sp) (hr : Room (k + 1) X.A) (hb : Binds X.K fd ps []) (hx : Passes CX X E) :
    CallR X (.builtin "abs") (fun xs H Q => ∃ a dx fs, xs = [.ref a] ∧ H a = some (.ins C dx fs) ∧ sp xs H Q E) := by
  intro pins s σ H xs us Q I r h
  obtain ⟨a, dx, fs, rfl, ha, z⟩ := h
  obtain ⟨u, rfl, ru⟩ := vals1 r
  cases (show u = Value.ref a from ru)
  obtain ⟨mA, O, _⟩ := ins_get I.hok ha
  obtain ⟨od, J, _⟩ := O.look
  refine PySem.Calls.call_function_entry kind_abs plain_abs entry_abs (args_abs _) ?_
  unfold Builtin.«abs»
  refine wpAny_bind (m := oneArg "abs" _) (wpAny_pure ?_)
  refine wpAny_bind (m := callSpecial? (.ref a) (Str.ofString "__abs__")) (PySem.W.special_fn I.kIn J hs (beq_iff_eq.mp hf) ?_)
  have hr1 : Room k X.A.in1 := hr.in1
  have hl : ([Value.ref a] ++ []).length = ps.length := by
    have e := F.len _ _ _ _ z
    exact e
  have r1 : Vals [V.ref a] [Value.ref a] := .cons rfl .nil
  have bd : BindsTo s fd ⟨[Value.ref a], []⟩ (ps.zip [Value.ref a]) := by
    have b1 := hb s [Value.ref a] I.kIn hl
    rw [List.append_nil] at b1
    exact b1
  refine wpAny_call (codeAny_mono (F.run X.A.in1 X.stack s H _ _ _ Q E hr1 I.env0.in1 bd r1 z) fun r s' hq => ?_)
  cases r with
  | error e => exact hx pins σ H s e s' I hq
  | ok fl =>
    cases fl with
    | ret u => exact wpAny_pure ⟨_, rfl, I.after hq⟩
    | next => exact False.elim hq
    | brk => exact False.elim hq
    | cont => exact False.elim hq
/-- // by any divisor but 0 of less than 9000 bits -/
def CDivX (_ j : Int) : Prop := j ≠ 0 ∧ j.natAbs.log2 < 9000
theorem op_fdivX : OpR X (binaryOp .FloorDiv) (rI CDivX fun i j => .int (i.fdiv j)) := opI fun _ _ _ _ _ _ _ hc q => floordiv_int hc.1 q (.inl (PyProof.noPylong_of_log2 hc.2))
theorem op_modX : OpR X (binaryOp .Mod) (rI (fun _ j => j ≠ 0) fun i j => .int (i.fmod j)) := op_modN
end
end L2

set_option Elab.async false
set_option linter.all false
set_option maxRecDepth 100000
set_option maxHeartbeats 2000000
namespace PySem.OwnOps
open PySem PySem.W PySem.Calls
section
variable {prog : Program} {w : World} {A : Around} {E : Value → Shared → Prop} {s : Shared} {K : Frag} {x : Addr} {t c : Value}
/-- isinstance says yes by the classes alone -/
theorem isi_by_class {Q : Value → Shared → Prop} (X : K.In s.heap) (L0 : Looks (model prog w) s.heap (typeOf (.ref x)) t) (hne : (t == c) = false) (e : kitCls K t c = some true) (h : Q (.bool true) s) :
    wpAny (model prog w) A (call (.builtin "isinstance") [.ref x, c]) Q E s := by
  obtain ⟨h0, g, d, tt, os⟩ := s
  obtain ⟨L1, L2, L3⟩ := kit_cls (M := model prog w) X e
  have L4 : Looks (model prog w) h0 (isInstance (.ref x) c) true := L0.andThen L3
  refine PyProof.Rows.call_isinstance_of ?_ (fun z => nomatch z)
  unfold Builtin.«isinstance.nested»
  refine wpAny_bind (L0.at ?_)
  rw [hne, if_neg Bool.false_ne_true]
  refine wpAny_bind (L1.at ?_)
  rw [if_pos (by decide)]
  k_delta "plainIsInstance"
  refine wpAny_bind (wpAny_bind (L2.at ?_))
  simp only [Bool.not_true, Bool.false_eq_true, if_false]
  refine wpAny_bind (L4.at ?_)
  first
    | exact wpAny_pure (wpAny_pure h)
    | (simp only [if_true]; exact wpAny_pure (wpAny_pure h))
    | (simp only [if_true]; exact wpAny_bind (wpAny_pure (wpAny_pure h)))
    | (simp only [if_true]; exact wpAny_pure h)
end
end PySem.OwnOps
namespace L2
open PySem PySem.Spec PyProof.Rows
/-- isinstance(e, c), e the exception that the suite holds, c a class above its own -/
theorem call_isUp {X : Cx} {a D B : Addr} {cls : Value} {d : Option Addr} {oe : Obj} {pn : List (Addr × Obj)} (hz : Zc cls d oe) (hne : D ≠ B) (hk : PySem.W.kitCls X.K (.ref D) (.ref B) = some true) :
    CallR (X.suite a ((a, oe) :: pn)) (.builtin "isinstance") (fun xs H Q => cls = .ref D ∧ xs = [.ref a, .ref B] ∧ Q (.bl true) H) := by
  intro pins s σ H xs us Q I r h
  obtain ⟨rfl, rfl, q⟩ := h
  obtain ⟨u1, u2, rfl, r1, r2⟩ := vals2 r
  cases (show u1 = Value.ref a from r1)
  cases (show u2 = Value.ref B from r2)
  obtain ⟨hget, _⟩ := I.pin (a, oe) (List.mem_append.mpr (.inl List.mem_cons_self))
  have L0 : PySem.W.Looks (model X.prog X.w) s.heap (typeOf (.ref a)) (.ref D) := by
    intro A Q E s' k q'
    unfold typeOf
    refine wpAny_bind (wpAny_loadPart (k _ _ hget) ?_)
    rw [hz.1]
    exact wpAny_pure q'
  exact PySem.OwnOps.isi_by_class I.kIn L0 (Bool.eq_false_iff.mpr fun z => hne (Value.ref.inj (beq_iff_eq.mp z))) hk ⟨.bl true, H, I.kept (t' := s.toks) fun _ _ z => z, rfl, q⟩
end L2

set_option Elab.async false
set_option linter.all false
set_option maxRecDepth 100000
set_option maxHeartbeats 2000000
/-! comparisons of a class of one's own -/
namespace PySem.OwnOps
open PySem PySem.W PySem.Calls
section
variable {prog : Program} {w : World} {A : Around} {E : Value → Shared → Prop} {s : Shared} {K : Frag} {x C g q : Addr} {ox : Obj} {od : Option Obj}
theorem try_own {op : CmpOp} {name : Str} {b : Value} {Q : Value → Shared → Prop} (X : K.In s.heap) (I : InstAt s.heap x ox C od) (hs : findIn K (.ref C) name = some (some (.ref g))) (hf : isFn K (.ref g) = true)
    (h : wpAny (model prog w) A (call (.ref g) [.ref x, b]) (W.CmpBack Q) E s) : wpAny (model prog w) A (tryCompare (.ref x) name b) (fun r s' => ∃ v, r = some v ∧ Q v s') E s := by
  unfold tryCompare
  refine wpAny_bind (ifBound_K X I hs hf (wpAny_mono h (fun v s' hv => ?_) fun _ _ e => e))
  cases v <;> first | exact hv.elim | exact wpAny_pure ⟨_, rfl, hv⟩
/-- int cmp instance: the int's own method knows nothing of it, so the instance's reflected one is asked -/
theorem refl_cmp {op : CmpOp} {id : String} {B : Builtin} {nm : String} {f : Int → Int → Sem Fin} {n : Int} {t : Tok} {Q : Value → Shared → Prop} (hu : A.units < cLine) (X : K.In s.heap) (I : InstAt s.heap x ox C od) (hp : ox.data = .plain)
    (hs : findIn K (.ref C) (cmpInfo op).2.2 = some (some (.ref g))) (hf : isFn K (.ref g) = true)
    (slot : Slot "int" (cmpInfo op).2.1 id) (entry : entryFor table id = some B) (args : ∀ b : Value, argsOk id ⟨[.int n t, b], []⟩)
    (hB : B = Builtin.Int.intBinary nm f) (hsub : subIn K (.ref C) (.type "int") = some false)
    (h : wpAny (model prog w) A (call (.ref g) [.ref x, .int n t]) (W.CmpBack Q) E s) : wpAny (model prog w) A (richCompare op (.int n t) (.ref x)) Q E s := by
  have one : wpAny (model prog w) A (tryCompare (.int n t) (cmpInfo op).2.1 (.ref x)) (fun r s' => r = none ∧ s' = s) E s := by
    unfold tryCompare
    refine wpAny_bind (wpAny_callSpecialIfBound?_slot (typeIs_int s n t) slot ?_)
    refine wpAny_call (codeAny_call_builtin slot.plain entry (slot.check _ _ _ _ _ _ _ _ (typeIs_int s n t) (args _) ?_))
    refine int_knows_not hB I.1 hp ?_
    exact wpAny_pure ⟨rfl, rfl⟩
  have two := try_own (op := op) X I hs hf h
  have h1 : oneThing? op (.int n t) (.ref x) = none := by cases op <;> rfl
  rcases hi : cmpInfo op with ⟨sym, f', r⟩
  rw [hi] at one two
  dsimp only at one two
  have hne : (Value.type "int" != Value.ref C) = true := by
    show (!(Value.type "int" == Value.ref C)) = true
    rw [show (Value.type "int" == Value.ref C) = false from Bool.eq_false_iff.mpr fun q => by cases beq_iff_eq.mp q]
    rfl
  simp only [richCompare, hi, h1]
  refine wpAny_holding (wpAny_bind (wpAny_cRoomFor hu ?_))
  refine wpAny_bind (wpAny_typeOf (typeIs_int s n t) (wpAny_bind (I.type.here ?_)))
  simp only [hne, if_true]
  refine wpAny_bind ((looks_subIn X hsub).here ?_)
  simp only [Bool.false_eq_true, if_false]
  refine wpAny_bind (wpAny_mono one (fun r' s' z => ?_) fun _ _ e => e)
  obtain ⟨rfl, rfl⟩ := z
  simp only [Bool.not_false, if_true]
  refine wpAny_bind (wpAny_mono two (fun r' s' z => ?_) fun _ _ e => e)
  obtain ⟨v, rfl, hq⟩ := z
  exact wpAny_pure hq
/-- != of an instance whose class says == alone -/
theorem own_ne {b : Value} {tb : Value} {Q : Value → Shared → Prop} (hu : A.units + 1 < cLine) (X : K.In s.heap) (I : InstAt s.heap x ox C od) (hb : Looks (model prog w) s.heap (typeOf b) tb) (hn : notFirst K C tb = true)
    (hne : findIn K (.ref C) "__ne__" = some (some (.builtin "object.__ne__"))) (hob : mroIn K C (.type "object") = some true) (hs : findIn K (.ref C) "__eq__" = some (some (.ref g))) (hf : isFn K (.ref g) = true)
    (h : wpAny (model prog w) A.in1 (call (.ref g) [.ref x, b]) (fun v s' => ∃ k, v = .bool k ∧ Q (.bool (!k)) s') E s) : wpAny (model prog w) A (richCompare .NotEq (.ref x) b) Q E s := by
  have sub : Looks (model prog w) s.heap (isInstance (.ref x) (.type "object")) true := I.type.andThen (looks_mroIn X hob)
  have S := PySem.F.cmp_object.ne
  have one : wpAny (model prog w) A (tryCompare (.ref x) "__ne__" b) (fun r s' => ∃ v, r = some v ∧ Q v s') E s := by
    unfold tryCompare
    refine wpAny_bind ?_
    simp only [callSpecialIfBound?, bindSpecialIfBound?]
    refine wpAny_holding (wpAny_bind (wpAny_bind (wpAny_bind (I.type.here ((looks_findIn X hne).here ?_)))))
    simp only [S.bind]
    refine wpAny_bind (wpAny_askSetting (wpAny_ite ?_))
    have fin : ∀ R : Option Value → Shared → Prop, (∀ k s', Q (.bool k) s' → R (some (.bool k)) s') → wpAny (model prog w) A (call (.builtin "object.__ne__") ([.ref x] ++ [b]) >>= fun v => pure (some v)) R E s := fun R hR => by
      refine wpAny_bind (wpAny_call (codeAny_call_builtin S.plain PySem.F.cmpEntry_ne ?_))
      refine @check_slot (model prog w) _ _ s "object.__ne__" "object" "__ne__" (.ref x) [b] [] _ PySem.F.cmpKind_ne PySem.F.cmpSplit_ne sub (PySem.F.cmpArgs_ne _ _) ?_
      unfold Builtin.«object.__ne__»
      refine wpAny_bind (wpAny_of_eq (a := ((Value.ref x : Value), [b])) (by first | rfl | (simp only [slotArgs]; rfl)) ?_)
      refine wpAny_bind (wpAny_cRoomFor (by exact hu) ?_)
      refine wpAny_bind (m := callSpecialIfBound? (.ref x) (Str.ofString "__eq__") [b]) (ifBound_K X I hs hf (wpAny_mono h (fun v s' z => ?_) fun _ _ e => e))
      obtain ⟨k, rfl, hq⟩ := z
      refine wpAny_bind (m := truthy (.bool _)) (wpAny_truthy_bool ?_)
      exact wpAny_pure (wpAny_pure (hR _ _ hq))
    have end_ : ∀ k s', Q (.bool k) s' → wpAny (model prog w) A (match (some (.bool k) : Option Value) with
        | some .notImplemented | none => pure none
        | some v => pure (some v)) (fun r s' => ∃ v, r = some v ∧ Q v s') E s' := fun k s' hq => wpAny_pure ⟨_, rfl, hq⟩
    split
    · exact wpAny_bind (wpAny_pure (wpAny_pure (by exact fin _ end_)))
    · exact wpAny_tryCatch (wpAny_bind (wpAny_pure (wpAny_pure (by exact fin _ end_))))
  unfold richCompare
  simp only [oneThing_ref]
  refine wpAny_holding (wpAny_bind (wpAny_cRoomFor (Nat.lt_of_succ_lt hu) ?_))
  refine wpAny_bind (I.type.here (wpAny_bind (hb.here ?_)))
  have e : (tb == .ref C) = true ∨ subIn K tb (.ref C) = some false := by
    rcases Bool.or_eq_true_iff.mp hn with e | e
    · exact .inl e
    · exact .inr (beq_iff_eq.mp e)
  split
  · rename_i q
    have e' : subIn K tb (.ref C) = some false := by
      rcases e with e | e
      · rw [beq_iff_eq.mp e] at q
        simp at q
      · exact e
    refine wpAny_bind ((looks_subIn X e').here ?_)
    simp only [Bool.false_eq_true, if_false]
    refine wpAny_bind (wpAny_mono one (fun r s' z => ?_) fun _ _ e => e)
    obtain ⟨v, rfl, hq⟩ := z
    exact wpAny_pure hq
  · refine wpAny_bind (wpAny_pure ?_)
    simp only [Bool.false_eq_true, if_false]
    refine wpAny_bind (wpAny_mono one (fun r s' z => ?_) fun _ _ e => e)
    obtain ⟨v, rfl, hq⟩ := z
    exact wpAny_pure hq
end
end PySem.OwnOps

set_option Elab.async false
set_option linter.all false
set_option maxRecDepth 100000
set_option maxHeartbeats 2000000
namespace L2
open PySem PySem.Spec PyProof.Rows
section
variable {X : Cx} {CX : CXT} {C g q : Addr} {fd : FuncData} {ps : List Str} {k : Nat} {sp : Sp} {E : XK}
theorem ty_looks {pins : List (Addr × Obj)} {σ : St} {H : Hp} {s : Shared} {x : V} {u t : Value} (I : Inv X pins σ H s) (rx : RelV x u) (ty : TyX X.K H x t) : PySem.W.Looks (model X.prog X.w) s.heap (typeOf u) t := by
  obtain ⟨P, Z, p, _⟩ := kit_of I rx ty
  exact Z.ty _ _ I.kIn p
/-- x cmp y, x an instance of the class at C whose def for cmp is at g -/
def rCmp (K : PySem.W.Frag) (C : Addr) (sp : Sp) (E : XK) : R2 := fun x y H Q => ∃ a dx fs t, x = .ref a ∧ H a = some (.ins C dx fs) ∧ TyX K H y t ∧ PySem.W.notFirst K C t = true ∧ sp [x, y] H Q E
theorem op_cmp {op : CmpOp} (hop : ∀ a b, compareOp op a b = richCompare op a b) (hs : PySem.W.findIn X.K (.ref C) (cmpInfo op).2.1 = some (some (.ref g))) (hf : PySem.W.isFn X.K (.ref g) = true)
    (F : FnOk X.prog X.w X.K X.mg X.base CX k g fd ps sp) (hr : Room k X.A) (hb : Binds X.K fd ps []) (hx : Passes CX X E) : OpR X (compareOp op) (rCmp X.K C sp E) := by
  intro pins s σ H x y v u Q I rx ry h
  obtain ⟨a, dx, fs, t, rfl, ha, ty, hn, z⟩ := h
  cases (show v = Value.ref a from rx)
  obtain ⟨mA, O, _⟩ := ins_get I.hok ha
  obtain ⟨od, J, _⟩ := O.look
  obtain ⟨m, hF⟩ := I.fr
  rw [hop]
  refine PySem.W.cmp_K (op := op) hr.units0 hF I.ok.mod.kin J (ty_looks I ry ty) hn hs hf ?_
  refine wpAny_mono (run_fn (us := [.ref a, u]) (vs := [.ref a, y]) F hr hb .nil hx I (.cons rfl (.cons ry .nil)) z) (fun w s' z => ?_) fun _ _ x => x
  obtain ⟨z', H', I', rz, qz⟩ := z
  exact backs rz ⟨z', H', I', rz, qz⟩
/-- an int cmp an instance -/
theorem op_cmpI {op : CmpOp} {id : String} {B : Builtin} {nm : String} {f : Int → Int → Sem Fin} (hop : ∀ a b, compareOp op a b = richCompare op a b) (hs : PySem.W.findIn X.K (.ref C) (cmpInfo op).2.2 = some (some (.ref g))) (hf : PySem.W.isFn X.K (.ref g) = true)
    (slot : Slot "int" (cmpInfo op).2.1 id) (entry : entryFor table id = some B) (args : ∀ a b : Value, argsOk id ⟨[a, b], []⟩) (hB : B = Builtin.Int.intBinary nm f) (hsub : PySem.W.subIn X.K (.ref C) (.type "int") = some false)
    (F : FnOk X.prog X.w X.K X.mg X.base CX k g fd ps sp) (hr : Room k X.A) (hb : Binds X.K fd ps []) (hx : Passes CX X E) :
    OpR X (compareOp op) (fun x y H Q => ∃ n a dx fs, x = .int n ∧ y = .ref a ∧ H a = some (.ins C dx fs) ∧ sp [y, x] H Q E) := by
  intro pins s σ H x y v u Q I rx ry h
  obtain ⟨n, a, dx, fs, rfl, rfl, ha, z⟩ := h
  cases (show u = Value.ref a from ry)
  obtain ⟨t, e⟩ := (show ∃ t, v = Value.int n t from rx)
  subst e
  obtain ⟨mA, O, _⟩ := ins_get I.hok ha
  obtain ⟨od, J, _⟩ := O.look
  rw [hop]
  refine PySem.OwnOps.refl_cmp hr.units0 I.kIn J rfl hs hf slot entry (args _) hB hsub ?_
  refine wpAny_mono (run_fn (us := [.ref a, .int n t]) (vs := [.ref a, .int n]) F hr hb .nil hx I (.cons rfl (.cons ⟨t, rfl⟩ .nil)) z) (fun w s' z => ?_) fun _ _ x => x
  obtain ⟨z', H', I', rz, qz⟩ := z
  exact backs rz ⟨z', H', I', rz, qz⟩
theorem op_ltI (hs : PySem.W.findIn X.K (.ref C) "__gt__" = some (some (.ref g))) (hf : PySem.W.isFn X.K (.ref g) = true) (hsub : PySem.W.subIn X.K (.ref C) (.type "int") = some false)
    (F : FnOk X.prog X.w X.K X.mg X.base CX k g fd ps sp) (hr : Room k X.A) (hb : Binds X.K fd ps []) (hx : Passes CX X E) :
    OpR X (compareOp .Lt) (fun x y H Q => ∃ n a dx fs, x = .int n ∧ y = .ref a ∧ H a = some (.ins C dx fs) ∧ sp [y, x] H Q E) :=
  op_cmpI (op := .Lt) (fun _ _ => rfl) hs hf PySem.F.slot_int_lt PySem.F.entry_int_lt (fun a b => PySem.F.args_int_lt_2 a b) rfl hsub F hr hb hx
theorem op_eqI (hs : PySem.W.findIn X.K (.ref C) "__eq__" = some (some (.ref g))) (hf : PySem.W.isFn X.K (.ref g) = true) (hsub : PySem.W.subIn X.K (.ref C) (.type "int") = some false)
    (F : FnOk X.prog X.w X.K X.mg X.base CX k g fd ps sp) (hr : Room k X.A) (hb : Binds X.K fd ps []) (hx : Passes CX X E) :
    OpR X (compareOp .Eq) (fun x y H Q => ∃ n a dx fs, x = .int n ∧ y = .ref a ∧ H a = some (.ins C dx fs) ∧ sp [y, x] H Q E) :=
  op_cmpI (op := .Eq) (fun _ _ => rfl) hs hf PySem.F.slot_int_eq PySem.F.entry_int_eq (fun a b => PySem.F.args_int_eq_2 a b) rfl hsub F hr hb hx
/-- x != y by the class's == -/
theorem op_neOwn (hne : PySem.W.findIn X.K (.ref C) "__ne__" = some (some (.builtin "object.__ne__"))) (hob : PySem.W.mroIn X.K C (.type "object") = some true) (hs : PySem.W.findIn X.K (.ref C) "__eq__" = some (some (.ref g))) (hf : PySem.W.isFn X.K (.ref g) = true)
    (F : FnOk X.prog X.w X.K X.mg X.base CX k g fd ps sp) (hr : Room (k + 1) X.A) (hb : Binds X.K fd ps []) (hx : Passes CX X E) :
    OpR X (compareOp .NotEq) (fun x y H Q => ∃ a dx fs t, x = .ref a ∧ H a = some (.ins C dx fs) ∧ TyX X.K H y t ∧ PySem.W.notFirst X.K C t = true ∧ sp [x, y] H (fun z H' => ∃ r, z = .bl r ∧ Q (.bl (!r)) H') E) := by
  intro pins s σ H x y v u Q I rx ry h
  obtain ⟨a, dx, fs, t, rfl, ha, ty, hn, z⟩ := h
  cases (show v = Value.ref a from rx)
  obtain ⟨mA, O, _⟩ := ins_get I.hok ha
  obtain ⟨od, J, _⟩ := O.look
  have hr1 : Room k X.A.in1 := hr.in1
  have r1 : Vals [V.ref a, y] [Value.ref a, u] := .cons rfl (.cons ry .nil)
  have hl : ([Value.ref a, u] ++ []).length = ps.length := by
    have e := F.len _ _ _ _ z
    exact e
  have bd : BindsTo s fd ⟨[Value.ref a, u], []⟩ (ps.zip [Value.ref a, u]) := by
    have b1 := hb s [Value.ref a, u] I.kIn hl
    rw [List.append_nil] at b1
    exact b1
  show wpAny _ _ (richCompare .NotEq (.ref a) u) _ _ _
  refine PySem.OwnOps.own_ne (Nat.lt_of_le_of_lt (Nat.add_le_add_left (by decide : 1 ≤ 64) _) hr.units) I.kIn J (ty_looks I ry ty) hn hne hob hs hf ?_
  refine wpAny_call (codeAny_mono (F.run X.A.in1 X.stack s H _ _ _ _ E hr1 I.env0.in1 bd r1 z) fun r s' hq => ?_)
  match r, hq with
  | .error e, hq => exact hx pins σ H s e s' I hq
  | .ok (.ret w), hq =>
    obtain ⟨z', H', I', rz, r, rfl, qz⟩ := I.after hq
    cases rz
    exact ⟨r, rfl, .bl (!r), H', I', rfl, qz⟩
  | .ok .next, hq => exact hq.elim
  | .ok .brk, hq => exact hq.elim
  | .ok .cont, hq => exact hq.elim
end
end L2

set_option Elab.async false
set_option linter.all false
set_option maxRecDepth 100000
set_option maxHeartbeats 4000000
/-! law k03: the program's own defs -/
namespace K3
open PySem L2 Rt
/-! ### the text by places -/
def top (i : Nat) : Stmt := PySem.Challenge.pw_toldwithin_k03_ratios_compared_and_writt.main.body.getD i (.Pass ⟨0, 0, 0, 0⟩)
abbrev sErr : Stmt := inClass (top 4) 0
abbrev sIsInt : Stmt := top 8
abbrev sInit : Stmt := inClass (top 11) 0
abbrev sAdd : Stmt := inClass (top 11) 1
abbrev sRadd : Stmt := inClass (top 11) 2
abbrev sSub : Stmt := inClass (top 11) 3
abbrev sRsub : Stmt := inClass (top 11) 4
abbrev sMul : Stmt := inClass (top 11) 5
abbrev sRmul : Stmt := inClass (top 11) 6
abbrev sNeg : Stmt := inClass (top 11) 7
abbrev sAbs : Stmt := inClass (top 11) 8
abbrev sOver : Stmt := inClass (top 11) 9
abbrev sIsNum : Stmt := top 12
abbrev sAsR : Stmt := top 13
abbrev FnP (K : PySem.W.Frag) (x q : Str) (st : Stmt) (dvs : List V) (f : Addr) (fd : FuncData) : Prop := FunD K x q (defArgs st) (defBody st) (defScope st) dvs [] f fd
/-! ### what a Ratio looks like -/
theorem ktb : ¬ (("top" : Str) = "bottom") := by decide +kernel
theorem kbt : ¬ (("bottom" : Str) = "top") := by decide +kernel
def flds (t b : Int) : List (Str × V) := putF "bottom" (.int b) (putF "top" (.int t) [])
theorem flds_top (t b : Int) : (flds t b).lookup ("top" : Str) = some (.int t) := by
  unfold flds
  rw [lookup_putF, if_neg ktb, lookup_putF, if_pos rfl]
theorem flds_bot (t b : Int) : (flds t b).lookup ("bottom" : Str) = some (.int b) := by
  unfold flds
  rw [lookup_putF, if_pos rfl]
theorem flds_no (t b : Int) {m : Str} (h1 : ¬ m = "top") (h2 : ¬ m = "bottom") : (flds t b).lookup m = none := by
  unfold flds
  rw [lookup_putF, if_neg h2, lookup_putF, if_neg h1]
  rfl
def RatAt (C : Addr) (H : Hp) (p : Addr) (t b : Int) : Prop := ∃ dx, H p = some (.ins C dx (flds t b))
theorem RatAt.same {C : Addr} {H H' : Hp} {p : Addr} {t b : Int} (h : RatAt C H p t b) (s : Same H H') : RatAt C H' p t b := let ⟨dx, e⟩ := h; ⟨dx, s _ _ e⟩
/-- y is the number t / b -/
def NumV (C : Addr) (H : Hp) (y : V) (t b : Int) : Prop := (y = .int t ∧ b = 1) ∨ ∃ p, y = .ref p ∧ RatAt C H p t b
theorem NumV.same {C : Addr} {H H' : Hp} {y : V} {t b : Int} (h : NumV C H y t b) (s : Same H H') : NumV C H' y t b := by
  rcases h with h | ⟨p, e, h⟩
  · exact .inl h
  · exact .inr ⟨p, e, h.same s⟩
/-- whether x is an integer -/
def IntV (K : PySem.W.Frag) (H : Hp) (x : V) (r : Bool) : Prop := ∃ t b1 b2, TyX K H x t ∧ PySem.W.kitOne K t (.type "int") = some b1 ∧ PySem.W.kitOne K t (.type "bool") = some b2 ∧ r = (b1 && !b2)
theorem IntV.int {K : PySem.W.Frag} {H : Hp} (i : Int) : IntV K H (.int i) true := ⟨_, true, false, .base (.int i), kit_ty (by decide +kernel), kit_ty (by decide +kernel), rfl⟩
/-- sizes that every number here stays below -/
def Sz (n : Nat) (z : Int) : Prop := z.natAbs < 2 ^ n
theorem Sz.mul {a b : Nat} {x y : Int} (h : Sz a x) (k : Sz b y) : Sz (a + b) (x * y) := wide_lt h k
theorem Sz.mono {a b : Nat} {x : Int} (h : Sz a x) (l : a ≤ b) : Sz b x := Nat.lt_of_lt_of_le h (Nat.pow_le_pow_right (by decide) l)
/-! ### what of the text is asked -/
structure Txt (K : PySem.W.Frag) (mg : Str → Option Value) (C E B : Addr) : Prop where
  cl : Cls K C
  nT : NoAttr K C "top"
  nB : NoAttr K C "bottom"
  mgC : mg "Ratio" = some (.ref C)
  own : OwnC K C
  ca : PySem.W.findIn K (.ref C) "__class__" = some (some (.builtin "object.__class__"))
  cn : PySem.W.specialIn K (.builtin "object.__class__") "__get__" = some (some (.builtin "getset_descriptor.__get__"))
  ct : PySem.W.takesIn K (.builtin "object.__class__") = some true
  cm : PySem.W.mroIn K C (.type "object") = some true
  rInt : PySem.W.kitOne K (.ref C) (.type "int") = some false
  rBool : PySem.W.kitOne K (.ref C) (.type "bool") = some false
  iC : PySem.W.kitOne K (.type "int") (.ref C) = some false
  ox : OexC K E
  mgE : mg "NoRatio" = some (.ref E)
  noW : PySem.W.findIn K (.ref E) "word" = some none
  xf : XfC K E
  exm : PySem.W.exmOne K (.ref E) (.ref E) = some true
  up : PySem.W.kitCls K (.ref E) (.ref B) = some true
  neB : E ≠ B
  mgB : mg "ToldError" = some (.ref B)
  iAdd : PySem.W.findIn K (.type "int") "__add__" = some (some (.builtin "int.__add__"))
  iRadd : PySem.W.findIn K (.type "int") "__radd__" = some (some (.builtin "int.__radd__"))
  iSub : PySem.W.findIn K (.type "int") "__sub__" = some (some (.builtin "int.__sub__"))
  iRsub : PySem.W.findIn K (.type "int") "__rsub__" = some (some (.builtin "int.__rsub__"))
  iMul : PySem.W.findIn K (.type "int") "__mul__" = some (some (.builtin "int.__mul__"))
  iRmul : PySem.W.findIn K (.type "int") "__rmul__" = some (some (.builtin "int.__rmul__"))
  gcd : mg "gcd" = some (.builtin "math.gcd")
  isinst : mg "isinstance" = none
  int : mg "int" = none
  bool : mg "bool" = none
  abs : mg "abs" = none
  len : mg "len" = none
  range : mg "range" = none
  max : mg "max" = none
  min : mg "min" = none
  all : mg "all" = none
/-! ### promises -/
/-- an error with this word is let out; what was tracked stands as it was -/
def Raised (E : Addr) (H : Hp) (X : XK) (w : Str) : Prop := ∀ d H', Same H H' → H' d = some (.xd [(("word" : Str), .str w)]) → X (.ref E) (some d) H'
def spErr (K : PySem.W.Frag) (E : Addr) : Sp := fun vs H Q _ => ∃ a v, vs = [.ref a, v] ∧ H a = some (exo a E none) ∧
  ∀ d, H d = none → d ≠ a → Q .non (upd (upd H d (exd d [(("word" : Str), v)])) a (exo a E (some d)))
def spIsInt (K : PySem.W.Frag) : Sp := fun vs H Q _ => ∃ x r, vs = [x] ∧ IntV K H x r ∧ Q (.bl r) H
/-- __init__ of Ratio -/
def spInit (K : PySem.W.Frag) (C E : Addr) : Sp := fun vs H Q X => ∃ p dx x y, vs = [.ref p, x, y] ∧ H p = some (.ins C dx []) ∧
  ((IntV K H x false ∧ Raised E H X "top") ∨ (∃ t, x = .int t ∧ IntV K H y false ∧ Raised E H X "bottom") ∨ (∃ t, x = .int t ∧ y = .int 0 ∧ Raised E H X "zero") ∨
    ∃ t b, x = .int t ∧ y = .int b ∧ b ≠ 0 ∧ Sz 8000 b ∧ ∀ H', (∀ a o, a ≠ p → H a = some o → H' a = some o) → RatAt C H' p (nrmT t b) (nrmB t b) → Q .non H')
def spIsNum (C : Addr) : Sp := fun vs H Q _ => ∃ x t b, vs = [x] ∧ NumV C H x t b ∧ Q (.bl true) H
def spAsR (C : Addr) : Sp := fun vs H Q _ => ∃ x t b, vs = [x] ∧ NumV C H x t b ∧ ∀ q H', Same H H' → RatAt C H' q t b → Q (.ref q) H'
/-- a binary method: top and bottom of the answer as fT, fB say -/
def spBin (C : Addr) (fT fB : Int → Int → Int → Int → Int) : Sp := fun vs H Q _ => ∃ p y t b t2 b2, vs = [.ref p, y] ∧ RatAt C H p t b ∧ Low t b ∧ NumV C H y t2 b2 ∧ Low t2 b2 ∧ Sz 4000 t ∧ Sz 4000 b ∧ Sz 4000 t2 ∧ Sz 4000 b2 ∧
  ∀ q H', Same H H' → RatAt C H' q (nrmT (fT t b t2 b2) (fB t b t2 b2)) (nrmB (fT t b t2 b2) (fB t b t2 b2)) → Q (.ref q) H'
abbrev addT : Int → Int → Int → Int → Int := fun t b t2 b2 => t * b2 + t2 * b
abbrev subT : Int → Int → Int → Int → Int := fun t b t2 b2 => t * b2 - t2 * b
abbrev rsubT : Int → Int → Int → Int → Int := fun t b t2 b2 => -t * b2 + t2 * b
abbrev mulT : Int → Int → Int → Int → Int := fun t _ t2 _ => t * t2
abbrev bb : Int → Int → Int → Int → Int := fun _ b _ b2 => b * b2
def spUn (C : Addr) (f : Int → Int) : Sp := fun vs H Q _ => ∃ p t b, vs = [.ref p] ∧ RatAt C H p t b ∧ Low t b ∧ Sz 8000 b ∧ ∀ q H', Same H H' → RatAt C H' q (f t) b → Q (.ref q) H'
def spOver (C E : Addr) : Sp := fun vs H Q X => ∃ p y t b t2 b2, vs = [.ref p, y] ∧ RatAt C H p t b ∧ Low t b ∧ NumV C H y t2 b2 ∧ Low t2 b2 ∧ Sz 4000 t ∧ Sz 4000 b ∧ Sz 4000 t2 ∧ Sz 4000 b2 ∧
  ((t2 = 0 ∧ Raised E H X "zero") ∨ (t2 ≠ 0 ∧ ∀ q H', Same H H' → RatAt C H' q (nrmT (t * b2) (b * t2)) (nrmB (t * b2) (b * t2)) → Q (.ref q) H'))
section
variable {P : Program} {w : World} {K : PySem.W.Frag} {mg : Str → Option Value} {base : Heap} {C E B f g h : Addr} {fd gd hd : FuncData}
theorem scErr : FnScope ["self", "word"] ["self", "word"] (defScope sErr) := ⟨rfl, rfl, rfl, by decide +kernel, rfl, by decide +kernel, by decide +kernel⟩
theorem ok_err (F : FnP K "__init__" "NoRatio.__init__" sErr [] f fd) (T : Txt K mg C E B) : FnOk P w K mg base CX0 1 f fd ["self", "word"] (spErr K E) := by
  refine F.ok scErr (fun vs H Q X z => ?_) (fun cdv A outer s H vs Q X hr z => ?_)
  · obtain ⟨a, v, rfl, _⟩ := z
    rfl
  · obtain ⟨a, v, rfl, ha, k⟩ := z
    refine ⟨_, PSs.nox (pss_one (ps_ost (pv 0) (pv 1))), ?_⟩
    exact ⟨_, rfl, _, rfl, a, E, rfl, T.ox, T.noW, .inl ⟨ha, fun d hd ne => k d hd ne⟩⟩
theorem scIsInt : FnScope ["found"] ["found"] (defScope sIsInt) := ⟨rfl, rfl, rfl, by decide +kernel, rfl, by decide +kernel, by decide +kernel⟩
theorem ok_isInt (F : FnP K "is_integer" "is_integer" sIsInt [] f fd) (T : Txt K mg C E B) : FnOk P w K mg base CX0 1 f fd ["found"] (spIsInt K) := by
  refine F.ok scIsInt (fun vs H Q X z => ?_) (fun cdv A outer s H vs Q X hr z => ?_)
  · obtain ⟨x, r, rfl, _⟩ := z
    rfl
  · obtain ⟨x, r, rfl, ⟨t, b1, b2, ty, k1, k2, rfl⟩, q⟩ := z
    refine ⟨_, PSs.nox (pss_one (ps_ret (pe_and
      (pe_callB call_isi (by rfl) T.isinst (by decide +kernel) (pa_cons (pv 0) (pa_cons (pe_bltn (v := .ty "int") (by rfl) T.int (by decide +kernel) rfl) pa_nil)))
      (pe_one (pe_not (pe_callB call_isi (by rfl) T.isinst (by decide +kernel) (pa_cons (pv 0) (pa_cons (pe_bltn (v := .ty "bool") (by rfl) T.bool (by decide +kernel) rfl) pa_nil)))))))), ?_⟩
    refine ⟨_, rfl, x, .ty "int", t, _, b1, rfl, .ty _, ty, k1, b1, rfl, ?_⟩
    cases b1 with
    | false => exact iteF q
    | true => exact iteT ⟨_, rfl, x, .ty "bool", t, _, b2, rfl, .ty _, ty, k2, b2, rfl, q⟩
end
end K3

set_option Elab.async false
set_option linter.all false
set_option maxRecDepth 100000
set_option maxHeartbeats 4000000
namespace K3
open PySem L2 Rt
theorem itF {c : Bool} {A B : Prop} (h : c = false) (k : B) : if c = true then A else B := by
  subst h
  exact iteF k
theorem itT {c : Bool} {A B : Prop} (h : c = true) (k : A) : if c = true then A else B := by
  subst h
  exact iteT k
/-! ### the defs in bundles -/
section
variable (P : Program) (w : World) (K : PySem.W.Frag) (mg : Str → Option Value) (base : Heap)
def GloOk (CX : CXT) (k : Nat) (x : Str) (ps : List Str) (sp : Sp) : Prop := ∃ f fd, FnOk P w K mg base CX k f fd ps sp ∧ mg x = some (.ref f) ∧ PySem.W.keepIn K (.ref f) = true ∧ Binds K fd ps []
def MthOk (C : Addr) (CX : CXT) (k : Nat) (m : Str) (ps : List Str) (sp : Sp) : Prop := ∃ f fd, FnOk P w K mg base CX k f fd ps sp ∧ Meth K C m f ∧ Binds K fd ps []
def MkOk (C : Addr) (CX : CXT) (k : Nat) (ps : List Str) (dvs : List V) (sp : Sp) : Prop := ∃ f fd, FnOk P w K mg base CX k f fd ps sp ∧ Mk K C f ∧ Binds K fd ps [] ∧ ∃ ds, Vals dvs ds ∧ Binds K fd ps ds
def ErrOk (E : Addr) (k : Nat) (ps : List Str) (sp : Sp) : Prop := ∃ f fd, FnOk P w K mg base CX0 k f fd ps sp ∧ PySem.W.findIn K (.ref E) "__init__" = some (some (.ref f)) ∧ PySem.W.typeIn K (.ref f) = some (.type "function") ∧ Binds K fd ps []
end
theorem raised_ok {K : PySem.W.Frag} {E : Addr} {H : Hp} {X : XK} {w : Str} (h : Raised E H X w) : ([V.str w] : List V).length ≤ 1000 ∧ ∀ a, H a = none → spErr K E (.ref a :: ([V.str w] ++ [])) (upd H a (exo a E none))
    (fun v H2 => v = .non ∧ ∃ (d : Addr) (fs : List (Str × V)), H2 a = some (exo a E (some d)) ∧ H2 d = some (exd d fs) ∧ H d = none ∧ X (.ref E) (some d) (upd (del H2 a) d (.xd fs))) (fun _ _ _ => False) := by
  refine ⟨by show 1 ≤ 1000; decide, fun a ha => ⟨a, .str w, rfl, upd_same, fun d hd ne => ?_⟩⟩
  have hd' : H d = none := by
    rw [upd_ne ne] at hd
    exact hd
  refine ⟨rfl, d, _, upd_same, by rw [upd_ne ne, upd_same], hd', h d _ (fun b o e => ?_) upd_same⟩
  have nb : b ≠ d := ne_of_none e hd'
  have na : b ≠ a := ne_of_none e ha
  rw [upd_ne nb, del_ne na, upd_ne na, upd_ne nb, upd_ne na]
  exact e
theorem gcd_div {t b : Int} (hb : b ≠ 0) (h : Sz 8000 b) : CDivX t ((Nat.gcd t.natAbs b.natAbs : Nat) : Int) ∧ CDivX t (-((Nat.gcd t.natAbs b.natAbs : Nat) : Int)) := by
  have h1 := gcd_pos (p := t) hb
  have h2 : Nat.gcd t.natAbs b.natAbs ≤ b.natAbs := Nat.gcd_le_right _ (by omega)
  have h3 : (((Nat.gcd t.natAbs b.natAbs : Nat) : Int)).natAbs < 2 ^ 8000 := Nat.lt_of_le_of_lt (by omega) h
  have h4 := PySem.Flt.log2_lt_of (by decide) h3
  refine ⟨⟨by omega, by omega⟩, ⟨by omega, ?_⟩⟩
  rw [Int.natAbs_neg]
  omega
section
variable {P : Program} {w : World} {K : PySem.W.Frag} {mg : Str → Option Value} {base : Heap} {C E B f g h : Addr} {fd gd hd : FuncData}
theorem scInit : FnScope ["self", "top", "bottom", "shared"] ["self", "top", "bottom"] (defScope sInit) := ⟨rfl, rfl, rfl, by decide +kernel, rfl, by decide +kernel, by decide +kernel⟩
theorem ok_init (F : FnP K "__init__" "Ratio.__init__" sInit [.int 1] f fd) (T : Txt K mg C E B) (GI : GloOk P w K mg base CX0 1 "is_integer" ["found"] (spIsInt K)) (GE : ErrOk P w K mg base E 1 ["self", "word"] (spErr K E)) :
    FnOk P w K mg base (L2.CX P w) 3 f fd ["self", "top", "bottom"] (spInit K C E) := by
  obtain ⟨fI, fdI, GI, mI, kI, bI⟩ := GI
  obtain ⟨fE, fdE, GE, iE, tE, bE⟩ := GE
  refine F.ok scInit (fun vs H Q X z => ?_) (fun cdv A outer s H vs Q X hr z => ?_)
  · obtain ⟨p, dx, x, y, rfl, _⟩ := z
    rfl
  · obtain ⟨p, dx, x, y, rfl, hp, z⟩ := z
    have hr1 : Room 1 _ := hr.mono (by decide)
    refine ⟨_, pss_cons (ps_if (pt_not (pt_val (pe_call GI hr1 rfl mI kI bI .nil pass0 (pa_cons (pv 1) pa_nil)))) (pss_one (ps_raise rfl (takes_of rfl rfl rfl rfl) (pmk_oex T.ox iE tE GE hr bE .nil pass0 rfl T.mgE (pa_cons pe_str pa_nil)))) pss_nil)
      (pss_cons (ps_if (pt_not (pt_val (pe_call GI hr1 rfl mI kI bI .nil pass0 (pa_cons (pv 2) pa_nil)))) (pss_one (ps_raise rfl (takes_of rfl rfl rfl rfl) (pmk_oex T.ox iE tE GE hr bE .nil pass0 rfl T.mgE (pa_cons pe_str pa_nil)))) pss_nil)
      (pss_cons (ps_if (pt_cmpR op_eq (pv 2) pe_int (nomark _)) (pss_one (ps_raise rfl (takes_of rfl rfl rfl rfl) (pmk_oex T.ox iE tE GE hr bE .nil pass0 rfl T.mgE (pa_cons pe_str pa_nil)))) pss_nil)
      (pss_cons (ps_set (i := 3) scInit.nd rfl (Or.inl rfl) (pe_ifExp (pt_cmpR op_gt (pv 2) pe_int (nomark _)) (pe_callBfun cr_gcd (by rfl) T.gcd (pa_cons (pv 1) (pa_cons (pv 2) pa_nil))) (pe_un un_neg (pe_callBfun cr_gcd (by rfl) T.gcd (pa_cons (pv 1) (pa_cons (pv 2) pa_nil))))))
      (pss_cons (ps_fld (pv 0) (pe_op op_fdivX (pv 1) (pv 3)) rfl)
      (pss_one (ps_fld (pv 0) (pe_op op_fdivX (pv 2) (pv 3)) rfl)))))), ?_⟩
    rcases z with ⟨iv, k⟩ | ⟨t, rfl, iv, k⟩ | ⟨t, rfl, rfl, k⟩ | ⟨t, b, rfl, rfl, hb, hs, k⟩
    · exact ⟨_, rfl, x, false, rfl, iv, _, rfl, iteT (raised_ok k)⟩
    · exact ⟨_, rfl, _, true, rfl, .int t, _, rfl, iteF ⟨_, rfl, y, false, rfl, iv, _, rfl, iteT (raised_ok k)⟩⟩
    · exact ⟨_, rfl, _, true, rfl, .int t, _, rfl, iteF ⟨_, rfl, _, true, rfl, .int 0, _, rfl, iteF ⟨_, rfl, rfl, _, rfl, iteT (raised_ok k)⟩⟩⟩
    · refine ⟨_, rfl, _, true, rfl, .int t, _, rfl, iteF ⟨_, rfl, _, true, rfl, .int b, _, rfl, iteF ⟨_, rfl, rfl, _, rfl, ?_⟩⟩⟩
      obtain ⟨d1, d2⟩ := gcd_div (t := t) hb hs
      refine itF (by rw [dec_int]; simpa using hb) ?_
      refine ⟨_, rfl, _, _, rfl, rfl, _, rfl, ?_⟩
      by_cases c : 0 < b
      · have e1 : nrmT t b = t.fdiv ((Nat.gcd t.natAbs b.natAbs : Nat) : Int) := by unfold nrmT shr; rw [if_pos c]
        have e2 : nrmB t b = b.fdiv ((Nat.gcd t.natAbs b.natAbs : Nat) : Int) := by unfold nrmB shr; rw [if_pos c]
        refine itT (decide_eq_true c) ?_
        refine ⟨_, rfl, _, rfl, t, b, rfl, ?_⟩
        refine ⟨_, rfl, _, rfl, _, _, rfl, rfl, d1, _, rfl, p, C, dx, _, rfl, hp, T.cl, T.nT, (by show 0 < 1000; decide), ?_⟩
        refine ⟨_, rfl, _, rfl, _, _, rfl, rfl, ⟨d1.1, d1.2⟩, _, rfl, p, C, dx, _, rfl, upd_same, T.cl, T.nB, (by show 1 < 1000; decide), ?_⟩
        refine k _ (fun a o ne e => ?_) ⟨dx, ?_⟩
        · rw [upd_ne ne, upd_ne ne]
          exact e
        · rw [e1, e2]
          exact upd_same
      · have e1 : nrmT t b = t.fdiv (-((Nat.gcd t.natAbs b.natAbs : Nat) : Int)) := by unfold nrmT shr; rw [if_neg c]
        have e2 : nrmB t b = b.fdiv (-((Nat.gcd t.natAbs b.natAbs : Nat) : Int)) := by unfold nrmB shr; rw [if_neg c]
        refine itF (decide_eq_false c) ?_
        refine ⟨_, rfl, _, rfl, t, b, rfl, _, rfl, ?_⟩
        refine ⟨_, rfl, _, rfl, _, _, rfl, rfl, d2, _, rfl, p, C, dx, _, rfl, hp, T.cl, T.nT, (by show 0 < 1000; decide), ?_⟩
        refine ⟨_, rfl, _, rfl, _, _, rfl, rfl, ⟨d2.1, d2.2⟩, _, rfl, p, C, dx, _, rfl, upd_same, T.cl, T.nB, (by show 1 < 1000; decide), ?_⟩
        refine k _ (fun a o ne e => ?_) ⟨dx, ?_⟩
        · rw [upd_ne ne, upd_ne ne]
          exact e
        · rw [e1, e2]
          exact upd_same
end
end K3

set_option Elab.async false
set_option linter.all false
set_option maxRecDepth 100000
set_option maxHeartbeats 4000000
namespace K3
open PySem L2 Rt
theorem kit_self {K : PySem.W.Frag} {t : Value} : PySem.W.kitOne K t t = some true := by
  unfold PySem.W.kitOne
  rw [if_pos (beq_self_eq_true t)]
theorem low_int (i : Int) : Low i 1 := ⟨by decide, by rw [show (1 : Int).natAbs = 1 from rfl, Nat.gcd_one_right]⟩
section
variable {K : PySem.W.Frag} {mg : Str → Option Value} {C E B : Addr} {H : Hp}
theorem ty_rat (T : Txt K mg C E B) {p : Addr} {t b : Int} (h : RatAt C H p t b) : TyX K H (.ref p) (.ref C) := by
  obtain ⟨dx, e⟩ := h
  exact .base (.ins e T.cl T.ca T.cn T.ct T.cm)
/-- isinstance(x, Ratio) of a number -/
theorem num_isi (T : Txt K mg C E B) {x : V} {t b : Int} (h : NumV C H x t b) : ∃ ty r, TyX K H x ty ∧ PySem.W.kitOne K ty (.ref C) = some r ∧ (r = true → ∃ p, x = .ref p ∧ RatAt C H p t b) ∧ (r = false → x = .int t ∧ b = 1) := by
  rcases h with ⟨rfl, e⟩ | ⟨p, rfl, h⟩
  · exact ⟨_, false, .base (.int t), T.iC, (fun z => by cases z), fun _ => ⟨rfl, e⟩⟩
  · exact ⟨_, true, ty_rat T h, kit_self, fun _ => ⟨p, rfl, h⟩, fun z => by cases z⟩
end
section
variable {P : Program} {w : World} {K : PySem.W.Frag} {mg : Str → Option Value} {base : Heap} {C E B f g h : Addr} {fd gd hd : FuncData}
theorem scIsNum : FnScope ["found"] ["found"] (defScope sIsNum) := ⟨rfl, rfl, rfl, by decide +kernel, rfl, by decide +kernel, by decide +kernel⟩
theorem ok_isNum (F : FnP K "is_number" "is_number" sIsNum [] f fd) (T : Txt K mg C E B) (GI : GloOk P w K mg base CX0 1 "is_integer" ["found"] (spIsInt K)) : FnOk P w K mg base CX0 2 f fd ["found"] (spIsNum C) := by
  obtain ⟨fI, fdI, GI, mI, kI, bI⟩ := GI
  refine F.ok scIsNum (fun vs H Q X z => ?_) (fun cdv A outer s H vs Q X hr z => ?_)
  · obtain ⟨x, t, b, rfl, _⟩ := z
    rfl
  · obtain ⟨x, t, b, rfl, num, k⟩ := z
    refine ⟨_, PSs.nox (pss_one (ps_ret (pe_or
      (pe_callB call_isi (by rfl) T.isinst (by decide +kernel) (pa_cons (pv 0) (pa_cons (pe_glob (v := .ref C) (by rfl) T.mgC rfl) pa_nil)))
      (pe_one (pe_call GI hr rfl mI kI bI .nil pass0 (pa_cons (pv 0) pa_nil)))))), ?_⟩
    obtain ⟨ty, r, hty, hk, yes, no⟩ := num_isi T num
    refine ⟨_, rfl, x, .ref C, ty, _, r, rfl, .own C, hty, hk, r, rfl, ?_⟩
    cases r with
    | true => exact iteT k
    | false =>
      obtain ⟨rfl, rfl⟩ := no rfl
      exact iteF ⟨_, rfl, .int t, true, rfl, .int t, k⟩
theorem scAsR : FnScope ["number"] ["number"] (defScope sAsR) := ⟨rfl, rfl, rfl, by decide +kernel, rfl, by decide +kernel, by decide +kernel⟩
theorem ok_asR (F : FnP K "as_ratio" "as_ratio" sAsR [] f fd) (T : Txt K mg C E B) (GM : MkOk P w K mg base C (L2.CX P w) 3 ["self", "top", "bottom"] [.int 1] (spInit K C E)) : FnOk P w K mg base CX0 5 f fd ["number"] (spAsR C) := by
  obtain ⟨fM, fdM, GM, M, bM, ds, vM, bD⟩ := GM
  refine F.ok scAsR (fun vs H Q X z => ?_) (fun cdv A outer s H vs Q X hr z => ?_)
  · obtain ⟨x, t, b, rfl, _⟩ := z
    rfl
  · obtain ⟨x, t, b, rfl, num, k⟩ := z
    refine ⟨_, PSs.nox (pss_one (ps_ret (pe_ifExp
      (pt_val (pe_callB call_isi (by rfl) T.isinst (by decide +kernel) (pa_cons (pv 0) (pa_cons (pe_glob (v := .ref C) (by rfl) T.mgC rfl) pa_nil))))
      (pv 0) (pe_make M GM hr rfl T.mgC bD vM passL (pa_cons (pv 0) pa_nil))))), ?_⟩
    obtain ⟨ty, r, hty, hk, yes, no⟩ := num_isi T num
    refine ⟨_, rfl, x, .ref C, ty, _, r, rfl, .own C, hty, hk, r, rfl, ?_⟩
    cases r with
    | true =>
      obtain ⟨p, rfl, hp⟩ := yes rfl
      exact iteT ⟨_, rfl, k p H (Same.refl H) hp⟩
    | false =>
      obtain ⟨rfl, rfl⟩ := no rfl
      refine iteF ⟨_, rfl, fun x dx nx nd nex => ⟨x, dx, .int t, .int 1, rfl, upd_same, .inr (.inr (.inr ⟨t, 1, rfl, rfl, by decide, by unfold Sz; decide +kernel, fun H' fr rt => ⟨rfl, ?_⟩⟩))⟩⟩
      rw [(nrm_of_low (low_int t)).1, (nrm_of_low (low_int t)).2] at rt
      exact k x H' (Same.made nx nd fun b o e ne => fr b o ne e) rt
theorem mulOk {x y : Int} (a : Sz 4000 x) (b : Sz 4000 y) : CMulW x y := wide_mul a b (by decide) (by decide) (by decide)
theorem bot_ne {t b t2 b2 : Int} (h : Low t b) (k : Low t2 b2) : b * b2 ≠ 0 := Int.ne_of_gt (Int.mul_pos h.pos k.pos)
end
end K3

namespace Rt
theorem low_eq {t b t2 b2 : Int} (h : Low t b) (k : Low t2 b2) : t * b2 = t2 * b ↔ t = t2 ∧ b = b2 := by
  constructor
  · intro e
    have hb := h.pos
    have hk := k.pos
    have e1 : t.natAbs * b2.natAbs = t2.natAbs * b.natAbs := by rw [← Int.natAbs_mul, ← Int.natAbs_mul, e]
    have d1 : b.natAbs ∣ b2.natAbs := by
      have c : Nat.Coprime b.natAbs t.natAbs := by
        show Nat.gcd _ _ = 1
        rw [Nat.gcd_comm]
        exact h.cop
      exact c.dvd_of_dvd_mul_left ⟨t2.natAbs, by rw [e1, Nat.mul_comm]⟩
    have d2 : b2.natAbs ∣ b.natAbs := by
      have c : Nat.Coprime b2.natAbs t2.natAbs := by
        show Nat.gcd _ _ = 1
        rw [Nat.gcd_comm]
        exact k.cop
      exact c.dvd_of_dvd_mul_left ⟨t.natAbs, by rw [← e1, Nat.mul_comm]⟩
    have e2 := Nat.dvd_antisymm d1 d2
    have e3 : b = b2 := by omega
    subst e3
    exact ⟨Int.eq_of_mul_eq_mul_right (by omega) e, rfl⟩
  · rintro ⟨rfl, rfl⟩
    rfl
end Rt

set_option Elab.async false
set_option linter.all false
set_option maxRecDepth 100000
set_option maxHeartbeats 4000000
namespace K3
open PySem L2 Rt
abbrev sEq : Stmt := inClass (top 11) 10
abbrev sLt : Stmt := inClass (top 11) 11
abbrev sLe : Stmt := inClass (top 11) 12
abbrev sGt : Stmt := inClass (top 11) 13
abbrev sGe : Stmt := inClass (top 11) 14
abbrev sText : Stmt := inClass (top 11) 15
abbrev sSign : Stmt := top 14
/-- the text of t / b -/
def txt (t b : Int) : Str := if b = 1 then (toString t : String) else ((toString t : String) : Str) ++ "/" ++ ((toString b : String) : Str)
def spSign (C : Addr) : Sp := fun vs H Q _ => ∃ x y t b t2 b2, vs = [x, y] ∧ NumV C H x t b ∧ NumV C H y t2 b2 ∧ Sz 4000 t ∧ Sz 4000 b ∧ Sz 4000 t2 ∧ Sz 4000 b2 ∧ ∀ H', Same H H' → Q (.int (t * b2 - t2 * b)) H'
def spCmp (C : Addr) (f : Int → Bool) : Sp := fun vs H Q _ => ∃ p y t b t2 b2, vs = [.ref p, y] ∧ RatAt C H p t b ∧ NumV C H y t2 b2 ∧ Sz 4000 t ∧ Sz 4000 b ∧ Sz 4000 t2 ∧ Sz 4000 b2 ∧ ∀ H', Same H H' → Q (.bl (f (t * b2 - t2 * b))) H'
def spEq (K : PySem.W.Frag) (C : Addr) : Sp := fun vs H Q _ => ∃ p y t b, vs = [.ref p, y] ∧ RatAt C H p t b ∧
  ((∃ t2 b2, NumV C H y t2 b2 ∧ Q (.bl (decide (t = t2) && decide (b = b2))) H) ∨ (∃ ty, TyX K H y ty ∧ PySem.W.kitOne K ty (.ref C) = some false ∧ IntV K H y false ∧ Q (.bl false) H))
def spText (C : Addr) : Sp := fun vs H Q _ => ∃ p t b, vs = [.ref p] ∧ RatAt C H p t b ∧ Sz 1900 t ∧ Sz 1900 b ∧ Q (.str (txt t b)) H
theorem dec_vi {i j : Int} : decide (V.int i = V.int j) = decide (i = j) := decide_eq_decide.mpr ⟨V.int.inj, congrArg V.int⟩
theorem log19 {z : Int} (h : Sz 1900 z) : z.natAbs.log2 < 1920 := Nat.lt_of_lt_of_le (PySem.Flt.log2_lt_of (by decide) h) (by decide)
section
variable {P : Program} {w : World} {K : PySem.W.Frag} {mg : Str → Option Value} {base : Heap} {C E B f g h : Addr} {fd gd hd : FuncData}
theorem scSign : FnScope ["one", "other", "left", "right"] ["one", "other"] (defScope sSign) := ⟨rfl, rfl, rfl, by decide +kernel, rfl, by decide +kernel, by decide +kernel⟩
theorem ok_sign (F : FnP K "sign_of_difference" "sign_of_difference" sSign [] f fd) (T : Txt K mg C E B) (GA : GloOk P w K mg base CX0 5 "as_ratio" ["number"] (spAsR C)) : FnOk P w K mg base CX0 6 f fd ["one", "other"] (spSign C) := by
  obtain ⟨fA, fdA, GA, mA, kA, bA⟩ := GA
  refine F.ok scSign (fun vs H Q X z => ?_) (fun cdv A outer s H vs Q X hr z => ?_)
  · obtain ⟨x, y, t, b, t2, b2, rfl, _⟩ := z
    rfl
  · obtain ⟨x, y, t, b, t2, b2, rfl, nx, ny, z1, z2, z3, z4, k⟩ := z
    refine ⟨_, PSs.nox (pss_cons (ps_set (i := 2) scSign.nd rfl (Or.inl rfl) (pe_call GA hr rfl mA kA bA .nil pass0 (pa_cons (pv 0) pa_nil)))
      (pss_cons (ps_set (i := 3) scSign.nd rfl (Or.inl rfl) (pe_call GA hr rfl mA kA bA .nil pass0 (pa_cons (pv 1) pa_nil)))
      (pss_one (ps_ret (pe_op op_sub (pe_op op_mulW (pe_fld (pv 2) rfl) (pe_fld (pv 3) rfl)) (pe_op op_mulW (pe_fld (pv 3) rfl) (pe_fld (pv 2) rfl))))))), ?_⟩
    refine ⟨_, rfl, x, t, b, rfl, nx, fun p H1 s1 hp => ?_⟩
    refine ⟨_, rfl, y, t2, b2, rfl, ny.same s1, fun q H2 s2 hq => ?_⟩
    obtain ⟨dx, e1⟩ := hp.same s2
    obtain ⟨dq, e2⟩ := id hq
    exact ⟨_, rfl, p, C, dx, _, _, rfl, e1, T.cl, T.nT, flds_top _ _, _, rfl, q, C, dq, _, _, rfl, e2, T.cl, T.nB, flds_bot _ _, _, _, rfl, rfl, mulOk z1 z4,
      _, rfl, q, C, dq, _, _, rfl, e2, T.cl, T.nT, flds_top _ _, _, rfl, p, C, dx, _, _, rfl, e1, T.cl, T.nB, flds_bot _ _, _, _, rfl, rfl, mulOk z3 z2, _, _, rfl, rfl, k H2 (s1.trans s2)⟩
theorem scLt : FnScope ["self", "other"] ["self", "other"] (defScope sLt) := ⟨rfl, rfl, rfl, by decide +kernel, rfl, by decide +kernel, by decide +kernel⟩
theorem ok_lt (F : FnP K "__lt__" "Ratio.__lt__" sLt [] f fd) (T : Txt K mg C E B) (GN : GloOk P w K mg base CX0 2 "is_number" ["found"] (spIsNum C)) (GS : GloOk P w K mg base CX0 6 "sign_of_difference" ["one", "other"] (spSign C)) : FnOk P w K mg base CX0 7 f fd ["self", "other"] (spCmp C fun d => decide (d < 0)) := by
  obtain ⟨fN, fdN, GN, mN, kN, bN⟩ := GN
  obtain ⟨fS, fdS, GS, mS, kS, bS⟩ := GS
  refine F.ok scLt (fun vs H Q X z => ?_) (fun cdv A outer s H vs Q X hr z => ?_)
  · obtain ⟨p, y, t, b, t2, b2, rfl, _⟩ := z
    rfl
  · obtain ⟨p, y, t, b, t2, b2, rfl, hp, ny, z1, z2, z3, z4, k⟩ := z
    have hrN : Room 2 _ := hr.mono (by decide)
    refine ⟨_, PSs.nox (pss_cons (ps_if (pt_not (pt_val (pe_call GN hrN rfl mN kN bN .nil pass0 (pa_cons (pv 1) pa_nil)))) pss_never pss_nil)
      (pss_one (ps_ret (pe_cmpR op_lt (pe_call GS hr rfl mS kS bS .nil pass0 (pa_cons (pv 0) (pa_cons (pv 1) pa_nil))) pe_int (nomark _))))), ?_⟩
    refine ⟨_, rfl, y, t2, b2, rfl, ny, true, rfl, iteF ?_⟩
    exact ⟨_, rfl, _, rfl, _, y, t, b, t2, b2, rfl, .inr ⟨p, rfl, hp⟩, ny, z1, z2, z3, z4, fun H' s' => ⟨_, _, rfl, rfl, k H' s'⟩⟩
theorem scLe : FnScope ["self", "other"] ["self", "other"] (defScope sLe) := ⟨rfl, rfl, rfl, by decide +kernel, rfl, by decide +kernel, by decide +kernel⟩
theorem ok_le (F : FnP K "__le__" "Ratio.__le__" sLe [] f fd) (T : Txt K mg C E B) (GN : GloOk P w K mg base CX0 2 "is_number" ["found"] (spIsNum C)) (GS : GloOk P w K mg base CX0 6 "sign_of_difference" ["one", "other"] (spSign C)) : FnOk P w K mg base CX0 7 f fd ["self", "other"] (spCmp C fun d => decide (d ≤ 0)) := by
  obtain ⟨fN, fdN, GN, mN, kN, bN⟩ := GN
  obtain ⟨fS, fdS, GS, mS, kS, bS⟩ := GS
  refine F.ok scLe (fun vs H Q X z => ?_) (fun cdv A outer s H vs Q X hr z => ?_)
  · obtain ⟨p, y, t, b, t2, b2, rfl, _⟩ := z
    rfl
  · obtain ⟨p, y, t, b, t2, b2, rfl, hp, ny, z1, z2, z3, z4, k⟩ := z
    have hrN : Room 2 _ := hr.mono (by decide)
    refine ⟨_, PSs.nox (pss_cons (ps_if (pt_not (pt_val (pe_call GN hrN rfl mN kN bN .nil pass0 (pa_cons (pv 1) pa_nil)))) pss_never pss_nil)
      (pss_one (ps_ret (pe_cmpR op_le (pe_call GS hr rfl mS kS bS .nil pass0 (pa_cons (pv 0) (pa_cons (pv 1) pa_nil))) pe_int (nomark _))))), ?_⟩
    refine ⟨_, rfl, y, t2, b2, rfl, ny, true, rfl, iteF ?_⟩
    exact ⟨_, rfl, _, rfl, _, y, t, b, t2, b2, rfl, .inr ⟨p, rfl, hp⟩, ny, z1, z2, z3, z4, fun H' s' => ⟨_, _, rfl, rfl, k H' s'⟩⟩
theorem scGt : FnScope ["self", "other"] ["self", "other"] (defScope sGt) := ⟨rfl, rfl, rfl, by decide +kernel, rfl, by decide +kernel, by decide +kernel⟩
theorem ok_gt (F : FnP K "__gt__" "Ratio.__gt__" sGt [] f fd) (T : Txt K mg C E B) (GN : GloOk P w K mg base CX0 2 "is_number" ["found"] (spIsNum C)) (GS : GloOk P w K mg base CX0 6 "sign_of_difference" ["one", "other"] (spSign C)) : FnOk P w K mg base CX0 7 f fd ["self", "other"] (spCmp C fun d => decide (0 < d)) := by
  obtain ⟨fN, fdN, GN, mN, kN, bN⟩ := GN
  obtain ⟨fS, fdS, GS, mS, kS, bS⟩ := GS
  refine F.ok scGt (fun vs H Q X z => ?_) (fun cdv A outer s H vs Q X hr z => ?_)
  · obtain ⟨p, y, t, b, t2, b2, rfl, _⟩ := z
    rfl
  · obtain ⟨p, y, t, b, t2, b2, rfl, hp, ny, z1, z2, z3, z4, k⟩ := z
    have hrN : Room 2 _ := hr.mono (by decide)
    refine ⟨_, PSs.nox (pss_cons (ps_if (pt_not (pt_val (pe_call GN hrN rfl mN kN bN .nil pass0 (pa_cons (pv 1) pa_nil)))) pss_never pss_nil)
      (pss_one (ps_ret (pe_cmpR op_gt (pe_call GS hr rfl mS kS bS .nil pass0 (pa_cons (pv 0) (pa_cons (pv 1) pa_nil))) pe_int (nomark _))))), ?_⟩
    refine ⟨_, rfl, y, t2, b2, rfl, ny, true, rfl, iteF ?_⟩
    exact ⟨_, rfl, _, rfl, _, y, t, b, t2, b2, rfl, .inr ⟨p, rfl, hp⟩, ny, z1, z2, z3, z4, fun H' s' => ⟨_, _, rfl, rfl, k H' s'⟩⟩
theorem scGe : FnScope ["self", "other"] ["self", "other"] (defScope sGe) := ⟨rfl, rfl, rfl, by decide +kernel, rfl, by decide +kernel, by decide +kernel⟩
theorem ok_ge (F : FnP K "__ge__" "Ratio.__ge__" sGe [] f fd) (T : Txt K mg C E B) (GN : GloOk P w K mg base CX0 2 "is_number" ["found"] (spIsNum C)) (GS : GloOk P w K mg base CX0 6 "sign_of_difference" ["one", "other"] (spSign C)) : FnOk P w K mg base CX0 7 f fd ["self", "other"] (spCmp C fun d => decide (0 ≤ d)) := by
  obtain ⟨fN, fdN, GN, mN, kN, bN⟩ := GN
  obtain ⟨fS, fdS, GS, mS, kS, bS⟩ := GS
  refine F.ok scGe (fun vs H Q X z => ?_) (fun cdv A outer s H vs Q X hr z => ?_)
  · obtain ⟨p, y, t, b, t2, b2, rfl, _⟩ := z
    rfl
  · obtain ⟨p, y, t, b, t2, b2, rfl, hp, ny, z1, z2, z3, z4, k⟩ := z
    have hrN : Room 2 _ := hr.mono (by decide)
    refine ⟨_, PSs.nox (pss_cons (ps_if (pt_not (pt_val (pe_call GN hrN rfl mN kN bN .nil pass0 (pa_cons (pv 1) pa_nil)))) pss_never pss_nil)
      (pss_one (ps_ret (pe_cmpR op_ge (pe_call GS hr rfl mS kS bS .nil pass0 (pa_cons (pv 0) (pa_cons (pv 1) pa_nil))) pe_int (nomark _))))), ?_⟩
    refine ⟨_, rfl, y, t2, b2, rfl, ny, true, rfl, iteF ?_⟩
    exact ⟨_, rfl, _, rfl, _, y, t, b, t2, b2, rfl, .inr ⟨p, rfl, hp⟩, ny, z1, z2, z3, z4, fun H' s' => ⟨_, _, rfl, rfl, k H' s'⟩⟩
theorem scEq : FnScope ["self", "other"] ["self", "other"] (defScope sEq) := ⟨rfl, rfl, rfl, by decide +kernel, rfl, by decide +kernel, by decide +kernel⟩
theorem ok_eq (F : FnP K "__eq__" "Ratio.__eq__" sEq [] f fd) (T : Txt K mg C E B) (GI : GloOk P w K mg base CX0 1 "is_integer" ["found"] (spIsInt K)) : FnOk P w K mg base CX0 2 f fd ["self", "other"] (spEq K C) := by
  obtain ⟨fI, fdI, GI, mI, kI, bI⟩ := GI
  refine F.ok scEq (fun vs H Q X z => ?_) (fun cdv A outer s H vs Q X hr z => ?_)
  · obtain ⟨p, y, t, b, rfl, _⟩ := z
    rfl
  · obtain ⟨p, y, t, b, rfl, ⟨dx, e1⟩, z⟩ := z
    refine ⟨_, PSs.nox (pss_cons (ps_if (pt_val (pe_callB call_isi (by rfl) T.isinst (by decide +kernel) (pa_cons (pv 1) (pa_cons (pe_glob (v := .ref C) (by rfl) T.mgC rfl) pa_nil))))
        (pss_one (ps_ret (pe_and (pe_cmpR op_eq (pe_fld (pv 0) rfl) (pe_fld (pv 1) rfl) (nomark _)) (pe_one (pe_cmpR op_eq (pe_fld (pv 0) rfl) (pe_fld (pv 1) rfl) (nomark _)))))) pss_nil)
      (pss_one (ps_ret (pe_and (pe_call GI hr rfl mI kI bI .nil pass0 (pa_cons (pv 1) pa_nil)) (pe_and (pe_cmpR op_eq (pe_fld (pv 0) rfl) pe_int (nomark _)) (pe_one (pe_cmpR op_eq (pe_fld (pv 0) rfl) (pv 1) (nomark _)))))))), ?_⟩
    rcases z with ⟨t2, b2, num, k⟩ | ⟨ty, hty, hk, iv, k⟩
    · obtain ⟨ty, r, hty, hk, yes, no⟩ := num_isi T num
      refine ⟨_, rfl, y, .ref C, ty, _, r, rfl, .own C, hty, hk, r, rfl, ?_⟩
      cases r with
      | true =>
        obtain ⟨q, rfl, dq, e2⟩ := yes rfl
        refine iteT ?_
        refine ⟨_, rfl, p, C, dx, _, _, rfl, e1, T.cl, T.nT, flds_top _ _, _, rfl, q, C, dq, _, _, rfl, e2, T.cl, T.nT, flds_top _ _, rfl, _, rfl, ?_⟩
        rcases Decidable.em (t = t2) with c | c
        · refine itT (decide_eq_true (congrArg V.int c)) ?_
          refine ⟨_, rfl, p, C, dx, _, _, rfl, e1, T.cl, T.nB, flds_bot _ _, _, rfl, q, C, dq, _, _, rfl, e2, T.cl, T.nB, flds_bot _ _, rfl, ?_⟩
          rw [decide_eq_true c, Bool.true_and] at k
          rw [dec_vi]
          exact k
        · refine itF (decide_eq_false fun z => c (V.int.inj z)) ?_
          rw [decide_eq_false c, Bool.false_and] at k
          exact k
      | false =>
        obtain ⟨rfl, rfl⟩ := no rfl
        refine iteF ?_
        refine ⟨_, rfl, _, true, rfl, .int t2, true, rfl, iteT ?_⟩
        refine ⟨_, rfl, p, C, dx, _, _, rfl, e1, T.cl, T.nB, flds_bot _ _, rfl, _, rfl, ?_⟩
        rcases Decidable.em (b = 1) with c | c
        · refine itT (decide_eq_true (congrArg V.int c)) ?_
          refine ⟨_, rfl, p, C, dx, _, _, rfl, e1, T.cl, T.nT, flds_top _ _, _, rfl, rfl, ?_⟩
          rw [decide_eq_true c, Bool.and_true] at k
          rw [dec_vi]
          exact k
        · refine itF (decide_eq_false fun z => c (V.int.inj z)) ?_
          rw [decide_eq_false c, Bool.and_false] at k
          exact k
    · refine ⟨_, rfl, y, .ref C, ty, _, false, rfl, .own C, hty, hk, false, rfl, iteF ?_⟩
      exact ⟨_, rfl, y, false, rfl, iv, false, rfl, iteF k⟩
theorem str_app (a b : Str) : (a ++ b).cps.toList = a.cps.toList ++ b.cps.toList := Array.toList_append
theorem str_ext {a b : Str} (h : a.cps.toList = b.cps.toList) : a = b := by
  obtain ⟨⟨x⟩⟩ := a
  obtain ⟨⟨y⟩⟩ := b
  exact congrArg (fun l => (⟨⟨l⟩⟩ : Str)) h
theorem scText : FnScope ["self"] ["self"] (defScope sText) := ⟨rfl, rfl, rfl, by decide +kernel, rfl, by decide +kernel, by decide +kernel⟩
theorem len19 {z : Int} (h : Sz 1900 z) : (((toString z : String) : Str)).length ≤ 1921 := PyProof.Rows.int_text_len_1921 (log19 h)
theorem str_len (a b : Str) : (a ++ b).length = a.length + b.length := Array.size_append
theorem ok_text (F : FnP K "text" "Ratio.text" sText [] f fd) (T : Txt K mg C E B) (hst : mg "str" = none) : FnOk P w K mg base CX0 1 f fd ["self"] (spText C) := by
  refine F.ok scText (fun vs H Q X z => ?_) (fun cdv A outer s H vs Q X hr z => ?_)
  · obtain ⟨p, t, b, rfl, _⟩ := z
    rfl
  · obtain ⟨p, t, b, rfl, ⟨dx, e1⟩, z1, z2, k⟩ := z
    refine ⟨_, PSs.nox (pss_cons (ps_if (pt_cmpR op_eq (pe_fld (pv 0) rfl) pe_int (nomark _)) (pss_one (ps_ret (pe_callTy call_str_int (by rfl) hst (by decide +kernel) (pa_cons (pe_fld (pv 0) rfl) pa_nil)))) pss_nil)
      (pss_one (ps_ret (pe_joined (.cons (pe_fmt (pe_fld (pv 0) rfl)) (.cons pe_str (.cons (pe_fmt (pe_fld (pv 0) rfl)) .nil))))))), ?_⟩
    refine ⟨_, rfl, p, C, dx, _, _, rfl, e1, T.cl, T.nB, flds_bot _ _, rfl, _, rfl, ?_⟩
    rcases Decidable.em (b = 1) with c | c
    · refine itT (decide_eq_true (congrArg V.int c)) ?_
      refine ⟨_, rfl, p, C, dx, _, _, rfl, e1, T.cl, T.nT, flds_top _ _, _, rfl, log19 z1, ?_⟩
      unfold txt at k
      rw [if_pos c] at k
      exact k
    · refine itF (decide_eq_false fun z => c (V.int.inj z)) ?_
      unfold txt at k
      rw [if_neg c] at k
      have l1 := len19 z1
      have l2 := len19 z2
      have big : 5000 ≤ sizeLine := by decide
      refine ⟨_, rfl, p, C, dx, _, _, rfl, e1, T.cl, T.nT, flds_top _ _, .inr ⟨_, rfl, log19 z1, _, rfl, ?_, _, rfl, ?_, _, rfl, p, C, dx, _, _, rfl, e1, T.cl, T.nB, flds_bot _ _, .inr ⟨_, rfl, log19 z2, _, rfl, ?_, ?_⟩⟩⟩
      · show (Str.empty ++ ((toString t : String) : Str)).length ≤ sizeLine
        rw [str_len]
        exact Nat.le_trans (show 0 + _ ≤ 5000 by omega) big
      · show ((Str.empty ++ ((toString t : String) : Str)) ++ (("/" : String) : Str)).length ≤ sizeLine
        rw [str_len, str_len]
        exact Nat.le_trans (show 0 + _ + 1 ≤ 5000 by omega) big
      · show (((Str.empty ++ ((toString t : String) : Str)) ++ (("/" : String) : Str)) ++ ((toString b : String) : Str)).length ≤ sizeLine
        rw [str_len, str_len, str_len]
        exact Nat.le_trans (show 0 + _ + 1 + _ ≤ 5000 by omega) big
      · have e : (((Str.empty ++ ((toString t : String) : Str)) ++ (("/" : String) : Str)) ++ ((toString b : String) : Str)) = ((toString t : String) : Str) ++ "/" ++ ((toString b : String) : Str) := str_ext (by
          simp only [str_app]
          rfl)
        show Q (.str (((Str.empty ++ ((toString t : String) : Str)) ++ (("/" : String) : Str)) ++ ((toString b : String) : Str))) H
        rw [e]
        exact k
end
end K3

set_option Elab.async false
set_option linter.all false
set_option maxRecDepth 100000
set_option maxHeartbeats 4000000
/-! law k03: the law's own small defs -/
namespace K3
open PySem L2 Rt
abbrev sLInt : Stmt := top 16
abbrev sStream : Stmt := top 17
abbrev sDraw : Stmt := top 18
abbrev sCommon : Stmt := top 19
abbrev sFrac : Stmt := top 20
abbrev sIs : Stmt := top 21
/-- nothing but what stands at l has changed -/
def But (l : Addr) (H H' : Hp) : Prop := ∀ b o, b ≠ l → H b = some o → H' b = some o
theorem But.trans {l : Addr} {H H1 H2 : Hp} (a : But l H H1) (b : But l H1 H2) : But l H H2 := fun c o n e => b c o n (a c o n e)
theorem But.of {l : Addr} {H H' : Hp} (s : Same H H') : But l H H' := fun c o _ e => s c o e
/-- the stream: three ints in a list -/
def Strm (H : Hp) (l : Addr) : Prop := ∃ c f n : Int, H l = some (.lst [.int c, .int f, .int n])
def Pair (H : Hp) (p : Addr) (x y : Int) : Prop := H p = some (.tup [.int x, .int y])
theorem Pair.same {H H' : Hp} {p : Addr} {x y : Int} (h : Pair H p x y) (s : Same H H') : Pair H' p x y := s _ _ h
def spStream (K : PySem.W.Frag) : Sp := fun vs H Q _ => ∃ (a : Addr) (ns : List Int) (k : Nat), vs = [.ref a, .int k] ∧ SqL K H a (ns.map V.int) ∧ k < 1000 ∧ ∀ p H', Same H H' → H p = none → Strm H' p → Q (.ref p) H'
def spDraw : Sp := fun vs H Q _ => ∃ (l : Addr) (m : Int), vs = [.ref l, .int m] ∧ Strm H l ∧ 0 < m ∧ Sz 8000 m ∧ ∀ (d : Int) H', 0 ≤ d → d < m → But l H H' → Strm H' l → Q (.int d) H'
def spCommon : Sp := fun vs H Q _ => ∃ a b : Nat, vs = [.int (a : Int), .int (b : Int)] ∧ b < 2 ^ 4900 ∧ Q (.int ((Nat.gcd a b : Nat) : Int)) H
def spFrac : Sp := fun vs H Q _ => ∃ t b : Int, vs = [.int t, .int b] ∧ b ≠ 0 ∧ Sz 4900 b ∧ ∀ p H', Same H H' → H p = none → Pair H' p (nrmT t b) (nrmB t b) → Q (.ref p) H'
def spPair (fT : Int → Int → Int → Int → Int) : Sp := fun vs H Q _ => ∃ p q t b t2 b2, vs = [.ref p, .ref q] ∧ Pair H p t b ∧ Pair H q t2 b2 ∧ b * b2 ≠ 0 ∧ Sz 400 t ∧ Sz 400 b ∧ Sz 400 t2 ∧ Sz 400 b2 ∧
  ∀ r H', Same H H' → H r = none → Pair H' r (nrmT (fT t b t2 b2) (b * b2)) (nrmB (fT t b t2 b2) (b * b2)) → Q (.ref r) H'
def spIs (C : Addr) : Sp := fun vs H Q _ => ∃ p q t b, vs = [.ref p, .ref q] ∧ RatAt C H p t b ∧ Pair H q t b ∧ Q (.bl true) H
section
variable {P : Program} {w : World} {K : PySem.W.Frag} {mg : Str → Option Value} {base : Heap} {C E B f g h : Addr} {fd gd hd : FuncData}
theorem scLInt : FnScope ["thing"] ["thing"] (defScope sLInt) := ⟨rfl, rfl, rfl, by decide +kernel, rfl, by decide +kernel, by decide +kernel⟩
theorem ok_lint (F : FnP K "_law_is_integer" "_law_is_integer" sLInt [] f fd) (T : Txt K mg C E B) : FnOk P w K mg base CX0 1 f fd ["thing"] (spIsInt K) := by
  refine F.ok scLInt (fun vs H Q X z => ?_) (fun cdv A outer s H vs Q X hr z => ?_)
  · obtain ⟨x, r, rfl, _⟩ := z
    rfl
  · obtain ⟨x, r, rfl, ⟨t, b1, b2, ty, k1, k2, rfl⟩, q⟩ := z
    refine ⟨_, PSs.nox (pss_one (ps_ret (pe_and
      (pe_callB call_isi (by rfl) T.isinst (by decide +kernel) (pa_cons (pv 0) (pa_cons (pe_bltn (v := .ty "int") (by rfl) T.int (by decide +kernel) rfl) pa_nil)))
      (pe_one (pe_not (pe_callB call_isi (by rfl) T.isinst (by decide +kernel) (pa_cons (pv 0) (pa_cons (pe_bltn (v := .ty "bool") (by rfl) T.bool (by decide +kernel) rfl) pa_nil)))))))), ?_⟩
    refine ⟨_, rfl, x, .ty "int", t, _, b1, rfl, .ty _, ty, k1, b1, rfl, ?_⟩
    cases b1 with
    | false => exact iteF q
    | true => exact iteT ⟨_, rfl, x, .ty "bool", t, _, b2, rfl, .ty _, ty, k2, b2, rfl, q⟩
theorem scStream : FnScope ["script", "k", "cell"] ["script", "k"] (defScope sStream) := ⟨rfl, rfl, rfl, by decide +kernel, rfl, by decide +kernel, by decide +kernel⟩
theorem ok_stream (F : FnP K "_law_stream" "_law_stream" sStream [] f fd) (T : Txt K mg C E B) : FnOk P w K mg base CX0 1 f fd ["script", "k"] (spStream K) := by
  refine F.ok scStream (fun vs H Q X z => ?_) (fun cdv A outer s H vs Q X hr z => ?_)
  · obtain ⟨a, ns, k, rfl, _⟩ := z
    rfl
  · obtain ⟨a, ns, k, rfl, hS, hk, q⟩ := z
    refine ⟨_, PSs.nox (pss_cons (ps_set (i := 2) scStream.nd rfl (Or.inl rfl) pe_int)
      (pss_cons (ps_if (pt_cmpR op_lt (pv 1) (pe_callB call_len_seq (by rfl) T.len PySem.boot_len (pa_cons (pv 0) pa_nil)) (nomark _))
        (pss_one (ps_set (i := 2) scStream.nd rfl (Or.inl rfl) (pe_callB call_abs (by rfl) T.abs (by decide +kernel) (pa_cons (pe_ix ix_list (pv 0) (pv 1) (fun _ _ => rfl)) pa_nil)))) pss_nil)
      (pss_one (ps_ret (pe_lst (pa_cons (pv 2) (pa_cons (pe_callTy call_int1 (by rfl) T.int (by decide +kernel) (pa_cons (pe_cmpR op_ge (pv 2) (pe_op op_pow pe_int pe_int) (nomark _)) pa_nil)) (pa_cons (pe_op op_mul pe_int (pv 1)) pa_nil)))))))), ?_⟩
    -- what comes behind, whatever the cell
    have tail : ∀ c : Int, ∃ v, ([some (V.ref a), some (V.int (k : Int)), some (V.int c)] : St)[2]? = some (some v) ∧ ∃ y, ([some (V.ref a), some (V.int (k : Int)), some (V.int c)] : St)[2]? = some (some y) ∧
        ∃ i j, V.int 10 = V.int i ∧ V.int 18 = V.int j ∧ CPow i j ∧ ∃ i' j', y = V.int i' ∧ V.int (i ^ j.toNat) = V.int j' ∧
          ((∃ i, [V.bl (decide (j' ≤ i'))] = [V.int i] ∧ False) ∨ ∃ kk, [V.bl (decide (j' ≤ i'))] = [V.bl kk] ∧ ∃ z, ([some (V.ref a), some (V.int (k : Int)), some (V.int c)] : St)[1]? = some (some z) ∧ ∃ i j, V.int 1000 = V.int i ∧ z = V.int j ∧ CMul i j ∧
            ([v, V.int (if kk then 1 else 0), V.int (i * j)] : List V).length ≤ sizeLine ∧ ∀ p, H p = none → Q (.ref p) (upd H p (.lst [v, V.int (if kk then 1 else 0), V.int (i * j)]))) := fun c =>
      ⟨_, rfl, _, rfl, _, _, rfl, rfl, ⟨by decide, by decide, by decide⟩, _, _, rfl, rfl, .inr ⟨_, rfl, _, rfl, _, _, rfl, rfl, .inl ⟨by decide, by decide⟩, (by show 3 ≤ sizeLine; decide), fun p hp => q p _ (fun b o e => by rw [upd_ne (ne_of_none e hp)]; exact e) hp ⟨_, _, _, upd_same⟩⟩⟩
    have hlen : (ns.map V.int).length = ns.length := List.length_map ..
    refine ⟨_, rfl, _, rfl, a, _, rfl, .inl hS, _, _, rfl, rfl, _, rfl, ?_⟩
    by_cases c : (k : Int) < ((ns.map V.int).length : Int)
    · refine itT (decide_eq_true c) ?_
      have hk2 : k < ns.length := by rw [hlen] at c; omega
      refine ⟨_, rfl, _, rfl, a, _, (k : Int), V.int ns[k], rfl, rfl, hS, atI_nat (by rw [List.getElem?_map, List.getElem?_eq_getElem hk2]; rfl), _, rfl, ?_⟩
      obtain ⟨v, h1, y, h2, i, j, h3, h4, h5, i', j', h6, h7, h8⟩ := tail (if ns[k] < 0 then -ns[k] else ns[k])
      refine ⟨v, h1, y, h2, i, j, h3, h4, h5, i', j', h6, h7, ?_⟩
      rcases h8 with ⟨_, _, z⟩ | z
      · exact z.elim
      · exact .inr z
    · refine itF (decide_eq_false c) ?_
      obtain ⟨v, h1, y, h2, i, j, h3, h4, h5, i', j', h6, h7, h8⟩ := tail 0
      refine ⟨v, h1, y, h2, i, j, h3, h4, h5, i', j', h6, h7, ?_⟩
      rcases h8 with ⟨_, _, z⟩ | z
      · exact z.elim
      · exact .inr z
end
end K3

set_option Elab.async false
set_option linter.all false
set_option maxRecDepth 100000
set_option maxHeartbeats 4000000
namespace K3
open PySem L2 Rt
section
variable {P : Program} {w : World} {K : PySem.W.Frag} {mg : Str → Option Value} {base : Heap} {C E B f g h : Addr} {fd gd hd : FuncData}
theorem mod_in {x m : Int} (h : 0 < m) : 0 ≤ x % m ∧ x % m < m := ⟨Int.emod_nonneg _ (by omega), Int.emod_lt_of_pos _ h⟩
theorem scDraw : FnScope ["stream", "many", "digit", "mixed"] ["stream", "many"] (defScope sDraw) := ⟨rfl, rfl, rfl, by decide +kernel, rfl, by decide +kernel, by decide +kernel⟩
theorem ok_draw (F : FnP K "_law_draw" "_law_draw" sDraw [] f fd) (T : Txt K mg C E B) : FnOk P w K mg base CX0 1 f fd ["stream", "many"] spDraw := by
  refine F.ok scDraw (fun vs H Q X z => ?_) (fun cdv A outer s H vs Q X hr z => ?_)
  · obtain ⟨l, m, rfl, _⟩ := z
    rfl
  · obtain ⟨l, m, rfl, ⟨c, e, n, hl⟩, hm, hs, q⟩ := z
    refine ⟨_, PSs.nox (pss_cons (ps_asg (pe_op op_add (pe_ix ix_list (pv 0) pe_int (fun _ _ => rfl)) pe_int) (pg_sub (pv 0) pe_int set_list))
      (pss_cons (ps_if (PW.pt (pw_and (pt_cmpR op_eq (pe_ix ix_list (pv 0) pe_int (fun _ _ => rfl)) pe_int (nomark _)) (pw_and1 (pt_cmpR op_gt (pe_ix ix_list (pv 0) pe_int (fun _ _ => rfl)) pe_int (nomark _)))))
        (pss_cons (ps_set (i := 2) scDraw.nd rfl (Or.inl rfl) (pe_op op_mod (pe_callTy call_int1 (by rfl) T.int (by decide +kernel) (pa_cons (pe_ix ix_list (pv 0) pe_int (fun _ _ => rfl)) pa_nil)) (pv 1)))
        (pss_cons (ps_asg (pe_op op_fdivW (pe_callTy call_int1 (by rfl) T.int (by decide +kernel) (pa_cons (pe_ix ix_list (pv 0) pe_int (fun _ _ => rfl)) pa_nil)) (pv 1)) (pg_sub (pv 0) pe_int set_list))
        (pss_one (ps_ret (pv 2))))) pss_nil)
      (pss_cons (ps_set (i := 3) scDraw.nd rfl (Or.inl rfl) (pe_op op_mod (pe_callTy call_int1 (by rfl) T.int (by decide +kernel) (pa_cons (pe_op op_mul (pe_op op_add (pe_op op_add (pe_ix ix_list (pv 0) pe_int (fun _ _ => rfl)) (pe_op op_mul pe_int (pe_ix ix_list (pv 0) pe_int (fun _ _ => rfl)))) pe_int) pe_int) pa_nil)) pe_int))
      (pss_cons (ps_set (i := 3) scDraw.nd rfl (Or.inl rfl) (pe_op op_mod (pe_callTy call_int1 (by rfl) T.int (by decide +kernel) (pa_cons (pe_op op_mul (pv 3) (pe_op op_add (pe_op op_fdiv (pv 3) pe_int) pe_int)) pa_nil)) pe_int))
      (pss_cons (ps_set (i := 3) scDraw.nd rfl (Or.inl rfl) (pe_op op_mod (pe_callTy call_int1 (by rfl) T.int (by decide +kernel) (pa_cons (pe_op op_mul (pv 3) (pe_op op_add (pe_op op_fdiv (pv 3) pe_int) pe_int)) pa_nil)) pe_int))
      (pss_one (ps_ret (pe_op op_mod (pe_callTy call_int1 (by rfl) T.int (by decide +kernel) (pa_cons (pe_op op_fdiv (pv 3) pe_int) pa_nil)) (pv 1))))))))), ?_⟩
    -- stream[2] = stream[2] + 1
    refine ⟨_, rfl, l, _, _, V.int n, rfl, rfl, SqL.of hl, at_of (j := 2) rfl rfl, _, _, rfl, rfl, _, rfl, l, _, _, 2, rfl, rfl, hl, rfl, ?_⟩
    have h1 : (upd H l (.lst [V.int c, V.int e, V.int (n + 1)])) l = some (.lst [V.int c, V.int e, V.int (n + 1)]) := upd_same
    -- the test
    refine ⟨_, rfl, l, _, _, V.int e, rfl, rfl, SqL.of h1, at_of (j := 1) rfl rfl, rfl, _, rfl, ?_⟩
    rcases Decidable.em (V.int e = V.int 1) with c1 | c1
    · refine itT (decide_eq_true c1) ?_
      refine ⟨_, rfl, l, _, _, V.int c, rfl, rfl, SqL.of h1, at_of (j := 0) rfl rfl, _, _, rfl, rfl, _, rfl, ?_⟩
      rcases Decidable.em ((0 : Int) < c) with c2 | c2
      · refine itT (decide_eq_true c2) ?_
        have hs' := PySem.Flt.log2_lt_of (by decide) hs
        refine ⟨_, rfl, l, _, _, V.int c, rfl, rfl, SqL.of h1, at_of (j := 0) rfl rfl, .inl ⟨_, rfl, _, rfl, _, _, rfl, rfl, hm, ?_⟩⟩
        refine ⟨_, rfl, l, _, _, V.int c, rfl, rfl, SqL.of h1, at_of (j := 0) rfl rfl, .inl ⟨_, rfl, _, rfl, _, _, rfl, rfl, ⟨hm, by omega⟩, _, rfl, l, _, _, 0, rfl, rfl, h1, rfl, ?_⟩⟩
        refine ⟨_, rfl, ?_⟩
        exact q _ _ (mod_in hm).1 (mod_in hm).2 (fun b o ne e => by rw [upd_ne ne, upd_ne ne]; exact e) ⟨_, _, _, upd_same⟩
      · refine itF (decide_eq_false c2) ?_
        -- the mixed one
        refine ⟨_, rfl, l, _, _, V.int c, rfl, rfl, SqL.of h1, at_of (j := 0) rfl rfl, _, rfl, l, _, _, V.int (n + 1), rfl, rfl, SqL.of h1, at_of (j := 2) rfl rfl, _, _, rfl, rfl, .inl ⟨by decide, by decide⟩, _, _, rfl, rfl, _, _, rfl, rfl, _, _, rfl, rfl, .inr ⟨by decide, by decide⟩, .inl ⟨_, rfl, _, _, rfl, rfl, (by show (0 : Int) < 2147483647; decide), ?_⟩⟩
        obtain ⟨a0, a1⟩ := mod_in (x := (c + 7919 * (n + 1) + 1) * 48271) (m := 2147483647) (by decide)
        refine ⟨_, rfl, _, rfl, _, _, rfl, rfl, ⟨by decide, by decide⟩, _, _, rfl, rfl, _, _, rfl, rfl, .inl ⟨by omega, by omega⟩, .inl ⟨_, rfl, _, _, rfl, rfl, (by show (0 : Int) < 2147483647; decide), ?_⟩⟩
        refine ⟨_, rfl, _, rfl, _, _, rfl, rfl, ⟨by decide, by decide⟩, _, _, rfl, rfl, _, _, rfl, rfl, .inl ⟨?_, ?_⟩, .inl ⟨_, rfl, _, _, rfl, rfl, (by show (0 : Int) < 2147483399; decide), ?_⟩⟩
        · exact Int.lt_of_lt_of_le (by decide) (mod_in (by decide)).1
        · exact Int.lt_trans (mod_in (by decide)).2 (by decide)
        refine ⟨_, rfl, _, _, rfl, rfl, ⟨by decide, by decide⟩, .inl ⟨_, rfl, _, rfl, _, _, rfl, rfl, hm, ?_⟩⟩
        exact q _ _ (mod_in hm).1 (mod_in hm).2 (fun b o ne e => by rw [upd_ne ne]; exact e) ⟨_, _, _, upd_same⟩
    · refine itF (decide_eq_false c1) (iteF ?_)
      -- the mixed one
      refine ⟨_, rfl, l, _, _, V.int c, rfl, rfl, SqL.of h1, at_of (j := 0) rfl rfl, _, rfl, l, _, _, V.int (n + 1), rfl, rfl, SqL.of h1, at_of (j := 2) rfl rfl, _, _, rfl, rfl, .inl ⟨by decide, by decide⟩, _, _, rfl, rfl, _, _, rfl, rfl, _, _, rfl, rfl, .inr ⟨by decide, by decide⟩, .inl ⟨_, rfl, _, _, rfl, rfl, (by show (0 : Int) < 2147483647; decide), ?_⟩⟩
      obtain ⟨a0, a1⟩ := mod_in (x := (c + 7919 * (n + 1) + 1) * 48271) (m := 2147483647) (by decide)
      refine ⟨_, rfl, _, rfl, _, _, rfl, rfl, ⟨by decide, by decide⟩, _, _, rfl, rfl, _, _, rfl, rfl, .inl ⟨by omega, by omega⟩, .inl ⟨_, rfl, _, _, rfl, rfl, (by show (0 : Int) < 2147483647; decide), ?_⟩⟩
      refine ⟨_, rfl, _, rfl, _, _, rfl, rfl, ⟨by decide, by decide⟩, _, _, rfl, rfl, _, _, rfl, rfl, .inl ⟨?_, ?_⟩, .inl ⟨_, rfl, _, _, rfl, rfl, (by show (0 : Int) < 2147483399; decide), ?_⟩⟩
      · exact Int.lt_of_lt_of_le (by decide) (mod_in (by decide)).1
      · exact Int.lt_trans (mod_in (by decide)).2 (by decide)
      refine ⟨_, rfl, _, _, rfl, rfl, ⟨by decide, by decide⟩, .inl ⟨_, rfl, _, rfl, _, _, rfl, rfl, hm, ?_⟩⟩
      exact q _ _ (mod_in hm).1 (mod_in hm).2 (fun b o ne e => by rw [upd_ne ne]; exact e) ⟨_, _, _, upd_same⟩
end
end K3

set_option Elab.async false
set_option linter.all false
set_option maxRecDepth 100000
set_option maxHeartbeats 4000000
namespace K3
open PySem L2 Rt
theorem abs_nat (i : Int) : (if i < 0 then -i else i) = ((i.natAbs : Nat) : Int) := by
  split <;> omega
section
variable {P : Program} {w : World} {K : PySem.W.Frag} {mg : Str → Option Value} {base : Heap} {C E B f g h : Addr} {fd gd hd : FuncData}
theorem scCommon : FnScope ["one", "rest", "k", "after"] ["one", "rest"] (defScope sCommon) := ⟨rfl, rfl, rfl, by decide +kernel, rfl, by decide +kernel, by decide +kernel⟩
theorem ok_common (F : FnP K "_law_common" "_law_common" sCommon [] f fd) (T : Txt K mg C E B) : FnOk P w K mg base CX0 1 f fd ["one", "rest"] spCommon := by
  refine F.ok scCommon (fun vs H Q X z => ?_) (fun cdv A outer s H vs Q X hr z => ?_)
  · obtain ⟨a, b, rfl, _⟩ := z
    rfl
  · obtain ⟨a, b, rfl, hb, q⟩ := z
    refine ⟨_, PSs.nox (pss_cons (ps_for PassesOwn.never rfl (pi_range1 rfl T.range (pa_cons (pe_op op_pow pe_int pe_int) pa_nil)) (pg_name (i := 2) scCommon.nd rfl (Or.inl rfl))
      (pss_cons (ps_if (pt_cmpR op_eq (pv 1) pe_int (nomark _)) (pss_one (ps_ret (pv 0))) pss_nil)
      (pss_cons (ps_set (i := 3) scCommon.nd rfl (Or.inl rfl) (pe_op op_mod (pe_callTy call_int1 (by rfl) T.int (by decide +kernel) (pa_cons (pv 0) pa_nil)) (pv 1)))
      (pss_cons (ps_set (i := 0) scCommon.nd rfl (Or.inl rfl) (pv 1))
      (pss_one (ps_set (i := 1) scCommon.nd rfl (Or.inl rfl) (pv 3)))))))
      (pss_one (ps_ret (pv 0)))), ?_⟩
    refine ⟨_, _, rfl, rfl, ⟨by decide, by decide, by decide⟩, _, rfl, by decide, by decide, ?_⟩
    have e4 : ((10 : Int) ^ (4 : Int).toNat).toNat = 10000 := by decide
    rw [e4]
    refine for_range (lo := 0) (n := 10000) (fun i σ H1 => H1 = H ∧ ∃ (x y : Nat) (u v : Option V), σ = [some (.int (x : Int)), some (.int (y : Int)), u, v] ∧ Eu (Nat.gcd a b) 4900 i x y)
      ⟨rfl, a, b, none, none, rfl, Eu.start hb⟩ ?_ ?_
    · rintro i σ H1 hi ⟨rfl, x, y, u, v, rfl, eu⟩
      refine ⟨_, rfl, rfl, _, rfl, ?_⟩
      rcases Decidable.em (V.int (y : Int) = V.int 0) with c | c
      · refine itT (decide_eq_true c) ⟨_, rfl, ?_⟩
        have hy : y = 0 := by
          have := V.int.inj c
          omega
        rw [eu.done hy]
        exact q
      · refine itF (decide_eq_false c) ?_
        have hy : y ≠ 0 := fun z => c (by rw [z]; rfl)
        refine ⟨_, rfl, .inl ⟨_, rfl, _, rfl, _, _, rfl, rfl, (by show (0 : Int) < (y : Int); omega), ?_⟩⟩
        refine ⟨_, rfl, _, rfl, rfl, y, x % y, some (.int (0 + (i : Int))), some (.int ((x : Int) % (y : Int))), ?_, eu.turn hy⟩
        rw [Int.natCast_emod]
        rfl
    · rintro σ H1 ⟨rfl, x, y, u, v, rfl, eu⟩
      refine ⟨_, rfl, ?_⟩
      rw [eu.done (eu.last (by decide))]
      exact q
theorem scFrac : FnScope ["top", "bottom", "part"] ["top", "bottom"] (defScope sFrac) := ⟨rfl, rfl, rfl, by decide +kernel, rfl, by decide +kernel, by decide +kernel⟩
theorem ok_frac (F : FnP K "_law_frac" "_law_frac" sFrac [] f fd) (T : Txt K mg C E B) (GC : GloOk P w K mg base CX0 1 "_law_common" ["one", "rest"] spCommon) : FnOk P w K mg base CX0 2 f fd ["top", "bottom"] spFrac := by
  obtain ⟨fC, fdC, GC, mC, kC, bC⟩ := GC
  refine F.ok scFrac (fun vs H Q X z => ?_) (fun cdv A outer s H vs Q X hr z => ?_)
  · obtain ⟨t, b, rfl, _⟩ := z
    rfl
  · obtain ⟨t, b, rfl, hb, hs, q⟩ := z
    refine ⟨_, PSs.nox (pss_cons (ps_set (i := 2) scFrac.nd rfl (Or.inl rfl) (pe_call GC hr rfl mC kC bC .nil pass0 (pa_cons (pe_callB call_abs (by rfl) T.abs (by decide +kernel) (pa_cons (pv 0) pa_nil)) (pa_cons (pe_callB call_abs (by rfl) T.abs (by decide +kernel) (pa_cons (pv 1) pa_nil)) pa_nil))))
      (pss_cons (ps_if (pt_cmpR op_lt (pv 1) pe_int (nomark _)) (pss_one (ps_set (i := 2) scFrac.nd rfl (Or.inl rfl) (pe_un un_neg (pv 2)))) pss_nil)
      (pss_one (ps_ret (pe_tup (pa_cons (pe_op op_fdivX (pv 0) (pv 2)) (pa_cons (pe_op op_fdivX (pv 1) (pv 2)) pa_nil))))))), ?_⟩
    have hs8 : Sz 8000 b := hs.mono (by decide)
    obtain ⟨d1, d2⟩ := gcd_div (t := t) hb hs8
    refine ⟨_, rfl, t, rfl, _, rfl, b, rfl, t.natAbs, b.natAbs, by rw [abs_nat, abs_nat]; rfl, hs, ?_⟩
    refine ⟨_, rfl, _, _, rfl, rfl, _, rfl, ?_⟩
    rcases Decidable.em (b < 0) with c | c
    · refine itT (decide_eq_true c) ?_
      have e1 : nrmT t b = t.fdiv (-((Nat.gcd t.natAbs b.natAbs : Nat) : Int)) := by unfold nrmT shr; rw [if_neg (by omega)]
      have e2 : nrmB t b = b.fdiv (-((Nat.gcd t.natAbs b.natAbs : Nat) : Int)) := by unfold nrmB shr; rw [if_neg (by omega)]
      refine ⟨_, rfl, _, rfl, _, rfl, _, rfl, _, _, rfl, rfl, d2, _, rfl, _, rfl, _, _, rfl, rfl, ⟨d2.1, d2.2⟩, (by show 2 ≤ sizeLine; decide), fun p hp => ?_⟩
      refine q p _ (fun x o e => by rw [upd_ne (ne_of_none e hp)]; exact e) hp ?_
      rw [e1, e2]
      exact upd_same
    · refine itF (decide_eq_false c) ?_
      have e1 : nrmT t b = t.fdiv (((Nat.gcd t.natAbs b.natAbs : Nat) : Int)) := by unfold nrmT shr; rw [if_pos (by omega)]
      have e2 : nrmB t b = b.fdiv (((Nat.gcd t.natAbs b.natAbs : Nat) : Int)) := by unfold nrmB shr; rw [if_pos (by omega)]
      refine ⟨_, rfl, _, rfl, _, _, rfl, rfl, d1, _, rfl, _, rfl, _, _, rfl, rfl, ⟨d1.1, d1.2⟩, (by show 2 ≤ sizeLine; decide), fun p hp => ?_⟩
      refine q p _ (fun x o e => by rw [upd_ne (ne_of_none e hp)]; exact e) hp ?_
      rw [e1, e2]
      exact upd_same
theorem scIs : FnScope ["told", "due"] ["told", "due"] (defScope sIs) := ⟨rfl, rfl, rfl, by decide +kernel, rfl, by decide +kernel, by decide +kernel⟩
theorem ok_is (F : FnP K "_law_is" "_law_is" sIs [] f fd) (T : Txt K mg C E B) (GI : GloOk P w K mg base CX0 1 "_law_is_integer" ["thing"] (spIsInt K)) : FnOk P w K mg base CX0 2 f fd ["told", "due"] (spIs C) := by
  obtain ⟨fI, fdI, GI, mI, kI, bI⟩ := GI
  refine F.ok scIs (fun vs H Q X z => ?_) (fun cdv A outer s H vs Q X hr z => ?_)
  · obtain ⟨p, q, t, b, rfl, _⟩ := z
    rfl
  · obtain ⟨p, q, t, b, rfl, hp, hq, k⟩ := z
    refine ⟨_, PSs.nox (pss_cons (ps_if (PW.pt (pw_or (pt_not (pt_val (pe_callB call_isi (by rfl) T.isinst (by decide +kernel) (pa_cons (pv 0) (pa_cons (pe_glob (v := .ref C) (by rfl) T.mgC rfl) pa_nil)))))
        (pw_or (pt_not (pt_val (pe_call GI hr rfl mI kI bI .nil pass0 (pa_cons (pe_fld (pv 0) rfl) pa_nil)))) (pw_or1 (pt_not (pt_val (pe_call GI hr rfl mI kI bI .nil pass0 (pa_cons (pe_fld (pv 0) rfl) pa_nil))))))))
        (pss_one (ps_ret pe_bl)) pss_nil)
      (pss_one (ps_ret (pe_and (pe_cmpR op_eq (pe_fld (pv 0) rfl) (pe_ix ix_tup (pv 1) pe_int (fun _ _ => rfl)) (nomark _)) (pe_one (pe_cmpR op_eq (pe_fld (pv 0) rfl) (pe_ix ix_tup (pv 1) pe_int (fun _ _ => rfl)) (nomark _))))))), ?_⟩
    have ty := ty_rat T hp
    obtain ⟨dx, e⟩ := hp
    refine ⟨_, rfl, _, .ref C, _, _, true, rfl, .own C, ty, kit_self, true, rfl, iteF ?_⟩
    refine ⟨_, rfl, p, C, dx, _, _, rfl, e, T.cl, T.nT, flds_top _ _, _, true, rfl, .int t, true, rfl, iteF ?_⟩
    refine ⟨_, rfl, p, C, dx, _, _, rfl, e, T.cl, T.nB, flds_bot _ _, _, true, rfl, .int b, true, rfl, iteF ?_⟩
    refine ⟨_, rfl, p, C, dx, _, _, rfl, e, T.cl, T.nT, flds_top _ _, _, rfl, q, _, _, V.int t, rfl, rfl, SqT.of hq, at_of (j := 0) rfl rfl, rfl, _, rfl, itT (decide_eq_true rfl) ?_⟩
    refine ⟨_, rfl, p, C, dx, _, _, rfl, e, T.cl, T.nB, flds_bot _ _, _, rfl, q, _, _, V.int b, rfl, rfl, SqT.of hq, at_of (j := 1) rfl rfl, rfl, ?_⟩
    rw [decide_eq_true (rfl : V.int b = V.int b)]
    exact k
end
end K3

set_option Elab.async false
set_option linter.all false
set_option maxRecDepth 100000
set_option maxHeartbeats 4000000
namespace K3
open PySem L2 Rt
abbrev sCompares : Stmt := top 30
structure Ops (C : Addr) (H : Hp) (p : Addr) (y : V) (t b t2 b2 : Int) : Prop where
  rp : RatAt C H p t b
  l1 : Low t b
  nm : NumV C H y t2 b2
  l2 : Low t2 b2
  z1 : Sz 300 t
  z2 : Sz 300 b
  z3 : Sz 300 t2
  z4 : Sz 300 b2
theorem Ops.same {C : Addr} {H H' : Hp} {p : Addr} {y : V} {t b t2 b2 : Int} (o : Ops C H p y t b t2 b2) (s : Same H H') : Ops C H' p y t b t2 b2 := ⟨o.rp.same s, o.l1, o.nm.same s, o.l2, o.z1, o.z2, o.z3, o.z4⟩
theorem up4 {z : Int} (h : Sz 300 z) : Sz 4000 z := h.mono (by decide)
def spCompares (C : Addr) : Sp := fun vs H Q _ => ∃ a y p q t b t2 b2, vs = [.ref a, y, .ref p, .ref q] ∧ Ops C H a y t b t2 b2 ∧ Pair H p t b ∧ Pair H q t2 b2 ∧ ∀ H', Same H H' → Q (.bl true) H'
/-- what a comparison of the Ratio with the number asks, whichever the number is -/
theorem rd_cmp {K : PySem.W.Frag} {mg : Str → Option Value} {C E B : Addr} (T : Txt K mg C E B) {H : Hp} {p : Addr} {y : V} {t b : Int} {sp : Sp} {E' : XK} {Q : VK} (hp : RatAt C H p t b) {t2 b2 : Int} (nm : NumV C H y t2 b2) (h : sp [.ref p, y] H Q E') : rCmp K C sp E' (.ref p) y H Q := by
  obtain ⟨dx, e⟩ := hp
  rcases nm with ⟨rfl, _⟩ | ⟨q, rfl, hq⟩
  · exact ⟨p, dx, _, .type "int", rfl, e, .base (.int t2), by show (_ || _) = true; rw [T.own.subI]; rfl, h⟩
  · exact ⟨p, dx, _, .ref C, rfl, e, ty_rat T hq, by show (_ || _) = true; rw [beq_self_eq_true]; rfl, h⟩
theorem rd_ne {K : PySem.W.Frag} {mg : Str → Option Value} {C E B : Addr} (T : Txt K mg C E B) {H : Hp} {p : Addr} {y : V} {t b : Int} {sp : Sp} {E' : XK} {Q : VK} (hp : RatAt C H p t b) {t2 b2 : Int} (nm : NumV C H y t2 b2) (h : sp [.ref p, y] H (fun z H' => ∃ r, z = .bl r ∧ Q (.bl (!r)) H') E') :
    ∃ a dx fs ty, V.ref p = .ref a ∧ H a = some (.ins C dx fs) ∧ TyX K H y ty ∧ PySem.W.notFirst K C ty = true ∧ sp [.ref p, y] H (fun z H' => ∃ r, z = .bl r ∧ Q (.bl (!r)) H') E' := by
  obtain ⟨dx, e⟩ := hp
  rcases nm with ⟨rfl, _⟩ | ⟨q, rfl, hq⟩
  · exact ⟨p, dx, _, .type "int", rfl, e, .base (.int t2), by show (_ || _) = true; rw [T.own.subI]; rfl, h⟩
  · exact ⟨p, dx, _, .ref C, rfl, e, ty_rat T hq, by show (_ || _) = true; rw [beq_self_eq_true]; rfl, h⟩
/-- te gives a thing that G tells of, from H on, and leaves what is tracked -/
def Gv (te : TE) (σ : St) (H : Hp) (G : V → Hp → Prop) : Prop := ∀ H1 Q, Same H H1 → (∀ v H2, Same H1 H2 → G v H2 → Q v H2) → te σ H1 Q
/-- te gives v -/
def Gi (te : TE) (σ : St) (H : Hp) (v : V) : Prop := ∀ H1 Q, Same H H1 → (∀ H2, Same H1 H2 → Q v H2) → te σ H1 Q
def GvA (ta : TA) (σ : St) (H : Hp) (vs : List V) : Prop := ∀ H1 Q, Same H H1 → (∀ H2, Same H1 H2 → Q vs H2) → ta σ H1 Q
theorem new {H : Hp} {p : Addr} {o : HO} (n : H p = none) : Same H (upd H p o) := fun b u e => by
  rw [upd_ne (ne_of_none e n)]
  exact e
theorem gva_nil {σ : St} {H : Hp} : GvA tNil σ H [] := fun H1 Q s q => q H1 (Same.refl _)
theorem gva_cons {te : TE} {ta : TA} {σ : St} {H : Hp} {v : V} {vs : List V} (h : Gi te σ H v) (r : GvA ta σ H vs) : GvA (tCons te ta) σ H (v :: vs) := fun H1 Q s q => h H1 _ s fun H2 s2 => r H2 _ (s.trans s2) fun H3 s3 => q H3 (s2.trans s3)
theorem gv_lst {ta : TA} {σ : St} {H : Hp} {vs : List V} (h : GvA ta σ H vs) (n : vs.length ≤ 1000) : Gv (tLst ta) σ H (fun x H => ∃ l, x = .ref l ∧ H l = some (.lst vs)) := fun H1 Q s q => h H1 _ s fun H2 s2 => ⟨Nat.le_trans n (show 1000 ≤ sizeLine by decide), fun p hp => q _ _ (s2.trans (new hp)) ⟨p, rfl, upd_same⟩⟩
theorem gname_step {i : Nat} {x : V} {σ : St} {H : Hp} {Q : St → Hp → Prop} (h : Q (σ.set i (some x)) H) : gName i x σ H Q := h
theorem seq_asg {te : TE} {i : Nat} {rest : TS} {D : Ends} {σ σ' : St} {H : Hp} {G : V → Hp → Prop} (h : Gv te σ' H G) (e : σ = σ') (k : ∀ v H2, Same H H2 → G v H2 → rest D (σ'.set i (some v)) H2) : tSeq (tAsg te (gName i)) rest D σ H := by
  subst e
  exact h H _ (Same.refl _) fun v H2 s g => k v H2 s g
section
variable {K : PySem.W.Frag} {mg : Str → Option Value} {C E B : Addr} {σ : St} {H : Hp} {p : Addr} {y : V} {t b t2 b2 : Int} {f : Int → Bool} {r : Bool}
theorem gi_cmp (T : Txt K mg C E B) (o : Ops C H p y t b t2 b2) (h0 : σ[0]? = some (some (.ref p))) (h1 : σ[1]? = some (some y)) (e : f (t * b2 - t2 * b) = r) : Gi (tOp (rCmp K C (spCmp C f) E0) (tVar 0) (tVar 1)) σ H (.bl r) := by
  subst e
  intro H1 Q s1 q
  have o' := o.same s1
  exact ⟨_, h0, _, h1, rd_cmp T o'.rp o'.nm ⟨p, y, t, b, t2, b2, rfl, o'.rp, o'.nm, up4 o.z1, up4 o.z2, up4 o.z3, up4 o.z4, fun H2 s2 => q H2 s2⟩⟩
theorem eq_val (o : Ops C H p y t b t2 b2) : (decide (t = t2) && decide (b = b2)) = decide (t * b2 = t2 * b) := by
  rw [← Bool.decide_and]
  exact decide_eq_decide.mpr (low_eq o.l1 o.l2).symm
theorem gi_eq (T : Txt K mg C E B) (o : Ops C H p y t b t2 b2) (h0 : σ[0]? = some (some (.ref p))) (h1 : σ[1]? = some (some y)) : Gi (tOp (rCmp K C (spEq K C) E0) (tVar 0) (tVar 1)) σ H (.bl (decide (t * b2 = t2 * b))) := by
  rw [← eq_val o]
  intro H1 Q s1 q
  have o' := o.same s1
  exact ⟨_, h0, _, h1, rd_cmp T o'.rp o'.nm ⟨p, y, t, b, rfl, o'.rp, .inl ⟨t2, b2, o'.nm, q H1 (Same.refl _)⟩⟩⟩
theorem gi_ne (T : Txt K mg C E B) (o : Ops C H p y t b t2 b2) (h0 : σ[0]? = some (some (.ref p))) (h1 : σ[1]? = some (some y)) :
    Gi (tOp (fun x y H Q => ∃ a dx fs t, x = .ref a ∧ H a = some (.ins C dx fs) ∧ TyX K H y t ∧ PySem.W.notFirst K C t = true ∧ spEq K C [x, y] H (fun z H' => ∃ r, z = .bl r ∧ Q (.bl (!r)) H') E0) (tVar 0) (tVar 1)) σ H (.bl (!decide (t * b2 = t2 * b))) := by
  rw [← eq_val o]
  intro H1 Q s1 q
  have o' := o.same s1
  exact ⟨_, h0, _, h1, rd_ne T o'.rp o'.nm ⟨p, y, t, b, rfl, o'.rp, .inl ⟨t2, b2, o'.nm, _, rfl, q H1 (Same.refl _)⟩⟩⟩
theorem gi_lt' (T : Txt K mg C E B) (o : Ops C H p y t b t2 b2) (h0 : σ[0]? = some (some (.ref p))) (h1 : σ[1]? = some (some y)) :
    Gi (tOp (fun x y H Q => rCmp K C (spCmp C fun d => decide (d < 0)) E0 x y H Q ∨ ∃ n a dx fs, x = .int n ∧ y = .ref a ∧ H a = some (.ins C dx fs) ∧ spCmp C (fun d => decide (0 < d)) [y, x] H Q E0) (tVar 1) (tVar 0)) σ H (.bl (decide (t2 * b < t * b2))) := by
  intro H1 Q s1 q
  have o' := o.same s1
  refine ⟨_, h1, _, h0, ?_⟩
  obtain ⟨dx, e1⟩ := o'.rp
  rcases o'.nm with ⟨rfl, hb⟩ | ⟨c, rfl, hc⟩
  · refine .inr ⟨t2, p, dx, _, rfl, rfl, e1, p, _, t, b, t2, b2, rfl, o'.rp, .inl ⟨rfl, hb⟩, up4 o.z1, up4 o.z2, up4 o.z3, up4 o.z4, fun H2 s2 => ?_⟩
    show Q (V.bl (decide (0 < t * b2 - t2 * b))) H2
    rw [show decide (0 < t * b2 - t2 * b) = decide (t2 * b < t * b2) from decide_eq_decide.mpr (by omega)]
    exact q H2 s2
  · refine .inl (rd_cmp T hc (.inr ⟨p, rfl, o'.rp⟩) ⟨c, _, t2, b2, t, b, rfl, hc, .inr ⟨p, rfl, o'.rp⟩, up4 o.z3, up4 o.z4, up4 o.z1, up4 o.z2, fun H2 s2 => ?_⟩)
    show Q (V.bl (decide (t2 * b - t * b2 < 0))) H2
    rw [show decide (t2 * b - t * b2 < 0) = decide (t2 * b < t * b2) from decide_eq_decide.mpr (by omega)]
    exact q H2 s2
theorem gi_eq' (T : Txt K mg C E B) (o : Ops C H p y t b t2 b2) (h0 : σ[0]? = some (some (.ref p))) (h1 : σ[1]? = some (some y)) :
    Gi (tOp (fun x y H Q => rCmp K C (spEq K C) E0 x y H Q ∨ ∃ n a dx fs, x = .int n ∧ y = .ref a ∧ H a = some (.ins C dx fs) ∧ spEq K C [y, x] H Q E0) (tVar 1) (tVar 0)) σ H (.bl (decide (t * b2 = t2 * b))) := by
  intro H1 Q s1 q
  have o' := o.same s1
  refine ⟨_, h1, _, h0, ?_⟩
  obtain ⟨dx, e1⟩ := o'.rp
  rcases o'.nm with ⟨rfl, hb⟩ | ⟨c, rfl, hc⟩
  · refine .inr ⟨t2, p, dx, _, rfl, rfl, e1, p, _, t, b, rfl, o'.rp, .inl ⟨t2, b2, .inl ⟨rfl, hb⟩, ?_⟩⟩
    rw [eq_val o]
    exact q H1 (Same.refl _)
  · refine .inl (rd_cmp T hc (.inr ⟨p, rfl, o'.rp⟩) ⟨c, _, t2, b2, rfl, hc, .inl ⟨t, b, .inr ⟨p, rfl, o'.rp⟩, ?_⟩⟩)
    rw [show (decide (t2 = t) && decide (b2 = b)) = decide (t * b2 = t2 * b) by rw [← eq_val o, show decide (t2 = t) = decide (t = t2) from decide_eq_decide.mpr eq_comm, show decide (b2 = b) = decide (b = b2) from decide_eq_decide.mpr eq_comm]]
    exact q H1 (Same.refl _)
/-! the law's own ints -/
theorem gi_int {i j : Nat} {x z : Int} {g : Int → Int → V} {v : V} (hi : σ[i]? = some (some (.int x))) (hj : σ[j]? = some (some (.int z))) (e : g x z = v) : Gi (tOp (rI0 g) (tVar i) (tVar j)) σ H v := by
  subst e
  exact fun H1 Q s1 q => ⟨_, hi, _, hj, _, _, rfl, rfl, q H1 (Same.refl _)⟩
theorem gi_ieq {i j : Nat} {x z : Int} (hi : σ[i]? = some (some (.int x))) (hj : σ[j]? = some (some (.int z))) : Gi (tOp rEq (tVar i) (tVar j)) σ H (.bl (decide (x = z))) := by
  rw [← dec_vi]
  exact fun H1 Q s1 q => ⟨_, hi, _, hj, rfl, q H1 (Same.refl _)⟩
theorem gi_ine {i j : Nat} {x z : Int} (hi : σ[i]? = some (some (.int x))) (hj : σ[j]? = some (some (.int z))) : Gi (tOp rNe (tVar i) (tVar j)) σ H (.bl (!decide (x = z))) := by
  rw [← dec_vi]
  exact fun H1 Q s1 q => ⟨_, hi, _, hj, rfl, q H1 (Same.refl _)⟩
end
section
variable {P : Program} {w : World} {K : PySem.W.Frag} {mg : Str → Option Value} {base : Heap} {C E B f g h : Addr} {fd gd hd : FuncData}
theorem scCompares : FnScope ["a", "b", "one", "other", "left", "right", "told", "due", "k"] ["a", "b", "one", "other"] (defScope sCompares) := ⟨rfl, rfl, rfl, by decide +kernel, rfl, by decide +kernel, by decide +kernel⟩
theorem ok_compares (F : FnP K "_law_compares" "_law_compares" sCompares [] f fd) (T : Txt K mg C E B) (hne : PySem.W.findIn K (.ref C) "__ne__" = some (some (.builtin "object.__ne__")))
    (G1 : MthOk P w K mg base C CX0 7 "__lt__" ["self", "other"] (spCmp C fun d => decide (d < 0))) (G2 : MthOk P w K mg base C CX0 7 "__le__" ["self", "other"] (spCmp C fun d => decide (d ≤ 0)))
    (G3 : MthOk P w K mg base C CX0 7 "__gt__" ["self", "other"] (spCmp C fun d => decide (0 < d))) (G4 : MthOk P w K mg base C CX0 7 "__ge__" ["self", "other"] (spCmp C fun d => decide (0 ≤ d)))
    (G5 : MthOk P w K mg base C CX0 2 "__eq__" ["self", "other"] (spEq K C)) : FnOk P w K mg base CX0 8 f fd ["a", "b", "one", "other"] (spCompares C) := by
  obtain ⟨f1, d1, G1, M1, b1⟩ := G1
  obtain ⟨f2, d2, G2, M2, b2'⟩ := G2
  obtain ⟨f3, d3, G3, M3, b3⟩ := G3
  obtain ⟨f4, d4, G4, M4, b4⟩ := G4
  obtain ⟨f5, d5, G5, M5, b5⟩ := G5
  refine F.ok scCompares (fun vs H Q X z => ?_) (fun cdv A outer s H vs Q X hr z => ?_)
  · obtain ⟨a, y, p, q, t, b, t2, b2, rfl, _⟩ := z
    rfl
  · obtain ⟨a, y, p, q, t, b, t2, b2, rfl, o, hp, hq, k⟩ := z
    have hr2 : Room 2 _ := hr.mono (by decide)
    have hr3 : Room 3 _ := hr.mono (by decide)
    refine ⟨_, PSs.nox (pss_cons (ps_set (i := 4) scCompares.nd rfl (Or.inl rfl) (pe_op op_mulW (pe_ix ix_tup (pv 2) pe_int (fun _ _ => rfl)) (pe_ix ix_tup (pv 3) pe_int (fun _ _ => rfl))))
      (pss_cons (ps_set (i := 5) scCompares.nd rfl (Or.inl rfl) (pe_op op_mulW (pe_ix ix_tup (pv 3) pe_int (fun _ _ => rfl)) (pe_ix ix_tup (pv 2) pe_int (fun _ _ => rfl))))
      (pss_cons (ps_set (i := 6) scCompares.nd rfl (Or.inr rfl) (pe_lst
        (pa_cons (pe_cmpR (op_cmp (op := .Lt) (fun _ _ => rfl) M1.at_ M1.fn G1 hr b1 pass0) (pv 0) (pv 1) (nomark _))
        (pa_cons (pe_cmpR (op_cmp (op := .LtE) (fun _ _ => rfl) M2.at_ M2.fn G2 hr b2' pass0) (pv 0) (pv 1) (nomark _))
        (pa_cons (pe_cmpR (op_cmp (op := .Gt) (fun _ _ => rfl) M3.at_ M3.fn G3 hr b3 pass0) (pv 0) (pv 1) (nomark _))
        (pa_cons (pe_cmpR (op_cmp (op := .GtE) (fun _ _ => rfl) M4.at_ M4.fn G4 hr b4 pass0) (pv 0) (pv 1) (nomark _))
        (pa_cons (pe_cmpR (op_cmp (op := .Eq) (fun _ _ => rfl) M5.at_ M5.fn G5 hr2 b5 pass0) (pv 0) (pv 1) (nomark _))
        (pa_cons (pe_cmpR (OpR.or (op_cmp (op := .Lt) (fun _ _ => rfl) M1.at_ M1.fn G1 hr b1 pass0) (op_ltI M3.at_ M3.fn T.own.subC G3 hr b3 pass0)) (pv 1) (pv 0) (nomark _))
        (pa_cons (pe_cmpR (OpR.or (op_cmp (op := .Eq) (fun _ _ => rfl) M5.at_ M5.fn G5 hr2 b5 pass0) (op_eqI M5.at_ M5.fn T.own.subC G5 hr2 b5 pass0)) (pv 1) (pv 0) (nomark _))
        (pa_cons (pe_cmpR (op_neOwn hne T.cm M5.at_ M5.fn G5 hr3 b5 pass0) (pv 0) (pv 1) (nomark _)) pa_nil))))))))))
      (pss_cons (ps_set (i := 7) scCompares.nd rfl (Or.inr rfl) (pe_lst
        (pa_cons (pe_cmpR op_lt (pv 4) (pv 5) (nomark _)) (pa_cons (pe_cmpR op_le (pv 4) (pv 5) (nomark _)) (pa_cons (pe_cmpR op_gt (pv 4) (pv 5) (nomark _)) (pa_cons (pe_cmpR op_ge (pv 4) (pv 5) (nomark _)) (pa_cons (pe_cmpR op_eq (pv 4) (pv 5) (nomark _))
        (pa_cons (pe_cmpR op_lt (pv 5) (pv 4) (nomark _)) (pa_cons (pe_cmpR op_eq (pv 4) (pv 5) (nomark _)) (pa_cons (pe_cmpR op_ne (pv 4) (pv 5) (nomark _)) pa_nil))))))))))
      (pss_one (ps_ret (pe_callB (cr_all rfl) (by rfl) T.all (by decide +kernel) (pa_cons
        (pe_lc (own := [("k", 8)]) (g := gName 8) (tt := tYes) (by rfl) scCompares.nd (pi_range1 rfl T.range (pa_cons pe_int pa_nil)) (blkOk_by (own := [("k", 8)]) (N := ["a", "b", "one", "other", "left", "right", "told", "due", "k"]) (sc := defScope sCompares) (by decide +kernel)) (fun _ _ _ _ _ => pg_name (i := 8) scCompares.nd rfl (Or.inl rfl)) (fun _ _ _ _ _ => pts_nil)
          (fun _ _ _ _ _ => pe_and (pe_callB (show CallR _ _ (rIsi K) from call_isi) (by rfl) T.isinst (by decide +kernel) (pa_cons (pe_ix (show IxR _ (rIxL K) from ix_list) (pv 6) (pv 8) (fun _ _ => rfl)) (pa_cons (pe_bltn (v := .ty "bool") (by rfl) T.bool (by decide +kernel) rfl) pa_nil)))
            (pe_one (pe_cmpR op_eq (pe_ix (show IxR _ (rIxL K) from ix_list) (pv 6) (pv 8) (fun _ _ => rfl)) (pe_ix (show IxR _ (rIxL K) from ix_list) (pv 7) (pv 8) (fun _ _ => rfl)) (nomark _))))) pa_nil)))))))), ?_⟩
    refine ⟨_, rfl, p, _, _, V.int t, rfl, rfl, SqT.of hp, at_of (j := 0) rfl rfl, _, rfl, q, _, _, V.int b2, rfl, rfl, SqT.of hq, at_of (j := 1) rfl rfl, _, _, rfl, rfl, mulOk (up4 o.z1) (up4 o.z4), ?_⟩
    refine ⟨_, rfl, q, _, _, V.int t2, rfl, rfl, SqT.of hq, at_of (j := 0) rfl rfl, _, rfl, p, _, _, V.int b, rfl, rfl, SqT.of hp, at_of (j := 1) rfl rfl, _, _, rfl, rfl, mulOk (up4 o.z3) (up4 o.z2), ?_⟩
    refine gname_step ?_
    have g1 : Gv _ [some (.ref a), some y, some (.ref p), some (.ref q), some (.int (t * b2)), some (.int (t2 * b)), none, none, none] H _ := gv_lst (gva_cons (gi_cmp (r := decide (t * b2 < t2 * b)) (f := fun d => decide (d < 0)) T o rfl rfl (decide_eq_decide.mpr (by omega)))
      (gva_cons (gi_cmp (r := decide (t * b2 ≤ t2 * b)) (f := fun d => decide (d ≤ 0)) T o rfl rfl (decide_eq_decide.mpr (by omega))) (gva_cons (gi_cmp (r := decide (t2 * b < t * b2)) (f := fun d => decide (0 < d)) T o rfl rfl (decide_eq_decide.mpr (by omega)))
      (gva_cons (gi_cmp (r := decide (t2 * b ≤ t * b2)) (f := fun d => decide (0 ≤ d)) T o rfl rfl (decide_eq_decide.mpr (by omega))) (gva_cons (gi_eq T o rfl rfl) (gva_cons (gi_lt' T o rfl rfl) (gva_cons (gi_eq' T o rfl rfl) (gva_cons (gi_ne T o rfl rfl) gva_nil)))))))) (by show 8 ≤ 1000; decide)
    refine seq_asg g1 rfl fun v H2 s2 hv => ?_
    obtain ⟨l, rfl, hl⟩ := hv
    have g2 : Gv _ [some (.ref a), some y, some (.ref p), some (.ref q), some (.int (t * b2)), some (.int (t2 * b)), some (.ref l), none, none] H2 _ := gv_lst (gva_cons (gi_int (g := fun i j => .bl (decide (i < j))) (i := 4) (j := 5) rfl rfl rfl) (gva_cons (gi_int (g := fun i j => .bl (decide (i ≤ j))) (i := 4) (j := 5) rfl rfl rfl) (gva_cons (gi_int (g := fun i j => .bl (decide (j < i))) (i := 4) (j := 5) rfl rfl rfl) (gva_cons (gi_int (g := fun i j => .bl (decide (j ≤ i))) (i := 4) (j := 5) rfl rfl rfl)
      (gva_cons (gi_ieq (i := 4) (j := 5) rfl rfl) (gva_cons (gi_int (g := fun i j => .bl (decide (i < j))) (i := 5) (j := 4) rfl rfl rfl) (gva_cons (gi_ieq (i := 4) (j := 5) rfl rfl) (gva_cons (gi_ine (i := 4) (j := 5) rfl rfl) gva_nil)))))))) (by show 8 ≤ 1000; decide)
    refine seq_asg g2 rfl fun v H3 s3 hv => ?_
    obtain ⟨l', rfl, hl'⟩ := hv
    have hl3 := s3 _ _ hl
    generalize hbs : ([decide (t * b2 < t2 * b), decide (t * b2 ≤ t2 * b), decide (t2 * b < t * b2), decide (t2 * b ≤ t * b2), decide (t * b2 = t2 * b), decide (t2 * b < t * b2), decide (t * b2 = t2 * b), !decide (t * b2 = t2 * b)] : List Bool) = bs at *
    have e1 : H3 l = some (.lst (bs.map V.bl)) := by rw [← hbs]; exact hl3
    have e2 : H3 l' = some (.lst (bs.map V.bl)) := by rw [← hbs]; exact hl'
    have hn : bs.length = 8 := by rw [← hbs]; rfl
    refine ⟨_, rfl, by decide, by decide, fun D nD => lc_range (lo := 0) (n := 8) (fun i H' => Same H3 H' ∧ H' D = some (.lst (List.replicate i (.bl true)))) ⟨new nD, upd_same⟩ ?_ ?_⟩
    · rintro i H5 hi ⟨s5, hD⟩
      have hib : i < bs.length := by omega
      have ha : ∀ {z : Int}, z = 0 + (i : Int) → atI (bs.map V.bl) z = some (V.bl bs[i]) := fun {z} e => by
        rw [e, Int.zero_add]
        exact atI_nat (by rw [List.getElem?_map, List.getElem?_eq_getElem hib]; rfl)
      refine ⟨rfl, ?_⟩
      unfold tYes
      refine iteT ?_
      refine ⟨_, rfl, _, rfl, l, _, _, V.bl bs[i], rfl, rfl, SqL.of (s5 _ _ e1), ha rfl, V.bl bs[i], .ty "bool", .type "bool", _, true, rfl, .ty _, .base (.bl _), kit_ty (by decide +kernel), true, rfl, iteT ?_⟩
      refine ⟨_, rfl, _, rfl, l, _, _, V.bl bs[i], rfl, rfl, SqL.of (s5 _ _ e1), ha rfl, _, rfl, _, rfl, l', _, _, V.bl bs[i], rfl, rfl, SqL.of (s5 _ _ e2), ha rfl, rfl, _, hD, ?_, fun b o e => ?_, ?_⟩
      · rw [List.length_replicate]
        exact Nat.lt_of_lt_of_le (by omega) (show 100 ≤ sizeLine by decide)
      · rw [upd_ne (ne_of_none e nD)]
        exact s5 _ _ e
      · rw [upd_same, decide_eq_true (rfl : V.bl bs[i] = V.bl bs[i]), ← List.replicate_succ']
    · rintro H5 ⟨s5, hD⟩
      exact ⟨D, List.replicate 8 true, rfl, SqL.of hD, k H5 (s2.trans (s3.trans s5))⟩
end
end K3

set_option Elab.async false
set_option linter.all false
set_option maxRecDepth 100000
set_option maxHeartbeats 4000000
/-! texts of numbers, as rows of codes -/
namespace K3
open PySem L2 Rt TL
def numZ (t : Int) : List Nat := if t < 0 then 45 :: numL t.natAbs else numL t.natAbs
theorem tl_int (t : Int) : tl ((toString t : String) : Str) = numZ t := by
  cases t with
  | ofNat n =>
    have e : numZ (Int.ofNat n) = numL n := by
      unfold numZ
      rw [if_neg (show ¬ (Int.ofNat n < 0) from by simp)]
      rfl
    rw [e]
    exact tl_num n
  | negSucc n =>
    have e : numZ (Int.negSucc n) = 45 :: numL (n + 1) := by
      unfold numZ
      rw [if_pos (Int.negSucc_lt_zero n)]
      rfl
    rw [e]
    have h1 : (toString (Int.negSucc n) : String) = "-" ++ (toString ((n + 1 : Nat) : Int) : String) := rfl
    show tl (Str.ofString (toString (Int.negSucc n))) = _
    have h2 := tl_num (n + 1)
    rw [tl_ofString] at h2 ⊢
    rw [h1, String.toList_append, List.map_append, h2]
    rfl
/-- up to 60 digits, one at least -/
structure Dg (l : List Nat) : Prop where
  ne : l ≠ []
  le : l.length ≤ 60
  al : NumText.AllDigits l
/-- a figure: nothing stands ahead of its first digit but that it is not 0 -/
def Fg (l : List Nat) : Prop := Dg l ∧ (l = [48] ∨ l.head? ≠ some 48)
/-- without its sign -/
def un (l : List Nat) : List Nat := if l.head? = some 45 then l.drop 1 else l
theorem numL_head (n : Nat) : ∀ m, n = m → m ≠ 0 → ∃ c r, numL m = c :: r ∧ c ≠ 48 ∧ 48 ≤ c ∧ c ≤ 57 := by
  induction n using Nat.strongRecOn with
  | _ n ih =>
    rintro m rfl hn
    by_cases h : n < 10
    · exact ⟨48 + n, [], numL_lt h, by omega, by omega, by omega⟩
    · obtain ⟨c, r, e, h1, h2⟩ := ih (n / 10) (by omega) _ rfl (by omega)
      exact ⟨c, r ++ [48 + n % 10], by rw [numL_step (by omega), e]; rfl, h1, h2⟩
theorem numL_dg {n : Nat} (h : n < 10 ^ 60) : Dg (numL n) := ⟨numL_ne n, numL_len (by decide) h, numL_digits n⟩
theorem numL_fg {n : Nat} (h : n < 10 ^ 60) : Fg (numL n) := by
  refine ⟨numL_dg h, ?_⟩
  by_cases c : n = 0
  · subst c
    exact .inl (numL_lt (by decide))
  · obtain ⟨d, r, e, h1, _⟩ := numL_head n n rfl c
    rw [e]
    exact .inr fun z => h1 (Option.some.inj z)
theorem un_digits {l : List Nat} (h : NumText.AllDigits l) : un l = l := by
  unfold un
  cases l with
  | nil => rfl
  | cons c r =>
    have := h.head
    rw [if_neg fun z => by have := Option.some.inj z; omega]
theorem un_numZ (t : Int) : un (numZ t) = numL t.natAbs := by
  unfold numZ
  split
  · unfold un
    rw [if_pos (show (45 :: numL t.natAbs).head? = some 45 from rfl)]
    rfl
  · exact un_digits (numL_digits _)
theorem un_len (l : List Nat) : l.length ≤ (un l).length + 1 := by
  unfold un
  split
  · rw [List.length_drop]
    omega
  · omega
/-- the number that stands there -/
def intZ (l : List Nat) : Int := if l.head? = some 45 then -((NumText.digitsVal (l.drop 1) : Nat) : Int) else ((NumText.digitsVal l : Nat) : Int)
theorem intZ_numZ (t : Int) : intZ (numZ t) = t := by
  unfold numZ
  split
  · unfold intZ
    rw [if_pos (show (45 :: numL t.natAbs).head? = some 45 from rfl)]
    show -((NumText.digitsVal (numL t.natAbs) : Nat) : Int) = t
    rw [numL_val]
    omega
  · unfold intZ
    have h := numL_digits t.natAbs
    rw [if_neg fun z => ?_, numL_val]
    · omega
    · cases e : numL t.natAbs with
      | nil => rw [e] at z; cases z
      | cons c r =>
        rw [e] at z h
        have := h.head
        have := Option.some.inj z
        omega
theorem intZ_digits {l : List Nat} (h : NumText.AllDigits l) : intZ l = ((NumText.digitsVal l : Nat) : Int) := by
  unfold intZ
  cases l with
  | nil => rfl
  | cons c r =>
    have := h.head
    rw [if_neg fun z => by have := Option.some.inj z; omega]
theorem int_un {a : Str} (h : Dg (un (tl a))) : intText? a = some (intZ (tl a)) := by
  have l60 := h.le
  have l61 := un_len (tl a)
  have la : a.length ≤ 4300 := by rw [len_tl]; omega
  unfold intZ
  unfold un at h
  split at h
  · rename_i z
    rw [if_pos z]
    cases e : tl a with
    | nil => rw [e] at z; cases z
    | cons c r =>
      rw [e] at z h
      obtain rfl : c = 45 := Option.some.inj z
      exact PySem.intText_neg e h.al h.ne la
  · rename_i z
    rw [if_neg z]
    exact PySem.intText_digits h.al h.ne la
theorem fold_lt : ∀ (l : List Nat) (a : Nat), NumText.AllDigits l → l.foldl (fun acc c => acc * 10 + (c - 48)) a < (a + 1) * 10 ^ l.length ∧ a * 10 ^ l.length ≤ l.foldl (fun acc c => acc * 10 + (c - 48)) a
  | [], a, _ => by simp
  | c :: r, a, h => by
    have hc := h.head
    obtain ⟨h1, h2⟩ := fold_lt r (a * 10 + (c - 48)) h.tail
    rw [List.foldl_cons, List.length_cons, Nat.pow_succ]
    generalize hk : 10 ^ r.length = k at *
    constructor
    · refine Nat.lt_of_lt_of_le h1 ?_
      rw [Nat.mul_comm k 10, ← Nat.mul_assoc]
      exact Nat.mul_le_mul_right _ (by omega)
    · refine Nat.le_trans ?_ h2
      rw [Nat.mul_comm k 10, ← Nat.mul_assoc]
      exact Nat.mul_le_mul_right _ (by omega)
theorem dg_lt {l : List Nat} (h : Dg l) : NumText.digitsVal l < 10 ^ 60 := by
  have z := (fold_lt l 0 h.al).1
  unfold NumText.digitsVal
  refine Nat.lt_of_lt_of_le z ?_
  rw [Nat.zero_add, Nat.one_mul]
  exact Nat.pow_le_pow_right (by decide) h.le
theorem intZ_lt {l : List Nat} (h : Dg (un l)) : (intZ l).natAbs < 10 ^ 60 := by
  have z := dg_lt h
  unfold intZ
  unfold un at z
  split
  · rename_i e
    rw [if_pos e] at z
    rw [Int.natAbs_neg]
    exact z
  · rename_i e
    rw [if_neg e] at z
    exact z
theorem fg_zero {l : List Nat} (h : Fg l) (z : NumText.digitsVal l = 0) : l = [48] := by
  obtain ⟨d, h | h⟩ := h
  · exact h
  · exfalso
    cases l with
    | nil => exact d.ne rfl
    | cons c r =>
      have hc := d.al.head
      have h3 : c ≠ 48 := fun e => h (by rw [e]; rfl)
      have h2 := (fold_lt r (0 * 10 + (c - 48)) d.al.tail).2
      have h4 : 1 ≤ (0 * 10 + (c - 48)) * 10 ^ r.length := Nat.mul_pos (by omega) (Nat.pow_pos (by decide))
      unfold NumText.digitsVal at z
      rw [List.foldl_cons] at z
      omega
theorem cut_one {s : Nat} : ∀ {a a' c c' : List Nat}, s ∉ a → s ∉ a' → a ++ s :: c = a' ++ s :: c' → a = a' ∧ c = c'
  | [], [], _, _, _, _, e => ⟨rfl, (List.cons.inj e).2⟩
  | [], x :: _, _, _, _, h, e => absurd (List.mem_cons.mpr (.inl (List.cons.inj e).1)) h
  | x :: _, [], _, _, h, _, e => absurd (List.mem_cons.mpr (.inl (List.cons.inj e).1.symm)) h
  | x :: a, y :: a', c, c', h, h', e => by
    obtain ⟨e1, e2⟩ := List.cons.inj e
    obtain ⟨r1, r2⟩ := cut_one (fun z => h (List.mem_cons_of_mem _ z)) (fun z => h' (List.mem_cons_of_mem _ z)) e2
    exact ⟨by rw [e1, r1], r2⟩
/-- a row that has s, cut at the first one -/
theorem cut_ex {s : Nat} : ∀ {l : List Nat}, s ∈ l → ∃ a c, l = a ++ s :: c ∧ s ∉ a
  | x :: l, h => by
    by_cases e : s = x
    · exact ⟨[], l, by rw [e]; rfl, List.not_mem_nil⟩
    · obtain ⟨a, c, h1, h2⟩ := cut_ex (l := l) ((List.mem_cons.mp h).resolve_left e)
      exact ⟨x :: a, c, by rw [h1]; rfl, fun z => (List.mem_cons.mp z).elim e h2⟩
theorem numZ_free (t : Int) : 47 ∉ numZ t := by
  unfold numZ
  split
  · intro h
    rcases List.mem_cons.mp h with h | h
    · cases h
    · exact numL_free (.inl (by decide)) h
  · exact numL_free (.inl (by decide))
theorem tl_txt (t b : Int) : tl (txt t b) = if b = 1 then numZ t else numZ t ++ 47 :: numZ b := by
  unfold txt
  split
  · exact tl_int t
  · rw [tl_append, tl_append, tl_int, tl_int]
    show (numZ t ++ [47]) ++ numZ b = _
    rw [List.append_assoc]
    rfl
/-- z is the text of t / b -/
structure Good (z : Str) (t b : Int) : Prop where
  low : Low t b
  eq : txt t b = z
  zt : t.natAbs < 10 ^ 60
  zb : b.natAbs < 10 ^ 60
theorem numZ_pos {b : Int} (h : 0 < b) : numZ b = numL b.natAbs := by
  unfold numZ
  rw [if_neg (by omega)]
theorem good_whole {z : Str} {t b : Int} (h : Good z t b) (f : 47 ∉ tl z) : tl z = numZ t ∧ b = 1 := by
  have e := tl_txt t b
  rw [h.eq] at e
  by_cases c : b = 1
  · rw [if_pos c] at e
    exact ⟨e, c⟩
  · rw [if_neg c] at e
    rw [e] at f
    exact absurd (List.mem_append_right _ List.mem_cons_self) f
theorem good_parts {z : Str} {t b : Int} {a c : List Nat} (h : Good z t b) (e : tl z = a ++ 47 :: c) (f : 47 ∉ a) : a = numZ t ∧ c = numL b.natAbs ∧ b ≠ 1 := by
  have e' := tl_txt t b
  rw [h.eq, e] at e'
  by_cases k : b = 1
  · rw [if_pos k] at e'
    have z := numZ_free t
    rw [← e'] at z
    exact absurd (List.mem_append_right _ List.mem_cons_self) z
  · rw [if_neg k] at e'
    obtain ⟨r1, r2⟩ := cut_one f (numZ_free t) e'
    rw [numZ_pos h.low.pos] at r2
    exact ⟨r1, r2, k⟩
theorem numZ_inj {t u : Int} (h : numZ t = numZ u) : t = u := by rw [← intZ_numZ t, h, intZ_numZ]
/-- the text tells the number -/
theorem good_one {z : Str} {t b t2 b2 : Int} (h : Good z t b) (k : Good z t2 b2) : t = t2 ∧ b = b2 := by
  by_cases f : 47 ∈ tl z
  · obtain ⟨a, c, e, fa⟩ := cut_ex f
    obtain ⟨a1, a2, _⟩ := good_parts h e fa
    obtain ⟨c1, c2, _⟩ := good_parts k e fa
    have h1 := numZ_inj (a1.symm.trans c1)
    have h2 := numL_inj (a2.symm.trans c2)
    have := h.low.pos
    have := k.low.pos
    exact ⟨h1, by omega⟩
  · obtain ⟨a1, a2⟩ := good_whole h f
    obtain ⟨c1, c2⟩ := good_whole k f
    exact ⟨numZ_inj (a1.symm.trans c1), a2.trans c2.symm⟩
theorem good_mk {z : Str} {n d : Int} (hd : d ≠ 0) (z1 : n.natAbs < 10 ^ 60) (z2 : d.natAbs < 10 ^ 60) (e : txt (nrmT n d) (nrmB n d) = z) : Good z (nrmT n d) (nrmB n d) := by
  obtain ⟨l1, l2⟩ := nrm_le (p := n) hd
  exact ⟨nrm_low hd, e, by omega, by omega⟩
theorem low_one (n : Int) : Low n 1 := ⟨by decide, Nat.gcd_one_right _⟩
/-- what is no such text -/
def NoG (z : Str) : Prop := ∀ t b, ¬ Good z t b
/-- a whole number's text -/
theorem whole_fg {z : Str} {t b : Int} (h : Good z t b) (f : 47 ∉ tl z) : Fg (un (tl z)) ∧ intZ (tl z) = t ∧ b = 1 := by
  obtain ⟨a1, a2⟩ := good_whole h f
  rw [a1, un_numZ, intZ_numZ]
  exact ⟨numL_fg h.zt, rfl, a2⟩
theorem parts_fg {z : Str} {t b : Int} {a c : List Nat} (h : Good z t b) (e : tl z = a ++ 47 :: c) (f : 47 ∉ a) : Fg (un a) ∧ Fg c ∧ c ≠ [48] ∧ intZ a = t ∧ ((NumText.digitsVal c : Nat) : Int) = b := by
  obtain ⟨a1, a2, _⟩ := good_parts h e f
  have hp := h.low.pos
  have zb := h.zb
  subst a1 a2
  rw [un_numZ, intZ_numZ, numL_val]
  refine ⟨numL_fg h.zt, numL_fg zb, fun z => ?_, rfl, by omega⟩
  have y := congrArg NumText.digitsVal z
  rw [numL_val] at y
  have : NumText.digitsVal [48] = 0 := rfl
  omega
theorem good_no {z : Str} {n d : Int} (hd : d ≠ 0) (h : ∀ t b, Good z t b → n = t ∧ d = b) (e : ¬ txt (nrmT n d) (nrmB n d) = z) : NoG z := fun t b g => by
  obtain ⟨rfl, rfl⟩ := h t b g
  rw [(nrm_of_low g.low).1, (nrm_of_low g.low).2] at e
  exact e g.eq
end K3

set_option Elab.async false
set_option linter.all false
set_option maxRecDepth 100000
set_option maxHeartbeats 2000000
namespace L2
open PySem PySem.Spec PyProof.Rows
/-- C.m is a staticmethod: its record at p, its def at g -/
structure SMet (K : PySem.W.Frag) (C : Addr) (mc : Value) (m : Str) (p g : Addr) : Prop where
  got : PySem.W.findCls K (.ref C) mc m = some (.get (.builtin "staticmethod.__get__") (.ref p) .none (.ref C))
  rcd : ∃ rest, PySem.W.recIn K p "staticmethod" = some (.ref g :: rest)
  hnd : PySem.W.handedIn (.ref g) = true
  kept : PySem.W.keepIn K (.ref g) = true
/-- C.m(e, ..) in a try, m a staticmethod: what is raised is wished for at the slots as they stand -/
def tStatS (C : Addr) (sp : Sp) (E : St → XK) (ta : TE) (t : TA) : TE := fun σ H Q => ta σ H fun x H1 => x = .ref C ∧ t σ H1 fun vs H2 => sp vs H2 Q (E σ)
section
variable {X : Cx} {CX : CXT} {k : Nat} {C p g : Addr} {mc : Value} {fd : FuncData} {ps : List Str} {sp : Sp} {E : St → XK} {o e : Expr} {es : List Expr} {m : Str} {pos apos : Pos} {ta : TE} {t : TA} {pl : Sem Bool}
theorem pe_statS (he : PE X o ta) (r : ClX.CRead X.K C mc) (c : SMet X.K C mc m p g) (F : FnOk X.prog X.w X.K X.mg X.base CX k g fd ps sp) (hr : Room k X.A) (hb : Binds X.K fd ps []) (hx : ∀ σ, PassesAt CX X σ (E σ)) (ha : PA X (e :: es) t)
    (hst : starEach (e :: es) X.env = (false, eval e X.env) :: starEach es X.env := by rfl) (hpl : (backTo pos (starEach es X.env)).any (·.1) = false := by rfl)
    (ht : eval (.Call (.Attribute o m apos) (e :: es) [] pos) X.env = (do
      let recv ← eval o X.env
      standAt apos.atName
      let (f, first) ← holding [recv] (getMethod recv m pl)
      callWith pos f first (backTo pos (starEach (e :: es) X.env)) (backToKw pos (keywordEach [] X.env))) := by rfl) :
    PE X (.Call (.Attribute o m apos) (e :: es) [] pos) (tStatS C sp E ta t) := by
  constructor
  intro pins s σ H Q I0 h0
  refine PySem.W.methodCall_KW (pl := pl) (thn (he.run pins s σ H _ I0 h0) fun u s1 hh => ?_) ht
  obtain ⟨x, H1, I1, rx, rfl, q⟩ := hh
  obtain rfl : u = Value.ref C := rx
  obtain ⟨rest, hp⟩ := c.rcd
  refine PySem.W.method_cls I1.kIn r.ga (PySem.W.cls_bind I1.kIn r.rd c.got (wpAny_call (PySem.W.sm_get (s := { s1 with toks := s1.toks + 1 }) I1.kIn hp (PySem.W.handed_on c.hnd ?_))))
  refine PySem.W.callWith_K (h₀ := X.base) I1.ok.mod.kin c.kept (thn (ha.run pos pins _ σ H1 _ (I1.tok (s1.toks + 1)) q) fun us s2 hh => ?_) hst hpl
  obtain ⟨vs, H2, I2, r, q2⟩ := hh
  exact ⟨I2.kIn, run_fnS (us := us) (vs := vs) F hr hb (hx σ) I2 r q2⟩
end
end L2

set_option Elab.async false
set_option linter.all false
set_option maxRecDepth 100000
set_option maxHeartbeats 4000000
namespace K3
open PySem L2 Rt TL
abbrev sFig : Stmt := top 9
abbrev DG : Str := ("0123456789" : Str)
theorem mem_dg (c : Nat) : c ∈ DG.cps.toList ↔ 48 ≤ c ∧ c ≤ 57 := by
  have e : DG.cps.toList = [48, 49, 50, 51, 52, 53, 54, 55, 56, 57] := by decide +kernel
  rw [e]
  simp only [List.mem_cons, List.not_mem_nil, or_false]
  omega
/-- whether each sign is a digit -/
def dbits (l : List Nat) : List Bool := l.map fun c => decide (c ∈ DG.cps.toList)
theorem dbits_all (l : List Nat) : (dbits l).all id = true ↔ NumText.AllDigits l := by
  unfold dbits NumText.AllDigits
  rw [List.all_map, List.all_eq_true]
  constructor
  · intro h c hc
    exact (mem_dg c).mp (of_decide_eq_true (h c hc))
  · intro h c hc
    exact decide_eq_true ((mem_dg c).mpr (h c hc))
def spFig : Sp := fun vs H Q _ => ∃ z : Str, vs = [.str z] ∧ z.length ≤ 1000 ∧ ∀ H', Same H H' → (Fg (tl z) → Q (.bl true) H') ∧ (¬ Fg (tl z) → Q (.bl false) H')
theorem get_tl {z : Str} {i c : Nat} (h : z.cps[i]? = some c) : (tl z)[i]? = some c := by
  rw [show tl z = z.cps.toList from rfl, Array.getElem?_toList]
  exact h
theorem big1000 {n : Nat} (h : n ≤ 1000) : n ≤ sizeLine := Nat.le_trans h (by decide)
section
variable {P : Program} {w : World} {K : PySem.W.Frag} {mg : Str → Option Value} {base : Heap} {C E B f g h : Addr} {fd gd hd : FuncData}
theorem scFig : FnScope ["text", "sign"] ["text"] (defScope sFig) := ⟨rfl, rfl, rfl, by decide +kernel, rfl, by decide +kernel, by decide +kernel⟩
theorem ok_fig {t1 t2 : Tok} (F : FnP K "is_figure" "is_figure" sFig [] f fd) (T : Txt K mg C E B) (hD : mg "DIGITS" = some (.str DG t1)) (hM : mg "MOST_DIGITS" = some (.int 60 t2)) : FnOk P w K mg base CX0 1 f fd ["text"] spFig := by
  refine F.ok scFig (fun vs H Q X z => ?_) (fun cdv A outer s H vs Q X hr z => ?_)
  · obtain ⟨z, rfl, _⟩ := z
    rfl
  · obtain ⟨z, rfl, hz, k⟩ := z
    refine ⟨_, PSs.nox (pss_cons (ps_if (pt_not (pt_chain op_le op_le pe_int (pe_callB call_len_str (by rfl) T.len PySem.boot_len (pa_cons (pv 0) pa_nil)) (pe_glob (v := .int 60) (by rfl) hM ⟨t2, rfl⟩))) (pss_one (ps_ret pe_bl)) pss_nil)
      (pss_one (ps_ret (pe_and (pe_callB (cr_all rfl) (by rfl) T.all (by decide +kernel) (pa_cons
          (pe_lc (own := [("sign", 1)]) (g := gName 1) (tt := tYes) (by rfl) scFig.nd (pi_str (pv 0)) (blkOk_by (own := [("sign", 1)]) (N := ["text", "sign"]) (sc := defScope sFig) (by decide +kernel)) (fun _ _ _ _ _ => pg_name (i := 1) scFig.nd rfl (Or.inl rfl)) (fun _ _ _ _ _ => pts_nil)
            (fun _ _ _ _ _ => pe_cmpR (r := rInS) op_inS (pv 1) (pe_glob (v := .str DG) (by rfl) hD ⟨t1, rfl⟩) (by rfl))) pa_nil))
        (pe_one (pe_or (pe_cmpR op_eq (pv 0) pe_str (nomark _)) (pe_one (pe_cmpR op_ne (pe_ix ix_str (pv 0) pe_int (fun _ _ => rfl)) pe_str (nomark _))))))))), ?_⟩
    refine ⟨_, rfl, z, rfl, big1000 hz, _, _, rfl, rfl, _, rfl, ?_⟩
    have lz : z.length = (tl z).length := len_tl z
    by_cases c1 : (1 : Int) ≤ (z.length : Int)
    · refine itT (decide_eq_true c1) ⟨_, _, rfl, rfl, _, rfl, ?_⟩
      by_cases c2 : (z.length : Int) ≤ 60
      · refine itF (by rw [decide_eq_true c2]; rfl) ?_
        refine ⟨_, rfl, z, rfl, fun D nD => lc_it walk_str (fun i H' => Same H H' ∧ H' D = some (.lst (((dbits (tl z)).take i).map V.bl))) ⟨new nD, upd_same⟩ (fun _ _ _ _ => trivial) ?_ ?_⟩
        · rintro i x H5 H6 hi ⟨s5, hD5⟩ ⟨rfl, c, hc, rfl⟩
          refine ⟨rfl, ?_⟩
          unfold tYes
          refine iteT ?_
          refine ⟨_, rfl, c, DG, rfl, rfl, _, hD5, ?_, fun b o e => ?_, ?_⟩
          · rw [List.length_map, List.length_take]
            exact Nat.lt_of_lt_of_le (show min i _ < 1001 by have : z.cps.size ≤ 1000 := hz; omega) (show 1001 ≤ sizeLine by decide)
          · rw [upd_ne (ne_of_none e nD)]
            exact s5 _ _ e
          · rw [upd_same, List.take_add_one, List.map_append]
            have e : (dbits (tl z))[i]? = some (decide (c ∈ DG.cps.toList)) := by
              unfold dbits
              rw [List.getElem?_map, get_tl hc]
              rfl
            rw [e]
            rfl
        · rintro H5 ⟨s5, hD5⟩
          have e5 : H5 D = some (.lst ((dbits (tl z)).map V.bl)) := by
            rw [hD5, List.take_of_length_le]
            unfold dbits
            rw [List.length_map]
            exact Nat.le_of_eq rfl
          obtain ⟨k1, k2⟩ := k H5 s5
          refine ⟨D, _, rfl, SqL.of e5, ?_⟩
          refine ⟨_, rfl, ?_⟩
          by_cases c3 : (dbits (tl z)).all id = true
          · refine itT c3 ?_
            have ad := (dbits_all _).mp c3
            have dg : Dg (tl z) := ⟨fun e => by rw [e] at lz; simp at lz; omega, by omega, ad⟩
            refine ⟨_, rfl, rfl, _, rfl, ?_⟩
            by_cases c4 : z = "0"
            · refine itT (decide_eq_true (congrArg V.str c4)) ?_
              refine (decide_eq_true (congrArg V.str c4)).symm ▸ k1 ⟨dg, .inl (by rw [c4]; decide +kernel)⟩
            · refine itF (decide_eq_false fun e => c4 (V.str.inj e)) ?_
              obtain ⟨c, r, er⟩ : ∃ c r, tl z = c :: r := by
                cases e : tl z with
                | nil => rw [e] at lz; simp at lz; omega
                | cons c r => exact ⟨c, r, rfl⟩
              refine ⟨_, rfl, z, _, c, rfl, rfl, big1000 hz, by rw [show z.cps.toList = c :: r from er]; exact atI_nat (j := 0) rfl, rfl, ?_⟩
              have n0 : tl z ≠ [48] := fun e => c4 (ext_tl (by rw [e]; decide +kernel))
              by_cases c5 : c = 48
              · rw [show (!decide (V.str (⟨#[c]⟩ : Str) = V.str "0")) = false by subst c5; decide +kernel]
                refine k2 fun g => ?_
                rcases g.2 with g | g
                · exact n0 g
                · exact g (by rw [er, c5]; rfl)
              · rw [show (!decide (V.str (⟨#[c]⟩ : Str) = V.str "0")) = true by
                  rw [decide_eq_false]
                  · rfl
                  · intro e
                    have e' := congrArg tl (V.str.inj e)
                    have e2 : tl ("0" : Str) = [48] := by decide +kernel
                    rw [e2] at e'
                    exact c5 (List.cons.inj e').1]
                exact k1 ⟨dg, .inr fun g => c5 (by rw [er] at g; exact Option.some.inj g)⟩
          · refine itF (by simpa using c3) ?_
            exact k2 fun g => c3 ((dbits_all _).mpr g.1.al)
      · refine itT (by rw [decide_eq_false c2]; rfl) ?_
        exact (k H (Same.refl H)).2 fun g => by have := g.1.le; omega
    · refine itF (decide_eq_false c1) ⟨_, rfl, itT rfl ?_⟩
      exact (k H (Same.refl H)).2 fun g => by have := g.1.ne; have := List.length_pos_iff.mpr this; omega
end
end K3

set_option Elab.async false
set_option linter.all false
set_option maxRecDepth 100000
set_option maxHeartbeats 4000000
namespace K3
open PySem L2 Rt TL
abbrev sRead : Stmt := inClass (top 11) 16
/-- x is no text -/
def NoTxt (K : PySem.W.Frag) (H : Hp) (x : V) : Prop := ∃ ty, TyX K H x ty ∧ PySem.W.kitOne K ty (.type "str") = some false
def spRead (K : PySem.W.Frag) (C E : Addr) : Sp := fun vs H Q X => ∃ x, vs = [x] ∧
  ((∃ z : Str, x = .str z ∧ z.length ≤ 1000 ∧ (∀ t b q H', Good z t b → Same H H' → RatAt C H' q t b → Q (.ref q) H') ∧ (NoG z → Raised E H X "text")) ∨ (NoTxt K H x ∧ Raised E H X "text"))
theorem Raised.same {E : Addr} {H H1 : Hp} {X : XK} {w : Str} (r : Raised E H X w) (s : Same H H1) : Raised E H1 X w := fun d H' s' => r d H' (s.trans s')
theorem rp_un {z : Str} : tl (Txt.removeprefix z "-") = un (tl z) := by
  have e : ("-" : Str) = ⟨#[45]⟩ := by decide +kernel
  rw [e, StrLaws.removeprefix_eq]
  have one := StrLaws.subAt_one z 45 0
  have l1 : (⟨#[45]⟩ : Str).length = 1 := rfl
  unfold un
  by_cases h : (tl z).head? = some 45
  · have h0 : z.cps.toList[0]? = some 45 := by
      rw [← List.head?_eq_getElem?]
      exact h
    obtain ⟨o1, o2⟩ := one.mpr h0
    rw [if_pos (by rw [decide_eq_true o1, o2]; rfl), if_pos h, l1]
    show ((tl z).drop 1).take (z.length - 1) = _
    rw [List.take_of_length_le]
    rw [List.length_drop, len_tl]
    exact Nat.le_refl _
  · rw [if_neg fun c => ?_, if_neg h]
    rw [Bool.and_eq_true, decide_eq_true_eq] at c
    have h0 := one.mp c
    rw [← List.head?_eq_getElem?] at h0
    exact h h0
theorem un_le {z : Str} {n : Nat} (h : z.length ≤ n) : (Txt.removeprefix z "-").length ≤ n := by
  rw [len_tl, rp_un]
  rw [len_tl] at h
  refine Nat.le_trans ?_ h
  unfold un
  split
  · rw [List.length_drop]
    omega
  · exact Nat.le_refl _
theorem sz60 {z : Int} (h : z.natAbs < 10 ^ 60) : Sz 1900 z := Nat.lt_of_lt_of_le h (Nat.le_trans (show 10 ^ 60 ≤ 2 ^ 200 by decide +kernel) (Nat.pow_le_pow_right (by decide) (by decide)))
theorem ne0 : ¬ (V.str ("" : Str) = V.str "0") := by decide +kernel
theorem ne2 : ¬ (V.str ("/" : Str) = V.str "") := by decide +kernel
/-- how a text is cut -/
theorem cut_of (z : Str) : ∃ A S D : Str, Txt.partition z "/" = (A, S, D) ∧ A.length ≤ z.length ∧ D.length ≤ z.length ∧
    ((47 ∉ tl z ∧ A = z ∧ S = "" ∧ D = "") ∨ (tl z = tl A ++ 47 :: tl D ∧ 47 ∉ tl A ∧ S = "/")) := by
  by_cases f : 47 ∈ tl z
  · obtain ⟨a, c, e, fa⟩ := cut_ex f
    have ez : z = (⟨a.toArray⟩ : Str) ++ "/" ++ (⟨c.toArray⟩ : Str) := ext_tl (by
      have y : tl ((⟨a.toArray⟩ : Str) ++ "/" ++ (⟨c.toArray⟩ : Str)) = (a ++ [47]) ++ c := by
        rw [tl_append, tl_append]
        rfl
      rw [y, List.append_assoc]
      exact e)
    have lz : z.length = a.length + (c.length + 1) := by rw [len_tl, e, List.length_append]; rfl
    refine ⟨⟨a.toArray⟩, "/", ⟨c.toArray⟩, ?_, ?_, ?_, .inr ⟨e, fa, rfl⟩⟩
    · conv => lhs; rw [ez]
      exact partition_app (s := 47) (S := []) (by decide +kernel) fa
    · rw [len_tl, tl_mk]; omega
    · rw [len_tl, tl_mk]; omega
  · exact ⟨z, "", "", partition_none (s := 47) (S := []) (by decide +kernel) f, Nat.le_refl _, Nat.zero_le _, .inl ⟨f, rfl, rfl, rfl⟩⟩
section
variable {P : Program} {w : World} {K : PySem.W.Frag} {mg : Str → Option Value} {base : Heap} {C E B f g h : Addr} {fd gd hd : FuncData}
theorem scRead : FnScope ["text", "top", "slash", "bottom", "found"] ["text"] (defScope sRead) := ⟨rfl, rfl, rfl, by decide +kernel, rfl, by decide +kernel, by decide +kernel⟩
theorem ok_read (F : FnP K "read" "Ratio.read" sRead [] f fd) (T : Txt K mg C E B) (hst : mg "str" = none) (GE : ErrOk P w K mg base E 1 ["self", "word"] (spErr K E)) (GM : MkOk P w K mg base C (L2.CX P w) 3 ["self", "top", "bottom"] [.int 1] (spInit K C E))
    (GF : GloOk P w K mg base CX0 1 "is_figure" ["text"] spFig) (GT : MthOk P w K mg base C CX0 1 "text" ["self"] (spText C)) : FnOk P w K mg base (L2.CX P w) 5 f fd ["text"] (spRead K C E) := by
  obtain ⟨fE, fdE, GE, iE, tE, bE⟩ := GE
  obtain ⟨fM, fdM, GM, M, bM, _⟩ := GM
  obtain ⟨fF, fdF, GF, mF, kF, bF⟩ := GF
  obtain ⟨fT, fdT, GT, MT, bT⟩ := GT
  refine F.ok scRead (fun vs H Q X z => ?_) (fun cdv A outer s H vs Q X hr z => ?_)
  · obtain ⟨x, rfl, _⟩ := z
    rfl
  · obtain ⟨x, rfl, z⟩ := z
    have hr1 : Room 1 _ := hr.mono (by decide)
    have hr2 : Room 2 _ := hr.mono (by decide)
    refine ⟨_, pss_cons (ps_if (pt_not (pt_val (pe_callB call_isi (by rfl) T.isinst (by decide +kernel) (pa_cons (pv 0) (pa_cons (pe_bltn (v := .ty "str") (by rfl) hst (by decide +kernel) rfl) pa_nil)))))
        (pss_one (ps_raise rfl (takes_of rfl rfl rfl rfl) (pmk_oex T.ox iE tE GE hr2 bE .nil pass0 rfl T.mgE (pa_cons pe_str pa_nil)))) pss_nil)
      (pss_cons (ps_asg (pe_partition (pv 0) pe_str) (pg_tup (by rfl) (pgs_cons (pg_name (i := 1) scRead.nd rfl (Or.inl rfl)) (pgs_cons (pg_name (i := 2) scRead.nd rfl (Or.inl rfl)) (pgs_cons (pg_name (i := 3) scRead.nd rfl (Or.inl rfl)) pgs_nil)))))
      (pss_cons (ps_if (PW.pt (pw_or (pt_not (pt_val (pe_call GF hr1 rfl mF kF bF .nil pass0 (pa_cons (pe_bm PySem.F.plainAttrs_str PySem.F.slot_str_removeprefix PySem.F.type_str_removeprefix mt_removeprefix (pv 1) (pa_cons pe_str pa_nil)) pa_nil))))
          (pw_or1 (pt_not (PW.pt (pw_or (pt_cmpR op_eq (pv 2) pe_str (nomark _)) (pw_or1 (pt_val (pe_call GF hr1 rfl mF kF bF .nil pass0 (pa_cons (pv 3) pa_nil))))))))))
        (pss_one (ps_raise rfl (takes_of rfl rfl rfl rfl) (pmk_oex T.ox iE tE GE hr2 bE .nil pass0 rfl T.mgE (pa_cons pe_str pa_nil)))) pss_nil)
      (pss_cons (ps_if (pt_cmpR op_eq (pv 3) pe_str (nomark _))
        (pss_one (ps_raise rfl (takes_of rfl rfl rfl rfl) (pmk_oex T.ox iE tE GE hr2 bE .nil pass0 rfl T.mgE (pa_cons pe_str pa_nil)))) pss_nil)
      (pss_cons (ps_set (i := 4) scRead.nd rfl (Or.inl rfl) (pe_make M GM hr rfl T.mgC bM .nil (passes_call (takes_of rfl rfl rfl rfl) (fun _ _ _ _ h => h)) (pa_cons (pe_callTy call_int_str (by rfl) T.int (by decide +kernel) (pa_cons (pv 1) pa_nil))
          (pa_cons (pe_ifExp (pt_cmpR op_ne (pv 3) pe_str (nomark _)) (pe_callTy call_int_str (by rfl) T.int (by decide +kernel) (pa_cons (pv 3) pa_nil)) pe_int) pa_nil))))
      (pss_cons (ps_if (pt_cmpR op_ne (pe_meth0 (pv 4) T.cl MT GT hr1 bT .nil pass0) (pv 0) (nomark _))
        (pss_one (ps_raise rfl (takes_of rfl rfl rfl rfl) (pmk_oex T.ox iE tE GE hr2 bE .nil pass0 rfl T.mgE (pa_cons pe_str pa_nil)))) pss_nil)
      (pss_one (ps_ret (pv 4)))))))), ?_⟩
    rcases z with ⟨z, rfl, hz, k1, k2⟩ | ⟨⟨ty, hty, hk⟩, k⟩
    · refine ⟨_, rfl, _, .ty "str", .type "str", _, true, rfl, .ty _, .base (.str z), kit_ty (by decide +kernel), true, rfl, iteF ?_⟩
      obtain ⟨A0, S, D, ep, lA, lD, cs⟩ := cut_of z
      refine ⟨_, rfl, ⟨z, rfl⟩, z, "/", rfl, rfl, by decide, big1000 hz, fun p hp => ?_⟩
      rw [ep]
      have s1 : Same H (upd H p (.tup [.str A0, .str S, .str D])) := new hp
      refine ⟨p, _, rfl, SqT.of upd_same, rfl, _, _, rfl, _, _, rfl, _, _, rfl, rfl, ?_⟩
      refine ⟨_, rfl, rfl, A0, "-", rfl, rfl, big1000 (Nat.le_trans lA hz), _, rfl, un_le (Nat.le_trans lA hz), fun H2 s2 => ⟨fun g => ?_, fun g => ?_⟩⟩
      · rw [rp_un] at g
        have f2 := s1.trans s2
        rcases cs with ⟨nf, rfl, rfl, rfl⟩ | ⟨ez, nf, rfl⟩
        · -- a whole number
          refine ⟨_, rfl, itF rfl ⟨_, rfl, rfl, _, rfl, itT (decide_eq_true rfl) (itF rfl ?_)⟩⟩
          refine ⟨_, rfl, rfl, _, rfl, itF (decide_eq_false ne0) ?_⟩
          refine ⟨_, rfl, A0, _, rfl, int_un g.1, ?_, _, rfl, rfl, _, rfl, itF (show (!decide (V.str ("" : Str) = V.str "")) = false by decide +kernel) ?_⟩
          · have := g.1.le
            have := un_len (tl A0)
            rw [len_tl]
            omega
          have zn := intZ_lt g.1
          intro x dx nx nd nex
          refine ⟨x, dx, _, _, rfl, upd_same, .inr (.inr (.inr ⟨_, _, rfl, rfl, by decide, by unfold Sz; decide +kernel, fun H3 fr rt => ⟨rfl, ?_⟩⟩))⟩
          have f3 := f2.trans (Same.made nx nd fun b o e ne => fr b o ne e)
          obtain ⟨dr, er⟩ := id rt
          obtain ⟨le1, le2⟩ := nrm_le (p := intZ (tl A0)) (q := 1) (by decide)
          have zd : (1 : Int).natAbs < 10 ^ 60 := by decide +kernel
          refine ⟨_, rfl, x, dr, _, rfl, er, flds_no _ _ (by decide +kernel) (by decide +kernel), x, _, _, rfl, rt, sz60 (Nat.lt_of_le_of_lt le1 zn), sz60 (Nat.lt_of_le_of_lt le2 zd), _, rfl, rfl, _, rfl, ?_⟩
          by_cases et : txt (nrmT (intZ (tl A0)) (1)) (nrmB (intZ (tl A0)) (1)) = A0
          · refine itF (by rw [decide_eq_true (congrArg V.str et)]; rfl) ⟨_, rfl, ?_⟩
            exact k1 _ _ x H3 (good_mk (by decide) zn zd et) f3 rt
          · refine itT (by rw [decide_eq_false fun y => et (V.str.inj y)]; rfl) (raised_ok ((k2 (good_no (by decide) (fun t b gd => ⟨(whole_fg gd nf).2.1, (whole_fg gd nf).2.2.symm⟩) et)).same f3))
        · -- a fraction
          refine ⟨_, rfl, itF rfl ⟨_, rfl, rfl, _, rfl, itF (decide_eq_false ne2) ?_⟩⟩
          refine ⟨_, rfl, D, rfl, Nat.le_trans lD hz, fun H2' s2' => ⟨fun g' => ?_, fun g' => ?_⟩⟩
          · have f2' := f2.trans s2'
            refine ⟨_, rfl, itF rfl ?_⟩
            refine ⟨_, rfl, rfl, _, rfl, ?_⟩
            by_cases c0 : D = "0"
            · refine itT (decide_eq_true (congrArg V.str c0)) (raised_ok ((k2 fun t b gd => (parts_fg gd ez nf).2.2.1 ?_).same f2'))
              rw [c0]
              decide +kernel
            · refine itF (decide_eq_false fun y => c0 (V.str.inj y)) ?_
              have ne1 : ¬ D = "" := fun y => g'.1.ne (by rw [y]; rfl)
              have zn := intZ_lt g.1
              have ud : un (tl D) = tl D := un_digits g'.1.al
              have vd : intZ (tl D) = ((NumText.digitsVal (tl D) : Nat) : Int) := intZ_digits g'.1.al
              have hd : intZ (tl D) ≠ 0 := fun y => c0 (ext_tl ((fg_zero g' (by omega)).trans (by decide +kernel)))
              refine ⟨_, rfl, A0, _, rfl, int_un g.1, ?_, _, rfl, rfl, _, rfl, itT (by rw [decide_eq_false fun y => ne1 (V.str.inj y)]; rfl) ⟨_, rfl, D, _, rfl, int_un (by rw [ud]; exact g'.1), ?_, ?_⟩⟩
              · have := g.1.le
                have := un_len (tl A0)
                rw [len_tl]
                omega
              · have := g'.1.le
                rw [len_tl]
                omega
              intro x dx nx nd nex
              have zd : (intZ (tl D)).natAbs < 10 ^ 60 := intZ_lt (by rw [ud]; exact g'.1)
              refine ⟨x, dx, _, _, rfl, upd_same, .inr (.inr (.inr ⟨_, _, rfl, rfl, hd, Sz.mono (sz60 zd) (by decide), fun H3 fr rt => ⟨rfl, ?_⟩⟩))⟩
              have f3 := f2'.trans (Same.made nx nd fun b o e ne => fr b o ne e)
              obtain ⟨dr, er⟩ := id rt
              obtain ⟨le1, le2⟩ := nrm_le (p := intZ (tl A0)) (q := intZ (tl D)) hd
              have zd : (intZ (tl D) : Int).natAbs < 10 ^ 60 := intZ_lt (by rw [ud]; exact g'.1)
              refine ⟨_, rfl, x, dr, _, rfl, er, flds_no _ _ (by decide +kernel) (by decide +kernel), x, _, _, rfl, rt, sz60 (Nat.lt_of_le_of_lt le1 zn), sz60 (Nat.lt_of_le_of_lt le2 zd), _, rfl, rfl, _, rfl, ?_⟩
              by_cases et : txt (nrmT (intZ (tl A0)) (intZ (tl D))) (nrmB (intZ (tl A0)) (intZ (tl D))) = z
              · refine itF (by rw [decide_eq_true (congrArg V.str et)]; rfl) ⟨_, rfl, ?_⟩
                exact k1 _ _ x H3 (good_mk hd zn zd et) f3 rt
              · refine itT (by rw [decide_eq_false fun y => et (V.str.inj y)]; rfl) (raised_ok ((k2 (good_no hd (fun t b gd => ⟨(parts_fg gd ez nf).2.2.2.1, vd.trans (parts_fg gd ez nf).2.2.2.2⟩) et)).same f3))
          · exact ⟨_, rfl, itT rfl (raised_ok ((k2 fun t b gd => g' (parts_fg gd ez nf).2.1).same (f2.trans s2')))⟩
      · rw [rp_un] at g
        refine ⟨_, rfl, itT rfl (iteT (raised_ok ((k2 fun t b gd => ?_).same (s1.trans s2))))⟩
        rcases cs with ⟨nf, rfl, rfl, rfl⟩ | ⟨ez, nf, rfl⟩
        · exact g (whole_fg gd nf).1
        · exact g (parts_fg gd ez nf).1
    · exact ⟨_, rfl, x, .ty "str", ty, _, false, rfl, .ty _, hty, hk, false, rfl, iteT (raised_ok k)⟩
end
end K3

set_option Elab.async false
set_option linter.all false
set_option maxRecDepth 100000
set_option maxHeartbeats 4000000
namespace K3
open PySem L2 Rt TL
abbrev sDrawn : Stmt := top 22
abbrev sNear : Stmt := top 23
abbrev sLText : Stmt := top 24
theorem same_but {l : Addr} {H0 H1 H2 : Hp} (s : Same H0 H1) (n : H0 l = none) (b : But l H1 H2) : Same H0 H2 := fun c o e => b c o (ne_of_none e n) (s c o e)
theorem strm_ne {H : Hp} {l p : Addr} {o : HO} (st : Strm H l) (h : H p = some o) (d : ∀ xs, o ≠ .lst xs) : p ≠ l := fun z => by
  obtain ⟨c, e, n, hl⟩ := st
  rw [z, hl] at h
  exact d _ (Option.some.inj h).symm
theorem Strm.same {H H' : Hp} {l : Addr} (st : Strm H l) (s : Same H H') : Strm H' l := let ⟨c, e, n, h⟩ := st; ⟨c, e, n, s _ _ h⟩
theorem Strm.ne {H : Hp} {l p : Addr} (st : Strm H l) (h : H p = none) : p ≠ l := fun z => by
  obtain ⟨c, e, n, hl⟩ := st
  rw [z, hl] at h
  cases h
theorem RatAt.but {C : Addr} {H H' : Hp} {l p : Addr} {t b : Int} (h : RatAt C H p t b) (n : p ≠ l) (s : But l H H') : RatAt C H' p t b := let ⟨dx, e⟩ := h; ⟨dx, s _ _ n e⟩
theorem Pair.but {H H' : Hp} {l p : Addr} {t b : Int} (h : Pair H p t b) (n : p ≠ l) (s : But l H H') : Pair H' p t b := s _ _ n h
theorem rat_ne {C : Addr} {H : Hp} {l p : Addr} {t b : Int} (st : Strm H l) (h : RatAt C H p t b) : p ≠ l := let ⟨dx, e⟩ := h; strm_ne st e fun _ z => by cases z
theorem pair_ne {H : Hp} {l p : Addr} {t b : Int} (st : Strm H l) (h : Pair H p t b) : p ≠ l := strm_ne st h fun _ z => by cases z
theorem szN {z : Int} (h : z.natAbs ≤ 10 ^ 42) : Sz 200 z := Nat.lt_of_le_of_lt h (by decide +kernel)
theorem at_any {xs : List V} {d : Int} (h0 : 0 ≤ d) (h1 : d < (xs.length : Int)) : ∃ v, v ∈ xs ∧ atI xs d = some v := by
  obtain ⟨n, rfl⟩ := Int.eq_ofNat_of_zero_le h0
  have hn : n < xs.length := by omega
  exact ⟨xs[n], List.getElem_mem hn, atI_nat (List.getElem?_eq_getElem hn)⟩
/-- what is known of a number that was drawn -/
structure Num (t b : Int) : Prop where
  low : Low t b
  zt : t.natAbs ≤ 10 ^ 41
  zb : b.natAbs ≤ 10 ^ 41
theorem num_mk {t b : Int} (hb : b ≠ 0) (zt : t.natAbs ≤ 10 ^ 41) (zb : b.natAbs ≤ 10 ^ 41) : Num (nrmT t b) (nrmB t b) := by
  obtain ⟨l1, l2⟩ := nrm_le (p := t) hb
  exact ⟨nrm_low hb, Nat.le_trans l1 zt, Nat.le_trans l2 zb⟩
def spDrawn : Sp := fun vs H Q _ => ∃ l, vs = [.ref l] ∧ Strm H l ∧ ∀ q t b H', But l H H' → Strm H' l → Pair H' q t b → Num t b → t.natAbs ≤ 10 ^ 40 → b.natAbs ≤ 10 ^ 40 → Q (.ref q) H'
def spNear : Sp := fun vs H Q _ => ∃ l p t b, vs = [.ref l, .ref p] ∧ Strm H l ∧ Pair H p t b ∧ Num t b ∧ t.natAbs ≤ 10 ^ 40 ∧ b.natAbs ≤ 10 ^ 40 ∧ ∀ q t2 b2 H', But l H H' → Strm H' l → Pair H' q t2 b2 → Num t2 b2 → Q (.ref q) H'
def spLText : Sp := fun vs H Q _ => ∃ p t b, vs = [.ref p] ∧ Pair H p t b ∧ Sz 1900 t ∧ Sz 1900 b ∧ Q (.str (txt t b)) H
section
variable {P : Program} {w : World} {K : PySem.W.Frag} {mg : Str → Option Value} {base : Heap} {C E B f g h : Addr} {fd gd hd : FuncData}
theorem scDrawn : FnScope ["stream", "size"] ["stream"] (defScope sDrawn) := ⟨rfl, rfl, rfl, by decide +kernel, rfl, by decide +kernel, by decide +kernel⟩
theorem ok_drawn (F : FnP K "_law_drawn" "_law_drawn" sDrawn [] f fd) (T : Txt K mg C E B) (GD : GloOk P w K mg base CX0 1 "_law_draw" ["stream", "many"] spDraw) (GC : GloOk P w K mg base CX0 2 "_law_frac" ["top", "bottom"] spFrac) : FnOk P w K mg base CX0 3 f fd ["stream"] spDrawn := by
  obtain ⟨fD, fdD, GD, mD, kD, bD⟩ := GD
  obtain ⟨fC, fdC, GC, mC, kC, bC⟩ := GC
  refine F.ok scDrawn (fun vs H Q X z => ?_) (fun cdv A outer s H vs Q X hr z => ?_)
  · obtain ⟨l, rfl, _⟩ := z
    rfl
  · obtain ⟨l, rfl, st, k⟩ := z
    have hr1 : Room 1 _ := hr.mono (by decide)
    refine ⟨_, PSs.nox (pss_cons (ps_set (i := 1) scDrawn.nd rfl (Or.inl rfl) (pe_ix ix_list (pe_lst (pa_cons pe_int (pa_cons pe_int (pa_cons (pe_op op_pow pe_int pe_int) pa_nil)))) (pe_call GD hr1 rfl mD kD bD .nil pass0 (pa_cons (pv 0) (pa_cons pe_int pa_nil))) (fun _ _ => rfl)))
      (pss_one (ps_ret (pe_call GC hr rfl mC kC bC .nil pass0 (pa_cons (pe_op op_sub (pe_call GD hr1 rfl mD kD bD .nil pass0 (pa_cons (pv 0) (pa_cons (pe_op op_add (pe_op op_mul pe_int (pv 1)) pe_int) pa_nil))) (pv 1))
        (pa_cons (pe_op op_add pe_int (pe_call GD hr1 rfl mD kD bD .nil pass0 (pa_cons (pv 0) (pa_cons (pe_ix ix_list (pe_lst (pa_cons pe_int (pa_cons pe_int (pa_cons (pe_op op_pow pe_int pe_int) pa_nil)))) (pe_call GD hr1 rfl mD kD bD .nil pass0 (pa_cons (pv 0) (pa_cons pe_int pa_nil))) (fun _ _ => rfl)) pa_nil)))) pa_nil)))))), ?_⟩
    refine ⟨_, _, rfl, rfl, ⟨by decide, by decide, by decide⟩, (by show 3 ≤ sizeLine; decide), fun p hp => ?_⟩
    have npl : p ≠ l := st.ne hp
    refine ⟨_, rfl, l, 3, rfl, st.same (new hp), by decide, by unfold Sz; decide +kernel, fun d H1 h0 h1 b1 s1 => ?_⟩
    have hp1 := b1 p _ npl upd_same
    obtain ⟨v, hv, ha⟩ := at_any (xs := [V.int 3, V.int 40, V.int (10 ^ (40 : Int).toNat)]) h0 h1
    obtain ⟨z, rfl, z0, z1⟩ : ∃ z : Int, v = .int z ∧ 0 < z ∧ z.natAbs ≤ 10 ^ 40 := by
      rcases List.mem_cons.mp hv with e | hv
      · exact ⟨3, e, by decide, by decide⟩
      rcases List.mem_cons.mp hv with e | hv
      · exact ⟨40, e, by decide, by decide⟩
      rcases List.mem_cons.mp hv with e | hv
      · exact ⟨_, e, by decide, by decide⟩
      · cases hv
    refine ⟨p, _, d, _, rfl, rfl, SqL.of hp1, ha, ?_⟩
    have hz : Sz 8000 (2 * z + 1) := by
      have h2 : (2 * z + 1).natAbs < 10 ^ 42 := by omega
      exact Nat.lt_of_lt_of_le h2 (by decide +kernel)
    have a1 : But l H H1 := (But.of (new hp)).trans b1
    refine ⟨_, rfl, _, rfl, _, _, rfl, rfl, .inl ⟨by decide, by decide⟩, _, _, rfl, rfl, l, _, rfl, s1, by omega, hz, fun d2 H2 g0 g1 b2 s2 => ?_⟩
    refine ⟨_, rfl, _, _, rfl, rfl, ?_⟩
    refine ⟨_, rfl, _, _, rfl, rfl, ⟨by decide, by decide, by decide⟩, (by show 3 ≤ sizeLine; decide), fun p2 hp2 => ?_⟩
    have npl2 : p2 ≠ l := s2.ne hp2
    refine ⟨_, rfl, l, 3, rfl, s2.same (new hp2), by decide, by unfold Sz; decide +kernel, fun d3 H3 h30 h31 b3 s3 => ?_⟩
    have hp3 := b3 p2 _ npl2 upd_same
    obtain ⟨v, hv, ha⟩ := at_any (xs := [V.int 1, V.int 6, V.int (10 ^ (20 : Int).toNat)]) h30 h31
    obtain ⟨m, rfl, m0, m1⟩ : ∃ z : Int, v = .int z ∧ 0 < z ∧ z.natAbs ≤ 10 ^ 20 := by
      rcases List.mem_cons.mp hv with e | hv
      · exact ⟨1, e, by decide, by decide⟩
      rcases List.mem_cons.mp hv with e | hv
      · exact ⟨6, e, by decide, by decide⟩
      rcases List.mem_cons.mp hv with e | hv
      · exact ⟨_, e, by decide, by decide⟩
      · cases hv
    refine ⟨p2, _, d3, _, rfl, rfl, SqL.of hp3, ha, ?_⟩
    refine ⟨l, _, rfl, s3, m0, Nat.lt_of_le_of_lt m1 (by decide +kernel), fun d4 H4 g40 g41 b4 s4 => ?_⟩
    refine ⟨_, _, rfl, rfl, ?_⟩
    have hd : 1 + d4 ≠ 0 := by omega
    have zt : (d2 - z).natAbs ≤ 10 ^ 40 := by omega
    have zb : (1 + d4).natAbs ≤ 10 ^ 21 := by omega
    refine ⟨_, _, rfl, hd, Nat.lt_of_le_of_lt zb (by decide +kernel), fun q H5 s5 _ pr => ?_⟩
    have nm := num_mk (t := d2 - z) hd (by omega) (by omega)
    obtain ⟨l1, l2⟩ := nrm_le (p := d2 - z) hd
    refine k q _ _ H5 (a1.trans (b2.trans ((But.of (new hp2)).trans (b3.trans (b4.trans (But.of s5)))))) (s4.same s5) pr nm (by omega) (by omega)
theorem scNear : FnScope ["stream", "one", "kind"] ["stream", "one"] (defScope sNear) := ⟨rfl, rfl, rfl, by decide +kernel, rfl, by decide +kernel, by decide +kernel⟩
theorem ok_near (F : FnP K "_law_near" "_law_near" sNear [] f fd) (T : Txt K mg C E B) (GD : GloOk P w K mg base CX0 1 "_law_draw" ["stream", "many"] spDraw) (GC : GloOk P w K mg base CX0 2 "_law_frac" ["top", "bottom"] spFrac)
    (GN : GloOk P w K mg base CX0 3 "_law_drawn" ["stream"] spDrawn) : FnOk P w K mg base CX0 4 f fd ["stream", "one"] spNear := by
  obtain ⟨fD, fdD, GD, mD, kD, bD⟩ := GD
  obtain ⟨fC, fdC, GC, mC, kC, bC⟩ := GC
  obtain ⟨fN, fdN, GN, mN, kN, bN⟩ := GN
  refine F.ok scNear (fun vs H Q X z => ?_) (fun cdv A outer s H vs Q X hr z => ?_)
  · obtain ⟨l, p, t, b, rfl, _⟩ := z
    rfl
  · obtain ⟨l, p, t, b, rfl, st, hp, nm, zt, zb, k⟩ := z
    have hr1 : Room 1 _ := hr.mono (by decide)
    have hr2 : Room 2 _ := hr.mono (by decide)
    refine ⟨_, PSs.nox (pss_cons (ps_set (i := 2) scNear.nd rfl (Or.inl rfl) (pe_call GD hr1 rfl mD kD bD .nil pass0 (pa_cons (pv 0) (pa_cons pe_int pa_nil))))
      (pss_cons (ps_if (pt_cmpR op_eq (pv 2) pe_int (nomark _)) (pss_one (ps_ret (pv 1))) pss_nil)
      (pss_cons (ps_if (pt_cmpR op_eq (pv 2) pe_int (nomark _)) (pss_one (ps_ret (pe_call GC hr2 rfl mC kC bC .nil pass0 (pa_cons (pe_op op_sub (pe_op op_add (pe_ix ix_tup (pv 1) pe_int (fun _ _ => rfl)) (pe_call GD hr1 rfl mD kD bD .nil pass0 (pa_cons (pv 0) (pa_cons pe_int pa_nil)))) pe_int)
          (pa_cons (pe_ix ix_tup (pv 1) pe_int (fun _ _ => rfl)) pa_nil))))) pss_nil)
      (pss_one (ps_ret (pe_call GN hr rfl mN kN bN .nil pass0 (pa_cons (pv 0) pa_nil))))))), ?_⟩
    have npl := pair_ne st hp
    refine ⟨_, rfl, l, 3, rfl, st, by decide, by unfold Sz; decide +kernel, fun d H1 d0 d1 b1 s1 => ?_⟩
    have hp1 := hp.but npl b1
    refine ⟨_, rfl, rfl, _, rfl, ?_⟩
    rcases Decidable.em (V.int d = V.int 0) with c | c
    · refine itT (decide_eq_true c) ⟨_, rfl, k p t b H1 b1 s1 hp1 nm⟩
    · refine itF (decide_eq_false c) ⟨_, rfl, rfl, _, rfl, ?_⟩
      rcases Decidable.em (V.int d = V.int 1) with c' | c'
      · refine itT (decide_eq_true c') ?_
        refine ⟨_, rfl, p, _, _, V.int t, rfl, rfl, SqT.of hp1, at_of (j := 0) rfl rfl, _, rfl, l, 3, rfl, s1, by decide, by unfold Sz; decide +kernel, fun e H2 e0 e1 b2 s2 => ?_⟩
        have hp2 := hp1.but npl b2
        refine ⟨_, _, rfl, rfl, _, _, rfl, rfl, _, rfl, p, _, _, V.int b, rfl, rfl, SqT.of hp2, at_of (j := 1) rfl rfl, ?_⟩
        have hb : b ≠ 0 := Int.ne_of_gt nm.low.pos
        refine ⟨t + e - 1, b, rfl, hb, Nat.lt_of_le_of_lt zb (by decide +kernel), fun q H3 s3 _ pr => ?_⟩
        exact k q _ _ H3 (b1.trans (b2.trans (But.of s3))) (s2.same s3) pr (num_mk hb (by omega) (by omega))
      · refine itF (decide_eq_false c') ?_
        exact ⟨_, rfl, l, rfl, s1, fun q t2 b2 H2 bb s2 pr n2 _ _ => k q t2 b2 H2 (b1.trans bb) s2 pr n2⟩
theorem scLText : FnScope ["one"] ["one"] (defScope sLText) := ⟨rfl, rfl, rfl, by decide +kernel, rfl, by decide +kernel, by decide +kernel⟩
theorem ok_ltext (F : FnP K "_law_text" "_law_text" sLText [] f fd) (T : Txt K mg C E B) (hst : mg "str" = none) : FnOk P w K mg base CX0 1 f fd ["one"] spLText := by
  refine F.ok scLText (fun vs H Q X z => ?_) (fun cdv A outer s H vs Q X hr z => ?_)
  · obtain ⟨p, t, b, rfl, _⟩ := z
    rfl
  · obtain ⟨p, t, b, rfl, hp, z1, z2, k⟩ := z
    refine ⟨_, PSs.nox (pss_cons (ps_if (pt_cmpR op_eq (pe_ix ix_tup (pv 0) pe_int (fun _ _ => rfl)) pe_int (nomark _)) (pss_one (ps_ret (pe_callTy call_str_int (by rfl) hst (by decide +kernel) (pa_cons (pe_ix ix_tup (pv 0) pe_int (fun _ _ => rfl)) pa_nil)))) pss_nil)
      (pss_one (ps_ret (pe_op op_add_str (pe_op op_add_str (pe_callTy call_str_int (by rfl) hst (by decide +kernel) (pa_cons (pe_ix ix_tup (pv 0) pe_int (fun _ _ => rfl)) pa_nil)) pe_str) (pe_callTy call_str_int (by rfl) hst (by decide +kernel) (pa_cons (pe_ix ix_tup (pv 0) pe_int (fun _ _ => rfl)) pa_nil)))))), ?_⟩
    refine ⟨_, rfl, p, _, _, V.int b, rfl, rfl, SqT.of hp, at_of (j := 1) rfl rfl, rfl, _, rfl, ?_⟩
    unfold txt at k
    rcases Decidable.em (b = 1) with c | c
    · refine itT (decide_eq_true (congrArg V.int c)) ?_
      rw [if_pos c] at k
      exact ⟨_, rfl, p, _, _, V.int t, rfl, rfl, SqT.of hp, at_of (j := 0) rfl rfl, _, rfl, log19 z1, k⟩
    · refine itF (decide_eq_false fun z => c (V.int.inj z)) ?_
      rw [if_neg c] at k
      have l1 := len19 z1
      have l2 := len19 z2
      have big : 5000 ≤ sizeLine := by decide
      refine ⟨_, rfl, p, _, _, V.int t, rfl, rfl, SqT.of hp, at_of (j := 0) rfl rfl, _, rfl, log19 z1, _, _, rfl, rfl, Nat.le_trans (show _ + 1 ≤ 5000 by omega) big, ?_⟩
      refine ⟨_, rfl, p, _, _, V.int b, rfl, rfl, SqT.of hp, at_of (j := 1) rfl rfl, _, rfl, log19 z2, _, _, rfl, rfl, Nat.le_trans (by rw [str_len]; exact (show _ + 1 + _ ≤ 5000 by omega)) big, k⟩
end
end K3

set_option Elab.async false
set_option linter.all false
set_option maxRecDepth 100000
set_option maxHeartbeats 4000000
namespace K3
open PySem L2 Rt TL
abbrev sDig : Stmt := top 25
abbrev sDue : Stmt := top 26
/-- the signs that are no digits -/
def odds (l : List Nat) : List Nat := l.filter fun c => !decide (c ∈ DG.cps.toList)
def sgn (l : List Nat) : List V := l.map fun c => V.str ⟨#[c]⟩
theorem odds_nil (l : List Nat) : odds l = [] ↔ NumText.AllDigits l := by
  unfold odds NumText.AllDigits
  rw [List.filter_eq_nil_iff]
  constructor
  · intro h c hc
    have := h c hc
    exact (mem_dg c).mp (by simpa using this)
  · intro h c hc
    rw [decide_eq_true ((mem_dg c).mpr (h c hc))]
    decide
def spDig : Sp := fun vs H Q _ => ∃ z : Str, vs = [.str z] ∧ z.length ≤ 1000 ∧ ∀ H', Same H H' → (Dg (tl z) → Q (.bl true) H') ∧ (¬ Dg (tl z) → Q (.bl false) H')
section
variable {P : Program} {w : World} {K : PySem.W.Frag} {mg : Str → Option Value} {base : Heap} {C E B f g h : Addr} {fd gd hd : FuncData}
theorem scDig : FnScope ["text", "char"] ["text"] (defScope sDig) := ⟨rfl, rfl, rfl, by decide +kernel, rfl, by decide +kernel, by decide +kernel⟩
theorem ok_dig (F : FnP K "_law_is_digits" "_law_is_digits" sDig [] f fd) (T : Txt K mg C E B) : FnOk P w K mg base CX0 1 f fd ["text"] spDig := by
  refine F.ok scDig (fun vs H Q X z => ?_) (fun cdv A outer s H vs Q X hr z => ?_)
  · obtain ⟨z, rfl, _⟩ := z
    rfl
  · obtain ⟨z, rfl, hz, k⟩ := z
    refine ⟨_, PSs.nox (pss_one (ps_ret (pe_and (pe_chain op_lt op_le pe_int (pe_callB call_len_str (by rfl) T.len PySem.boot_len (pa_cons (pv 0) pa_nil)) pe_int)
      (pe_one (pe_cmpR op_eq (pe_callB call_len_seq (by rfl) T.len PySem.boot_len (pa_cons
        (pe_lc (own := [("char", 1)]) (g := gName 1) (by rfl) scDig.nd (pi_str (pv 0)) (blkOk_by (own := [("char", 1)]) (N := ["text", "char"]) (sc := defScope sDig) (by decide +kernel)) (fun _ _ _ _ _ => pg_name (i := 1) scDig.nd rfl (Or.inl rfl))
          (fun _ _ _ _ _ => pts_one (pt_cmpR (r := rNotInS) op_notInS (pv 1) pe_str (by rfl))) (fun _ _ _ _ _ => pv 1)) pa_nil)) pe_int (nomark _)))))), ?_⟩
    refine ⟨_, rfl, z, rfl, big1000 hz, _, _, rfl, rfl, _, rfl, ?_⟩
    have lz : z.length = (tl z).length := len_tl z
    by_cases c1 : (0 : Int) < (z.length : Int)
    · refine itT (decide_eq_true c1) ⟨_, _, rfl, rfl, _, rfl, ?_⟩
      by_cases c2 : (z.length : Int) ≤ 60
      · refine itT (decide_eq_true c2) ?_
        refine ⟨_, rfl, z, rfl, fun D nD => lc_it walk_str (fun i H' => Same H H' ∧ H' D = some (.lst (sgn (odds ((tl z).take i))))) ⟨new nD, upd_same⟩ (fun _ _ _ _ => trivial) ?_ ?_⟩
        · rintro i x H5 H6 hi ⟨s5, hD5⟩ ⟨rfl, c, hc, rfl⟩
          refine ⟨rfl, ?_⟩
          have nx : (tl z).take (i + 1) = (tl z).take i ++ [c] := by
            rw [List.take_add_one, get_tl hc]
            rfl
          refine ⟨_, rfl, c, DG, rfl, rfl, _, rfl, ?_⟩
          by_cases c3 : c ∈ DG.cps.toList
          · refine itF (by rw [decide_eq_true c3]; rfl) ⟨s5, ?_⟩
            rw [nx, hD5]
            unfold odds
            rw [List.filter_append, List.filter_cons_of_neg (by rw [decide_eq_true c3]; decide), List.filter_nil, List.append_nil]
          · refine itT (by rw [decide_eq_false c3]; rfl) ⟨_, rfl, _, hD5, ?_, fun b o e => ?_, ?_⟩
            · unfold sgn
              rw [List.length_map]
              refine Nat.lt_of_le_of_lt (List.length_filter_le _ _) ?_
              rw [List.length_take]
              exact Nat.lt_of_lt_of_le (show min i _ < 1001 by have : z.cps.size ≤ 1000 := hz; omega) (show 1001 ≤ sizeLine by decide)
            · rw [upd_ne (ne_of_none e nD)]
              exact s5 _ _ e
            · rw [upd_same, nx]
              unfold odds sgn
              rw [List.filter_append, List.filter_cons_of_pos (by rw [decide_eq_false c3]; rfl), List.filter_nil, List.map_append]
              rfl
        · rintro H5 ⟨s5, hD5⟩
          have e5 : H5 D = some (.lst (sgn (odds (tl z)))) := by
            rw [hD5, List.take_of_length_le]
            exact Nat.le_of_eq rfl
          obtain ⟨k1, k2⟩ := k H5 s5
          refine ⟨D, _, rfl, .inl (SqL.of e5), rfl, ?_⟩
          by_cases c4 : odds (tl z) = []
          · rw [show decide (V.int ((sgn (odds (tl z))).length : Int) = V.int 0) = true by rw [c4]; decide +kernel]
            exact k1 ⟨fun e => by rw [e] at lz; simp at lz; omega, by omega, (odds_nil _).mp c4⟩
          · rw [decide_eq_false fun e => c4 ?_]
            · exact k2 fun g => c4 ((odds_nil _).mpr g.al)
            · have e' := V.int.inj e
              unfold sgn at e'
              rw [List.length_map] at e'
              exact List.length_eq_zero_iff.mp (by omega)
      · refine itF (decide_eq_false c2) ?_
        exact (k H (Same.refl H)).2 fun g => by have := g.le; omega
    · refine itF (decide_eq_false c1) ⟨_, rfl, iteF ?_⟩
      exact (k H (Same.refl H)).2 fun g => by have := List.length_pos_iff.mpr g.ne; omega
/-- if size[:1] == '-': size = size[1:] -/
theorem cut_tl1 (z : Str) : tl (cutS z none (some 1)) = (tl z).take 1 := by
  show (z.cps.toList.drop (HT.sIx z.length 0 none)).take (HT.sIx z.length z.length (some ((1 : Nat) : Int)) - HT.sIx z.length 0 none) = _
  rw [HT.sIx_none, HT.sIx_nat]
  show ((tl z).drop 0).take (min 1 z.length - 0) = _
  rw [List.drop_zero, Nat.sub_zero]
  by_cases h : z.length = 0
  · rw [len_tl] at h
    rw [List.length_eq_zero_iff.mp h, List.take_nil, List.take_nil]
  · rw [Nat.min_eq_left (by omega)]
theorem cut_dr1 (z : Str) : tl (cutS z (some 1) none) = (tl z).drop 1 := by
  show (z.cps.toList.drop (HT.sIx z.length 0 (some ((1 : Nat) : Int)))).take (HT.sIx z.length z.length none - HT.sIx z.length 0 (some ((1 : Nat) : Int))) = _
  rw [HT.sIx_none, HT.sIx_nat]
  by_cases h : z.length = 0
  · rw [len_tl] at h
    show ((tl z).drop _).take _ = _
    rw [List.length_eq_zero_iff.mp h]
    rw [List.drop_nil, List.drop_nil, List.take_nil]
  · rw [Nat.min_eq_left (by omega)]
    rw [List.take_of_length_le]
    rw [List.length_drop]
    exact Nat.le_refl _
theorem join_size {D : Ends} {rest : TS} {σ : St} {H : Hp} {A0 : Str} (h2 : σ[2]? = some (some (.str A0))) (hl : A0.length ≤ 1000) (hσ : σ.set 2 (some (.str A0)) = σ)
    (k : ∀ U : Str, tl U = un (tl A0) → U.length ≤ 1000 → rest D (σ.set 2 (some (.str U))) H) :
    tSeq (tIfS (tTest (tOp rEq (tSl rSlS (tVar 2) tNoPart (tPart (tC (.int 1)))) (tC (.str "-")))) (tAsg (tSl rSlS (tVar 2) (tPart (tC (.int 1))) tNoPart) (gName 2)) tNext) rest D σ H := by
  refine ⟨_, h2, _, rfl, A0, rfl, big1000 hl, rfl, _, rfl, ?_⟩
  have e0 : tl ("-" : Str) = [45] := by decide +kernel
  by_cases c : cutS A0 none (some 1) = "-"
  · refine itT (decide_eq_true (congrArg V.str c)) ?_
    refine ⟨_, h2, _, rfl, A0, rfl, big1000 hl, ?_⟩
    refine k _ ?_ (Nat.le_trans (cutS_length _ _ _) hl)
    have c' := congrArg tl c
    rw [cut_tl1, e0] at c'
    rw [cut_dr1]
    unfold un
    rw [if_pos]
    cases e : tl A0 with
    | nil => rw [e] at c'; cases c'
    | cons x r =>
      rw [e] at c'
      have : x = 45 := (List.cons.inj c').1
      rw [this]
      rfl
  · refine itF (decide_eq_false fun e => c (V.str.inj e)) ?_
    have z := k A0 ?_ hl
    · rw [hσ] at z
      exact z
    · unfold un
      rw [if_neg]
      intro hh
      refine c (ext_tl ?_)
      rw [cut_tl1, e0]
      cases e : tl A0 with
      | nil => rw [e] at hh; cases hh
      | cons x r =>
        rw [e] at hh
        have : x = 45 := Option.some.inj hh
        rw [this]
        rfl
theorem spl_ne (l : List Nat) : ∃ x r, spl [47] 0 [] l = x :: r := by
  by_cases f : 47 ∈ l
  · obtain ⟨a, c, e, fa⟩ := cut_ex f
    exact ⟨[] ++ a, spl [47] 0 [] c, by rw [e]; exact spl_part1 (s := 47) (S := []) (acc := []) fa⟩
  · exact ⟨[] ++ l, [], spl_last1 f⟩
/-- the parts of a text -/
theorem split_of (z : Str) (hz : z.length ≤ 1000) : ∃ A0 rest, Txt.split z "/" = A0 :: rest ∧ A0.length ≤ 1000 ∧
    ((47 ∉ tl z ∧ A0 = z ∧ rest = []) ∨ (∃ D : Str, tl z = tl A0 ++ 47 :: tl D ∧ 47 ∉ tl A0 ∧ D.length ≤ 1000 ∧ ((47 ∉ tl D ∧ rest = [D]) ∨ (47 ∈ tl D ∧ 2 ≤ rest.length)))) := by
  have e0 : tl ("/" : Str) = [47] := by decide +kernel
  have sp := split_spl z "/" (by rw [e0]; simp) (kind_ok (by decide +kernel))
  rw [e0] at sp
  by_cases f : 47 ∈ tl z
  · obtain ⟨a, c, e, fa⟩ := cut_ex f
    have lz : z.length = a.length + (c.length + 1) := by rw [len_tl, e, List.length_append]; rfl
    have s1 : spl [47] 0 [] (tl z) = a :: spl [47] 0 [] c := by
      rw [e]
      exact spl_part1 (s := 47) (S := []) (acc := []) fa
    rw [s1] at sp
    cases es : Txt.split z "/" with
    | nil => rw [es] at sp; cases sp
    | cons A0 rest =>
      rw [es] at sp
      obtain ⟨p1, p2⟩ := List.cons.inj sp
      have la : A0.length = a.length := by rw [len_tl, p1]
      refine ⟨A0, rest, rfl, by omega, .inr ⟨⟨c.toArray⟩, by rw [p1]; exact e, by rw [p1]; exact fa, by rw [len_tl, tl_mk]; omega, ?_⟩⟩
      by_cases fc : 47 ∈ c
      · refine .inr ⟨fc, ?_⟩
        obtain ⟨a2, c2, e2, fa2⟩ := cut_ex fc
        have s2 : spl [47] 0 [] c = a2 :: spl [47] 0 [] c2 := by
          rw [e2]
          exact spl_part1 (s := 47) (S := []) (acc := []) fa2
        obtain ⟨x, r, ex⟩ := spl_ne c2
        have l2 := congrArg List.length p2
        rw [s2, ex, List.length_map, List.length_cons, List.length_cons] at l2
        omega
      · refine .inl ⟨fc, ?_⟩
        rw [spl_last1 fc] at p2
        cases rest with
        | nil => cases p2
        | cons D r =>
          obtain ⟨q1, q2⟩ := List.cons.inj p2
          rw [List.map_eq_nil_iff.mp q2]
          exact congrArg (· :: []) (ext_tl q1)
  · rw [spl_last1 f] at sp
    cases es : Txt.split z "/" with
    | nil => rw [es] at sp; cases sp
    | cons A0 rest =>
      rw [es] at sp
      obtain ⟨p1, p2⟩ := List.cons.inj sp
      have r0 := List.map_eq_nil_iff.mp p2
      have a0 : A0 = z := ext_tl p1
      subst r0 a0
      exact ⟨_, _, rfl, hz, .inl ⟨f, rfl, rfl⟩⟩
end
end K3

set_option Elab.async false
set_option linter.all false
set_option maxRecDepth 100000
set_option maxHeartbeats 4000000
namespace K3
open PySem L2 Rt TL
def spDue (K : PySem.W.Frag) : Sp := fun vs H Q _ => ∃ x, vs = [x] ∧
  ((∃ z : Str, x = .str z ∧ z.length ≤ 1000 ∧ (∀ t b q H', Good z t b → Same H H' → Pair H' q t b → Q (.ref q) H') ∧ (NoG z → ∀ H', Same H H' → Q .non H')) ∨ (NoTxt K H x ∧ Q .non H))
theorem no21 : ¬ ((2 : Int) < ((1 : Nat) : Int)) := by decide
theorem no22 : ¬ ((2 : Int) < ((2 : Nat) : Int)) := by decide
theorem no12 : ¬ (V.int ((1 : Nat) : Int) = V.int 2) := by decide +kernel
theorem sz60' {z : Int} (h : z.natAbs < 10 ^ 60) : Sz 4900 z := (sz60 h).mono (by decide)
section
variable {P : Program} {w : World} {K : PySem.W.Frag} {mg : Str → Option Value} {base : Heap} {C E B f g h : Addr} {fd gd hd : FuncData}
theorem scDue : FnScope ["text", "parts", "size", "top", "bottom"] ["text"] (defScope sDue) := ⟨rfl, rfl, rfl, by decide +kernel, rfl, by decide +kernel, by decide +kernel⟩
theorem ok_due (F : FnP K "_law_due" "_law_due" sDue [] f fd) (T : Txt K mg C E B) (hst : mg "str" = none) (GD : GloOk P w K mg base CX0 1 "_law_is_digits" ["text"] spDig) (GC : GloOk P w K mg base CX0 2 "_law_frac" ["top", "bottom"] spFrac)
    (GT : GloOk P w K mg base CX0 1 "_law_text" ["one"] spLText) : FnOk P w K mg base CX0 3 f fd ["text"] (spDue K) := by
  obtain ⟨fD, fdD, GD, mD, kD, bD⟩ := GD
  obtain ⟨fC, fdC, GC, mC, kC, bC⟩ := GC
  obtain ⟨fT, fdT, GT, mT, kT, bT⟩ := GT
  refine F.ok scDue (fun vs H Q X z => ?_) (fun cdv A outer s H vs Q X hr z => ?_)
  · obtain ⟨x, rfl, _⟩ := z
    rfl
  · obtain ⟨x, rfl, z⟩ := z
    have hr1 : Room 1 _ := hr.mono (by decide)
    refine ⟨_, PSs.nox (pss_cons (ps_if (pt_not (pt_val (pe_callB call_isi (by rfl) T.isinst (by decide +kernel) (pa_cons (pv 0) (pa_cons (pe_bltn (v := .ty "str") (by rfl) hst (by decide +kernel) rfl) pa_nil))))) (pss_one (ps_ret pe_non)) pss_nil)
      (pss_cons (ps_set (i := 1) scDue.nd rfl (Or.inl rfl) (pe_split (pv 0) pe_str))
      (pss_cons (ps_set (i := 2) scDue.nd rfl (Or.inl rfl) (pe_ix ix_list (pv 1) pe_int (fun _ _ => rfl)))
      (pss_cons (ps_if (pt_cmpR op_eq (pe_slice sl_str (pv 2) po_none (po_some pe_int)) pe_str (nomark _)) (pss_one (ps_set (i := 2) scDue.nd rfl (Or.inl rfl) (pe_slice sl_str (pv 2) (po_some pe_int) po_none))) pss_nil)
      (pss_cons (ps_if (PW.pt (pw_or (pt_cmpR op_gt (pe_callB call_len_seq (by rfl) T.len PySem.boot_len (pa_cons (pv 1) pa_nil)) pe_int (nomark _))
          (pw_or (pt_not (pt_val (pe_call GD hr1 rfl mD kD bD .nil pass0 (pa_cons (pv 2) pa_nil))))
          (pw_or1 (PW.pt (pw_and (pt_cmpR op_eq (pe_callB call_len_seq (by rfl) T.len PySem.boot_len (pa_cons (pv 1) pa_nil)) pe_int (nomark _)) (pw_and1 (pt_not (pt_val (pe_call GD hr1 rfl mD kD bD .nil pass0 (pa_cons (pe_ix ix_list (pv 1) pe_int (fun _ _ => rfl)) pa_nil))))))))))) (pss_one (ps_ret pe_non)) pss_nil)
      (pss_cons (ps_set (i := 3) scDue.nd rfl (Or.inl rfl) (pe_callTy call_int_str (by rfl) T.int (by decide +kernel) (pa_cons (pe_ix ix_list (pv 1) pe_int (fun _ _ => rfl)) pa_nil)))
      (pss_cons (ps_set (i := 4) scDue.nd rfl (Or.inl rfl) pe_int)
      (pss_cons (ps_if (pt_cmpR op_eq (pe_callB call_len_seq (by rfl) T.len PySem.boot_len (pa_cons (pv 1) pa_nil)) pe_int (nomark _)) (pss_one (ps_set (i := 4) scDue.nd rfl (Or.inl rfl) (pe_callTy call_int_str (by rfl) T.int (by decide +kernel) (pa_cons (pe_ix ix_list (pv 1) pe_int (fun _ _ => rfl)) pa_nil)))) pss_nil)
      (pss_cons (ps_if (PW.pt (pw_or (pt_cmpR op_eq (pv 4) pe_int (nomark _)) (pw_or1 (pt_cmpR op_ne (pe_call GT hr1 rfl mT kT bT .nil pass0 (pa_cons (pe_call GC hr rfl mC kC bC .nil pass0 (pa_cons (pv 3) (pa_cons (pv 4) pa_nil))) pa_nil)) (pv 0) (nomark _))))) (pss_one (ps_ret pe_non)) pss_nil)
      (pss_one (ps_ret (pe_call GC hr rfl mC kC bC .nil pass0 (pa_cons (pv 3) (pa_cons (pv 4) pa_nil)))))))))))))), ?_⟩
    rcases z with ⟨z, rfl, hz, k1, k2⟩ | ⟨⟨ty, hty, hk⟩, k⟩
    · refine ⟨_, rfl, _, .ty "str", .type "str", _, true, rfl, .ty _, .base (.str z), kit_ty (by decide +kernel), true, rfl, iteF ?_⟩
      obtain ⟨A0, rest, es, lA, cs⟩ := split_of z hz
      refine ⟨_, rfl, ⟨z, rfl⟩, z, "/", rfl, rfl, by decide, Nat.le_trans (show z.length + 2 ≤ 2000 by omega) (by decide), fun p hp => ?_⟩
      rw [es]
      have s1 : Same H (upd H p (.lst ((A0 :: rest).map V.str))) := new hp
      have hp1 : (upd H p (.lst ((A0 :: rest).map V.str))) p = some (.lst (V.str A0 :: rest.map V.str)) := upd_same
      refine ⟨_, rfl, p, _, _, V.str A0, rfl, rfl, SqL.of hp1, at_of (j := 0) rfl rfl, ?_⟩
      refine gname_step ?_
      refine join_size (A0 := A0) rfl lA rfl fun U hU lU => ?_
      refine ⟨_, rfl, p, _, rfl, .inl (SqL.of hp1), _, _, rfl, rfl, _, rfl, ?_⟩
      rcases cs with ⟨nf, rfl, rfl⟩ | ⟨D, ez, nf, lD, ⟨nD, rfl⟩ | ⟨nD, l2⟩⟩
      · refine itF (decide_eq_false no21) ?_
        refine ⟨_, rfl, U, rfl, lU, fun H2 s2 => ⟨fun g => ?_, fun g => ?_⟩⟩
        · rw [hU] at g
          have f2 := s1.trans s2
          have hp2 := s2 _ _ hp1
          refine ⟨_, rfl, itF rfl ?_⟩
          refine ⟨_, rfl, p, _, rfl, .inl (SqL.of hp2), rfl, _, rfl, itF (decide_eq_false no12) (iteF ?_)⟩
          have l61 : A0.length ≤ 640 := by
            have := g.le
            have := un_len (tl A0)
            rw [len_tl]
            omega
          refine ⟨_, rfl, p, _, _, V.str A0, rfl, rfl, SqL.of hp2, at_of (j := 0) rfl rfl, A0, _, rfl, int_un g, l61, ?_⟩
          refine ⟨_, rfl, p, _, rfl, .inl (SqL.of hp2), rfl, _, rfl, itF (decide_eq_false no12) ?_⟩
          have zn := intZ_lt g
          refine ⟨_, rfl, rfl, _, rfl, itF (decide_eq_false (by decide)) ?_⟩
          refine ⟨_, rfl, _, rfl, _, _, rfl, by decide, by unfold Sz; decide +kernel, fun q H3 s3 _ pr => ?_⟩
          obtain ⟨le1, le2⟩ := nrm_le (p := intZ (tl A0)) (q := 1) (by decide)
          refine ⟨q, _, _, rfl, pr, sz60 (Nat.lt_of_le_of_lt le1 zn), sz60 (Nat.lt_of_le_of_lt le2 (by decide +kernel)), _, rfl, rfl, _, rfl, ?_⟩
          by_cases et : txt (nrmT (intZ (tl A0)) 1) (nrmB (intZ (tl A0)) 1) = A0
          · refine itF (by rw [decide_eq_true (congrArg V.str et)]; rfl) ?_
            refine ⟨_, rfl, _, rfl, _, _, rfl, by decide, by unfold Sz; decide +kernel, fun q H4 s4 _ pr => ?_⟩
            exact k1 _ _ q H4 (good_mk (by decide) zn (by decide +kernel) et) (f2.trans (s3.trans s4)) pr
          · refine itT (by rw [decide_eq_false fun y => et (V.str.inj y)]; rfl) (k2 (good_no (by decide) (fun t b gd => ⟨(whole_fg gd nf).2.1, (whole_fg gd nf).2.2.symm⟩) et) _ (f2.trans s3))
        · rw [hU] at g
          exact ⟨_, rfl, itT rfl (iteT (k2 (fun t b gd => g (whole_fg gd nf).1.1) _ (s1.trans s2)))⟩
      · refine itF (decide_eq_false no22) ?_
        refine ⟨_, rfl, U, rfl, lU, fun H2 s2 => ⟨fun g => ?_, fun g => ?_⟩⟩
        · rw [hU] at g
          have f2 := s1.trans s2
          have hp2 := s2 _ _ hp1
          refine ⟨_, rfl, itF rfl ?_⟩
          refine ⟨_, rfl, p, _, rfl, .inl (SqL.of hp2), rfl, _, rfl, itT (decide_eq_true rfl) ?_⟩
          refine ⟨_, rfl, p, _, _, V.str D, rfl, rfl, SqL.of hp2, at_of (j := 1) rfl rfl, D, rfl, lD, fun H3 s3 => ⟨fun g' => ?_, fun g' => ?_⟩⟩
          · have f3 := f2.trans s3
            have hp3 := s3 _ _ hp2
            refine ⟨_, rfl, iteF ?_⟩
            have l61 : A0.length ≤ 640 := by
              have := g.le
              have := un_len (tl A0)
              rw [len_tl]
              omega
            have l60 : D.length ≤ 640 := by
              have := g'.le
              rw [len_tl]
              omega
            refine ⟨_, rfl, p, _, _, V.str A0, rfl, rfl, SqL.of hp3, at_of (j := 0) rfl rfl, A0, _, rfl, int_un g, l61, ?_⟩
            have ud : un (tl D) = tl D := un_digits g'.al
            have vd : intZ (tl D) = ((NumText.digitsVal (tl D) : Nat) : Int) := intZ_digits g'.al
            refine ⟨_, rfl, p, _, rfl, .inl (SqL.of hp3), rfl, _, rfl, itT (decide_eq_true rfl) ?_⟩
            refine ⟨_, rfl, p, _, _, V.str D, rfl, rfl, SqL.of hp3, at_of (j := 1) rfl rfl, D, _, rfl, int_un (by rw [ud]; exact g'), l60, ?_⟩
            have zn := intZ_lt g
            have zd : (intZ (tl D)).natAbs < 10 ^ 60 := intZ_lt (by rw [ud]; exact g')
            refine ⟨_, rfl, rfl, _, rfl, ?_⟩
            by_cases d0 : intZ (tl D) = 0
            · refine itT (decide_eq_true (congrArg V.int d0)) (iteT (k2 (fun t b gd => ?_) _ f3))
              have e := (parts_fg gd ez nf).2.2.2.2
              have hp := gd.low.pos
              omega
            · refine itF (decide_eq_false fun y => d0 (V.int.inj y)) ?_
              refine ⟨_, rfl, _, rfl, _, _, rfl, d0, sz60' zd, fun q H4 s4 _ pr => ?_⟩
              obtain ⟨le1, le2⟩ := nrm_le (p := intZ (tl A0)) d0
              refine ⟨q, _, _, rfl, pr, sz60 (Nat.lt_of_le_of_lt le1 zn), sz60 (Nat.lt_of_le_of_lt le2 zd), _, rfl, rfl, _, rfl, ?_⟩
              by_cases et : txt (nrmT (intZ (tl A0)) (intZ (tl D))) (nrmB (intZ (tl A0)) (intZ (tl D))) = z
              · refine itF (by rw [decide_eq_true (congrArg V.str et)]; rfl) ?_
                refine ⟨_, rfl, _, rfl, _, _, rfl, d0, sz60' zd, fun q H5 s5 _ pr => ?_⟩
                exact k1 _ _ q H5 (good_mk d0 zn zd et) (f3.trans (s4.trans s5)) pr
              · refine itT (by rw [decide_eq_false fun y => et (V.str.inj y)]; rfl) (k2 (good_no d0 (fun t b gd => ⟨(parts_fg gd ez nf).2.2.2.1, vd.trans (parts_fg gd ez nf).2.2.2.2⟩) et) _ (f3.trans s4))
          · exact ⟨_, rfl, iteT (k2 (fun t b gd => g' (parts_fg gd ez nf).2.1.1) _ (f2.trans s3))⟩
        · rw [hU] at g
          exact ⟨_, rfl, itT rfl (iteT (k2 (fun t b gd => g (parts_fg gd ez nf).1.1) _ (s1.trans s2)))⟩
      · refine itT (decide_eq_true ?_) (iteT (k2 (fun t b gd => ?_) _ s1))
        · show (2 : Int) < (((rest.map V.str).length + 1 : Nat) : Int)
          rw [List.length_map]
          omega
        · have := (parts_fg gd ez nf).2.1.1.al _ nD
          omega
    · exact ⟨_, rfl, x, .ty "str", ty, _, false, rfl, .ty _, hty, hk, false, rfl, iteT k⟩
end
end K3

set_option Elab.async false
set_option linter.all false
set_option maxRecDepth 100000
set_option maxHeartbeats 4000000
namespace K3
open PySem L2 Rt TL
abbrev sLRead : Stmt := top 27
abbrev sReads : Stmt := top 28
abbrev sEdited : Stmt := top 29
theorem look_word {v : V} : ([(("word" : Str), v)] : List (Str × V)).lookup ("word" : Str) = some v := by simp [List.lookup]
def StOk (P : Program) (w : World) (K : PySem.W.Frag) (mg : Str → Option Value) (base : Heap) (C : Addr) (CX : CXT) (k : Nat) (m : Str) (ps : List Str) (sp : Sp) : Prop :=
  ∃ mc p f fd, FnOk P w K mg base CX k f fd ps sp ∧ ClX.CRead K C mc ∧ SMet K C mc m p f ∧ Binds K fd ps []
def spLRead (K : PySem.W.Frag) (C : Addr) : Sp := fun vs H Q _ => ∃ x, vs = [x] ∧
  ((∃ z : Str, x = .str z ∧ z.length ≤ 1000 ∧ (∀ t b q r H', Good z t b → Same H H' → RatAt C H' q t b → H' r = some (.tup [.ref q, .str ""]) → Q (.ref r) H') ∧ (NoG z → ∀ r H', Same H H' → H' r = some (.tup [.non, .str "text"]) → Q (.ref r) H')) ∨
    (NoTxt K H x ∧ ∀ r H', Same H H' → H' r = some (.tup [.non, .str "text"]) → Q (.ref r) H'))
def TxtV (K : PySem.W.Frag) (H : Hp) (x : V) : Prop := (∃ z : Str, x = .str z ∧ z.length ≤ 1000) ∨ NoTxt K H x
def spReads (K : PySem.W.Frag) : Sp := fun vs H Q _ => ∃ x, vs = [x] ∧ TxtV K H x ∧ ∀ H', Same H H' → Q (.bl true) H'
theorem ty_same {K : PySem.W.Frag} {H H' : Hp} {x : V} {t : Value} (h : TyX K H x t) (s : Same H H') : TyX K H' x t := by
  cases h with
  | base b =>
    cases b with
    | non => exact .base .non
    | bl y => exact .base (.bl y)
    | int y => exact .base (.int y)
    | str y => exact .base (.str y)
    | flt y => exact .base (.flt y)
    | lst e => exact .base (.lst (s _ _ e))
    | frz e => exact .base (.frz (s _ _ e))
    | tup e => exact .base (.tup (s _ _ e))
    | dK e => exact .base (.dK (s _ _ e))
    | dT e => exact .base (.dT (s _ _ e))
    | ins e a b c d f => exact .base (.ins (s _ _ e) a b c d f)
  | byt y => exact .byt y
  | set e => exact .set (s _ _ e)
  | kList e c => exact .kList e c
  | kTuple e c => exact .kTuple e c
  | kDict e c => exact .kDict e c
  | fTuple e => exact .fTuple (s _ _ e)
  | fDict e => exact .fDict (s _ _ e)
theorem NoTxt.same {K : PySem.W.Frag} {H H' : Hp} {x : V} (h : NoTxt K H x) (s : Same H H') : NoTxt K H' x := let ⟨ty, a, b⟩ := h; ⟨ty, ty_same a s, b⟩
section
variable {P : Program} {w : World} {K : PySem.W.Frag} {mg : Str → Option Value} {base : Heap} {C E B f g h : Addr} {fd gd hd : FuncData}
theorem scLRead : FnScope ["text", "told", "refused", "e"] ["text"] (defScope sLRead) := ⟨rfl, rfl, rfl, by decide +kernel, rfl, by decide +kernel, by decide +kernel⟩
theorem ok_lread (F : FnP K "_law_read" "_law_read" sLRead [] f fd) (T : Txt K mg C E B) (GR : StOk P w K mg base C (L2.CX P w) 5 "read" ["text"] (spRead K C E)) : FnOk P w K mg base CX0 6 f fd ["text"] (spLRead K C) := by
  obtain ⟨mc, pR, fR, fdR, GR, cR, sM, bR⟩ := GR
  refine F.ok scLRead (fun vs H Q X z => ?_) (fun cdv A outer s H vs Q X hr z => ?_)
  · obtain ⟨x, rfl, _⟩ := z
    rfl
  · obtain ⟨x, rfl, z⟩ := z
    refine ⟨_, PSs.nox (pss_cons (ps_set (i := 1) scLRead.nd rfl (Or.inl rfl) pe_non)
      (pss_cons (ps_set (i := 2) scLRead.nd rfl (Or.inl rfl) pe_str)
      (pss_cons (ps_try_as (i := 3) (tb := fun W => tAsg (tStatS C (spRead K C E) (WE W) (tC (.ref C)) (tCons (tVar 0) tNil)) (gName 1))
          (ts := fun a cls d => tAsg (tXf a cls d E "word" (tVar 3)) (gName 2))
          (Wout := fun _ _ _ _ => False) rfl rfl scLRead.nd rfl rfl ⟨rfl, by decide, Or.inl T.mgE⟩ takes0
          (fun W pn xe tk _ => pss_one (ps_set (i := 1) scLRead.nd rfl (Or.inl rfl) (by exact (pe_statS (pe_glob (v := .ref C) (by rfl) T.mgC rfl) cR sM GR hr bR (fun σ => passAt tk σ) (by exact (pa_cons (pv 0) pa_nil))))))
          (fun a oe cls d pn hz hf => pss_one (ps_set (i := 2) scLRead.nd rfl (Or.inl rfl) (by exact (pe_xf T.xf T.noW hz hf (pv 3))))))
      (pss_one (ps_ret (pe_tup (pa_cons (pv 1) (pa_cons (pv 2) pa_nil)))))))), ?_⟩
    refine ⟨rfl, _, rfl, x, rfl, ?_⟩
    rcases z with ⟨z, rfl, hz, k1, k2⟩ | ⟨nt, k⟩
    · refine .inl ⟨z, rfl, hz, fun t b q H2 gd s2 hq => ?_, fun nog d H2 s2 hd => ⟨true, T.exm, fun _ a0 na => ?_, fun z => Bool.noConfusion z⟩⟩
      · exact ⟨_, rfl, _, rfl, (by show 2 ≤ sizeLine; decide), fun r hr => k1 t b q r _ gd (s2.trans (new hr)) (hq.same (new hr)) upd_same⟩
      · refine ⟨_, rfl, rfl, rfl, d, _, _, rfl, hd, look_word, ?_⟩
        exact ⟨_, rfl, _, rfl, (by show 2 ≤ sizeLine; decide), fun r hr => k2 nog r _ (s2.trans (new hr)) upd_same⟩
    · refine .inr ⟨nt, fun d H2 s2 hd => ⟨true, T.exm, fun _ a0 na => ?_, fun z => Bool.noConfusion z⟩⟩
      refine ⟨_, rfl, rfl, rfl, d, _, _, rfl, hd, look_word, ?_⟩
      exact ⟨_, rfl, _, rfl, (by show 2 ≤ sizeLine; decide), fun r hr => k r _ (s2.trans (new hr)) upd_same⟩
theorem scReads : FnScope ["text", "told", "refused", "due"] ["text"] (defScope sReads) := ⟨rfl, rfl, rfl, by decide +kernel, rfl, by decide +kernel, by decide +kernel⟩
theorem ok_reads (F : FnP K "_law_reads" "_law_reads" sReads [] f fd) (T : Txt K mg C E B) (GR : GloOk P w K mg base CX0 6 "_law_read" ["text"] (spLRead K C)) (GD : GloOk P w K mg base CX0 3 "_law_due" ["text"] (spDue K)) (GI : GloOk P w K mg base CX0 2 "_law_is" ["told", "due"] (spIs C)) :
    FnOk P w K mg base CX0 7 f fd ["text"] (spReads K) := by
  obtain ⟨fR, fdR, GR, mR, kR, bR⟩ := GR
  obtain ⟨fD, fdD, GD, mD, kD, bD⟩ := GD
  obtain ⟨fI, fdI, GI, mI, kI, bI⟩ := GI
  refine F.ok scReads (fun vs H Q X z => ?_) (fun cdv A outer s H vs Q X hr z => ?_)
  · obtain ⟨x, rfl, _⟩ := z
    rfl
  · obtain ⟨x, rfl, tv, k⟩ := z
    have hr2 : Room 2 _ := hr.mono (by decide)
    have hr3 : Room 3 _ := hr.mono (by decide)
    refine ⟨_, PSs.nox (pss_cons (ps_asg (pe_call GR hr rfl mR kR bR .nil pass0 (pa_cons (pv 0) pa_nil)) (pg_tup (by rfl) (pgs_cons (pg_name (i := 1) scReads.nd rfl (Or.inl rfl)) (pgs_cons (pg_name (i := 2) scReads.nd rfl (Or.inl rfl)) pgs_nil))))
      (pss_cons (ps_set (i := 3) scReads.nd rfl (Or.inl rfl) (pe_call GD hr3 rfl mD kD bD .nil pass0 (pa_cons (pv 0) pa_nil)))
      (pss_cons (ps_if (pt_cmpR op_isN (pv 3) pe_non (nomark _)) (pss_one (ps_ret (pe_and (pe_cmpR op_isN (pv 1) pe_non (nomark _)) (pe_one (pe_cmpR op_eq (pv 2) pe_str (nomark _)))))) pss_nil)
      (pss_one (ps_ret (pe_and (pe_cmpR op_eq (pv 2) pe_str (nomark _)) (pe_one (pe_call GI hr2 rfl mI kI bI .nil pass0 (pa_cons (pv 1) (pa_cons (pv 3) pa_nil)))))))))), ?_⟩
    rcases tv with ⟨z, rfl, hz⟩ | nt
    · refine ⟨_, rfl, _, rfl, .inl ⟨z, rfl, hz, fun t b q r H1 gd s1 hq hr1 => ?_, fun nog r H1 s1 hr1 => ?_⟩⟩
      · refine ⟨r, _, rfl, SqT.of hr1, rfl, _, _, rfl, _, _, rfl, rfl, ?_⟩
        refine ⟨_, rfl, _, rfl, .inl ⟨z, rfl, hz, fun t2 b2 q2 H2 gd2 s2 pr => ?_, fun nog => absurd gd (nog t b)⟩⟩
        obtain ⟨rfl, rfl⟩ := good_one gd gd2
        refine ⟨_, rfl, rfl, _, rfl, itF (decide_eq_false fun e => by cases e) ?_⟩
        refine ⟨_, rfl, rfl, _, rfl, itT (decide_eq_true rfl) ?_⟩
        exact ⟨_, rfl, _, rfl, q, q2, _, _, rfl, hq.same s2, pr, k H2 (s1.trans s2)⟩
      · refine ⟨r, _, rfl, SqT.of hr1, rfl, _, _, rfl, _, _, rfl, rfl, ?_⟩
        refine ⟨_, rfl, _, rfl, .inl ⟨z, rfl, hz, fun t2 b2 q2 H2 gd2 s2 pr => absurd gd2 (nog t2 b2), fun _ H2 s2 => ?_⟩⟩
        refine ⟨_, rfl, rfl, _, rfl, itT (decide_eq_true rfl) ?_⟩
        refine ⟨_, rfl, rfl, _, rfl, itT (decide_eq_true rfl) ?_⟩
        refine ⟨_, rfl, rfl, ?_⟩
        rw [decide_eq_true (rfl : V.str "text" = V.str "text")]
        exact k H2 (s1.trans s2)
    · refine ⟨_, rfl, _, rfl, .inr ⟨nt, fun r H1 s1 hr1 => ?_⟩⟩
      refine ⟨r, _, rfl, SqT.of hr1, rfl, _, _, rfl, _, _, rfl, rfl, ?_⟩
      refine ⟨_, rfl, _, rfl, .inr ⟨nt.same s1, ?_⟩⟩
      refine ⟨_, rfl, rfl, _, rfl, itT (decide_eq_true rfl) ?_⟩
      refine ⟨_, rfl, rfl, _, rfl, itT (decide_eq_true rfl) ?_⟩
      refine ⟨_, rfl, rfl, ?_⟩
      rw [decide_eq_true (rfl : V.str "text" = V.str "text")]
      exact k H1 s1
end
end K3

set_option Elab.async false
set_option linter.all false
set_option maxRecDepth 100000
set_option maxHeartbeats 4000000
namespace K3
open PySem L2 Rt TL
theorem cut_tl (z : Str) (n : Nat) : tl (cutS z none (some (n : Int))) = (tl z).take n := by
  show (z.cps.toList.drop (HT.sIx z.length 0 none)).take (HT.sIx z.length z.length (some (n : Int)) - HT.sIx z.length 0 none) = _
  rw [HT.sIx_none, HT.sIx_nat, len_tl]
  show ((tl z).drop 0).take (min n (tl z).length - 0) = _
  rw [List.drop_zero, Nat.sub_zero]
  by_cases h : n ≤ (tl z).length
  · rw [Nat.min_eq_left h]
  · rw [Nat.min_eq_right (by omega), List.take_length, List.take_of_length_le (by omega)]
theorem cut_dr (z : Str) (n : Nat) : tl (cutS z (some (n : Int)) none) = (tl z).drop n := by
  show (z.cps.toList.drop (HT.sIx z.length 0 (some (n : Int)))).take (HT.sIx z.length z.length none - HT.sIx z.length 0 (some (n : Int))) = _
  rw [HT.sIx_none, HT.sIx_nat, len_tl]
  show ((tl z).drop (min n (tl z).length)).take ((tl z).length - min n (tl z).length) = _
  rw [List.take_of_length_le (by rw [List.length_drop]; exact Nat.le_refl _)]
  by_cases h : n ≤ (tl z).length
  · rw [Nat.min_eq_left h]
  · rw [Nat.min_eq_right (by omega), List.drop_length, List.drop_of_length_le (by omega)]
theorem at_nat {xs : List Nat} {d : Int} (h0 : 0 ≤ d) (h1 : d < (xs.length : Int)) : ∃ c, atI xs d = some c := by
  obtain ⟨j, rfl⟩ := Int.eq_ofNat_of_zero_le h0
  exact ⟨_, atI_nat (List.getElem?_eq_getElem (show j < xs.length by omega))⟩
abbrev EDS : Str := ("0123456789/- +a." : Str)
theorem eds_len : EDS.cps.toList.length = 16 := by decide +kernel
def spEdited : Sp := fun vs H Q _ => ∃ (l : Addr) (z : Str), vs = [.ref l, .str z] ∧ Strm H l ∧ z.length ≤ 500 ∧ ∀ (z' : Str) H', But l H H' → Strm H' l → z'.length ≤ z.length + 2 → Q (.str z') H'
section
variable {P : Program} {w : World} {K : PySem.W.Frag} {mg : Str → Option Value} {base : Heap} {C E B f g h : Addr} {fd gd hd : FuncData}
theorem scEdited : FnScope ["stream", "text", "k", "place", "sign"] ["stream", "text"] (defScope sEdited) := ⟨rfl, rfl, rfl, by decide +kernel, rfl, by decide +kernel, by decide +kernel⟩
theorem ok_edited (F : FnP K "_law_edited" "_law_edited" sEdited [] f fd) (T : Txt K mg C E B) (GD : GloOk P w K mg base CX0 1 "_law_draw" ["stream", "many"] spDraw) : FnOk P w K mg base CX0 2 f fd ["stream", "text"] spEdited := by
  obtain ⟨fD, fdD, GD, mD, kD, bD⟩ := GD
  refine F.ok scEdited (fun vs H Q X z => ?_) (fun cdv A outer s H vs Q X hr z => ?_)
  · obtain ⟨l, z, rfl, _⟩ := z
    rfl
  · obtain ⟨l, z, rfl, st, hz, k⟩ := z
    refine ⟨_, PSs.nox (pss_cons (ps_for PassesOwn.never rfl (pi_range1 rfl T.range (pa_cons (pe_call GD hr rfl mD kD bD .nil pass0 (pa_cons (pv 0) (pa_cons pe_int pa_nil))) pa_nil)) (pg_name (i := 2) scEdited.nd rfl (Or.inl rfl))
      (pss_cons (ps_set (i := 3) scEdited.nd rfl (Or.inl rfl) (pe_call GD hr rfl mD kD bD .nil pass0 (pa_cons (pv 0) (pa_cons (pe_op op_add (pe_callB call_len_str (by rfl) T.len PySem.boot_len (pa_cons (pv 1) pa_nil)) pe_int) pa_nil))))
      (pss_cons (ps_set (i := 4) scEdited.nd rfl (Or.inl rfl) (pe_ix ix_str pe_str (pe_call GD hr rfl mD kD bD .nil pass0 (pa_cons (pv 0) (pa_cons pe_int pa_nil))) (fun _ _ => rfl)))
      (pss_one (ps_set (i := 1) scEdited.nd rfl (Or.inl rfl) (pe_op op_add_str (pe_op op_add_str (pe_slice sl_str (pv 1) po_none (po_some (pv 3)))
          (pe_ix ix_list (pe_lst (pa_cons pe_str (pa_cons (pv 4) pa_nil))) (pe_call GD hr rfl mD kD bD .nil pass0 (pa_cons (pv 0) (pa_cons pe_int pa_nil))) (fun _ _ => rfl)))
        (pe_slice sl_str (pv 1) (po_some (pe_op op_add (pv 3) (pe_call GD hr rfl mD kD bD .nil pass0 (pa_cons (pv 0) (pa_cons pe_int pa_nil))))) po_none)))))))
      (pss_one (ps_ret (pv 1)))), ?_⟩
    refine ⟨_, rfl, l, 3, rfl, st, by decide, by unfold Sz; decide +kernel, fun d H1 d0 d1 b1 s1 => ⟨d, rfl, by omega, by omega, ?_⟩⟩
    refine for_range (lo := 0) (n := d.toNat) (fun i σ H' => But l H H' ∧ Strm H' l ∧ ∃ (y : Str) (v2 v3 v4 : Option V), σ = [some (.ref l), some (.str y), v2, v3, v4] ∧ y.length ≤ z.length + i) ⟨b1, s1, z, none, none, none, rfl, Nat.le_refl _⟩ ?_ ?_
    · rintro i σ H2 hi ⟨b2, s2, y, v2, v3, v4, rfl, hy⟩
      have y5 : y.length ≤ 502 := by omega
      refine ⟨_, rfl, _, rfl, y, rfl, big1000 (by omega), _, _, rfl, rfl, l, _, rfl, s2, by omega, ?_, fun pl H3 p0 p1 b3 s3 => ?_⟩
      · exact Nat.lt_of_lt_of_le (show ((y.length : Int) + 1).natAbs < 1000 by omega) (Nat.le_trans (show 1000 ≤ 2 ^ 10 by decide) (Nat.pow_le_pow_right (by decide) (by decide)))
      refine ⟨_, rfl, l, 16, rfl, s3, by decide, by unfold Sz; decide +kernel, fun e H4 e0 e1 b4 s4 => ?_⟩
      obtain ⟨c, hc⟩ := at_nat (xs := EDS.cps.toList) e0 (by rw [eds_len]; exact e1)
      refine ⟨EDS, e, c, rfl, rfl, by decide +kernel, hc, ?_⟩
      obtain ⟨pn, rfl⟩ := Int.eq_ofNat_of_zero_le p0
      refine ⟨_, rfl, _, rfl, (pn : Int), rfl, y, rfl, big1000 (by omega), ?_⟩
      refine ⟨_, rfl, (by show 2 ≤ sizeLine; decide), fun p hp => ?_⟩
      have npl : p ≠ l := s4.ne hp
      refine ⟨_, rfl, l, 2, rfl, s4.same (new hp), by decide, by unfold Sz; decide +kernel, fun d5 H5 g0 g1 b5 s5 => ?_⟩
      have hp5 := b5 p _ npl upd_same
      obtain ⟨v, hv, ha⟩ := at_any (xs := [V.str "", V.str ⟨#[c]⟩]) g0 g1
      obtain ⟨m, rfl, m1⟩ : ∃ m : Str, v = .str m ∧ m.length ≤ 1 := by
        rcases List.mem_cons.mp hv with e | hv
        · exact ⟨_, e, Nat.zero_le _⟩
        rcases List.mem_cons.mp hv with e | hv
        · exact ⟨_, e, Nat.le_refl _⟩
        · cases hv
      have lt : (cutS y none (some (pn : Int))).length ≤ pn ∧ (cutS y none (some (pn : Int))).length ≤ y.length := by
        rw [len_tl, cut_tl, List.length_take, len_tl]
        omega
      refine ⟨p, _, d5, _, rfl, rfl, SqL.of hp5, ha, _, _, rfl, rfl, big1000 (by omega), ?_⟩
      refine ⟨_, rfl, _, rfl, _, rfl, l, 2, rfl, s5, by decide, by unfold Sz; decide +kernel, fun d6 H6 h0 h1 b6 s6 => ?_⟩
      obtain ⟨en, rfl⟩ := Int.eq_ofNat_of_zero_le h0
      refine ⟨_, _, rfl, rfl, _, rfl, y, rfl, big1000 (by omega), ?_⟩
      have ld : (cutS y (some ((pn : Int) + (en : Int))) none).length = y.length - (pn + en) := by
        have e := cut_dr y (pn + en)
        rw [Int.natCast_add] at e
        rw [len_tl, e, List.length_drop, len_tl]
      refine ⟨_, _, rfl, rfl, big1000 (by rw [str_len, ld]; omega), ?_⟩
      refine ⟨b2.trans (b3.trans (b4.trans ((But.of (new hp)).trans (b5.trans b6)))), s6, _, _, _, _, rfl, ?_⟩
      rw [str_len, str_len, ld]
      omega
    · rintro σ H2 ⟨b2, s2, y, v2, v3, v4, rfl, hy⟩
      exact ⟨_, rfl, k y H2 b2 s2 (by omega)⟩
end
end K3

set_option Elab.async false
set_option linter.all false
set_option maxRecDepth 100000
set_option maxHeartbeats 4000000
namespace K3
open PySem L2 Rt TL
abbrev sLaw : Stmt := top 31
def spLaw (K : PySem.W.Frag) : Sp := fun vs H Q _ => ∃ (a : Addr) (ns : List Int), vs = [.ref a] ∧ SqL K H a (ns.map V.int) ∧ ns.length ≤ 63 ∧ ∀ H', Q (.bl true) H'
theorem upto (n : Int) (h : 0 ≤ n) : 2 ≤ (if (if (21 : Int) < n then 21 else n) > 2 then (if (21 : Int) < n then 21 else n) else 2) ∧ (if (if (21 : Int) < n then 21 else n) > 2 then (if (21 : Int) < n then 21 else n) else 2) ≤ 21 := by
  split <;> split <;> omega
/-- what builtin types have to do with the class -/
structure Far (K : PySem.W.Frag) (C : Addr) (n : String) : Prop where
  sub : PySem.W.subIn K (.type n) (.ref C) = some false
  kit : PySem.W.kitOne K (.type n) (.ref C) = some false
def ThgV (K : PySem.W.Frag) (C : Addr) (H : Hp) (v : V) : Prop := ∃ n : String, TyX K H v (.type n) ∧ Far K C n ∧ IntV K H v false
theorem Far.nf {K : PySem.W.Frag} {C : Addr} {n : String} (h : Far K C n) : PySem.W.notFirst K C (.type n) = true := by
  show (_ || _) = true
  rw [h.sub]
  rfl
section
variable {K : PySem.W.Frag} {mg : Str → Option Value} {C E B : Addr} {D : Ends} {rest : TS} {σ : St} {H : Hp} {l : Addr}
/-- if other[1] == 1 and _law_draw(stream, 2) == 0: b = other[0] -/
theorem join_b {p : Addr} {t b : Int} (h2 : σ[2]? = some (some (.ref l))) (h4 : σ[4]? = some (some (.ref p))) (st : Strm H l) (npl : p ≠ l) (hp : Pair H p t b) (k : ∀ σ' H', But l H H' → Strm H' l → (σ' = σ ∨ (b = 1 ∧ σ' = σ.set 6 (some (.int t)))) → rest D σ' H') :
    tSeq (tIfS (tAnd (tTest (tOp rEq (tOp (rIxT K) (tVar 4) (tC (.int 1))) (tC (.int 1)))) (tTest (tOp rEq (tCall spDraw [] E0 (tCons (tVar 2) (tCons (tC (.int 2)) tNil))) (tC (.int 0))))) (tAsg (tOp (rIxT K) (tVar 4) (tC (.int 0))) (gName 6)) tNext) rest D σ H := by
  refine ⟨_, h4, p, _, _, V.int b, rfl, rfl, SqT.of hp, at_of (j := 1) rfl rfl, rfl, _, rfl, ?_⟩
  rcases Decidable.em (V.int b = V.int 1) with c | c
  · refine itT (decide_eq_true c) ?_
    refine ⟨_, h2, l, 2, rfl, st, by decide, by unfold Sz; decide +kernel, fun d H1 d0 d1 b1 s1 => ⟨rfl, _, rfl, ?_⟩⟩
    rcases Decidable.em (V.int d = V.int 0) with c' | c'
    · refine itT (decide_eq_true c') ?_
      exact ⟨_, h4, p, _, _, V.int t, rfl, rfl, SqT.of (b1 _ _ npl hp), at_of (j := 0) rfl rfl, k _ H1 b1 s1 (.inr ⟨V.int.inj c, rfl⟩)⟩
    · refine itF (decide_eq_false c') ?_
      exact k _ H1 b1 s1 (.inl rfl)
  · refine itF (decide_eq_false c) (iteF ?_)
    exact k _ H (fun _ _ _ e => e) st (.inl rfl)
end
theorem nine_len : ("123456789" : Str).cps.toList.length = 9 := by decide +kernel
theorem numZ_len {t : Int} (h : t.natAbs ≤ 10 ^ 41) : (numZ t).length ≤ 43 := by
  have h2 : (numL t.natAbs).length ≤ 42 := numL_len (by decide) (Nat.lt_of_le_of_lt h (by decide))
  unfold numZ
  split
  · rw [List.length_cons]
    omega
  · omega
theorem txt_len {t b : Int} (h : Num t b) : (txt t b).length ≤ 100 := by
  have h1 := numZ_len h.zt
  have h2 := numZ_len h.zb
  rw [len_tl, tl_txt]
  split
  · omega
  · rw [List.length_append, List.length_cons]
    omega
theorem joinL_len : ∀ ls : List (List Nat), (∀ x ∈ ls, x.length ≤ 1) → (joinL [] ls).length ≤ ls.length
  | [], _ => Nat.le_refl _
  | [x], h => h x List.mem_cons_self
  | x :: y :: r, h => by
    have i := joinL_len (y :: r) fun z hz => h z (List.mem_cons_of_mem _ hz)
    have e : joinL [] (x :: y :: r) = x ++ ([] ++ joinL [] (y :: r)) := rfl
    have hx := h x List.mem_cons_self
    rw [e, List.nil_append, List.length_append, List.length_cons]
    omega
theorem sum_len : ∀ {ss : List Str}, (∀ s ∈ ss, s.length ≤ 1) → (ss.map (·.length)).sum ≤ ss.length
  | [], _ => Nat.le_refl _
  | x :: r, h => by
    have i := sum_len (ss := r) fun z hz => h z (List.mem_cons_of_mem _ hz)
    have hx := h x List.mem_cons_self
    rw [List.map_cons, List.sum_cons, List.length_cons]
    omega
theorem join_len {ss : List Str} (h : ∀ s ∈ ss, s.length ≤ 1) : (Txt.join "" ss).length ≤ ss.length := by
  rw [len_tl, join_eq, tl_join]
  have e : tl ("" : Str) = [] := rfl
  rw [e]
  refine Nat.le_trans (joinL_len _ fun x hx => ?_) (Nat.le_of_eq (List.length_map _))
  obtain ⟨s, hs, rfl⟩ := List.mem_map.mp hx
  rw [← len_tl]
  exact h s hs
section
variable {P : Program} {w : World} {K : PySem.W.Frag} {mg : Str → Option Value} {base : Heap} {C E B f g h : Addr} {fd gd hd : FuncData}
theorem scLaw : FnScope ["script", "at", "stream", "one", "other", "a", "b", "thing", "text", "digits", "sign", "k"] ["script"] (defScope sLaw) := ⟨rfl, rfl, rfl, by decide +kernel, rfl, by decide +kernel, by decide +kernel⟩
theorem ok_law (F : FnP K "law" "law" sLaw [] f fd) (T : Txt K mg C E B) (hne : PySem.W.findIn K (.ref C) "__ne__" = some (some (.builtin "object.__ne__"))) (hst : PySem.W.kitOne K (.ref C) (.type "str") = some false)
    (f1' : Far K C "NoneType") (f2' : Far K C "str") (f3' : Far K C "tuple") (f4' : Far K C "list") (f5' : Far K C "dict")
    (GM : MkOk P w K mg base C (L2.CX P w) 3 ["self", "top", "bottom"] [.int 1] (spInit K C E)) (GQ : MthOk P w K mg base C CX0 2 "__eq__" ["self", "other"] (spEq K C)) (GT : MthOk P w K mg base C CX0 1 "text" ["self"] (spText C))
    (LS : GloOk P w K mg base CX0 1 "_law_stream" ["script", "k"] (spStream K)) (LD : GloOk P w K mg base CX0 1 "_law_draw" ["stream", "many"] spDraw) (LN : GloOk P w K mg base CX0 3 "_law_drawn" ["stream"] spDrawn)
    (LE : GloOk P w K mg base CX0 4 "_law_near" ["stream", "one"] spNear) (LC : GloOk P w K mg base CX0 8 "_law_compares" ["a", "b", "one", "other"] (spCompares C)) (LT : GloOk P w K mg base CX0 1 "_law_text" ["one"] spLText)
    (LX : GloOk P w K mg base CX0 2 "_law_edited" ["stream", "text"] spEdited) (LR : GloOk P w K mg base CX0 7 "_law_reads" ["text"] (spReads K)) : FnOk P w K mg base CX0 9 f fd ["script"] (spLaw K) := by
  obtain ⟨fM, fdM, GM, M, bM, ds, vM, bMD⟩ := GM
  obtain ⟨fQ, fdQ, GQ, MQ, bQ⟩ := GQ
  obtain ⟨fT, fdT, GT, MT, bT⟩ := GT
  obtain ⟨lS, ldS, LS, mS, kS, dS⟩ := LS
  obtain ⟨lD, ldD, LD, mD, kD, dD⟩ := LD
  obtain ⟨lN, ldN, LN, mN, kN, dN⟩ := LN
  obtain ⟨lE, ldE, LE, mE, kE, dE⟩ := LE
  obtain ⟨lC, ldC, LC, mC, kC, dC⟩ := LC
  obtain ⟨lT, ldT, LT, mT, kT, dT⟩ := LT
  obtain ⟨lX, ldX, LX, mX, kX, dX⟩ := LX
  obtain ⟨lR, ldR, LR, mR, kR, dR⟩ := LR
  refine F.ok scLaw (fun vs H Q X z => ?_) (fun cdv A outer s H vs Q X hr z => ?_)
  · obtain ⟨a, ns, rfl, _⟩ := z
    rfl
  · obtain ⟨a, ns, rfl, hS, hlen, k⟩ := z
    have hr1 : Room 1 _ := hr.mono (by decide)
    have hr2 : Room 2 _ := hr.mono (by decide)
    have hr3 : Room 3 _ := hr.mono (by decide)
    have hr4 : Room 4 _ := hr.mono (by decide)
    have hr7 : Room 7 _ := hr.mono (by decide)
    refine ⟨_, PSs.nox (pss_cons (ps_for PassesOwn.never rfl (pi_range2 (by rfl) T.range (pa_cons pe_int (pa_cons (pe_callB (call_max2 rfl) (by rfl) T.max (by decide +kernel) (pa_cons pe_int (pa_cons (pe_callB (call_min2 rfl) (by rfl) T.min (by decide +kernel)
          (pa_cons (pe_callB call_len_seq (by rfl) T.len PySem.boot_len (pa_cons (pv 0) pa_nil)) (pa_cons pe_int pa_nil))) pa_nil))) pa_nil))) (pg_name (i := 1) scLaw.nd rfl (Or.inl rfl))
        (pss_cons (ps_set (i := 2) scLaw.nd rfl (Or.inr rfl) (pe_call LS hr1 rfl mS kS dS .nil pass0 (pa_cons (pv 0) (pa_cons (pv 1) pa_nil))))
        (pss_cons (ps_set (i := 3) scLaw.nd rfl (Or.inl rfl) (pe_call LN hr3 rfl mN kN dN .nil pass0 (pa_cons (pv 2) pa_nil)))
        (pss_cons (ps_set (i := 4) scLaw.nd rfl (Or.inl rfl) (pe_call LE hr4 rfl mE kE dE .nil pass0 (pa_cons (pv 2) (pa_cons (pv 3) pa_nil))))
        (pss_cons (ps_set (i := 5) scLaw.nd rfl (Or.inl rfl) (pe_make M GM hr4 rfl T.mgC bM .nil passL (pa_cons (pe_ix ix_tup (pv 3) pe_int (fun _ _ => rfl)) (pa_cons (pe_ix ix_tup (pv 3) pe_int (fun _ _ => rfl)) pa_nil))))
        (pss_cons (ps_set (i := 6) scLaw.nd rfl (Or.inl rfl) (pe_make M GM hr4 rfl T.mgC bM .nil passL (pa_cons (pe_ix ix_tup (pv 4) pe_int (fun _ _ => rfl)) (pa_cons (pe_ix ix_tup (pv 4) pe_int (fun _ _ => rfl)) pa_nil))))
        (pss_cons (ps_if (PW.pt (pw_and (pt_cmpR op_eq (pe_ix ix_tup (pv 4) pe_int (fun _ _ => rfl)) pe_int (nomark _)) (pw_and1 (pt_cmpR op_eq (pe_call LD hr1 rfl mD kD dD .nil pass0 (pa_cons (pv 2) (pa_cons pe_int pa_nil))) pe_int (nomark _)))))
          (pss_one (ps_set (i := 6) scLaw.nd rfl (Or.inl rfl) (pe_ix ix_tup (pv 4) pe_int (fun _ _ => rfl)))) pss_nil)
        (pss_cons (ps_if (PW.pt (pw_or (pt_not (pt_val (pe_call LC hr rfl mC kC dC .nil pass0 (pa_cons (pv 5) (pa_cons (pv 6) (pa_cons (pv 3) (pa_cons (pv 4) pa_nil)))))))
            (pw_or1 (pt_cmpR op_ne (pe_meth0 (pv 5) T.cl MT GT hr1 bT .nil pass0) (pe_call LT hr1 rfl mT kT dT .nil pass0 (pa_cons (pv 3) pa_nil)) (nomark _))))) (pss_one (ps_ret pe_bl)) pss_nil)
        (pss_cons (ps_set (i := 7) scLaw.nd rfl (Or.inl rfl) (pe_ix ix_list (pe_lst (pa_cons pe_non (pa_cons pe_str (pa_cons (pe_tup (pa_cons (pe_ix ix_tup (pv 3) pe_int (fun _ _ => rfl)) pa_nil)) (pa_cons (pe_lst (pa_cons (pe_ix ix_tup (pv 3) pe_int (fun _ _ => rfl)) pa_nil))
            (pa_cons pe_dnewK (pa_cons (pe_meth0 (pv 5) T.cl MT GT hr1 bT .nil pass0) (pa_cons (pe_tup (pa_cons (pe_ix ix_tup (pv 3) pe_int (fun _ _ => rfl)) (pa_cons (pe_ix ix_tup (pv 3) pe_int (fun _ _ => rfl)) pa_nil))) pa_nil))))))))
            (pe_call LD hr1 rfl mD kD dD .nil pass0 (pa_cons (pv 2) (pa_cons pe_int pa_nil))) (fun _ _ => rfl)))
        (pss_cons (ps_if (PW.pt (pw_or (pt_cmpR (op_cmp (op := .Eq) (fun _ _ => rfl) MQ.at_ MQ.fn GQ hr2 bQ pass0) (pv 5) (pv 7) (nomark _)) (pw_or1 (pt_not (pt_cmpR (op_neOwn hne T.cm MQ.at_ MQ.fn GQ hr3 bQ pass0) (pv 5) (pv 7) (nomark _)))))) (pss_one (ps_ret pe_bl)) pss_nil)
        (pss_cons (ps_set (i := 8) scLaw.nd rfl (Or.inl rfl) (pe_call LX hr2 rfl mX kX dX .nil pass0 (pa_cons (pv 2) (pa_cons (pe_call LT hr1 rfl mT kT dT .nil pass0 (pa_cons (pv 3) pa_nil)) pa_nil))))
        (pss_cons (ps_if (PW.pt (pw_or (pt_not (pt_val (pe_call LR hr7 rfl mR kR dR .nil pass0 (pa_cons (pe_call LT hr1 rfl mT kT dT .nil pass0 (pa_cons (pv 3) pa_nil)) pa_nil)))) (pw_or1 (pt_not (pt_val (pe_call LR hr7 rfl mR kR dR .nil pass0 (pa_cons (pv 8) pa_nil))))))) (pss_one (ps_ret pe_bl)) pss_nil)
        (pss_cons (ps_set (i := 9) scLaw.nd rfl (Or.inl rfl) (pe_join pe_str (pe_lc (own := [("k", 11)]) (g := gName 11) (tt := tYes) (by rfl) scLaw.nd (pi_range1 rfl T.range (pa_cons pe_int pa_nil))
            (blkOk_by (own := [("k", 11)]) (N := ["script", "at", "stream", "one", "other", "a", "b", "thing", "text", "digits", "sign", "k"]) (sc := defScope sLaw) (by decide +kernel)) (fun _ _ _ _ _ => pg_name (i := 11) scLaw.nd rfl (Or.inl rfl)) (fun _ _ _ _ _ => pts_nil)
            (fun _ _ _ _ _ => pe_ix (show IxR _ rIxS from ix_str) pe_str (pe_call LD hr1 rfl mD kD dD .nil pass0 (pa_cons (pv 2) (pa_cons pe_int pa_nil))) (fun _ _ => rfl)))))
        (pss_cons (ps_set (i := 10) scLaw.nd rfl (Or.inl rfl) (pe_ix ix_list (pe_lst (pa_cons pe_str (pa_cons pe_str pa_nil))) (pe_call LD hr1 rfl mD kD dD .nil pass0 (pa_cons (pv 2) (pa_cons pe_int pa_nil))) (fun _ _ => rfl)))
        (pss_cons (ps_for PassesOwn.never rfl (pi_list (pe_lst (pa_cons (pe_op op_add_str (pv 10) (pe_slice sl_str (pv 9) po_none (po_some pe_int))) (pa_cons (pe_op op_add_str (pv 10) (pv 9)) (pa_cons (pe_op op_add_str pe_str (pe_slice sl_str (pv 9) po_none (po_some pe_int))) (pa_cons (pe_op op_add_str pe_str (pv 9)) pa_nil))))))
          (pg_name (i := 8) scLaw.nd rfl (Or.inl rfl)) (pss_one (ps_if (pt_not (pt_val (pe_call LR hr7 rfl mR kR dR .nil pass0 (pa_cons (pv 8) pa_nil)))) (pss_one (ps_ret pe_bl)) pss_nil)))
        (pss_one (ps_if (pt_not (pt_val (pe_call LR hr7 rfl mR kR dR .nil pass0 (pa_cons (pe_ix ix_list (pe_lst (pa_cons pe_non (pa_cons pe_int (pa_cons pe_bl (pa_cons pe_str (pa_cons pe_str (pa_cons pe_str (pa_cons (pe_lst (pa_cons pe_str pa_nil)) (pa_cons (pe_tup (pa_cons pe_str pa_nil))
            (pa_cons (pe_make M GM hr4 rfl T.mgC bMD vM passL (pa_cons pe_int pa_nil)) (pa_cons pe_str (pa_cons pe_str (pa_cons pe_str pa_nil)))))))))))))
            (pe_call LD hr1 rfl mD kD dD .nil pass0 (pa_cons (pv 2) (pa_cons pe_int pa_nil))) (fun _ _ => rfl)) pa_nil)))) (pss_one (ps_ret pe_bl)) pss_nil)))))))))))))))))
      (pss_one (ps_ret pe_bl))), ?_⟩
    obtain ⟨u1, u2⟩ := upto ((ns.map V.int).length : Int) (by omega)
    refine ⟨_, rfl, a, _, rfl, .inl hS, _, _, rfl, _, _, rfl, _, _, rfl, ⟨by decide, by decide, by omega, by omega⟩, ?_⟩
    refine for_range (lo := 1) (n := _) (fun i σ H1 => Same H H1 ∧ ∃ v1 v2 v3 v4 v5 v6 v7 v8 v9 v10 v11 : Option V, σ = [some (.ref a), v1, v2, v3, v4, v5, v6, v7, v8, v9, v10, v11])
      ⟨Same.refl H, none, none, none, none, none, none, none, none, none, none, none, rfl⟩ ?_ ?_
    · rintro i σ H0 hi ⟨s0, v1, v2, v3, v4, v5, v6, v7, v8, v9, v10, v11, rfl⟩
      have hi2 : i < 1000 := by omega
      refine ⟨_, rfl, _, rfl, a, ns, 1 + i, by rw [Int.natCast_add]; rfl, s0.seq hS, by omega, fun l H1 s1 nl st1 => ?_⟩
      have f1 : Same H H1 := s0.trans s1
      have nlH : H l = none := s0.free nl
      refine ⟨_, rfl, l, rfl, st1, fun p1 t b H2 b2 st2 pr1 nm1 zt zb => ?_⟩
      refine ⟨_, rfl, _, rfl, l, p1, t, b, rfl, st2, pr1, nm1, zt, zb, fun p2 t2 b2' H3 b3 st3 pr2 nm2 => ?_⟩
      have pr1 := pr1.but (pair_ne st2 pr1) b3
      have f3 : Same H H3 := same_but (same_but f1 nlH b2) nlH b3
      -- a
      refine ⟨_, rfl, p1, _, _, V.int t, rfl, rfl, SqT.of pr1, at_of (j := 0) rfl rfl, _, rfl, p1, _, _, V.int b, rfl, rfl, SqT.of pr1, at_of (j := 1) rfl rfl, fun x dx nx nd nex => ?_⟩
      refine ⟨x, dx, _, _, rfl, upd_same, .inr (.inr (.inr ⟨_, _, rfl, rfl, Int.ne_of_gt nm1.low.pos, (szN (by have := nm1.zb; omega)).mono (by decide), fun H4 fr4 rt => ⟨rfl, ?_⟩⟩))⟩
      rw [(nrm_of_low nm1.low).1, (nrm_of_low nm1.low).2] at rt
      have s4 : Same H3 H4 := Same.made nx nd fun b o e ne => fr4 b o ne e
      have st4 := st3.same s4
      have pr1 := pr1.same s4
      have pr2 := pr2.same s4
      -- b
      refine ⟨_, rfl, p2, _, _, V.int t2, rfl, rfl, SqT.of pr2, at_of (j := 0) rfl rfl, _, rfl, p2, _, _, V.int b2', rfl, rfl, SqT.of pr2, at_of (j := 1) rfl rfl, fun x2 dx2 nx nd nex => ?_⟩
      refine ⟨x2, dx2, _, _, rfl, upd_same, .inr (.inr (.inr ⟨_, _, rfl, rfl, Int.ne_of_gt nm2.low.pos, (szN (by have := nm2.zb; omega)).mono (by decide), fun H5 fr5 rt2 => ⟨rfl, ?_⟩⟩))⟩
      rw [(nrm_of_low nm2.low).1, (nrm_of_low nm2.low).2] at rt2
      have s5 : Same H4 H5 := Same.made nx nd fun b o e ne => fr5 b o ne e
      have st5 := st4.same s5
      have pr1 := pr1.same s5
      have pr2 := pr2.same s5
      have rt := rt.same s5
      have f5 : Same H H5 := f3.trans (s4.trans s5)
      refine gname_step ?_
      refine join_b (K := K) (l := l) (p := p2) rfl rfl st5 (pair_ne st5 pr2) pr2 fun σ6 H6 b6 st6 h6 => ?_
      have f6 : Same H H6 := same_but f5 nlH b6
      obtain ⟨y2, num, rfl⟩ : ∃ y2, NumV C H6 y2 t2 b2' ∧ σ6 = [some (.ref a), some (.int (1 + (i : Int))), some (.ref l), some (.ref p1), some (.ref p2), some (.ref x), some y2, v7, v8, v9, v10, v11] := by
        rcases h6 with rfl | ⟨e1, rfl⟩
        · exact ⟨_, .inr ⟨x2, rfl, rt2.but (rat_ne st5 rt2) b6⟩, rfl⟩
        · exact ⟨_, .inl ⟨rfl, e1⟩, rfl⟩
      have rt := rt.but (rat_ne st5 rt) b6
      have pr2 := pr2.but (pair_ne st5 pr2) b6
      have pr1 := pr1.but (pair_ne st5 pr1) b6
      have z1 : Sz 200 t := szN (by have := nm1.zt; omega)
      have z2 : Sz 200 b := szN (by have := nm1.zb; omega)
      have z3 : Sz 200 t2 := szN (by have := nm2.zt; omega)
      have z4 : Sz 200 b2' := szN (by have := nm2.zb; omega)
      have y1 : Sz 1900 t := z1.mono (by decide)
      have y2' : Sz 1900 b := z2.mono (by decide)
      refine ⟨_, rfl, _, rfl, _, rfl, _, rfl, x, y2, p1, p2, _, _, _, _, rfl, ⟨rt, nm1.low, num, nm2.low, z1.mono (by decide), z2.mono (by decide), z3.mono (by decide), z4.mono (by decide)⟩, pr1, pr2, fun H7 s7 => ⟨true, rfl, iteF ?_⟩⟩
      have f7 := f6.trans s7
      have rt := rt.same s7
      have pr1 := pr1.same s7
      have st7 := st6.same s7
      obtain ⟨dr, er⟩ := id rt
      refine ⟨_, rfl, x, dr, _, rfl, er, flds_no _ _ (by decide +kernel) (by decide +kernel), x, t, b, rfl, rt, y1, y2', _, rfl, p1, t, b, rfl, pr1, y1, y2', rfl, _, rfl, itF (by rw [decide_eq_true rfl]; rfl) ?_⟩
      -- thing
      refine ⟨_, rfl, p1, _, _, V.int t, rfl, rfl, SqT.of pr1, at_of (j := 0) rfl rfl, (by show 1 ≤ sizeLine; decide), fun q1 n1 => ?_⟩
      have pr1 := pr1.same (new (o := .tup [.int t]) n1)
      refine ⟨_, rfl, p1, _, _, V.int t, rfl, rfl, SqT.of pr1, at_of (j := 0) rfl rfl, (by show 1 ≤ sizeLine; decide), fun q2 n2 => fun q3 n3 => ?_⟩
      have pr1 := (pr1.same (new (o := .lst [.int t]) n2)).same (new (o := .dK []) n3)
      have g3 := (new (o := .tup [.int t]) n1).trans ((new (o := .lst [.int t]) n2).trans (new (o := .dK []) n3))
      have rt := rt.same g3
      obtain ⟨dr3, er3⟩ := id rt
      refine ⟨_, rfl, x, dr3, _, rfl, er3, flds_no _ _ (by decide +kernel) (by decide +kernel), x, t, b, rfl, rt, y1, y2', ?_⟩
      refine ⟨_, rfl, p1, _, _, V.int t, rfl, rfl, SqT.of pr1, at_of (j := 0) rfl rfl, _, rfl, p1, _, _, V.int b, rfl, rfl, SqT.of pr1, at_of (j := 1) rfl rfl, (by show 2 ≤ sizeLine; decide), fun q4 n4 => ?_⟩
      refine ⟨(by show 7 ≤ sizeLine; decide), fun q5 n5 => ?_⟩
      have a4 := new (o := .tup [.int t, .int b]) n4
      have a5 := new (o := .lst [.non, .str "1", .ref q1, .ref q2, .ref q3, .str (txt t b), .ref q4]) n5
      have g5 := g3.trans (a4.trans a5)
      have st8 := st7.same g5
      refine ⟨_, rfl, l, 7, rfl, st8, by decide, by unfold Sz; decide +kernel, fun d H8 d0 d1 b8 st8' => ?_⟩
      obtain ⟨v, hv, ha⟩ := at_any (xs := [V.non, V.str "1", V.ref q1, V.ref q2, V.ref q3, V.str (txt t b), V.ref q4]) d0 d1
      refine ⟨q5, _, d, v, rfl, rfl, SqL.of (b8 q5 _ (st7.ne ((g3.trans a4).free n5)) upd_same), ha, ?_⟩
      have rt := (rt.same (a4.trans a5)).but (rat_ne st8 (rt.same (a4.trans a5))) b8
      have pr1 := (pr1.same (a4.trans a5)).but (pair_ne st8 (pr1.same (a4.trans a5))) b8
      have f8 := same_but (f7.trans g5) nlH b8
      have th : ThgV K C H8 v := by
        simp only [List.mem_cons, List.not_mem_nil, or_false] at hv
        have k1 : ∀ {u : Addr} {o : HO}, H7 u = none → upd (upd (upd (upd (upd H7 q1 (.tup [.int t])) q2 (.lst [.int t])) q3 (.dK [])) q4 (.tup [.int t, .int b])) q5 (.lst [.non, .str "1", .ref q1, .ref q2, .ref q3, .str (txt t b), .ref q4]) u = some o → H8 u = some o := fun hu e => b8 _ _ (st7.ne hu) e
        rcases hv with rfl | rfl | rfl | rfl | rfl | rfl | rfl
        · exact ⟨_, .base .non, f1', _, false, false, .base .non, kit_ty (by decide +kernel), kit_ty (by decide +kernel), rfl⟩
        · exact ⟨_, .base (.str _), f2', _, false, false, .base (.str _), kit_ty (by decide +kernel), kit_ty (by decide +kernel), rfl⟩
        · have e := k1 n1 (((new n2).trans ((new n3).trans (a4.trans a5))) _ _ upd_same)
          exact ⟨_, .base (.tup e), f3', _, false, false, .base (.tup e), kit_ty (by decide +kernel), kit_ty (by decide +kernel), rfl⟩
        · have e := k1 ((new n1).free n2) (((new n3).trans (a4.trans a5)) _ _ upd_same)
          exact ⟨_, .base (.lst e), f4', _, false, false, .base (.lst e), kit_ty (by decide +kernel), kit_ty (by decide +kernel), rfl⟩
        · have e := k1 (((new n1).trans (new n2)).free n3) ((a4.trans a5) _ _ upd_same)
          exact ⟨_, .base (.dK e), f5', _, false, false, .base (.dK e), kit_ty (by decide +kernel), kit_ty (by decide +kernel), rfl⟩
        · exact ⟨_, .base (.str _), f2', _, false, false, .base (.str _), kit_ty (by decide +kernel), kit_ty (by decide +kernel), rfl⟩
        · have e := k1 (g3.free n4) (a5 _ _ upd_same)
          exact ⟨_, .base (.tup e), f3', _, false, false, .base (.tup e), kit_ty (by decide +kernel), kit_ty (by decide +kernel), rfl⟩
      obtain ⟨n, ty, far, iv⟩ := th
      obtain ⟨dr8, er8⟩ := id rt
      refine ⟨_, rfl, _, rfl, x, dr8, _, .type n, rfl, er8, ty, far.nf, x, v, t, b, rfl, rt, .inr ⟨.type n, ty, far.kit, iv, _, rfl, iteF ?_⟩⟩
      refine ⟨_, rfl, _, rfl, x, dr8, _, .type n, rfl, er8, ty, far.nf, x, v, t, b, rfl, rt, .inr ⟨.type n, ty, far.kit, iv, _, rfl, _, rfl, itF rfl ?_⟩⟩
      -- the edited text
      have lt := txt_len nm1
      have st9 := st8'
      refine ⟨_, rfl, _, rfl, p1, t, b, rfl, pr1, y1, y2', l, txt t b, rfl, st9, by omega, fun z' H9 b9 st9 hz' => ?_⟩
      have pr1 := pr1.but (pair_ne st8' pr1) b9
      have f9 := same_but f8 nlH b9
      refine ⟨_, rfl, p1, t, b, rfl, pr1, y1, y2', _, rfl, .inl ⟨_, rfl, by omega⟩, fun H10 s10 => ⟨true, rfl, itF rfl ?_⟩⟩
      refine ⟨_, rfl, _, rfl, .inl ⟨_, rfl, by omega⟩, fun H11 s11 => ⟨true, rfl, iteF ?_⟩⟩
      have st11 := (st9.same s10).same s11
      have f11 := f9.trans (s10.trans s11)
      -- digits
      refine ⟨⟨_, rfl⟩, _, rfl, by decide, by decide, fun D nD => lc_range (lo := 0) (n := 61) (fun i H' => But l H11 H' ∧ Strm H' l ∧ ∃ ss : List Str, ss.length = i ∧ (∀ s ∈ ss, s.length ≤ 1) ∧ H' D = some (.lst (ss.map V.str)))
        ⟨But.of (new nD), st11.same (new nD), [], rfl, (fun _ h => by cases h), upd_same⟩ ?_ ?_⟩
      · rintro i H12 hi ⟨b12, st12, ss, ls, l1, hD⟩
        refine ⟨rfl, ?_⟩
        unfold tYes
        refine iteT ?_
        refine ⟨_, rfl, l, 9, rfl, st12, by decide, by unfold Sz; decide +kernel, fun e H13 e0 e1 b13 st13 => ?_⟩
        obtain ⟨c, hc⟩ := at_nat (xs := ("123456789" : Str).cps.toList) e0 (by rw [nine_len]; exact e1)
        have nDl := st11.ne nD
        refine ⟨("123456789" : Str), e, c, rfl, rfl, by decide +kernel, hc, _, b13 _ _ nDl hD, ?_, ?_, ?_, ss ++ [⟨#[c]⟩], ?_, ?_, ?_⟩
        · rw [List.length_map, ls]
          exact Nat.lt_of_lt_of_le (show i < 1000 by omega) (by decide)
        · exact fun b' o ne e => by rw [upd_ne (ne_of_none e nD)]; exact (b12.trans b13) b' o ne e
        · obtain ⟨c', e', n', h'⟩ := st13
          exact ⟨c', e', n', by rw [upd_ne nDl.symm]; exact h'⟩
        · rw [List.length_append, ls]
          rfl
        · intro s' hs'
          rcases List.mem_append.mp hs' with hs' | hs'
          · exact l1 s' hs'
          · rw [List.mem_singleton.mp hs']
            exact Nat.le_refl _
        · rw [upd_same, List.map_append]
          rfl
      · rintro H12 ⟨b12, st12, ss, ls, l1, hD⟩
        have jl := join_len l1
        refine ⟨"", D, ss, rfl, rfl, .inl (SqL.of hD), ?_, ?_⟩
        · have e0 : ("" : Str).length = 0 := rfl
          rw [e0, Nat.mul_zero, Nat.add_zero]
          exact Nat.le_trans (sum_len l1) (by rw [ls]; decide)
        generalize hdg : Txt.join "" ss = dg at jl ⊢
        have ldg : dg.length ≤ 61 := by rw [ls] at jl; exact jl
        have f12 := same_but f11 nlH b12
        have pr1 := (pr1.same s10).same s11
        have pr1 := pr1.but (pair_ne st11 pr1) b12
        -- sign
        refine gname_step ?_
        refine ⟨(by show 2 ≤ sizeLine; decide), fun q6 n6 => ?_⟩
        refine ⟨_, rfl, l, 2, rfl, st12.same (new n6), by decide, by unfold Sz; decide +kernel, fun d2 H13 g0 g1 b13 st13 => ?_⟩
        obtain ⟨u, hu, ha⟩ := at_any (xs := [V.str "", V.str "-"]) g0 g1
        obtain ⟨sg, rfl, lsg⟩ : ∃ m : Str, u = .str m ∧ m.length ≤ 1 := by
          rcases List.mem_cons.mp hu with e | hu
          · exact ⟨_, e, Nat.zero_le _⟩
          rcases List.mem_cons.mp hu with e | hu
          · exact ⟨_, e, Nat.le_refl _⟩
          · cases hu
        refine ⟨q6, _, d2, _, rfl, rfl, SqL.of (b13 q6 _ (st12.ne n6) upd_same), ha, ?_⟩
        have f13 := same_but (f12.trans (new n6)) nlH b13
        refine gname_step ?_
        -- four texts
        have lc := Nat.le_trans (cutS_length dg none (some 60)) ldg
        have l2 : ("1/" : Str).length = 2 := rfl
        refine ⟨_, rfl, _, rfl, _, rfl, dg, rfl, big1000 (by omega), _, _, rfl, rfl, big1000 (by omega), ?_⟩
        refine ⟨_, rfl, _, rfl, _, _, rfl, rfl, big1000 (by omega), ?_⟩
        refine ⟨_, rfl, _, rfl, dg, rfl, big1000 (by omega), _, _, rfl, rfl, big1000 (by omega), ?_⟩
        refine ⟨_, rfl, _, _, rfl, rfl, big1000 (by omega), ?_⟩
        refine ⟨(by show 4 ≤ sizeLine; decide), fun q7 n7 => ⟨q7, rfl, ⟨_, SqL.of upd_same⟩, ?_⟩⟩
        have f14 := f13.trans (new (o := .lst [.str (sg ++ cutS dg none (some 60)), .str (sg ++ dg), .str ("1/" ++ cutS dg none (some 60)), .str ("1/" ++ dg)]) n7)
        have st14 := st13.same (new (o := .lst [.str (sg ++ cutS dg none (some 60)), .str (sg ++ dg), .str ("1/" ++ cutS dg none (some 60)), .str ("1/" ++ dg)]) n7)
        refine for_it (walk_list (xs := [.str (sg ++ cutS dg none (some 60)), .str (sg ++ dg), .str ("1/" ++ cutS dg none (some 60)), .str ("1/" ++ dg)]))
          (fun i' σ' H' => Same (upd H13 q7 (.lst [.str (sg ++ cutS dg none (some 60)), .str (sg ++ dg), .str ("1/" ++ cutS dg none (some 60)), .str ("1/" ++ dg)])) H' ∧ ∃ v8 : Option V, σ' = [some (.ref a), some (.int (1 + (i : Int))), some (.ref l), some (.ref p1), some (.ref p2), some (.ref x), some y2, some v, v8, some (.str dg), some (.str sg), v11])
          ⟨Same.refl _, _, rfl⟩ (fun _ _ _ _ h => SqL.of (h.1 _ _ upd_same)) ?_ ?_
        · rintro i' y σ' H14 H14' hi' ⟨s14, v8, rfl⟩ ⟨rfl, hy⟩
          refine gname_step ?_
          have ty : TxtV K H14' y := by
            have hm := List.mem_of_getElem? hy
            simp only [List.mem_cons, List.not_mem_nil, or_false] at hm
            rcases hm with rfl | rfl | rfl | rfl
            all_goals refine .inl ⟨_, rfl, ?_⟩; rw [str_len]; omega
          exact ⟨_, rfl, y, rfl, ty, fun H15 s15 => ⟨true, rfl, iteF ⟨s14.trans s15, _, rfl⟩⟩⟩
        · rintro σ' H14 ⟨s14, v8, rfl⟩
          have f15 := f14.trans s14
          have st15 := st14.same s14
          -- the last thing
          refine ⟨(by show 1 ≤ sizeLine; decide), fun r1 m1 => ⟨(by show 1 ≤ sizeLine; decide), fun r2 m2 => fun x' dx' nx' nd' nex' => ?_⟩⟩
          refine ⟨x', dx', .int 1, .int 1, rfl, upd_same, .inr (.inr (.inr ⟨1, 1, rfl, rfl, by decide, by unfold Sz; decide +kernel, fun H16 fr rt' => ⟨rfl, ?_⟩⟩))⟩
          refine ⟨(by show 12 ≤ sizeLine; decide), fun r3 m3 => ?_⟩
          have a1 := new (o := .lst [.str "1"]) m1
          have a2 := new (o := .tup [.str "1"]) m2
          have a3 := Same.made (C := C) (H1 := H16) nx' nd' fun b o e ne => fr b o ne e
          have a4 := new (o := .lst [.non, .int 5, .bl true, .str "", .str "-", .str "/", .ref r1, .ref r2, .ref x', .str "-0", .str "0/1", .str "1/0"]) m3
          have g := a1.trans (a2.trans (a3.trans a4))
          refine ⟨_, rfl, l, 12, rfl, st15.same g, by decide, by unfold Sz; decide +kernel, fun d3 H17 h0 h1 b17 st17 => ?_⟩
          obtain ⟨u, hu, ha⟩ := at_any (xs := [V.non, V.int 5, V.bl true, V.str "", V.str "-", V.str "/", V.ref r1, V.ref r2, V.ref x', V.str "-0", V.str "0/1", V.str "1/0"]) h0 h1
          refine ⟨r3, _, d3, _, rfl, rfl, SqL.of (b17 r3 _ (st15.ne ((a1.trans (a2.trans a3)).free m3)) upd_same), ha, ?_⟩
          have tv : TxtV K H17 u := by
            simp only [List.mem_cons, List.not_mem_nil, or_false] at hu
            rcases hu with rfl | rfl | rfl | rfl | rfl | rfl | rfl | rfl | rfl | rfl | rfl | rfl
            · exact .inr ⟨_, .base .non, kit_ty (by decide +kernel)⟩
            · exact .inr ⟨_, .base (.int _), kit_ty (by decide +kernel)⟩
            · exact .inr ⟨_, .base (.bl _), kit_ty (by decide +kernel)⟩
            · exact .inl ⟨_, rfl, by decide⟩
            · exact .inl ⟨_, rfl, by decide⟩
            · exact .inl ⟨_, rfl, by decide⟩
            · exact .inr ⟨_, .base (.lst (b17 r1 _ (st15.ne m1) ((a2.trans (a3.trans a4)) _ _ upd_same))), kit_ty (by decide +kernel)⟩
            · exact .inr ⟨_, .base (.tup (b17 r2 _ (st15.ne (a1.free m2)) ((a3.trans a4) _ _ upd_same))), kit_ty (by decide +kernel)⟩
            · have r := (rt'.same a4).but (st15.ne ((a1.trans a2).free nx')) b17
              exact .inr ⟨_, ty_rat T r, hst⟩
            · exact .inl ⟨_, rfl, by decide⟩
            · exact .inl ⟨_, rfl, by decide⟩
            · exact .inl ⟨_, rfl, by decide⟩
          exact ⟨u, rfl, tv, fun H18 s18 => ⟨true, rfl, iteF ⟨(same_but (f15.trans g) nlH b17).trans s18, _, _, _, _, _, _, _, _, _, _, _, rfl⟩⟩⟩
    · rintro σ H1 ⟨s0, v1, v2, v3, v4, v5, v6, v7, v8, v9, v10, v11, rfl⟩
      exact k _
end
end K3

set_option Elab.async false
set_option linter.all false
set_option maxRecDepth 100000
set_option maxHeartbeats 4000000
/-! law k03: what the top has left, and the end -/
namespace K3
open PySem L2 Rt
abbrev Lk (K : PySem.W.Frag) (f : Addr) (o : Obj) : Prop := K.lookup f = some o
/-- a def without defaults stands at f -/
theorem fnp {K : PySem.W.Frag} {x q : Str} {st : Stmt} {f : Addr} {oc : Value} {od an : Option Addr} {osl : Array (Option Value)} {kV doc pm cdv ct : Value}
    (l : K.lookup f = some ⟨oc, od, .func (PySem.W.fnOf x q (defArgs st) (defBody st) (defScope st) .none kV doc pm an cdv ct), osl⟩) (c : PySem.W.codeIn K cdv q = true) (k : PySem.W.keepIn K (.ref f) = true) : ∃ fd, FnP K x q st [] f fd :=
  ⟨_, ⟨oc, od, .none, kV, doc, pm, an, cdv, ct, osl, rfl, l, c, .inl ⟨rfl, rfl⟩, .inl rfl⟩, k⟩
theorem fnp1 {K : PySem.W.Frag} {x q : Str} {st : Stmt} {f T : Addr} {oc oc' : Value} {od an od' : Option Addr} {osl osl' : Array (Option Value)} {kV doc pm cdv ct : Value} {i : Int} {t : Tok} {n : Nat}
    (l : K.lookup f = some ⟨oc, od, .func (PySem.W.fnOf x q (defArgs st) (defBody st) (defScope st) (.ref T) kV doc pm an cdv ct), osl⟩) (c : PySem.W.codeIn K cdv q = true) (k : PySem.W.keepIn K (.ref f) = true)
    (lT : K.lookup T = some ⟨oc', od', .seq #[.int i t] n, osl'⟩) : ∃ fd, FnP K x q st [.int i] f fd :=
  ⟨_, ⟨oc, od, .ref T, kV, doc, pm, an, cdv, ct, osl, rfl, l, c, .inr ⟨List.cons_ne_nil _ _, T, _, [.int i t], n, rfl, lT, rfl, .cons ⟨t, rfl⟩ .nil⟩, .inl rfl⟩, k⟩
/-- a global def -/
def GF (K : PySem.W.Frag) (x : Str) (st : Stmt) : Prop := ∃ f, PySem.W.nsIn K mainGlobals x = some (some (.ref f)) ∧ ∃ fd, FnP K x x st [] f fd
/-- a method of C -/
def MF (K : PySem.W.Frag) (C : Addr) (x q : Str) (st : Stmt) : Prop := ∃ f, PySem.W.findIn K (.ref C) x = some (some (.ref f)) ∧ PySem.W.isFn K (.ref f) = true ∧ ∃ fd, FnP K x q st [] f fd
section
variable {P : Program} {w : World} {K : PySem.W.Frag} {mg : Str → Option Value} {base h : Heap} {CX : CXT} {k : Nat} {x q : Str} {ps : List Str} {st : Stmt} {sp : Sp} {C : Addr}
theorem GF.ok (g : GF K x st) (X : K.In h) (G : h.Ns mainGlobals mg) (ok : ∀ f fd, FnP K x x st [] f fd → FnOk P w K mg base CX k f fd ps sp)
    (b : ∀ (kV doc pm : Value) (an : Option Addr) (cdv ct : Value) (us : List Value), us.length = ps.length → bindArgs (PySem.W.fnOf x x (defArgs st) (defBody st) (defScope st) .none kV doc pm an cdv ct) ⟨us, []⟩ = pure (ps.zip us)) : GloOk P w K mg base CX k x ps sp := by
  obtain ⟨f, a, fd, F⟩ := g
  exact ⟨f, fd, ok f fd F, PySem.W.mg_of X G a, F.kp, F.bindsN b⟩
theorem MF.ok (g : MF K C x q st) (ok : ∀ f fd, FnP K x q st [] f fd → FnOk P w K mg base CX k f fd ps sp)
    (b : ∀ (kV doc pm : Value) (an : Option Addr) (cdv ct : Value) (us : List Value), us.length = ps.length → bindArgs (PySem.W.fnOf x q (defArgs st) (defBody st) (defScope st) .none kV doc pm an cdv ct) ⟨us, []⟩ = pure (ps.zip us)) : MthOk P w K mg base C CX k x ps sp := by
  obtain ⟨f, a, i, fd, F⟩ := g
  exact ⟨f, fd, ok f fd F, ⟨a, i, F.kp⟩, F.bindsN b⟩
theorem MF.meth (g : MF K C x q st) : ∃ f, Meth K C x f := by
  obtain ⟨f, a, i, fd, F⟩ := g
  exact ⟨f, a, i, F.kp⟩
end
theorem kit_sub {K : PySem.W.Frag} {C : Addr} {n : String} {b : Bool} (h : PySem.W.subIn K (.ref C) (.type n) = some b) (hm : PySem.W.kitMeta n = true) : PySem.W.kitOne K (.ref C) (.type n) = some b := by
  unfold PySem.W.kitOne
  rw [if_neg (by simp)]
  show (if PySem.W.kitMeta n = true then PySem.W.subIn K (.ref C) (.type n) else none) = some b
  rw [if_pos hm]
  exact h
theorem kit_cl {K : PySem.W.Frag} {C : Addr} {t : Value} {b : Bool} (hc : PySem.W.isClsIn K C = true) (ht : PySem.W.typeIn K (.ref C) = some (.type "type")) (h : PySem.W.subIn K t (.ref C) = some b) : PySem.W.kitCls K t (.ref C) = some b := by
  have e : ((PySem.W.clsIn K C).isSome && PySem.W.typeIn K (.ref C) == some (.type "type")) = true := by
    rw [show (PySem.W.clsIn K C).isSome = true from hc, ht] <;> rfl
  show (if ((PySem.W.clsIn K C).isSome && PySem.W.typeIn K (.ref C) == some (.type "type")) = true then PySem.W.subIn K t (.ref C) else none) = some b
  rw [if_pos e]
  exact h
theorem kit_tyc {K : PySem.W.Frag} {C : Addr} {n : String} {b : Bool} (hc : PySem.W.isClsIn K C = true) (ht : PySem.W.typeIn K (.ref C) = some (.type "type")) (h : PySem.W.subIn K (.type n) (.ref C) = some b) : PySem.W.kitOne K (.type n) (.ref C) = some b := by
  unfold PySem.W.kitOne
  rw [if_neg (by simp)]
  exact kit_cl hc ht h
theorem exm_own {K : PySem.W.Frag} {S : Addr} (h1 : PySem.W.subIn K (.ref S) (.type "BaseException") = some true) (h2 : PySem.W.isClsIn K S = true) (h3 : PySem.W.typeIn K (.ref S) = some (.type "type")) (h4 : PySem.W.subIn K (.ref S) (.ref S) = some true) :
    PySem.W.exmOne K (.ref S) (.ref S) = some true := by
  have e1 : (PySem.W.subIn K (.ref S) (.type "BaseException") == some true) = true := by rw [h1] <;> rfl
  have e2 : ((PySem.W.clsIn K S).isSome && PySem.W.typeIn K (.ref S) == some (.type "type")) = true := by
    rw [show (PySem.W.clsIn K S).isSome = true from h2, h3] <;> rfl
  show (if (PySem.W.subIn K (.ref S) (.type "BaseException") == some true) = true then (if ((PySem.W.clsIn K S).isSome && PySem.W.typeIn K (.ref S) == some (.type "type")) = true then PySem.W.subIn K (.ref S) (.ref S) else none) else none) = some true
  rw [if_pos e1, if_pos e2]
  exact h4
/-- the class Ratio -/
structure CF (K : PySem.W.Frag) (C : Addr) : Prop where
  pg : PySem.W.plainGet K C Str.empty = true
  hd : PySem.W.hasDictIn K C = true
  po : PySem.W.plainOver K C = true
  sa : PySem.W.findIn K (.ref C) "__setattr__" = some (some (.builtin "object.__setattr__"))
  mks : PySem.W.makesIn K C = true
  kc : PySem.W.keepIn K (.ref C) = true
  nT : PySem.W.findIn K (.ref C) "top" = some none
  nB : PySem.W.findIn K (.ref C) "bottom" = some none
  sf : PySem.W.selfFirst K C = true
  si : PySem.W.subIn K (.type "int") (.ref C) = some false
  sc : PySem.W.subIn K (.ref C) (.type "int") = some false
  sb : PySem.W.subIn K (.ref C) (.type "bool") = some false
  ca : PySem.W.findIn K (.ref C) "__class__" = some (some (.builtin "object.__class__"))
  cn : PySem.W.specialIn K (.builtin "object.__class__") "__get__" = some (some (.builtin "getset_descriptor.__get__"))
  ct : PySem.W.takesIn K (.builtin "object.__class__") = some true
  cm : PySem.W.mroIn K C (.type "object") = some true
  ic : PySem.W.isClsIn K C = true
  ty : PySem.W.typeIn K (.ref C) = some (.type "type")
/-- the class of the error, and the one above it -/
structure EF (K : PySem.W.Frag) (E B : Addr) : Prop where
  sa : PySem.W.findIn K (.ref E) "__setattr__" = some (some (.builtin "object.__setattr__"))
  ex : PySem.W.subIn K (.ref E) (.type "BaseException") = some true
  ty : PySem.W.typeIn K (.ref E) = some (.type "type")
  kE : PySem.W.keepIn K (.ref E) = true
  noW : PySem.W.findIn K (.ref E) "word" = some none
  ga : PySem.W.findIn K (.ref E) "__getattribute__" = some (some (.builtin "BaseException.__getattribute__"))
  gg : PySem.W.findIn K (.ref E) "__getattr__" = some none
  hd : PySem.W.hasDictIn K E = true
  ic : PySem.W.isClsIn K E = true
  se : PySem.W.subIn K (.ref E) (.ref E) = some true
  ib : PySem.W.isClsIn K B = true
  tb : PySem.W.typeIn K (.ref B) = some (.type "type")
  sb : PySem.W.subIn K (.ref E) (.ref B) = some true
structure IF (K : PySem.W.Frag) : Prop where
  a : PySem.W.findIn K (.type "int") "__add__" = some (some (.builtin "int.__add__"))
  ra : PySem.W.findIn K (.type "int") "__radd__" = some (some (.builtin "int.__radd__"))
  s : PySem.W.findIn K (.type "int") "__sub__" = some (some (.builtin "int.__sub__"))
  rs : PySem.W.findIn K (.type "int") "__rsub__" = some (some (.builtin "int.__rsub__"))
  m : PySem.W.findIn K (.type "int") "__mul__" = some (some (.builtin "int.__mul__"))
  rm : PySem.W.findIn K (.type "int") "__rmul__" = some (some (.builtin "int.__rmul__"))
structure NF (K : PySem.W.Frag) : Prop where
  gcd : PySem.W.nsIn K mainGlobals "gcd" = some (some (.builtin "math.gcd"))
  isinst : PySem.W.nsIn K mainGlobals "isinstance" = some none
  int : PySem.W.nsIn K mainGlobals "int" = some none
  bool : PySem.W.nsIn K mainGlobals "bool" = some none
  abs : PySem.W.nsIn K mainGlobals "abs" = some none
  len : PySem.W.nsIn K mainGlobals "len" = some none
  range : PySem.W.nsIn K mainGlobals "range" = some none
  max : PySem.W.nsIn K mainGlobals "max" = some none
  min : PySem.W.nsIn K mainGlobals "min" = some none
  all : PySem.W.nsIn K mainGlobals "all" = some none
theorem txt_mk {K : PySem.W.Frag} {h : Heap} {mg : Str → Option Value} {C E B : Addr} (X : K.In h) (G : h.Ns mainGlobals mg) (aC : PySem.W.nsIn K mainGlobals "Ratio" = some (some (.ref C))) (aE : PySem.W.nsIn K mainGlobals "NoRatio" = some (some (.ref E))) (aB : PySem.W.nsIn K mainGlobals "ToldError" = some (some (.ref B))) (ne : E ≠ B)
    (c : CF K C) (e : EF K E B) (i : IF K) (n : NF K)
    {nm q : Str} {N : Addr} {bs bm : List Value} {sn : List Str} {sub : List Value} {ab : Bool} {col : Option Bool} {dd : Option Addr} {m0 m1 m2 m3 m5 : Option Value}
    (xL : K.lookup E = some (excClassObj nm q E N bs bm true sn sub ab col dd m0 m1 m2 m3 m5 "ValueError.__new__")) (rf : PySem.HandSPX.refsVE bm = true) : Txt K mg C E B where
  cl := ⟨c.pg, c.hd, c.po, c.sa⟩
  nT := c.nT
  nB := c.nB
  mgC := PySem.W.mg_of X G aC
  own := ⟨c.sf, c.si, c.sc⟩
  ca := c.ca
  cn := c.cn
  ct := c.ct
  cm := c.cm
  rInt := kit_sub c.sc (by decide +kernel)
  rBool := kit_sub c.sb (by decide +kernel)
  iC := kit_tyc c.ic c.ty c.si
  ox := ⟨⟨nm, q, N, bs, bm, sn, sub, ab, col, dd, m0, m1, m2, m3, m5, xL, rf⟩, e.sa, e.ex, e.ty, e.kE⟩
  mgE := PySem.W.mg_of X G aE
  noW := e.noW
  xf := ⟨e.ga, e.gg, e.ex, e.hd⟩
  exm := exm_own e.ex e.ic e.ty e.se
  up := kit_cl e.ib e.tb e.sb
  neB := ne
  mgB := PySem.W.mg_of X G aB
  iAdd := i.a
  iRadd := i.ra
  iSub := i.s
  iRsub := i.rs
  iMul := i.m
  iRmul := i.rm
  gcd := PySem.W.mg_of X G n.gcd
  isinst := PySem.W.mg_none_of X G n.isinst
  int := PySem.W.mg_none_of X G n.int
  bool := PySem.W.mg_none_of X G n.bool
  abs := PySem.W.mg_none_of X G n.abs
  len := PySem.W.mg_none_of X G n.len
  range := PySem.W.mg_none_of X G n.range
  max := PySem.W.mg_none_of X G n.max
  min := PySem.W.mg_none_of X G n.min
  all := PySem.W.mg_none_of X G n.all
/-- what else of the class is asked -/
structure DF (K : PySem.W.Frag) (C : Addr) : Prop where
  ne : PySem.W.findIn K (.ref C) "__ne__" = some (some (.builtin "object.__ne__"))
  ss : PySem.W.subIn K (.ref C) (.type "str") = some false
  s1 : PySem.W.subIn K (.type "NoneType") (.ref C) = some false
  s2 : PySem.W.subIn K (.type "str") (.ref C) = some false
  s3 : PySem.W.subIn K (.type "tuple") (.ref C) = some false
  s4 : PySem.W.subIn K (.type "list") (.ref C) = some false
  s5 : PySem.W.subIn K (.type "dict") (.ref C) = some false
  rd : PySem.W.readsIn K C (.type "type") = true
  rg : PySem.W.specialIn K (.ref C) "__getattribute__" = some (some (.builtin "type.__getattribute__"))
theorem far_mk {K : PySem.W.Frag} {C : Addr} {n : String} (c : CF K C) (h : PySem.W.subIn K (.type n) (.ref C) = some false) : Far K C n := ⟨h, kit_tyc c.ic c.ty h⟩
theorem rd_mk {K : PySem.W.Frag} {C p f : Addr} {rest : List Value} (a : PySem.W.findCls K (.ref C) (.type "type") "read" = some (.get (.builtin "staticmethod.__get__") (.ref p) .none (.ref C))) (r : PySem.W.recIn K p "staticmethod" = some (.ref f :: rest)) (F : ∃ fd, FnP K "read" "Ratio.read" sRead [] f fd) :
    ∃ p f, PySem.W.findCls K (.ref C) (.type "type") "read" = some (.get (.builtin "staticmethod.__get__") (.ref p) .none (.ref C)) ∧ (∃ rest, PySem.W.recIn K p "staticmethod" = some (.ref f :: rest)) ∧ ∃ fd, FnP K "read" "Ratio.read" sRead [] f fd := ⟨p, f, a, ⟨rest, r⟩, F⟩
theorem all_mk {P : Program} {w : World} {K : PySem.W.Frag} {h : Heap} {mg : Str → Option Value} {fa C E B : Addr} {t1 t2 : Tok} (X : K.In h) (G : h.Ns mainGlobals mg) (hfa : mg "law" = some (.ref fa)) (T : Txt K mg C E B) (c : CF K C) (d : DF K C)
    (aS : PySem.W.nsIn K mainGlobals "str" = some none) (aD : PySem.W.nsIn K mainGlobals "DIGITS" = some (some (.str DG t1))) (aM : PySem.W.nsIn K mainGlobals "MOST_DIGITS" = some (some (.int 60 t2)))
    (gE : ∃ f, PySem.W.findIn K (.ref E) "__init__" = some (some (.ref f)) ∧ PySem.W.typeIn K (.ref f) = some (.type "function") ∧ ∃ fd, FnP K "__init__" "NoRatio.__init__" sErr [] f fd)
    (gM : ∃ f, PySem.W.findIn K (.ref C) "__init__" = some (some (.ref f)) ∧ PySem.W.isFn K (.ref f) = true ∧ ∃ fd, FnP K "__init__" "Ratio.__init__" sInit [.int 1] f fd)
    (gR : ∃ p f, PySem.W.findCls K (.ref C) (.type "type") "read" = some (.get (.builtin "staticmethod.__get__") (.ref p) .none (.ref C)) ∧ (∃ rest, PySem.W.recIn K p "staticmethod" = some (.ref f :: rest)) ∧ ∃ fd, FnP K "read" "Ratio.read" sRead [] f fd)
    (g1 : MF K C "__lt__" "Ratio.__lt__" sLt) (g2 : MF K C "__le__" "Ratio.__le__" sLe) (g3 : MF K C "__gt__" "Ratio.__gt__" sGt) (g4 : MF K C "__ge__" "Ratio.__ge__" sGe) (g5 : MF K C "__eq__" "Ratio.__eq__" sEq) (g6 : MF K C "text" "Ratio.text" sText)
    (f1 : GF K "is_integer" sIsInt) (f2 : GF K "is_figure" sFig) (f3 : GF K "is_number" sIsNum) (f4 : GF K "as_ratio" sAsR) (f5 : GF K "sign_of_difference" sSign) (f6 : GF K "_law_is_integer" sLInt) (f7 : GF K "_law_stream" sStream) (f8 : GF K "_law_draw" sDraw) (f9 : GF K "_law_common" sCommon) (f10 : GF K "_law_frac" sFrac) (f11 : GF K "_law_is" sIs) (f12 : GF K "_law_drawn" sDrawn) (f13 : GF K "_law_near" sNear) (f14 : GF K "_law_text" sLText) (f15 : GF K "_law_is_digits" sDig) (f16 : GF K "_law_due" sDue) (f17 : GF K "_law_read" sLRead) (f18 : GF K "_law_reads" sReads) (f19 : GF K "_law_edited" sEdited) (f20 : GF K "_law_compares" sCompares) (f21 : GF K "law" sLaw) :
    ∃ fd : FuncData, (∀ (s : Shared) (v : Value), BindsTo s fd ⟨[v], []⟩ [("script", v)]) ∧ ∀ base : Heap, K.In base → base.Ns mainGlobals mg → FnOk P w K mg base CX0 9 fa fd ["script"] (spLaw K) := by
  obtain ⟨fL, aL, fdL, FL⟩ := f21
  have e := hfa.symm.trans (PySem.W.mg_of X G aL)
  cases e
  have bL := FL.bindsA (ps := ["script"]) fun _ _ _ _ _ _ us hl => match us, hl with | [_], _ => rfl
  refine ⟨fdL, fun s v => bL s [v] rfl, fun base _ _ => ?_⟩
  have hst : mg "str" = none := PySem.W.mg_none_of X G aS
  have hD := PySem.W.mg_of X G aD
  have hM := PySem.W.mg_of X G aM
  have GI : GloOk P w K mg base CX0 1 "is_integer" ["found"] (spIsInt K) := f1.ok X G (fun f fd F => ok_isInt F T) fun _ _ _ _ _ _ us hl => match us, hl with | [_], _ => rfl
  have GE : ErrOk P w K mg base E 1 ["self", "word"] (spErr K E) := by
    obtain ⟨f, a, t, fd, F⟩ := gE
    exact ⟨f, fd, ok_err F T, a, t, F.bindsN fun _ _ _ _ _ _ us hl => match us, hl with | [_, _], _ => rfl⟩
  have GM : MkOk P w K mg base C (L2.CX P w) 3 ["self", "top", "bottom"] [.int 1] (spInit K C E) := by
    obtain ⟨f, a, i, fd, F⟩ := gM
    obtain ⟨ds, vd, bd⟩ := F.binds1 (ps := ["self", "top", "bottom"]) 3 1 (List.cons_ne_nil _ _) rfl fun _ _ _ _ _ _ _ us its hl hi => match us, its, hl, hi with | [_, _, _], [_], _, _ => ⟨_, rfl, rfl⟩
    obtain ⟨ds', vd', bd'⟩ := F.binds1 (ps := ["self", "top", "bottom"]) 2 0 (List.cons_ne_nil _ _) rfl fun _ _ _ _ _ _ _ us its hl hi => match us, its, hl, hi with | [_, _], [_], _, _ => ⟨_, rfl, rfl⟩
    cases vd
    exact ⟨f, fd, ok_init F T GI GE, ⟨c.mks, a, i, c.kc⟩, bd, ds', vd', bd'⟩
  have GF' : GloOk P w K mg base CX0 1 "is_figure" ["text"] spFig := f2.ok X G (fun f fd F => ok_fig F T hD hM) fun _ _ _ _ _ _ us hl => match us, hl with | [_], _ => rfl
  have GN : GloOk P w K mg base CX0 2 "is_number" ["found"] (spIsNum C) := f3.ok X G (fun f fd F => ok_isNum F T GI) fun _ _ _ _ _ _ us hl => match us, hl with | [_], _ => rfl
  have GA : GloOk P w K mg base CX0 5 "as_ratio" ["number"] (spAsR C) := f4.ok X G (fun f fd F => ok_asR F T GM) fun _ _ _ _ _ _ us hl => match us, hl with | [_], _ => rfl
  have GS : GloOk P w K mg base CX0 6 "sign_of_difference" ["one", "other"] (spSign C) := f5.ok X G (fun f fd F => ok_sign F T GA) fun _ _ _ _ _ _ us hl => match us, hl with | [_, _], _ => rfl
  have A1 : MthOk P w K mg base C CX0 7 "__lt__" ["self", "other"] (spCmp C fun d => decide (d < 0)) := g1.ok (fun f fd F => ok_lt F T GN GS) fun _ _ _ _ _ _ us hl => match us, hl with | [_, _], _ => rfl
  have A2 : MthOk P w K mg base C CX0 7 "__le__" ["self", "other"] (spCmp C fun d => decide (d ≤ 0)) := g2.ok (fun f fd F => ok_le F T GN GS) fun _ _ _ _ _ _ us hl => match us, hl with | [_, _], _ => rfl
  have A3 : MthOk P w K mg base C CX0 7 "__gt__" ["self", "other"] (spCmp C fun d => decide (0 < d)) := g3.ok (fun f fd F => ok_gt F T GN GS) fun _ _ _ _ _ _ us hl => match us, hl with | [_, _], _ => rfl
  have A4 : MthOk P w K mg base C CX0 7 "__ge__" ["self", "other"] (spCmp C fun d => decide (0 ≤ d)) := g4.ok (fun f fd F => ok_ge F T GN GS) fun _ _ _ _ _ _ us hl => match us, hl with | [_, _], _ => rfl
  have A5 : MthOk P w K mg base C CX0 2 "__eq__" ["self", "other"] (spEq K C) := g5.ok (fun f fd F => ok_eq F T GI) fun _ _ _ _ _ _ us hl => match us, hl with | [_, _], _ => rfl
  have A6 : MthOk P w K mg base C CX0 1 "text" ["self"] (spText C) := g6.ok (fun f fd F => ok_text F T hst) fun _ _ _ _ _ _ us hl => match us, hl with | [_], _ => rfl
  have A7 : StOk P w K mg base C (L2.CX P w) 5 "read" ["text"] (spRead K C E) := by
    obtain ⟨p, f, a, r, fd, F⟩ := gR
    exact ⟨_, p, f, fd, ok_read F T hst GE GM GF' A6, ⟨d.rd, d.rg⟩, ⟨a, r, rfl, F.kp⟩, F.bindsN fun _ _ _ _ _ _ us hl => match us, hl with | [_], _ => rfl⟩
  have L1 : GloOk P w K mg base CX0 1 "_law_is_integer" ["thing"] (spIsInt K) := f6.ok X G (fun f fd F => ok_lint F T) fun _ _ _ _ _ _ us hl => match us, hl with | [_], _ => rfl
  have L2 : GloOk P w K mg base CX0 1 "_law_stream" ["script", "k"] (spStream K) := f7.ok X G (fun f fd F => ok_stream F T) fun _ _ _ _ _ _ us hl => match us, hl with | [_, _], _ => rfl
  have L3 : GloOk P w K mg base CX0 1 "_law_draw" ["stream", "many"] spDraw := f8.ok X G (fun f fd F => ok_draw F T) fun _ _ _ _ _ _ us hl => match us, hl with | [_, _], _ => rfl
  have L4 : GloOk P w K mg base CX0 1 "_law_common" ["one", "rest"] spCommon := f9.ok X G (fun f fd F => ok_common F T) fun _ _ _ _ _ _ us hl => match us, hl with | [_, _], _ => rfl
  have L5 : GloOk P w K mg base CX0 2 "_law_frac" ["top", "bottom"] spFrac := f10.ok X G (fun f fd F => ok_frac F T L4) fun _ _ _ _ _ _ us hl => match us, hl with | [_, _], _ => rfl
  have L6 : GloOk P w K mg base CX0 2 "_law_is" ["told", "due"] (spIs C) := f11.ok X G (fun f fd F => ok_is F T L1) fun _ _ _ _ _ _ us hl => match us, hl with | [_, _], _ => rfl
  have L7 : GloOk P w K mg base CX0 3 "_law_drawn" ["stream"] spDrawn := f12.ok X G (fun f fd F => ok_drawn F T L3 L5) fun _ _ _ _ _ _ us hl => match us, hl with | [_], _ => rfl
  have L8 : GloOk P w K mg base CX0 4 "_law_near" ["stream", "one"] spNear := f13.ok X G (fun f fd F => ok_near F T L3 L5 L7) fun _ _ _ _ _ _ us hl => match us, hl with | [_, _], _ => rfl
  have L9 : GloOk P w K mg base CX0 1 "_law_text" ["one"] spLText := f14.ok X G (fun f fd F => ok_ltext F T hst) fun _ _ _ _ _ _ us hl => match us, hl with | [_], _ => rfl
  have L10 : GloOk P w K mg base CX0 1 "_law_is_digits" ["text"] spDig := f15.ok X G (fun f fd F => ok_dig F T) fun _ _ _ _ _ _ us hl => match us, hl with | [_], _ => rfl
  have L11 : GloOk P w K mg base CX0 3 "_law_due" ["text"] (spDue K) := f16.ok X G (fun f fd F => ok_due F T hst L10 L5 L9) fun _ _ _ _ _ _ us hl => match us, hl with | [_], _ => rfl
  have L12 : GloOk P w K mg base CX0 6 "_law_read" ["text"] (spLRead K C) := f17.ok X G (fun f fd F => ok_lread F T A7) fun _ _ _ _ _ _ us hl => match us, hl with | [_], _ => rfl
  have L13 : GloOk P w K mg base CX0 7 "_law_reads" ["text"] (spReads K) := f18.ok X G (fun f fd F => ok_reads F T L12 L11 L6) fun _ _ _ _ _ _ us hl => match us, hl with | [_], _ => rfl
  have L14 : GloOk P w K mg base CX0 2 "_law_edited" ["stream", "text"] spEdited := f19.ok X G (fun f fd F => ok_edited F T L3) fun _ _ _ _ _ _ us hl => match us, hl with | [_, _], _ => rfl
  have L15 : GloOk P w K mg base CX0 8 "_law_compares" ["a", "b", "one", "other"] (spCompares C) := f20.ok X G (fun f fd F => ok_compares F T d.ne A1 A2 A3 A4 A5) fun _ _ _ _ _ _ us hl => match us, hl with | [_, _, _, _], _ => rfl
  exact ok_law FL T d.ne (kit_sub d.ss (by decide +kernel)) (far_mk c d.s1) (far_mk c d.s2) (far_mk c d.s3) (far_mk c d.s4) (far_mk c d.s5) GM A5 A6 L2 L3 L7 L8 L15 L9 L14 L13
theorem walk {l : PySem.W.OpenLaw} {q : Program} {loose : List Str} {XP : (Str → Option Value) → Heap → Prop} {YP : World → Heap → Prop} {d : DefRec} {K : Params → PySem.W.Frag} (hn : l.most = some 63) (hdf : d.params.defaults = [])
    (hY : ∀ (w : World) (h : Heap), YP w h → (K w.params).In h)
    (F : ∀ (w : World) (mg : Str → Option Value) (fa : Addr) (h : Heap), (K w.params).In h → h.Ns mainGlobals mg → mg d.name = some (.ref fa) →
      ∃ fd : FuncData, (∀ (s : Shared) (u : Value), BindsTo s fd ⟨[u], []⟩ [("script", u)]) ∧ ∀ base : Heap, (K w.params).In base → base.Ns mainGlobals mg → FnOk l.prog w (K w.params) mg base CX0 9 fa fd ["script"] (spLaw (K w.params))) :
    PySem.W.WalkO q loose XP YP l.row.toRowW d [] (fun f vs => PySem.call f vs) :=
  L2.walk_of (n := 63) (k := 9) (x := "script") (CX := fun _ => CX0) (sp := fun w => spLaw (K w.params)) hn (by decide) hdf ⟨rfl, by decide, by decide⟩ hY F (fun _ _ a ns hl _ hS => ⟨a, ns, rfl, hS, hl, fun _ => rfl⟩) fun _ _ _ _ _ z => z
end K3

set_option Elab.async false
open PySem PySem.W PyProof.Rows
local macro_rules | `(tactic| walk_at "k3 global") => `(tactic| (refine' ⟨_, ?a, K3.fnp ?l ?c ?k⟩; (case a => k_is); (case l => k_is); (case c => k_is); (case k => k_is)))
local macro_rules | `(tactic| walk_at "k3 method") => `(tactic| (refine' ⟨_, ?a, ?i, K3.fnp ?l ?c ?k⟩; (case a => k_is); (case i => k_is); (case l => k_is); (case c => k_is); (case k => k_is)))
set_option maxRecDepth 100000 in
set_option maxHeartbeats 0 in
theorem PySem.Challenge.cw_toldwithin_k03_ratios_compared_and_writt_holds : PySem.Challenge.rw_toldwithin_k03_ratios_compared_and_writt.Holds := by
  w_on; o_law; k_head; (case hw => w_witness2)
  k_fill
  refine K3.walk (l := PySem.Challenge.rw_toldwithin_k03_ratios_compared_and_writt) rfl rfl (fun w h Y => PySem.W.kIn_of Y) ?F
  case F =>
    intro w mg fa h KX G hmg
    refine' K3.all_mk KX G hmg (K3.txt_mk KX G ?aC ?aE ?aB ?ne ?cf ?ef ?inf ?nf ?xL ?rf) ?cf ?df ?aS ?aD ?aM ?gE ?gM ?gR ?g1 ?g2 ?g3 ?g4 ?g5 ?g6 ?f1 ?f2 ?f3 ?f4 ?f5 ?f6 ?f7 ?f8 ?f9 ?f10 ?f11 ?f12 ?f13 ?f14 ?f15 ?f16 ?f17 ?f18 ?f19 ?f20 ?f21
    (case aC => k_is); (case aE => k_is); (case aB => k_is); (case ne => decide); (case xL => k_is); (case rf => decide +kernel); (case aS => k_is); (case aD => k_is); (case aM => k_is)
    (case cf => constructor <;> k_is)
    (case df => constructor <;> k_is)
    (case ef => constructor <;> first | k_is | rfl)
    (case inf => constructor <;> k_is)
    (case nf => constructor <;> k_is)
    (case gE => (refine' ⟨_, ?za, ?zt, K3.fnp ?zl ?zc ?zk⟩; (case za => k_is); (case zt => k_is); (case zl => k_is); (case zc => k_is); (case zk => k_is)))
    (case gM => (refine' ⟨_, ?ya, ?yi, K3.fnp1 ?yl ?yc ?yk ?yT⟩; (case ya => k_is); (case yi => k_is); (case yl => k_is); (case yc => k_is); (case yk => k_is); (case yT => k_is)))
    (case gR => (refine' K3.rd_mk ?xa ?xr (K3.fnp ?xl ?xc ?xk); (case xa => k_is); (case xr => k_is); (case xl => k_is); (case xc => k_is); (case xk => k_is)))
    (case g1 => walk_at "k3 method"); (case g2 => walk_at "k3 method"); (case g3 => walk_at "k3 method"); (case g4 => walk_at "k3 method"); (case g5 => walk_at "k3 method"); (case g6 => walk_at "k3 method")
    (case f1 => walk_at "k3 global"); (case f2 => walk_at "k3 global"); (case f3 => walk_at "k3 global"); (case f4 => walk_at "k3 global"); (case f5 => walk_at "k3 global"); (case f6 => walk_at "k3 global"); (case f7 => walk_at "k3 global"); (case f8 => walk_at "k3 global"); (case f9 => walk_at "k3 global"); (case f10 => walk_at "k3 global"); (case f11 => walk_at "k3 global"); (case f12 => walk_at "k3 global"); (case f13 => walk_at "k3 global"); (case f14 => walk_at "k3 global"); (case f15 => walk_at "k3 global"); (case f16 => walk_at "k3 global"); (case f17 => walk_at "k3 global"); (case f18 => walk_at "k3 global"); (case f19 => walk_at "k3 global"); (case f20 => walk_at "k3 global"); (case f21 => walk_at "k3 global")
