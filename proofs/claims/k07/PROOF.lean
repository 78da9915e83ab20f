import PyProof.Rows.All
import Wide.All
import OpenK.AllK
import Wide.FinOn
import HandS.Words
import HandS.WordsExc
import HandS.Defaults
import HandS.Head0
import HandS.Head1
import HandS.Head2
import HandS.Head3
import HandS.HeadEnd
import HandS.HeadHook1
import HandS.HeadHook2
import HandS.HeadHook3
import HandS.HeadHook4
import KE.KOpsOwn
import HandS.Base
import HandS.Call
import HandS.List
import HandS.Exc
import HandS.IsInst
import HandS.Wide
import HandS.ExcField
import HandS.ExcInit
import HandS.TryOnly
import HandS.MakeKw
import HandS.Gcd
import PyProof.InstNe
import PyProof.EqAt
import HandS.Small
import KE.KMathG
import HandS.WordsList
import HandS.Comp
import HandS.Text
import HandS.Walk
import HandS.Steps
import HandS.Dict
import HandS.Star
import HandS.Strs
import HandS.Zip
import HandS.FStr
import HandS.Iter
import HandS.Codes
import KE.GoesRaise
import KE.KAsSuite
import HandS.Deep
import HandS.Conv
import HandS.Ends
import HandS.HeadWalk
import PySem.Challenge.RW_toldwithin_k07_whole_questions_add_and_s
set_option Elab.async false
set_option linter.all false
set_option maxRecDepth 100000
set_option maxHeartbeats 0
/-! the run of the top, and the facts that are asked of what it leaves -/
namespace KF
open PySem PySem.Spec PyProof.Rows L2 He
def top (i : Nat) : Stmt := PySem.Challenge.pw_toldwithin_k07_whole_questions_add_and_s.main.body.getD i (.Pass ⟨0, 0, 0, 0⟩)
abbrev veMro : List Value := [.type "ValueError", .type "Exception", .type "BaseException", .type "object"]
/-- the class that stands at C, its line bm -/
def clsB (K : PySem.W.Frag) (C : Addr) (bm : List Value) : Bool := match K.lookup C with
  | some ⟨cl, _, .cls cd, sl⟩ => decide (cl = .type "type") && (decide (cd.mro = .ref C :: bm) && (cd.hasDict && (!cd.hasDel && (match sl.toList with
      | [_, _, _, _, some (.builtin n), _] => decide (n = "ValueError.__new__")
      | _ => false))))
  | _ => false
abbrev ObjAt (K : PySem.W.Frag) (C : Addr) (bm : List Value) : Prop := ∃ nm q N bs sn sub ab col dd m0 m1 m2 m3 m5, K.lookup C = some (excClassObj nm q C N bs bm true sn sub ab col dd m0 m1 m2 m3 m5 "ValueError.__new__")
theorem clsB_ok {K : PySem.W.Frag} {C : Addr} {bm : List Value} (h : clsB K C bm = true) : ObjAt K C bm := by
  unfold clsB at h
  split at h
  · rename_i cl od cd sl e
    obtain ⟨h1, h⟩ := ba h
    obtain ⟨h2, h⟩ := ba h
    obtain ⟨h3, h⟩ := ba h
    obtain ⟨h4, h⟩ := ba h
    split at h
    · rename_i m0 m1 m2 m3 n m5 es
      have e1 := of_decide_eq_true h1
      have e2 := of_decide_eq_true h2
      have e5 := of_decide_eq_true h
      obtain ⟨sl⟩ := sl
      have es' : sl = [m0, m1, m2, m3, some (.builtin n), m5] := es
      subst e1 es' e5
      obtain ⟨x1, x2, x3, x4, x5, x6, x7, x8, x9, x10, x11⟩ := cd
      dsimp only at e2 h3 h4
      subst e2 h3
      have h4' : x11 = false := by cases x11 with | true => cases h4 | false => rfl
      subst h4'
      exact ⟨_, _, _, _, _, _, _, _, _, _, _, _, _, _, e⟩
    · cases h
  · cases h
def cfB (K : PySem.W.Frag) (C : Addr) : Bool := [decide (PySem.W.plainGet K C Str.empty = true), decide (PySem.W.hasDictIn K C = true), decide (PySem.W.plainOver K C = true), decide (PySem.W.findIn K (.ref C) "__setattr__" = some (some (.builtin "object.__setattr__"))), decide (PySem.W.makesIn K C = true), decide (PySem.W.keepIn K (.ref C) = true), decide (PySem.W.findIn K (.ref C) "__class__" = some (some (.builtin "object.__class__"))), decide (PySem.W.mroIn K C (.type "object") = some true), decide (PySem.W.isClsIn K C = true), decide (PySem.W.typeIn K (.ref C) = some (.type "type")), decide (PySem.W.findIn K (.ref C) "__ne__" = some (some (.builtin "object.__ne__"))), decide (PySem.W.subIn K (.ref C) (.type "list") = some false), decide (PySem.W.subIn K (.ref C) (.type "tuple") = some false), decide (PySem.W.subIn K (.ref C) (.type "int") = some false), decide (PySem.W.subIn K (.ref C) (.type "bool") = some false), decide (PySem.W.subIn K (.type "NoneType") (.ref C) = some false), decide (PySem.W.subIn K (.type "bool") (.ref C) = some false), decide (PySem.W.subIn K (.type "int") (.ref C) = some false), decide (PySem.W.subIn K (.type "str") (.ref C) = some false), decide (PySem.W.subIn K (.type "dict") (.ref C) = some false), decide (PySem.W.subIn K (.type "list") (.ref C) = some false), decide (PySem.W.subIn K (.type "tuple") (.ref C) = some false)].all id
def efB (K : PySem.W.Frag) (C B : Addr) : Bool := [decide (PySem.W.findIn K (.ref C) "__setattr__" = some (some (.builtin "object.__setattr__"))), decide (PySem.W.subIn K (.ref C) (.type "BaseException") = some true), decide (PySem.W.typeIn K (.ref C) = some (.type "type")), decide (PySem.W.keepIn K (.ref C) = true), decide (PySem.W.findIn K (.ref C) "word" = some none), decide (PySem.W.findIn K (.ref C) "__getattribute__" = some (some (.builtin "BaseException.__getattribute__"))), decide (PySem.W.findIn K (.ref C) "__getattr__" = some none), decide (PySem.W.hasDictIn K C = true), decide (PySem.W.isClsIn K C = true), decide (PySem.W.subIn K (.ref C) (.ref C) = some true), decide (PySem.W.isClsIn K B = true), decide (PySem.W.typeIn K (.ref B) = some (.type "type")), decide (PySem.W.subIn K (.ref C) (.ref B) = some true)].all id
def nfB (K : PySem.W.Frag) (C : Addr) : Bool := [decide (PySem.W.excIn K C veMro "ValueError.__new__" = true), decide (PySem.W.keepIn K (.ref C) = true), decide (PySem.W.subIn K (.ref C) (.type "BaseException") = some true), decide (PySem.W.typeIn K (.ref C) = some (.type "type")), decide (PySem.W.isClsIn K C = true), decide (PySem.W.subIn K (.ref C) (.ref C) = some true)].all id
def mk0 : List (PySem.W.Frag → Bool) := [fun K => tupB K "RESERVED" [.str "sum", .str "each"], fun K => decide (PySem.W.nsIn K mainGlobals "gcd" = some (some (.builtin "math.gcd"))), fun K => decide (PySem.W.nsIn K mainGlobals "lcm" = some (some (.builtin "math.lcm"))), fun K => KF.cfB K (ga K "Grid"), fun K => KF.cfB K (ga K "Ratio"), fun K => KF.cfB K (ga K "Question"), fun K => decide (PySem.W.specialIn K (.builtin "object.__class__") "__get__" = some (some (.builtin "getset_descriptor.__get__"))), fun K => decide (PySem.W.takesIn K (.builtin "object.__class__") = some true), fun K => decide (PySem.W.findIn K (.ref (ga K "Grid")) "axes" = some none), fun K => decide (PySem.W.findIn K (.ref (ga K "Grid")) "cells" = some none), fun K => decide (PySem.W.findIn K (.ref (ga K "Grid")) "size" = some none), fun K => decide (PySem.W.findIn K (.ref (ga K "Ratio")) "top" = some none), fun K => decide (PySem.W.findIn K (.ref (ga K "Ratio")) "bottom" = some none), fun K => decide (PySem.W.selfFirst K (ga K "Ratio") = true), fun K => decide (PySem.W.findIn K (.ref (ga K "Question")) "grid" = some none)]
def mk1 : List (PySem.W.Frag → Bool) := [fun K => decide (PySem.W.findIn K (.ref (ga K "Question")) "weights" = some none), fun K => decide (PySem.W.subIn K (.ref (ga K "Grid")) (.ref (ga K "Ratio")) = some false), fun K => decide (PySem.W.subIn K (.ref (ga K "Ratio")) (.ref (ga K "Grid")) = some false), fun K => KF.efB K (ga K "NoGrid") (ga K "ToldError"), fun K => KF.clsB K (ga K "NoGrid") (.ref (ga K "ToldError") :: KF.veMro), fun K => decide ((ga K "NoGrid") ≠ (ga K "ToldError")), fun K => KF.efB K (ga K "NoRatio") (ga K "ToldError"), fun K => KF.clsB K (ga K "NoRatio") (.ref (ga K "ToldError") :: KF.veMro), fun K => decide ((ga K "NoRatio") ≠ (ga K "ToldError")), fun K => KF.efB K (ga K "NoQuestion") (ga K "ToldError"), fun K => KF.clsB K (ga K "NoQuestion") (.ref (ga K "ToldError") :: KF.veMro), fun K => decide ((ga K "NoQuestion") ≠ (ga K "ToldError")), fun K => KF.nfB K (ga K "NoAmounts"), fun K => decide (PySem.W.findIn K (.type "int") "__add__" = some (some (.builtin "int.__add__"))), fun K => decide (PySem.W.findIn K (.type "int") "__radd__" = some (some (.builtin "int.__radd__")))]
def mk2 : List (PySem.W.Frag → Bool) := [fun K => decide (PySem.W.findIn K (.type "int") "__sub__" = some (some (.builtin "int.__sub__"))), fun K => decide (PySem.W.findIn K (.type "int") "__rsub__" = some (some (.builtin "int.__rsub__"))), fun K => decide (PySem.W.findIn K (.type "int") "__mul__" = some (some (.builtin "int.__mul__"))), fun K => decide (PySem.W.findIn K (.type "int") "__rmul__" = some (some (.builtin "int.__rmul__"))), fun K => decide ((ga K "Grid") ≠ (ga K "Ratio")), fun K => decide (PySem.W.findIn K (.ref (ga K "NoGrid")) "__init__" = some (some (.ref (ma K (ga K "NoGrid") "__init__")))), fun K => decide (PySem.W.typeIn K (.ref (ma K (ga K "NoGrid") "__init__")) = some (.type "function")), fun K => decide (PySem.W.findIn K (.ref (ga K "Grid")) "__init__" = some (some (.ref (ma K (ga K "Grid") "__init__")))), fun K => decide (PySem.W.isFn K (.ref (ma K (ga K "Grid") "__init__")) = true), fun K => decide (PySem.W.findIn K (.ref (ga K "NoRatio")) "__init__" = some (some (.ref (ma K (ga K "NoRatio") "__init__")))), fun K => decide (PySem.W.typeIn K (.ref (ma K (ga K "NoRatio") "__init__")) = some (.type "function")), fun K => decide (PySem.W.findIn K (.ref (ga K "Ratio")) "__init__" = some (some (.ref (ma K (ga K "Ratio") "__init__")))), fun K => decide (PySem.W.isFn K (.ref (ma K (ga K "Ratio") "__init__")) = true), fun K => decide (PySem.W.findIn K (.ref (ga K "NoQuestion")) "__init__" = some (some (.ref (ma K (ga K "NoQuestion") "__init__")))), fun K => decide (PySem.W.typeIn K (.ref (ma K (ga K "NoQuestion") "__init__")) = some (.type "function"))]
def mk3 : List (PySem.W.Frag → Bool) := [fun K => decide (PySem.W.findIn K (.ref (ga K "Question")) "__init__" = some (some (.ref (ma K (ga K "Question") "__init__")))), fun K => decide (PySem.W.isFn K (.ref (ma K (ga K "Question") "__init__")) = true), fun K => KF.nfB K (ga K "OtherGrid"), fun K => decide (PySem.W.subIn K (.ref (ga K "Ratio")) (.ref (ga K "Question")) = some false), fun K => decide (PySem.W.subIn K (.ref (ga K "Question")) (.ref (ga K "Ratio")) = some false), fun K => decide ((ga K "Ratio") ≠ (ga K "Question")), fun K => decide (PySem.W.selfFirst K (ga K "Question") = true), fun K => KF.efB K (ga K "OtherGrid") (ga K "ToldError"), fun K => decide ((ga K "OtherGrid") ≠ (ga K "ToldError"))]
def mks : List (PySem.W.Frag → Bool) := mk0 ++ mk1 ++ mk2 ++ mk3
def ex (K : PySem.W.Frag) : Bool := mks.all fun f => f K
theorem ex_at {K : PySem.W.Frag} (h : ex K = true) (i : Nat) {f : PySem.W.Frag → Bool} (e : mks[i]? = some f) : f K = true := List.all_eq_true.mp h f (List.mem_of_getElem? e)
def dg_is_sequence : DefD := ⟨("is_sequence", none), "is_sequence", "is_sequence", defArgs (top 16), defBody (top 16), defScope (top 16), [], []⟩
def dg_is_pair : DefD := ⟨("is_pair", none), "is_pair", "is_pair", defArgs (top 17), defBody (top 17), defScope (top 17), [], []⟩
def dg_is_word : DefD := ⟨("is_word", none), "is_word", "is_word", defArgs (top 18), defBody (top 18), defScope (top 18), [], []⟩
def dg_is_name : DefD := ⟨("is_name", none), "is_name", "is_name", defArgs (top 19), defBody (top 19), defScope (top 19), [], []⟩
def dg_are_names : DefD := ⟨("are_names", none), "are_names", "are_names", defArgs (top 20), defBody (top 20), defScope (top 20), [], []⟩
def dg_are_unlike_names : DefD := ⟨("are_unlike_names", none), "are_unlike_names", "are_unlike_names", defArgs (top 21), defBody (top 21), defScope (top 21), [], []⟩
def dg_are_pairs_of_axes : DefD := ⟨("are_pairs_of_axes", none), "are_pairs_of_axes", "are_pairs_of_axes", defArgs (top 28), defBody (top 28), defScope (top 28), [], []⟩
def dg_are_members : DefD := ⟨("are_members", none), "are_members", "are_members", defArgs (top 29), defBody (top 29), defScope (top 29), [], []⟩
def dg_cells_of : DefD := ⟨("cells_of", none), "cells_of", "cells_of", defArgs (top 30), defBody (top 30), defScope (top 30), [], []⟩
def dg__law_stream : DefD := ⟨("_law_stream", none), "_law_stream", "_law_stream", defArgs (top 45), defBody (top 45), defScope (top 45), [], []⟩
def dg__law_draw : DefD := ⟨("_law_draw", none), "_law_draw", "_law_draw", defArgs (top 46), defBody (top 46), defScope (top 46), [], []⟩
def dg__law_names : DefD := ⟨("_law_names", none), "_law_names", "_law_names", defArgs (top 54), defBody (top 54), defScope (top 54), [], []⟩
def dg__law_axes : DefD := ⟨("_law_axes", none), "_law_axes", "_law_axes", defArgs (top 55), defBody (top 55), defScope (top 55), [], []⟩
def dg_NoGrid_x___init__ : DefD := ⟨("NoGrid", some "__init__"), "__init__", "NoGrid.__init__", defArgs (inClass (top 5) 0), defBody (inClass (top 5) 0), defScope (inClass (top 5) 0), [], []⟩
def dg_Grid_x___init__ : DefD := ⟨("Grid", some "__init__"), "__init__", "Grid.__init__", defArgs (inClass (top 27) 0), defBody (inClass (top 27) 0), defScope (inClass (top 27) 0), [], []⟩
def dg_Grid_x___eq__ : DefD := ⟨("Grid", some "__eq__"), "__eq__", "Grid.__eq__", defArgs (inClass (top 27) 1), defBody (inClass (top 27) 1), defScope (inClass (top 27) 1), [], []⟩
def dg_is_integer : DefD := ⟨("is_integer", none), "is_integer", "is_integer", defArgs (top 15), defBody (top 15), defScope (top 15), [], []⟩
def dg_NoRatio_x___init__ : DefD := ⟨("NoRatio", some "__init__"), "__init__", "NoRatio.__init__", defArgs (inClass (top 4) 0), defBody (inClass (top 4) 0), defScope (inClass (top 4) 0), [], []⟩
def dg_Ratio_x___init__ : DefD := ⟨("Ratio", some "__init__"), "__init__", "Ratio.__init__", defArgs (inClass (top 32) 0), defBody (inClass (top 32) 0), defScope (inClass (top 32) 0), [.int 1], []⟩
def dg_as_ratio : DefD := ⟨("as_ratio", none), "as_ratio", "as_ratio", defArgs (top 34), defBody (top 34), defScope (top 34), [], []⟩
def dg__law_common : DefD := ⟨("_law_common", none), "_law_common", "_law_common", defArgs (top 47), defBody (top 47), defScope (top 47), [], []⟩
def dg__law_frac : DefD := ⟨("_law_frac", none), "_law_frac", "_law_frac", defArgs (top 48), defBody (top 48), defScope (top 48), [], []⟩
def dg__law_is_integer : DefD := ⟨("_law_is_integer", none), "_law_is_integer", "_law_is_integer", defArgs (top 44), defBody (top 44), defScope (top 44), [], []⟩
def dg__law_plus : DefD := ⟨("_law_plus", none), "_law_plus", "_law_plus", defArgs (top 49), defBody (top 49), defScope (top 49), [], []⟩
def dg__law_by : DefD := ⟨("_law_by", none), "_law_by", "_law_by", defArgs (top 50), defBody (top 50), defScope (top 50), [], []⟩
def dg__law_is : DefD := ⟨("_law_is", none), "_law_is", "_law_is", defArgs (top 51), defBody (top 51), defScope (top 51), [], []⟩
def dg_Ratio_x___eq__ : DefD := ⟨("Ratio", some "__eq__"), "__eq__", "Ratio.__eq__", defArgs (inClass (top 32) 10), defBody (inClass (top 32) 10), defScope (inClass (top 32) 10), [], []⟩
def dg_is_number : DefD := ⟨("is_number", none), "is_number", "is_number", defArgs (top 33), defBody (top 33), defScope (top 33), [], []⟩
def dg_are_amounts : DefD := ⟨("are_amounts", none), "are_amounts", "are_amounts", defArgs (top 42), defBody (top 42), defScope (top 42), [], []⟩
def dg_over_one : DefD := ⟨("over_one", none), "over_one", "over_one", defArgs (top 37), defBody (top 37), defScope (top 37), [], []⟩
def dg_dot : DefD := ⟨("dot", none), "dot", "dot", defArgs (top 38), defBody (top 38), defScope (top 38), [], []⟩
def dg_sum_of_products : DefD := ⟨("sum_of_products", none), "sum_of_products", "sum_of_products", defArgs (top 39), defBody (top 39), defScope (top 39), [], []⟩
def dg_NoQuestion_x___init__ : DefD := ⟨("NoQuestion", some "__init__"), "__init__", "NoQuestion.__init__", defArgs (inClass (top 6) 0), defBody (inClass (top 6) 0), defScope (inClass (top 6) 0), [], []⟩
def dg_Question_x___init__ : DefD := ⟨("Question", some "__init__"), "__init__", "Question.__init__", defArgs (inClass (top 41) 0), defBody (inClass (top 41) 0), defScope (inClass (top 41) 0), [], []⟩
def dg_Question_x___eq__ : DefD := ⟨("Question", some "__eq__"), "__eq__", "Question.__eq__", defArgs (inClass (top 41) 1), defBody (inClass (top 41) 1), defScope (inClass (top 41) 1), [], []⟩
def dg_Question_x_at : DefD := ⟨("Question", some "at"), "at", "Question.at", defArgs (inClass (top 41) 8), defBody (inClass (top 41) 8), defScope (inClass (top 41) 8), [], []⟩
def dg_Question_x_is_nothing : DefD := ⟨("Question", some "is_nothing"), "is_nothing", "Question.is_nothing", defArgs (inClass (top 41) 9), defBody (inClass (top 41) 9), defScope (inClass (top 41) 9), [], []⟩
def dg_Ratio_x___add__ : DefD := ⟨("Ratio", some "__add__"), "__add__", "Ratio.__add__", defArgs (inClass (top 32) 1), defBody (inClass (top 32) 1), defScope (inClass (top 32) 1), [], []⟩
def dg_Ratio_x___mul__ : DefD := ⟨("Ratio", some "__mul__"), "__mul__", "Ratio.__mul__", defArgs (inClass (top 32) 5), defBody (inClass (top 32) 5), defScope (inClass (top 32) 5), [], []⟩
def dg_Ratio_x___neg__ : DefD := ⟨("Ratio", some "__neg__"), "__neg__", "Ratio.__neg__", defArgs (inClass (top 32) 7), defBody (inClass (top 32) 7), defScope (inClass (top 32) 7), [], []⟩
def dg_Ratio_x_over : DefD := ⟨("Ratio", some "over"), "over", "Ratio.over", defArgs (inClass (top 32) 9), defBody (inClass (top 32) 9), defScope (inClass (top 32) 9), [], []⟩
def dg_Question_x___neg__ : DefD := ⟨("Question", some "__neg__"), "__neg__", "Question.__neg__", defArgs (inClass (top 41) 4), defBody (inClass (top 41) 4), defScope (inClass (top 41) 4), [], []⟩
def dg_Question_x___mul__ : DefD := ⟨("Question", some "__mul__"), "__mul__", "Question.__mul__", defArgs (inClass (top 41) 5), defBody (inClass (top 41) 5), defScope (inClass (top 41) 5), [], []⟩
def dg_Question_x___rmul__ : DefD := ⟨("Question", some "__rmul__"), "__rmul__", "Question.__rmul__", defArgs (inClass (top 41) 6), defBody (inClass (top 41) 6), defScope (inClass (top 41) 6), [], []⟩
def dg_Question_x_over : DefD := ⟨("Question", some "over"), "over", "Question.over", defArgs (inClass (top 41) 7), defBody (inClass (top 41) 7), defScope (inClass (top 41) 7), [], []⟩
def dg_Question_x___add__ : DefD := ⟨("Question", some "__add__"), "__add__", "Question.__add__", defArgs (inClass (top 41) 2), defBody (inClass (top 41) 2), defScope (inClass (top 41) 2), [], []⟩
def dg_Question_x___sub__ : DefD := ⟨("Question", some "__sub__"), "__sub__", "Question.__sub__", defArgs (inClass (top 41) 3), defBody (inClass (top 41) 3), defScope (inClass (top 41) 3), [], []⟩
def dg__law_number : DefD := ⟨("_law_number", none), "_law_number", "_law_number", defArgs (top 52), defBody (top 52), defScope (top 52), [], []⟩
def dg__law_handed : DefD := ⟨("_law_handed", none), "_law_handed", "_law_handed", defArgs (top 53), defBody (top 53), defScope (top 53), [], []⟩
def dg__law_weights : DefD := ⟨("_law_weights", none), "_law_weights", "_law_weights", defArgs (top 56), defBody (top 56), defScope (top 56), [], []⟩
def dg__law_at : DefD := ⟨("_law_at", none), "_law_at", "_law_at", defArgs (top 57), defBody (top 57), defScope (top 57), [], []⟩
def dg__law_given : DefD := ⟨("_law_given", none), "_law_given", "_law_given", defArgs (top 58), defBody (top 58), defScope (top 58), [], []⟩
def dg__law_asks : DefD := ⟨("_law_asks", none), "_law_asks", "_law_asks", defArgs (top 59), defBody (top 59), defScope (top 59), [], []⟩
def dg__law_small : DefD := ⟨("_law_small", none), "_law_small", "_law_small", defArgs (top 60), defBody (top 60), defScope (top 60), [], []⟩
def dg__law_over_zero : DefD := ⟨("_law_over_zero", none), "_law_over_zero", "_law_over_zero", defArgs (top 62), defBody (top 62), defScope (top 62), [], []⟩
def dg__law_apart : DefD := ⟨("_law_apart", none), "_law_apart", "_law_apart", defArgs (top 63), defBody (top 63), defScope (top 63), [], []⟩
def dg__law_step : DefD := ⟨("_law_step", none), "_law_step", "_law_step", defArgs (top 61), defBody (top 61), defScope (top 61), [], []⟩
def dg_law : DefD := ⟨("law", none), "law", "law", defArgs (top 64), defBody (top 64), defScope (top 64), [], []⟩
def fn0 : List DefD := [dg_is_sequence, dg_is_pair, dg_is_word, dg_is_name, dg_are_names, dg_are_unlike_names, dg_are_pairs_of_axes, dg_are_members, dg_cells_of, dg__law_stream, dg__law_draw, dg__law_names, dg__law_axes, dg_NoGrid_x___init__, dg_Grid_x___init__, dg_Grid_x___eq__, dg_is_integer, dg_NoRatio_x___init__, dg_Ratio_x___init__, dg_as_ratio, dg__law_common, dg__law_frac, dg__law_is_integer, dg__law_plus, dg__law_by, dg__law_is, dg_Ratio_x___eq__, dg_is_number, dg_are_amounts, dg_over_one]
def fn1 : List DefD := [dg_dot, dg_sum_of_products, dg_NoQuestion_x___init__, dg_Question_x___init__, dg_Question_x___eq__, dg_Question_x_at, dg_Question_x_is_nothing, dg_Ratio_x___add__, dg_Ratio_x___mul__, dg_Ratio_x___neg__, dg_Ratio_x_over, dg_Question_x___neg__, dg_Question_x___mul__, dg_Question_x___rmul__, dg_Question_x_over, dg_Question_x___add__, dg_Question_x___sub__, dg__law_number, dg__law_handed, dg__law_weights, dg__law_at, dg__law_given, dg__law_asks, dg__law_small, dg__law_over_zero, dg__law_apart, dg__law_step, dg_law]
def fn : List DefD := fn0 ++ fn1
def fa0 : List Fa := [.str "LETTERS" "abcdefghijklmnopqrstuvwxyz", .str "DIGITS" "0123456789", .int "MOST_NAME_LENGTH" 8, .int "MOST_AXES" 3, .int "MOST_MEMBERS" 4, .int "MOST_CELLS" 8, .glo "RESERVED", .free "isinstance", .free "int", .free "str", .free "list", .free "tuple", .free "set", .free "abs", .free "len", .free "range", .free "min", .free "all", .free "any", .free "enumerate", .free "zip", .free "repr", .free "max", .free "sum", .free "bool", .glo "Grid", .glo "NoGrid", .glo "ToldError", .glo "Ratio", .glo "NoRatio"]
def fa1 : List Fa := [.glo "Question", .glo "NoQuestion", .glo "NoAmounts", .glo "is_sequence", .glo "is_pair", .glo "is_word", .glo "is_name", .glo "are_names", .glo "are_unlike_names", .glo "are_pairs_of_axes", .glo "are_members", .glo "cells_of", .glo "_law_stream", .glo "_law_draw", .glo "_law_names", .glo "_law_axes", .meth "Grid" "__eq__", .glo "is_integer", .glo "as_ratio", .glo "_law_common", .glo "_law_frac", .glo "_law_is_integer", .glo "_law_plus", .glo "_law_by", .glo "_law_is", .meth "Ratio" "__eq__", .glo "is_number", .glo "are_amounts", .glo "over_one", .glo "dot"]
def fa2 : List Fa := [.glo "sum_of_products", .meth "Question" "__eq__", .meth "Question" "at", .meth "Question" "is_nothing", .meth "Ratio" "__add__", .meth "Ratio" "__mul__", .meth "Ratio" "__neg__", .meth "Ratio" "over", .meth "Ratio" "__rmul__", .meth "Question" "__rmul__", .glo "OtherGrid", .meth "Question" "__neg__", .meth "Question" "__mul__", .meth "Question" "over", .meth "Question" "__add__", .meth "Question" "__sub__", .free "NotImplemented", .glo "_law_number", .glo "_law_handed", .glo "_law_weights", .glo "_law_at", .glo "_law_given", .glo "_law_asks", .glo "_law_small", .glo "_law_over_zero", .glo "_law_apart", .glo "_law_step", .glo "law"]
def fa : List Fa := fa0 ++ fa1 ++ fa2
abbrev R : PySem.W.OpenRow := PySem.W.OpenLaw.row PySem.Challenge.rw_toldwithin_k07_whole_questions_add_and_s
abbrev hk : PySem.W.Hook := He.hookX 4 fa fn [] [] ex
def ob (s : PySem.W.SharedT) : He.AlX := He.obsX 4 fa fn [] [] ex (HandSHeadRun.getT s)
theorem ob_eq (s : PySem.W.SharedT) : ob s = hk.obs s.abs := He.obsX_eq (HandSHeadRun.getT_eq s)
def loose0 : List Str := ["_wall", "__name__", "ToldError", "NoRatio", "NoGrid", "NoQuestion", "NoAmounts", "OtherGrid", "LETTERS", "DIGITS", "RESERVED", "MOST_NAME_LENGTH", "MOST_DIGITS", "is_integer", "is_sequence", "is_pair", "is_word", "is_name", "are_names", "are_unlike_names", "is_figure", "MOST_AXES", "MOST_MEMBERS", "MOST_CELLS", "Grid"]
def loose1 : List Str := ["are_pairs_of_axes", "are_members", "cells_of", "Ratio", "is_number", "as_ratio", "sign_of_difference", "over_one", "dot", "sum_of_products", "Question", "are_amounts", "_law_is_integer", "_law_stream", "_law_draw", "_law_common", "_law_frac", "_law_plus", "_law_by", "_law_is", "_law_number", "_law_handed", "_law_names", "_law_axes", "_law_weights"]
def loose2 : List Str := ["_law_at", "_law_given", "_law_asks", "_law_small", "_law_step", "_law_over_zero", "_law_apart"]
def loose : List Str := loose0 ++ loose1 ++ loose2
theorem run (w : World) : HandSHeadRun.RunEqI R (PySem.W.view R.prog [0, 64]) hk ob 20000 loose w := by
  unfold HandSHeadRun.RunEqI
  kernel_rfl
end KF

set_option Elab.async false
set_option linter.all false
set_option maxRecDepth 100000
set_option maxHeartbeats 2000000
/-! operators of a class of one's own, over the layer -/
namespace PySem.OwnOps
open PySem PySem.W PySem.Calls
section
variable {prog : Program} {w : World} {A : Around} {E : Value → Shared → Prop} {s : Shared} {K : Frag} {x C g q : Addr} {ox : Obj} {od : Option Obj}
/-- what an int's own binary method says of an instance: that it knows nothing of it -/
theorem int_knows_not {B : Builtin} {nm : String} {f : Int → Int → Sem Fin} {n : Int} {t : Tok} (hB : B = Builtin.Int.intBinary nm f) (ho : s.heap.get? x = some ox) (hp : ox.data = .plain) {Q : Fin → Shared → Prop}
    (h : Q (.done (.ret .notImplemented)) s) : wpAny (model prog w) A (B ⟨[.int n t, .ref x], []⟩) Q E s := by
  subst hB
  obtain ⟨hp', g, d, tk, os⟩ := s
  obtain ⟨oc, odd, dt, sl⟩ := ox
  dsimp only at hp
  subst hp
  unfold Builtin.Int.intBinary
  wp_walk using wpAny_load' ho
  exact h
/-- int op instance: the int's own method knows nothing of it, so the instance's reflected one is asked -/
theorem refl_int {op : Operator} {id : String} {B : Builtin} {nm : String} {f : Int → Int → Sem Fin} {n : Int} {t : Tok} {Q : Value → Shared → Prop} (X : K.In s.heap) (I : InstAt s.heap x ox C od) (hp : ox.data = .plain)
    (hc : selfFirst K C = true) (hs : findIn K (.ref C) (dunderR op.info.2) = some (some (.ref g))) (hf : isFn K (.ref g) = true)
    (hl : findIn K (.ref C) (PySem.dunder op.info.2) = some (some (.ref q)))
    (hfi : fillsNumberSlot (.type "int") op.info.2 = pure true) (slot : Slot "int" (PySem.dunder op.info.2) id) (entry : entryFor table id = some B) (args : ∀ b : Value, argsOk id ⟨[.int n t, b], []⟩)
    (hB : B = Builtin.Int.intBinary nm f)
    (hsub : subIn K (.ref C) (.type "int") = some false)
    (h : wpAny (model prog w) A (call (.ref g) [.ref x, .int n t]) (W.CmpBack Q) E s) : wpAny (model prog w) A (binaryOp op (.int n t) (.ref x)) Q E s := by
  obtain ⟨cd, rest, hcd, hm⟩ := ksp_first hc
  rcases hi : op.info with ⟨sym, nm'⟩
  rw [hi] at hs hl hfi slot
  dsimp only at hs hl hfi slot
  have one : wpAny (model prog w) A (tryMethod (.int n t) (PySem.dunder nm') (.ref x)) (fun r s' => r = none ∧ s' = s) E s := by
    unfold tryMethod
    refine wpAny_bind (wpAny_callSpecial?_slot (typeIs_int s n t) slot ?_)
    refine wpAny_call (codeAny_call_builtin slot.plain entry (slot.check _ _ _ _ _ _ _ _ (typeIs_int s n t) (args _) ?_))
    refine int_knows_not hB I.1 hp ?_
    exact wpAny_pure ⟨rfl, rfl⟩
  have two := ksp_try X I hs hf h
  obtain ⟨hh, g', d, tt, os⟩ := s
  have L1 : Looks (model prog w) hh (typeOf (.ref x)) (.ref C) := I.type
  have L2 : Looks (model prog w) hh (typeOf (.int n t)) (.type "int") := Looks.of_pure rfl
  have L3 : Looks (model prog w) hh (fillsNumberSlot (.ref C) nm') true := fills_K X hcd hm hl
  have L4 : Looks (model prog w) hh (fillsNumberSlot (.type "int") nm') true := Looks.of_pure hfi
  have L5 : Looks (model prog w) hh (isSubtype (.ref C) (.type "int")) false := looks_subIn X hsub
  have L7 : Looks (model prog w) hh (numberSlotInPython (.type "int") nm') false := Looks.of_pure rfl
  have hne : (Value.type "int" == Value.ref C) = false := Bool.eq_false_iff.mpr fun q => by cases beq_iff_eq.mp q
  simp only [binaryOp, hi]
  refine wpAny_holding (wpAny_bind ?_)
  unfold binaryOp1
  refine wpAny_bind (L2.at (wpAny_bind (L1.at (wpAny_bind (L4.at ?_)))))
  simp only [hne, Bool.false_eq_true, if_false]
  ksp_lk
  refine wpAny_mono one (fun r s' hr' => ?_) fun _ _ e => e
  obtain ⟨rfl, rfl⟩ := hr'
  ksp_lk
  refine wpAny_mono two (fun r s' hr' => ?_) fun _ _ e => e
  obtain ⟨v, rfl, hq⟩ := hr'
  ksp_lk
  exact hq
end
end PySem.OwnOps

set_option Elab.async false
set_option linter.all false
set_option maxRecDepth 100000
set_option maxHeartbeats 2000000
namespace L2
open PySem PySem.Spec PyProof.Rows
theorem backs {P : Value → Shared → Prop} {z : V} {v : Value} {s' : Shared} (r : RelV z v) (h : P v s') : PySem.W.CmpBack P v s' := by
  cases z <;> first
    | (obtain ⟨t, e⟩ := (show ∃ t, _ from r); subst e; exact h)
    | (have e := (show v = _ from r); subst e; exact h)
section
variable {X : Cx} {CX : CXT} {C g q : Addr} {fd : FuncData} {ps : List Str} {k : Nat} {sp : Sp} {E : XK}
/-- what of the class its operators ask -/
structure OwnC (K : PySem.W.Frag) (C : Addr) : Prop where
  first : PySem.W.selfFirst K C = true
  subI : PySem.W.subIn K (.type "int") (.ref C) = some false
  subC : PySem.W.subIn K (.ref C) (.type "int") = some false
/-- both are of the class -/
theorem op_same {op : Operator} (T : OwnC X.K C) (hs : PySem.W.findIn X.K (.ref C) (PySem.dunder op.info.2) = some (some (.ref g))) (hf : PySem.W.isFn X.K (.ref g) = true)
    (F : FnOk X.prog X.w X.K X.mg X.base CX k g fd ps sp) (hr : Room k X.A) (hb : Binds X.K fd ps []) (hx : Passes CX X E) :
    OpR X (binaryOp op) (fun x y H Q => ∃ a dx fs b dy gs, x = .ref a ∧ y = .ref b ∧ H a = some (.ins C dx fs) ∧ H b = some (.ins C dy gs) ∧ sp [x, y] H Q E) := by
  intro pins s σ H x y v u Q I rx ry h
  obtain ⟨a, dx, fs, b, dy, gs, rfl, rfl, ha, hb', z⟩ := h
  cases (show v = Value.ref a from rx)
  cases (show u = Value.ref b from ry)
  obtain ⟨mA, O, _⟩ := ins_get I.hok ha
  obtain ⟨od, J, _⟩ := O.look
  obtain ⟨mB, O', _⟩ := ins_get I.hok hb'
  obtain ⟨od', J', _⟩ := O'.look
  obtain ⟨m, hF⟩ := I.fr
  refine PySem.W.binop_K hF I.ok.mod.kin J J'.type T.first hs hf ?_
  refine wpAny_mono (run_fn (us := [.ref a, .ref b]) (vs := [.ref a, .ref b]) F hr hb .nil hx I (.cons rfl (.cons rfl .nil)) z) (fun w s' z => ?_) fun _ _ x => x
  obtain ⟨z', H', I', rz, qz⟩ := z
  exact backs rz ⟨z', H', I', rz, qz⟩
/-- an instance op an int -/
theorem op_instInt {op : Operator} {fo ro : Option Value} (T : OwnC X.K C) (hs : PySem.W.findIn X.K (.ref C) (PySem.dunder op.info.2) = some (some (.ref g))) (hf : PySem.W.isFn X.K (.ref g) = true)
    (hr' : PySem.W.findIn X.K (.ref C) (dunderR op.info.2) = some (some (.ref q)))
    (h1 : PySem.W.findIn X.K (.type "int") (PySem.dunder op.info.2) = some fo) (h2 : PySem.W.findIn X.K (.type "int") (dunderR op.info.2) = some ro)
    (F : FnOk X.prog X.w X.K X.mg X.base CX k g fd ps sp) (hr : Room k X.A) (hb : Binds X.K fd ps []) (hx : Passes CX X E) :
    OpR X (binaryOp op) (fun x y H Q => ∃ a dx fs n, x = .ref a ∧ y = .int n ∧ H a = some (.ins C dx fs) ∧ sp [x, y] H Q E) := by
  intro pins s σ H x y v u Q I rx ry h
  obtain ⟨a, dx, fs, n, rfl, rfl, ha, z⟩ := h
  cases (show v = Value.ref a from rx)
  obtain ⟨t, e⟩ := (show ∃ t, u = Value.int n t from ry)
  subst e
  obtain ⟨mA, O, _⟩ := ins_get I.hok ha
  obtain ⟨od, J, _⟩ := O.look
  obtain ⟨m, hF⟩ := I.fr
  refine PySem.W.ksp_binT hF I.ok.mod.kin J rfl T.first hs hf hr' (.inr ⟨_, rfl⟩) h1 h2 T.subI ?_
  refine wpAny_mono (run_fn (us := [.ref a, .int n t]) (vs := [.ref a, .int n]) F hr hb .nil hx I (.cons rfl (.cons ⟨t, rfl⟩ .nil)) z) (fun w s' z => ?_) fun _ _ x => x
  obtain ⟨z', H', I', rz, qz⟩ := z
  exact backs rz ⟨z', H', I', rz, qz⟩
/-- an int op an instance -/
theorem op_intInst {op : Operator} {id : String} {B : Builtin} {nm : String} {f : Int → Int → Sem Fin} (T : OwnC X.K C) (hs : PySem.W.findIn X.K (.ref C) (dunderR op.info.2) = some (some (.ref g))) (hf : PySem.W.isFn X.K (.ref g) = true)
    (hl : PySem.W.findIn X.K (.ref C) (PySem.dunder op.info.2) = some (some (.ref q)))
    (hfi : fillsNumberSlot (.type "int") op.info.2 = pure true) (slot : Slot "int" (PySem.dunder op.info.2) id) (entry : entryFor table id = some B) (args : ∀ a b : Value, argsOk id ⟨[a, b], []⟩)
    (hB : B = Builtin.Int.intBinary nm f)
    (F : FnOk X.prog X.w X.K X.mg X.base CX k g fd ps sp) (hr : Room k X.A) (hb : Binds X.K fd ps []) (hx : Passes CX X E) :
    OpR X (binaryOp op) (fun x y H Q => ∃ n a dx fs, x = .int n ∧ y = .ref a ∧ H a = some (.ins C dx fs) ∧ sp [y, x] H Q E) := by
  intro pins s σ H x y v u Q I rx ry h
  obtain ⟨n, a, dx, fs, rfl, rfl, ha, z⟩ := h
  cases (show u = Value.ref a from ry)
  obtain ⟨t, e⟩ := (show ∃ t, v = Value.int n t from rx)
  subst e
  obtain ⟨mA, O, _⟩ := ins_get I.hok ha
  obtain ⟨od, J, _⟩ := O.look
  refine PySem.OwnOps.refl_int I.kIn J rfl T.first hs hf hl hfi slot entry (args _) hB T.subC ?_
  refine wpAny_mono (run_fn (us := [.ref a, .int n t]) (vs := [.ref a, .int n]) F hr hb .nil hx I (.cons rfl (.cons ⟨t, rfl⟩ .nil)) z) (fun w s' z => ?_) fun _ _ x => x
  obtain ⟨z', H', I', rz, qz⟩ := z
  exact backs rz ⟨z', H', I', rz, qz⟩
theorem op_addRI (T : OwnC X.K C) (hs : PySem.W.findIn X.K (.ref C) "__radd__" = some (some (.ref g))) (hf : PySem.W.isFn X.K (.ref g) = true) (hl : PySem.W.findIn X.K (.ref C) "__add__" = some (some (.ref q)))
    (F : FnOk X.prog X.w X.K X.mg X.base CX k g fd ps sp) (hr : Room k X.A) (hb : Binds X.K fd ps []) (hx : Passes CX X E) :
    OpR X (binaryOp .Add) (fun x y H Q => ∃ n a dx fs, x = .int n ∧ y = .ref a ∧ H a = some (.ins C dx fs) ∧ sp [y, x] H Q E) :=
  op_intInst (op := .Add) T hs hf hl PySem.F.fills_int_add PySem.F.slot_int_add PySem.F.entry_int_add (fun a b => PySem.F.args_int_add_2 a b) rfl F hr hb hx
theorem op_subRI (T : OwnC X.K C) (hs : PySem.W.findIn X.K (.ref C) "__rsub__" = some (some (.ref g))) (hf : PySem.W.isFn X.K (.ref g) = true) (hl : PySem.W.findIn X.K (.ref C) "__sub__" = some (some (.ref q)))
    (F : FnOk X.prog X.w X.K X.mg X.base CX k g fd ps sp) (hr : Room k X.A) (hb : Binds X.K fd ps []) (hx : Passes CX X E) :
    OpR X (binaryOp .Sub) (fun x y H Q => ∃ n a dx fs, x = .int n ∧ y = .ref a ∧ H a = some (.ins C dx fs) ∧ sp [y, x] H Q E) :=
  op_intInst (op := .Sub) T hs hf hl PySem.F.fills_int_sub PySem.F.slot_int_sub PySem.F.entry_int_sub (fun a b => PySem.F.args_int_sub_2 a b) rfl F hr hb hx
theorem op_mulRI (T : OwnC X.K C) (hs : PySem.W.findIn X.K (.ref C) "__rmul__" = some (some (.ref g))) (hf : PySem.W.isFn X.K (.ref g) = true) (hl : PySem.W.findIn X.K (.ref C) "__mul__" = some (some (.ref q)))
    (F : FnOk X.prog X.w X.K X.mg X.base CX k g fd ps sp) (hr : Room k X.A) (hb : Binds X.K fd ps []) (hx : Passes CX X E) :
    OpR X (binaryOp .Mult) (fun x y H Q => ∃ n a dx fs, x = .int n ∧ y = .ref a ∧ H a = some (.ins C dx fs) ∧ sp [y, x] H Q E) :=
  op_intInst (op := .Mult) T hs hf hl PySem.F.fills_int_mul PySem.F.slot_int_mul PySem.F.entry_int_mul (fun a b => PySem.F.args_int_mul_2 a b) rfl F hr hb hx
/-- -x -/
theorem un_negO (hs : PySem.W.findIn X.K (.ref C) "__neg__" = some (some (.ref g))) (hf : PySem.W.isFn X.K (.ref g) = true)
    (F : FnOk X.prog X.w X.K X.mg X.base CX k g fd ps sp) (hr : Room k X.A) (hb : Binds X.K fd ps []) (hx : Passes CX X E) :
    UnR X (unaryOp .USub) (fun x H Q => ∃ a dx fs, x = .ref a ∧ H a = some (.ins C dx fs) ∧ sp [x] H Q E) := by
  intro pins s σ H x v Q I rx h
  obtain ⟨a, dx, fs, rfl, ha, z⟩ := h
  cases (show v = Value.ref a from rx)
  obtain ⟨mA, O, _⟩ := ins_get I.hok ha
  obtain ⟨od, J, _⟩ := O.look
  obtain ⟨m, hF⟩ := I.fr
  exact PySem.W.ksp_neg hF I.ok.mod.kin J hs hf (run_fn (us := [.ref a]) (vs := [.ref a]) F hr hb .nil hx I (.cons rfl .nil) z)
/-- abs(x) -/
theorem call_absO (hs : PySem.W.findIn X.K (.ref C) "__abs__" = some (some (.ref g))) (hf : PySem.W.isFn X.K (.ref g) = true)
    (F : FnOk X.prog X.w X.K X.mg X.base CX k g fd ps sp) (hr : Room (k + 1) X.A) (hb : Binds X.K fd ps []) (hx : Passes CX X E) :
    CallR X (.builtin "abs") (fun xs H Q => ∃ a dx fs, xs = [.ref a] ∧ H a = some (.ins C dx fs) ∧ sp xs H Q E) := by
  intro pins s σ H xs us Q I r h
  obtain ⟨a, dx, fs, rfl, ha, z⟩ := h
  obtain ⟨u, rfl, ru⟩ := vals1 r
  cases (show u = Value.ref a from ru)
  obtain ⟨mA, O, _⟩ := ins_get I.hok ha
  obtain ⟨od, J, _⟩ := O.look
  refine PySem.Calls.call_function_entry kind_abs plain_abs entry_abs (args_abs _) ?_
  unfold Builtin.«abs»
  refine wpAny_bind (m := oneArg "abs" _) (wpAny_pure ?_)
  refine wpAny_bind (m := callSpecial? (.ref a) (Str.ofString "__abs__")) (PySem.W.special_fn I.kIn J hs (beq_iff_eq.mp hf) ?_)
  have hr1 : Room k X.A.in1 := hr.in1
  have hl : ([Value.ref a] ++ []).length = ps.length := by
    have e := F.len _ _ _ _ z
    exact e
  have r1 : Vals [V.ref a] [Value.ref a] := .cons rfl .nil
  have bd : BindsTo s fd ⟨[Value.ref a], []⟩ (ps.zip [Value.ref a]) := by
    have b1 := hb s [Value.ref a] I.kIn hl
    rw [List.append_nil] at b1
    exact b1
  refine wpAny_call (codeAny_mono (F.run X.A.in1 X.stack s H _ _ _ Q E hr1 I.env0.in1 bd r1 z) fun r s' hq => ?_)
  cases r with
  | error e => exact hx pins σ H s e s' I hq
  | ok fl =>
    cases fl with
    | ret u => exact wpAny_pure ⟨_, rfl, I.after hq⟩
    | next => exact False.elim hq
    | brk => exact False.elim hq
    | cont => exact False.elim hq
/-- // by any divisor but 0 of less than 9000 bits -/
def CDivX (_ j : Int) : Prop := j ≠ 0 ∧ j.natAbs.log2 < 9000
theorem op_fdivX : OpR X (binaryOp .FloorDiv) (rI CDivX fun i j => .int (i.fdiv j)) := opI fun _ _ _ _ _ _ _ hc q => floordiv_int hc.1 q (.inl (PyProof.noPylong_of_log2 hc.2))
theorem op_modX : OpR X (binaryOp .Mod) (rI (fun _ j => j ≠ 0) fun i j => .int (i.fmod j)) := op_modN
end
end L2

set_option Elab.async false
set_option linter.all false
set_option maxRecDepth 100000
set_option maxHeartbeats 2000000
namespace PySem.OwnOps
open PySem PySem.W PySem.Calls
section
variable {prog : Program} {w : World} {A : Around} {E : Value → Shared → Prop} {s : Shared} {K : Frag} {x : Addr} {t c : Value}
/-- isinstance says yes by the classes alone -/
theorem isi_by_class {Q : Value → Shared → Prop} (X : K.In s.heap) (L0 : Looks (model prog w) s.heap (typeOf (.ref x)) t) (hne : (t == c) = false) (e : kitCls K t c = some true) (h : Q (.bool true) s) :
    wpAny (model prog w) A (call (.builtin "isinstance") [.ref x, c]) Q E s := by
  obtain ⟨h0, g, d, tt, os⟩ := s
  obtain ⟨L1, L2, L3⟩ := kit_cls (M := model prog w) X e
  have L4 : Looks (model prog w) h0 (isInstance (.ref x) c) true := L0.andThen L3
  refine PyProof.Rows.call_isinstance_of ?_ (fun z => nomatch z)
  unfold Builtin.«isinstance.nested»
  refine wpAny_bind (L0.at ?_)
  rw [hne, if_neg Bool.false_ne_true]
  refine wpAny_bind (L1.at ?_)
  rw [if_pos (by decide)]
  k_delta "plainIsInstance"
  refine wpAny_bind (wpAny_bind (L2.at ?_))
  simp only [Bool.not_true, Bool.false_eq_true, if_false]
  refine wpAny_bind (L4.at ?_)
  first
    | exact wpAny_pure (wpAny_pure h)
    | (simp only [if_true]; exact wpAny_pure (wpAny_pure h))
    | (simp only [if_true]; exact wpAny_bind (wpAny_pure (wpAny_pure h)))
    | (simp only [if_true]; exact wpAny_pure h)
end
end PySem.OwnOps
namespace L2
open PySem PySem.Spec PyProof.Rows
/-- isinstance(e, c), e the exception that the suite holds, c a class above its own -/
theorem call_isUp {X : Cx} {a D B : Addr} {cls : Value} {d : Option Addr} {oe : Obj} {pn : List (Addr × Obj)} (hz : Zc cls d oe) (hne : D ≠ B) (hk : PySem.W.kitCls X.K (.ref D) (.ref B) = some true) :
    CallR (X.suite a ((a, oe) :: pn)) (.builtin "isinstance") (fun xs H Q => cls = .ref D ∧ xs = [.ref a, .ref B] ∧ Q (.bl true) H) := by
  intro pins s σ H xs us Q I r h
  obtain ⟨rfl, rfl, q⟩ := h
  obtain ⟨u1, u2, rfl, r1, r2⟩ := vals2 r
  cases (show u1 = Value.ref a from r1)
  cases (show u2 = Value.ref B from r2)
  obtain ⟨hget, _⟩ := I.pin (a, oe) (List.mem_append.mpr (.inl List.mem_cons_self))
  have L0 : PySem.W.Looks (model X.prog X.w) s.heap (typeOf (.ref a)) (.ref D) := by
    intro A Q E s' k q'
    unfold typeOf
    refine wpAny_bind (wpAny_loadPart (k _ _ hget) ?_)
    rw [hz.1]
    exact wpAny_pure q'
  exact PySem.OwnOps.isi_by_class I.kIn L0 (Bool.eq_false_iff.mpr fun z => hne (Value.ref.inj (beq_iff_eq.mp z))) hk ⟨.bl true, H, I.kept (t' := s.toks) fun _ _ z => z, rfl, q⟩
end L2

set_option Elab.async false
set_option linter.all false
set_option maxRecDepth 100000
set_option maxHeartbeats 2000000
/-! comparisons of a class of one's own -/
namespace PySem.OwnOps
open PySem PySem.W PySem.Calls
section
variable {prog : Program} {w : World} {A : Around} {E : Value → Shared → Prop} {s : Shared} {K : Frag} {x C g q : Addr} {ox : Obj} {od : Option Obj}
theorem try_own {op : CmpOp} {name : Str} {b : Value} {Q : Value → Shared → Prop} (X : K.In s.heap) (I : InstAt s.heap x ox C od) (hs : findIn K (.ref C) name = some (some (.ref g))) (hf : isFn K (.ref g) = true)
    (h : wpAny (model prog w) A (call (.ref g) [.ref x, b]) (W.CmpBack Q) E s) : wpAny (model prog w) A (tryCompare (.ref x) name b) (fun r s' => ∃ v, r = some v ∧ Q v s') E s := by
  unfold tryCompare
  refine wpAny_bind (ifBound_K X I hs hf (wpAny_mono h (fun v s' hv => ?_) fun _ _ e => e))
  cases v <;> first | exact hv.elim | exact wpAny_pure ⟨_, rfl, hv⟩
/-- int cmp instance: the int's own method knows nothing of it, so the instance's reflected one is asked -/
theorem refl_cmp {op : CmpOp} {id : String} {B : Builtin} {nm : String} {f : Int → Int → Sem Fin} {n : Int} {t : Tok} {Q : Value → Shared → Prop} (hu : A.units < cLine) (X : K.In s.heap) (I : InstAt s.heap x ox C od) (hp : ox.data = .plain)
    (hs : findIn K (.ref C) (cmpInfo op).2.2 = some (some (.ref g))) (hf : isFn K (.ref g) = true)
    (slot : Slot "int" (cmpInfo op).2.1 id) (entry : entryFor table id = some B) (args : ∀ b : Value, argsOk id ⟨[.int n t, b], []⟩)
    (hB : B = Builtin.Int.intBinary nm f) (hsub : subIn K (.ref C) (.type "int") = some false)
    (h : wpAny (model prog w) A (call (.ref g) [.ref x, .int n t]) (W.CmpBack Q) E s) : wpAny (model prog w) A (richCompare op (.int n t) (.ref x)) Q E s := by
  have one : wpAny (model prog w) A (tryCompare (.int n t) (cmpInfo op).2.1 (.ref x)) (fun r s' => r = none ∧ s' = s) E s := by
    unfold tryCompare
    refine wpAny_bind (wpAny_callSpecialIfBound?_slot (typeIs_int s n t) slot ?_)
    refine wpAny_call (codeAny_call_builtin slot.plain entry (slot.check _ _ _ _ _ _ _ _ (typeIs_int s n t) (args _) ?_))
    refine int_knows_not hB I.1 hp ?_
    exact wpAny_pure ⟨rfl, rfl⟩
  have two := try_own (op := op) X I hs hf h
  have h1 : oneThing? op (.int n t) (.ref x) = none := by cases op <;> rfl
  rcases hi : cmpInfo op with ⟨sym, f', r⟩
  rw [hi] at one two
  dsimp only at one two
  have hne : (Value.type "int" != Value.ref C) = true := by
    show (!(Value.type "int" == Value.ref C)) = true
    rw [show (Value.type "int" == Value.ref C) = false from Bool.eq_false_iff.mpr fun q => by cases beq_iff_eq.mp q]
    rfl
  simp only [richCompare, hi, h1]
  refine wpAny_holding (wpAny_bind (wpAny_cRoomFor hu ?_))
  refine wpAny_bind (wpAny_typeOf (typeIs_int s n t) (wpAny_bind (I.type.here ?_)))
  simp only [hne, if_true]
  refine wpAny_bind ((looks_subIn X hsub).here ?_)
  simp only [Bool.false_eq_true, if_false]
  refine wpAny_bind (wpAny_mono one (fun r' s' z => ?_) fun _ _ e => e)
  obtain ⟨rfl, rfl⟩ := z
  simp only [Bool.not_false, if_true]
  refine wpAny_bind (wpAny_mono two (fun r' s' z => ?_) fun _ _ e => e)
  obtain ⟨v, rfl, hq⟩ := z
  exact wpAny_pure hq
/-- != of an instance whose class says == alone -/
theorem own_ne {b : Value} {tb : Value} {Q : Value → Shared → Prop} (hu : A.units + 1 < cLine) (X : K.In s.heap) (I : InstAt s.heap x ox C od) (hb : Looks (model prog w) s.heap (typeOf b) tb) (hn : notFirst K C tb = true)
    (hne : findIn K (.ref C) "__ne__" = some (some (.builtin "object.__ne__"))) (hob : mroIn K C (.type "object") = some true) (hs : findIn K (.ref C) "__eq__" = some (some (.ref g))) (hf : isFn K (.ref g) = true)
    (h : wpAny (model prog w) A.in1 (call (.ref g) [.ref x, b]) (fun v s' => ∃ k, v = .bool k ∧ Q (.bool (!k)) s') E s) : wpAny (model prog w) A (richCompare .NotEq (.ref x) b) Q E s := by
  have sub : Looks (model prog w) s.heap (isInstance (.ref x) (.type "object")) true := I.type.andThen (looks_mroIn X hob)
  have S := PySem.F.cmp_object.ne
  have one : wpAny (model prog w) A (tryCompare (.ref x) "__ne__" b) (fun r s' => ∃ v, r = some v ∧ Q v s') E s := by
    unfold tryCompare
    refine wpAny_bind ?_
    simp only [callSpecialIfBound?, bindSpecialIfBound?]
    refine wpAny_holding (wpAny_bind (wpAny_bind (wpAny_bind (I.type.here ((looks_findIn X hne).here ?_)))))
    simp only [S.bind]
    refine wpAny_bind (wpAny_askSetting (wpAny_ite ?_))
    have fin : ∀ R : Option Value → Shared → Prop, (∀ k s', Q (.bool k) s' → R (some (.bool k)) s') → wpAny (model prog w) A (call (.builtin "object.__ne__") ([.ref x] ++ [b]) >>= fun v => pure (some v)) R E s := fun R hR => by
      refine wpAny_bind (wpAny_call (codeAny_call_builtin S.plain PySem.F.cmpEntry_ne ?_))
      refine @check_slot (model prog w) _ _ s "object.__ne__" "object" "__ne__" (.ref x) [b] [] _ PySem.F.cmpKind_ne PySem.F.cmpSplit_ne sub (PySem.F.cmpArgs_ne _ _) ?_
      unfold Builtin.«object.__ne__»
      refine wpAny_bind (wpAny_of_eq (a := ((Value.ref x : Value), [b])) (by first | rfl | (simp only [slotArgs]; rfl)) ?_)
      refine wpAny_bind (wpAny_cRoomFor (by exact hu) ?_)
      refine wpAny_bind (m := callSpecialIfBound? (.ref x) (Str.ofString "__eq__") [b]) (ifBound_K X I hs hf (wpAny_mono h (fun v s' z => ?_) fun _ _ e => e))
      obtain ⟨k, rfl, hq⟩ := z
      refine wpAny_bind (m := truthy (.bool _)) (wpAny_truthy_bool ?_)
      exact wpAny_pure (wpAny_pure (hR _ _ hq))
    have end_ : ∀ k s', Q (.bool k) s' → wpAny (model prog w) A (match (some (.bool k) : Option Value) with
        | some .notImplemented | none => pure none
        | some v => pure (some v)) (fun r s' => ∃ v, r = some v ∧ Q v s') E s' := fun k s' hq => wpAny_pure ⟨_, rfl, hq⟩
    split
    · exact wpAny_bind (wpAny_pure (wpAny_pure (by exact fin _ end_)))
    · exact wpAny_tryCatch (wpAny_bind (wpAny_pure (wpAny_pure (by exact fin _ end_))))
  unfold richCompare
  simp only [oneThing_ref]
  refine wpAny_holding (wpAny_bind (wpAny_cRoomFor (Nat.lt_of_succ_lt hu) ?_))
  refine wpAny_bind (I.type.here (wpAny_bind (hb.here ?_)))
  have e : (tb == .ref C) = true ∨ subIn K tb (.ref C) = some false := by
    rcases Bool.or_eq_true_iff.mp hn with e | e
    · exact .inl e
    · exact .inr (beq_iff_eq.mp e)
  split
  · rename_i q
    have e' : subIn K tb (.ref C) = some false := by
      rcases e with e | e
      · rw [beq_iff_eq.mp e] at q
        simp at q
      · exact e
    refine wpAny_bind ((looks_subIn X e').here ?_)
    simp only [Bool.false_eq_true, if_false]
    refine wpAny_bind (wpAny_mono one (fun r s' z => ?_) fun _ _ e => e)
    obtain ⟨v, rfl, hq⟩ := z
    exact wpAny_pure hq
  · refine wpAny_bind (wpAny_pure ?_)
    simp only [Bool.false_eq_true, if_false]
    refine wpAny_bind (wpAny_mono one (fun r s' z => ?_) fun _ _ e => e)
    obtain ⟨v, rfl, hq⟩ := z
    exact wpAny_pure hq
end
end PySem.OwnOps

set_option Elab.async false
set_option linter.all false
set_option maxRecDepth 100000
set_option maxHeartbeats 2000000
namespace L2
open PySem PySem.Spec PyProof.Rows
section
variable {X : Cx} {CX : CXT} {C g q : Addr} {fd : FuncData} {ps : List Str} {k : Nat} {sp : Sp} {E : XK}
theorem ty_looks {pins : List (Addr × Obj)} {σ : St} {H : Hp} {s : Shared} {x : V} {u t : Value} (I : Inv X pins σ H s) (rx : RelV x u) (ty : TyX X.K H x t) : PySem.W.Looks (model X.prog X.w) s.heap (typeOf u) t := by
  obtain ⟨P, Z, p, _⟩ := kit_of I rx ty
  exact Z.ty _ _ I.kIn p
/-- x cmp y, x an instance of the class at C whose def for cmp is at g -/
def rCmp (K : PySem.W.Frag) (C : Addr) (sp : Sp) (E : XK) : R2 := fun x y H Q => ∃ a dx fs t, x = .ref a ∧ H a = some (.ins C dx fs) ∧ TyX K H y t ∧ PySem.W.notFirst K C t = true ∧ sp [x, y] H Q E
theorem op_cmp {op : CmpOp} (hop : ∀ a b, compareOp op a b = richCompare op a b) (hs : PySem.W.findIn X.K (.ref C) (cmpInfo op).2.1 = some (some (.ref g))) (hf : PySem.W.isFn X.K (.ref g) = true)
    (F : FnOk X.prog X.w X.K X.mg X.base CX k g fd ps sp) (hr : Room k X.A) (hb : Binds X.K fd ps []) (hx : Passes CX X E) : OpR X (compareOp op) (rCmp X.K C sp E) := by
  intro pins s σ H x y v u Q I rx ry h
  obtain ⟨a, dx, fs, t, rfl, ha, ty, hn, z⟩ := h
  cases (show v = Value.ref a from rx)
  obtain ⟨mA, O, _⟩ := ins_get I.hok ha
  obtain ⟨od, J, _⟩ := O.look
  obtain ⟨m, hF⟩ := I.fr
  rw [hop]
  refine PySem.W.cmp_K (op := op) hr.units0 hF I.ok.mod.kin J (ty_looks I ry ty) hn hs hf ?_
  refine wpAny_mono (run_fn (us := [.ref a, u]) (vs := [.ref a, y]) F hr hb .nil hx I (.cons rfl (.cons ry .nil)) z) (fun w s' z => ?_) fun _ _ x => x
  obtain ⟨z', H', I', rz, qz⟩ := z
  exact backs rz ⟨z', H', I', rz, qz⟩
/-- an int cmp an instance -/
theorem op_cmpI {op : CmpOp} {id : String} {B : Builtin} {nm : String} {f : Int → Int → Sem Fin} (hop : ∀ a b, compareOp op a b = richCompare op a b) (hs : PySem.W.findIn X.K (.ref C) (cmpInfo op).2.2 = some (some (.ref g))) (hf : PySem.W.isFn X.K (.ref g) = true)
    (slot : Slot "int" (cmpInfo op).2.1 id) (entry : entryFor table id = some B) (args : ∀ a b : Value, argsOk id ⟨[a, b], []⟩) (hB : B = Builtin.Int.intBinary nm f) (hsub : PySem.W.subIn X.K (.ref C) (.type "int") = some false)
    (F : FnOk X.prog X.w X.K X.mg X.base CX k g fd ps sp) (hr : Room k X.A) (hb : Binds X.K fd ps []) (hx : Passes CX X E) :
    OpR X (compareOp op) (fun x y H Q => ∃ n a dx fs, x = .int n ∧ y = .ref a ∧ H a = some (.ins C dx fs) ∧ sp [y, x] H Q E) := by
  intro pins s σ H x y v u Q I rx ry h
  obtain ⟨n, a, dx, fs, rfl, rfl, ha, z⟩ := h
  cases (show u = Value.ref a from ry)
  obtain ⟨t, e⟩ := (show ∃ t, v = Value.int n t from rx)
  subst e
  obtain ⟨mA, O, _⟩ := ins_get I.hok ha
  obtain ⟨od, J, _⟩ := O.look
  rw [hop]
  refine PySem.OwnOps.refl_cmp hr.units0 I.kIn J rfl hs hf slot entry (args _) hB hsub ?_
  refine wpAny_mono (run_fn (us := [.ref a, .int n t]) (vs := [.ref a, .int n]) F hr hb .nil hx I (.cons rfl (.cons ⟨t, rfl⟩ .nil)) z) (fun w s' z => ?_) fun _ _ x => x
  obtain ⟨z', H', I', rz, qz⟩ := z
  exact backs rz ⟨z', H', I', rz, qz⟩
theorem op_ltI (hs : PySem.W.findIn X.K (.ref C) "__gt__" = some (some (.ref g))) (hf : PySem.W.isFn X.K (.ref g) = true) (hsub : PySem.W.subIn X.K (.ref C) (.type "int") = some false)
    (F : FnOk X.prog X.w X.K X.mg X.base CX k g fd ps sp) (hr : Room k X.A) (hb : Binds X.K fd ps []) (hx : Passes CX X E) :
    OpR X (compareOp .Lt) (fun x y H Q => ∃ n a dx fs, x = .int n ∧ y = .ref a ∧ H a = some (.ins C dx fs) ∧ sp [y, x] H Q E) :=
  op_cmpI (op := .Lt) (fun _ _ => rfl) hs hf PySem.F.slot_int_lt PySem.F.entry_int_lt (fun a b => PySem.F.args_int_lt_2 a b) rfl hsub F hr hb hx
theorem op_eqI (hs : PySem.W.findIn X.K (.ref C) "__eq__" = some (some (.ref g))) (hf : PySem.W.isFn X.K (.ref g) = true) (hsub : PySem.W.subIn X.K (.ref C) (.type "int") = some false)
    (F : FnOk X.prog X.w X.K X.mg X.base CX k g fd ps sp) (hr : Room k X.A) (hb : Binds X.K fd ps []) (hx : Passes CX X E) :
    OpR X (compareOp .Eq) (fun x y H Q => ∃ n a dx fs, x = .int n ∧ y = .ref a ∧ H a = some (.ins C dx fs) ∧ sp [y, x] H Q E) :=
  op_cmpI (op := .Eq) (fun _ _ => rfl) hs hf PySem.F.slot_int_eq PySem.F.entry_int_eq (fun a b => PySem.F.args_int_eq_2 a b) rfl hsub F hr hb hx
/-- x != y by the class's == -/
theorem op_neOwn (hne : PySem.W.findIn X.K (.ref C) "__ne__" = some (some (.builtin "object.__ne__"))) (hob : PySem.W.mroIn X.K C (.type "object") = some true) (hs : PySem.W.findIn X.K (.ref C) "__eq__" = some (some (.ref g))) (hf : PySem.W.isFn X.K (.ref g) = true)
    (F : FnOk X.prog X.w X.K X.mg X.base CX k g fd ps sp) (hr : Room (k + 1) X.A) (hb : Binds X.K fd ps []) (hx : Passes CX X E) :
    OpR X (compareOp .NotEq) (fun x y H Q => ∃ a dx fs t, x = .ref a ∧ H a = some (.ins C dx fs) ∧ TyX X.K H y t ∧ PySem.W.notFirst X.K C t = true ∧ sp [x, y] H (fun z H' => ∃ r, z = .bl r ∧ Q (.bl (!r)) H') E) := by
  intro pins s σ H x y v u Q I rx ry h
  obtain ⟨a, dx, fs, t, rfl, ha, ty, hn, z⟩ := h
  cases (show v = Value.ref a from rx)
  obtain ⟨mA, O, _⟩ := ins_get I.hok ha
  obtain ⟨od, J, _⟩ := O.look
  have hr1 : Room k X.A.in1 := hr.in1
  have r1 : Vals [V.ref a, y] [Value.ref a, u] := .cons rfl (.cons ry .nil)
  have hl : ([Value.ref a, u] ++ []).length = ps.length := by
    have e := F.len _ _ _ _ z
    exact e
  have bd : BindsTo s fd ⟨[Value.ref a, u], []⟩ (ps.zip [Value.ref a, u]) := by
    have b1 := hb s [Value.ref a, u] I.kIn hl
    rw [List.append_nil] at b1
    exact b1
  show wpAny _ _ (richCompare .NotEq (.ref a) u) _ _ _
  refine PySem.OwnOps.own_ne (Nat.lt_of_le_of_lt (Nat.add_le_add_left (by decide : 1 ≤ 64) _) hr.units) I.kIn J (ty_looks I ry ty) hn hne hob hs hf ?_
  refine wpAny_call (codeAny_mono (F.run X.A.in1 X.stack s H _ _ _ _ E hr1 I.env0.in1 bd r1 z) fun r s' hq => ?_)
  match r, hq with
  | .error e, hq => exact hx pins σ H s e s' I hq
  | .ok (.ret w), hq =>
    obtain ⟨z', H', I', rz, r, rfl, qz⟩ := I.after hq
    cases rz
    exact ⟨r, rfl, .bl (!r), H', I', rfl, qz⟩
  | .ok .next, hq => exact hq.elim
  | .ok .brk, hq => exact hq.elim
  | .ok .cont, hq => exact hq.elim
end
end L2

set_option Elab.async false
set_option linter.all false
set_option maxRecDepth 100000
set_option maxHeartbeats 4000000
/-! == of two tuples whose things are instances of a class of one's own -/
namespace PySem.OwnOps
open PySem PySem.W PySem.Calls
theorem eq_tupleI {prog : Program} {w : World} {A : Around} {E : Value → Shared → Prop} {s : Shared} {J : Shared → Prop} {l b : Addr} {items items2 : Array Value} {e : Nat → Bool} {Q : Value → Shared → Prop} (J0 : J s)
    (hl : s.heap.IsTuple l items) (hb : s.heap.IsTuple b items2) (hu : A.units < cLine)
    (he : ∀ j (h1 : j < items.size) (h2 : j < items2.size) s, J s → wpAny (model prog w) A.in1 (eqBool items[j] items2[j]) (fun r s' => r = e j ∧ J s') E s)
    (h : ∀ s, J s → Q (.bool ((List.range (min items.size items2.size)).all e && items.size == items2.size)) s) : wpAny (model prog w) A (richCompare .Eq (.ref l) (.ref b)) Q E s := by
  obtain ⟨⟨cls, dd, data, sl⟩, ho, hc, n, hd⟩ := id hl
  obtain ⟨⟨cls2, dd2, data2, sl2⟩, ho2, hc2, n2, hd2⟩ := id hb
  simp only at hc hd hc2 hd2
  subst hc hd hc2 hd2
  refine wpAny_richCompare_same_room (op := .Eq) ⟨_, ho, rfl⟩ ⟨_, ho2, rfl⟩ F.slot_tuple_eq ?_ hu
  refine wpAny_call (codeAny_call_builtin F.slot_tuple_eq.plain F.entry_tuple_eq (F.slot_tuple_eq.check _ _ _ _ _ _ _ _ ⟨_, ho, rfl⟩ (F.args_tuple_eq_2 _ _) ?_))
  refine wpAny_mono (Q := fun fin s' => ∃ v, fin = .done (.ret v) ∧ v ≠ .notImplemented ∧ Q v s') ?_ (fun fin s' z => by obtain ⟨v, rfl, z⟩ := z; exact z) fun _ _ x => x
  have f2 := AutoSeq1.sub_tuple_tuple
  have hZ : (items.toList.zip items2.toList).length = min items.size items2.size := by simp
  obtain ⟨hp, g, d, tk, os⟩ := s
  wp_walk using AutoSeq1.wpAny_loadPart' ho, AutoSeq1.wpAny_loadPart' ho2, wpAny_forIn_list _ (fun rest b s' => b.1 = none ∧ J s' ∧ ∃ i, rest = (items.toList.zip items2.toList).drop i ∧
      ((List.range (min items.size items2.size)).all e) = ((List.range (min items.size items2.size)).drop i).all e) _
  case turn =>
    rintro ⟨y, x⟩ rest b s' ⟨hb', J1, i, hz, hR⟩
    have hlt : i < (items.toList.zip items2.toList).length := by
      rcases Nat.lt_or_ge i (items.toList.zip items2.toList).length with h' | h'
      · exact h'
      · rw [List.drop_of_length_le h'] at hz; cases hz
    have hm : i < min items.size items2.size := hZ ▸ hlt
    have h1 : i < items.size := Nat.lt_of_lt_of_le hm (Nat.min_le_left _ _)
    have h2 : i < items2.size := Nat.lt_of_lt_of_le hm (Nat.min_le_right _ _)
    rw [List.drop_eq_getElem_cons hlt] at hz
    injection hz with hyx hrest
    have hy : y = items[i] := by have := congrArg Prod.fst hyx; simpa using this
    have hx : x = items2[i] := by have := congrArg Prod.snd hyx; simpa using this
    subst hy hx
    have hd : (List.range (min items.size items2.size)).drop i = i :: (List.range (min items.size items2.size)).drop (i + 1) := by simp [List.drop_eq_getElem_cons, hm]
    rw [hd, List.all_cons] at hR
    refine wpAny_bind (wpAny_mono (he i h1 h2 s' J1) (fun r s2 z => ?_) fun _ _ x => x)
    obtain ⟨rfl, J2⟩ := z
    cases hy : e i with
    | true =>
      rw [hy] at hR
      wp_walk
      exact ⟨rfl, J2, i + 1, hrest, by simpa using hR⟩
    | false =>
      rw [hy] at hR
      have h' := h s2 J2
      rw [hR] at h'
      wp_walk
      exact ⟨_, rfl, by simp, by simpa using h'⟩
  case fin =>
    rintro ⟨b1, b2⟩ s' ⟨hb', J1, i, hz, hR⟩
    simp only at hb'
    subst hb'
    have hge : min items.size items2.size ≤ i := by
      rcases Nat.lt_or_ge i (items.toList.zip items2.toList).length with h' | h'
      · rw [List.drop_eq_getElem_cons h'] at hz; cases hz
      · exact hZ ▸ h'
    rw [List.drop_of_length_le (by simpa using hge)] at hR
    have h' := h s' J1
    rw [hR] at h'
    wp_walk
    exact ⟨_, rfl, by simp [Builtin.Tuple.tupleCompareSizes], by simpa [Builtin.Tuple.tupleCompareSizes] using h'⟩
  case h =>
    exact ⟨rfl, J0, 0, rfl, by simp⟩
end PySem.OwnOps
namespace L2
open PySem PySem.Spec PyProof.Rows
section
variable {X : Cx} {CX : CXT} {C g : Addr} {fd : FuncData} {ps : List Str} {k : Nat} {sp : Sp} {E : XK}
/-- (a, ..) == (b, ..), all of one class whose == changes nothing -/
theorem op_eqTup (hn : PySem.W.notFirst X.K C (.ref C) = true) (hs : PySem.W.findIn X.K (.ref C) "__eq__" = some (some (.ref g))) (hf : PySem.W.isFn X.K (.ref g) = true)
    (F : FnOk X.prog X.w X.K X.mg X.base CX k g fd ps sp) (hr : Room (k + 1) X.A) (hb : Binds X.K fd ps []) (hx : Passes CX X E) :
    OpR X (compareOp .Eq) (fun x y H Q => ∃ p q xs ys, ∃ e : Nat → Bool, x = .ref p ∧ y = .ref q ∧ SqT X.K H p xs ∧ SqT X.K H q ys ∧
      (∀ j u v, xs[j]? = some u → ys[j]? = some v → ∃ a dx fs b dy gs, u = .ref a ∧ v = .ref b ∧ H a = some (.ins C dx fs) ∧ H b = some (.ins C dy gs) ∧ (a = b → e j = true) ∧ sp [.ref a, .ref b] H (fun z H' => z = .bl (e j) ∧ H' = H) E) ∧
      Q (.bl ((List.range (min xs.length ys.length)).all e && (xs.length == ys.length))) H) := by
  intro pins s σ H x y v u Q I rx ry h
  obtain ⟨p, q, xs, ys, e, rfl, rfl, hp, hq, each, fin⟩ := h
  cases (show v = Value.ref p from rx)
  cases (show u = Value.ref q from ry)
  obtain ⟨its, rv, pl, _⟩ := I.tuple hp
  obtain ⟨its2, rv2, pl2, _⟩ := I.tuple hq
  have hr1 : Room k X.A.in1 := hr.in1
  have l1 : its.toArray.size = xs.length := by rw [List.size_toArray]; exact rv.length.symm
  have l2 : its2.toArray.size = ys.length := by rw [List.size_toArray]; exact rv2.length.symm
  show wpAny _ _ (richCompare .Eq (.ref p) (.ref q)) _ _ _
  refine PySem.OwnOps.eq_tupleI (J := fun s => Inv X pins σ H s) (e := e) I pl pl2 hr.units0 (fun j h1 h2 s1 I1 => ?_) (fun s1 I1 => ⟨.bl _, H, I1, rfl, ?_⟩)
  · have j1 : j < xs.length := by omega
    have j2 : j < ys.length := by omega
    obtain ⟨a, dx, fs, b, dy, gs, hu, hv, ha, hb', same, z⟩ := each j _ _ (List.getElem?_eq_getElem j1) (List.getElem?_eq_getElem j2)
    have r1 : RelV xs[j] its.toArray[j] := by
      obtain ⟨u, e1, r⟩ := rv.get (i := j) (List.getElem?_eq_getElem j1)
      obtain ⟨_, e2⟩ := List.getElem?_eq_some_iff.mp e1
      rw [List.getElem_toArray, e2]
      exact r
    have r2 : RelV ys[j] its2.toArray[j] := by
      obtain ⟨u, e1, r⟩ := rv2.get (i := j) (List.getElem?_eq_getElem j2)
      obtain ⟨_, e2⟩ := List.getElem?_eq_some_iff.mp e1
      rw [List.getElem_toArray, e2]
      exact r
    rw [hu] at r1
    rw [hv] at r2
    rw [show its.toArray[j] = Value.ref a from r1, show its2.toArray[j] = Value.ref b from r2]
    by_cases hab : a = b
    · subst hab
      exact PySem.SeqAt.EqAt.same (Value.ref a) _ _ _ _ ⟨(same rfl).symm, I1⟩
    · obtain ⟨mA, O, _⟩ := ins_get I1.hok ha
      obtain ⟨od, J, _⟩ := O.look
      obtain ⟨mB, O', _⟩ := ins_get I1.hok hb'
      obtain ⟨od', J', _⟩ := O'.look
      obtain ⟨m, hF⟩ := I1.fr
      unfold eqBool
      refine wpAny_holding ?_
      refine wpAny_ite_split (fun z => absurd (by have := eq_of_beq z; injection this) hab) (fun _ => ?_)
      refine wpAny_bind ?_
      refine PySem.W.cmp_K (op := .Eq) hr1.units0 hF I1.ok.mod.kin J J'.type hn hs hf ?_
      have hl : ([Value.ref a, .ref b] ++ []).length = ps.length := by
        have e := F.len _ _ _ _ z
        exact e
      have bd : BindsTo s1 fd ⟨[Value.ref a, .ref b], []⟩ (ps.zip [Value.ref a, .ref b]) := by
        have b1 := hb s1 [Value.ref a, .ref b] I1.kIn hl
        rw [List.append_nil] at b1
        exact b1
      have r3 : Vals [V.ref a, .ref b] [Value.ref a, .ref b] := .cons rfl (.cons rfl .nil)
      refine wpAny_call (codeAny_mono (F.run X.A.in1 X.stack s1 H _ _ _ _ E hr1 I1.env0.in1 bd r3 z) fun r s' hq => ?_)
      match r, hq with
      | .error e, hq => exact hx pins σ H s1 e s' I1 hq
      | .ok (.ret w), hq =>
        obtain ⟨z', H', I', rz, rfl, rfl⟩ := I1.after hq
        cases rz
        exact wpAny_truthy_bool ⟨rfl, I'⟩
      | .ok .next, hq => exact hq.elim
      | .ok .brk, hq => exact hq.elim
      | .ok .cont, hq => exact hq.elim
  · rw [l1, l2]
    exact fin
end
end L2

set_option Elab.async false
set_option linter.all false
set_option maxRecDepth 100000
set_option maxHeartbeats 2000000
/-! X(), an own exception without arguments, raised; lcm; things that stay -/
namespace L2
open PySem PySem.Spec PyProof.Rows
theorem pmk_own0 {X : Cx} {C : Addr} {bmB : List Value} {B newId initId : String} {x : Str} {p pos : Pos} (F : ExcBaseFacts B newId initId bmB) (q : PySem.W.excIn X.K C bmB newId = true) (gC : X.mg x = some (.ref C)) (kC : PySem.W.keepIn X.K (.ref C) = true) (r : Raises X (.ref C)) (hg : Gl X x)
    (hdb : (x == ("__debug__" : Str)) = false := by decide) : PMk X (.Call (.Name x p) [] [] pos) (fun _ H Q => Q (.ref C) none H) := fun pins s σ H Q I h => by
  refine wpAny_Call_Name_kw (ld_glob I hg gC (PySem.W.callWith_K0 I.kIn kC ?_) hdb)
  obtain ⟨bm, N, nm, qn, bs, hdct, sn, sub, ab, col, dd, k0, k1, k2, k3, k5, mN, hC, hN, hni, T⟩ := exc_obj I.kIn q
  exact wpAny_call_exc_subT F T hC hN hni (fun h' e hm => mk_of I hm r h (I.hok.gone hm.new)) (Nat.zero_le _)
theorem _root_.PySem.W.mg_lcm_wide {prog : Program} {w : World} {A : Around} {E : Value → Shared → Prop} {s : Shared} {Q : Value → Shared → Prop} {a b : Int} {t u : Tok} (ha : a.natAbs < 2 ^ 900) (hb : b.natAbs < 2 ^ 900) (hsz : ((((Nat.lcm 1 a.natAbs).lcm b.natAbs : Nat) : Int)).natAbs.log2 < bitsLine)
    (h : Q (.int (((Nat.lcm 1 a.natAbs).lcm b.natAbs : Nat) : Int) s.toks) { s with toks := s.toks + 1 }) : wpAny (model prog w) A (call (.builtin "math.lcm") [.int a t, .int b u]) Q E s := by
  have one : (1 : Nat) < 2 ^ 900 := by decide +kernel
  have h1 := PySem.Flt.log2_lt_of (n := max 1 a.natAbs) (by decide) (show max 1 a.natAbs < 2 ^ 900 from Nat.max_lt.mpr ⟨one, ha⟩)
  have h2 := PySem.Flt.log2_lt_of (n := max a.natAbs b.natAbs) (by decide) (show max a.natAbs b.natAbs < 2 ^ 900 from Nat.max_lt.mpr ⟨ha, hb⟩)
  exact call_function_meets PySem.W.MGF.kind_lcm PySem.W.MGF.plain_lcm PySem.W.MGF.entry_lcm (PySem.W.MGF.args_lcm _ _) (PySem.W.mg_run_lcm a t b u (by omega) (by omega) hsz).meets h
def rLcm : List V → Hp → VK → Prop := fun vs H Q => ∃ a b : Int, vs = [.int a, .int b] ∧ a.natAbs < 2 ^ 900 ∧ b.natAbs < 2 ^ 100 ∧ Q (.int ((Nat.lcm a.natAbs b.natAbs : Nat) : Int)) H
theorem cr_lcm {X : Cx} : CallR X (.builtin "math.lcm") rLcm := by
  intro pins s σ H vs us Q I r h
  obtain ⟨a, b, rfl, ha, hb, q⟩ := h
  obtain ⟨t, u, rfl⟩ := Vals.int2 r
  have e1 : Nat.lcm 1 a.natAbs = a.natAbs := by simp [Nat.lcm]
  have e2 : (((Nat.lcm 1 a.natAbs).lcm b.natAbs : Nat) : Int) = ((Nat.lcm a.natAbs b.natAbs : Nat) : Int) := by rw [e1]
  refine PySem.W.mg_lcm_wide ha (Nat.lt_trans hb (by decide +kernel)) ?_ (by rw [e2]; exact ⟨.int _, H, I.tok _, ⟨_, rfl⟩, q⟩)
  rw [e2]
  have h1 : Nat.lcm a.natAbs b.natAbs ≤ a.natAbs * b.natAbs := Nat.div_le_self _ _
  have h2 : a.natAbs * b.natAbs < 2 ^ 900 * 2 ^ 100 := Nat.mul_lt_mul'' ha hb
  have h3 : (((Nat.lcm a.natAbs b.natAbs : Nat) : Int)).natAbs < 2 ^ 1000 := by
    show Nat.lcm a.natAbs b.natAbs < 2 ^ 1000
    rw [show (2 : Nat) ^ 1000 = 2 ^ 900 * 2 ^ 100 from by rw [← Nat.pow_add]]
    exact Nat.lt_of_le_of_lt h1 h2
  exact Nat.lt_of_lt_of_le (PySem.Flt.log2_lt_of (by decide) h3) (by decide)
/-- what is no list stays -/
def NL (H H' : Hp) : Prop := ∀ a o, (∀ xs, o ≠ .lst xs) → H a = some o → H' a = some o
theorem NL.of {H H' : Hp} (s : Same H H') : NL H H' := fun a o _ e => s a o e
theorem NL.trans {H H1 H2 : Hp} (a : NL H H1) (b : NL H1 H2) : NL H H2 := fun c o n e => b c o n (a c o n e)
end L2

set_option Elab.async false
set_option linter.all false
set_option maxRecDepth 100000
set_option maxHeartbeats 4000000
/-! law k04: words for what its defs ask of things -/
namespace KG
open PySem L2 TL
def top (i : Nat) : Stmt := PySem.Challenge.pw_toldwithin_k07_whole_questions_add_and_s.main.body.getD i (.Pass ⟨0, 0, 0, 0⟩)
abbrev FnP (K : PySem.W.Frag) (x q : Str) (st : Stmt) (dvs : List V) (f : Addr) (fd : FuncData) : Prop := FunD K x q (defArgs st) (defBody st) (defScope st) dvs [] f fd
section
variable (P : Program) (w : World) (K : PySem.W.Frag) (mg : Str → Option Value) (base : Heap)
def GloOk (CX : CXT) (k : Nat) (x : Str) (ps : List Str) (sp : Sp) : Prop := ∃ f fd, FnOk P w K mg base CX k f fd ps sp ∧ mg x = some (.ref f) ∧ PySem.W.keepIn K (.ref f) = true ∧ Binds K fd ps []
def MthOk (C : Addr) (CX : CXT) (k : Nat) (m : Str) (ps : List Str) (sp : Sp) : Prop := ∃ f fd, FnOk P w K mg base CX k f fd ps sp ∧ Meth K C m f ∧ Binds K fd ps []
def MkOk (C : Addr) (CX : CXT) (k : Nat) (ps : List Str) (sp : Sp) : Prop := ∃ f fd, FnOk P w K mg base CX k f fd ps sp ∧ Mk K C f ∧ Binds K fd ps []
def ErrOk (E : Addr) (k : Nat) (ps : List Str) (sp : Sp) : Prop := ∃ f fd, FnOk P w K mg base CX0 k f fd ps sp ∧ PySem.W.findIn K (.ref E) "__init__" = some (some (.ref f)) ∧ PySem.W.typeIn K (.ref f) = some (.type "function") ∧ Binds K fd ps []
end
theorem itF {c : Bool} {A B : Prop} (h : c = false) (k : B) : if c = true then A else B := by
  subst h
  exact iteF k
theorem itT {c : Bool} {A B : Prop} (h : c = true) (k : A) : if c = true then A else B := by
  subst h
  exact iteT k
theorem dec_vi {i j : Int} : decide (V.int i = V.int j) = decide (i = j) := decide_eq_decide.mpr ⟨V.int.inj, congrArg V.int⟩
theorem big1000 {n : Nat} (h : n ≤ 1000) : n ≤ sizeLine := Nat.le_trans h (by decide)
theorem new {H : Hp} {p : Addr} {o : HO} (n : H p = none) : Same H (upd H p o) := fun b u e => by
  rw [upd_ne (ne_of_none e n)]
  exact e
theorem gname_step {i : Nat} {x : V} {σ : St} {H : Hp} {Q : St → Hp → Prop} (h : Q (σ.set i (some x)) H) : gName i x σ H Q := h
theorem at_any {xs : List V} {d : Int} (h0 : 0 ≤ d) (h1 : d < (xs.length : Int)) : ∃ v, v ∈ xs ∧ atI xs d = some v := by
  obtain ⟨n, rfl⟩ := Int.eq_ofNat_of_zero_le h0
  exact ⟨xs[n]'(by omega), List.getElem_mem _, atI_nat (List.getElem?_eq_getElem (by omega))⟩
/-- what of the text is asked -/
structure Txt (K : PySem.W.Frag) (mg : Str → Option Value) : Prop where
  isinst : mg "isinstance" = none
  int : mg "int" = none
  str : mg "str" = none
  list : mg "list" = none
  tuple : mg "tuple" = none
  set : mg "set" = none
  abs : mg "abs" = none
  len : mg "len" = none
  range : mg "range" = none
  min : mg "min" = none
  all : mg "all" = none
  any : mg "any" = none
  enum : mg "enumerate" = none
  zip : mg "zip" = none
  repr : mg "repr" = none
  max : mg "max" = none
/-! ### rows -/
/-- v is a list or a tuple of xs -/
def Row (H : Hp) (v : V) (xs : List V) : Prop := ∃ p, v = .ref p ∧ (H p = some (.lst xs) ∨ H p = some (.tup xs))
/-- v is none -/
def NoRow (H : Hp) (v : V) : Prop := v = .non ∨ (∃ b, v = .bl b) ∨ (∃ i, v = .int i) ∨ (∃ z, v = .str z) ∨ ∃ p, v = .ref p ∧ H p = some (.dK [])
theorem Row.same {H H' : Hp} {v : V} {xs : List V} (h : Row H v xs) (s : Same H H') : Row H' v xs := by
  obtain ⟨p, e, h | h⟩ := h
  · exact ⟨p, e, .inl (s _ _ h)⟩
  · exact ⟨p, e, .inr (s _ _ h)⟩
theorem NoRow.same {H H' : Hp} {v : V} (h : NoRow H v) (s : Same H H') : NoRow H' v := by
  rcases h with h | h | h | h | ⟨p, e, h⟩
  · exact .inl h
  · exact .inr (.inl h)
  · exact .inr (.inr (.inl h))
  · exact .inr (.inr (.inr (.inl h)))
  · exact .inr (.inr (.inr (.inr ⟨p, e, s _ _ h⟩)))
theorem Row.one {H : Hp} {v : V} {xs ys : List V} (h : Row H v xs) (k : Row H v ys) : xs = ys := by
  obtain ⟨p, rfl, h⟩ := h
  obtain ⟨q, e, k⟩ := k
  cases e
  rcases h with h | h <;> rcases k with k | k <;> rw [h] at k <;> cases k <;> rfl
theorem Row.no {H : Hp} {v : V} {xs : List V} (h : Row H v xs) (k : NoRow H v) : False := by
  obtain ⟨p, rfl, h⟩ := h
  rcases k with k | ⟨_, k⟩ | ⟨_, k⟩ | ⟨_, k⟩ | ⟨q, e, k⟩
  · cases k
  · cases k
  · cases k
  · cases k
  · cases e
    rcases h with h | h <;> rw [h] at k <;> cases k
theorem Row.seq {K : PySem.W.Frag} {H : Hp} {v : V} {xs : List V} (h : Row H v xs) : ∃ p, v = .ref p ∧ (SqL K H p xs ∨ SqT K H p xs) := by
  obtain ⟨p, e, h | h⟩ := h
  · exact ⟨p, e, .inl (SqL.of h)⟩
  · exact ⟨p, e, .inr (SqT.of h)⟩
/-- the kind of a thing is known, that of what it has, too, n levels down; texts are short, rows, too -/
def Kn : Nat → Hp → V → Prop
  | 0, H, v => (∃ xs, Row H v xs ∧ xs.length ≤ 100) ∨ (NoRow H v ∧ ∀ z, v = .str z → z.length ≤ 100)
  | n + 1, H, v => (∃ xs, Row H v xs ∧ xs.length ≤ 100 ∧ ∀ x ∈ xs, Kn n H x) ∨ (NoRow H v ∧ ∀ z, v = .str z → z.length ≤ 100)
theorem Kn.same {H H' : Hp} (s : Same H H') : ∀ {n : Nat} {v : V}, Kn n H v → Kn n H' v
  | 0, v, h => by
    rcases h with ⟨xs, r, l⟩ | ⟨r, l⟩
    · exact .inl ⟨xs, r.same s, l⟩
    · exact .inr ⟨r.same s, l⟩
  | n + 1, v, h => by
    rcases h with ⟨xs, r, l, k⟩ | ⟨r, l⟩
    · exact .inl ⟨xs, r.same s, l, fun x hx => (k x hx).same s⟩
    · exact .inr ⟨r.same s, l⟩
theorem Kn.less {H : Hp} : ∀ {n : Nat} {v : V}, Kn (n + 1) H v → Kn n H v
  | 0, v, h => by
    rcases h with ⟨xs, r, l, k⟩ | ⟨r, l⟩
    · exact .inl ⟨xs, r, l⟩
    · exact .inr ⟨r, l⟩
  | n + 1, v, h => by
    rcases h with ⟨xs, r, l, k⟩ | ⟨r, l⟩
    · exact .inl ⟨xs, r, l, fun x hx => (k x hx).less⟩
    · exact .inr ⟨r, l⟩
theorem Kn.row {H : Hp} {n : Nat} {v : V} (h : Kn n H v) : (∃ xs, Row H v xs ∧ xs.length ≤ 100) ∨ (NoRow H v ∧ ∀ z, v = .str z → z.length ≤ 100) := by
  cases n with
  | zero => exact h
  | succ n =>
    rcases h with ⟨xs, r, l, k⟩ | h
    · exact .inl ⟨xs, r, l⟩
    · exact .inr h
/-- its kind, as isinstance sees it -/
theorem Row.ty {K : PySem.W.Frag} {H : Hp} {v : V} {xs : List V} (h : Row H v xs) : ∃ t : String, (t = "list" ∨ t = "tuple") ∧ TyX K H v (.type t) := by
  obtain ⟨p, rfl, h | h⟩ := h
  · exact ⟨_, .inl rfl, .base (.lst h)⟩
  · exact ⟨_, .inr rfl, .base (.tup h)⟩
theorem NoRow.ty {K : PySem.W.Frag} {H : Hp} {v : V} (h : NoRow H v) : ∃ t : String, (t = "NoneType" ∨ t = "bool" ∨ t = "int" ∨ t = "str" ∨ t = "dict") ∧ TyX K H v (.type t) ∧ (t = "str" ↔ ∃ z, v = .str z) := by
  rcases h with rfl | ⟨b, rfl⟩ | ⟨i, rfl⟩ | ⟨z, rfl⟩ | ⟨p, rfl, h⟩
  · exact ⟨"NoneType", .inl rfl, .base .non, fun z => absurd z (by decide), fun ⟨_, e⟩ => by cases e⟩
  · exact ⟨"bool", .inr (.inl rfl), .base (.bl b), fun z => absurd z (by decide), fun ⟨_, e⟩ => by cases e⟩
  · exact ⟨"int", .inr (.inr (.inl rfl)), .base (.int i), fun z => absurd z (by decide), fun ⟨_, e⟩ => by cases e⟩
  · exact ⟨"str", .inr (.inr (.inr (.inl rfl))), .base (.str z), fun _ => ⟨z, rfl⟩, fun _ => rfl⟩
  · exact ⟨"dict", .inr (.inr (.inr (.inr rfl))), .base (.dK h), fun z => absurd z (by decide), fun ⟨_, e⟩ => by cases e⟩
theorem kit_any2 {K : PySem.W.Frag} {t : String} {b1 b2 : Bool} (h1 : PySem.W.kitOne K (.type t) (.type "list") = some b1) (h2 : PySem.W.kitOne K (.type t) (.type "tuple") = some b2) : PySem.W.kitAny K (.type t) [.type "list", .type "tuple"] = some (b1 || b2) := by
  unfold PySem.W.kitAny
  rw [h1]
  cases b1 with
  | true => rfl
  | false =>
    unfold PySem.W.kitAny
    rw [h2]
    cases b2 <;> rfl
theorem row_kit {K : PySem.W.Frag} {t : String} (h : t = "list" ∨ t = "tuple") : PySem.W.kitAny K (.type t) [.type "list", .type "tuple"] = some true := by
  rcases h with rfl | rfl
  · exact kit_any2 (b1 := true) (b2 := false) (kit_ty (by decide +kernel)) (kit_ty (by decide +kernel))
  · exact kit_any2 (b1 := false) (b2 := true) (kit_ty (by decide +kernel)) (kit_ty (by decide +kernel))
theorem norow_kit {K : PySem.W.Frag} {t : String} (h : t = "NoneType" ∨ t = "bool" ∨ t = "int" ∨ t = "str" ∨ t = "dict") : PySem.W.kitAny K (.type t) [.type "list", .type "tuple"] = some false := by
  rcases h with rfl | rfl | rfl | rfl | rfl <;> exact kit_any2 (b1 := false) (b2 := false) (kit_ty (by decide +kernel)) (kit_ty (by decide +kernel))
end KG

set_option Elab.async false
set_option linter.all false
set_option maxRecDepth 100000
set_option maxHeartbeats 4000000
namespace L2
open PySem PySem.Spec PyProof.Rows
/-- a row, be it a list or a tuple, walked -/
def iRow (K : PySem.W.Frag) (t : TE) : TI := fun σ H R => t σ H fun x H1 => ∃ a, x = .ref a ∧ (((∃ xs, SqL K H1 a xs) ∧ R (Itl K a) H1) ∨ ((∃ xs, SqT K H1 a xs) ∧ R (Itt K a) H1))
theorem pi_row {X : Cx} {tg e : Expr} {t : TE} (he : PE X e t) : PI X tg e (iRow X.K t) := by
  constructor
  intro pins s σ H R I h
  refine thn (he.run pins s σ H _ I h) fun v s1 hh => ?_
  obtain ⟨x, H1, I1, r1, a, rfl, hh⟩ := hh
  cases r1
  have free : ∀ b ∈ [s1.heap.objs.size], FpOk X pins H1 b := fun b hb => by
    rw [List.mem_singleton.mp hb]
    exact I1.fpOk (Nat.le_refl _) (I1.hok.fresh (Nat.le_refl _))
  rcases hh with ⟨⟨xs, hq⟩, q⟩ | ⟨⟨xs, hq⟩, q⟩
  · obtain ⟨its, _, p, _⟩ := I1.list hq
    exact wpAny_pyIter_list p.isList ⟨_, [s1.heap.objs.size], _, _, H1, rfl, I1.kept (t' := s1.toks) fun b o z => Heap.get?_push_of_some _ z, turn_list a _, ⟨_, Heap.get?_push_size _ rfl, rfl, rfl⟩, free, q⟩
  · obtain ⟨its, _, p, _⟩ := I1.tuple hq
    exact wpAny_pyIter_tuple (items := its.toArray) p ⟨_, [s1.heap.objs.size], _, _, H1, rfl, I1.kept (t' := s1.toks) fun b o z => Heap.get?_push_of_some _ z, turn_tuple a _, ⟨_, Heap.get?_push_size _ rfl, rfl, rfl⟩, free, q⟩
end L2
namespace KG
open PySem L2 TL
/-- .. as the walk of its things -/
theorem row_walk {K : PySem.W.Frag} {H : Hp} {x : V} {xs : List V} {R : It → Hp → Prop} (r : Row H x xs) (k : ∀ J, Walk J xs.length (fun H' => Same H H') (YAt xs) → R J H) :
    ∃ a, x = .ref a ∧ (((∃ xs, SqL K H a xs) ∧ R (Itl K a) H) ∨ ((∃ xs, SqT K H a xs) ∧ R (Itt K a) H)) := by
  obtain ⟨p, rfl, h | h⟩ := r
  · exact ⟨p, rfl, .inl ⟨⟨xs, SqL.of h⟩, k _ (walk_list.mono (fun H' s => SqL.of (s _ _ h)) fun _ _ _ _ _ _ y => y)⟩⟩
  · exact ⟨p, rfl, .inr ⟨⟨xs, SqT.of h⟩, k _ (walk_tup.mono (fun H' s => SqT.of (s _ _ h)) fun _ _ _ _ _ _ y => y)⟩⟩
/-- a comprehension over a row in a name -/
theorem tLc_row {K : PySem.W.Frag} {g : TG} {tt : TT} {te : TE} {vs : List Nat} {σ : St} {H : Hp} {Q : VK} {i : Nat} {x : V} {xs : List V} (hi : σ[i]? = some (some x)) (r : Row H x xs)
    (k : ∀ J, Walk J xs.length (fun H' => Same H H') (YAt xs) → tLc (fun _ H R => R J H) g tt te vs σ H Q) : tLc (iRow K (tVar i)) g tt te vs σ H Q :=
  ⟨x, hi, row_walk (R := fun J H1 => tLc (fun _ H R => R J H) g tt te vs σ H1 Q) r k⟩
theorem cb_one {r : List V → Hp → VK → Prop} {t : TE} {σ : St} {H : Hp} {Q : VK} (h : t σ H fun x H1 => r [x] H1 Q) : tCB r (tCons t tNil) σ H Q := h
/-- the answer to whether p -/
def Ans (p : Prop) (H : Hp) (Q : VK) : Prop := ∀ H', Same H H' → (p → Q (.bl true) H') ∧ (¬ p → Q (.bl false) H')
theorem Ans.here {p : Prop} {H : Hp} {Q : VK} {b : Bool} (h : Ans p H Q) (e : b = true ↔ p) : Q (.bl b) H := by
  obtain ⟨h1, h2⟩ := h H (Same.refl H)
  cases b with
  | true => exact h1 (e.mp rfl)
  | false => exact h2 fun z => Bool.noConfusion (e.mpr z)
theorem Ans.at {p : Prop} {H H' : Hp} {Q : VK} {b : Bool} (h : Ans p H Q) (s : Same H H') (e : b = true ↔ p) : Q (.bl b) H' := by
  obtain ⟨h1, h2⟩ := h H' s
  cases b with
  | true => exact h1 (e.mp rfl)
  | false => exact h2 fun z => Bool.noConfusion (e.mpr z)
open Classical in
noncomputable def bits (p : V → Prop) (xs : List V) : List Bool := xs.map fun v => decide (p v)
open Classical in
theorem bits_all (p : V → Prop) (xs : List V) : (bits p xs).all id = true ↔ ∀ v ∈ xs, p v := by
  unfold bits
  rw [List.all_map, List.all_eq_true]
  constructor
  · intro h v hv
    exact of_decide_eq_true (h v hv)
  · intro h v hv
    exact decide_eq_true (h v hv)
open Classical in
theorem bits_any (p : V → Prop) (xs : List V) : (bits p xs).any id = true ↔ ∃ v ∈ xs, p v := by
  unfold bits
  rw [List.any_map, List.any_eq_true]
  constructor
  · rintro ⟨v, hv, h⟩
    exact ⟨v, hv, of_decide_eq_true h⟩
  · rintro ⟨v, hv, h⟩
    exact ⟨v, hv, decide_eq_true h⟩
open Classical in
/-- [p(v) for v in row]: the list of the answers -/
theorem lc_bits {p : V → Prop} {xs : List V} {J : It} {te : TE} {i : Nat} {vs : List Nat} {σ : St} {H : Hp} {D : Addr} {Qd : Hp → Prop} (wk : Walk J xs.length (fun H' => Same H H') (YAt xs)) (nD : H D = none) (len : xs.length ≤ 1000) (hw : ∀ v : V, wipe ((wipe σ vs).set i (some v)) vs = wipe σ vs)
    (elem : ∀ v ∈ xs, ∀ H' (Q : VK), Same H H' → Ans (p v) H' Q → te ((wipe σ vs).set i (some v)) H' Q) (hd : ∀ H', Same H H' → H' D = some (.lst ((bits p xs).map V.bl)) → Qd H') :
    ∃ W : Nat → Nat → Hp → Prop, (∃ m, W 0 m (upd H D (.lst []))) ∧ ∀ j m H', W j m H' → ((J.stop j H' ∧ Qd H') ∨ (J.go j H' ∧ ∃ Nx : Hp → Prop, (∀ H', Nx H' → ∃ m', m' < m ∧ W (j + 1) m' H') ∧
      ∀ x H2, J.yld j H' x H2 → gName i x (wipe σ vs) H2 fun σ2 H3 => wipe σ2 vs = wipe σ vs ∧ tYes σ2 H3 fun b H4 => if b = true then te σ2 H4 fun y H5 => ∃ acc, H5 D = some (.lst acc) ∧ acc.length < sizeLine ∧ Nx (upd H5 D (.lst (acc ++ [y]))) else Nx H4)) := by
  refine lc_it wk (fun j H' => Same H H' ∧ H' D = some (.lst (((bits p xs).take j).map V.bl))) ⟨new nD, upd_same⟩ (fun _ _ _ h => h.1) ?_ ?_
  · rintro j v H1 H2 hj ⟨s1, e1⟩ ⟨rfl, hv⟩
    refine ⟨hw v, ?_⟩
    unfold tYes
    refine iteT (elem v (List.mem_of_getElem? hv) _ _ s1 fun H3 s3 => ?_)
    have go : ∀ b : Bool, (b = true ↔ p v) → ∃ acc, H3 D = some (.lst acc) ∧ acc.length < sizeLine ∧ Same H (upd H3 D (.lst (acc ++ [V.bl b]))) ∧ (upd H3 D (.lst (acc ++ [V.bl b]))) D = some (.lst (((bits p xs).take (j + 1)).map V.bl)) := fun b hb => by
      refine ⟨_, s3 _ _ e1, ?_, fun c o e => ?_, ?_⟩
      · rw [List.length_map, List.length_take]
        unfold bits
        rw [List.length_map]
        exact Nat.lt_of_lt_of_le (show _ < 1001 by omega) (show 1001 ≤ sizeLine by decide)
      · rw [upd_ne (ne_of_none e nD)]
        exact s3 _ _ (s1 _ _ e)
      · rw [upd_same, List.take_add_one, List.map_append]
        have e : (bits p xs)[j]? = some b := by
          unfold bits
          rw [List.getElem?_map, hv]
          cases b with
          | true => exact congrArg some (decide_eq_true (hb.mp rfl))
          | false => exact congrArg some (decide_eq_false fun z => Bool.noConfusion (hb.mpr z))
        rw [e]
        rfl
    exact ⟨fun z => go true ⟨fun _ => z, fun _ => rfl⟩, fun z => go false ⟨fun y => Bool.noConfusion y, fun y => absurd y z⟩⟩
  · rintro H1 ⟨s1, e1⟩
    refine hd H1 s1 ?_
    rw [e1, List.take_of_length_le]
    unfold bits
    rw [List.length_map]
    exact Nat.le_refl _
end KG

set_option Elab.async false
set_option linter.all false
set_option maxRecDepth 100000
/-! len(set(xs)), xs a list or a tuple of any texts -/
namespace TxS
open PySem PySem.Spec PyProof.Rows
/-- one text more among those that were met -/
def put (l : List Str) (x : Str) : List Str := if x ∈ l then l else l ++ [x]
def met (xs : List Str) : List Str := xs.foldl put []
theorem met_snoc (xs : List Str) (x : Str) : met (xs ++ [x]) = put (met xs) x := by
  unfold met
  rw [List.foldl_append]
  rfl
theorem mem_put {l : List Str} {x y : Str} : y ∈ put l x ↔ y ∈ l ∨ y = x := by
  unfold put
  split
  · rename_i h
    constructor
    · exact .inl
    · rintro (h' | rfl)
      · exact h'
      · exact h
  · rw [List.mem_append, List.mem_singleton]
theorem mem_met : ∀ (xs : List Str) (y : Str), y ∈ met xs ↔ y ∈ xs := by
  intro xs y
  have go : ∀ (r l : List Str), y ∈ r.foldl put l ↔ y ∈ l ∨ y ∈ r := by
    intro r
    induction r with
    | nil => intro l; simp
    | cons x r ih => intro l; rw [List.foldl_cons, ih, mem_put, List.mem_cons, or_assoc]
  rw [show met xs = xs.foldl put [] from rfl, go]
  simp
theorem put_len (l : List Str) (x : Str) : (put l x).length = if x ∈ l then l.length else l.length + 1 := by
  unfold put
  split
  · rfl
  · rw [List.length_append]
    rfl
/-- as many were met as there are texts: no text twice -/
theorem met_nodup (xs : List Str) : (met xs).length ≤ xs.length ∧ ((met xs).length = xs.length ↔ xs.Nodup) := by
  have go : ∀ (r l : List Str), l.Nodup → (r.foldl put l).length ≤ l.length + r.length ∧ ((r.foldl put l).length = l.length + r.length ↔ (l ++ r).Nodup) := by
    intro r
    induction r with
    | nil =>
      intro l h
      rw [List.append_nil]
      exact ⟨Nat.le_refl _, fun _ => h, fun _ => rfl⟩
    | cons x r ih =>
      intro l h
      rw [List.foldl_cons, List.length_cons]
      by_cases e : x ∈ l
      · have p : put l x = l := if_pos e
        obtain ⟨i1, i2⟩ := ih l h
        rw [p]
        refine ⟨by omega, fun z => by omega, fun z => ?_⟩
        have d := (List.nodup_append.mp z).2.2 x e x List.mem_cons_self
        exact absurd rfl d
      · have p : put l x = l ++ [x] := if_neg e
        have hn : (l ++ [x]).Nodup := by
          rw [List.nodup_append]
          refine ⟨h, by simp, fun a ha b hb => ?_⟩
          rw [List.mem_singleton.mp hb]
          exact fun z => e (by rw [← z]; exact ha)
        obtain ⟨i1, i2⟩ := ih (l ++ [x]) hn
        rw [p]
        rw [List.length_append, List.length_singleton] at i1 i2
        refine ⟨by omega, ?_⟩
        rw [show l ++ x :: r = (l ++ [x]) ++ r by rw [List.append_assoc]; rfl]
        rw [← i2]
        omega
  have z := go xs [] List.nodup_nil
  rw [List.length_nil, Nat.zero_add, List.nil_append] at z
  exact z
section
variable {prog : Program} {w : World}
/-- the texts of l stand in the set at a -/
def Has (prog : Program) (w : World) (h : Heap) (a : Addr) (l : List Str) : Prop := h.SetOf (PySem.strKind prog w) a (fun k => decide (k ∈ l)) l.length
theorem Has.keep {h h' : Heap} {a : Addr} {l : List Str} (x : Has prog w h a l) (k : ∀ o, h.get? a = some o → h'.get? a = some o) : Has prog w h' a l := by
  obtain ⟨o, es, ep, t, ho, more⟩ := x
  exact ⟨o, es, ep, t, k o ho, more⟩
theorem adds {A : Around} {E : Value → Shared → Prop} {s : Shared} {a : Addr} {l : List Str} {x : Str} {t : Tok} {Q : Bool → Shared → Prop} (hs : Has prog w s.heap a l) (room : l.length + 1 < scanBound)
    (h : ∀ h', Heap.SameBut a s.heap h' → Has prog w h' a (put l x) → ∀ b, Q b { s with heap := h', toks := s.toks + 1 }) : wpAny (model prog w) A (holding [Value.str x t] (setAdd a (.str x t))) Q E s := by
  refine wpAny_holding ?_
  unfold setAdd
  refine wpAny_holding (wpAny_bind ((PySem.strKind prog w).pyHash (k := x) (strKind_is _ _ _ _) ?_))
  refine wpAny_setAddHashed_of (knd := PySem.strKind prog w) (s := { s with toks := s.toks + 1 }) (strKind_is _ _ _ _) rfl hs room fun h' sb z => h h' sb ?_ _
  refine SetOf_congr z (fun k => ?_) ?_
  · rw [← Bool.decide_or]
    exact decide_eq_decide.mpr mem_put.symm
  · rw [put_len]
    by_cases e : x ∈ l
    · rw [if_pos e, if_pos (decide_eq_true e)]
    · rw [if_neg e, if_neg (by rw [decide_eq_false e]; exact Bool.false_ne_true)]
/-- the texts that a walk gives are added one by one -/
theorem each {A : Around} {R : Result → Shared → Prop} {it S : Addr} {fp wr : List Addr} {G : Array GenState → Array GenState → Prop} {n : Nat} {P : Nat → Value → Prop} {St : Nat → Shared → Prop} (W : WalksS prog w A.in1 it fp wr G n P St) (out : S ∉ fp) (xs : List Str) (len : xs.length = n)
    (room : n + 1 < scanBound) (txt : ∀ i v, P i v → ∃ x t, xs[i]? = some x ∧ v = .str x t) (d : Nat) : ∀ (i : Nat) (s : Shared), n - i = d → i ≤ n → St i s → Has prog w s.heap S (met (xs.take i)) →
      (∀ s2, Moved (S :: wr) G s s2 → Has prog w s2.heap S (met xs) → R (.ok (.ret .none)) s2) → codeAny (model prog w) A (.builtin "set.update.loop" ⟨[.ref S, .ref it], []⟩) R s := by
  have nw : S ∉ wr := fun z => out (W.sub _ z)
  have up : ∀ b ∈ wr, b ∈ S :: wr := fun b z => List.mem_cons_of_mem _ z
  induction d with
  | zero =>
    intro i s hd hi st hs fin
    obtain rfl : i = n := by omega
    refine codeAny_builtin PyProof.Rows.F.entry_set_update_loop ?_
    rw [Around.under_plainId PyProof.Rows.F.plain_set_update_loop _]
    show wpAny _ A.in1 (pyNext (.ref it) >>= _) _ _ s
    refine wpAny_bind (W.done s _ _ st fun s2 mv => ?_)
    refine wpAny_pure (fin s2 (mv.mono up) ?_)
    rw [List.take_of_length_le (by omega)] at hs
    exact hs.keep fun o e => mv.heap S o nw e
  | succ d ih =>
    intro i s hd hi st hs fin
    refine codeAny_builtin PyProof.Rows.F.entry_set_update_loop ?_
    rw [Around.under_plainId PyProof.Rows.F.plain_set_update_loop _]
    show wpAny _ A.in1 (pyNext (.ref it) >>= _) _ _ s
    refine wpAny_bind (W.item i s _ _ (by omega) st fun v s2 hp st2 mv => ?_)
    obtain ⟨x, t, hx, rfl⟩ := txt i v hp
    have nx : xs.take (i + 1) = xs.take i ++ [x] := by
      rw [List.take_add_one, hx]
      rfl
    have ln := (met_nodup (xs.take i)).1
    rw [List.length_take] at ln
    refine wpAny_bind (adds (hs.keep fun o e => mv.heap S o nw e) (by omega) fun h3 sb has b => ?_)
    rw [← met_snoc, ← nx] at has
    refine wpAny_pure ⟨plainId_quiet PyProof.Rows.F.plain_set_update_loop _, ih (i + 1) _ (by omega) (by omega) (W.frame _ s2 _ _ st2 (Nat.le_succ _) fun c hc o e => ?_) has fun s4 mv4 z => ?_⟩
    · rw [sb.2 c fun q => out (q ▸ hc)]
      exact e
    · refine fin s4 (Moved.trans W.gtrans ((mv.mono up).then_heap (Nat.le_succ _) fun c o hc e => ?_) mv4) z
      rw [sb.2 c fun q => hc (q ▸ List.mem_cons_self)]
      exact e
end
end TxS

set_option Elab.async false
set_option linter.all false
set_option maxRecDepth 100000
namespace TxS
open PySem PySem.Spec PyProof.Rows
/-- an empty set that was laid just now -/
abbrev bare (led : Bool) : Obj := { cls := .type "set", dict := none, data := .set #[] 0 (.fresh 0 0 led) }
section
variable {prog : Program} {w : World} {A : Around} {E : Value → Shared → Prop} {s : Shared}
set_option maxHeartbeats 3200000 in
theorem made {T : String} (hT : T = "list" ∨ T = "tuple") {l : Addr} {oc : Option Addr} {sl : Array (Option Value)} {items : Array Value} {nl : Nat} {xs : List Str} {Q : Value → Shared → Prop} (hh : A.handled = none) (at_ : s.heap.get? l = some { cls := .type T, dict := oc, data := .seq items nl, slots := sl })
    (txt : ∀ (i : Nat) (v : Value), items[i]? = some v → ∃ x t, xs[i]? = some x ∧ v = Value.str x t) (len : xs.length = items.size) (room : items.size + 1 < scanBound)
    (h : ∀ (h' : Heap) (tk : Nat), Has prog w h' s.heap.objs.size (met xs) → (∀ b o, b < s.heap.objs.size → s.heap.get? b = some o → h'.get? b = some o) → Q (.ref s.heap.objs.size) { s with heap := h', toks := tk }) : wpAny (model prog w) A (call (.type "set") [.ref l]) Q E s := by
  have lS : l < s.heap.objs.size := Heap.lt_size at_
  have m1 := PySem.F.called_set.mro
  obtain ⟨c, tl, m1⟩ := m1
  have m2 := PySem.F.called_set.made
  have m3 := PySem.F.called_set.sub
  have m4 := PySem.F.called_set.notType
  have m5 := PySem.F.called_set.canCreate
  have m6 := PySem.F.typeCall_set_1 (.ref l)
  refine wpAny_call (codeAny_of_tree ?_)
  show wpAny _ _ (callAny (.type "set") _) _ _ _
  refine wpAny_pure ⟨Code.quiet_builtin _ (by decide +kernel), codeAny_builtin PySem.F.entry_type_call ?_⟩
  rw [Around.under_plain (weight_type_call_type "set" [.ref l] []) rfl]
  repeat (any_goals (first | assumption | wp_step))
  refine codeAny_mono (code_set_new_1 (.ref l) (E := E) (Q₁ := fun u s1 => ∃ led, u = .ref s.heap.objs.size ∧ s1 = { s with heap := s.heap.push (bare led) }) fun led => ⟨led, rfl, rfl⟩) fun r s1 hr => ?_
  rcases r with e | f
  · exact hr
  rcases f with u | _ | _ | _
  rotate_left
  all_goals first | exact hr.elim | skip
  obtain ⟨led, rfl, rfl⟩ := hr
  have hS : (s.heap.push (bare led)).get? s.heap.objs.size = some (bare led) := Heap.get?_push_size _ rfl
  have tS : Shared.TypeIs { s with heap := s.heap.push (bare led) } (.ref s.heap.objs.size) "set" := ⟨_, hS, rfl⟩
  have i1 := PySem.F.called_set.init.lookup
  have i2 := PySem.F.called_set.init.bind (.ref s.heap.objs.size)
  repeat (any_goals (first | assumption | wp_step))
  refine codeAny_mono (codeAny_call_builtin (R := wants (fun u s2 => u = .none ∧ ∃ h' tk, s2 = { s with heap := h', toks := tk } ∧ Has prog w h' s.heap.objs.size (met xs) ∧ ∀ b o, b < s.heap.objs.size → s.heap.get? b = some o → h'.get? b = some o) E)
    PySem.F.called_set.init.plain PySem.F.entry_set_init (check_set_init_1 tS ?_)) fun r s2 hr => ?_
  · have at2 : (s.heap.push (bare led)).get? l = some { cls := .type T, dict := oc, data := .seq items nl, slots := sl } := Heap.get?_push_of_some _ at_
    have h3 : A.in1.in1.in1.handled = none := by simp [hh]
    have ne1 : l ≠ (s.heap.push (bare led)).objs.size := by
      rw [Heap.size_push]
      exact Nat.ne_of_lt (Nat.lt_succ_of_lt lS)
    have out : s.heap.objs.size ∉ [(s.heap.push (bare led)).objs.size, l] := by
      rw [Heap.size_push]
      simp only [List.mem_cons, List.not_mem_nil, or_false, not_or]
      exact ⟨Nat.ne_of_lt (Nat.lt_succ_self _), Nat.ne_of_gt lS⟩
    have last : ∀ (cls : String) (s2 : Shared), Moved [s.heap.objs.size, (s.heap.push (bare led)).objs.size] (fun a b => b = a) { s with heap := (s.heap.push (bare led)).push { cls := .type cls, data := .fields #[.ref l, .int 0 0] } } s2 → Has prog w s2.heap s.heap.objs.size (met xs) →
        wants (fun u s2 => u = .none ∧ ∃ h' tk, s2 = { s with heap := h', toks := tk } ∧ Has prog w h' s.heap.objs.size (met xs) ∧ ∀ b o, b < s.heap.objs.size → s.heap.get? b = some o → h'.get? b = some o) E (.ok (.ret .none)) s2 := fun cls s2 mv hs => by
      obtain ⟨h2, g2, d2, k2, os2⟩ := s2
      obtain rfl : g2 = s.gens := mv.gens
      obtain rfl : d2 = s.drawn := mv.drawn
      obtain rfl : os2 = s.os := mv.os
      refine ⟨rfl, h2, k2, rfl, hs, fun b o lt e => mv.heap b o ?_ (Heap.get?_push_of_some _ (Heap.get?_push_of_some _ e))⟩
      rw [Heap.size_push]
      simp only [List.mem_cons, List.not_mem_nil, or_false, not_or]
      exact ⟨Nat.ne_of_lt lt, Nat.ne_of_lt (Nat.lt_succ_of_lt lt)⟩
    have first : ∀ cls : String, Has prog w ((s.heap.push (bare led)).push { cls := .type cls, data := .fields #[.ref l, .int 0 0] }) s.heap.objs.size (met (xs.take 0)) := fun cls =>
      SetOf_congr ((setObjOf_fresh (knd := PySem.strKind prog w) led).setOf (Heap.get?_push_of_some _ hS) (by unfold scanBound; omega)) (fun _ => rfl) rfl
    rcases hT with rfl | rfl
    · have n1 : (Value.type "list" == Value.type "dict") = false := by decide
      have n2 := PySem.F.sub_list_set
      have n3 := PySem.F.sub_list_frozenset
      have il : (s.heap.push (bare led)).IsList l items := ⟨_, at2, rfl, nl, rfl⟩
      unfold Builtin.«set.__init__» noKeywords Builtin.Frozenset.updateFrom
      generalize hPI : pyIter = PI
      wp_walk
      subst hPI
      refine wpAny_pyIter_list il (wpAny_bind (wpAny_runValue ?_))
      refine each ((Walks.list h3 _ l ne1 items).toS) out xs len room txt (items.size - 0) 0 _ rfl (Nat.zero_le _) ⟨⟨_, Heap.get?_push_size _ rfl, rfl, rfl⟩, il.push _⟩ (first _) fun s2 mv hs => ?_
      exact wpAny_pure (wpAny_pure (last _ s2 mv hs))
    · have n1 : (Value.type "tuple" == Value.type "dict") = false := by decide
      have n2 := PySem.F.sub_tuple_set
      have n3 := PySem.F.sub_tuple_frozenset
      have il : (s.heap.push (bare led)).IsTuple l items := ⟨_, at2, rfl, nl, rfl⟩
      unfold Builtin.«set.__init__» noKeywords Builtin.Frozenset.updateFrom
      generalize hPI : pyIter = PI
      wp_walk
      subst hPI
      refine wpAny_pyIter_tuple il (wpAny_bind (wpAny_runValue ?_))
      refine each ((Walks.tuple h3 _ l ne1 items).toS) out xs len room txt (items.size - 0) 0 _ rfl (Nat.zero_le _) ⟨⟨_, Heap.get?_push_size _ rfl, rfl, rfl⟩, il.push _⟩ (first _) fun s2 mv hs => ?_
      exact wpAny_pure (wpAny_pure (last _ s2 mv hs))
  · rcases r with e | f
    · exact hr
    rcases f with u | _ | _ | _
    rotate_left
    all_goals first | exact hr.elim | skip
    obtain ⟨rfl, h2, tk, rfl, hs, kp⟩ := hr
    repeat (any_goals (first | assumption | wp_step))
    exact h _ _ hs kp
end
end TxS

set_option Elab.async false
set_option linter.all false
set_option maxRecDepth 100000
set_option maxHeartbeats 4000000
namespace L2
open PySem PySem.Spec PyProof.Rows
/-- len(set(row)), the row all texts -/
def tLenTx (K : PySem.W.Frag) (ta : TE) : TE := fun σ H Q => ta σ H fun x H1 => ∃ l, ∃ xs : List Str, x = .ref l ∧ (SqL K H1 l (xs.map V.str) ∨ SqT K H1 l (xs.map V.str)) ∧ xs.length ≤ 100 ∧ Q (.int ((TxS.met xs).length : Int)) H1
theorem strs_get {xs : List Str} {us : List Value} (r : Vals (xs.map V.str) us) (i : Nat) (v : Value) (h : us.toArray[i]? = some v) : ∃ x t, xs[i]? = some x ∧ v = Value.str x t := by
  rw [List.getElem?_toArray] at h
  obtain ⟨t, e⟩ := SS.strs_at (strsAre_of r) i v h
  have l := r.length
  rw [List.length_map] at l
  have hi : i < xs.length := by
    have := (List.getElem?_eq_some_iff.mp h).1
    omega
  refine ⟨xs[i], t, List.getElem?_eq_getElem hi, ?_⟩
  rw [e, List.getD_eq_getElem?_getD, List.getElem?_eq_getElem hi]
  rfl
section
variable {X : Cx}
theorem pe_lenTx {a : Expr} {ta : TE} {p p2 q pos : Pos} (hc : X.calm = true) (hg : Gl X "len") (hm : X.mg "len" = none) (hg2 : Gl X "set") (hm2 : X.mg "set" = none) (ha : PE X a ta) (na : starEach [a] X.env = (false, eval a X.env) :: starEach [] X.env := by rfl) :
    PE X (.Call (.Name "len" p) [.Call (.Name "set" p2) [a] [] q] [] pos) (tLenTx X.K ta) := by
  constructor
  intro pins s σ H Q I h
  refine Call_ (ld_blt I hg hm boot_len (PyProof.Rows.callWith_builtin1 (PyProof.Rows.args_cons ?_ rfl) rfl rfl))
  refine Call_ (ld_blt I hg2 hm2 boot_set (PyProof.Rows.callWith_type1 (PyProof.Rows.args_cons (thn (ha.run pins s σ H _ I h) fun v s1 hh => PyProof.Rows.args_nil ?_) na) na rfl))
  obtain ⟨x, H1, I1, r1, l, xs, rfl, hq, h1, q1⟩ := hh
  cases r1
  have fin : ∀ (h' : Heap) (tk : Nat), TxS.Has X.prog X.w h' s1.heap.objs.size (TxS.met xs) → (∀ b o, b < s1.heap.objs.size → s1.heap.get? b = some o → h'.get? b = some o) →
      wpAny (model X.prog X.w) X.A (spliced (backTo pos (starEach [] X.env))) (fun vs s2 => wpAny (model X.prog X.w) X.A (call (.builtin "len") (Value.ref s1.heap.objs.size :: vs)) (EP X pins σ Q) X.xe s2) X.xe { s1 with heap := h', toks := tk } := fun h' tk hs kp => by
    obtain ⟨o, es, ep, t, ho, hex, hd, _, _, _, hf, hn⟩ := hs
    have I2 : Inv X pins σ H1 { s1 with heap := h', toks := tk } := I1.kept fun b o e => kp b o (Heap.lt_size e) e
    have le := (TxS.met_nodup xs).1
    exact PyProof.Rows.args_nil (call_len_set ho hex hd hf (by rw [hn]; omega) ⟨.int _, H1, I2.tok _, ⟨_, by rw [hn]⟩, q1⟩)
  have room : 100 + 1 < scanBound := by unfold scanBound; omega
  rcases hq with hq | hq
  · obtain ⟨its, r, pl, hz⟩ := I1.list hq
    obtain ⟨⟨oc, od, odt, osl⟩, ho, hc', nl, hdl⟩ := pl.isList
    dsimp only at hc' hdl
    subst hc' hdl
    have ln := r.length
    rw [List.length_map] at ln
    exact TxS.made (.inl rfl) (I1.ok.hd hc) ho (strs_get r) (by rw [List.size_toArray, ← ln]) (by rw [List.size_toArray, ← ln]; omega) fun h' tk hs kp => fin h' tk hs kp
  · obtain ⟨its, r, pl, hz⟩ := I1.tuple hq
    obtain ⟨⟨oc, od, odt, osl⟩, ho, hc', nl, hdl⟩ := (show s1.heap.IsTuple l its.toArray from pl)
    dsimp only at hc' hdl
    subst hc' hdl
    have ln := r.length
    rw [List.length_map] at ln
    exact TxS.made (.inr rfl) (I1.ok.hd hc) ho (strs_get r) (by rw [List.size_toArray, ← ln]) (by rw [List.size_toArray, ← ln]; omega) fun h' tk hs kp => fin h' tk hs kp
end
end L2

set_option Elab.async false
set_option linter.all false
set_option maxRecDepth 100000
set_option maxHeartbeats 4000000
namespace KG
open PySem L2 TL
abbrev sErr : Stmt := inClass (top 5) 0
abbrev sSeq : Stmt := top 16
abbrev sPair : Stmt := top 17
abbrev sWord : Stmt := top 18
abbrev sName : Stmt := top 19
abbrev sNames : Stmt := top 20
abbrev sUnlike : Stmt := top 21
abbrev LT : Str := ("abcdefghijklmnopqrstuvwxyz" : Str)
abbrev DG : Str := ("0123456789" : Str)
theorem mem_lt (c : Nat) : c ∈ LT.cps.toList ↔ 97 ≤ c ∧ c ≤ 122 := by
  have e : LT.cps.toList = (List.range 26).map (97 + ·) := by decide +kernel
  rw [e, List.mem_map]
  constructor
  · rintro ⟨a, h, rfl⟩
    have := List.mem_range.mp h
    omega
  · intro h
    exact ⟨c - 97, List.mem_range.mpr (by omega), by omega⟩
theorem mem_dg (c : Nat) : c ∈ DG.cps.toList ↔ 48 ≤ c ∧ c ≤ 57 := by
  have e : DG.cps.toList = (List.range 10).map (48 + ·) := by decide +kernel
  rw [e, List.mem_map]
  constructor
  · rintro ⟨a, h, rfl⟩
    have := List.mem_range.mp h
    omega
  · intro h
    exact ⟨c - 48, List.mem_range.mpr (by omega), by omega⟩
def Let (c : Nat) : Prop := 97 ≤ c ∧ c ≤ 122
def Dig (c : Nat) : Prop := 48 ≤ c ∧ c ≤ 57
/-- a word -/
structure WordL (l : List Nat) : Prop where
  lo : 1 ≤ l.length
  hi : l.length ≤ 8
  hd : ∀ c, l[0]? = some c → Let c
  al : ∀ c ∈ l, Let c ∨ Dig c
/-- a NAME -/
def NameS (z : Str) : Prop := WordL (tl z) ∧ z ≠ "sum" ∧ z ≠ "each"
def IsName (v : V) : Prop := ∃ z, v = .str z ∧ NameS z
def Names (H : Hp) (v : V) : Prop := ∃ xs, Row H v xs ∧ xs ≠ [] ∧ ∀ x ∈ xs, IsName x
def Unlike (H : Hp) (v : V) : Prop := ∃ xs, Row H v xs ∧ xs ≠ [] ∧ (∀ x ∈ xs, IsName x) ∧ xs.Nodup
def Short (z : Str) : Prop := z.length ≤ 100
def spErr (K : PySem.W.Frag) (E : Addr) : Sp := fun vs H Q _ => ∃ a v, vs = [.ref a, v] ∧ H a = some (exo a E none) ∧
  ∀ d, H d = none → d ≠ a → Q .non (upd (upd H d (exd d [(("word" : Str), v)])) a (exo a E (some d)))
def spSeq : Sp := fun vs H Q _ => ∃ x, vs = [x] ∧ Kn 0 H x ∧ Ans (∃ xs, Row H x xs) H Q
def spPair : Sp := fun vs H Q _ => ∃ x, vs = [x] ∧ Kn 0 H x ∧ Ans (∃ a b, Row H x [a, b]) H Q
def spWord : Sp := fun vs H Q _ => ∃ z : Str, vs = [.str z] ∧ Short z ∧ Ans (WordL (tl z)) H Q
def spName : Sp := fun vs H Q _ => ∃ x, vs = [x] ∧ Kn 0 H x ∧ Ans (IsName x) H Q
def spNames : Sp := fun vs H Q _ => ∃ x, vs = [x] ∧ Kn 1 H x ∧ Ans (Names H x) H Q
def spUnlike : Sp := fun vs H Q _ => ∃ x, vs = [x] ∧ Kn 1 H x ∧ Ans (Unlike H x) H Q
theorem get_tl {z : Str} {i c : Nat} (h : z.cps[i]? = some c) : (tl z)[i]? = some c := by
  rw [show tl z = z.cps.toList from rfl, Array.getElem?_toList]
  exact h
/-- names as texts -/
theorem names_strs {xs : List V} (h : ∀ x ∈ xs, IsName x) : ∃ zs : List Str, xs = zs.map V.str ∧ ∀ z ∈ zs, NameS z := by
  induction xs with
  | nil => exact ⟨[], rfl, fun _ h => by cases h⟩
  | cons x r ih =>
    obtain ⟨z, rfl, hz⟩ := h x List.mem_cons_self
    obtain ⟨zs, rfl, hs⟩ := ih fun y hy => h y (List.mem_cons_of_mem _ hy)
    refine ⟨z :: zs, rfl, fun y hy => ?_⟩
    rcases List.mem_cons.mp hy with rfl | hy
    · exact hz
    · exact hs y hy
theorem nodup_strs (zs : List Str) : (zs.map V.str).Nodup ↔ zs.Nodup := by
  constructor
  · intro h
    induction zs with
    | nil => exact List.nodup_nil
    | cons z r ih =>
      obtain ⟨h1, h2⟩ := List.nodup_cons.mp h
      exact List.nodup_cons.mpr ⟨fun hm => h1 (List.mem_map_of_mem hm), ih h2⟩
  · intro h
    induction zs with
    | nil => exact List.nodup_nil
    | cons z r ih =>
      obtain ⟨h1, h2⟩ := List.nodup_cons.mp h
      refine List.nodup_cons.mpr ⟨fun hm => ?_, ih h2⟩
      obtain ⟨y, hy, e⟩ := List.mem_map.mp hm
      cases e
      exact h1 hy
section
variable {P : Program} {w : World} {K : PySem.W.Frag} {mg : Str → Option Value} {base : Heap} {C E B f g h : Addr} {fd gd hd : FuncData}
theorem scSeq : FnScope ["found"] ["found"] (defScope sSeq) := ⟨rfl, rfl, rfl, by decide +kernel, rfl, by decide +kernel, by decide +kernel⟩
theorem ok_seq (F : FnP K "is_sequence" "is_sequence" sSeq [] f fd) (T : Txt K mg) : FnOk P w K mg base CX0 1 f fd ["found"] spSeq := by
  refine F.ok scSeq (fun vs H Q X z => ?_) (fun cdv A outer s H vs Q X hr z => ?_)
  · obtain ⟨x, rfl, _⟩ := z
    rfl
  · obtain ⟨x, rfl, kn, k⟩ := z
    refine ⟨_, PSs.nox (pss_one (ps_ret (pe_callB call_isiT (by rfl) T.isinst (by decide +kernel) (pa_cons (pv 0) (pa_cons (pe_tup (pa_cons (pe_bltn (v := .ty "list") (by rfl) T.list (by decide +kernel) rfl) (pa_cons (pe_bltn (v := .ty "tuple") (by rfl) T.tuple (by decide +kernel) rfl) pa_nil))) pa_nil))))), ?_⟩
    refine ⟨_, rfl, (by show 2 ≤ sizeLine; decide), fun p hp => ?_⟩
    have s1 : Same H (upd H p (.tup [.ty "list", .ty "tuple"])) := new hp
    rcases kn with ⟨xs, r, _⟩ | ⟨n, _⟩
    · obtain ⟨t, ht, ty⟩ := (r.same s1).ty (K := K)
      exact ⟨x, p, [.ty "list", .ty "tuple"], .type t, [.type "list", .type "tuple"], true, rfl, upd_same, .cons (.ty _) (.cons (.ty _) .nil), ty, row_kit ht, k.at s1 ⟨fun _ => ⟨xs, r⟩, fun _ => rfl⟩⟩
    · obtain ⟨t, ht, ty, _⟩ := (n.same s1).ty (K := K)
      exact ⟨x, p, [.ty "list", .ty "tuple"], .type t, [.type "list", .type "tuple"], false, rfl, upd_same, .cons (.ty _) (.cons (.ty _) .nil), ty, norow_kit ht, k.at s1 ⟨fun z => Bool.noConfusion z, fun ⟨xs, r⟩ => (r.no n).elim⟩⟩
theorem scPair : FnScope ["found"] ["found"] (defScope sPair) := ⟨rfl, rfl, rfl, by decide +kernel, rfl, by decide +kernel, by decide +kernel⟩
theorem ok_pair (F : FnP K "is_pair" "is_pair" sPair [] f fd) (T : Txt K mg) (GS : GloOk P w K mg base CX0 1 "is_sequence" ["found"] spSeq) : FnOk P w K mg base CX0 2 f fd ["found"] spPair := by
  obtain ⟨fS, fdS, GS, mS, kS, bS⟩ := GS
  refine F.ok scPair (fun vs H Q X z => ?_) (fun cdv A outer s H vs Q X hr z => ?_)
  · obtain ⟨x, rfl, _⟩ := z
    rfl
  · obtain ⟨x, rfl, kn, k⟩ := z
    refine ⟨_, PSs.nox (pss_one (ps_ret (pe_and (pe_call GS hr rfl mS kS bS .nil pass0 (pa_cons (pv 0) pa_nil)) (pe_one (pe_cmpR op_eq (pe_callB call_len_seq (by rfl) T.len PySem.boot_len (pa_cons (pv 0) pa_nil)) pe_int (nomark _)))))), ?_⟩
    refine ⟨_, rfl, x, rfl, kn, fun H' s' => ⟨fun ⟨xs, r⟩ => ⟨_, rfl, iteT ?_⟩, fun nr => ⟨_, rfl, iteF ?_⟩⟩⟩
    · obtain ⟨p, rfl, hq⟩ := (r.same s').seq (K := K)
      refine ⟨_, rfl, p, xs, rfl, hq, rfl, ?_⟩
      refine k.at s' ⟨fun z => ?_, fun ⟨a, b, r2⟩ => ?_⟩
      · have l := of_decide_eq_true z
        have l2 : xs.length = 2 := by have := V.int.inj l; omega
        match xs, l2 with
        | [a, b], _ => exact ⟨a, b, r⟩
      · rw [r.one r2]
        exact decide_eq_true rfl
    · exact k.at s' ⟨fun z => Bool.noConfusion z, fun ⟨a, b, r⟩ => (nr ⟨_, r⟩).elim⟩
theorem scWord : FnScope ["found", "sign"] ["found"] (defScope sWord) := ⟨rfl, rfl, rfl, by decide +kernel, rfl, by decide +kernel, by decide +kernel⟩
/-- letters and digits, sign by sign -/
def wbits (l : List Nat) : List Bool := l.map fun c => decide (c ∈ LT.cps.toList) || decide (c ∈ DG.cps.toList)
theorem wbits_all (l : List Nat) : (wbits l).all id = true ↔ ∀ c ∈ l, Let c ∨ Dig c := by
  unfold wbits
  rw [List.all_map, List.all_eq_true]
  constructor
  · intro h c hc
    have e : (decide (c ∈ LT.cps.toList) || decide (c ∈ DG.cps.toList)) = true := h c hc
    rcases Bool.or_eq_true_iff.mp e with e | e
    · exact .inl ((mem_lt c).mp (of_decide_eq_true e))
    · exact .inr ((mem_dg c).mp (of_decide_eq_true e))
  · intro h c hc
    show (decide (c ∈ LT.cps.toList) || decide (c ∈ DG.cps.toList)) = true
    rcases h c hc with e | e
    · rw [decide_eq_true ((mem_lt c).mpr e), Bool.true_or]
    · rw [decide_eq_true ((mem_dg c).mpr e), Bool.or_true]
theorem ok_word {t1 t2 t3 : Tok} (F : FnP K "is_word" "is_word" sWord [] f fd) (T : Txt K mg) (hL : mg "LETTERS" = some (.str LT t1)) (hD : mg "DIGITS" = some (.str DG t2)) (hM : mg "MOST_NAME_LENGTH" = some (.int 8 t3)) : FnOk P w K mg base CX0 1 f fd ["found"] spWord := by
  refine F.ok scWord (fun vs H Q X z => ?_) (fun cdv A outer s H vs Q X hr z => ?_)
  · obtain ⟨z, rfl, _⟩ := z
    rfl
  · obtain ⟨z, rfl, hz, k⟩ := z
    refine ⟨_, PSs.nox (pss_cons (ps_if (pt_not (pt_chain op_le op_le pe_int (pe_callB call_len_str (by rfl) T.len PySem.boot_len (pa_cons (pv 0) pa_nil)) (pe_glob (v := .int 8) (by rfl) hM ⟨t3, rfl⟩))) (pss_one (ps_ret pe_bl)) pss_nil)
      (pss_one (ps_ret (pe_and (pe_cmpR (r := rInS) op_inS (pe_ix ix_str (pv 0) pe_int (fun _ _ => rfl)) (pe_glob (v := .str LT) (by rfl) hL ⟨t1, rfl⟩) (by rfl)) (pe_one (pe_callB (cr_all rfl) (by rfl) T.all (by decide +kernel) (pa_cons
          (pe_lc (own := [("sign", 1)]) (g := gName 1) (tt := tYes) (by rfl) scWord.nd (pi_str (pv 0)) (blkOk_by (own := [("sign", 1)]) (N := ["found", "sign"]) (sc := defScope sWord) (by decide +kernel)) (fun _ _ _ _ _ => pg_name (i := 1) scWord.nd rfl (Or.inl rfl)) (fun _ _ _ _ _ => pts_nil)
            (fun _ _ _ _ _ => pe_or (pe_cmpR (r := rInS) op_inS (pv 1) (pe_glob (v := .str LT) (by rfl) hL ⟨t1, rfl⟩) (by rfl)) (pe_one (pe_cmpR (r := rInS) op_inS (pv 1) (pe_glob (v := .str DG) (by rfl) hD ⟨t2, rfl⟩) (by rfl))))) pa_nil))))))), ?_⟩
    have hz' : z.length ≤ 1000 := Nat.le_trans hz (by decide)
    refine ⟨_, rfl, z, rfl, big1000 hz', _, _, rfl, rfl, _, rfl, ?_⟩
    have lz : z.length = (tl z).length := len_tl z
    by_cases c1 : (1 : Int) ≤ (z.length : Int)
    · refine itT (decide_eq_true c1) ⟨_, _, rfl, rfl, _, rfl, ?_⟩
      by_cases c2 : (z.length : Int) ≤ 8
      · refine itF (by rw [decide_eq_true c2]; rfl) ?_
        obtain ⟨c, r, er⟩ : ∃ c r, tl z = c :: r := by
          cases e : tl z with
          | nil => rw [e] at lz; simp at lz; omega
          | cons c r => exact ⟨c, r, rfl⟩
        refine ⟨_, rfl, z, _, c, rfl, rfl, big1000 hz', by rw [show z.cps.toList = c :: r from er]; exact atI_nat (j := 0) rfl, c, LT, rfl, rfl, _, rfl, ?_⟩
        by_cases c3 : c ∈ LT.cps.toList
        · refine itT (decide_eq_true c3) ?_
          refine ⟨_, rfl, z, rfl, fun D nD => lc_it walk_str (fun i H' => Same H H' ∧ H' D = some (.lst (((wbits (tl z)).take i).map V.bl))) ⟨new nD, upd_same⟩ (fun _ _ _ _ => trivial) ?_ ?_⟩
          · rintro i x H5 H6 hi ⟨s5, hD5⟩ ⟨rfl, c, hc, rfl⟩
            refine ⟨rfl, ?_⟩
            unfold tYes
            refine iteT ?_
            have go : ∀ b : Bool, b = (decide (c ∈ LT.cps.toList) || decide (c ∈ DG.cps.toList)) → ∃ acc, H6 D = some (.lst acc) ∧ acc.length < sizeLine ∧ Same H (upd H6 D (.lst (acc ++ [V.bl b]))) ∧ (upd H6 D (.lst (acc ++ [V.bl b]))) D = some (.lst (((wbits (tl z)).take (i + 1)).map V.bl)) := fun b hb => by
              refine ⟨_, hD5, ?_, fun b o e => ?_, ?_⟩
              · rw [List.length_map, List.length_take]
                exact Nat.lt_of_lt_of_le (show min i _ < 1001 by have : z.cps.size ≤ 1000 := hz'; omega) (show 1001 ≤ sizeLine by decide)
              · rw [upd_ne (ne_of_none e nD)]
                exact s5 _ _ e
              · rw [upd_same, List.take_add_one, List.map_append]
                have e : (wbits (tl z))[i]? = some b := by
                  unfold wbits
                  rw [List.getElem?_map, get_tl hc, hb]
                  rfl
                rw [e]
                rfl
            refine ⟨_, rfl, c, LT, rfl, rfl, _, rfl, ?_⟩
            by_cases d1 : c ∈ LT.cps.toList
            · refine itT (decide_eq_true d1) ?_
              exact go _ (by rw [decide_eq_true d1, Bool.true_or])
            · refine itF (decide_eq_false d1) ?_
              exact ⟨_, rfl, c, DG, rfl, rfl, go _ (by rw [decide_eq_false d1, Bool.false_or])⟩
          · rintro H5 ⟨s5, hD5⟩
            have e5 : H5 D = some (.lst ((wbits (tl z)).map V.bl)) := by
              rw [hD5, List.take_of_length_le]
              unfold wbits
              rw [List.length_map]
              exact Nat.le_of_eq rfl
            refine ⟨D, _, rfl, SqL.of e5, k.at s5 ⟨fun y => ⟨by omega, by omega, fun d hd => ?_, (wbits_all _).mp y⟩, fun y => (wbits_all _).mpr y.al⟩⟩
            rw [er] at hd
            cases hd
            exact (mem_lt c).mp c3
        · refine itF (decide_eq_false c3) ?_
          exact k.here ⟨fun y => Bool.noConfusion y, fun y => absurd ((mem_lt c).mpr (y.hd c (by rw [er]; rfl))) c3⟩
      · refine itT (by rw [decide_eq_false c2]; rfl) ?_
        exact k.here ⟨fun y => Bool.noConfusion y, fun y => by have := y.hi; omega⟩
    · refine itF (decide_eq_false c1) ⟨_, rfl, itT rfl ?_⟩
      exact k.here ⟨fun y => Bool.noConfusion y, fun y => by have := y.lo; omega⟩
theorem scName : FnScope ["found"] ["found"] (defScope sName) := ⟨rfl, rfl, rfl, by decide +kernel, rfl, by decide +kernel, by decide +kernel⟩
/-- x in ("sum", "each") -/
theorem in_reserved (z : Str) : inV (.str z) [.str "sum", .str "each"] = true ↔ z = "sum" ∨ z = "each" := by
  have e : inV (.str z) [.str "sum", .str "each"] = ((("sum" : Str) == z) || ((("each" : Str) == z) || false)) := rfl
  rw [e, Bool.or_false, Bool.or_eq_true_iff, beq_iff_eq, beq_iff_eq]
  constructor
  · rintro (h | h)
    · exact .inl h.symm
    · exact .inr h.symm
  · rintro (h | h)
    · exact .inl h.symm
    · exact .inr h.symm
theorem ok_name {R : Addr} (F : FnP K "is_name" "is_name" sName [] f fd) (T : Txt K mg) (hR : mg "RESERVED" = some (.ref R)) (sR : ∀ H, SqT K H R [.str "sum", .str "each"]) (GW : GloOk P w K mg base CX0 1 "is_word" ["found"] spWord) : FnOk P w K mg base CX0 2 f fd ["found"] spName := by
  obtain ⟨fW, fdW, GW, mW, kW, bW⟩ := GW
  refine F.ok scName (fun vs H Q X z => ?_) (fun cdv A outer s H vs Q X hr z => ?_)
  · obtain ⟨x, rfl, _⟩ := z
    rfl
  · obtain ⟨x, rfl, kn, k⟩ := z
    refine ⟨_, PSs.nox (pss_one (ps_ret (pe_and (pe_callB call_isi (by rfl) T.isinst (by decide +kernel) (pa_cons (pv 0) (pa_cons (pe_bltn (v := .ty "str") (by rfl) T.str (by decide +kernel) rfl) pa_nil)))
      (pe_and (pe_call GW hr rfl mW kW bW .nil pass0 (pa_cons (pv 0) pa_nil)) (pe_one (pe_cmpR op_notIn_seq (pv 0) (pe_glob (v := .ref R) (by rfl) hR rfl) (by rfl))))))), ?_⟩
    rcases kn with ⟨xs, r, _⟩ | ⟨n, sh⟩
    · obtain ⟨t, ht, ty⟩ := r.ty (K := K)
      refine ⟨_, rfl, x, .ty "str", .type t, _, false, rfl, .ty _, ty, by rcases ht with rfl | rfl <;> exact kit_ty (by decide +kernel), false, rfl, iteF (k.here ⟨fun y => Bool.noConfusion y, ?_⟩)⟩
      rintro ⟨z, rfl, _⟩
      obtain ⟨p, e, _⟩ := r
      cases e
    · obtain ⟨t, ht, ty, iff⟩ := n.ty (K := K)
      by_cases st : ∃ z, x = .str z
      · obtain ⟨z, rfl⟩ := st
        refine ⟨_, rfl, _, .ty "str", .type "str", _, true, rfl, .ty _, .base (.str z), kit_ty (by decide +kernel), true, rfl, iteT ?_⟩
        refine ⟨_, rfl, z, rfl, sh z rfl, fun H' s' => ⟨fun y => ⟨_, rfl, iteT ?_⟩, fun y => ⟨_, rfl, iteF ?_⟩⟩⟩
        · refine ⟨_, rfl, R, _, rfl, .inr (sR H'), rfl, rfl, ?_⟩
          refine k.at s' ⟨fun u => ⟨z, rfl, y, ?_⟩, ?_⟩
          · have u' : (!inV (.str z) [.str "sum", .str "each"]) = true := u
            have nu : ¬ (z = "sum" ∨ z = "each") := fun q => by
              rw [(in_reserved z).mpr q] at u'
              cases u'
            exact ⟨fun q => nu (.inl q), fun q => nu (.inr q)⟩
          · rintro ⟨z', e, _, n1, n2⟩
            cases e
            show (!inV (.str z) [.str "sum", .str "each"]) = true
            cases q : inV (.str z) [.str "sum", .str "each"] with
            | false => rfl
            | true =>
              rcases (in_reserved z).mp q with q | q
              · exact absurd q n1
              · exact absurd q n2
        · refine k.at s' ⟨fun u => Bool.noConfusion u, ?_⟩
          rintro ⟨z', e, hw, _⟩
          cases e
          exact absurd hw y
      · refine ⟨_, rfl, x, .ty "str", .type t, _, false, rfl, .ty _, ty, ?_, false, rfl, iteF (k.here ⟨fun y => Bool.noConfusion y, fun ⟨z, e, _⟩ => (st ⟨z, e⟩).elim⟩)⟩
        rcases ht with rfl | rfl | rfl | rfl | rfl
        · exact kit_ty (by decide +kernel)
        · exact kit_ty (by decide +kernel)
        · exact kit_ty (by decide +kernel)
        · exact (st (iff.mp rfl)).elim
        · exact kit_ty (by decide +kernel)
end
end KG

set_option Elab.async false
set_option linter.all false
set_option maxRecDepth 100000
set_option maxHeartbeats 4000000
namespace KG
open PySem L2 TL
abbrev sAxes : Stmt := top 28
abbrev sMem : Stmt := top 29
def Pairs (H : Hp) (v : V) : Prop := ∃ xs, Row H v xs ∧ 1 ≤ xs.length ∧ xs.length ≤ 3 ∧ ∀ x ∈ xs, ∃ a b, Row H x [a, b]
def Mem (H : Hp) (v : V) : Prop := ∃ xs, Row H v xs ∧ xs ≠ [] ∧ (∀ x ∈ xs, IsName x) ∧ xs.Nodup ∧ xs.length ≤ 4
def spAxes : Sp := fun vs H Q _ => ∃ x, vs = [x] ∧ Kn 1 H x ∧ Ans (Pairs H x) H Q
def spMem : Sp := fun vs H Q _ => ∃ x, vs = [x] ∧ Kn 1 H x ∧ Ans (Mem H x) H Q
theorem Kn.of_row {n : Nat} {H : Hp} {v : V} {xs : List V} (h : Kn (n + 1) H v) (r : Row H v xs) : xs.length ≤ 100 ∧ ∀ x ∈ xs, Kn n H x := by
  rcases h with ⟨ys, r2, l, kx⟩ | ⟨n, _⟩
  · obtain rfl := r.one r2
    exact ⟨l, kx⟩
  · exact (r.no n).elim
section
variable {P : Program} {w : World} {K : PySem.W.Frag} {mg : Str → Option Value} {base : Heap} {C E B f g h : Addr} {fd gd hd : FuncData}
theorem scNames : FnScope ["found", "name"] ["found"] (defScope sNames) := ⟨rfl, rfl, rfl, by decide +kernel, rfl, by decide +kernel, by decide +kernel⟩
theorem ok_names (F : FnP K "are_names" "are_names" sNames [] f fd) (T : Txt K mg) (GS : GloOk P w K mg base CX0 1 "is_sequence" ["found"] spSeq) (GN : GloOk P w K mg base CX0 2 "is_name" ["found"] spName) : FnOk P w K mg base CX0 3 f fd ["found"] spNames := by
  obtain ⟨fS, fdS, GS, mS, kS, bS⟩ := GS
  obtain ⟨fN, fdN, GN, mN, kN, bN⟩ := GN
  refine F.ok scNames (fun vs H Q X z => ?_) (fun cdv A outer s H vs Q X hr z => ?_)
  · obtain ⟨x, rfl, _⟩ := z
    rfl
  · obtain ⟨x, rfl, kn, k⟩ := z
    have hr1 : Room 1 _ := hr.mono (by decide)
    refine ⟨_, PSs.nox (pss_one (ps_ret (pe_and (pe_call GS hr1 rfl mS kS bS .nil pass0 (pa_cons (pv 0) pa_nil)) (pe_and (pe_cmpR op_gt (pe_callB call_len_seq (by rfl) T.len PySem.boot_len (pa_cons (pv 0) pa_nil)) pe_int (nomark _))
      (pe_one (pe_callB (cr_all rfl) (by rfl) T.all (by decide +kernel) (pa_cons
        (pe_lc (own := [("name", 1)]) (g := gName 1) (tt := tYes) (by rfl) scNames.nd (pi_row (pv 0)) (blkOk_by (own := [("name", 1)]) (N := ["found", "name"]) (sc := defScope sNames) (by decide +kernel)) (fun _ _ _ _ _ => pg_name (i := 1) scNames.nd rfl (Or.inl rfl)) (fun _ _ _ _ _ => pts_nil)
          (fun _ _ _ _ _ => pe_call GN hr rfl mN kN bN .nil pass0 (pa_cons (pv 1) pa_nil))) pa_nil))))))), ?_⟩
    refine ⟨_, rfl, x, rfl, kn.less, fun H1 s1 => ⟨fun ⟨xs, r⟩ => ⟨_, rfl, iteT ?_⟩, fun nr => ⟨_, rfl, iteF ?_⟩⟩⟩
    · obtain ⟨l, kx⟩ := kn.of_row r
      have r1 := r.same s1
      obtain ⟨p, rfl, hq⟩ := r1.seq (K := K)
      refine ⟨_, rfl, p, xs, rfl, hq, _, _, rfl, rfl, _, rfl, ?_⟩
      by_cases c : (0 : Int) < (xs.length : Int)
      · refine itT (decide_eq_true c) ?_
        refine cb_one (tLc_row rfl r1 fun J wk D nD => lc_bits (p := IsName) wk nD (by omega) (fun _ => by rfl) (fun v hv H2 Q2 s2 a => ?_) fun H2 s2 e2 => ?_)
        · exact ⟨_, rfl, v, rfl, (kx v hv).same (s1.trans s2), a⟩
        · refine ⟨D, _, rfl, SqL.of e2, k.at (s1.trans s2) ⟨fun y => ⟨xs, r, fun z => by rw [z] at c; simp at c, (bits_all _ _).mp y⟩, ?_⟩⟩
          rintro ⟨ys, r3, _, al⟩
          obtain rfl := r.one r3
          exact (bits_all _ _).mpr al
      · refine itF (decide_eq_false c) ?_
        refine k.at s1 ⟨fun y => Bool.noConfusion y, ?_⟩
        rintro ⟨ys, r3, ne, _⟩
        obtain rfl := r.one r3
        have := List.length_pos_iff.mpr ne
        omega
    · refine k.at s1 ⟨fun y => Bool.noConfusion y, ?_⟩
      rintro ⟨ys, r3, _, _⟩
      exact (nr ⟨_, r3⟩).elim
theorem scUnlike : FnScope ["found"] ["found"] (defScope sUnlike) := ⟨rfl, rfl, rfl, by decide +kernel, rfl, by decide +kernel, by decide +kernel⟩
theorem ok_unlike (F : FnP K "are_unlike_names" "are_unlike_names" sUnlike [] f fd) (T : Txt K mg) (GN : GloOk P w K mg base CX0 3 "are_names" ["found"] spNames) : FnOk P w K mg base CX0 4 f fd ["found"] spUnlike := by
  obtain ⟨fN, fdN, GN, mN, kN, bN⟩ := GN
  refine F.ok scUnlike (fun vs H Q X z => ?_) (fun cdv A outer s H vs Q X hr z => ?_)
  · obtain ⟨x, rfl, _⟩ := z
    rfl
  · obtain ⟨x, rfl, kn, k⟩ := z
    refine ⟨_, PSs.nox (pss_one (ps_ret (pe_and (pe_call GN hr rfl mN kN bN .nil pass0 (pa_cons (pv 0) pa_nil)) (pe_one (pe_cmpR op_eq (pe_lenTx (by rfl) (by rfl) T.len (by rfl) T.set (pv 0)) (pe_callB call_len_seq (by rfl) T.len PySem.boot_len (pa_cons (pv 0) pa_nil)) (nomark _)))))), ?_⟩
    refine ⟨_, rfl, x, rfl, kn, fun H1 s1 => ⟨fun ⟨xs, r, ne, al⟩ => ⟨_, rfl, iteT ?_⟩, fun nr => ⟨_, rfl, iteF ?_⟩⟩⟩
    · obtain ⟨l, kx⟩ := kn.of_row r
      have r1 := r.same s1
      obtain ⟨p, rfl, hq⟩ := r1.seq (K := K)
      obtain ⟨zs, rfl, hz⟩ := names_strs al
      have lz : zs.length ≤ 100 := by rw [List.length_map] at l; exact l
      refine ⟨_, rfl, p, zs, rfl, hq, lz, _, rfl, p, _, rfl, hq, rfl, ?_⟩
      refine k.at s1 ⟨fun y => ⟨_, r, ne, al, (nodup_strs zs).mpr ((TxS.met_nodup zs).2.mp ?_)⟩, ?_⟩
      · have e := V.int.inj (of_decide_eq_true y)
        rw [List.length_map] at e
        omega
      · rintro ⟨ys, r3, _, _, nd⟩
        obtain rfl := r.one r3
        refine decide_eq_true (congrArg V.int ?_)
        rw [(TxS.met_nodup zs).2.mpr ((nodup_strs zs).mp nd), List.length_map]
    · refine k.at s1 ⟨fun y => Bool.noConfusion y, ?_⟩
      rintro ⟨ys, r3, ne, al, _⟩
      exact (nr ⟨_, r3, ne, al⟩).elim
theorem scAxes : FnScope ["axes", "axis"] ["axes"] (defScope sAxes) := ⟨rfl, rfl, rfl, by decide +kernel, rfl, by decide +kernel, by decide +kernel⟩
theorem ok_axes {t1 : Tok} (F : FnP K "are_pairs_of_axes" "are_pairs_of_axes" sAxes [] f fd) (T : Txt K mg) (hM : mg "MOST_AXES" = some (.int 3 t1)) (GS : GloOk P w K mg base CX0 1 "is_sequence" ["found"] spSeq) (GP : GloOk P w K mg base CX0 2 "is_pair" ["found"] spPair) : FnOk P w K mg base CX0 3 f fd ["axes"] spAxes := by
  obtain ⟨fS, fdS, GS, mS, kS, bS⟩ := GS
  obtain ⟨fP, fdP, GP, mP, kP, bP⟩ := GP
  refine F.ok scAxes (fun vs H Q X z => ?_) (fun cdv A outer s H vs Q X hr z => ?_)
  · obtain ⟨x, rfl, _⟩ := z
    rfl
  · obtain ⟨x, rfl, kn, k⟩ := z
    have hr1 : Room 1 _ := hr.mono (by decide)
    refine ⟨_, PSs.nox (pss_one (ps_ret (pe_and (pe_call GS hr1 rfl mS kS bS .nil pass0 (pa_cons (pv 0) pa_nil)) (pe_and (pe_chain op_le op_le pe_int (pe_callB call_len_seq (by rfl) T.len PySem.boot_len (pa_cons (pv 0) pa_nil)) (pe_glob (v := .int 3) (by rfl) hM ⟨t1, rfl⟩))
      (pe_one (pe_callB (cr_all rfl) (by rfl) T.all (by decide +kernel) (pa_cons
        (pe_lc (own := [("axis", 1)]) (g := gName 1) (tt := tYes) (by rfl) scAxes.nd (pi_row (pv 0)) (blkOk_by (own := [("axis", 1)]) (N := ["axes", "axis"]) (sc := defScope sAxes) (by decide +kernel)) (fun _ _ _ _ _ => pg_name (i := 1) scAxes.nd rfl (Or.inl rfl)) (fun _ _ _ _ _ => pts_nil)
          (fun _ _ _ _ _ => pe_call GP hr rfl mP kP bP .nil pass0 (pa_cons (pv 1) pa_nil))) pa_nil))))))), ?_⟩
    refine ⟨_, rfl, x, rfl, kn.less, fun H1 s1 => ⟨fun ⟨xs, r⟩ => ⟨_, rfl, iteT ?_⟩, fun nr => ⟨_, rfl, iteF ?_⟩⟩⟩
    · obtain ⟨l, kx⟩ := kn.of_row r
      have r1 := r.same s1
      obtain ⟨p, rfl, hq⟩ := r1.seq (K := K)
      refine ⟨_, rfl, p, xs, rfl, hq, _, _, rfl, rfl, _, rfl, ?_⟩
      by_cases c1 : (1 : Int) ≤ (xs.length : Int)
      · refine itT (decide_eq_true c1) ⟨_, _, rfl, rfl, _, rfl, ?_⟩
        by_cases c2 : (xs.length : Int) ≤ 3
        · refine itT (decide_eq_true c2) ?_
          refine cb_one (tLc_row rfl r1 fun J wk D nD => lc_bits (p := fun v => ∃ a b, Row H v [a, b]) wk nD (by omega) (fun _ => by rfl) (fun v hv H2 Q2 s2 a => ?_) fun H2 s2 e2 => ?_)
          · refine ⟨_, rfl, v, rfl, (kx v hv).same (s1.trans s2), fun H3 s3 => ⟨fun ⟨a1, b1, r2⟩ => (a H3 s3).1 ?_, fun nr => (a H3 s3).2 fun ⟨a1, b1, r2⟩ => nr ⟨a1, b1, r2.same (s1.trans s2)⟩⟩⟩
            rcases (kx v hv).row with ⟨ys, r3, _⟩ | ⟨n, _⟩
            · obtain rfl := (r3.same (s1.trans s2)).one r2
              exact ⟨a1, b1, r3⟩
            · exact (r2.no (n.same (s1.trans s2))).elim
          · refine ⟨D, _, rfl, SqL.of e2, k.at (s1.trans s2) ⟨fun y => ⟨xs, r, by omega, by omega, (bits_all _ _).mp y⟩, ?_⟩⟩
            rintro ⟨ys, r3, _, _, al⟩
            obtain rfl := r.one r3
            exact (bits_all _ _).mpr al
        · refine itF (decide_eq_false c2) (k.at s1 ⟨fun y => Bool.noConfusion y, ?_⟩)
          rintro ⟨ys, r3, _, h3, _⟩
          obtain rfl := r.one r3
          omega
      · refine itF (decide_eq_false c1) ⟨_, rfl, iteF (k.at s1 ⟨fun y => Bool.noConfusion y, ?_⟩)⟩
        rintro ⟨ys, r3, h3, _⟩
        obtain rfl := r.one r3
        omega
    · refine k.at s1 ⟨fun y => Bool.noConfusion y, ?_⟩
      rintro ⟨ys, r3, _, _⟩
      exact (nr ⟨_, r3⟩).elim
theorem scMem : FnScope ["found"] ["found"] (defScope sMem) := ⟨rfl, rfl, rfl, by decide +kernel, rfl, by decide +kernel, by decide +kernel⟩
theorem ok_mem {t1 : Tok} (F : FnP K "are_members" "are_members" sMem [] f fd) (T : Txt K mg) (hM : mg "MOST_MEMBERS" = some (.int 4 t1)) (GU : GloOk P w K mg base CX0 4 "are_unlike_names" ["found"] spUnlike) : FnOk P w K mg base CX0 5 f fd ["found"] spMem := by
  obtain ⟨fU, fdU, GU, mU, kU, bU⟩ := GU
  refine F.ok scMem (fun vs H Q X z => ?_) (fun cdv A outer s H vs Q X hr z => ?_)
  · obtain ⟨x, rfl, _⟩ := z
    rfl
  · obtain ⟨x, rfl, kn, k⟩ := z
    refine ⟨_, PSs.nox (pss_one (ps_ret (pe_and (pe_call GU hr rfl mU kU bU .nil pass0 (pa_cons (pv 0) pa_nil)) (pe_one (pe_cmpR op_le (pe_callB call_len_seq (by rfl) T.len PySem.boot_len (pa_cons (pv 0) pa_nil)) (pe_glob (v := .int 4) (by rfl) hM ⟨t1, rfl⟩) (nomark _)))))), ?_⟩
    refine ⟨_, rfl, x, rfl, kn, fun H1 s1 => ⟨fun ⟨xs, r, ne, al, nd⟩ => ⟨_, rfl, iteT ?_⟩, fun nr => ⟨_, rfl, iteF ?_⟩⟩⟩
    · obtain ⟨p, rfl, hq⟩ := (r.same s1).seq (K := K)
      refine ⟨_, rfl, p, xs, rfl, hq, _, _, rfl, rfl, ?_⟩
      refine k.at s1 ⟨fun y => ⟨xs, r, ne, al, nd, by have := of_decide_eq_true y; omega⟩, ?_⟩
      rintro ⟨ys, r3, _, _, _, h4⟩
      obtain rfl := r.one r3
      exact decide_eq_true (by omega)
    · refine k.at s1 ⟨fun y => Bool.noConfusion y, ?_⟩
      rintro ⟨ys, r3, ne, al, nd, _⟩
      exact (nr ⟨_, r3, ne, al, nd⟩).elim
end
end KG

set_option Elab.async false
set_option linter.all false
set_option maxRecDepth 100000
set_option maxHeartbeats 4000000
namespace KG
open PySem L2 TL
abbrev sCells : Stmt := top 30
/-- [e for x in list for y in tuple], both in names -/
theorem lc2_names {K : PySem.W.Frag} {σ : St} {H : Hp} {Q : VK} {ci mi a b : Nat} {l mp : Addr} {cs ms : List V} {te : TE} {vs vs1 : List Nat} (hi : σ[ci]? = some (some (.ref l))) (hm : ∀ x : V, ((wipe σ vs).set a (some x))[mi]? = some (some (.ref mp))) (hl : H l = some (.lst cs)) (hmp : H mp = some (.tup ms))
    (hw : ∀ x : V, wipe ((wipe σ vs).set a (some x)) vs = wipe σ vs) (hw1 : ∀ x y : V, wipe ((wipe ((wipe σ vs).set a (some x)) vs1).set b (some y)) vs1 = wipe ((wipe σ vs).set a (some x)) vs1)
    (Pv : Addr → Nat → Nat → Hp → Prop) (hk : ∀ D j i H', Pv D j i H' → Same H H') (h0 : ∀ D, H D = none → Pv D 0 0 (upd H D (.lst []))) (hn : ∀ D j H', Pv D j ms.length H' → Pv D (j + 1) 0 H')
    (elem : ∀ D j i x y, H D = none → cs[j]? = some x → ms[i]? = some y → ∀ H', Pv D j i H' → te ((wipe ((wipe σ vs).set a (some x)) vs1).set b (some y)) H' fun z H7 => ∃ acc, H7 D = some (.lst acc) ∧ acc.length < sizeLine ∧ Pv D j (i + 1) (upd H7 D (.lst (acc ++ [z]))))
    (hd : ∀ D H', H D = none → Pv D cs.length 0 H' → Q (.ref D) H') : tLc2 (iList K (tVar ci)) (gName a) tYes (iTup K (tVar mi)) (gName b) tYes te vs vs1 σ H Q := by
  refine ⟨_, hi, l, rfl, ⟨cs, SqL.of hl⟩, fun D nD => ⟨fun j m H' => m = cs.length - j ∧ j ≤ cs.length ∧ Pv D j 0 H', ⟨_, rfl, Nat.zero_le _, h0 D nD⟩, ?_⟩⟩
  rintro j m H' ⟨rfl, hj, pv⟩
  have wk : Walk (Itl K l) cs.length (fun H' => Same H H') (YAt cs) := walk_list.mono (fun H' s => SqL.of (s _ _ hl)) fun _ _ _ _ _ _ y => y
  by_cases lt : j < cs.length
  · refine .inr ⟨wk.goes j H' lt (hk D j 0 H' pv), Pv D (j + 1) 0, fun H2 p2 => ⟨_, by omega, rfl, lt, p2⟩, fun x H2 y => ?_⟩
    obtain ⟨rfl, hx⟩ := wk.yields j H' x H2 lt (hk D j 0 H' pv) y
    refine ⟨hw x, ?_⟩
    unfold tYes
    refine iteT ?_
    refine ⟨_, hm x, mp, rfl, ⟨ms, SqT.of (hk D j 0 _ pv _ _ hmp)⟩, fun i m H' => m = ms.length - i ∧ i ≤ ms.length ∧ Pv D j i H', ⟨_, rfl, Nat.zero_le _, pv⟩, ?_⟩
    rintro i m H3 ⟨rfl, hi', pw⟩
    have wk1 : Walk (Itt K mp) ms.length (fun H' => Same H H') (YAt ms) := walk_tup.mono (fun H' s => SqT.of (s _ _ hmp)) fun _ _ _ _ _ _ y => y
    by_cases lt1 : i < ms.length
    · refine .inr ⟨wk1.goes i H3 lt1 (hk D j i H3 pw), Pv D j (i + 1), fun H4 p4 => ⟨_, by omega, rfl, lt1, p4⟩, fun y1 H4 y2 => ?_⟩
      obtain ⟨rfl, hy⟩ := wk1.yields i H3 y1 H4 lt1 (hk D j i H3 pw) y2
      refine ⟨hw1 x y1, ?_⟩
      exact iteT (elem D j i x y1 nD hx hy _ pw)
    · have e : i = ms.length := by omega
      subst e
      exact .inl ⟨wk1.stops H3 (hk D j _ H3 pw), hn D j H3 pw⟩
  · have e : j = cs.length := by omega
    subst e
    exact .inl ⟨wk.stops H' (hk D _ 0 H' pv), hd D H' nD pv⟩
/-! ### axes and cells in the heap -/
abbrev Ax := Str × List Str
def StrsT (H : Hp) (v : V) (zs : List Str) : Prop := ∃ m, v = .ref m ∧ H m = some (.tup (zs.map V.str))
def AxAt (H : Hp) (v : V) (a : Ax) : Prop := ∃ q m, v = .ref q ∧ H q = some (.tup [.str a.1, .ref m]) ∧ H m = some (.tup (a.2.map V.str))
/-- things and what each is -/
def All2 {α : Type} (R : V → α → Prop) (vs : List V) (as : List α) : Prop := vs.length = as.length ∧ ∀ (i : Nat) (v : V) (a : α), vs[i]? = some v → as[i]? = some a → R v a
def AxesAt (H : Hp) (v : V) (as : List Ax) : Prop := ∃ p vs, v = .ref p ∧ H p = some (.tup vs) ∧ All2 (AxAt H) vs as
def CellsAt (H : Hp) (v : V) (cs : List (List Str)) : Prop := ∃ p vs, v = .ref p ∧ H p = some (.tup vs) ∧ All2 (StrsT H) vs cs
theorem All2.imp {α : Type} {R S : V → α → Prop} {vs : List V} {as : List α} (h : All2 R vs as) (k : ∀ v a, R v a → S v a) : All2 S vs as := ⟨h.1, fun i v a h1 h2 => k v a (h.2 i v a h1 h2)⟩
theorem All2.snoc {α : Type} {R : V → α → Prop} {vs : List V} {as : List α} {v : V} {a : α} (h : All2 R vs as) (k : R v a) : All2 R (vs ++ [v]) (as ++ [a]) := by
  refine ⟨by rw [List.length_append, List.length_append, h.1]; rfl, fun i x y h1 h2 => ?_⟩
  by_cases lt : i < vs.length
  · rw [List.getElem?_append_left lt] at h1
    rw [List.getElem?_append_left (by rw [← h.1]; exact lt)] at h2
    exact h.2 i x y h1 h2
  · rw [List.getElem?_append_right (by omega)] at h1
    rw [List.getElem?_append_right (by rw [← h.1]; omega), ← h.1] at h2
    cases e : i - vs.length with
    | zero =>
      rw [e] at h1 h2
      cases h1
      cases h2
      exact k
    | succ n =>
      rw [e] at h1
      cases h1
theorem All2.nil {α : Type} {R : V → α → Prop} : All2 R [] ([] : List α) := ⟨rfl, fun i v a h => by simp at h⟩
theorem StrsT.same {H H' : Hp} {v : V} {zs : List Str} (h : StrsT H v zs) (s : Same H H') : StrsT H' v zs := let ⟨m, e, h⟩ := h; ⟨m, e, s _ _ h⟩
theorem AxAt.same {H H' : Hp} {v : V} {a : Ax} (h : AxAt H v a) (s : Same H H') : AxAt H' v a := let ⟨q, m, e, h1, h2⟩ := h; ⟨q, m, e, s _ _ h1, s _ _ h2⟩
theorem AxesAt.same {H H' : Hp} {v : V} {as : List Ax} (h : AxesAt H v as) (s : Same H H') : AxesAt H' v as := let ⟨p, vs, e, h1, h2⟩ := h; ⟨p, vs, e, s _ _ h1, h2.imp fun _ _ x => x.same s⟩
theorem CellsAt.same {H H' : Hp} {v : V} {cs : List (List Str)} (h : CellsAt H v cs) (s : Same H H') : CellsAt H' v cs := let ⟨p, vs, e, h1, h2⟩ := h; ⟨p, vs, e, s _ _ h1, h2.imp fun _ _ x => x.same s⟩
/-- cells, one axis longer -/
def longer (cs : List (List Str)) (ms : List Str) : List (List Str) := cs.flatMap fun c => ms.map fun m => c ++ [m]
def cellsL (as : List Ax) : List (List Str) := as.foldl (fun cs a => longer cs a.2) [[]]
theorem cellsL_snoc (as : List Ax) (a : Ax) : cellsL (as ++ [a]) = longer (cellsL as) a.2 := by
  unfold cellsL
  rw [List.foldl_append]
  rfl
theorem longer_len (cs : List (List Str)) (ms : List Str) : (longer cs ms).length = cs.length * ms.length := by
  unfold longer
  rw [List.length_flatMap]
  induction cs with
  | nil => simp
  | cons c r ih => rw [List.map_cons, List.sum_cons, ih, List.length_map, List.length_cons, Nat.add_mul, Nat.one_mul, Nat.add_comm]
/-- what stands after j whole cells and i members more -/
def upTo (cs : List (List Str)) (ms : List Str) (j i : Nat) : List (List Str) := longer (cs.take j) ms ++ (match cs[j]? with | some c => (ms.take i).map fun m => c ++ [m] | none => [])
theorem upTo_start (cs : List (List Str)) (ms : List Str) (j : Nat) : upTo cs ms j 0 = longer (cs.take j) ms := by
  unfold upTo
  cases cs[j]? with
  | none => exact List.append_nil _
  | some c => exact List.append_nil _
theorem longer_snoc (cs : List (List Str)) (c : List Str) (ms : List Str) : longer (cs ++ [c]) ms = longer cs ms ++ ms.map fun m => c ++ [m] := by
  unfold longer
  rw [List.flatMap_append]
  simp
theorem upTo_end {cs : List (List Str)} {ms : List Str} {j : Nat} {c : List Str} (h : cs[j]? = some c) : upTo cs ms j ms.length = upTo cs ms (j + 1) 0 := by
  rw [upTo_start, List.take_add_one, h]
  show _ = longer (cs.take j ++ [c]) ms
  rw [longer_snoc]
  unfold upTo
  rw [h]
  show _ ++ (ms.take ms.length).map _ = _
  rw [List.take_length]
theorem upTo_step {cs : List (List Str)} {ms : List Str} {j i : Nat} {c : List Str} {m : Str} (h : cs[j]? = some c) (k : ms[i]? = some m) : upTo cs ms j (i + 1) = upTo cs ms j i ++ [c ++ [m]] := by
  unfold upTo
  rw [h]
  show _ ++ (ms.take (i + 1)).map _ = (_ ++ (ms.take i).map _) ++ _
  rw [List.take_add_one, k, List.map_append, List.append_assoc]
  rfl
end KG

set_option Elab.async false
set_option linter.all false
set_option maxRecDepth 100000
set_option maxHeartbeats 4000000
namespace KG
open PySem L2 TL
def Small (as : List Ax) : Prop := as.length ≤ 3 ∧ ∀ a ∈ as, a.2.length ≤ 4
def spCells : Sp := fun vs H Q _ => ∃ v as, vs = [v] ∧ AxesAt H v as ∧ Small as ∧ ∀ v' H', Same H H' → CellsAt H' v' (cellsL as) → Q v' H'
theorem cells_le (as : List Ax) (h : Small as) : ∀ j, j ≤ as.length → (cellsL (as.take j)).length ≤ 4 ^ j
  | 0, _ => Nat.le_refl _
  | j + 1, hj => by
    have ih := cells_le as h j (by omega)
    have e : as.take (j + 1) = as.take j ++ [as[j]'(by omega)] := by
      rw [List.take_add_one, List.getElem?_eq_getElem (by omega)]
      rfl
    rw [e, cellsL_snoc, longer_len, Nat.pow_succ]
    exact Nat.mul_le_mul ih (h.2 _ (List.getElem_mem _))
theorem cell_len : ∀ (as : List Ax) (c : List Str), c ∈ cellsL as → c.length = as.length := by
  have go : ∀ (as : List Ax) (cs : List (List Str)) (n : Nat), (∀ c ∈ cs, c.length = n) → ∀ c ∈ as.foldl (fun cs a => longer cs a.2) cs, c.length = n + as.length := by
    intro as
    induction as with
    | nil => intro cs n h c hc; exact h c hc
    | cons a r ih =>
      intro cs n h c hc
      rw [List.foldl_cons] at hc
      have z := ih (longer cs a.2) (n + 1) (fun d hd => ?_) c hc
      · rw [List.length_cons]
        omega
      · unfold longer at hd
        obtain ⟨e, he, hd⟩ := List.mem_flatMap.mp hd
        obtain ⟨m, _, rfl⟩ := List.mem_map.mp hd
        rw [List.length_append, h e he]
        rfl
  intro as c hc
  have z := go as [[]] 0 (fun d hd => by rw [List.mem_singleton.mp hd]; rfl) c hc
  omega
theorem upTo_len {cs : List (List Str)} {ms : List Str} {j i : Nat} {c : List Str} (h : cs[j]? = some c) (k : i ≤ ms.length) : (upTo cs ms j i).length = j * ms.length + i := by
  have lt := (List.getElem?_eq_some_iff.mp h).1
  unfold upTo
  rw [h]
  show (longer (cs.take j) ms ++ (ms.take i).map _).length = _
  rw [List.length_append, longer_len, List.length_map, List.length_take, List.length_take, Nat.min_eq_left (Nat.le_of_lt lt), Nat.min_eq_left k]
section
variable {P : Program} {w : World} {K : PySem.W.Frag} {mg : Str → Option Value} {base : Heap} {C E B f g h : Addr} {fd gd hd : FuncData}
theorem scCells : FnScope ["axes", "cells", "_", "members", "cell", "member"] ["axes"] (defScope sCells) := ⟨rfl, rfl, rfl, by decide +kernel, rfl, by decide +kernel, by decide +kernel⟩
theorem ok_cells (F : FnP K "cells_of" "cells_of" sCells [] f fd) (T : Txt K mg) : FnOk P w K mg base CX0 1 f fd ["axes"] spCells := by
  refine F.ok scCells (fun vs H Q X z => ?_) (fun cdv A outer s H vs Q X hr z => ?_)
  · obtain ⟨v, as, rfl, _⟩ := z
    rfl
  · obtain ⟨v, as, rfl, ax, sm, k⟩ := z
    refine ⟨_, PSs.nox (pss_cons (ps_set (i := 1) scCells.nd rfl (Or.inl rfl) (pe_lst (pa_cons (pe_tup pa_nil) pa_nil)))
      (pss_cons (ps_for PassesOwn.never rfl (pi_tup (pv 0)) (pg_tup (by rfl) (pgs_cons (pg_name (i := 2) scCells.nd rfl (Or.inl rfl)) (pgs_cons (pg_name (i := 3) scCells.nd rfl (Or.inr rfl)) pgs_nil)))
        (pss_one (ps_setLc2 (i := 1) (own := [("cell", 4), ("member", 5)]) (vs1 := [5]) (g := gName 4) (g1 := gName 5) (tt := tYes) (tt1 := tYes) (by rfl) scCells.nd rfl (by rfl) (by rfl) (pi_list (pv 1))
          (blkOk_by (own := [("cell", 4), ("member", 5)]) (N := ["axes", "cells", "_", "members", "cell", "member"]) (sc := defScope sCells) (by decide +kernel)) (by decide) (fun _ _ _ _ _ => pg_name (i := 4) scCells.nd rfl (Or.inl rfl)) (fun _ _ _ _ _ => pts_nil)
          (fun _ _ _ _ _ => show PI _ _ _ (iTup K (tVar 3)) from pi_tup (pv 3)) (fun _ _ _ _ _ => pg_name (i := 5) scCells.nd rfl (Or.inl rfl)) (fun _ _ _ _ _ => pts_nil)
          (fun _ _ _ _ _ => show PE _ _ (tTup (StX.tStar K (tVar 4) (tCons (tVar 5) tNil))) from pe_tup (StX.pa_star (pv 4) (pa_cons (pv 5) pa_nil))))))
      (pss_one (ps_ret (pe_callTy call_tuple_of (by rfl) T.tuple (by decide +kernel) (pa_cons (pv 1) pa_nil)))))), ?_⟩
    obtain ⟨p, ws, rfl, hp, al⟩ := ax
    refine ⟨(by show 0 ≤ sizeLine; decide), fun q nq => ⟨(by show 1 ≤ sizeLine; decide), fun l nl => ?_⟩⟩
    have s0 : Same H (upd (upd H q (.tup [])) l (.lst [.ref q])) := (new nq).trans (new nl)
    refine ⟨_, rfl, p, rfl, ⟨ws, SqT.of (s0 _ _ hp)⟩, ?_⟩
    refine for_it (walk_tup (xs := ws)) (fun j σ H' => Same H H' ∧ ∃ (l : Addr) (us : List V) (v2 v3 v4 v5 : Option V), σ = [some (.ref p), some (.ref l), v2, v3, v4, v5] ∧ H' l = some (.lst us) ∧ All2 (StrsT H') us (cellsL (as.take j)))
      ⟨s0, l, [.ref q], none, none, none, none, rfl, upd_same, rfl, fun i v c h1 h2 => ?_⟩ (fun _ _ _ _ h => SqT.of (h.1 _ _ hp)) ?_ ?_
    · cases i with
      | zero =>
        cases h1
        cases h2
        exact ⟨q, rfl, by rw [upd_ne (ne_of_none upd_same nl)]; exact upd_same⟩
      | succ i => simp at h1
    · rintro j x σ H1 H1' hj ⟨s1, l, us, v2, v3, v4, v5, rfl, hl, cs⟩ ⟨rfl, hx⟩
      have hja : j < as.length := by rw [← al.1]; exact hj
      obtain ⟨a, ha⟩ : ∃ a, as[j]? = some a := ⟨_, List.getElem?_eq_getElem hja⟩
      obtain ⟨q, mp, rfl, hq, hm⟩ := (al.2 j x a hx ha).same s1
      have nx : as.take (j + 1) = as.take j ++ [a] := by
        rw [List.take_add_one, ha]
        rfl
      have len1 := cells_le as sm (j + 1) (by omega)
      rw [nx, cellsL_snoc] at len1 ⊢
      have p4 : 4 ^ (j + 1) ≤ 4 ^ 3 := Nat.pow_le_pow_right (by decide) (by have := sm.1; omega)
      refine ⟨q, _, rfl, SqT.of hq, rfl, _, _, rfl, _, _, rfl, rfl, ?_⟩
      refine lc2_names (l := l) (mp := mp) (cs := us) (ms := a.2.map V.str) rfl (fun _ => rfl) hl hm (fun _ => rfl) (fun _ _ => rfl)
        (fun D j' i' H' => Same H1' H' ∧ ∃ ys, H' D = some (.lst ys) ∧ All2 (StrsT H') ys (upTo (cellsL (as.take j)) a.2 j' i')) (fun _ _ _ _ h => h.1) (fun D nD => ⟨new nD, [], upd_same, ?_⟩) ?_ ?_ ?_
      · rw [upTo_start]
        exact All2.nil
      · rintro D j' H' ⟨s2, ys, e, h⟩
        refine ⟨s2, ys, e, ?_⟩
        rw [List.length_map] at h
        cases hc : (cellsL (as.take j))[j']? with
        | some c => rw [← upTo_end hc]; exact h
        | none =>
          have z : upTo (cellsL (as.take j)) a.2 j' a.2.length = upTo (cellsL (as.take j)) a.2 (j' + 1) 0 := by
            have big := List.getElem?_eq_none_iff.mp hc
            rw [upTo_start]
            unfold upTo
            rw [hc]
            show longer _ _ ++ [] = _
            rw [List.append_nil, List.take_of_length_le big, List.take_of_length_le (Nat.le_succ_of_le big)]
          rw [← z]
          exact h
      · rintro D j' i' x y nD hx' hy H' ⟨s2, ys, e, h⟩
        obtain ⟨c, hc⟩ : ∃ c, (cellsL (as.take j))[j']? = some c := by
          have lt := (List.getElem?_eq_some_iff.mp hx').1
          rw [cs.1] at lt
          exact ⟨_, List.getElem?_eq_getElem lt⟩
        obtain ⟨m, hm', rfl⟩ : ∃ m, a.2[i']? = some m ∧ y = .str m := by
          rw [List.getElem?_map] at hy
          cases em : a.2[i']? with
          | none => rw [em] at hy; cases hy
          | some m => rw [em] at hy; exact ⟨m, rfl, (Option.some.inj hy).symm⟩
        obtain ⟨cp, rfl, hcp⟩ := (cs.2 j' x c hx' hc).same s2
        have st := upTo_step hc hm'
        refine ⟨_, rfl, cp, _, rfl, .inl (SqT.of hcp), _, rfl, ?_, fun r nr => ⟨ys, ?_, ?_, ?_⟩⟩
        · rw [List.length_append, List.length_map]
          have lc := cell_len (as.take j) c (List.mem_of_getElem? hc)
          rw [List.length_take] at lc
          have := sm.1
          exact Nat.le_trans (show _ ≤ 10 by show c.length + 1 ≤ 10; omega) (show 10 ≤ sizeLine by decide)
        · rw [upd_ne (ne_of_none e nr)]
          exact e
        · have l1 := upTo_len hc (show i' ≤ a.2.length from Nat.le_of_lt (List.getElem?_eq_some_iff.mp hm').1)
          rw [h.1, l1]
          have b1 : j' < (cellsL (as.take j)).length := (List.getElem?_eq_some_iff.mp hc).1
          have b2 := cells_le as sm j (by omega)
          have b3 : 4 ^ j ≤ 4 ^ 3 := Nat.pow_le_pow_right (by decide) (by have := sm.1; omega)
          have b4 := sm.2 a (List.mem_of_getElem? ha)
          have b5 : j' * a.2.length ≤ 64 * 4 := Nat.mul_le_mul (by omega) b4
          have b6 := (List.getElem?_eq_some_iff.mp hm').1
          exact Nat.lt_of_lt_of_le (show _ < 1000 by omega) (show 1000 ≤ sizeLine by decide)
        · have s3 : Same H1' (upd (upd H' r (.tup (c.map V.str ++ [V.str m]))) D (.lst (ys ++ [V.ref r]))) := fun b o q => by
            rw [upd_ne (ne_of_none q nD)]
            exact (s2.trans (new nr)) _ _ q
          have nrD : r ≠ D := fun z => by rw [z, e] at nr; cases nr
          have s4 : ∀ b o, b ≠ D → H' b = some o → (upd (upd H' r (.tup (c.map V.str ++ [V.str m]))) D (.lst (ys ++ [V.ref r]))) b = some o := fun b o ne q => by
            rw [upd_ne ne]
            exact new nr _ _ q
          refine ⟨s3, _, upd_same, ?_⟩
          rw [st]
          refine All2.snoc ⟨h.1, fun i v zs h1 h2 => ?_⟩ ⟨r, rfl, ?_⟩
          · obtain ⟨mm, rfl, hmm⟩ := h.2 i v zs h1 h2
            exact ⟨mm, rfl, s4 mm _ (fun z => by rw [z, e] at hmm; cases hmm) hmm⟩
          · rw [upd_ne nrD, upd_same, List.map_append]
            rfl
      · rintro D H' nD ⟨s2, ys, e, h⟩
        refine ⟨s1.trans s2, D, ys, _, _, _, _, rfl, e, ?_⟩
        rw [upTo_start, List.take_of_length_le (by rw [cs.1]; exact Nat.le_refl _)] at h
        exact h
    · rintro σ H1 ⟨s1, l, us, v2, v3, v4, v5, rfl, hl, cs⟩
      rw [List.take_of_length_le (by rw [al.1]; exact Nat.le_refl _)] at cs
      refine ⟨_, rfl, l, us, rfl, .inl ⟨SqL.of hl, fun r nr => k _ _ (s1.trans (new nr)) ⟨r, us, rfl, upd_same, cs.imp fun _ _ h => h.same (new nr)⟩⟩⟩
end
end KG

set_option Elab.async false
set_option linter.all false
set_option maxRecDepth 100000
set_option maxHeartbeats 4000000
namespace L2
open PySem PySem.Spec PyProof.Rows
/-- a target by whichever of two rules the thing keeps -/
theorem pg_or {X : Cx} {e : Expr} {g1 g2 : TG} (h1 : PG X e g1) (h2 : PG X e g2) : PG X e (fun v σ H Q => g1 v σ H Q ∨ g2 v σ H Q) :=
  ⟨fun pins s σ H v u Q I r hw => hw.elim (fun z => h1.run pins s σ H v u Q I r z) (fun z => h2.run pins s σ H v u Q I r z)⟩
end L2
namespace KG
open PySem L2 TL
/-- both things of a pair -/
def gRow (K : PySem.W.Frag) (t : TGs) : TG := fun v σ H Q => gTup K 2 t v σ H Q ∨ gLst K 2 t v σ H Q
theorem g_row {K : PySem.W.Frag} {t : TGs} {v : V} {σ : St} {H : Hp} {Q : St → Hp → Prop} {a b : V} (r : Row H v [a, b]) (k : t [a, b] σ H Q) : gRow K t v σ H Q := by
  obtain ⟨p, rfl, h | h⟩ := r
  · exact .inr ⟨p, _, rfl, SqL.of h, rfl, k⟩
  · exact .inl ⟨p, _, rfl, SqT.of h, rfl, k⟩
/-- row[j] -/
theorem ix_row {K : PySem.W.Frag} {H : Hp} {v x : V} {xs : List V} {j : Nat} {Q : VK} (r : Row H v xs) (e : xs[j]? = some x) (k : Q x H) : rIx K v (.int (j : Int)) H Q := by
  obtain ⟨p, rfl, h | h⟩ := r
  · exact .inl ⟨p, _, _, x, rfl, rfl, SqL.of h, at_of (j := j) rfl e, k⟩
  · exact .inr (.inl ⟨p, _, _, x, rfl, rfl, SqT.of h, at_of (j := j) rfl e, k⟩)
/-- [f(v) for v in row]: things of whatever kind, one by one -/
theorem lc_each {xs : List V} {J : It} {te : TE} {i : Nat} {vs : List Nat} {σ : St} {H : Hp} {D : Addr} {Qd : Hp → Prop} (G : Nat → List V → Hp → Prop) (wk : Walk J xs.length (fun H' => Same H H') (YAt xs)) (nD : H D = none) (len : xs.length ≤ 1000) (hw : ∀ v : V, wipe ((wipe σ vs).set i (some v)) vs = wipe σ vs)
    (g0 : G 0 [] H) (gl : ∀ j us H', G j us H' → us.length = j) (gs : ∀ j us H' H'', Same H' H'' → G j us H' → G j us H'')
    (gb : ∀ j us H' old o, H' D = some (.lst old) → G j us H' → G j us (upd H' D o))
    (elem : ∀ j v us, xs[j]? = some v → ∀ H' (Q : VK), Same H H' → G j us H' → (∀ u H'', Same H' H'' → G (j + 1) (us ++ [u]) H'' → Q u H'') → te ((wipe σ vs).set i (some v)) H' Q) (hd : ∀ us H', Same H H' → H' D = some (.lst us) → G xs.length us H' → Qd H') :
    ∃ W : Nat → Nat → Hp → Prop, (∃ m, W 0 m (upd H D (.lst []))) ∧ ∀ j m H', W j m H' → ((J.stop j H' ∧ Qd H') ∨ (J.go j H' ∧ ∃ Nx : Hp → Prop, (∀ H', Nx H' → ∃ m', m' < m ∧ W (j + 1) m' H') ∧
      ∀ x H2, J.yld j H' x H2 → gName i x (wipe σ vs) H2 fun σ2 H3 => wipe σ2 vs = wipe σ vs ∧ tYes σ2 H3 fun b H4 => if b = true then te σ2 H4 fun y H5 => ∃ acc, H5 D = some (.lst acc) ∧ acc.length < sizeLine ∧ Nx (upd H5 D (.lst (acc ++ [y]))) else Nx H4)) := by
  refine lc_it wk (fun j H' => Same H H' ∧ ∃ us, H' D = some (.lst us) ∧ G j us H') ⟨new nD, [], upd_same, gs 0 [] H _ (new nD) g0⟩ (fun _ _ _ h => h.1) ?_ ?_
  · rintro j v H1 H2 hj ⟨s1, us, e1, g1⟩ ⟨rfl, hv⟩
    refine ⟨hw v, ?_⟩
    unfold tYes
    refine iteT (elem j v us hv _ _ s1 g1 fun u H3 s3 g3 => ⟨us, s3 _ _ e1, ?_, fun c o e => ?_, us ++ [u], upd_same, ?_⟩)
    · rw [gl j us _ g1]
      exact Nat.lt_of_lt_of_le (show j < 1000 by omega) (by decide)
    · rw [upd_ne (ne_of_none e nD)]
      exact s3 _ _ (s1 _ _ e)
    · exact gb _ _ H3 us _ (s3 _ _ e1) g3
  · rintro H1 ⟨s1, us, e1, g1⟩
    exact hd us H1 s1 e1 g1
/-! ### what is wrong with axes -/
abbrev Pr := V × V
def PairsOf (H : Hp) (x : V) (ps : List Pr) : Prop := ∃ xs, Row H x xs ∧ All2 (fun v p => Row H v [p.1, p.2]) xs ps
def NameOk (ps : List Pr) : Prop := (∀ p ∈ ps, IsName p.1) ∧ (ps.map (·.1)).Nodup
def MemOk (H : Hp) (ps : List Pr) : Prop := ∀ p ∈ ps, Mem H p.2
def AsOf (H : Hp) (ps : List Pr) (as : List Ax) : Prop := ps.length = as.length ∧ ∀ (i : Nat) (p : Pr) (a : Ax), ps[i]? = some p → as[i]? = some a → p.1 = .str a.1 ∧ Row H p.2 (a.2.map V.str)
def Few (ps : List Pr) : Prop := 1 ≤ ps.length ∧ ps.length ≤ 3
def Wrong (H : Hp) (x : V) (w : Str) : Prop := (w = "axes" ∧ ¬ Pairs H x) ∨ ∃ ps, PairsOf H x ps ∧ Few ps ∧ ((w = "name" ∧ ¬ NameOk ps) ∨ (w = "members" ∧ NameOk ps ∧ ¬ MemOk H ps) ∨ (∃ as, w = "cells" ∧ NameOk ps ∧ MemOk H ps ∧ AsOf H ps as ∧ 8 < (cellsL as).length))
def Right (H : Hp) (x : V) (as : List Ax) : Prop := ∃ ps, PairsOf H x ps ∧ Few ps ∧ NameOk ps ∧ MemOk H ps ∧ AsOf H ps as ∧ (cellsL as).length ≤ 8
theorem pairs_of {H : Hp} {x : V} (h : Pairs H x) : ∃ ps, PairsOf H x ps ∧ Few ps := by
  obtain ⟨xs, r, l1, l3, al⟩ := h
  have go : ∀ xs : List V, (∀ v ∈ xs, ∃ a b, Row H v [a, b]) → ∃ ps : List Pr, All2 (fun v p => Row H v [p.1, p.2]) xs ps := by
    intro xs
    induction xs with
    | nil => exact fun _ => ⟨[], All2.nil⟩
    | cons v r ih =>
      intro al
      obtain ⟨a, b, rv⟩ := al v List.mem_cons_self
      obtain ⟨ps, h1, h2⟩ := ih fun u hu => al u (List.mem_cons_of_mem _ hu)
      refine ⟨(a, b) :: ps, by rw [List.length_cons, List.length_cons, h1], fun i u p e1 e2 => ?_⟩
      cases i with
      | zero => cases e1; cases e2; exact rv
      | succ i => exact h2 i u p e1 e2
  obtain ⟨ps, a2⟩ := go xs al
  exact ⟨ps, ⟨xs, r, a2⟩, by rw [← a2.1]; exact l1, by rw [← a2.1]; exact l3⟩
theorem of_pairs {H : Hp} {x : V} {ps : List Pr} (h : PairsOf H x ps) (f : Few ps) : Pairs H x := by
  obtain ⟨xs, r, a2⟩ := h
  refine ⟨xs, r, by rw [a2.1]; exact f.1, by rw [a2.1]; exact f.2, fun v hv => ?_⟩
  obtain ⟨i, hi, rfl⟩ := List.mem_iff_getElem.mp hv
  have lt : i < ps.length := by rw [← a2.1]; exact hi
  exact ⟨_, _, a2.2 i _ ps[i] (List.getElem?_eq_getElem hi) (List.getElem?_eq_getElem lt)⟩
theorem pairs_one {H : Hp} {x : V} {ps qs : List Pr} (h : PairsOf H x ps) (k : PairsOf H x qs) : ps = qs := by
  obtain ⟨xs, r, a⟩ := h
  obtain ⟨ys, r2, b⟩ := k
  obtain rfl := r.one r2
  refine List.ext_getElem? fun i => ?_
  by_cases lt : i < xs.length
  · have l1 : i < ps.length := by rw [← a.1]; exact lt
    have l2 : i < qs.length := by rw [← b.1]; exact lt
    rw [List.getElem?_eq_getElem l1, List.getElem?_eq_getElem l2]
    have z1 := a.2 i xs[i] ps[i] (List.getElem?_eq_getElem lt) (List.getElem?_eq_getElem l1)
    have z2 := b.2 i xs[i] qs[i] (List.getElem?_eq_getElem lt) (List.getElem?_eq_getElem l2)
    have z := z1.one z2
    have e1 := (List.cons.inj z).1
    have e2 := (List.cons.inj (List.cons.inj z).2).1
    exact congrArg some (Prod.ext e1 e2)
  · rw [List.getElem?_eq_none (by rw [← a.1]; omega), List.getElem?_eq_none (by rw [← b.1]; omega)]
/-- names and members, read off -/
theorem as_of {H : Hp} : ∀ {ps : List Pr}, (∀ p ∈ ps, IsName p.1) → MemOk H ps → ∃ as, AsOf H ps as
  | [], _, _ => ⟨[], rfl, fun i p a h => by simp at h⟩
  | p :: r, hn, hm => by
    obtain ⟨as, l, al⟩ := as_of (ps := r) (fun q hq => hn q (List.mem_cons_of_mem _ hq)) fun q hq => hm q (List.mem_cons_of_mem _ hq)
    obtain ⟨z, ez, _⟩ := hn p List.mem_cons_self
    obtain ⟨ms, rm, _, nm, _⟩ := hm p List.mem_cons_self
    obtain ⟨zs, rfl, _⟩ := names_strs nm
    refine ⟨(z, zs) :: as, by rw [List.length_cons, List.length_cons, l], fun i q a e1 e2 => ?_⟩
    cases i with
    | zero => cases e1; cases e2; exact ⟨ez, rm⟩
    | succ i => exact al i q a e1 e2
theorem as_one {H : Hp} {ps : List Pr} {as bs : List Ax} (h : AsOf H ps as) (k : AsOf H ps bs) : as = bs := by
  refine List.ext_getElem? fun i => ?_
  by_cases lt : i < ps.length
  · have l1 : i < as.length := by rw [← h.1]; exact lt
    have l2 : i < bs.length := by rw [← k.1]; exact lt
    rw [List.getElem?_eq_getElem l1, List.getElem?_eq_getElem l2]
    obtain ⟨a1, a2⟩ := h.2 i ps[i] as[i] (List.getElem?_eq_getElem lt) (List.getElem?_eq_getElem l1)
    obtain ⟨b1, b2⟩ := k.2 i ps[i] bs[i] (List.getElem?_eq_getElem lt) (List.getElem?_eq_getElem l2)
    have e1 : as[i].1 = bs[i].1 := V.str.inj (a1.symm.trans b1)
    have e2 : as[i].2 = bs[i].2 := by
      have z := a2.one b2
      have inj : ∀ {l m : List Str}, l.map V.str = m.map V.str → l = m := by
        intro l
        induction l with
        | nil => intro m e; cases m with
          | nil => rfl
          | cons _ _ => cases e
        | cons x r ih => intro m e; cases m with
          | nil => cases e
          | cons y s =>
            obtain ⟨q1, q2⟩ := List.cons.inj e
            rw [V.str.inj q1, ih q2]
      exact inj z
    exact congrArg some (Prod.ext e1 e2)
  · rw [List.getElem?_eq_none (by rw [← h.1]; omega), List.getElem?_eq_none (by rw [← k.1]; omega)]
/-- some word is due, or the axes are right -/
theorem sorts (H : Hp) (x : V) : (∃ w, Wrong H x w) ∨ ∃ as, Right H x as := by
  by_cases h1 : Pairs H x
  · obtain ⟨ps, po, fw⟩ := pairs_of h1
    by_cases h2 : NameOk ps
    · by_cases h3 : MemOk H ps
      · obtain ⟨as, ao⟩ := as_of h2.1 h3
        by_cases h4 : (cellsL as).length ≤ 8
        · exact .inr ⟨as, ps, po, fw, h2, h3, ao, h4⟩
        · exact .inl ⟨"cells", .inr ⟨ps, po, fw, .inr (.inr ⟨as, rfl, h2, h3, ao, by omega⟩)⟩⟩
      · exact .inl ⟨"members", .inr ⟨ps, po, fw, .inr (.inl ⟨rfl, h2, h3⟩)⟩⟩
    · exact .inl ⟨"name", .inr ⟨ps, po, fw, .inl ⟨rfl, h2⟩⟩⟩
  · exact .inl ⟨"axes", .inl ⟨rfl, h1⟩⟩
/-! .. in a later heap -/
theorem Mem.iff {H H' : Hp} {v : V} (k : Kn 0 H v) (s : Same H H') : Mem H' v ↔ Mem H v := by
  constructor
  · rintro ⟨xs, r, m⟩
    rcases k.row with ⟨ys, r2, _⟩ | ⟨n, _⟩
    · obtain rfl := r.one (r2.same s)
      exact ⟨xs, r2, m⟩
    · exact (r.no (n.same s)).elim
  · rintro ⟨xs, r, m⟩
    exact ⟨xs, r.same s, m⟩
theorem pair_back {H H' : Hp} {v a b : V} (k : Kn 0 H v) (s : Same H H') (r : Row H' v [a, b]) : Row H v [a, b] := by
  rcases k.row with ⟨ys, r2, _⟩ | ⟨n, _⟩
  · rw [← (r2.same s).one r]
    exact r2
  · exact (r.no (n.same s)).elim
end KG

set_option Elab.async false
set_option linter.all false
set_option maxRecDepth 100000
set_option maxHeartbeats 4000000
namespace KG
open PySem L2 TL
/-! ### grids as data -/
def strsD (zs : List Str) : PyData := .tuple (zs.map .str)
def axD (a : Ax) : PyData := .tuple [.str a.1, strsD a.2]
def axsD (as : List Ax) : PyData := .tuple (as.map axD)
def cellsD (cs : List (List Str)) : PyData := .tuple (cs.map strsD)
theorem eqvAll_map {α : Type} {f : α → PyData} (h : ∀ x y, PyData.eqv (f x) (f y) = true ↔ x = y) : ∀ xs ys : List α, PyData.eqvAll (xs.map f) (ys.map f) = true ↔ xs = ys
  | [], [] => by simp [PyData.eqvAll]
  | [], y :: ys => by simp [PyData.eqvAll]
  | x :: xs, [] => by simp [PyData.eqvAll]
  | x :: xs, y :: ys => by
    rw [List.map_cons, List.map_cons, PyData.eqvAll, Bool.and_eq_true, h, eqvAll_map h xs ys, List.cons.injEq]
theorem eqv_str (x y : Str) : PyData.eqv (.str x) (.str y) = true ↔ x = y := by
  rw [PyData.eqv]
  exact beq_iff_eq
theorem eqv_strs (xs ys : List Str) : PyData.eqv (strsD xs) (strsD ys) = true ↔ xs = ys := by
  unfold strsD
  rw [PyData.eqv]
  exact eqvAll_map eqv_str xs ys
theorem eqv_ax (a b : Ax) : PyData.eqv (axD a) (axD b) = true ↔ a = b := by
  unfold axD
  rw [PyData.eqv, PyData.eqvAll, PyData.eqvAll, PyData.eqvAll, Bool.and_eq_true, Bool.and_eq_true, eqv_str, eqv_strs]
  constructor
  · rintro ⟨h1, h2, _⟩
    exact Prod.ext h1 h2
  · rintro rfl
    exact ⟨rfl, rfl, rfl⟩
theorem eqv_axs (as bs : List Ax) : PyData.eqv (axsD as) (axsD bs) = true ↔ as = bs := by
  unfold axsD
  rw [PyData.eqv]
  exact eqvAll_map eqv_ax as bs
theorem eqv_axl (as bs : List Ax) : PyData.eqv (.list (as.map axD)) (.list (bs.map axD)) = true ↔ as = bs := by
  rw [PyData.eqv]
  exact eqvAll_map eqv_ax as bs
theorem eqv_cells (as bs : List (List Str)) : PyData.eqv (cellsD as) (cellsD bs) = true ↔ as = bs := by
  unfold cellsD
  rw [PyData.eqv]
  exact eqvAll_map eqv_strs as bs
theorem lay_map {α : Type} {f : α → PyData} : ∀ {xs : List α}, (∀ x ∈ xs, (f x).canLay0 = true) → PyData.canLayAll0 (xs.map f) = true
  | [], _ => by rw [List.map_nil, PyData.canLayAll0]
  | x :: xs, h => by
    rw [List.map_cons, PyData.canLayAll0, h x List.mem_cons_self, lay_map fun y hy => h y (List.mem_cons_of_mem _ hy)]
    rfl
theorem depth_map {α : Type} {f : α → PyData} {n : Nat} (h : ∀ x, (f x).depth ≤ n) : ∀ xs : List α, PyData.depthAll (xs.map f) ≤ n
  | [] => by rw [List.map_nil, PyData.depthAll]; exact Nat.zero_le _
  | x :: xs => by
    rw [List.map_cons, PyData.depthAll]
    exact Nat.max_le.mpr ⟨h x, depth_map h xs⟩
theorem depth_str (x : Str) : (PyData.str x).depth ≤ 0 := by
  rw [PyData.depth]
  exact Nat.le_refl _
theorem depth_strs (zs : List Str) : (strsD zs).depth ≤ 1 := by
  unfold strsD
  rw [PyData.depth]
  have := depth_map (f := PyData.str) depth_str zs
  omega
theorem depth_ax (a : Ax) : (axD a).depth ≤ 2 := by
  unfold axD
  rw [PyData.depth, PyData.depthAll, PyData.depthAll, PyData.depthAll]
  have h1 := depth_str a.1
  have h2 := depth_strs a.2
  omega
theorem depth_axs (as : List Ax) : PyData.depthAll (as.map axD) ≤ 2 := depth_map depth_ax as
/-- names all over -/
def AxOk (as : List Ax) : Prop := ∀ a ∈ as, NameS a.1 ∧ ∀ m ∈ a.2, NameS m
theorem lay_name {z : Str} (h : NameS z) : (PyData.str z).canLay0 = true := by
  rw [PyData.canLay0]
  show (z.cps.all _) = true
  rw [Array.all_eq_true]
  intro i hi
  have hm : z.cps[i] ∈ tl z := by
    show z.cps[i] ∈ z.cps.toList
    exact Array.mem_toList_iff.mpr (Array.getElem_mem hi)
  rcases h.1.al _ hm with c | c
  · exact decide_eq_true (Nat.lt_of_le_of_lt c.2 (by decide))
  · exact decide_eq_true (Nat.lt_of_le_of_lt c.2 (by decide))
theorem lay_strs {zs : List Str} (h : ∀ z ∈ zs, NameS z) : (strsD zs).canLay0 = true := by
  unfold strsD
  rw [PyData.canLay0]
  exact lay_map fun z hz => lay_name (h z hz)
theorem lay_ax {a : Ax} (h : NameS a.1 ∧ ∀ m ∈ a.2, NameS m) : (axD a).canLay0 = true := by
  unfold axD
  rw [PyData.canLay0, PyData.canLayAll0, PyData.canLayAll0, PyData.canLayAll0, lay_name h.1, lay_strs h.2]
  rfl
theorem shaped_axs {as : List Ax} (h : AxOk as) : SeqAt.shaped (axsD as) = true := by
  unfold SeqAt.shaped axsD
  rw [PyData.canLay0, lay_map fun a ha => lay_ax (h a ha), PyData.depth]
  have := depth_axs as
  exact decide_eq_true (by omega)
theorem shaped_axl {as : List Ax} (h : AxOk as) : SeqAt.shaped (.list (as.map axD)) = true := by
  unfold SeqAt.shaped
  rw [PyData.canLay0, lay_map fun a ha => lay_ax (h a ha), PyData.depth]
  have := depth_axs as
  exact decide_eq_true (by omega)
theorem shaped_cells {cs : List (List Str)} (h : ∀ c ∈ cs, ∀ m ∈ c, NameS m) : SeqAt.shaped (cellsD cs) = true := by
  unfold SeqAt.shaped cellsD
  rw [PyData.canLay0, lay_map fun c hc => lay_strs (h c hc), PyData.depth]
  have := depth_map depth_strs cs
  exact decide_eq_true (by omega)
/-- the cells have members alone -/
theorem cells_names {as : List Ax} (h : AxOk as) : ∀ c ∈ cellsL as, ∀ m ∈ c, NameS m := by
  have go : ∀ (as : List Ax) (cs : List (List Str)), AxOk as → (∀ c ∈ cs, ∀ m ∈ c, NameS m) → ∀ c ∈ as.foldl (fun cs a => longer cs a.2) cs, ∀ m ∈ c, NameS m := by
    intro as
    induction as with
    | nil => intro cs _ h; exact h
    | cons a r ih =>
      intro cs ho h
      rw [List.foldl_cons]
      refine ih _ (fun b hb => ho b (List.mem_cons_of_mem _ hb)) fun c hc m hm => ?_
      unfold longer at hc
      obtain ⟨e, he, hd⟩ := List.mem_flatMap.mp hc
      obtain ⟨k, hk, rfl⟩ := List.mem_map.mp hd
      rcases List.mem_append.mp hm with hm | hm
      · exact h e he m hm
      · rw [List.mem_singleton.mp hm]
        exact (ho a List.mem_cons_self).2 k hk
  exact go as [[]] h fun c hc m hm => by
    rw [List.mem_singleton.mp hc] at hm
    cases hm
theorem dpall {K : PySem.W.Frag} {H : Hp} {α : Type} {R : V → α → Prop} {f : α → PyData} (k : ∀ v a, R v a → Dp K H v (f a)) : ∀ {vs : List V} {as : List α}, All2 R vs as → DpAll K H vs (as.map f)
  | [], [], _ => .nil
  | [], a :: as, h => by cases h.1
  | v :: vs, [], h => by cases h.1
  | v :: vs, a :: as, h => .cons (k v a (h.2 0 v a rfl rfl)) (dpall k ⟨Nat.succ.inj h.1, fun i x b h1 h2 => h.2 (i + 1) x b h1 h2⟩)
theorem dp_strs0 {K : PySem.W.Frag} {H : Hp} : ∀ zs : List Str, DpAll K H (zs.map V.str) (zs.map PyData.str)
  | [] => .nil
  | z :: r => .cons (.str z) (dp_strs0 r)
theorem dp_strs {K : PySem.W.Frag} {H : Hp} {v : V} {zs : List Str} (h : StrsT H v zs) : Dp K H v (strsD zs) := by
  obtain ⟨m, rfl, h⟩ := h
  exact .tup (SqT.of h) (dp_strs0 zs)
theorem dp_ax {K : PySem.W.Frag} {H : Hp} {v : V} {a : Ax} (h : AxAt H v a) : Dp K H v (axD a) := by
  obtain ⟨q, m, rfl, h1, h2⟩ := h
  exact .tup (SqT.of h1) (.cons (.str _) (.cons (.tup (SqT.of h2) (dp_strs0 _)) .nil))
theorem dp_axs {K : PySem.W.Frag} {H : Hp} {v : V} {as : List Ax} (h : AxesAt H v as) : Dp K H v (axsD as) := by
  obtain ⟨p, vs, rfl, h1, h2⟩ := h
  exact .tup (SqT.of h1) (dpall (f := axD) (fun _ _ => dp_ax) h2)
theorem dp_cells {K : PySem.W.Frag} {H : Hp} {v : V} {cs : List (List Str)} (h : CellsAt H v cs) : Dp K H v (cellsD cs) := by
  obtain ⟨p, vs, rfl, h1, h2⟩ := h
  exact .tup (SqT.of h1) (dpall (f := strsD) (fun _ _ => dp_strs) h2)
theorem dp_axl {K : PySem.W.Frag} {H : Hp} {p : Addr} {vs : List V} {as : List Ax} (h : H p = some (.lst vs)) (al : All2 (AxAt H) vs as) : Dp K H (.ref p) (.list (as.map axD)) := .lst (SqL.of h) (dpall (f := axD) (fun _ _ => dp_ax) al)
/-! ### tuples stay -/
def TSame (H H' : Hp) : Prop := ∀ a xs, H a = some (.tup xs) → H' a = some (.tup xs)
theorem Same.t {H H' : Hp} (s : Same H H') : TSame H H' := fun _ _ h => s _ _ h
theorem TSame.trans {H H1 H2 : Hp} (a : TSame H H1) (b : TSame H1 H2) : TSame H H2 := fun _ _ h => b _ _ (a _ _ h)
theorem TSame.refl (H : Hp) : TSame H H := fun _ _ h => h
theorem tsame_upd {H : Hp} {p : Addr} {o : HO} (h : ∀ xs, H p ≠ some (.tup xs)) : TSame H (upd H p o) := fun a xs e => by
  rw [upd_ne fun z => h xs (by rw [← z]; exact e)]
  exact e
theorem StrsT.t {H H' : Hp} {v : V} {zs : List Str} (h : StrsT H v zs) (s : TSame H H') : StrsT H' v zs := let ⟨m, e, h⟩ := h; ⟨m, e, s _ _ h⟩
theorem AxAt.t {H H' : Hp} {v : V} {a : Ax} (h : AxAt H v a) (s : TSame H H') : AxAt H' v a := let ⟨q, m, e, h1, h2⟩ := h; ⟨q, m, e, s _ _ h1, s _ _ h2⟩
theorem AxesAt.t {H H' : Hp} {v : V} {as : List Ax} (h : AxesAt H v as) (s : TSame H H') : AxesAt H' v as := let ⟨p, vs, e, h1, h2⟩ := h; ⟨p, vs, e, s _ _ h1, h2.imp fun _ _ x => x.t s⟩
theorem CellsAt.t {H H' : Hp} {v : V} {cs : List (List Str)} (h : CellsAt H v cs) (s : TSame H H') : CellsAt H' v cs := let ⟨p, vs, e, h1, h2⟩ := h; ⟨p, vs, e, s _ _ h1, h2.imp fun _ _ x => x.t s⟩
/-! ### right axes -/
structure GoodAx (as : List Ax) : Prop where
  lo : 1 ≤ as.length
  hi : as.length ≤ 3
  ok : AxOk as
  nd : (as.map (·.1)).Nodup
  ms : ∀ a ∈ as, a.2 ≠ [] ∧ a.2.Nodup ∧ a.2.length ≤ 4
  sz : (cellsL as).length ≤ 8
theorem GoodAx.small {as : List Ax} (h : GoodAx as) : Small as := ⟨h.hi, fun a ha => (h.ms a ha).2.2⟩
def AxRow (H : Hp) (v : V) (a : Ax) : Prop := ∃ mv, Row H v [.str a.1, mv] ∧ Row H mv (a.2.map V.str)
theorem AxAt.row {H : Hp} {v : V} {a : Ax} (h : AxAt H v a) : AxRow H v a := by
  obtain ⟨q, m, rfl, h1, h2⟩ := h
  exact ⟨.ref m, ⟨q, rfl, .inr h1⟩, ⟨m, rfl, .inr h2⟩⟩
theorem right_good {H : Hp} {x : V} {as : List Ax} (h : Right H x as) : GoodAx as ∧ ∃ xs, Row H x xs ∧ All2 (AxRow H) xs as := by
  obtain ⟨ps, ⟨xs, rx, a2⟩, fw, nm, mm, ⟨len, ao⟩, sz⟩ := h
  have get : ∀ a ∈ as, ∃ (i : Nat) (p : Pr), ps[i]? = some p ∧ as[i]? = some a ∧ p ∈ ps := by
    intro a ha
    obtain ⟨i, hi, rfl⟩ := List.mem_iff_getElem.mp ha
    have lt : i < ps.length := by rw [len]; exact hi
    exact ⟨i, ps[i], List.getElem?_eq_getElem lt, List.getElem?_eq_getElem hi, List.getElem_mem lt⟩
  have mem : ∀ (p : Pr) (a : Ax), p ∈ ps → Row H p.2 (a.2.map V.str) → a.2 ≠ [] ∧ (∀ m ∈ a.2, NameS m) ∧ a.2.Nodup ∧ a.2.length ≤ 4 := by
    intro p a hp r
    obtain ⟨ys, r2, ne, al, nd, l4⟩ := mm p hp
    obtain rfl := r.one r2
    refine ⟨fun z => ne (by rw [z]; rfl), fun m hm => ?_, (nodup_strs _).mp nd, by rw [List.length_map] at l4; exact l4⟩
    obtain ⟨z, e, hz⟩ := al (.str m) (List.mem_map_of_mem hm)
    cases e
    exact hz
  refine ⟨⟨by rw [← len]; exact fw.1, by rw [← len]; exact fw.2, fun a ha => ?_, ?_, fun a ha => ?_, sz⟩, xs, rx, by rw [a2.1, len], fun i v a h1 h2 => ?_⟩
  · obtain ⟨i, p, e1, e2, hp⟩ := get a ha
    obtain ⟨n1, n2⟩ := ao i p a e1 e2
    obtain ⟨z, e, hz⟩ := nm.1 p hp
    rw [n1] at e
    cases e
    exact ⟨hz, (mem p a hp n2).2.1⟩
  · have e : ps.map (·.1) = (as.map (·.1)).map V.str := by
      refine List.ext_getElem? fun i => ?_
      rw [List.getElem?_map, List.getElem?_map, List.getElem?_map]
      by_cases lt : i < ps.length
      · have l2 : i < as.length := by rw [← len]; exact lt
        rw [List.getElem?_eq_getElem lt, List.getElem?_eq_getElem l2]
        exact congrArg some (ao i _ _ (List.getElem?_eq_getElem lt) (List.getElem?_eq_getElem l2)).1
      · rw [List.getElem?_eq_none (by omega), List.getElem?_eq_none (by rw [← len]; omega)]
        rfl
    have nd := nm.2
    rw [e] at nd
    exact (nodup_strs _).mp nd
  · obtain ⟨i, p, e1, e2, hp⟩ := get a ha
    obtain ⟨m1, _, m2, m3⟩ := mem p a hp (ao i p a e1 e2).2
    exact ⟨m1, m2, m3⟩
  · have l1 := (List.getElem?_eq_some_iff.mp h1).1
    have l2 : i < ps.length := by rw [← a2.1]; exact l1
    have r := a2.2 i v ps[i] h1 (List.getElem?_eq_getElem l2)
    obtain ⟨n1, n2⟩ := ao i ps[i] a (List.getElem?_eq_getElem l2) h2
    exact ⟨_, by rw [← n1]; exact r, n2⟩
/-- a row of right axes is right -/
theorem good_right {H : Hp} {x : V} {as : List Ax} {xs : List V} (g : GoodAx as) (rx : Row H x xs) (al : All2 (AxRow H) xs as) : Right H x as := by
  have go : ∀ (xs : List V) (as : List Ax), All2 (AxRow H) xs as → ∃ ps : List Pr, All2 (fun v p => Row H v [p.1, p.2]) xs ps ∧ AsOf H ps as := by
    intro xs
    induction xs with
    | nil =>
      intro as h
      cases as with
      | nil => exact ⟨[], All2.nil, rfl, fun i p a e => by simp at e⟩
      | cons a r => cases h.1
    | cons v r ih =>
      intro as h
      cases as with
      | nil => cases h.1
      | cons a as =>
        obtain ⟨mv, r1, r2⟩ := h.2 0 v a rfl rfl
        obtain ⟨ps, h1, h2⟩ := ih as ⟨Nat.succ.inj h.1, fun i x b e1 e2 => h.2 (i + 1) x b e1 e2⟩
        refine ⟨(.str a.1, mv) :: ps, ⟨by rw [List.length_cons, List.length_cons, h1.1], fun i x p e1 e2 => ?_⟩, by rw [List.length_cons, List.length_cons, h2.1], fun i p b e1 e2 => ?_⟩
        · cases i with
          | zero => cases e1; cases e2; exact r1
          | succ i => exact h1.2 i x p e1 e2
        · cases i with
          | zero => cases e1; cases e2; exact ⟨rfl, r2⟩
          | succ i => exact h2.2 i p b e1 e2
  obtain ⟨ps, po, ao⟩ := go xs as al
  have get : ∀ p ∈ ps, ∃ a, a ∈ as ∧ p.1 = .str a.1 ∧ Row H p.2 (a.2.map V.str) := by
    intro p hp
    obtain ⟨i, hi, rfl⟩ := List.mem_iff_getElem.mp hp
    have lt : i < as.length := by rw [← ao.1]; exact hi
    exact ⟨as[i], List.getElem_mem lt, ao.2 i _ _ (List.getElem?_eq_getElem hi) (List.getElem?_eq_getElem lt)⟩
  refine ⟨ps, ⟨xs, rx, po⟩, ⟨by rw [ao.1]; exact g.lo, by rw [ao.1]; exact g.hi⟩, ⟨fun p hp => ?_, ?_⟩, fun p hp => ?_, ao, g.sz⟩
  · obtain ⟨a, ha, e, _⟩ := get p hp
    exact ⟨a.1, e, (g.ok a ha).1⟩
  · have e : ps.map (·.1) = (as.map (·.1)).map V.str := by
      refine List.ext_getElem? fun i => ?_
      rw [List.getElem?_map, List.getElem?_map, List.getElem?_map]
      by_cases lt : i < ps.length
      · have l2 : i < as.length := by rw [← ao.1]; exact lt
        rw [List.getElem?_eq_getElem lt, List.getElem?_eq_getElem l2]
        exact congrArg some (ao.2 i _ _ (List.getElem?_eq_getElem lt) (List.getElem?_eq_getElem l2)).1
      · rw [List.getElem?_eq_none (by omega), List.getElem?_eq_none (by rw [← ao.1]; omega)]
        rfl
    rw [e]
    exact (nodup_strs _).mpr g.nd
  · obtain ⟨a, ha, _, r⟩ := get p hp
    obtain ⟨m1, m2, m3⟩ := g.ms a ha
    refine ⟨_, r, fun z => m1 (List.map_eq_nil_iff.mp z), fun y hy => ?_, (nodup_strs _).mpr m2, by rw [List.length_map]; exact m3⟩
    obtain ⟨m, hm, rfl⟩ := List.mem_map.mp hy
    exact ⟨m, rfl, (g.ok a ha).2 m hm⟩
theorem nodup_back {α : Type} {l : List α} (h : l.Nodup) : l.reverse.Nodup := List.pairwise_reverse.mpr (h.imp fun h => Ne.symm h)
/-- how many cells -/
theorem cellsL_len (as : List Ax) : (cellsL as).length = (as.map fun a => a.2.length).foldl (· * ·) 1 := by
  have go : ∀ (as : List Ax) (cs : List (List Str)), (as.foldl (fun cs a => longer cs a.2) cs).length = (as.map fun a => a.2.length).foldl (· * ·) cs.length := by
    intro as
    induction as with
    | nil => intro cs; rfl
    | cons a r ih =>
      intro cs
      rw [List.foldl_cons, ih, longer_len, List.map_cons, List.foldl_cons]
  exact go as [[]]
theorem GoodAx.back {as : List Ax} (g : GoodAx as) : GoodAx as.reverse := by
  refine ⟨by rw [List.length_reverse]; exact g.lo, by rw [List.length_reverse]; exact g.hi, fun a ha => g.ok a (List.mem_reverse.mp ha), ?_, fun a ha => g.ms a (List.mem_reverse.mp ha), ?_⟩
  · rw [List.map_reverse]
    exact nodup_back g.nd
  · have h := g.sz
    have h3 := g.hi
    rw [cellsL_len] at h ⊢
    match as, h3, h with
    | [], _, h => exact h
    | [a], _, h => exact h
    | [a, b], _, h =>
      have e : 1 * b.2.length * a.2.length = 1 * a.2.length * b.2.length := by rw [Nat.one_mul, Nat.one_mul, Nat.mul_comm]
      show 1 * b.2.length * a.2.length ≤ 8
      rw [e]
      exact h
    | [a, b, c], _, h =>
      have e : 1 * c.2.length * b.2.length * a.2.length = 1 * a.2.length * b.2.length * c.2.length := by
        rw [Nat.one_mul, Nat.one_mul, Nat.mul_comm, ← Nat.mul_assoc, Nat.mul_right_comm]
      show 1 * c.2.length * b.2.length * a.2.length ≤ 8
      rw [e]
      exact h
def turned (as : List Ax) : List Ax := as.map fun a => (a.1, a.2.reverse)
theorem GoodAx.turn {as : List Ax} (g : GoodAx as) : GoodAx (turned as) := by
  unfold turned
  refine ⟨by rw [List.length_map]; exact g.lo, by rw [List.length_map]; exact g.hi, fun b hb => ?_, ?_, fun b hb => ?_, ?_⟩
  · obtain ⟨a, ha, rfl⟩ := List.mem_map.mp hb
    exact ⟨(g.ok a ha).1, fun m hm => (g.ok a ha).2 m (List.mem_reverse.mp hm)⟩
  · rw [List.map_map]
    exact g.nd
  · obtain ⟨a, ha, rfl⟩ := List.mem_map.mp hb
    obtain ⟨m1, m2, m3⟩ := g.ms a ha
    exact ⟨fun z => m1 (List.reverse_eq_nil_iff.mp z), nodup_back m2, by rw [List.length_reverse]; exact m3⟩
  · have h := g.sz
    rw [cellsL_len] at h ⊢
    rw [List.map_map]
    have e : ((fun a : Ax => a.2.length) ∘ fun a : Ax => (a.1, a.2.reverse)) = fun a : Ax => a.2.length := by
      funext a
      exact List.length_reverse
    rw [e]
    exact h
end KG

set_option Elab.async false
set_option linter.all false
set_option maxRecDepth 100000
set_option maxHeartbeats 4000000
namespace KG
open PySem L2 TL
abbrev sInit : Stmt := inClass (top 27) 0
abbrev sEq : Stmt := inClass (top 27) 1
/-! ### what a Grid looks like -/
theorem nac : ¬ (("axes" : Str) = "cells") := by decide +kernel
theorem nas : ¬ (("axes" : Str) = "size") := by decide +kernel
theorem ncs : ¬ (("cells" : Str) = "size") := by decide +kernel
def f1 (va : V) : List (Str × V) := putF "axes" va []
def f2 (va vc : V) : List (Str × V) := putF "cells" vc (f1 va)
def flds (va vc : V) (n : Int) : List (Str × V) := putF "size" (.int n) (f2 va vc)
theorem f1_axes (va : V) : (f1 va).lookup ("axes" : Str) = some va := by
  unfold f1
  rw [lookup_putF, if_pos rfl]
theorem f2_axes (va vc : V) : (f2 va vc).lookup ("axes" : Str) = some va := by
  unfold f2
  rw [lookup_putF, if_neg nac, f1_axes]
theorem f2_cells (va vc : V) : (f2 va vc).lookup ("cells" : Str) = some vc := by
  unfold f2
  rw [lookup_putF, if_pos rfl]
theorem flds_axes (va vc : V) (n : Int) : (flds va vc n).lookup ("axes" : Str) = some va := by
  unfold flds
  rw [lookup_putF, if_neg nas, f2_axes]
theorem flds_cells (va vc : V) (n : Int) : (flds va vc n).lookup ("cells" : Str) = some vc := by
  unfold flds
  rw [lookup_putF, if_neg ncs, f2_cells]
theorem flds_size (va vc : V) (n : Int) : (flds va vc n).lookup ("size" : Str) = some (.int n) := by
  unfold flds
  rw [lookup_putF, if_pos rfl]
def GridAt (C : Addr) (H : Hp) (p : Addr) (as : List Ax) : Prop := ∃ dx va vc, H p = some (.ins C dx (flds va vc ((cellsL as).length : Int))) ∧ AxesAt H va as ∧ CellsAt H vc (cellsL as)
theorem GridAt.same {C : Addr} {H H' : Hp} {p : Addr} {as : List Ax} (h : GridAt C H p as) (s : Same H H') : GridAt C H' p as := let ⟨dx, va, vc, e, a, c⟩ := h; ⟨dx, va, vc, s _ _ e, a.same s, c.same s⟩
structure GTxt (K : PySem.W.Frag) (mg : Str → Option Value) (C E B : Addr) : Prop where
  cl : Cls K C
  nA : NoAttr K C "axes"
  nC : NoAttr K C "cells"
  nS : NoAttr K C "size"
  mgC : mg "Grid" = some (.ref C)
  ca : PySem.W.findIn K (.ref C) "__class__" = some (some (.builtin "object.__class__"))
  cn : PySem.W.specialIn K (.builtin "object.__class__") "__get__" = some (some (.builtin "getset_descriptor.__get__"))
  ct : PySem.W.takesIn K (.builtin "object.__class__") = some true
  cm : PySem.W.mroIn K C (.type "object") = some true
  ox : OexC K E
  mgE : mg "NoGrid" = some (.ref E)
  noW : PySem.W.findIn K (.ref E) "word" = some none
  xf : XfC K E
  exm : PySem.W.exmOne K (.ref E) (.ref E) = some true
  up : PySem.W.kitCls K (.ref E) (.ref B) = some true
  neB : E ≠ B
  mgB : mg "ToldError" = some (.ref B)
/-- an error with this word is let out; but for what stands at p all is as it was -/
def Raised (E : Addr) (p : Addr) (H : Hp) (X : XK) (w : Str) : Prop := ∀ d H', (∀ a o, a ≠ p → H a = some o → H' a = some o) → H' d = some (.xd [(("word" : Str), .str w)]) → X (.ref E) (some d) H'
theorem Raised.at {E p : Addr} {H H1 : Hp} {X : XK} {w : Str} (h : Raised E p H X w) (s : ∀ a o, a ≠ p → H a = some o → H1 a = some o) : Raised E p H1 X w := fun d H' s' => h d H' fun a o n e => s' a o n (s a o n e)
def spInit (K : PySem.W.Frag) (C E : Addr) : Sp := fun vs H Q X => ∃ p dx x, vs = [.ref p, x] ∧ H p = some (.ins C dx []) ∧ Kn 3 H x ∧
  ((∃ w, Wrong H x w ∧ Raised E p H X w) ∨ (∃ as, Right H x as ∧ ∀ H', (∀ a o, a ≠ p → H a = some o → H' a = some o) → GridAt C H' p as → Q .non H'))
def spEq (K : PySem.W.Frag) (C : Addr) : Sp := fun vs H Q _ => ∃ p y as, vs = [.ref p, y] ∧ GridAt C H p as ∧ AxOk as ∧
  ((∃ q bs, y = .ref q ∧ GridAt C H q bs ∧ AxOk bs ∧ ∀ r : Bool, (r = true ↔ as = bs) → Q (.bl r) H) ∨ (∃ ty, TyX K H y ty ∧ PySem.W.kitOne K ty (.ref C) = some false ∧ Q (.bl false) H))
theorem raised_ok {K : PySem.W.Frag} {E p : Addr} {H : Hp} {X : XK} {w : Str} (h : Raised E p H X w) : ([V.str w] : List V).length ≤ 1000 ∧ ∀ a, H a = none → spErr K E (.ref a :: ([V.str w] ++ [])) (upd H a (exo a E none))
    (fun v H2 => v = .non ∧ ∃ (d : Addr) (fs : List (Str × V)), H2 a = some (exo a E (some d)) ∧ H2 d = some (exd d fs) ∧ H d = none ∧ X (.ref E) (some d) (upd (del H2 a) d (.xd fs))) (fun _ _ _ => False) := by
  refine ⟨by show 1 ≤ 1000; decide, fun a ha => ⟨a, .str w, rfl, upd_same, fun d hd ne => ?_⟩⟩
  have hd' : H d = none := by
    rw [upd_ne ne] at hd
    exact hd
  refine ⟨rfl, d, _, upd_same, by rw [upd_ne ne, upd_same], hd', h d _ (fun b o _ e => ?_) upd_same⟩
  have nb : b ≠ d := ne_of_none e hd'
  have na : b ≠ a := ne_of_none e ha
  rw [upd_ne nb, del_ne na, upd_ne na, upd_ne nb, upd_ne na]
  exact e
/-- a comprehension over a row with any target -/
theorem lc_eachG {xs : List V} {J : It} {te : TE} {g : TG} {vs : List Nat} {σ : St} {H : Hp} {D : Addr} {Qd : Hp → Prop} (σ2 : Nat → St) (G : Nat → List V → Hp → Prop) (wk : Walk J xs.length (fun H' => Same H H') (YAt xs)) (nD : H D = none) (len : xs.length ≤ 1000)
    (hg : ∀ j v, xs[j]? = some v → ∀ H' (Q : St → Hp → Prop), Same H H' → Q (σ2 j) H' → g v (wipe σ vs) H' Q) (hw : ∀ j, j < xs.length → wipe (σ2 j) vs = wipe σ vs)
    (g0 : G 0 [] H) (gl : ∀ j us H', G j us H' → us.length = j) (gs : ∀ j us H' H'', Same H' H'' → G j us H' → G j us H'')
    (gb : ∀ j us H' old o, H' D = some (.lst old) → G j us H' → G j us (upd H' D o))
    (elem : ∀ j v us, xs[j]? = some v → ∀ H' (Q : VK), Same H H' → G j us H' → (∀ u H'', Same H' H'' → G (j + 1) (us ++ [u]) H'' → Q u H'') → te (σ2 j) H' Q) (hd : ∀ us H', Same H H' → H' D = some (.lst us) → G xs.length us H' → Qd H') :
    ∃ W : Nat → Nat → Hp → Prop, (∃ m, W 0 m (upd H D (.lst []))) ∧ ∀ j m H', W j m H' → ((J.stop j H' ∧ Qd H') ∨ (J.go j H' ∧ ∃ Nx : Hp → Prop, (∀ H', Nx H' → ∃ m', m' < m ∧ W (j + 1) m' H') ∧
      ∀ x H2, J.yld j H' x H2 → g x (wipe σ vs) H2 fun σ2 H3 => wipe σ2 vs = wipe σ vs ∧ tYes σ2 H3 fun b H4 => if b = true then te σ2 H4 fun y H5 => ∃ acc, H5 D = some (.lst acc) ∧ acc.length < sizeLine ∧ Nx (upd H5 D (.lst (acc ++ [y]))) else Nx H4)) := by
  refine lc_it wk (fun j H' => Same H H' ∧ ∃ us, H' D = some (.lst us) ∧ G j us H') ⟨new nD, [], upd_same, gs 0 [] H _ (new nD) g0⟩ (fun _ _ _ h => h.1) ?_ ?_
  · rintro j v H1 H2 hj ⟨s1, us, e1, g1⟩ ⟨rfl, hv⟩
    refine hg j v hv _ _ s1 ⟨hw j hj, ?_⟩
    unfold tYes
    refine iteT (elem j v us hv _ _ s1 g1 fun u H3 s3 g3 => ⟨us, s3 _ _ e1, ?_, fun c o e => ?_, us ++ [u], upd_same, ?_⟩)
    · rw [gl j us _ g1]
      exact Nat.lt_of_lt_of_le (show j < 1000 by omega) (by decide)
    · rw [upd_ne (ne_of_none e nD)]
      exact s3 _ _ (s1 _ _ e)
    · exact gb _ _ H3 us _ (s3 _ _ e1) g3
  · rintro H1 ⟨s1, us, e1, g1⟩
    exact hd us H1 s1 e1 g1
section
variable {P : Program} {w : World} {K : PySem.W.Frag} {mg : Str → Option Value} {base : Heap} {C E B f g h : Addr} {fd gd hd : FuncData}
theorem scErr : FnScope ["self", "word"] ["self", "word"] (defScope sErr) := ⟨rfl, rfl, rfl, by decide +kernel, rfl, by decide +kernel, by decide +kernel⟩
theorem ok_err (F : FnP K "__init__" "NoGrid.__init__" sErr [] f fd) (T : GTxt K mg C E B) : FnOk P w K mg base CX0 1 f fd ["self", "word"] (spErr K E) := by
  refine F.ok scErr (fun vs H Q X z => ?_) (fun cdv A outer s H vs Q X hr z => ?_)
  · obtain ⟨a, v, rfl, _⟩ := z
    rfl
  · obtain ⟨a, v, rfl, ha, k⟩ := z
    refine ⟨_, PSs.nox (pss_one (ps_ost (pv 0) (pv 1))), ?_⟩
    exact ⟨_, rfl, _, rfl, a, E, rfl, T.ox, T.noW, .inl ⟨ha, fun d hd ne => k d hd ne⟩⟩
theorem ty_grid (T : GTxt K mg C E B) {H : Hp} {p : Addr} {as : List Ax} (h : GridAt C H p as) : TyX K H (.ref p) (.ref C) := by
  obtain ⟨dx, va, vc, e, _⟩ := h
  exact .base (.ins e T.cl T.ca T.cn T.ct T.cm)
theorem kit_self {K : PySem.W.Frag} {t : Value} : PySem.W.kitOne K t t = some true := by
  unfold PySem.W.kitOne
  rw [if_pos (beq_self_eq_true t)]
theorem scEq : FnScope ["self", "other"] ["self", "other"] (defScope sEq) := ⟨rfl, rfl, rfl, by decide +kernel, rfl, by decide +kernel, by decide +kernel⟩
theorem ok_eq (F : FnP K "__eq__" "Grid.__eq__" sEq [] f fd) (T : Txt K mg) (G : GTxt K mg C E B) : FnOk P w K mg base CX0 1 f fd ["self", "other"] (spEq K C) := by
  refine F.ok scEq (fun vs H Q X z => ?_) (fun cdv A outer s H vs Q X hr z => ?_)
  · obtain ⟨p, y, as, rfl, _⟩ := z
    rfl
  · obtain ⟨p, y, as, rfl, gp, oa, z⟩ := z
    refine ⟨_, PSs.nox (pss_one (ps_ret (pe_and (pe_callB call_isi (by rfl) T.isinst (by decide +kernel) (pa_cons (pv 1) (pa_cons (pe_glob (v := .ref C) (by rfl) G.mgC rfl) pa_nil)))
      (pe_one (pe_cmpR (op_eqD hr.units) (pe_fld (pv 0) rfl) (pe_fld (pv 1) rfl) (nomark _)))))), ?_⟩
    rcases z with ⟨q, bs, rfl, gq, ob, k⟩ | ⟨ty, hty, hk, k⟩
    · have t2 := ty_grid G gq
      obtain ⟨dx, va, vc, e1, a1, _⟩ := gp
      obtain ⟨dy, vb, vd, e2, a2, _⟩ := gq
      refine ⟨_, rfl, _, .ref C, .ref C, _, true, rfl, .own C, t2, kit_self, true, rfl, iteT ?_⟩
      refine ⟨_, rfl, p, C, dx, _, _, rfl, e1, G.cl, G.nA, flds_axes _ _ _, _, rfl, q, C, dy, _, _, rfl, e2, G.cl, G.nA, flds_axes _ _ _, _, _, dp_axs a1, dp_axs a2, shaped_axs oa, shaped_axs ob, k _ (eqv_axs as bs)⟩
    · exact ⟨_, rfl, y, .ref C, ty, _, false, rfl, .own C, hty, hk, false, rfl, iteF k⟩
end
end KG

set_option Elab.async false
set_option linter.all false
set_option maxRecDepth 100000
set_option maxHeartbeats 4000000
namespace KG
open PySem L2 TL
theorem Few.len {ps : List Pr} (f : Few ps) : ps.length ≤ 100 := Nat.le_trans f.2 (by decide)
/-- the pairs of a row, and the things in them -/
theorem pairs_kn {H : Hp} {x : V} {ps : List Pr} (k : Kn 3 H x) (h : PairsOf H x ps) : ∃ xs, Row H x xs ∧ All2 (fun v p => Row H v [p.1, p.2]) xs ps ∧ (∀ v ∈ xs, Kn 2 H v) ∧ ∀ p ∈ ps, Kn 1 H p.1 ∧ Kn 1 H p.2 := by
  obtain ⟨xs, r, a⟩ := h
  have kx := (k.of_row r).2
  refine ⟨xs, r, a, kx, fun p hp => ?_⟩
  obtain ⟨i, hi, rfl⟩ := List.mem_iff_getElem.mp hp
  have lt : i < xs.length := by rw [a.1]; exact hi
  have rv := a.2 i xs[i] ps[i] (List.getElem?_eq_getElem lt) (List.getElem?_eq_getElem hi)
  have k2 := ((kx _ (List.getElem_mem lt)).of_row rv).2
  exact ⟨k2 _ List.mem_cons_self, k2 _ (List.mem_cons_of_mem _ List.mem_cons_self)⟩
theorem take_snoc {α : Type} {l : List α} {j : Nat} {a : α} (h : l[j]? = some a) : l.take (j + 1) = l.take j ++ [a] := by
  rw [List.take_add_one, h]
  rfl
theorem take_all {α : Type} {l : List α} {n : Nat} (h : n = l.length) : l.take n = l := List.take_of_length_le (Nat.le_of_eq h.symm)
theorem Unlike.iff {H : Hp} {D : Addr} {ps : List Pr} (f : Few ps) (e : H D = some (.lst (ps.map (·.1)))) : Unlike H (.ref D) ↔ NameOk ps := by
  constructor
  · rintro ⟨xs, r, _, al, nd⟩
    obtain rfl := r.one ⟨D, rfl, .inl e⟩
    exact ⟨fun p hp => al _ (List.mem_map_of_mem hp), nd⟩
  · rintro ⟨al, nd⟩
    refine ⟨_, ⟨D, rfl, .inl e⟩, fun z => ?_, fun x hx => ?_, nd⟩
    · have l := f.1
      have l2 : (ps.map (·.1)).length = 0 := by rw [z]; rfl
      rw [List.length_map] at l2
      omega
    · obtain ⟨p, hp, rfl⟩ := List.mem_map.mp hx
      exact al p hp
/-- a pair whose second thing is members -/
def PMem (H : Hp) (v : V) : Prop := ∃ a b, Row H v [a, b] ∧ Mem H b
theorem pmem_all {H : Hp} {xs : List V} {ps : List Pr} (a : All2 (fun v p => Row H v [p.1, p.2]) xs ps) : (∀ v ∈ xs, PMem H v) ↔ MemOk H ps := by
  constructor
  · intro h p hp
    obtain ⟨i, hi, rfl⟩ := List.mem_iff_getElem.mp hp
    have lt : i < xs.length := by rw [a.1]; exact hi
    have r := a.2 i xs[i] ps[i] (List.getElem?_eq_getElem lt) (List.getElem?_eq_getElem hi)
    obtain ⟨c, d, r2, m⟩ := h _ (List.getElem_mem lt)
    have e := r.one r2
    rw [show ps[i].2 = d from (List.cons.inj (List.cons.inj e).2).1]
    exact m
  · intro h v hv
    obtain ⟨i, hi, rfl⟩ := List.mem_iff_getElem.mp hv
    have lt : i < ps.length := by rw [← a.1]; exact hi
    exact ⟨_, _, a.2 i xs[i] ps[i] (List.getElem?_eq_getElem hi) (List.getElem?_eq_getElem lt), h _ (List.getElem_mem lt)⟩
section
variable {D : Ends} {σ : St} {H : Hp} {sp : Sp} {E : XK} {te : TE} {r : List V → Hp → VK → Prop} {c : TT} {t u a b : TS} {Q : Bool → Hp → Prop}
theorem nx_ {n : St → Hp → Prop} {r2 : VK} {b2 c2 : St → Hp → Prop} (h : n σ H) : tNext { nx := n, rt := r2, bk := b2, ct := c2 } σ H := h
theorem sq (h : a { D with nx := b D } σ H) : tSeq a b D σ H := h
theorem if_ (h : c σ H fun k H1 => if k = true then t D σ H1 else u D σ H1) : tIfS c t u D σ H := h
theorem nb_call (h : te σ H fun x H1 => sp [x] H1 (fun z H2 => ∃ k, z = .bl k ∧ Q (!k) H2) E) : tNot (tB (tCall sp [] E (tCons te tNil))) σ H Q := h
theorem nb_cb (h : te σ H fun x H1 => r [x] H1 (fun z H2 => ∃ k, z = .bl k ∧ Q (!k) H2)) : tNot (tB (tCB r (tCons te tNil))) σ H Q := h
theorem fld_cb {K : PySem.W.Frag} {ta : TE} {f : Str} (h : te σ H fun x H1 => r [x] H1 fun y H2 => ta σ H2 fun x H2 => ∃ a C dx fs, x = .ref a ∧ H2 a = some (.ins C dx fs) ∧ Cls K C ∧ NoAttr K C f ∧ fs.length < 1000 ∧
  D.nx σ (upd H2 a (.ins C dx (putF f y fs)))) : sFld K ta (tCB r (tCons te tNil)) f D σ H := h
end
section
variable {P : Program} {w : World} {K : PySem.W.Frag} {mg : Str → Option Value} {base : Heap} {C E B f g h : Addr} {fd gd hd : FuncData}
theorem scInit : FnScope ["self", "axes", "axis", "name", "members"] ["self", "axes"] (defScope sInit) := ⟨rfl, rfl, rfl, by decide +kernel, rfl, by decide +kernel, by decide +kernel⟩
abbrev rTup (K : PySem.W.Frag) : List V → Hp → VK → Prop := fun xs H Q => ∃ p ys, xs = [.ref p] ∧ ((SqL K H p ys ∧ ∀ l, H l = none → Q (.ref l) (upd H l (.tup ys))) ∨ (SqT K H p ys ∧ Q (.ref p) H))
abbrev gPair (K : PySem.W.Frag) : TG := fun v σ H Q => gTup K 2 (gCons (gName 3) (gCons (gName 4) gNil)) v σ H Q ∨ gLst K 2 (gCons (gName 3) (gCons (gName 4) gNil)) v σ H Q
theorem ok_init {t1 : Tok} (F : FnP K "__init__" "Grid.__init__" sInit [] f fd) (T : Txt K mg) (G : GTxt K mg C E B) (hM : mg "MOST_CELLS" = some (.int 8 t1)) (GE : ErrOk P w K mg base E 1 ["self", "word"] (spErr K E))
    (GA : GloOk P w K mg base CX0 3 "are_pairs_of_axes" ["axes"] spAxes) (GU : GloOk P w K mg base CX0 4 "are_unlike_names" ["found"] spUnlike) (GM : GloOk P w K mg base CX0 5 "are_members" ["found"] spMem) (GC : GloOk P w K mg base CX0 1 "cells_of" ["axes"] spCells) :
    FnOk P w K mg base (L2.CX P w) 6 f fd ["self", "axes"] (spInit K C E) := by
  obtain ⟨fE, fdE, GE, iE, tE, bE⟩ := GE
  obtain ⟨fA, fdA, GA, mA, kA, bA⟩ := GA
  obtain ⟨fU, fdU, GU, mU, kU, bU⟩ := GU
  obtain ⟨fM, fdM, GM, mM, kM, bM⟩ := GM
  obtain ⟨fC, fdC, GC, mC, kC, bC⟩ := GC
  refine F.ok scInit (fun vs H Q X z => ?_) (fun cdv A outer s H vs Q X hr z => ?_)
  · obtain ⟨p, dx, x, rfl, _⟩ := z
    rfl
  · obtain ⟨p, dx, x, rfl, hp, kn, z⟩ := z
    have hr1 : Room 1 _ := hr.mono (by decide)
    have hr2 : Room 2 _ := hr.mono (by decide)
    have hr3 : Room 3 _ := hr.mono (by decide)
    have hr4 : Room 4 _ := hr.mono (by decide)
    refine ⟨_, pss_cons (ps_if (pt_not (pt_val (pe_call GA hr3 rfl mA kA bA .nil pass0 (pa_cons (pv 1) pa_nil)))) (pss_one (ps_raise rfl (takes_of rfl rfl rfl rfl) (pmk_oex G.ox iE tE GE hr2 bE .nil pass0 rfl G.mgE (pa_cons pe_str pa_nil)))) pss_nil)
      (pss_cons (ps_if (pt_not (pt_val (pe_call GU hr4 rfl mU kU bU .nil pass0 (pa_cons
          (pe_lc (own := [("axis", 2)]) (g := gName 2) (tt := tYes) (by rfl) scInit.nd (pi_row (pv 1)) (blkOk_by (own := [("axis", 2)]) (N := ["self", "axes", "axis", "name", "members"]) (sc := defScope sInit) (by decide +kernel)) (fun _ _ _ _ _ => pg_name (i := 2) scInit.nd rfl (Or.inl rfl)) (fun _ _ _ _ _ => pts_nil)
            (fun _ _ _ _ _ => show PE _ _ (tOp (rIx K) (tVar 2) (tC (.int 0))) from pe_ix ix_seq (pv 2) pe_int (fun _ _ => rfl))) pa_nil)))) (pss_one (ps_raise rfl (takes_of rfl rfl rfl rfl) (pmk_oex G.ox iE tE GE hr2 bE .nil pass0 rfl G.mgE (pa_cons pe_str pa_nil)))) pss_nil)
      (pss_cons (ps_if (pt_not (pt_val (pe_callB (cr_all rfl) (by rfl) T.all (by decide +kernel) (pa_cons
          (pe_lc (own := [("axis", 2)]) (g := gName 2) (tt := tYes) (by rfl) scInit.nd (pi_row (pv 1)) (blkOk_by (own := [("axis", 2)]) (N := ["self", "axes", "axis", "name", "members"]) (sc := defScope sInit) (by decide +kernel)) (fun _ _ _ _ _ => pg_name (i := 2) scInit.nd rfl (Or.inl rfl)) (fun _ _ _ _ _ => pts_nil)
            (fun _ _ _ _ _ => show PE _ _ (tCall spMem [] E0 (tCons (tOp (rIx K) (tVar 2) (tC (.int 1))) tNil)) from pe_call GM hr rfl mM kM bM .nil pass0 (pa_cons (pe_ix ix_seq (pv 2) pe_int (fun _ _ => rfl)) pa_nil))) pa_nil)))) (pss_one (ps_raise rfl (takes_of rfl rfl rfl rfl) (pmk_oex G.ox iE tE GE hr2 bE .nil pass0 rfl G.mgE (pa_cons pe_str pa_nil)))) pss_nil)
      (pss_cons (ps_fld (pv 0) (pe_callTy call_tuple_of (by rfl) T.tuple (by decide +kernel) (pa_cons
          (pe_lc (own := [("name", 3), ("members", 4)]) (g := gPair K) (tt := tYes) (by rfl) scInit.nd (pi_row (pv 1)) (blkOk_by (own := [("name", 3), ("members", 4)]) (N := ["self", "axes", "axis", "name", "members"]) (sc := defScope sInit) (by decide +kernel))
            (fun _ _ _ _ _ => pg_or (pg_tup (by rfl) (pgs_cons (pg_name (i := 3) scInit.nd rfl (Or.inl rfl)) (pgs_cons (pg_name (i := 4) scInit.nd rfl (Or.inl rfl)) pgs_nil))) (pg_lst (by rfl) (pgs_cons (pg_name (i := 3) scInit.nd rfl (Or.inl rfl)) (pgs_cons (pg_name (i := 4) scInit.nd rfl (Or.inl rfl)) pgs_nil)))) (fun _ _ _ _ _ => pts_nil)
            (fun _ _ _ _ _ => show PE _ _ (tTup (tCons (tVar 3) (tCons (tCB (rTup K) (tCons (tVar 4) tNil)) tNil))) from pe_tup (pa_cons (pv 3) (pa_cons (pe_callTy (show CallR _ (.type "tuple") (rTup K) from call_tuple_of) (by rfl) T.tuple (by decide +kernel) (pa_cons (pv 4) pa_nil)) pa_nil)))) pa_nil)) rfl)
      (pss_cons (ps_fld (pv 0) (pe_call GC hr1 rfl mC kC bC .nil pass0 (pa_cons (pe_fld (pv 0) rfl) pa_nil)) rfl)
      (pss_cons (ps_fld (pv 0) (pe_callB call_len_seq (by rfl) T.len PySem.boot_len (pa_cons (pe_fld (pv 0) rfl) pa_nil)) rfl)
      (pss_one (ps_if (pt_cmpR op_gt (pe_fld (pv 0) rfl) (pe_glob (v := .int 8) (by rfl) hM ⟨t1, rfl⟩) (nomark _)) (pss_one (ps_raise rfl (takes_of rfl rfl rfl rfl) (pmk_oex G.ox iE tE GE hr2 bE .nil pass0 rfl G.mgE (pa_cons pe_str pa_nil)))) pss_nil))))))), ?_⟩
    refine ⟨_, rfl, x, rfl, kn.less.less, fun H1 s1 => ⟨fun hp1 => ⟨_, rfl, iteF ?_⟩, fun np => ⟨_, rfl, iteT ?_⟩⟩⟩
    · obtain ⟨ps, po, fw⟩ := pairs_of hp1
      obtain ⟨xs, rx, al, kx, kp⟩ := pairs_kn kn po
      have lx : xs.length = ps.length := al.1
      have l3 := fw.2
      have at_ : ∀ (j : Nat) (v : V), xs[j]? = some v → ∃ q, ps[j]? = some q ∧ q ∈ ps ∧ Row H v [q.1, q.2] := fun j v hv => by
        have lt := (List.getElem?_eq_some_iff.mp hv).1
        have l2 : j < ps.length := by omega
        exact ⟨ps[j], List.getElem?_eq_getElem l2, List.getElem_mem l2, al.2 j v _ hv (List.getElem?_eq_getElem l2)⟩
      have z2 : (Raised E p H X "name" ∧ ¬ NameOk ps) ∨ (Raised E p H X "members" ∧ NameOk ps ∧ ¬ MemOk H ps) ∨ (∃ as, NameOk ps ∧ MemOk H ps ∧ AsOf H ps as ∧
          ((8 < (cellsL as).length ∧ Raised E p H X "cells") ∨ ((cellsL as).length ≤ 8 ∧ ∀ H', (∀ a o, a ≠ p → H a = some o → H' a = some o) → GridAt C H' p as → Q .non H'))) := by
        rcases z with ⟨w, (⟨rfl, np⟩ | ⟨qs, qo, fq, h⟩), r⟩ | ⟨as, ⟨qs, qo, fq, n1, n2, n3, n4⟩, k⟩
        · exact (np hp1).elim
        · obtain rfl := pairs_one po qo
          rcases h with ⟨rfl, h⟩ | ⟨rfl, h1, h2⟩ | ⟨as, rfl, h1, h2, h3, h4⟩
          · exact .inl ⟨r, h⟩
          · exact .inr (.inl ⟨r, h1, h2⟩)
          · exact .inr (.inr ⟨as, h1, h2, h3, .inl ⟨h4, r⟩⟩)
        · obtain rfl := pairs_one po qo
          exact .inr (.inr ⟨as, n1, n2, n3, .inr ⟨n4, k⟩⟩)
      refine nx_ ?_
      refine sq ?_
      refine if_ (nb_call ?_)
      refine tLc_row (x := x) (xs := xs) rfl (rx.same s1) fun J wk D nD => ?_
      refine lc_each (fun j us H' => us = (ps.take j).map (·.1) ∧ j ≤ ps.length) wk nD (by omega) (fun _ => by rfl) ⟨rfl, Nat.zero_le _⟩ (fun j us H' h => ?_) (fun _ _ _ _ _ h => h) (fun _ _ _ _ _ _ h => h) (fun j v us hv H' Q' s' h k => ?_) (fun us H2 s2 e2 h => ?_)
      · rw [h.1, List.length_map, List.length_take, Nat.min_eq_left h.2]
      · obtain ⟨q, hq, hm, r⟩ := at_ j v hv
        refine ⟨_, rfl, ix_row (j := 0) (r.same (s1.trans s')) rfl (k _ _ (Same.refl _) ⟨?_, (List.getElem?_eq_some_iff.mp hq).1⟩)⟩
        rw [take_snoc hq, List.map_append, ← h.1]
        rfl
      · obtain ⟨e, _⟩ := h
        rw [take_all lx] at e
        subst e
        have s12 := s1.trans s2
        refine ⟨.ref D, rfl, .inl ⟨_, ⟨D, rfl, .inl e2⟩, by rw [List.length_map]; exact fw.len, fun y hy => ?_⟩, fun H3 s3 => ⟨fun u => ⟨_, rfl, iteF ?_⟩, fun nu => ⟨_, rfl, iteT ?_⟩⟩⟩
        · obtain ⟨q, hq, rfl⟩ := List.mem_map.mp hy
          exact (kp q hq).1.less.same s12
        · have nok := (Unlike.iff fw e2).mp u
          have s13 := s12.trans s3
          refine nx_ ?_
          refine sq ?_
          refine if_ (nb_cb ?_)
          refine tLc_row (x := x) (xs := xs) rfl (rx.same s13) fun J wk D3 nD3 => ?_
          refine lc_bits (p := PMem H) wk nD3 (by omega) (fun _ => by rfl) (fun v hv H4 Q4 s4 a => ?_) fun H4 s4 e4 => ?_
          · obtain ⟨j, hj, rfl⟩ := List.mem_iff_getElem.mp hv
            obtain ⟨q, hq, hm, r⟩ := at_ j _ (List.getElem?_eq_getElem hj)
            have s14 := s13.trans s4
            refine ⟨_, rfl, ix_row (j := 1) (r.same s14) rfl ⟨_, rfl, ?_, fun H5 s5 => ⟨fun m => (a H5 s5).1 ?_, fun nm => (a H5 s5).2 fun pm => nm ?_⟩⟩⟩
            · exact (kp q hm).2.same s14
            · exact ⟨_, _, r, (Mem.iff (kp q hm).2.less s14).mp m⟩
            · obtain ⟨c, d, r2, m⟩ := pm
              have e := r.one r2
              have ed : q.2 = d := (List.cons.inj (List.cons.inj e).2).1
              exact (Mem.iff (kp q hm).2.less s14).mpr (by rw [ed]; exact m)
          · have s14 := s13.trans s4
            refine ⟨D3, _, rfl, SqL.of e4, _, rfl, ?_⟩
            by_cases mok : MemOk H ps
            · refine itF (by rw [(bits_all _ _).mpr ((pmem_all al).mpr mok)]; rfl) ?_
              obtain ⟨as, _, _, ao, fin⟩ : ∃ as, NameOk ps ∧ MemOk H ps ∧ AsOf H ps as ∧ ((8 < (cellsL as).length ∧ Raised E p H X "cells") ∨ ((cellsL as).length ≤ 8 ∧ ∀ H', (∀ a o, a ≠ p → H a = some o → H' a = some o) → GridAt C H' p as → Q .non H')) := by
                rcases z2 with ⟨_, h⟩ | ⟨_, _, h⟩ | h
                · exact (h nok).elim
                · exact (h mok).elim
                · exact h
              have la : as.length = ps.length := ao.1.symm
              have ax_ : ∀ (j : Nat) (v : V), xs[j]? = some v → ∃ q a m ms, ps[j]? = some q ∧ as[j]? = some a ∧ Row H v [q.1, q.2] ∧ q.1 = .str a.1 ∧ q.2 = .ref m ∧ ms = a.2.map V.str ∧ (H m = some (.lst ms) ∨ H m = some (.tup ms)) := fun j v hv => by
                obtain ⟨q, hq, _, r⟩ := at_ j v hv
                have l1 := (List.getElem?_eq_some_iff.mp hq).1
                have l2 : j < as.length := by omega
                obtain ⟨a1, m, e, a2⟩ := ao.2 j q as[j] hq (List.getElem?_eq_getElem l2)
                exact ⟨q, as[j], m, _, hq, List.getElem?_eq_getElem l2, r, a1, e, rfl, a2⟩
              have sm : Small as := by
                refine ⟨by omega, fun a ha => ?_⟩
                obtain ⟨i, hi, rfl⟩ := List.mem_iff_getElem.mp ha
                have l2 : i < ps.length := by omega
                obtain ⟨ys, r2, _, _, _, l4⟩ := mok _ (List.getElem_mem l2)
                have e := r2.one (ao.2 i _ _ (List.getElem?_eq_getElem l2) (List.getElem?_eq_getElem hi)).2
                rw [e, List.length_map] at l4
                exact l4
              refine nx_ ?_
              refine sq ?_
              refine fld_cb ?_
              refine tLc_row (x := x) (xs := xs) rfl (rx.same s14) fun J wk D4 nD4 => ?_
              refine lc_eachG (fun j => [some (V.ref p), some x, none, some (ps.getD j (V.non, V.non)).1, some (ps.getD j (V.non, V.non)).2]) (fun j us H' => All2 (AxAt H') us (as.take j) ∧ j ≤ as.length) wk nD4 (by omega) (fun j v hv H' Q' s' h => ?_) (fun _ _ => by rfl) ⟨All2.nil, Nat.zero_le _⟩ (fun j us H' h => ?_) (fun j us H' H'' s' h => ⟨h.1.imp fun _ _ y => y.same s', h.2⟩) (fun j us H' old o e h => ⟨h.1.imp fun _ _ y => y.t (tsame_upd fun _ z => by rw [e] at z; cases z), h.2⟩) (fun j v us hv H' Q' s' h k => ?_) (fun us H5 s5 e5 h => ?_)
              · obtain ⟨q, a, m, ms, hq, _, r, _⟩ := ax_ j v hv
                have eq : ps.getD j (V.non, V.non) = q := by rw [List.getD_eq_getElem?_getD, hq]; rfl
                rw [eq] at h
                obtain ⟨b, rfl, hb | hb⟩ := r.same (s14.trans s')
                · exact .inr ⟨b, _, rfl, SqL.of hb, rfl, _, _, rfl, _, _, rfl, rfl, h⟩
                · exact .inl ⟨b, _, rfl, SqT.of hb, rfl, _, _, rfl, _, _, rfl, rfl, h⟩
              · rw [h.1.1, List.length_take, Nat.min_eq_left h.2]
              · obtain ⟨q, a, m, ms, hq, ha, r, n1, n2, rfl, hm⟩ := ax_ j v hv
                have eq : ps.getD j (V.non, V.non) = q := by rw [List.getD_eq_getElem?_getD, hq]; rfl
                rw [eq]
                have s15 := s14.trans s'
                have nxt : ∀ (H6 : Hp) (l r : Addr), Same H' H6 → H6 l = some (.tup (a.2.map V.str)) → H6 r = none → Q' (.ref r) (upd H6 r (.tup [q.1, .ref l])) := fun H6 l r s6 el nr => by
                  refine k _ _ (s6.trans (new nr)) ⟨?_, (List.getElem?_eq_some_iff.mp ha).1⟩
                  rw [take_snoc ha]
                  refine All2.snoc (h.1.imp fun _ _ y => y.same (s6.trans (new nr))) ⟨r, l, rfl, by rw [upd_same, n1], new nr _ _ el⟩
                refine ⟨_, rfl, _, rfl, m, a.2.map V.str, by rw [n2], ?_⟩
                rcases hm with hm | hm
                · exact .inl ⟨SqL.of (s15 _ _ hm), fun l nl => ⟨(by show 2 ≤ sizeLine; decide), fun r nr => nxt _ l r (new nl) upd_same nr⟩⟩
                · exact .inr ⟨SqT.of (s15 _ _ hm), ⟨(by show 2 ≤ sizeLine; decide), fun r nr => nxt _ m r (Same.refl _) (s15 _ _ hm) nr⟩⟩
              · obtain ⟨h, _⟩ := h
                rw [take_all (by omega)] at h
                refine ⟨D4, us, rfl, .inl ⟨SqL.of e5, fun l nl => ?_⟩⟩
                have s16 : Same H (upd H5 l (.tup us)) := (s14.trans s5).trans (new nl)
                have ax6 : AxesAt (upd H5 l (.tup us)) (.ref l) as := ⟨l, us, rfl, upd_same, h.imp fun _ _ y => y.same (new nl)⟩
                generalize upd H5 l (.tup us) = H6 at s16 ax6 ⊢
                have nt : ∀ (H' : Hp) (o : HO), H' p = some o → (∀ xs, o ≠ .tup xs) → ∀ xs, H' p ≠ some (.tup xs) := fun H' o e n xs z => n xs (Option.some.inj (e.symm.trans z))
                refine ⟨_, rfl, p, C, dx, _, rfl, s16 _ _ hp, G.cl, G.nA, (by show 0 < 1000; decide), ?_⟩
                refine nx_ ?_
                refine sq ?_
                have ax7 := ax6.t (tsame_upd (p := p) (o := .ins C dx (putF "axes" (.ref l) [])) (nt _ _ (s16 _ _ hp) fun _ z => by cases z))
                refine ⟨_, rfl, p, C, dx, _, _, rfl, upd_same, G.cl, G.nA, f1_axes _, .ref l, as, rfl, ax7, sm, fun vc H8 s8 cc => ?_⟩
                have ep8 := s8 _ _ (upd_same (H := H6) (a := p) (o := .ins C dx (putF "axes" (.ref l) [])))
                refine ⟨_, rfl, p, C, dx, _, rfl, ep8, G.cl, G.nC, (by show 1 < 1000; decide), ?_⟩
                refine nx_ ?_
                refine sq ?_
                have t9 := tsame_upd (p := p) (o := .ins C dx (putF "cells" vc (putF "axes" (.ref l) []))) (nt _ _ ep8 fun _ z => by cases z)
                have ax9 := (ax7.same s8).t t9
                have cc9 := cc.t t9
                obtain ⟨pc, ws, rfl, hpc, alc⟩ := id cc9
                refine ⟨_, rfl, p, C, dx, _, _, rfl, upd_same, G.cl, G.nC, f2_cells _ _, pc, _, rfl, .inr (SqT.of hpc), _, rfl, p, C, dx, _, rfl, upd_same, G.cl, G.nS, (by show 2 < 1000; decide), ?_⟩
                refine nx_ ?_
                have t10 := tsame_upd (H := upd H8 p (.ins C dx (putF "cells" (.ref pc) (putF "axes" (.ref l) [])))) (p := p) (o := .ins C dx (putF "size" (.int (ws.length : Int)) (putF "cells" (.ref pc) (putF "axes" (.ref l) [])))) (nt _ _ upd_same fun _ z => by cases z)
                have ax10 := ax9.t t10
                have cc10 := cc9.t t10
                have lw : ws.length = (cellsL as).length := alc.1
                have fr : ∀ a o, a ≠ p → H a = some o → (upd (upd H8 p (.ins C dx (putF "cells" (.ref pc) (putF "axes" (.ref l) [])))) p (.ins C dx (putF "size" (.int (ws.length : Int)) (putF "cells" (.ref pc) (putF "axes" (.ref l) []))))) a = some o := fun a o ne e => by
                  rw [upd_ne ne, upd_ne ne]
                  refine s8 _ _ ?_
                  rw [upd_ne ne]
                  exact s16 _ _ e
                refine ⟨_, rfl, p, C, dx, _, _, rfl, upd_same, G.cl, G.nS, flds_size _ _ _, _, _, rfl, rfl, _, rfl, ?_⟩
                rcases fin with ⟨big, r⟩ | ⟨le, k⟩
                · refine itT (decide_eq_true (by omega)) ?_
                  exact raised_ok (r.at fr)
                · refine itF (decide_eq_false (by omega)) ?_
                  refine nx_ ?_
                  refine k _ fr ⟨dx, .ref l, .ref pc, ?_, ax10, cc10⟩
                  rw [← lw]
                  exact upd_same
            · have nb : (bits (PMem H) xs).all id = false := by
                cases q : (bits (PMem H) xs).all id with
                | false => rfl
                | true => exact (mok ((pmem_all al).mp ((bits_all _ _).mp q))).elim
              refine itT (by rw [nb]; rfl) ?_
              rcases z2 with ⟨_, h⟩ | ⟨r, _⟩ | ⟨as, _, h, _⟩
              · exact (h nok).elim
              · exact raised_ok (r.at fun a o _ e => s14 _ _ e)
              · exact (mok h).elim
        · rcases z2 with ⟨r, _⟩ | ⟨_, ok, _⟩ | ⟨as, ok, _⟩
          · exact raised_ok (r.at fun a o _ e => (s12.trans s3) _ _ e)
          · exact (nu ((Unlike.iff fw e2).mpr ok)).elim
          · exact (nu ((Unlike.iff fw e2).mpr ok)).elim
    · have r : Raised E p H X "axes" := by
        rcases z with ⟨w, (⟨rfl, _⟩ | ⟨ps, po, fw, _⟩), r⟩ | ⟨as, ⟨ps, po, fw, _⟩, _⟩
        · exact r
        · exact (np (of_pairs po fw)).elim
        · exact (np (of_pairs po fw)).elim
      exact raised_ok (r.at fun a o _ e => s1 _ _ e)
end
end KG

set_option Elab.async false
set_option linter.all false
set_option maxRecDepth 100000
set_option maxHeartbeats 4000000
/-! law k04: the law's own stream -/
namespace KG
open PySem L2 TL
abbrev sStream : Stmt := top 45
abbrev sDraw : Stmt := top 46
/-- sizes that every number here stays below -/
def Sz (n : Nat) (z : Int) : Prop := z.natAbs < 2 ^ n
/-- nothing but what stands at l has changed -/
def But (l : Addr) (H H' : Hp) : Prop := ∀ b o, b ≠ l → H b = some o → H' b = some o
theorem But.trans {l : Addr} {H H1 H2 : Hp} (a : But l H H1) (b : But l H1 H2) : But l H H2 := fun c o n e => b c o n (a c o n e)
theorem But.of {l : Addr} {H H' : Hp} (s : Same H H') : But l H H' := fun c o _ e => s c o e
/-- the stream: three ints in a list -/
def Strm (H : Hp) (l : Addr) : Prop := ∃ c f n : Int, H l = some (.lst [.int c, .int f, .int n])
def spStream (K : PySem.W.Frag) : Sp := fun vs H Q _ => ∃ (a : Addr) (ns : List Int) (k : Nat), vs = [.ref a, .int k] ∧ SqL K H a (ns.map V.int) ∧ k < 1000 ∧ ∀ p H', Same H H' → H p = none → Strm H' p → Q (.ref p) H'
def spDraw : Sp := fun vs H Q _ => ∃ (l : Addr) (m : Int), vs = [.ref l, .int m] ∧ Strm H l ∧ 0 < m ∧ Sz 8000 m ∧ ∀ (d : Int) H', 0 ≤ d → d < m → But l H H' → Strm H' l → Q (.int d) H'
section
variable {P : Program} {w : World} {K : PySem.W.Frag} {mg : Str → Option Value} {base : Heap} {C E B f g h : Addr} {fd gd hd : FuncData}
theorem scStream : FnScope ["script", "k", "cell"] ["script", "k"] (defScope sStream) := ⟨rfl, rfl, rfl, by decide +kernel, rfl, by decide +kernel, by decide +kernel⟩
theorem ok_stream (F : FnP K "_law_stream" "_law_stream" sStream [] f fd) (T : Txt K mg) : FnOk P w K mg base CX0 1 f fd ["script", "k"] (spStream K) := by
  refine F.ok scStream (fun vs H Q X z => ?_) (fun cdv A outer s H vs Q X hr z => ?_)
  · obtain ⟨a, ns, k, rfl, _⟩ := z
    rfl
  · obtain ⟨a, ns, k, rfl, hS, hk, q⟩ := z
    refine ⟨_, PSs.nox (pss_cons (ps_set (i := 2) scStream.nd rfl (Or.inl rfl) pe_int)
      (pss_cons (ps_if (pt_cmpR op_lt (pv 1) (pe_callB call_len_seq (by rfl) T.len PySem.boot_len (pa_cons (pv 0) pa_nil)) (nomark _))
        (pss_one (ps_set (i := 2) scStream.nd rfl (Or.inl rfl) (pe_callB call_abs (by rfl) T.abs (by decide +kernel) (pa_cons (pe_ix ix_list (pv 0) (pv 1) (fun _ _ => rfl)) pa_nil)))) pss_nil)
      (pss_one (ps_ret (pe_lst (pa_cons (pv 2) (pa_cons (pe_callTy call_int1 (by rfl) T.int (by decide +kernel) (pa_cons (pe_cmpR op_ge (pv 2) (pe_op op_pow pe_int pe_int) (nomark _)) pa_nil)) (pa_cons (pe_op op_mul pe_int (pv 1)) pa_nil)))))))), ?_⟩
    -- what comes behind, whatever the cell
    have tail : ∀ c : Int, ∃ v, ([some (V.ref a), some (V.int (k : Int)), some (V.int c)] : St)[2]? = some (some v) ∧ ∃ y, ([some (V.ref a), some (V.int (k : Int)), some (V.int c)] : St)[2]? = some (some y) ∧
        ∃ i j, V.int 10 = V.int i ∧ V.int 18 = V.int j ∧ CPow i j ∧ ∃ i' j', y = V.int i' ∧ V.int (i ^ j.toNat) = V.int j' ∧
          ((∃ i, [V.bl (decide (j' ≤ i'))] = [V.int i] ∧ False) ∨ ∃ kk, [V.bl (decide (j' ≤ i'))] = [V.bl kk] ∧ ∃ z, ([some (V.ref a), some (V.int (k : Int)), some (V.int c)] : St)[1]? = some (some z) ∧ ∃ i j, V.int 1000 = V.int i ∧ z = V.int j ∧ CMul i j ∧
            ([v, V.int (if kk then 1 else 0), V.int (i * j)] : List V).length ≤ sizeLine ∧ ∀ p, H p = none → Q (.ref p) (upd H p (.lst [v, V.int (if kk then 1 else 0), V.int (i * j)]))) := fun c =>
      ⟨_, rfl, _, rfl, _, _, rfl, rfl, ⟨by decide, by decide, by decide⟩, _, _, rfl, rfl, .inr ⟨_, rfl, _, rfl, _, _, rfl, rfl, .inl ⟨by decide, by decide⟩, (by show 3 ≤ sizeLine; decide), fun p hp => q p _ (fun b o e => by rw [upd_ne (ne_of_none e hp)]; exact e) hp ⟨_, _, _, upd_same⟩⟩⟩
    have hlen : (ns.map V.int).length = ns.length := List.length_map ..
    refine ⟨_, rfl, _, rfl, a, _, rfl, .inl hS, _, _, rfl, rfl, _, rfl, ?_⟩
    by_cases c : (k : Int) < ((ns.map V.int).length : Int)
    · refine itT (decide_eq_true c) ?_
      have hk2 : k < ns.length := by rw [hlen] at c; omega
      refine ⟨_, rfl, _, rfl, a, _, (k : Int), V.int ns[k], rfl, rfl, hS, atI_nat (by rw [List.getElem?_map, List.getElem?_eq_getElem hk2]; rfl), _, rfl, ?_⟩
      obtain ⟨v, h1, y, h2, i, j, h3, h4, h5, i', j', h6, h7, h8⟩ := tail (if ns[k] < 0 then -ns[k] else ns[k])
      refine ⟨v, h1, y, h2, i, j, h3, h4, h5, i', j', h6, h7, ?_⟩
      rcases h8 with ⟨_, _, z⟩ | z
      · exact z.elim
      · exact .inr z
    · refine itF (decide_eq_false c) ?_
      obtain ⟨v, h1, y, h2, i, j, h3, h4, h5, i', j', h6, h7, h8⟩ := tail 0
      refine ⟨v, h1, y, h2, i, j, h3, h4, h5, i', j', h6, h7, ?_⟩
      rcases h8 with ⟨_, _, z⟩ | z
      · exact z.elim
      · exact .inr z
theorem mod_in {x m : Int} (h : 0 < m) : 0 ≤ x % m ∧ x % m < m := ⟨Int.emod_nonneg _ (by omega), Int.emod_lt_of_pos _ h⟩
theorem scDraw : FnScope ["stream", "many", "digit", "mixed"] ["stream", "many"] (defScope sDraw) := ⟨rfl, rfl, rfl, by decide +kernel, rfl, by decide +kernel, by decide +kernel⟩
theorem ok_draw (F : FnP K "_law_draw" "_law_draw" sDraw [] f fd) (T : Txt K mg) : FnOk P w K mg base CX0 1 f fd ["stream", "many"] spDraw := by
  refine F.ok scDraw (fun vs H Q X z => ?_) (fun cdv A outer s H vs Q X hr z => ?_)
  · obtain ⟨l, m, rfl, _⟩ := z
    rfl
  · obtain ⟨l, m, rfl, ⟨c, e, n, hl⟩, hm, hs, q⟩ := z
    refine ⟨_, PSs.nox (pss_cons (ps_asg (pe_op op_add (pe_ix ix_list (pv 0) pe_int (fun _ _ => rfl)) pe_int) (pg_sub (pv 0) pe_int set_list))
      (pss_cons (ps_if (PW.pt (pw_and (pt_cmpR op_eq (pe_ix ix_list (pv 0) pe_int (fun _ _ => rfl)) pe_int (nomark _)) (pw_and1 (pt_cmpR op_gt (pe_ix ix_list (pv 0) pe_int (fun _ _ => rfl)) pe_int (nomark _)))))
        (pss_cons (ps_set (i := 2) scDraw.nd rfl (Or.inl rfl) (pe_op op_mod (pe_callTy call_int1 (by rfl) T.int (by decide +kernel) (pa_cons (pe_ix ix_list (pv 0) pe_int (fun _ _ => rfl)) pa_nil)) (pv 1)))
        (pss_cons (ps_asg (pe_op op_fdivW (pe_callTy call_int1 (by rfl) T.int (by decide +kernel) (pa_cons (pe_ix ix_list (pv 0) pe_int (fun _ _ => rfl)) pa_nil)) (pv 1)) (pg_sub (pv 0) pe_int set_list))
        (pss_one (ps_ret (pv 2))))) pss_nil)
      (pss_cons (ps_set (i := 3) scDraw.nd rfl (Or.inl rfl) (pe_op op_mod (pe_callTy call_int1 (by rfl) T.int (by decide +kernel) (pa_cons (pe_op op_mul (pe_op op_add (pe_op op_add (pe_ix ix_list (pv 0) pe_int (fun _ _ => rfl)) (pe_op op_mul pe_int (pe_ix ix_list (pv 0) pe_int (fun _ _ => rfl)))) pe_int) pe_int) pa_nil)) pe_int))
      (pss_cons (ps_set (i := 3) scDraw.nd rfl (Or.inl rfl) (pe_op op_mod (pe_callTy call_int1 (by rfl) T.int (by decide +kernel) (pa_cons (pe_op op_mul (pv 3) (pe_op op_add (pe_op op_fdiv (pv 3) pe_int) pe_int)) pa_nil)) pe_int))
      (pss_cons (ps_set (i := 3) scDraw.nd rfl (Or.inl rfl) (pe_op op_mod (pe_callTy call_int1 (by rfl) T.int (by decide +kernel) (pa_cons (pe_op op_mul (pv 3) (pe_op op_add (pe_op op_fdiv (pv 3) pe_int) pe_int)) pa_nil)) pe_int))
      (pss_one (ps_ret (pe_op op_mod (pe_callTy call_int1 (by rfl) T.int (by decide +kernel) (pa_cons (pe_op op_fdiv (pv 3) pe_int) pa_nil)) (pv 1))))))))), ?_⟩
    -- stream[2] = stream[2] + 1
    refine ⟨_, rfl, l, _, _, V.int n, rfl, rfl, SqL.of hl, at_of (j := 2) rfl rfl, _, _, rfl, rfl, _, rfl, l, _, _, 2, rfl, rfl, hl, rfl, ?_⟩
    have h1 : (upd H l (.lst [V.int c, V.int e, V.int (n + 1)])) l = some (.lst [V.int c, V.int e, V.int (n + 1)]) := upd_same
    -- the test
    refine ⟨_, rfl, l, _, _, V.int e, rfl, rfl, SqL.of h1, at_of (j := 1) rfl rfl, rfl, _, rfl, ?_⟩
    rcases Decidable.em (V.int e = V.int 1) with c1 | c1
    · refine itT (decide_eq_true c1) ?_
      refine ⟨_, rfl, l, _, _, V.int c, rfl, rfl, SqL.of h1, at_of (j := 0) rfl rfl, _, _, rfl, rfl, _, rfl, ?_⟩
      rcases Decidable.em ((0 : Int) < c) with c2 | c2
      · refine itT (decide_eq_true c2) ?_
        have hs' := PySem.Flt.log2_lt_of (by decide) hs
        refine ⟨_, rfl, l, _, _, V.int c, rfl, rfl, SqL.of h1, at_of (j := 0) rfl rfl, .inl ⟨_, rfl, _, rfl, _, _, rfl, rfl, hm, ?_⟩⟩
        refine ⟨_, rfl, l, _, _, V.int c, rfl, rfl, SqL.of h1, at_of (j := 0) rfl rfl, .inl ⟨_, rfl, _, rfl, _, _, rfl, rfl, ⟨hm, by omega⟩, _, rfl, l, _, _, 0, rfl, rfl, h1, rfl, ?_⟩⟩
        refine ⟨_, rfl, ?_⟩
        exact q _ _ (mod_in hm).1 (mod_in hm).2 (fun b o ne e => by rw [upd_ne ne, upd_ne ne]; exact e) ⟨_, _, _, upd_same⟩
      · refine itF (decide_eq_false c2) ?_
        -- the mixed one
        refine ⟨_, rfl, l, _, _, V.int c, rfl, rfl, SqL.of h1, at_of (j := 0) rfl rfl, _, rfl, l, _, _, V.int (n + 1), rfl, rfl, SqL.of h1, at_of (j := 2) rfl rfl, _, _, rfl, rfl, .inl ⟨by decide, by decide⟩, _, _, rfl, rfl, _, _, rfl, rfl, _, _, rfl, rfl, .inr ⟨by decide, by decide⟩, .inl ⟨_, rfl, _, _, rfl, rfl, (by show (0 : Int) < 2147483647; decide), ?_⟩⟩
        obtain ⟨a0, a1⟩ := mod_in (x := (c + 7919 * (n + 1) + 1) * 48271) (m := 2147483647) (by decide)
        refine ⟨_, rfl, _, rfl, _, _, rfl, rfl, ⟨by decide, by decide⟩, _, _, rfl, rfl, _, _, rfl, rfl, .inl ⟨by omega, by omega⟩, .inl ⟨_, rfl, _, _, rfl, rfl, (by show (0 : Int) < 2147483647; decide), ?_⟩⟩
        refine ⟨_, rfl, _, rfl, _, _, rfl, rfl, ⟨by decide, by decide⟩, _, _, rfl, rfl, _, _, rfl, rfl, .inl ⟨?_, ?_⟩, .inl ⟨_, rfl, _, _, rfl, rfl, (by show (0 : Int) < 2147483399; decide), ?_⟩⟩
        · exact Int.lt_of_lt_of_le (by decide) (mod_in (by decide)).1
        · exact Int.lt_trans (mod_in (by decide)).2 (by decide)
        refine ⟨_, rfl, _, _, rfl, rfl, ⟨by decide, by decide⟩, .inl ⟨_, rfl, _, rfl, _, _, rfl, rfl, hm, ?_⟩⟩
        exact q _ _ (mod_in hm).1 (mod_in hm).2 (fun b o ne e => by rw [upd_ne ne]; exact e) ⟨_, _, _, upd_same⟩
    · refine itF (decide_eq_false c1) (iteF ?_)
      -- the mixed one
      refine ⟨_, rfl, l, _, _, V.int c, rfl, rfl, SqL.of h1, at_of (j := 0) rfl rfl, _, rfl, l, _, _, V.int (n + 1), rfl, rfl, SqL.of h1, at_of (j := 2) rfl rfl, _, _, rfl, rfl, .inl ⟨by decide, by decide⟩, _, _, rfl, rfl, _, _, rfl, rfl, _, _, rfl, rfl, .inr ⟨by decide, by decide⟩, .inl ⟨_, rfl, _, _, rfl, rfl, (by show (0 : Int) < 2147483647; decide), ?_⟩⟩
      obtain ⟨a0, a1⟩ := mod_in (x := (c + 7919 * (n + 1) + 1) * 48271) (m := 2147483647) (by decide)
      refine ⟨_, rfl, _, rfl, _, _, rfl, rfl, ⟨by decide, by decide⟩, _, _, rfl, rfl, _, _, rfl, rfl, .inl ⟨by omega, by omega⟩, .inl ⟨_, rfl, _, _, rfl, rfl, (by show (0 : Int) < 2147483647; decide), ?_⟩⟩
      refine ⟨_, rfl, _, rfl, _, _, rfl, rfl, ⟨by decide, by decide⟩, _, _, rfl, rfl, _, _, rfl, rfl, .inl ⟨?_, ?_⟩, .inl ⟨_, rfl, _, _, rfl, rfl, (by show (0 : Int) < 2147483399; decide), ?_⟩⟩
      · exact Int.lt_of_lt_of_le (by decide) (mod_in (by decide)).1
      · exact Int.lt_trans (mod_in (by decide)).2 (by decide)
      refine ⟨_, rfl, _, _, rfl, rfl, ⟨by decide, by decide⟩, .inl ⟨_, rfl, _, rfl, _, _, rfl, rfl, hm, ?_⟩⟩
      exact q _ _ (mod_in hm).1 (mod_in hm).2 (fun b o ne e => by rw [upd_ne ne]; exact e) ⟨_, _, _, upd_same⟩
end
end KG

set_option Elab.async false
set_option linter.all false
set_option maxRecDepth 100000
set_option maxHeartbeats 4000000
namespace KG
open PySem L2 TL
abbrev sLNames : Stmt := top 54
theorem same_but {l : Addr} {H0 H1 H2 : Hp} (s : Same H0 H1) (n : H0 l = none) (b : But l H1 H2) : Same H0 H2 := fun c o e => b c o (ne_of_none e n) (s c o e)
theorem Strm.same {H H' : Hp} {l : Addr} (st : Strm H l) (s : Same H H') : Strm H' l := let ⟨c, e, n, h⟩ := st; ⟨c, e, n, s _ _ h⟩
theorem Strm.ne {H : Hp} {l p : Addr} (st : Strm H l) (h : H p = none) : p ≠ l := fun z => by
  obtain ⟨c, e, n, hl⟩ := st
  rw [z, hl] at h
  cases h
theorem at_nat {xs : List Nat} {d : Int} (h0 : 0 ≤ d) (h1 : d < (xs.length : Int)) : ∃ c, atI xs d = some c := by
  obtain ⟨j, rfl⟩ := Int.eq_ofNat_of_zero_le h0
  exact ⟨_, atI_nat (List.getElem?_eq_getElem (show j < xs.length by omega))⟩
theorem atI_mem {α : Type} {xs : List α} {d : Int} {c : α} (h : atI xs d = some c) : c ∈ xs := by
  unfold atI at h
  obtain ⟨k, _, e⟩ := Option.bind_eq_some_iff.mp h
  exact List.mem_of_getElem? e
theorem lt_len : LT.cps.toList.length = 26 := by decide +kernel
theorem ltdg_len : (LT ++ DG : Str).cps.toList.length = 36 := by decide +kernel
theorem flat_strs : ∀ zs : List Str, (zs.map V.str).all flatV = true
  | [] => rfl
  | _ :: r => flat_strs r
theorem str_len (a b : Str) : (a ++ b).length = a.length + b.length := Array.size_append
theorem eqF {b : Bool} (h : ¬ b = true) : b = false := Bool.eq_false_iff.mpr h
/-- what stands at l has changed; a list at p, not there at first, too -/
theorem but_upd {l p : Addr} {H H' : Hp} {o : HO} (b : But l H H') (n : H p = none) : But l H (upd H' p o) := fun c u ne e => by
  rw [upd_ne (ne_of_none e n)]
  exact b c u ne e
theorem strm_upd {l p : Addr} {H : Hp} {o : HO} (st : Strm H l) (n : p ≠ l) : Strm (upd H p o) l := by
  obtain ⟨c, e, k, h⟩ := st
  exact ⟨c, e, k, by rw [upd_ne (Ne.symm n)]; exact h⟩
theorem But.free {l p : Addr} {H H' : Hp} (b : But l H H') (st : Strm H' l) (h : H' p = none) : H p = none := by
  cases q : H p with
  | none => rfl
  | some o => rw [b p o (st.ne h) q] at h; cases h
theorem inV_strs (z : Str) : ∀ zs : List Str, inV (.str z) (zs.map V.str) = true ↔ z ∈ zs
  | [] => by
    constructor
    · intro h
      cases h
    · intro h
      cases h
  | y :: r => by
    have ih := inV_strs z r
    have e : inV (.str z) ((y :: r).map V.str) = ((y == z) || inV (.str z) (r.map V.str)) := rfl
    rw [e, Bool.or_eq_true, ih, List.mem_cons, beq_iff_eq]
    constructor
    · rintro (h | h)
      · exact .inl h.symm
      · exact .inr h
    · rintro (h | h)
      · exact .inl h.symm
      · exact .inr h
/-- a text on its way to a word -/
def Gro (z : Str) (n : Nat) : Prop := 1 ≤ (tl z).length ∧ (tl z).length ≤ n ∧ (∀ c, (tl z)[0]? = some c → Let c) ∧ ∀ c ∈ tl z, Let c ∨ Dig c
theorem gro_one {c : Nat} (h : c ∈ LT.cps.toList) : Gro ⟨#[c]⟩ 1 := by
  have l : Let c := (mem_lt c).mp h
  refine ⟨Nat.le_refl _, Nat.le_refl _, fun d hd => ?_, fun d hd => ?_⟩
  · cases hd
    exact l
  · rw [show tl (⟨#[c]⟩ : Str) = [c] from rfl] at hd
    rw [List.mem_singleton.mp hd]
    exact .inl l
theorem tl_app (a b : Str) : tl (a ++ b) = tl a ++ tl b := Array.toList_append
theorem gro_snoc {z : Str} {n c : Nat} (g : Gro z n) (h : c ∈ (LT ++ DG : Str).cps.toList) : Gro (z ++ (⟨#[c]⟩ : Str)) (n + 1) := by
  obtain ⟨g1, g2, g3, g4⟩ := g
  have lc : Let c ∨ Dig c := by
    rw [show (LT ++ DG : Str).cps.toList = LT.cps.toList ++ DG.cps.toList from Array.toList_append, List.mem_append] at h
    rcases h with h | h
    · exact .inl ((mem_lt c).mp h)
    · exact .inr ((mem_dg c).mp h)
  have e := tl_app z ⟨#[c]⟩
  rw [show tl (⟨#[c]⟩ : Str) = [c] from rfl] at e
  unfold Gro
  rw [e, List.length_append]
  refine ⟨by omega, by show _ + 1 ≤ _; omega, fun d hd => g3 d ?_, fun d hd => ?_⟩
  · rw [List.getElem?_append_left (by omega)] at hd
    exact hd
  · rcases List.mem_append.mp hd with hd | hd
    · exact g4 d hd
    · rw [List.mem_singleton.mp hd]
      exact lc
theorem gro_mono {z : Str} {m n : Nat} (g : Gro z m) (h : m ≤ n) : Gro z n := ⟨g.1, Nat.le_trans g.2.1 h, g.2.2.1, g.2.2.2⟩
def Fresh (zs : List Str) (y : Str) : Prop := y ∉ zs ∧ y ≠ "sum" ∧ y ≠ "each"
theorem one_ne {c : Nat} {z : Str} (h : z.length ≠ 1) : (⟨#[c]⟩ : Str) ≠ z := fun e => h (by rw [← e]; rfl)
theorem letter_fresh {zs : List Str} {c : Nat} (h : ¬ (⟨#[c]⟩ : Str) ∈ zs) : Fresh zs ⟨#[c]⟩ := ⟨h, one_ne (by decide), one_ne (by decide)⟩
theorem sub_len {α : Type} [DecidableEq α] : ∀ (l m : List α), l.Nodup → (∀ x ∈ l, x ∈ m) → l.length ≤ m.length
  | [], _, _, _ => Nat.zero_le _
  | x :: r, m, nd, h => by
    obtain ⟨n1, n2⟩ := List.nodup_cons.mp nd
    have hx := h x List.mem_cons_self
    have ih := sub_len r (m.erase x) n2 fun y hy => (List.mem_erase_of_ne (fun e => n1 (by rw [← e]; exact hy))).mpr (h y (List.mem_cons_of_mem _ hy))
    have l := List.length_erase_of_mem hx
    have p := List.length_pos_of_mem hx
    rw [List.length_cons]
    omega
def letL : List Str := LT.cps.toList.map fun c => (⟨#[c]⟩ : Str)
theorem letL_nd : letL.Nodup := by decide +kernel
theorem letL_len : letL.length = 26 := by decide +kernel
theorem all_letters {zs : List Str} (h : ∀ i, i < 26 → ∀ c, LT.cps[i]? = some c → (⟨#[c]⟩ : Str) ∈ zs) : 26 ≤ zs.length := by
  have := sub_len letL zs letL_nd fun x hx => by
    unfold letL at hx
    obtain ⟨c, hc, rfl⟩ := List.mem_map.mp hx
    obtain ⟨i, hi, e⟩ := List.mem_iff_getElem.mp hc
    refine h i (by rw [lt_len] at hi; exact hi) c ?_
    rw [← Array.getElem?_toList, List.getElem?_eq_getElem hi, e]
  rw [letL_len] at this
  exact this
/-- what is known of the name while the letters are gone through -/
def Mid (zs : List Str) (j : Nat) (y : Str) : Prop := Gro y 8 ∧ (Fresh zs y ∨ ∀ i, i < j → ∀ c, LT.cps[i]? = some c → (⟨#[c]⟩ : Str) ∈ zs)
theorem mid_stay {zs : List Str} {j c : Nat} {y : Str} (m : Mid zs j y) (bad : y ∈ zs ∨ y ∈ (["sum", "each"] : List Str)) (hc : LT.cps[j]? = some c) (there : (⟨#[c]⟩ : Str) ∈ zs) : Mid zs (j + 1) y := by
  refine ⟨m.1, .inr fun i hi d hd => ?_⟩
  rcases m.2 with f | f
  · rcases bad with b | b
    · exact (f.1 b).elim
    · rcases List.mem_cons.mp b with b | b
      · exact (f.2.1 b).elim
      · exact (f.2.2 (List.mem_singleton.mp b)).elim
  · rcases Nat.lt_or_eq_of_le (Nat.le_of_lt_succ hi) with l | rfl
    · exact f i l d hd
    · rw [hc] at hd
      cases hd
      exact there
theorem mid_letter {zs : List Str} {j c : Nat} (hc : LT.cps[j]? = some c) (no : ¬ (⟨#[c]⟩ : Str) ∈ zs) : Mid zs (j + 1) ⟨#[c]⟩ := by
  refine ⟨gro_mono (gro_one ?_) (by decide), .inl (letter_fresh no)⟩
  rw [← Array.getElem?_toList] at hc
  exact List.mem_of_getElem? hc
theorem mid_good {zs : List Str} {j : Nat} {y : Str} (m : Mid zs j y) (n1 : ¬ y ∈ zs) (n2 : ¬ y ∈ (["sum", "each"] : List Str)) : Mid zs (j + 1) y :=
  ⟨m.1, .inl ⟨n1, fun e => n2 (by rw [e]; exact List.mem_cons_self), fun e => n2 (by rw [e]; exact List.mem_cons_of_mem _ List.mem_cons_self)⟩⟩
theorem mid_end {zs : List Str} {y : Str} (m : Mid zs 26 y) (h : zs.length < 26) : NameS y ∧ y ∉ zs := by
  have f : Fresh zs y := m.2.elim id fun a => by have := all_letters a; omega
  obtain ⟨g1, g2, g3, g4⟩ := m.1
  exact ⟨⟨⟨g1, g2, g3, g4⟩, f.2.1, f.2.2⟩, f.1⟩
def spLNames : Sp := fun vs H Q _ => ∃ (l : Addr) (m : Nat), vs = [.ref l, .int m] ∧ Strm H l ∧ m ≤ 8 ∧ ∀ (p : Addr) (zs : List Str) (H' : Hp), But l H H' → Strm H' l → H p = none → H' p = some (.lst (zs.map V.str)) → zs.length = m → (∀ z ∈ zs, NameS z) → zs.Nodup → Q (.ref p) H'
section
variable {P : Program} {w : World} {K : PySem.W.Frag} {mg : Str → Option Value} {base : Heap} {C E B f g h : Addr} {fd gd hd : FuncData}
theorem scLNames : FnScope ["stream", "many", "letters", "found", "k", "name", "turn", "letter"] ["stream", "many"] (defScope sLNames) := ⟨rfl, rfl, rfl, by decide +kernel, rfl, by decide +kernel, by decide +kernel⟩
theorem ok_lnames (F : FnP K "_law_names" "_law_names" sLNames [] f fd) (T : Txt K mg) (GD : GloOk P w K mg base CX0 1 "_law_draw" ["stream", "many"] spDraw) : FnOk P w K mg base CX0 2 f fd ["stream", "many"] spLNames := by
  obtain ⟨fD, fdD, GD, mD, kD, bD⟩ := GD
  refine F.ok scLNames (fun vs H Q X z => ?_) (fun cdv A outer s H vs Q X hr z => ?_)
  · obtain ⟨l, m, rfl, _⟩ := z
    rfl
  · obtain ⟨l, m, rfl, st, hm, k⟩ := z
    refine ⟨_, PSs.nox (pss_cons (ps_set (i := 2) scLNames.nd rfl (Or.inl rfl) pe_str)
      (pss_cons (ps_set (i := 3) scLNames.nd rfl (Or.inl rfl) (pe_lst pa_nil))
      (pss_cons (ps_for PassesOwn.never rfl (pi_range1 rfl T.range (pa_cons (pv 1) pa_nil)) (pg_name (i := 4) scLNames.nd rfl (Or.inl rfl))
        (pss_cons (ps_set (i := 5) scLNames.nd rfl (Or.inl rfl) (pe_ix ix_str (pv 2) (pe_call GD hr rfl mD kD bD .nil pass0 (pa_cons (pv 0) (pa_cons pe_int pa_nil))) (fun _ _ => rfl)))
        (pss_cons (ps_for PassesOwn.never rfl (pi_range1 rfl T.range (pa_cons (pe_call GD hr rfl mD kD bD .nil pass0 (pa_cons (pv 0) (pa_cons (pe_ix ix_list (pe_lst (pa_cons pe_int (pa_cons pe_int (pa_cons pe_int pa_nil))))
            (pe_call GD hr rfl mD kD bD .nil pass0 (pa_cons (pv 0) (pa_cons pe_int pa_nil))) (fun _ _ => rfl)) pa_nil))) pa_nil)) (pg_name (i := 6) scLNames.nd rfl (Or.inl rfl))
          (pss_one (ps_set (i := 5) scLNames.nd rfl (Or.inl rfl) (pe_op op_add_str (pv 5) (pe_ix ix_str (pe_op op_add_str (pv 2) pe_str) (pe_call GD hr rfl mD kD bD .nil pass0 (pa_cons (pv 0) (pa_cons pe_int pa_nil))) (fun _ _ => rfl))))))
        (pss_cons (ps_for PassesOwn.never rfl (pi_str (pv 2)) (pg_name (i := 7) scLNames.nd rfl (Or.inl rfl))
          (pss_one (ps_if (PW.pt (pw_and (PW.pt (pw_or (pt_cmpR op_in_seq (pv 5) (pv 3) (by rfl)) (pw_or1 (pt_cmpR op_in_seq (pv 5) (pe_lst (pa_cons pe_str (pa_cons pe_str pa_nil))) (by rfl))))) (pw_and1 (pt_cmpR op_notIn_seq (pv 7) (pv 3) (by rfl)))))
            (pss_one (ps_set (i := 5) scLNames.nd rfl (Or.inl rfl) (pv 7))) pss_nil)))
        (pss_one (ps_expr (pe_bm PySem.F.plainAttrs_list PySem.F.slot_list_append PySem.F.type_list_append mt_append (pv 3) (pa_cons (pv 5) pa_nil))))))))
      (pss_one (ps_ret (pv 3)))))), ?_⟩
    refine ⟨(by show 0 ≤ sizeLine; decide), fun fp nf => ?_⟩
    have nfl : fp ≠ l := st.ne nf
    refine ⟨_, rfl, (m : Int), rfl, by omega, by omega, ?_⟩
    refine for_range (lo := 0) (n := (m : Int).toNat) (fun i σ H' => But l H H' ∧ Strm H' l ∧ ∃ (zs : List Str) (v4 v5 v6 v7 : Option V), σ = [some (.ref l), some (.int m), some (.str LT), some (.ref fp), v4, v5, v6, v7] ∧ H' fp = some (.lst (zs.map V.str)) ∧ zs.length = i ∧ (∀ z ∈ zs, NameS z) ∧ zs.Nodup)
      ⟨But.of (new nf), st.same (new nf), [], none, none, none, none, rfl, upd_same, rfl, (fun _ h => by cases h), List.nodup_nil⟩ ?_ ?_
    · rintro i σ H1 hi ⟨b1, s1, zs, v4, v5, v6, v7, rfl, e1, lz, az, nz⟩
      have i8 : i < 8 := by omega
      refine ⟨_, rfl, _, rfl, l, 26, rfl, s1, by decide, by unfold Sz; decide +kernel, fun d H2 d0 d1 b2 s2 => ?_⟩
      obtain ⟨c, hc⟩ := at_nat (xs := LT.cps.toList) d0 (by rw [lt_len]; exact d1)
      have e2 := b2 fp _ nfl e1
      refine ⟨LT, d, c, rfl, rfl, by decide +kernel, hc, ?_⟩
      refine ⟨_, rfl, (by show 3 ≤ sizeLine; decide), fun p np => ?_⟩
      have npl : p ≠ l := s2.ne np
      refine ⟨_, rfl, l, 3, rfl, s2.same (new np), by decide, by unfold Sz; decide +kernel, fun d3 H3 g0 g1 b3 s3 => ?_⟩
      have p3 := b3 p _ npl upd_same
      have e3 := b3 fp _ nfl (new np _ _ e2)
      obtain ⟨v, hv, ha⟩ := at_any (xs := [V.int 1, V.int 3, V.int 8]) g0 g1
      obtain ⟨q, rfl, q0, q1⟩ : ∃ q : Int, v = .int q ∧ 0 < q ∧ q ≤ 8 := by
        rcases List.mem_cons.mp hv with e | hv
        · exact ⟨1, e, by decide, by decide⟩
        rcases List.mem_cons.mp hv with e | hv
        · exact ⟨3, e, by decide, by decide⟩
        rcases List.mem_cons.mp hv with e | hv
        · exact ⟨8, e, by decide, by decide⟩
        · cases hv
      refine ⟨p, _, d3, _, rfl, rfl, SqL.of p3, ha, ?_⟩
      refine ⟨l, q, rfl, s3, q0, Nat.lt_of_lt_of_le (show q.natAbs < 2 ^ 4 by omega) (Nat.pow_le_pow_right (by decide) (by decide)), fun d4 H4 f0 f1 b4 s4 => ⟨d4, rfl, by omega, by omega, ?_⟩⟩
      have a4 : But l H H4 := (((b1.trans b2).trans (But.of (new np))).trans b3).trans b4
      have e4 := b4 fp _ nfl e3
      refine for_range (lo := 0) (n := d4.toNat) (fun j σ H' => But l H H' ∧ Strm H' l ∧ ∃ (z : Str) (v6 v7 : Option V), σ = [some (.ref l), some (.int m), some (.str LT), some (.ref fp), some (.int (0 + (i : Int))), some (.str z), v6, v7] ∧ H' fp = some (.lst (zs.map V.str)) ∧ Gro z (1 + j))
        ⟨a4, s4, ⟨#[c]⟩, v6, v7, rfl, e4, gro_one (atI_mem hc)⟩ ?_ ?_
      · rintro j σ H5 hj ⟨b5, s5, z, w6, w7, rfl, e5, hz⟩
        refine ⟨_, rfl, _, rfl, _, _, rfl, rfl, (by decide +kernel), _, rfl, l, 36, rfl, s5, by decide, by unfold Sz; decide +kernel, fun d6 H6 h0 h1 b6 s6 => ?_⟩
        have hz1000 : z.length ≤ 9 := by have := hz.2.1; exact Nat.le_trans this (by omega)
        obtain ⟨c6, hc6⟩ := at_nat (xs := (LT ++ DG : Str).cps.toList) h0 (by rw [ltdg_len]; exact h1)
        refine ⟨LT ++ DG, d6, c6, rfl, rfl, by decide +kernel, hc6, _, _, rfl, rfl, ?_, ?_⟩
        · exact Nat.le_trans (show z.length + 1 ≤ 1000 by omega) (by decide)
        · refine ⟨b5.trans b6, s6, z ++ (⟨#[c6]⟩ : Str), _, _, rfl, b6 fp _ nfl e5, gro_snoc hz (atI_mem hc6)⟩
      · rintro σ H5 ⟨b5, s5, z, w6, w7, rfl, e5, hz⟩
        have z9 : Mid zs 0 z := ⟨gro_mono hz (by omega), .inr fun i h => absurd h (Nat.not_lt_zero i)⟩
        refine nx_ ?_
        refine sq ?_
        refine ⟨_, rfl, LT, rfl, ?_⟩
        refine for_it walk_str (fun j σ H' => But l H H' ∧ Strm H' l ∧ ∃ (z : Str) (v7 : Option V), σ = [some (.ref l), some (.int m), some (.str LT), some (.ref fp), some (.int (0 + (i : Int))), some (.str z), w6, v7] ∧ H' fp = some (.lst (zs.map V.str)) ∧ Mid zs j z)
          ⟨b5, s5, z, w7, rfl, e5, z9⟩ (fun _ _ _ _ _ => trivial) ?_ ?_
        · rintro j x σ H6 H7 hj ⟨b6, s6, y, u7, rfl, e6, hy⟩ ⟨rfl, c7, hc7, rfl⟩
          refine ⟨_, rfl, _, rfl, fp, _, rfl, .inl (SqL.of e6), rfl, flat_strs zs, _, rfl, ?_⟩
          by_cases cA : inV (.str y) (zs.map V.str) = true
          · refine itT cA (iteT ?_)
            refine ⟨_, rfl, _, rfl, fp, _, rfl, .inl (SqL.of e6), rfl, flat_strs zs, _, rfl, ?_⟩
            by_cases cC : inV (.str ⟨#[c7]⟩) (zs.map V.str) = true
            · refine itF (by show (!inV _ _) = false; rw [cC]; rfl) ?_
              exact ⟨b6, s6, y, _, rfl, e6, mid_stay hy (.inl ((inV_strs _ _).mp cA)) hc7 ((inV_strs _ _).mp cC)⟩
            · refine itT (by show (!inV _ _) = true; rw [eqF cC]; rfl) ?_
              exact ⟨_, rfl, b6, s6, ⟨#[c7]⟩, _, rfl, e6, mid_letter hc7 fun h => cC ((inV_strs _ _).mpr h)⟩
          · refine itF (eqF cA) ?_
            refine ⟨_, rfl, (by show 2 ≤ sizeLine; decide), fun q nq => ⟨q, _, rfl, .inl (SqL.of upd_same), rfl, rfl, _, rfl, ?_⟩⟩
            have nqf : fp ≠ q := ne_of_none e6 nq
            have e7 := new (o := .lst [V.str "sum", V.str "each"]) nq _ _ e6
            have s7 := s6.same (new (o := .lst [V.str "sum", V.str "each"]) nq)
            have b7 := b6.trans (But.of (new (o := .lst [V.str "sum", V.str "each"]) nq))
            by_cases cB : inV (.str y) [V.str "sum", V.str "each"] = true
            · refine itT cB ?_
              refine ⟨_, rfl, _, rfl, fp, _, rfl, .inl (SqL.of e7), rfl, flat_strs zs, _, rfl, ?_⟩
              by_cases cC : inV (.str ⟨#[c7]⟩) (zs.map V.str) = true
              · refine itF (by show (!inV _ _) = false; rw [cC]; rfl) ?_
                exact ⟨b7, s7, y, _, rfl, e7, mid_stay hy (.inr ((inV_strs y ["sum", "each"]).mp cB)) hc7 ((inV_strs _ _).mp cC)⟩
              · refine itT (by show (!inV _ _) = true; rw [eqF cC]; rfl) ?_
                exact ⟨_, rfl, b7, s7, ⟨#[c7]⟩, _, rfl, e7, mid_letter hc7 fun h => cC ((inV_strs _ _).mpr h)⟩
            · refine itF (eqF cB) (iteF ?_)
              exact ⟨b7, s7, y, _, rfl, e7, mid_good hy (fun h => cA ((inV_strs _ _).mpr h)) fun h => cB ((inV_strs y ["sum", "each"]).mpr h)⟩
        · rintro σ H6 ⟨b6, s6, y, u7, rfl, e6, hy⟩
          obtain ⟨ny, fy⟩ := mid_end hy (by omega)
          refine nx_ ?_
          refine ⟨_, rfl, .inl ⟨rfl, _, SqL.of e6⟩, _, rfl, fp, _, _, rfl, rfl, e6, ?_, ?_⟩
          · rw [List.length_map]
            exact Nat.lt_of_lt_of_le (show zs.length < 1000 by omega) (by decide)
          · refine ⟨but_upd b6 nf, strm_upd s6 nfl, zs ++ [y], _, _, _, _, rfl, ?_, ?_, fun z hz => ?_, ?_⟩
            · rw [upd_same, List.map_append]
              rfl
            · rw [List.length_append, lz]
              rfl
            · rcases List.mem_append.mp hz with hz | hz
              · exact az z hz
              · rw [List.mem_singleton.mp hz]
                exact ny
            · refine List.nodup_append.mpr ⟨nz, (List.nodup_cons.mpr ⟨List.not_mem_nil, List.nodup_nil⟩ : [y].Nodup), fun a ha b hb e => ?_⟩
              rw [List.mem_singleton.mp hb] at e
              exact fy (by rw [← e]; exact ha)
    · rintro σ H1 ⟨b1, s1, zs, v4, v5, v6, v7, rfl, e1, lz, az, nz⟩
      refine nx_ ?_
      exact ⟨_, rfl, k fp zs H1 b1 s1 nf e1 (by omega) az nz⟩
end
end KG

set_option Elab.async false
set_option linter.all false
set_option maxRecDepth 100000
set_option maxHeartbeats 4000000
namespace KG
open PySem L2 TL
abbrev sLAxes : Stmt := top 55
theorem But.t {l : Addr} {H H' : Hp} (b : But l H H') (st : Strm H l) : TSame H H' := fun a xs e => b a _ (fun z => by
  obtain ⟨c, f, n, h⟩ := st
  rw [z, h] at e
  cases e) e
def spLAxes : Sp := fun vs H Q _ => ∃ l : Addr, vs = [.ref l] ∧ Strm H l ∧ ∀ (v : V) (as : List Ax) (H' : Hp), But l H H' → Strm H' l → AxesAt H' v as → GoodAx as → Q v H'
theorem sz_small {z : Int} (h : z.natAbs < 1000) : Sz 8000 z := Nat.lt_of_lt_of_le (Nat.lt_of_lt_of_le h (show 1000 ≤ 2 ^ 10 by decide)) (Nat.pow_le_pow_right (by decide) (by decide))
section
variable {P : Program} {w : World} {K : PySem.W.Frag} {mg : Str → Option Value} {base : Heap} {C E B f g h : Addr} {fd gd hd : FuncData}
theorem scLAxes : FnScope ["stream", "many", "room", "axes", "name", "size"] ["stream"] (defScope sLAxes) := ⟨rfl, rfl, rfl, by decide +kernel, rfl, by decide +kernel, by decide +kernel⟩
theorem ok_laxes (F : FnP K "_law_axes" "_law_axes" sLAxes [] f fd) (T : Txt K mg) (GD : GloOk P w K mg base CX0 1 "_law_draw" ["stream", "many"] spDraw) (GN : GloOk P w K mg base CX0 2 "_law_names" ["stream", "many"] spLNames) : FnOk P w K mg base CX0 3 f fd ["stream"] spLAxes := by
  obtain ⟨fD, fdD, GD, mD, kD, bD⟩ := GD
  obtain ⟨fN, fdN, GN, mN, kN, bN⟩ := GN
  refine F.ok scLAxes (fun vs H Q X z => ?_) (fun cdv A outer s H vs Q X hr z => ?_)
  · obtain ⟨l, rfl, _⟩ := z
    rfl
  · obtain ⟨l, rfl, st, k⟩ := z
    have hr1 : Room 1 _ := hr.mono (by decide)
    refine ⟨_, PSs.nox (pss_cons (ps_set (i := 1) scLAxes.nd rfl (Or.inl rfl) (pe_op op_add pe_int (pe_call GD hr1 rfl mD kD bD .nil pass0 (pa_cons (pv 0) (pa_cons pe_int pa_nil)))))
      (pss_cons (ps_set (i := 2) scLAxes.nd rfl (Or.inl rfl) pe_int)
      (pss_cons (ps_set (i := 3) scLAxes.nd rfl (Or.inl rfl) (pe_lst pa_nil))
      (pss_cons (ps_for PassesOwn.never rfl (pi_list (pe_call GN hr rfl mN kN bN .nil pass0 (pa_cons (pv 0) (pa_cons (pv 1) pa_nil)))) (pg_name (i := 4) scLAxes.nd rfl (Or.inl rfl))
        (pss_cons (ps_set (i := 5) scLAxes.nd rfl (Or.inl rfl) (pe_op op_add pe_int (pe_call GD hr1 rfl mD kD bD .nil pass0 (pa_cons (pv 0) (pa_cons (pe_callB (call_min2 rfl) (by rfl) T.min (by decide +kernel) (pa_cons pe_int (pa_cons (pv 2) pa_nil))) pa_nil)))))
        (pss_cons (ps_set (i := 2) scLAxes.nd rfl (Or.inl rfl) (pe_op op_fdiv (pv 2) (pv 5)))
        (pss_one (ps_expr (pe_bm PySem.F.plainAttrs_list PySem.F.slot_list_append PySem.F.type_list_append mt_append (pv 3) (pa_cons (pe_tup (pa_cons (pv 4) (pa_cons (pe_callTy call_tuple_of (by rfl) T.tuple (by decide +kernel)
          (pa_cons (pe_call GN hr rfl mN kN bN .nil pass0 (pa_cons (pv 0) (pa_cons (pv 5) pa_nil))) pa_nil)) pa_nil))) pa_nil)))))))
      (pss_one (ps_ret (pe_callTy call_tuple_of (by rfl) T.tuple (by decide +kernel) (pa_cons (pv 3) pa_nil)))))))), ?_⟩
    refine ⟨_, rfl, l, 3, rfl, st, by decide, by unfold Sz; decide +kernel, fun d H1 d0 d1 b1 s1 => ?_⟩
    refine ⟨_, _, rfl, rfl, ?_⟩
    refine nx_ ?_
    refine sq ?_
    refine nx_ ?_
    refine sq ?_
    refine ⟨(by show 0 ≤ sizeLine; decide), fun ap na => ?_⟩
    have nal : ap ≠ l := s1.ne na
    have s1' := s1.same (new (o := .lst []) na)
    have b1' := b1.trans (But.of (new (o := .lst []) na))
    have naH : H ap = none := b1.free s1 na
    obtain ⟨m, rfl⟩ := Int.eq_ofNat_of_zero_le d0
    have em : (1 : Int) + (m : Int) = ((1 + m : Nat) : Int) := by omega
    refine nx_ ?_
    refine sq ?_
    refine ⟨_, rfl, _, rfl, l, 1 + m, by show [V.ref l, V.int (1 + (m : Int))] = _; rw [em], s1', by omega, fun np zs H2 b2 s2 nn en lz az nz => ?_⟩
    have nnl : np ≠ l := s1'.ne nn
    have ena : H2 ap = some (.lst []) := b2 ap _ nal upd_same
    have nna : np ≠ ap := fun z => by rw [z, upd_same] at nn; cases nn
    have nnH : H np = none := b1'.free s1' nn
    refine ⟨np, rfl, ⟨_, SqL.of en⟩, ?_⟩
    refine for_it walk_list (fun j σ H' => But l H H' ∧ Strm H' l ∧ H' np = some (.lst (zs.map V.str)) ∧ ∃ (us : List V) (as : List Ax) (r : Int) (v4 v5 : Option V), σ = [some (.ref l), some (.int (1 + (m : Int))), some (.int r), some (.ref ap), v4, v5] ∧ 1 ≤ r ∧ r ≤ 8 ∧ H' ap = some (.lst us) ∧ All2 (AxAt H') us as ∧ as.length = j ∧ as.map (·.1) = zs.take j ∧ ((cellsL as).length : Int) * r ≤ 8 ∧
        ∀ a ∈ as, NameS a.1 ∧ a.2 ≠ [] ∧ a.2.Nodup ∧ a.2.length ≤ 4 ∧ ∀ q ∈ a.2, NameS q)
      ⟨b1'.trans b2, s2, en, [], [], 8, none, none, rfl, by decide, by decide, ena, All2.nil, rfl, rfl, (by decide), fun _ h => by cases h⟩ (fun _ _ _ _ h => SqL.of h.2.2.1) ?_ ?_
    · rintro j x σ H3 H3' hj ⟨b3, s3, en3, us, as, r, v4, v5, rfl, r1, r8, ea, al, la, na_, pr, aa⟩ ⟨rfl, hx⟩
      obtain ⟨nm, hnm, rfl⟩ : ∃ nm, zs[j]? = some nm ∧ x = .str nm := by
        rw [List.getElem?_map] at hx
        cases e : zs[j]? with
        | none => rw [e] at hx; cases hx
        | some q => rw [e] at hx; exact ⟨q, rfl, (Option.some.inj hx).symm⟩
      have hjl : j < zs.length := (List.getElem?_eq_some_iff.mp hnm).1
      refine ⟨_, rfl, _, rfl, _, _, rfl, l, _, rfl, s3, ?_, ?_, fun d4 H4 g0 g1 b4 s4 => ?_⟩
      · split <;> omega
      · refine sz_small ?_
        split <;> omega
      have g4 : d4 < 4 ∧ 1 + d4 ≤ r := by
        by_cases c : r < 4
        · rw [if_pos c] at g1
          omega
        · rw [if_neg c] at g1
          omega
      refine ⟨_, _, rfl, rfl, ?_⟩
      refine nx_ ?_
      refine sq ?_
      refine ⟨_, rfl, _, rfl, _, _, rfl, rfl, ⟨by omega, by omega⟩, ?_⟩
      have q1 : 1 ≤ r / (1 + d4) := Int.le_ediv_of_mul_le (by omega) (by omega)
      have q8 : r / (1 + d4) ≤ 8 := by
        have : r / (1 + d4) ≤ r := Int.ediv_le_self _ (by omega)
        omega
      obtain ⟨m4, rfl⟩ := Int.eq_ofNat_of_zero_le g0
      have em4 : (1 : Int) + (m4 : Int) = ((1 + m4 : Nat) : Int) := by omega
      have ea4 := b4 ap _ nal ea
      have en4 := b4 np _ nnl en3
      refine nx_ ?_
      refine ⟨_, rfl, .inl ⟨rfl, us, SqL.of ea4⟩, _, rfl, _, rfl, _, rfl, l, 1 + m4, by show [V.ref l, V.int (1 + (m4 : Int))] = _; rw [em4], s4, by omega, fun mp ms H5 b5 s5 nm5 em5 lm5 am5 nm6 => ?_⟩
      refine ⟨mp, _, rfl, .inl ⟨SqL.of em5, fun tp nt => ⟨(by show 2 ≤ sizeLine; decide), fun rp nr => ?_⟩⟩⟩
      have n6 : Same H5 (upd (upd H5 tp (.tup (ms.map V.str))) rp (.tup [V.str nm, V.ref tp])) := (new nt).trans (new nr)
      have ea6 := n6 _ _ (b5 ap _ nal ea4)
      have en6 := n6 _ _ (b5 np _ nnl en4)
      have t36 : TSame H3' (upd (upd H5 tp (.tup (ms.map V.str))) rp (.tup [V.str nm, V.ref tp])) := ((b4.trans b5).t s3).trans (Same.t n6)
      refine ⟨ap, us, _, rfl, rfl, ea6, ?_, ?_⟩
      · rw [al.1, la]
        exact Nat.lt_of_lt_of_le (show j < 1000 by omega) (by decide)
      · have tl6 := tsame_upd (H := upd (upd H5 tp (.tup (ms.map V.str))) rp (.tup [V.str nm, V.ref tp])) (p := ap) (o := .lst (us ++ [V.ref rp])) (fun xs z => by rw [ea6] at z; cases z)
        refine ⟨but_upd (b3.trans (b4.trans (b5.trans (But.of n6)))) naH, strm_upd (s5.same n6) nal, by rw [upd_ne nna]; exact en6, us ++ [V.ref rp], as ++ [(nm, ms)], _, _, _, rfl, q1, q8, upd_same, ?_, by rw [List.length_append, la]; rfl, ?_, ?_, fun a ha => ?_⟩
        · refine All2.snoc (al.imp fun _ _ y => (y.t t36).t tl6) (AxAt.t ⟨rp, tp, rfl, upd_same, new nr _ _ upd_same⟩ tl6)
        · rw [List.map_append, na_, take_snoc hnm]
          rfl
        · rw [cellsL_snoc, longer_len]
          show (((cellsL as).length * ms.length : Nat) : Int) * (r / (1 + (m4 : Int))) ≤ 8
          rw [lm5, em4, Int.natCast_mul, Int.mul_assoc]
          refine Int.le_trans (Int.mul_le_mul_of_nonneg_left ?_ (Int.natCast_nonneg _)) pr
          rw [Int.mul_comm]
          exact Int.ediv_mul_le _ (by omega)
        · rcases List.mem_append.mp ha with ha | ha
          · exact aa a ha
          · rw [List.mem_singleton.mp ha]
            exact ⟨az nm (List.mem_of_getElem? hnm), (fun e => by rw [show ms = [] from e] at lm5; simp only [List.length_nil] at lm5; omega), nm6, by show ms.length ≤ 4; omega, am5⟩
    · rintro σ H3 ⟨b3, s3, en3, us, as, r, v4, v5, rfl, r1, r8, ea, al, la, na_, pr, aa⟩
      rw [List.length_map] at la
      refine nx_ ?_
      refine ⟨_, rfl, ap, us, rfl, .inl ⟨SqL.of ea, fun tp nt => ?_⟩⟩
      refine k _ as _ (b3.trans (But.of (new nt))) (s3.same (new nt)) ⟨tp, us, rfl, upd_same, al.imp fun _ _ y => y.same (new nt)⟩ ?_
      refine ⟨by omega, by omega, fun a ha => ⟨(aa a ha).1, (aa a ha).2.2.2.2⟩, ?_, fun a ha => ⟨(aa a ha).2.1, (aa a ha).2.2.1, (aa a ha).2.2.2.1⟩, ?_⟩
      · rw [na_, List.length_map, List.take_of_length_le (Nat.le_refl _)]
        exact nz
      · have : ((cellsL as).length : Int) * 1 ≤ ((cellsL as).length : Int) * r := Int.mul_le_mul_of_nonneg_left r1 (Int.natCast_nonneg _)
        omega
end
end KG

/-! plain mathematics of fractions in lowest terms -/
namespace Rt
/-- the divisor that takes the sign of the bottom -/
def shr (p q : Int) : Int := if 0 < q then (Nat.gcd p.natAbs q.natAbs : Nat) else -((Nat.gcd p.natAbs q.natAbs : Nat) : Int)
def nrmT (p q : Int) : Int := p.fdiv (shr p q)
def nrmB (p q : Int) : Int := q.fdiv (shr p q)
/-- lowest terms -/
structure Low (t b : Int) : Prop where
  pos : 0 < b
  cop : Nat.gcd t.natAbs b.natAbs = 1
theorem gcd_pos {p q : Int} (h : q ≠ 0) : 0 < Nat.gcd p.natAbs q.natAbs := Nat.gcd_pos_of_pos_right _ (by omega)
theorem shr_ne {p q : Int} (h : q ≠ 0) : shr p q ≠ 0 := by
  have := gcd_pos (p := p) h
  unfold shr
  split <;> omega
theorem shr_abs (p q : Int) : (shr p q).natAbs = Nat.gcd p.natAbs q.natAbs := by
  unfold shr
  split <;> omega
theorem shr_dvd_l (p q : Int) : shr p q ∣ p := by
  rw [← Int.natAbs_dvd_natAbs, shr_abs]
  exact Nat.gcd_dvd_left _ _
theorem shr_dvd_r (p q : Int) : shr p q ∣ q := by
  rw [← Int.natAbs_dvd_natAbs, shr_abs]
  exact Nat.gcd_dvd_right _ _
theorem fdiv_mul {s p : Int} (hs : s ≠ 0) (h : s ∣ p) : s * p.fdiv s = p := by
  obtain ⟨c, rfl⟩ := h
  rw [Int.mul_fdiv_cancel_left _ hs]
theorem nrm_low {p q : Int} (h : q ≠ 0) : Low (nrmT p q) (nrmB p q) := by
  have hs := shr_ne (p := p) h
  have e1 : shr p q * nrmT p q = p := fdiv_mul hs (shr_dvd_l p q)
  have e2 : shr p q * nrmB p q = q := fdiv_mul hs (shr_dvd_r p q)
  have hg := gcd_pos (p := p) h
  refine ⟨?_, ?_⟩
  · by_cases c : 0 < q
    · have sp : 0 < shr p q := by unfold shr; rw [if_pos c]; omega
      have : 0 < shr p q * nrmB p q := by rw [e2]; exact c
      exact Int.pos_of_mul_pos_right this sp |> fun z => z
    · have sn : shr p q < 0 := by unfold shr; rw [if_neg c]; omega
      have hq : q < 0 := by omega
      by_cases z : 0 < nrmB p q
      · exact z
      · exfalso
        have z1 : nrmB p q ≤ 0 := by omega
        have : 0 ≤ shr p q * nrmB p q := Int.mul_nonneg_of_nonpos_of_nonpos (Int.le_of_lt sn) z1
        omega
  · have g1 : Nat.gcd p.natAbs q.natAbs = (shr p q).natAbs * Nat.gcd (nrmT p q).natAbs (nrmB p q).natAbs := by
      have a1 : p.natAbs = (shr p q).natAbs * (nrmT p q).natAbs := by rw [← Int.natAbs_mul, e1]
      have a2 : q.natAbs = (shr p q).natAbs * (nrmB p q).natAbs := by rw [← Int.natAbs_mul, e2]
      rw [a1, a2, Nat.gcd_mul_left]
    rw [shr_abs] at g1
    have g2 : Nat.gcd p.natAbs q.natAbs * 1 = Nat.gcd p.natAbs q.natAbs * Nat.gcd (nrmT p q).natAbs (nrmB p q).natAbs := by omega
    exact (Nat.eq_of_mul_eq_mul_left hg g2).symm
theorem nrm_of_low {t b : Int} (h : Low t b) : nrmT t b = t ∧ nrmB t b = b := by
  have e : shr t b = 1 := by
    unfold shr
    rw [if_pos h.pos, h.cop]
    rfl
  unfold nrmT nrmB
  rw [e]
  exact ⟨Int.fdiv_one _, Int.fdiv_one _⟩
theorem Low.neg {t b : Int} (h : Low t b) : Low (-t) b := ⟨h.pos, by rw [Int.natAbs_neg]; exact h.cop⟩
theorem Low.abs {t b : Int} (h : Low t b) : Low (if t < 0 then -t else t) b := by
  split
  · exact h.neg
  · exact h
theorem nrm_le {p q : Int} (h : q ≠ 0) : (nrmT p q).natAbs ≤ p.natAbs ∧ (nrmB p q).natAbs ≤ q.natAbs := by
  have hs := shr_ne (p := p) h
  have e1 : shr p q * nrmT p q = p := fdiv_mul hs (shr_dvd_l p q)
  have e2 : shr p q * nrmB p q = q := fdiv_mul hs (shr_dvd_r p q)
  have k : 1 ≤ (shr p q).natAbs := by omega
  refine ⟨?_, ?_⟩
  · conv => rhs; rw [← e1, Int.natAbs_mul]
    exact Nat.le_mul_of_pos_left _ k
  · conv => rhs; rw [← e2, Int.natAbs_mul]
    exact Nat.le_mul_of_pos_left _ k
/-! Euclid's steps, counted -/
/-- behind i turns -/
structure Eu (g n i : Nat) (a b : Nat) : Prop where
  gcd : Nat.gcd a b = g
  step : b = 0 ∨ (i = 0 ∧ b < 2 ^ n) ∨ (b < a ∧ a * b * 2 ^ i < 2 ^ (2 * n + 1))
theorem Eu.start {a b n : Nat} (h : b < 2 ^ n) : Eu (Nat.gcd a b) n 0 a b := ⟨rfl, .inr (.inl ⟨rfl, h⟩)⟩
theorem Eu.turn {g n i a b : Nat} (h : Eu g n i a b) (hb : b ≠ 0) : Eu g n (i + 1) b (a % b) := by
  have hlt : a % b < b := Nat.mod_lt _ (by omega)
  refine ⟨?_, ?_⟩
  · rw [← h.gcd, Nat.gcd_comm a b, Nat.gcd_rec b a, Nat.gcd_comm]
  · rcases h.step with z | ⟨rfl, z⟩ | ⟨z, y⟩
    · exact absurd z hb
    · right; right
      refine ⟨hlt, ?_⟩
      have h1 : b * (a % b) < 2 ^ n * 2 ^ n := by
        have : b * (a % b) ≤ b * b := Nat.mul_le_mul_left _ (Nat.le_of_lt hlt)
        exact Nat.lt_of_le_of_lt this (Nat.mul_lt_mul'' z z)
      rw [show 2 * n + 1 = n + n + 1 by omega, Nat.pow_succ 2 (n + n), Nat.pow_add 2 n n]
      show b * (a % b) * 2 ^ 1 < _
      omega
    · right; right
      refine ⟨hlt, ?_⟩
      have hd := Nat.div_add_mod a b
      have hq : 1 ≤ a / b := Nat.div_pos (Nat.le_of_lt z) (by omega)
      have h2 : b ≤ b * (a / b) := Nat.le_mul_of_pos_right _ hq
      have h3 : 2 * (a % b) ≤ a := by omega
      have h4 : b * (a % b) * 2 ≤ a * b := by
        have : b * (2 * (a % b)) ≤ b * a := Nat.mul_le_mul_left _ h3
        rw [Nat.mul_comm a b, Nat.mul_assoc, Nat.mul_comm (a % b) 2]
        exact this
      refine Nat.lt_of_le_of_lt ?_ y
      rw [Nat.pow_succ, Nat.mul_comm (2 ^ i) 2, ← Nat.mul_assoc]
      exact Nat.mul_le_mul_right _ h4
theorem Eu.last {g n i a b : Nat} (h : Eu g n i a b) (hi : 2 * n + 1 ≤ i) : b = 0 := by
  rcases h.step with z | ⟨z, _⟩ | ⟨z, y⟩
  · exact z
  · omega
  · by_cases c : b = 0
    · exact c
    · exfalso
      have h1 : 1 ≤ a * b := Nat.mul_pos (by omega) (by omega)
      have h2 : 2 ^ (2 * n + 1) ≤ 2 ^ i := Nat.pow_le_pow_right (by omega) hi
      have h3 : 1 * 2 ^ i ≤ a * b * 2 ^ i := Nat.mul_le_mul_right _ h1
      omega
theorem Eu.done {g n i a b : Nat} (h : Eu g n i a b) (hb : b = 0) : a = g := by
  rw [← h.gcd, hb, Nat.gcd_zero_right]
end Rt

set_option Elab.async false
set_option linter.all false
set_option maxRecDepth 100000
set_option maxHeartbeats 4000000
/-! law k03: the program's own defs -/
namespace KR
open PySem L2 Rt
/-! ### the text by places -/
def top (i : Nat) : Stmt := PySem.Challenge.pw_toldwithin_k07_whole_questions_add_and_s.main.body.getD i (.Pass ⟨0, 0, 0, 0⟩)
abbrev sErr : Stmt := inClass (top 4) 0
abbrev sIsInt : Stmt := top 15
abbrev sInit : Stmt := inClass (top 32) 0
abbrev sAdd : Stmt := inClass (top 32) 1
abbrev sRadd : Stmt := inClass (top 32) 2
abbrev sSub : Stmt := inClass (top 32) 3
abbrev sRsub : Stmt := inClass (top 32) 4
abbrev sMul : Stmt := inClass (top 32) 5
abbrev sRmul : Stmt := inClass (top 32) 6
abbrev sNeg : Stmt := inClass (top 32) 7
abbrev sAbs : Stmt := inClass (top 32) 8
abbrev sOver : Stmt := inClass (top 32) 9
abbrev sIsNum : Stmt := top 33
abbrev sAsR : Stmt := top 34
abbrev FnP (K : PySem.W.Frag) (x q : Str) (st : Stmt) (dvs : List V) (f : Addr) (fd : FuncData) : Prop := FunD K x q (defArgs st) (defBody st) (defScope st) dvs [] f fd
/-! ### what a Ratio looks like -/
theorem ktb : ¬ (("top" : Str) = "bottom") := by decide +kernel
theorem kbt : ¬ (("bottom" : Str) = "top") := by decide +kernel
def flds (t b : Int) : List (Str × V) := putF "bottom" (.int b) (putF "top" (.int t) [])
theorem flds_top (t b : Int) : (flds t b).lookup ("top" : Str) = some (.int t) := by
  unfold flds
  rw [lookup_putF, if_neg ktb, lookup_putF, if_pos rfl]
theorem flds_bot (t b : Int) : (flds t b).lookup ("bottom" : Str) = some (.int b) := by
  unfold flds
  rw [lookup_putF, if_pos rfl]
theorem flds_no (t b : Int) {m : Str} (h1 : ¬ m = "top") (h2 : ¬ m = "bottom") : (flds t b).lookup m = none := by
  unfold flds
  rw [lookup_putF, if_neg h2, lookup_putF, if_neg h1]
  rfl
def RatAt (C : Addr) (H : Hp) (p : Addr) (t b : Int) : Prop := ∃ dx, H p = some (.ins C dx (flds t b))
theorem RatAt.same {C : Addr} {H H' : Hp} {p : Addr} {t b : Int} (h : RatAt C H p t b) (s : Same H H') : RatAt C H' p t b := let ⟨dx, e⟩ := h; ⟨dx, s _ _ e⟩
/-- y is the number t / b -/
def NumV (C : Addr) (H : Hp) (y : V) (t b : Int) : Prop := (y = .int t ∧ b = 1) ∨ ∃ p, y = .ref p ∧ RatAt C H p t b
theorem NumV.same {C : Addr} {H H' : Hp} {y : V} {t b : Int} (h : NumV C H y t b) (s : Same H H') : NumV C H' y t b := by
  rcases h with h | ⟨p, e, h⟩
  · exact .inl h
  · exact .inr ⟨p, e, h.same s⟩
/-- whether x is an integer -/
def IntV (K : PySem.W.Frag) (H : Hp) (x : V) (r : Bool) : Prop := ∃ t b1 b2, TyX K H x t ∧ PySem.W.kitOne K t (.type "int") = some b1 ∧ PySem.W.kitOne K t (.type "bool") = some b2 ∧ r = (b1 && !b2)
theorem IntV.int {K : PySem.W.Frag} {H : Hp} (i : Int) : IntV K H (.int i) true := ⟨_, true, false, .base (.int i), kit_ty (by decide +kernel), kit_ty (by decide +kernel), rfl⟩
/-- sizes that every number here stays below -/
def Sz (n : Nat) (z : Int) : Prop := z.natAbs < 2 ^ n
theorem Sz.mul {a b : Nat} {x y : Int} (h : Sz a x) (k : Sz b y) : Sz (a + b) (x * y) := wide_lt h k
theorem Sz.mono {a b : Nat} {x : Int} (h : Sz a x) (l : a ≤ b) : Sz b x := Nat.lt_of_lt_of_le h (Nat.pow_le_pow_right (by decide) l)
/-! ### what of the text is asked -/
structure Txt (K : PySem.W.Frag) (mg : Str → Option Value) (C E B : Addr) : Prop where
  cl : Cls K C
  nT : NoAttr K C "top"
  nB : NoAttr K C "bottom"
  mgC : mg "Ratio" = some (.ref C)
  own : OwnC K C
  ca : PySem.W.findIn K (.ref C) "__class__" = some (some (.builtin "object.__class__"))
  cn : PySem.W.specialIn K (.builtin "object.__class__") "__get__" = some (some (.builtin "getset_descriptor.__get__"))
  ct : PySem.W.takesIn K (.builtin "object.__class__") = some true
  cm : PySem.W.mroIn K C (.type "object") = some true
  rInt : PySem.W.kitOne K (.ref C) (.type "int") = some false
  rBool : PySem.W.kitOne K (.ref C) (.type "bool") = some false
  iC : PySem.W.kitOne K (.type "int") (.ref C) = some false
  ox : OexC K E
  mgE : mg "NoRatio" = some (.ref E)
  noW : PySem.W.findIn K (.ref E) "word" = some none
  xf : XfC K E
  exm : PySem.W.exmOne K (.ref E) (.ref E) = some true
  up : PySem.W.kitCls K (.ref E) (.ref B) = some true
  neB : E ≠ B
  mgB : mg "ToldError" = some (.ref B)
  iAdd : PySem.W.findIn K (.type "int") "__add__" = some (some (.builtin "int.__add__"))
  iRadd : PySem.W.findIn K (.type "int") "__radd__" = some (some (.builtin "int.__radd__"))
  iSub : PySem.W.findIn K (.type "int") "__sub__" = some (some (.builtin "int.__sub__"))
  iRsub : PySem.W.findIn K (.type "int") "__rsub__" = some (some (.builtin "int.__rsub__"))
  iMul : PySem.W.findIn K (.type "int") "__mul__" = some (some (.builtin "int.__mul__"))
  iRmul : PySem.W.findIn K (.type "int") "__rmul__" = some (some (.builtin "int.__rmul__"))
  gcd : mg "gcd" = some (.builtin "math.gcd")
  isinst : mg "isinstance" = none
  int : mg "int" = none
  bool : mg "bool" = none
  abs : mg "abs" = none
  len : mg "len" = none
  range : mg "range" = none
  max : mg "max" = none
  min : mg "min" = none
  all : mg "all" = none
/-! ### promises -/
/-- an error with this word is let out; what was tracked stands as it was -/
def Raised (E : Addr) (H : Hp) (X : XK) (w : Str) : Prop := ∀ d H', Same H H' → H' d = some (.xd [(("word" : Str), .str w)]) → X (.ref E) (some d) H'
def spErr (K : PySem.W.Frag) (E : Addr) : Sp := fun vs H Q _ => ∃ a v, vs = [.ref a, v] ∧ H a = some (exo a E none) ∧
  ∀ d, H d = none → d ≠ a → Q .non (upd (upd H d (exd d [(("word" : Str), v)])) a (exo a E (some d)))
def spIsInt (K : PySem.W.Frag) : Sp := fun vs H Q _ => ∃ x r, vs = [x] ∧ IntV K H x r ∧ Q (.bl r) H
/-- __init__ of Ratio -/
def spInit (K : PySem.W.Frag) (C E : Addr) : Sp := fun vs H Q X => ∃ p dx x y, vs = [.ref p, x, y] ∧ H p = some (.ins C dx []) ∧
  ((IntV K H x false ∧ Raised E H X "top") ∨ (∃ t, x = .int t ∧ IntV K H y false ∧ Raised E H X "bottom") ∨ (∃ t, x = .int t ∧ y = .int 0 ∧ Raised E H X "zero") ∨
    ∃ t b, x = .int t ∧ y = .int b ∧ b ≠ 0 ∧ Sz 8000 b ∧ ∀ H', (∀ a o, a ≠ p → H a = some o → H' a = some o) → RatAt C H' p (nrmT t b) (nrmB t b) → Q .non H')
def spIsNum (C : Addr) : Sp := fun vs H Q _ => ∃ x t b, vs = [x] ∧ NumV C H x t b ∧ Q (.bl true) H
def spAsR (C : Addr) : Sp := fun vs H Q _ => ∃ x t b, vs = [x] ∧ NumV C H x t b ∧ ∀ q H', Same H H' → RatAt C H' q t b → Q (.ref q) H'
/-- a binary method: top and bottom of the answer as fT, fB say -/
def spBin (C : Addr) (fT fB : Int → Int → Int → Int → Int) : Sp := fun vs H Q _ => ∃ p y t b t2 b2, vs = [.ref p, y] ∧ RatAt C H p t b ∧ Low t b ∧ NumV C H y t2 b2 ∧ Low t2 b2 ∧ Sz 4000 t ∧ Sz 4000 b ∧ Sz 4000 t2 ∧ Sz 4000 b2 ∧
  ∀ q H', Same H H' → RatAt C H' q (nrmT (fT t b t2 b2) (fB t b t2 b2)) (nrmB (fT t b t2 b2) (fB t b t2 b2)) → Q (.ref q) H'
abbrev addT : Int → Int → Int → Int → Int := fun t b t2 b2 => t * b2 + t2 * b
abbrev subT : Int → Int → Int → Int → Int := fun t b t2 b2 => t * b2 - t2 * b
abbrev rsubT : Int → Int → Int → Int → Int := fun t b t2 b2 => -t * b2 + t2 * b
abbrev mulT : Int → Int → Int → Int → Int := fun t _ t2 _ => t * t2
abbrev bb : Int → Int → Int → Int → Int := fun _ b _ b2 => b * b2
def spUn (C : Addr) (f : Int → Int) : Sp := fun vs H Q _ => ∃ p t b, vs = [.ref p] ∧ RatAt C H p t b ∧ Low t b ∧ Sz 8000 b ∧ ∀ q H', Same H H' → RatAt C H' q (f t) b → Q (.ref q) H'
def spOver (C E : Addr) : Sp := fun vs H Q X => ∃ p y t b t2 b2, vs = [.ref p, y] ∧ RatAt C H p t b ∧ Low t b ∧ NumV C H y t2 b2 ∧ Low t2 b2 ∧ Sz 4000 t ∧ Sz 4000 b ∧ Sz 4000 t2 ∧ Sz 4000 b2 ∧
  ((t2 = 0 ∧ Raised E H X "zero") ∨ (t2 ≠ 0 ∧ ∀ q H', Same H H' → RatAt C H' q (nrmT (t * b2) (b * t2)) (nrmB (t * b2) (b * t2)) → Q (.ref q) H'))
section
variable {P : Program} {w : World} {K : PySem.W.Frag} {mg : Str → Option Value} {base : Heap} {C E B f g h : Addr} {fd gd hd : FuncData}
theorem scErr : FnScope ["self", "word"] ["self", "word"] (defScope sErr) := ⟨rfl, rfl, rfl, by decide +kernel, rfl, by decide +kernel, by decide +kernel⟩
theorem ok_err (F : FnP K "__init__" "NoRatio.__init__" sErr [] f fd) (T : Txt K mg C E B) : FnOk P w K mg base CX0 1 f fd ["self", "word"] (spErr K E) := by
  refine F.ok scErr (fun vs H Q X z => ?_) (fun cdv A outer s H vs Q X hr z => ?_)
  · obtain ⟨a, v, rfl, _⟩ := z
    rfl
  · obtain ⟨a, v, rfl, ha, k⟩ := z
    refine ⟨_, PSs.nox (pss_one (ps_ost (pv 0) (pv 1))), ?_⟩
    exact ⟨_, rfl, _, rfl, a, E, rfl, T.ox, T.noW, .inl ⟨ha, fun d hd ne => k d hd ne⟩⟩
theorem scIsInt : FnScope ["found"] ["found"] (defScope sIsInt) := ⟨rfl, rfl, rfl, by decide +kernel, rfl, by decide +kernel, by decide +kernel⟩
theorem ok_isInt (F : FnP K "is_integer" "is_integer" sIsInt [] f fd) (T : Txt K mg C E B) : FnOk P w K mg base CX0 1 f fd ["found"] (spIsInt K) := by
  refine F.ok scIsInt (fun vs H Q X z => ?_) (fun cdv A outer s H vs Q X hr z => ?_)
  · obtain ⟨x, r, rfl, _⟩ := z
    rfl
  · obtain ⟨x, r, rfl, ⟨t, b1, b2, ty, k1, k2, rfl⟩, q⟩ := z
    refine ⟨_, PSs.nox (pss_one (ps_ret (pe_and
      (pe_callB call_isi (by rfl) T.isinst (by decide +kernel) (pa_cons (pv 0) (pa_cons (pe_bltn (v := .ty "int") (by rfl) T.int (by decide +kernel) rfl) pa_nil)))
      (pe_one (pe_not (pe_callB call_isi (by rfl) T.isinst (by decide +kernel) (pa_cons (pv 0) (pa_cons (pe_bltn (v := .ty "bool") (by rfl) T.bool (by decide +kernel) rfl) pa_nil)))))))), ?_⟩
    refine ⟨_, rfl, x, .ty "int", t, _, b1, rfl, .ty _, ty, k1, b1, rfl, ?_⟩
    cases b1 with
    | false => exact iteF q
    | true => exact iteT ⟨_, rfl, x, .ty "bool", t, _, b2, rfl, .ty _, ty, k2, b2, rfl, q⟩
end
end KR

set_option Elab.async false
set_option linter.all false
set_option maxRecDepth 100000
set_option maxHeartbeats 4000000
namespace KR
open PySem L2 Rt
theorem itF {c : Bool} {A B : Prop} (h : c = false) (k : B) : if c = true then A else B := by
  subst h
  exact iteF k
theorem itT {c : Bool} {A B : Prop} (h : c = true) (k : A) : if c = true then A else B := by
  subst h
  exact iteT k
/-! ### the defs in bundles -/
section
variable (P : Program) (w : World) (K : PySem.W.Frag) (mg : Str → Option Value) (base : Heap)
def GloOk (CX : CXT) (k : Nat) (x : Str) (ps : List Str) (sp : Sp) : Prop := ∃ f fd, FnOk P w K mg base CX k f fd ps sp ∧ mg x = some (.ref f) ∧ PySem.W.keepIn K (.ref f) = true ∧ Binds K fd ps []
def MthOk (C : Addr) (CX : CXT) (k : Nat) (m : Str) (ps : List Str) (sp : Sp) : Prop := ∃ f fd, FnOk P w K mg base CX k f fd ps sp ∧ Meth K C m f ∧ Binds K fd ps []
def MkOk (C : Addr) (CX : CXT) (k : Nat) (ps : List Str) (dvs : List V) (sp : Sp) : Prop := ∃ f fd, FnOk P w K mg base CX k f fd ps sp ∧ Mk K C f ∧ Binds K fd ps [] ∧ ∃ ds, Vals dvs ds ∧ Binds K fd ps ds
def ErrOk (E : Addr) (k : Nat) (ps : List Str) (sp : Sp) : Prop := ∃ f fd, FnOk P w K mg base CX0 k f fd ps sp ∧ PySem.W.findIn K (.ref E) "__init__" = some (some (.ref f)) ∧ PySem.W.typeIn K (.ref f) = some (.type "function") ∧ Binds K fd ps []
end
theorem raised_ok {K : PySem.W.Frag} {E : Addr} {H : Hp} {X : XK} {w : Str} (h : Raised E H X w) : ([V.str w] : List V).length ≤ 1000 ∧ ∀ a, H a = none → spErr K E (.ref a :: ([V.str w] ++ [])) (upd H a (exo a E none))
    (fun v H2 => v = .non ∧ ∃ (d : Addr) (fs : List (Str × V)), H2 a = some (exo a E (some d)) ∧ H2 d = some (exd d fs) ∧ H d = none ∧ X (.ref E) (some d) (upd (del H2 a) d (.xd fs))) (fun _ _ _ => False) := by
  refine ⟨by show 1 ≤ 1000; decide, fun a ha => ⟨a, .str w, rfl, upd_same, fun d hd ne => ?_⟩⟩
  have hd' : H d = none := by
    rw [upd_ne ne] at hd
    exact hd
  refine ⟨rfl, d, _, upd_same, by rw [upd_ne ne, upd_same], hd', h d _ (fun b o e => ?_) upd_same⟩
  have nb : b ≠ d := ne_of_none e hd'
  have na : b ≠ a := ne_of_none e ha
  rw [upd_ne nb, del_ne na, upd_ne na, upd_ne nb, upd_ne na]
  exact e
theorem gcd_div {t b : Int} (hb : b ≠ 0) (h : Sz 8000 b) : CDivX t ((Nat.gcd t.natAbs b.natAbs : Nat) : Int) ∧ CDivX t (-((Nat.gcd t.natAbs b.natAbs : Nat) : Int)) := by
  have h1 := gcd_pos (p := t) hb
  have h2 : Nat.gcd t.natAbs b.natAbs ≤ b.natAbs := Nat.gcd_le_right _ (by omega)
  have h3 : (((Nat.gcd t.natAbs b.natAbs : Nat) : Int)).natAbs < 2 ^ 8000 := Nat.lt_of_le_of_lt (by omega) h
  have h4 := PySem.Flt.log2_lt_of (by decide) h3
  refine ⟨⟨by omega, by omega⟩, ⟨by omega, ?_⟩⟩
  rw [Int.natAbs_neg]
  omega
section
variable {P : Program} {w : World} {K : PySem.W.Frag} {mg : Str → Option Value} {base : Heap} {C E B f g h : Addr} {fd gd hd : FuncData}
theorem scInit : FnScope ["self", "top", "bottom", "shared"] ["self", "top", "bottom"] (defScope sInit) := ⟨rfl, rfl, rfl, by decide +kernel, rfl, by decide +kernel, by decide +kernel⟩
theorem ok_init (F : FnP K "__init__" "Ratio.__init__" sInit [.int 1] f fd) (T : Txt K mg C E B) (GI : GloOk P w K mg base CX0 1 "is_integer" ["found"] (spIsInt K)) (GE : ErrOk P w K mg base E 1 ["self", "word"] (spErr K E)) :
    FnOk P w K mg base (L2.CX P w) 3 f fd ["self", "top", "bottom"] (spInit K C E) := by
  obtain ⟨fI, fdI, GI, mI, kI, bI⟩ := GI
  obtain ⟨fE, fdE, GE, iE, tE, bE⟩ := GE
  refine F.ok scInit (fun vs H Q X z => ?_) (fun cdv A outer s H vs Q X hr z => ?_)
  · obtain ⟨p, dx, x, y, rfl, _⟩ := z
    rfl
  · obtain ⟨p, dx, x, y, rfl, hp, z⟩ := z
    have hr1 : Room 1 _ := hr.mono (by decide)
    refine ⟨_, pss_cons (ps_if (pt_not (pt_val (pe_call GI hr1 rfl mI kI bI .nil pass0 (pa_cons (pv 1) pa_nil)))) (pss_one (ps_raise rfl (takes_of rfl rfl rfl rfl) (pmk_oex T.ox iE tE GE hr bE .nil pass0 rfl T.mgE (pa_cons pe_str pa_nil)))) pss_nil)
      (pss_cons (ps_if (pt_not (pt_val (pe_call GI hr1 rfl mI kI bI .nil pass0 (pa_cons (pv 2) pa_nil)))) (pss_one (ps_raise rfl (takes_of rfl rfl rfl rfl) (pmk_oex T.ox iE tE GE hr bE .nil pass0 rfl T.mgE (pa_cons pe_str pa_nil)))) pss_nil)
      (pss_cons (ps_if (pt_cmpR op_eq (pv 2) pe_int (nomark _)) (pss_one (ps_raise rfl (takes_of rfl rfl rfl rfl) (pmk_oex T.ox iE tE GE hr bE .nil pass0 rfl T.mgE (pa_cons pe_str pa_nil)))) pss_nil)
      (pss_cons (ps_set (i := 3) scInit.nd rfl (Or.inl rfl) (pe_ifExp (pt_cmpR op_gt (pv 2) pe_int (nomark _)) (pe_callBfun cr_gcd (by rfl) T.gcd (pa_cons (pv 1) (pa_cons (pv 2) pa_nil))) (pe_un un_neg (pe_callBfun cr_gcd (by rfl) T.gcd (pa_cons (pv 1) (pa_cons (pv 2) pa_nil))))))
      (pss_cons (ps_fld (pv 0) (pe_op op_fdivX (pv 1) (pv 3)) rfl)
      (pss_one (ps_fld (pv 0) (pe_op op_fdivX (pv 2) (pv 3)) rfl)))))), ?_⟩
    rcases z with ⟨iv, k⟩ | ⟨t, rfl, iv, k⟩ | ⟨t, rfl, rfl, k⟩ | ⟨t, b, rfl, rfl, hb, hs, k⟩
    · exact ⟨_, rfl, x, false, rfl, iv, _, rfl, iteT (raised_ok k)⟩
    · exact ⟨_, rfl, _, true, rfl, .int t, _, rfl, iteF ⟨_, rfl, y, false, rfl, iv, _, rfl, iteT (raised_ok k)⟩⟩
    · exact ⟨_, rfl, _, true, rfl, .int t, _, rfl, iteF ⟨_, rfl, _, true, rfl, .int 0, _, rfl, iteF ⟨_, rfl, rfl, _, rfl, iteT (raised_ok k)⟩⟩⟩
    · refine ⟨_, rfl, _, true, rfl, .int t, _, rfl, iteF ⟨_, rfl, _, true, rfl, .int b, _, rfl, iteF ⟨_, rfl, rfl, _, rfl, ?_⟩⟩⟩
      obtain ⟨d1, d2⟩ := gcd_div (t := t) hb hs
      refine itF (by rw [dec_int]; simpa using hb) ?_
      refine ⟨_, rfl, _, _, rfl, rfl, _, rfl, ?_⟩
      by_cases c : 0 < b
      · have e1 : nrmT t b = t.fdiv ((Nat.gcd t.natAbs b.natAbs : Nat) : Int) := by unfold nrmT shr; rw [if_pos c]
        have e2 : nrmB t b = b.fdiv ((Nat.gcd t.natAbs b.natAbs : Nat) : Int) := by unfold nrmB shr; rw [if_pos c]
        refine itT (decide_eq_true c) ?_
        refine ⟨_, rfl, _, rfl, t, b, rfl, ?_⟩
        refine ⟨_, rfl, _, rfl, _, _, rfl, rfl, d1, _, rfl, p, C, dx, _, rfl, hp, T.cl, T.nT, (by show 0 < 1000; decide), ?_⟩
        refine ⟨_, rfl, _, rfl, _, _, rfl, rfl, ⟨d1.1, d1.2⟩, _, rfl, p, C, dx, _, rfl, upd_same, T.cl, T.nB, (by show 1 < 1000; decide), ?_⟩
        refine k _ (fun a o ne e => ?_) ⟨dx, ?_⟩
        · rw [upd_ne ne, upd_ne ne]
          exact e
        · rw [e1, e2]
          exact upd_same
      · have e1 : nrmT t b = t.fdiv (-((Nat.gcd t.natAbs b.natAbs : Nat) : Int)) := by unfold nrmT shr; rw [if_neg c]
        have e2 : nrmB t b = b.fdiv (-((Nat.gcd t.natAbs b.natAbs : Nat) : Int)) := by unfold nrmB shr; rw [if_neg c]
        refine itF (decide_eq_false c) ?_
        refine ⟨_, rfl, _, rfl, t, b, rfl, _, rfl, ?_⟩
        refine ⟨_, rfl, _, rfl, _, _, rfl, rfl, d2, _, rfl, p, C, dx, _, rfl, hp, T.cl, T.nT, (by show 0 < 1000; decide), ?_⟩
        refine ⟨_, rfl, _, rfl, _, _, rfl, rfl, ⟨d2.1, d2.2⟩, _, rfl, p, C, dx, _, rfl, upd_same, T.cl, T.nB, (by show 1 < 1000; decide), ?_⟩
        refine k _ (fun a o ne e => ?_) ⟨dx, ?_⟩
        · rw [upd_ne ne, upd_ne ne]
          exact e
        · rw [e1, e2]
          exact upd_same
end
end KR

set_option Elab.async false
set_option linter.all false
set_option maxRecDepth 100000
set_option maxHeartbeats 4000000
namespace KR
open PySem L2 Rt
theorem kit_self {K : PySem.W.Frag} {t : Value} : PySem.W.kitOne K t t = some true := by
  unfold PySem.W.kitOne
  rw [if_pos (beq_self_eq_true t)]
theorem low_int (i : Int) : Low i 1 := ⟨by decide, by rw [show (1 : Int).natAbs = 1 from rfl, Nat.gcd_one_right]⟩
section
variable {K : PySem.W.Frag} {mg : Str → Option Value} {C E B : Addr} {H : Hp}
theorem ty_rat (T : Txt K mg C E B) {p : Addr} {t b : Int} (h : RatAt C H p t b) : TyX K H (.ref p) (.ref C) := by
  obtain ⟨dx, e⟩ := h
  exact .base (.ins e T.cl T.ca T.cn T.ct T.cm)
/-- isinstance(x, Ratio) of a number -/
theorem num_isi (T : Txt K mg C E B) {x : V} {t b : Int} (h : NumV C H x t b) : ∃ ty r, TyX K H x ty ∧ PySem.W.kitOne K ty (.ref C) = some r ∧ (r = true → ∃ p, x = .ref p ∧ RatAt C H p t b) ∧ (r = false → x = .int t ∧ b = 1) := by
  rcases h with ⟨rfl, e⟩ | ⟨p, rfl, h⟩
  · exact ⟨_, false, .base (.int t), T.iC, (fun z => by cases z), fun _ => ⟨rfl, e⟩⟩
  · exact ⟨_, true, ty_rat T h, kit_self, fun _ => ⟨p, rfl, h⟩, fun z => by cases z⟩
end
section
variable {P : Program} {w : World} {K : PySem.W.Frag} {mg : Str → Option Value} {base : Heap} {C E B f g h : Addr} {fd gd hd : FuncData}
theorem scIsNum : FnScope ["found"] ["found"] (defScope sIsNum) := ⟨rfl, rfl, rfl, by decide +kernel, rfl, by decide +kernel, by decide +kernel⟩
theorem ok_isNum (F : FnP K "is_number" "is_number" sIsNum [] f fd) (T : Txt K mg C E B) (GI : GloOk P w K mg base CX0 1 "is_integer" ["found"] (spIsInt K)) : FnOk P w K mg base CX0 2 f fd ["found"] (spIsNum C) := by
  obtain ⟨fI, fdI, GI, mI, kI, bI⟩ := GI
  refine F.ok scIsNum (fun vs H Q X z => ?_) (fun cdv A outer s H vs Q X hr z => ?_)
  · obtain ⟨x, t, b, rfl, _⟩ := z
    rfl
  · obtain ⟨x, t, b, rfl, num, k⟩ := z
    refine ⟨_, PSs.nox (pss_one (ps_ret (pe_or
      (pe_callB call_isi (by rfl) T.isinst (by decide +kernel) (pa_cons (pv 0) (pa_cons (pe_glob (v := .ref C) (by rfl) T.mgC rfl) pa_nil)))
      (pe_one (pe_call GI hr rfl mI kI bI .nil pass0 (pa_cons (pv 0) pa_nil)))))), ?_⟩
    obtain ⟨ty, r, hty, hk, yes, no⟩ := num_isi T num
    refine ⟨_, rfl, x, .ref C, ty, _, r, rfl, .own C, hty, hk, r, rfl, ?_⟩
    cases r with
    | true => exact iteT k
    | false =>
      obtain ⟨rfl, rfl⟩ := no rfl
      exact iteF ⟨_, rfl, .int t, true, rfl, .int t, k⟩
theorem scAsR : FnScope ["number"] ["number"] (defScope sAsR) := ⟨rfl, rfl, rfl, by decide +kernel, rfl, by decide +kernel, by decide +kernel⟩
theorem ok_asR (F : FnP K "as_ratio" "as_ratio" sAsR [] f fd) (T : Txt K mg C E B) (GM : MkOk P w K mg base C (L2.CX P w) 3 ["self", "top", "bottom"] [.int 1] (spInit K C E)) : FnOk P w K mg base CX0 5 f fd ["number"] (spAsR C) := by
  obtain ⟨fM, fdM, GM, M, bM, ds, vM, bD⟩ := GM
  refine F.ok scAsR (fun vs H Q X z => ?_) (fun cdv A outer s H vs Q X hr z => ?_)
  · obtain ⟨x, t, b, rfl, _⟩ := z
    rfl
  · obtain ⟨x, t, b, rfl, num, k⟩ := z
    refine ⟨_, PSs.nox (pss_one (ps_ret (pe_ifExp
      (pt_val (pe_callB call_isi (by rfl) T.isinst (by decide +kernel) (pa_cons (pv 0) (pa_cons (pe_glob (v := .ref C) (by rfl) T.mgC rfl) pa_nil))))
      (pv 0) (pe_make M GM hr rfl T.mgC bD vM passL (pa_cons (pv 0) pa_nil))))), ?_⟩
    obtain ⟨ty, r, hty, hk, yes, no⟩ := num_isi T num
    refine ⟨_, rfl, x, .ref C, ty, _, r, rfl, .own C, hty, hk, r, rfl, ?_⟩
    cases r with
    | true =>
      obtain ⟨p, rfl, hp⟩ := yes rfl
      exact iteT ⟨_, rfl, k p H (Same.refl H) hp⟩
    | false =>
      obtain ⟨rfl, rfl⟩ := no rfl
      refine iteF ⟨_, rfl, fun x dx nx nd nex => ⟨x, dx, .int t, .int 1, rfl, upd_same, .inr (.inr (.inr ⟨t, 1, rfl, rfl, by decide, by unfold Sz; decide +kernel, fun H' fr rt => ⟨rfl, ?_⟩⟩))⟩⟩
      rw [(nrm_of_low (low_int t)).1, (nrm_of_low (low_int t)).2] at rt
      exact k x H' (Same.made nx nd fun b o e ne => fr b o ne e) rt
theorem mulOk {x y : Int} (a : Sz 4000 x) (b : Sz 4000 y) : CMulW x y := wide_mul a b (by decide) (by decide) (by decide)
theorem bot_ne {t b t2 b2 : Int} (h : Low t b) (k : Low t2 b2) : b * b2 ≠ 0 := Int.ne_of_gt (Int.mul_pos h.pos k.pos)
end
end KR

set_option Elab.async false
set_option linter.all false
set_option maxRecDepth 100000
set_option maxHeartbeats 4000000
namespace KR
open PySem L2 Rt
abbrev sEq : Stmt := inClass (top 32) 10
abbrev sLt : Stmt := inClass (top 32) 11
abbrev sLe : Stmt := inClass (top 32) 12
abbrev sGt : Stmt := inClass (top 32) 13
abbrev sGe : Stmt := inClass (top 32) 14
abbrev sText : Stmt := inClass (top 32) 15
abbrev sSign : Stmt := top 35
/-- the text of t / b -/
def txt (t b : Int) : Str := if b = 1 then (toString t : String) else ((toString t : String) : Str) ++ "/" ++ ((toString b : String) : Str)
def spSign (C : Addr) : Sp := fun vs H Q _ => ∃ x y t b t2 b2, vs = [x, y] ∧ NumV C H x t b ∧ NumV C H y t2 b2 ∧ Sz 4000 t ∧ Sz 4000 b ∧ Sz 4000 t2 ∧ Sz 4000 b2 ∧ ∀ H', Same H H' → Q (.int (t * b2 - t2 * b)) H'
def spCmp (C : Addr) (f : Int → Bool) : Sp := fun vs H Q _ => ∃ p y t b t2 b2, vs = [.ref p, y] ∧ RatAt C H p t b ∧ NumV C H y t2 b2 ∧ Sz 4000 t ∧ Sz 4000 b ∧ Sz 4000 t2 ∧ Sz 4000 b2 ∧ ∀ H', Same H H' → Q (.bl (f (t * b2 - t2 * b))) H'
def spEq (K : PySem.W.Frag) (C : Addr) : Sp := fun vs H Q _ => ∃ p y t b, vs = [.ref p, y] ∧ RatAt C H p t b ∧
  ((∃ t2 b2, NumV C H y t2 b2 ∧ Q (.bl (decide (t = t2) && decide (b = b2))) H) ∨ (∃ ty, TyX K H y ty ∧ PySem.W.kitOne K ty (.ref C) = some false ∧ IntV K H y false ∧ Q (.bl false) H))
def spText (C : Addr) : Sp := fun vs H Q _ => ∃ p t b, vs = [.ref p] ∧ RatAt C H p t b ∧ Sz 1900 t ∧ Sz 1900 b ∧ Q (.str (txt t b)) H
theorem dec_vi {i j : Int} : decide (V.int i = V.int j) = decide (i = j) := decide_eq_decide.mpr ⟨V.int.inj, congrArg V.int⟩
theorem log19 {z : Int} (h : Sz 1900 z) : z.natAbs.log2 < 1920 := Nat.lt_of_lt_of_le (PySem.Flt.log2_lt_of (by decide) h) (by decide)
section
variable {P : Program} {w : World} {K : PySem.W.Frag} {mg : Str → Option Value} {base : Heap} {C E B f g h : Addr} {fd gd hd : FuncData}
theorem scSign : FnScope ["one", "other", "left", "right"] ["one", "other"] (defScope sSign) := ⟨rfl, rfl, rfl, by decide +kernel, rfl, by decide +kernel, by decide +kernel⟩
theorem ok_sign (F : FnP K "sign_of_difference" "sign_of_difference" sSign [] f fd) (T : Txt K mg C E B) (GA : GloOk P w K mg base CX0 5 "as_ratio" ["number"] (spAsR C)) : FnOk P w K mg base CX0 6 f fd ["one", "other"] (spSign C) := by
  obtain ⟨fA, fdA, GA, mA, kA, bA⟩ := GA
  refine F.ok scSign (fun vs H Q X z => ?_) (fun cdv A outer s H vs Q X hr z => ?_)
  · obtain ⟨x, y, t, b, t2, b2, rfl, _⟩ := z
    rfl
  · obtain ⟨x, y, t, b, t2, b2, rfl, nx, ny, z1, z2, z3, z4, k⟩ := z
    refine ⟨_, PSs.nox (pss_cons (ps_set (i := 2) scSign.nd rfl (Or.inl rfl) (pe_call GA hr rfl mA kA bA .nil pass0 (pa_cons (pv 0) pa_nil)))
      (pss_cons (ps_set (i := 3) scSign.nd rfl (Or.inl rfl) (pe_call GA hr rfl mA kA bA .nil pass0 (pa_cons (pv 1) pa_nil)))
      (pss_one (ps_ret (pe_op op_sub (pe_op op_mulW (pe_fld (pv 2) rfl) (pe_fld (pv 3) rfl)) (pe_op op_mulW (pe_fld (pv 3) rfl) (pe_fld (pv 2) rfl))))))), ?_⟩
    refine ⟨_, rfl, x, t, b, rfl, nx, fun p H1 s1 hp => ?_⟩
    refine ⟨_, rfl, y, t2, b2, rfl, ny.same s1, fun q H2 s2 hq => ?_⟩
    obtain ⟨dx, e1⟩ := hp.same s2
    obtain ⟨dq, e2⟩ := id hq
    exact ⟨_, rfl, p, C, dx, _, _, rfl, e1, T.cl, T.nT, flds_top _ _, _, rfl, q, C, dq, _, _, rfl, e2, T.cl, T.nB, flds_bot _ _, _, _, rfl, rfl, mulOk z1 z4,
      _, rfl, q, C, dq, _, _, rfl, e2, T.cl, T.nT, flds_top _ _, _, rfl, p, C, dx, _, _, rfl, e1, T.cl, T.nB, flds_bot _ _, _, _, rfl, rfl, mulOk z3 z2, _, _, rfl, rfl, k H2 (s1.trans s2)⟩
theorem scLt : FnScope ["self", "other"] ["self", "other"] (defScope sLt) := ⟨rfl, rfl, rfl, by decide +kernel, rfl, by decide +kernel, by decide +kernel⟩
theorem ok_lt (F : FnP K "__lt__" "Ratio.__lt__" sLt [] f fd) (T : Txt K mg C E B) (GN : GloOk P w K mg base CX0 2 "is_number" ["found"] (spIsNum C)) (GS : GloOk P w K mg base CX0 6 "sign_of_difference" ["one", "other"] (spSign C)) : FnOk P w K mg base CX0 7 f fd ["self", "other"] (spCmp C fun d => decide (d < 0)) := by
  obtain ⟨fN, fdN, GN, mN, kN, bN⟩ := GN
  obtain ⟨fS, fdS, GS, mS, kS, bS⟩ := GS
  refine F.ok scLt (fun vs H Q X z => ?_) (fun cdv A outer s H vs Q X hr z => ?_)
  · obtain ⟨p, y, t, b, t2, b2, rfl, _⟩ := z
    rfl
  · obtain ⟨p, y, t, b, t2, b2, rfl, hp, ny, z1, z2, z3, z4, k⟩ := z
    have hrN : Room 2 _ := hr.mono (by decide)
    refine ⟨_, PSs.nox (pss_cons (ps_if (pt_not (pt_val (pe_call GN hrN rfl mN kN bN .nil pass0 (pa_cons (pv 1) pa_nil)))) pss_never pss_nil)
      (pss_one (ps_ret (pe_cmpR op_lt (pe_call GS hr rfl mS kS bS .nil pass0 (pa_cons (pv 0) (pa_cons (pv 1) pa_nil))) pe_int (nomark _))))), ?_⟩
    refine ⟨_, rfl, y, t2, b2, rfl, ny, true, rfl, iteF ?_⟩
    exact ⟨_, rfl, _, rfl, _, y, t, b, t2, b2, rfl, .inr ⟨p, rfl, hp⟩, ny, z1, z2, z3, z4, fun H' s' => ⟨_, _, rfl, rfl, k H' s'⟩⟩
theorem scLe : FnScope ["self", "other"] ["self", "other"] (defScope sLe) := ⟨rfl, rfl, rfl, by decide +kernel, rfl, by decide +kernel, by decide +kernel⟩
theorem ok_le (F : FnP K "__le__" "Ratio.__le__" sLe [] f fd) (T : Txt K mg C E B) (GN : GloOk P w K mg base CX0 2 "is_number" ["found"] (spIsNum C)) (GS : GloOk P w K mg base CX0 6 "sign_of_difference" ["one", "other"] (spSign C)) : FnOk P w K mg base CX0 7 f fd ["self", "other"] (spCmp C fun d => decide (d ≤ 0)) := by
  obtain ⟨fN, fdN, GN, mN, kN, bN⟩ := GN
  obtain ⟨fS, fdS, GS, mS, kS, bS⟩ := GS
  refine F.ok scLe (fun vs H Q X z => ?_) (fun cdv A outer s H vs Q X hr z => ?_)
  · obtain ⟨p, y, t, b, t2, b2, rfl, _⟩ := z
    rfl
  · obtain ⟨p, y, t, b, t2, b2, rfl, hp, ny, z1, z2, z3, z4, k⟩ := z
    have hrN : Room 2 _ := hr.mono (by decide)
    refine ⟨_, PSs.nox (pss_cons (ps_if (pt_not (pt_val (pe_call GN hrN rfl mN kN bN .nil pass0 (pa_cons (pv 1) pa_nil)))) pss_never pss_nil)
      (pss_one (ps_ret (pe_cmpR op_le (pe_call GS hr rfl mS kS bS .nil pass0 (pa_cons (pv 0) (pa_cons (pv 1) pa_nil))) pe_int (nomark _))))), ?_⟩
    refine ⟨_, rfl, y, t2, b2, rfl, ny, true, rfl, iteF ?_⟩
    exact ⟨_, rfl, _, rfl, _, y, t, b, t2, b2, rfl, .inr ⟨p, rfl, hp⟩, ny, z1, z2, z3, z4, fun H' s' => ⟨_, _, rfl, rfl, k H' s'⟩⟩
theorem scGt : FnScope ["self", "other"] ["self", "other"] (defScope sGt) := ⟨rfl, rfl, rfl, by decide +kernel, rfl, by decide +kernel, by decide +kernel⟩
theorem ok_gt (F : FnP K "__gt__" "Ratio.__gt__" sGt [] f fd) (T : Txt K mg C E B) (GN : GloOk P w K mg base CX0 2 "is_number" ["found"] (spIsNum C)) (GS : GloOk P w K mg base CX0 6 "sign_of_difference" ["one", "other"] (spSign C)) : FnOk P w K mg base CX0 7 f fd ["self", "other"] (spCmp C fun d => decide (0 < d)) := by
  obtain ⟨fN, fdN, GN, mN, kN, bN⟩ := GN
  obtain ⟨fS, fdS, GS, mS, kS, bS⟩ := GS
  refine F.ok scGt (fun vs H Q X z => ?_) (fun cdv A outer s H vs Q X hr z => ?_)
  · obtain ⟨p, y, t, b, t2, b2, rfl, _⟩ := z
    rfl
  · obtain ⟨p, y, t, b, t2, b2, rfl, hp, ny, z1, z2, z3, z4, k⟩ := z
    have hrN : Room 2 _ := hr.mono (by decide)
    refine ⟨_, PSs.nox (pss_cons (ps_if (pt_not (pt_val (pe_call GN hrN rfl mN kN bN .nil pass0 (pa_cons (pv 1) pa_nil)))) pss_never pss_nil)
      (pss_one (ps_ret (pe_cmpR op_gt (pe_call GS hr rfl mS kS bS .nil pass0 (pa_cons (pv 0) (pa_cons (pv 1) pa_nil))) pe_int (nomark _))))), ?_⟩
    refine ⟨_, rfl, y, t2, b2, rfl, ny, true, rfl, iteF ?_⟩
    exact ⟨_, rfl, _, rfl, _, y, t, b, t2, b2, rfl, .inr ⟨p, rfl, hp⟩, ny, z1, z2, z3, z4, fun H' s' => ⟨_, _, rfl, rfl, k H' s'⟩⟩
theorem scGe : FnScope ["self", "other"] ["self", "other"] (defScope sGe) := ⟨rfl, rfl, rfl, by decide +kernel, rfl, by decide +kernel, by decide +kernel⟩
theorem ok_ge (F : FnP K "__ge__" "Ratio.__ge__" sGe [] f fd) (T : Txt K mg C E B) (GN : GloOk P w K mg base CX0 2 "is_number" ["found"] (spIsNum C)) (GS : GloOk P w K mg base CX0 6 "sign_of_difference" ["one", "other"] (spSign C)) : FnOk P w K mg base CX0 7 f fd ["self", "other"] (spCmp C fun d => decide (0 ≤ d)) := by
  obtain ⟨fN, fdN, GN, mN, kN, bN⟩ := GN
  obtain ⟨fS, fdS, GS, mS, kS, bS⟩ := GS
  refine F.ok scGe (fun vs H Q X z => ?_) (fun cdv A outer s H vs Q X hr z => ?_)
  · obtain ⟨p, y, t, b, t2, b2, rfl, _⟩ := z
    rfl
  · obtain ⟨p, y, t, b, t2, b2, rfl, hp, ny, z1, z2, z3, z4, k⟩ := z
    have hrN : Room 2 _ := hr.mono (by decide)
    refine ⟨_, PSs.nox (pss_cons (ps_if (pt_not (pt_val (pe_call GN hrN rfl mN kN bN .nil pass0 (pa_cons (pv 1) pa_nil)))) pss_never pss_nil)
      (pss_one (ps_ret (pe_cmpR op_ge (pe_call GS hr rfl mS kS bS .nil pass0 (pa_cons (pv 0) (pa_cons (pv 1) pa_nil))) pe_int (nomark _))))), ?_⟩
    refine ⟨_, rfl, y, t2, b2, rfl, ny, true, rfl, iteF ?_⟩
    exact ⟨_, rfl, _, rfl, _, y, t, b, t2, b2, rfl, .inr ⟨p, rfl, hp⟩, ny, z1, z2, z3, z4, fun H' s' => ⟨_, _, rfl, rfl, k H' s'⟩⟩
theorem scEq : FnScope ["self", "other"] ["self", "other"] (defScope sEq) := ⟨rfl, rfl, rfl, by decide +kernel, rfl, by decide +kernel, by decide +kernel⟩
theorem ok_eq (F : FnP K "__eq__" "Ratio.__eq__" sEq [] f fd) (T : Txt K mg C E B) (GI : GloOk P w K mg base CX0 1 "is_integer" ["found"] (spIsInt K)) : FnOk P w K mg base CX0 2 f fd ["self", "other"] (spEq K C) := by
  obtain ⟨fI, fdI, GI, mI, kI, bI⟩ := GI
  refine F.ok scEq (fun vs H Q X z => ?_) (fun cdv A outer s H vs Q X hr z => ?_)
  · obtain ⟨p, y, t, b, rfl, _⟩ := z
    rfl
  · obtain ⟨p, y, t, b, rfl, ⟨dx, e1⟩, z⟩ := z
    refine ⟨_, PSs.nox (pss_cons (ps_if (pt_val (pe_callB call_isi (by rfl) T.isinst (by decide +kernel) (pa_cons (pv 1) (pa_cons (pe_glob (v := .ref C) (by rfl) T.mgC rfl) pa_nil))))
        (pss_one (ps_ret (pe_and (pe_cmpR op_eq (pe_fld (pv 0) rfl) (pe_fld (pv 1) rfl) (nomark _)) (pe_one (pe_cmpR op_eq (pe_fld (pv 0) rfl) (pe_fld (pv 1) rfl) (nomark _)))))) pss_nil)
      (pss_one (ps_ret (pe_and (pe_call GI hr rfl mI kI bI .nil pass0 (pa_cons (pv 1) pa_nil)) (pe_and (pe_cmpR op_eq (pe_fld (pv 0) rfl) pe_int (nomark _)) (pe_one (pe_cmpR op_eq (pe_fld (pv 0) rfl) (pv 1) (nomark _)))))))), ?_⟩
    rcases z with ⟨t2, b2, num, k⟩ | ⟨ty, hty, hk, iv, k⟩
    · obtain ⟨ty, r, hty, hk, yes, no⟩ := num_isi T num
      refine ⟨_, rfl, y, .ref C, ty, _, r, rfl, .own C, hty, hk, r, rfl, ?_⟩
      cases r with
      | true =>
        obtain ⟨q, rfl, dq, e2⟩ := yes rfl
        refine iteT ?_
        refine ⟨_, rfl, p, C, dx, _, _, rfl, e1, T.cl, T.nT, flds_top _ _, _, rfl, q, C, dq, _, _, rfl, e2, T.cl, T.nT, flds_top _ _, rfl, _, rfl, ?_⟩
        rcases Decidable.em (t = t2) with c | c
        · refine itT (decide_eq_true (congrArg V.int c)) ?_
          refine ⟨_, rfl, p, C, dx, _, _, rfl, e1, T.cl, T.nB, flds_bot _ _, _, rfl, q, C, dq, _, _, rfl, e2, T.cl, T.nB, flds_bot _ _, rfl, ?_⟩
          rw [decide_eq_true c, Bool.true_and] at k
          rw [dec_vi]
          exact k
        · refine itF (decide_eq_false fun z => c (V.int.inj z)) ?_
          rw [decide_eq_false c, Bool.false_and] at k
          exact k
      | false =>
        obtain ⟨rfl, rfl⟩ := no rfl
        refine iteF ?_
        refine ⟨_, rfl, _, true, rfl, .int t2, true, rfl, iteT ?_⟩
        refine ⟨_, rfl, p, C, dx, _, _, rfl, e1, T.cl, T.nB, flds_bot _ _, rfl, _, rfl, ?_⟩
        rcases Decidable.em (b = 1) with c | c
        · refine itT (decide_eq_true (congrArg V.int c)) ?_
          refine ⟨_, rfl, p, C, dx, _, _, rfl, e1, T.cl, T.nT, flds_top _ _, _, rfl, rfl, ?_⟩
          rw [decide_eq_true c, Bool.and_true] at k
          rw [dec_vi]
          exact k
        · refine itF (decide_eq_false fun z => c (V.int.inj z)) ?_
          rw [decide_eq_false c, Bool.and_false] at k
          exact k
    · refine ⟨_, rfl, y, .ref C, ty, _, false, rfl, .own C, hty, hk, false, rfl, iteF ?_⟩
      exact ⟨_, rfl, y, false, rfl, iv, false, rfl, iteF k⟩
theorem str_app (a b : Str) : (a ++ b).cps.toList = a.cps.toList ++ b.cps.toList := Array.toList_append
theorem str_ext {a b : Str} (h : a.cps.toList = b.cps.toList) : a = b := by
  obtain ⟨⟨x⟩⟩ := a
  obtain ⟨⟨y⟩⟩ := b
  exact congrArg (fun l => (⟨⟨l⟩⟩ : Str)) h
theorem scText : FnScope ["self"] ["self"] (defScope sText) := ⟨rfl, rfl, rfl, by decide +kernel, rfl, by decide +kernel, by decide +kernel⟩
theorem len19 {z : Int} (h : Sz 1900 z) : (((toString z : String) : Str)).length ≤ 1921 := PyProof.Rows.int_text_len_1921 (log19 h)
theorem str_len (a b : Str) : (a ++ b).length = a.length + b.length := Array.size_append
theorem ok_text (F : FnP K "text" "Ratio.text" sText [] f fd) (T : Txt K mg C E B) (hst : mg "str" = none) : FnOk P w K mg base CX0 1 f fd ["self"] (spText C) := by
  refine F.ok scText (fun vs H Q X z => ?_) (fun cdv A outer s H vs Q X hr z => ?_)
  · obtain ⟨p, t, b, rfl, _⟩ := z
    rfl
  · obtain ⟨p, t, b, rfl, ⟨dx, e1⟩, z1, z2, k⟩ := z
    refine ⟨_, PSs.nox (pss_cons (ps_if (pt_cmpR op_eq (pe_fld (pv 0) rfl) pe_int (nomark _)) (pss_one (ps_ret (pe_callTy call_str_int (by rfl) hst (by decide +kernel) (pa_cons (pe_fld (pv 0) rfl) pa_nil)))) pss_nil)
      (pss_one (ps_ret (pe_joined (.cons (pe_fmt (pe_fld (pv 0) rfl)) (.cons pe_str (.cons (pe_fmt (pe_fld (pv 0) rfl)) .nil))))))), ?_⟩
    refine ⟨_, rfl, p, C, dx, _, _, rfl, e1, T.cl, T.nB, flds_bot _ _, rfl, _, rfl, ?_⟩
    rcases Decidable.em (b = 1) with c | c
    · refine itT (decide_eq_true (congrArg V.int c)) ?_
      refine ⟨_, rfl, p, C, dx, _, _, rfl, e1, T.cl, T.nT, flds_top _ _, _, rfl, log19 z1, ?_⟩
      unfold txt at k
      rw [if_pos c] at k
      exact k
    · refine itF (decide_eq_false fun z => c (V.int.inj z)) ?_
      unfold txt at k
      rw [if_neg c] at k
      have l1 := len19 z1
      have l2 := len19 z2
      have big : 5000 ≤ sizeLine := by decide
      refine ⟨_, rfl, p, C, dx, _, _, rfl, e1, T.cl, T.nT, flds_top _ _, .inr ⟨_, rfl, log19 z1, _, rfl, ?_, _, rfl, ?_, _, rfl, p, C, dx, _, _, rfl, e1, T.cl, T.nB, flds_bot _ _, .inr ⟨_, rfl, log19 z2, _, rfl, ?_, ?_⟩⟩⟩
      · show (Str.empty ++ ((toString t : String) : Str)).length ≤ sizeLine
        rw [str_len]
        exact Nat.le_trans (show 0 + _ ≤ 5000 by omega) big
      · show ((Str.empty ++ ((toString t : String) : Str)) ++ (("/" : String) : Str)).length ≤ sizeLine
        rw [str_len, str_len]
        exact Nat.le_trans (show 0 + _ + 1 ≤ 5000 by omega) big
      · show (((Str.empty ++ ((toString t : String) : Str)) ++ (("/" : String) : Str)) ++ ((toString b : String) : Str)).length ≤ sizeLine
        rw [str_len, str_len, str_len]
        exact Nat.le_trans (show 0 + _ + 1 + _ ≤ 5000 by omega) big
      · have e : (((Str.empty ++ ((toString t : String) : Str)) ++ (("/" : String) : Str)) ++ ((toString b : String) : Str)) = ((toString t : String) : Str) ++ "/" ++ ((toString b : String) : Str) := str_ext (by
          simp only [str_app]
          rfl)
        show Q (.str (((Str.empty ++ ((toString t : String) : Str)) ++ (("/" : String) : Str)) ++ ((toString b : String) : Str))) H
        rw [e]
        exact k
end
end KR

set_option Elab.async false
set_option linter.all false
set_option maxRecDepth 100000
set_option maxHeartbeats 4000000
/-! law k02: the law's own small defs -/
namespace KR
open PySem L2 Rt
abbrev sLInt : Stmt := top 44
abbrev sStream : Stmt := top 45
abbrev sDraw : Stmt := top 46
abbrev sCommon : Stmt := top 47
abbrev sFrac : Stmt := top 48
abbrev sPlus : Stmt := top 49
abbrev sBy : Stmt := top 50
abbrev sIs : Stmt := top 51
/-- nothing but what stands at l has changed -/
def But (l : Addr) (H H' : Hp) : Prop := ∀ b o, b ≠ l → H b = some o → H' b = some o
theorem But.trans {l : Addr} {H H1 H2 : Hp} (a : But l H H1) (b : But l H1 H2) : But l H H2 := fun c o n e => b c o n (a c o n e)
theorem But.of {l : Addr} {H H' : Hp} (s : Same H H') : But l H H' := fun c o _ e => s c o e
/-- the stream: three ints in a list -/
def Strm (H : Hp) (l : Addr) : Prop := ∃ c f n : Int, H l = some (.lst [.int c, .int f, .int n])
def Pair (H : Hp) (p : Addr) (x y : Int) : Prop := H p = some (.tup [.int x, .int y])
theorem Pair.same {H H' : Hp} {p : Addr} {x y : Int} (h : Pair H p x y) (s : Same H H') : Pair H' p x y := s _ _ h
def spStream (K : PySem.W.Frag) : Sp := fun vs H Q _ => ∃ (a : Addr) (ns : List Int) (k : Nat), vs = [.ref a, .int k] ∧ SqL K H a (ns.map V.int) ∧ k < 1000 ∧ ∀ p H', Same H H' → H p = none → Strm H' p → Q (.ref p) H'
def spDraw : Sp := fun vs H Q _ => ∃ (l : Addr) (m : Int), vs = [.ref l, .int m] ∧ Strm H l ∧ 0 < m ∧ Sz 8000 m ∧ ∀ (d : Int) H', 0 ≤ d → d < m → But l H H' → Strm H' l → Q (.int d) H'
def spCommon : Sp := fun vs H Q _ => ∃ a b : Nat, vs = [.int (a : Int), .int (b : Int)] ∧ b < 2 ^ 4900 ∧ Q (.int ((Nat.gcd a b : Nat) : Int)) H
def spFrac : Sp := fun vs H Q _ => ∃ t b : Int, vs = [.int t, .int b] ∧ b ≠ 0 ∧ Sz 4900 b ∧ ∀ p H', Same H H' → H p = none → Pair H' p (nrmT t b) (nrmB t b) → Q (.ref p) H'
def spPair (fT : Int → Int → Int → Int → Int) : Sp := fun vs H Q _ => ∃ p q t b t2 b2, vs = [.ref p, .ref q] ∧ Pair H p t b ∧ Pair H q t2 b2 ∧ b * b2 ≠ 0 ∧ Sz 1000 t ∧ Sz 1000 b ∧ Sz 1000 t2 ∧ Sz 1000 b2 ∧
  ∀ r H', Same H H' → H r = none → Pair H' r (nrmT (fT t b t2 b2) (b * b2)) (nrmB (fT t b t2 b2) (b * b2)) → Q (.ref r) H'
def spIs (C : Addr) : Sp := fun vs H Q _ => ∃ p q t b, vs = [.ref p, .ref q] ∧ RatAt C H p t b ∧ Pair H q t b ∧ Q (.bl true) H
section
variable {P : Program} {w : World} {K : PySem.W.Frag} {mg : Str → Option Value} {base : Heap} {C E B f g h : Addr} {fd gd hd : FuncData}
theorem scLInt : FnScope ["thing"] ["thing"] (defScope sLInt) := ⟨rfl, rfl, rfl, by decide +kernel, rfl, by decide +kernel, by decide +kernel⟩
theorem ok_lint (F : FnP K "_law_is_integer" "_law_is_integer" sLInt [] f fd) (T : Txt K mg C E B) : FnOk P w K mg base CX0 1 f fd ["thing"] (spIsInt K) := by
  refine F.ok scLInt (fun vs H Q X z => ?_) (fun cdv A outer s H vs Q X hr z => ?_)
  · obtain ⟨x, r, rfl, _⟩ := z
    rfl
  · obtain ⟨x, r, rfl, ⟨t, b1, b2, ty, k1, k2, rfl⟩, q⟩ := z
    refine ⟨_, PSs.nox (pss_one (ps_ret (pe_and
      (pe_callB call_isi (by rfl) T.isinst (by decide +kernel) (pa_cons (pv 0) (pa_cons (pe_bltn (v := .ty "int") (by rfl) T.int (by decide +kernel) rfl) pa_nil)))
      (pe_one (pe_not (pe_callB call_isi (by rfl) T.isinst (by decide +kernel) (pa_cons (pv 0) (pa_cons (pe_bltn (v := .ty "bool") (by rfl) T.bool (by decide +kernel) rfl) pa_nil)))))))), ?_⟩
    refine ⟨_, rfl, x, .ty "int", t, _, b1, rfl, .ty _, ty, k1, b1, rfl, ?_⟩
    cases b1 with
    | false => exact iteF q
    | true => exact iteT ⟨_, rfl, x, .ty "bool", t, _, b2, rfl, .ty _, ty, k2, b2, rfl, q⟩
theorem scStream : FnScope ["script", "k", "cell"] ["script", "k"] (defScope sStream) := ⟨rfl, rfl, rfl, by decide +kernel, rfl, by decide +kernel, by decide +kernel⟩
theorem ok_stream (F : FnP K "_law_stream" "_law_stream" sStream [] f fd) (T : Txt K mg C E B) : FnOk P w K mg base CX0 1 f fd ["script", "k"] (spStream K) := by
  refine F.ok scStream (fun vs H Q X z => ?_) (fun cdv A outer s H vs Q X hr z => ?_)
  · obtain ⟨a, ns, k, rfl, _⟩ := z
    rfl
  · obtain ⟨a, ns, k, rfl, hS, hk, q⟩ := z
    refine ⟨_, PSs.nox (pss_cons (ps_set (i := 2) scStream.nd rfl (Or.inl rfl) pe_int)
      (pss_cons (ps_if (pt_cmpR op_lt (pv 1) (pe_callB call_len_seq (by rfl) T.len PySem.boot_len (pa_cons (pv 0) pa_nil)) (nomark _))
        (pss_one (ps_set (i := 2) scStream.nd rfl (Or.inl rfl) (pe_callB call_abs (by rfl) T.abs (by decide +kernel) (pa_cons (pe_ix ix_list (pv 0) (pv 1) (fun _ _ => rfl)) pa_nil)))) pss_nil)
      (pss_one (ps_ret (pe_lst (pa_cons (pv 2) (pa_cons (pe_callTy call_int1 (by rfl) T.int (by decide +kernel) (pa_cons (pe_cmpR op_ge (pv 2) (pe_op op_pow pe_int pe_int) (nomark _)) pa_nil)) (pa_cons (pe_op op_mul pe_int (pv 1)) pa_nil)))))))), ?_⟩
    -- what comes behind, whatever the cell
    have tail : ∀ c : Int, ∃ v, ([some (V.ref a), some (V.int (k : Int)), some (V.int c)] : St)[2]? = some (some v) ∧ ∃ y, ([some (V.ref a), some (V.int (k : Int)), some (V.int c)] : St)[2]? = some (some y) ∧
        ∃ i j, V.int 10 = V.int i ∧ V.int 18 = V.int j ∧ CPow i j ∧ ∃ i' j', y = V.int i' ∧ V.int (i ^ j.toNat) = V.int j' ∧
          ((∃ i, [V.bl (decide (j' ≤ i'))] = [V.int i] ∧ False) ∨ ∃ kk, [V.bl (decide (j' ≤ i'))] = [V.bl kk] ∧ ∃ z, ([some (V.ref a), some (V.int (k : Int)), some (V.int c)] : St)[1]? = some (some z) ∧ ∃ i j, V.int 1000 = V.int i ∧ z = V.int j ∧ CMul i j ∧
            ([v, V.int (if kk then 1 else 0), V.int (i * j)] : List V).length ≤ sizeLine ∧ ∀ p, H p = none → Q (.ref p) (upd H p (.lst [v, V.int (if kk then 1 else 0), V.int (i * j)]))) := fun c =>
      ⟨_, rfl, _, rfl, _, _, rfl, rfl, ⟨by decide, by decide, by decide⟩, _, _, rfl, rfl, .inr ⟨_, rfl, _, rfl, _, _, rfl, rfl, .inl ⟨by decide, by decide⟩, (by show 3 ≤ sizeLine; decide), fun p hp => q p _ (fun b o e => by rw [upd_ne (ne_of_none e hp)]; exact e) hp ⟨_, _, _, upd_same⟩⟩⟩
    have hlen : (ns.map V.int).length = ns.length := List.length_map ..
    refine ⟨_, rfl, _, rfl, a, _, rfl, .inl hS, _, _, rfl, rfl, _, rfl, ?_⟩
    by_cases c : (k : Int) < ((ns.map V.int).length : Int)
    · refine itT (decide_eq_true c) ?_
      have hk2 : k < ns.length := by rw [hlen] at c; omega
      refine ⟨_, rfl, _, rfl, a, _, (k : Int), V.int ns[k], rfl, rfl, hS, atI_nat (by rw [List.getElem?_map, List.getElem?_eq_getElem hk2]; rfl), _, rfl, ?_⟩
      obtain ⟨v, h1, y, h2, i, j, h3, h4, h5, i', j', h6, h7, h8⟩ := tail (if ns[k] < 0 then -ns[k] else ns[k])
      refine ⟨v, h1, y, h2, i, j, h3, h4, h5, i', j', h6, h7, ?_⟩
      rcases h8 with ⟨_, _, z⟩ | z
      · exact z.elim
      · exact .inr z
    · refine itF (decide_eq_false c) ?_
      obtain ⟨v, h1, y, h2, i, j, h3, h4, h5, i', j', h6, h7, h8⟩ := tail 0
      refine ⟨v, h1, y, h2, i, j, h3, h4, h5, i', j', h6, h7, ?_⟩
      rcases h8 with ⟨_, _, z⟩ | z
      · exact z.elim
      · exact .inr z
end
end KR

set_option Elab.async false
set_option linter.all false
set_option maxRecDepth 100000
set_option maxHeartbeats 4000000
namespace KR
open PySem L2 Rt
theorem abs_nat (i : Int) : (if i < 0 then -i else i) = ((i.natAbs : Nat) : Int) := by
  split <;> omega
section
variable {P : Program} {w : World} {K : PySem.W.Frag} {mg : Str → Option Value} {base : Heap} {C E B f g h : Addr} {fd gd hd : FuncData}
theorem scCommon : FnScope ["one", "rest", "k", "after"] ["one", "rest"] (defScope sCommon) := ⟨rfl, rfl, rfl, by decide +kernel, rfl, by decide +kernel, by decide +kernel⟩
theorem ok_common (F : FnP K "_law_common" "_law_common" sCommon [] f fd) (T : Txt K mg C E B) : FnOk P w K mg base CX0 1 f fd ["one", "rest"] spCommon := by
  refine F.ok scCommon (fun vs H Q X z => ?_) (fun cdv A outer s H vs Q X hr z => ?_)
  · obtain ⟨a, b, rfl, _⟩ := z
    rfl
  · obtain ⟨a, b, rfl, hb, q⟩ := z
    refine ⟨_, PSs.nox (pss_cons (ps_for PassesOwn.never rfl (pi_range1 rfl T.range (pa_cons (pe_op op_pow pe_int pe_int) pa_nil)) (pg_name (i := 2) scCommon.nd rfl (Or.inl rfl))
      (pss_cons (ps_if (pt_cmpR op_eq (pv 1) pe_int (nomark _)) (pss_one (ps_ret (pv 0))) pss_nil)
      (pss_cons (ps_set (i := 3) scCommon.nd rfl (Or.inl rfl) (pe_op op_mod (pe_callTy call_int1 (by rfl) T.int (by decide +kernel) (pa_cons (pv 0) pa_nil)) (pv 1)))
      (pss_cons (ps_set (i := 0) scCommon.nd rfl (Or.inl rfl) (pv 1))
      (pss_one (ps_set (i := 1) scCommon.nd rfl (Or.inl rfl) (pv 3)))))))
      (pss_one (ps_ret (pv 0)))), ?_⟩
    refine ⟨_, _, rfl, rfl, ⟨by decide, by decide, by decide⟩, _, rfl, by decide, by decide, ?_⟩
    have e4 : ((10 : Int) ^ (4 : Int).toNat).toNat = 10000 := by decide
    rw [e4]
    refine for_range (lo := 0) (n := 10000) (fun i σ H1 => H1 = H ∧ ∃ (x y : Nat) (u v : Option V), σ = [some (.int (x : Int)), some (.int (y : Int)), u, v] ∧ Eu (Nat.gcd a b) 4900 i x y)
      ⟨rfl, a, b, none, none, rfl, Eu.start hb⟩ ?_ ?_
    · rintro i σ H1 hi ⟨rfl, x, y, u, v, rfl, eu⟩
      refine ⟨_, rfl, rfl, _, rfl, ?_⟩
      rcases Decidable.em (V.int (y : Int) = V.int 0) with c | c
      · refine itT (decide_eq_true c) ⟨_, rfl, ?_⟩
        have hy : y = 0 := by
          have := V.int.inj c
          omega
        rw [eu.done hy]
        exact q
      · refine itF (decide_eq_false c) ?_
        have hy : y ≠ 0 := fun z => c (by rw [z]; rfl)
        refine ⟨_, rfl, .inl ⟨_, rfl, _, rfl, _, _, rfl, rfl, (by show (0 : Int) < (y : Int); omega), ?_⟩⟩
        refine ⟨_, rfl, _, rfl, rfl, y, x % y, some (.int (0 + (i : Int))), some (.int ((x : Int) % (y : Int))), ?_, eu.turn hy⟩
        rw [Int.natCast_emod]
        rfl
    · rintro σ H1 ⟨rfl, x, y, u, v, rfl, eu⟩
      refine ⟨_, rfl, ?_⟩
      rw [eu.done (eu.last (by decide))]
      exact q
theorem scFrac : FnScope ["top", "bottom", "part"] ["top", "bottom"] (defScope sFrac) := ⟨rfl, rfl, rfl, by decide +kernel, rfl, by decide +kernel, by decide +kernel⟩
theorem ok_frac (F : FnP K "_law_frac" "_law_frac" sFrac [] f fd) (T : Txt K mg C E B) (GC : GloOk P w K mg base CX0 1 "_law_common" ["one", "rest"] spCommon) : FnOk P w K mg base CX0 2 f fd ["top", "bottom"] spFrac := by
  obtain ⟨fC, fdC, GC, mC, kC, bC⟩ := GC
  refine F.ok scFrac (fun vs H Q X z => ?_) (fun cdv A outer s H vs Q X hr z => ?_)
  · obtain ⟨t, b, rfl, _⟩ := z
    rfl
  · obtain ⟨t, b, rfl, hb, hs, q⟩ := z
    refine ⟨_, PSs.nox (pss_cons (ps_set (i := 2) scFrac.nd rfl (Or.inl rfl) (pe_call GC hr rfl mC kC bC .nil pass0 (pa_cons (pe_callB call_abs (by rfl) T.abs (by decide +kernel) (pa_cons (pv 0) pa_nil)) (pa_cons (pe_callB call_abs (by rfl) T.abs (by decide +kernel) (pa_cons (pv 1) pa_nil)) pa_nil))))
      (pss_cons (ps_if (pt_cmpR op_lt (pv 1) pe_int (nomark _)) (pss_one (ps_set (i := 2) scFrac.nd rfl (Or.inl rfl) (pe_un un_neg (pv 2)))) pss_nil)
      (pss_one (ps_ret (pe_tup (pa_cons (pe_op op_fdivX (pv 0) (pv 2)) (pa_cons (pe_op op_fdivX (pv 1) (pv 2)) pa_nil))))))), ?_⟩
    have hs8 : Sz 8000 b := hs.mono (by decide)
    obtain ⟨d1, d2⟩ := gcd_div (t := t) hb hs8
    refine ⟨_, rfl, t, rfl, _, rfl, b, rfl, t.natAbs, b.natAbs, by rw [abs_nat, abs_nat]; rfl, hs, ?_⟩
    refine ⟨_, rfl, _, _, rfl, rfl, _, rfl, ?_⟩
    rcases Decidable.em (b < 0) with c | c
    · refine itT (decide_eq_true c) ?_
      have e1 : nrmT t b = t.fdiv (-((Nat.gcd t.natAbs b.natAbs : Nat) : Int)) := by unfold nrmT shr; rw [if_neg (by omega)]
      have e2 : nrmB t b = b.fdiv (-((Nat.gcd t.natAbs b.natAbs : Nat) : Int)) := by unfold nrmB shr; rw [if_neg (by omega)]
      refine ⟨_, rfl, _, rfl, _, rfl, _, rfl, _, _, rfl, rfl, d2, _, rfl, _, rfl, _, _, rfl, rfl, ⟨d2.1, d2.2⟩, (by show 2 ≤ sizeLine; decide), fun p hp => ?_⟩
      refine q p _ (fun x o e => by rw [upd_ne (ne_of_none e hp)]; exact e) hp ?_
      rw [e1, e2]
      exact upd_same
    · refine itF (decide_eq_false c) ?_
      have e1 : nrmT t b = t.fdiv (((Nat.gcd t.natAbs b.natAbs : Nat) : Int)) := by unfold nrmT shr; rw [if_pos (by omega)]
      have e2 : nrmB t b = b.fdiv (((Nat.gcd t.natAbs b.natAbs : Nat) : Int)) := by unfold nrmB shr; rw [if_pos (by omega)]
      refine ⟨_, rfl, _, rfl, _, _, rfl, rfl, d1, _, rfl, _, rfl, _, _, rfl, rfl, ⟨d1.1, d1.2⟩, (by show 2 ≤ sizeLine; decide), fun p hp => ?_⟩
      refine q p _ (fun x o e => by rw [upd_ne (ne_of_none e hp)]; exact e) hp ?_
      rw [e1, e2]
      exact upd_same
theorem m400 {x y : Int} (a : Sz 1000 x) (b : Sz 1000 y) : CMulW x y := wide_mul a b (by decide) (by decide) (by decide)
theorem scPlus : FnScope ["one", "other"] ["one", "other"] (defScope sPlus) := ⟨rfl, rfl, rfl, by decide +kernel, rfl, by decide +kernel, by decide +kernel⟩
theorem ok_plus (F : FnP K "_law_plus" "_law_plus" sPlus [] f fd) (T : Txt K mg C E B) (GC : GloOk P w K mg base CX0 2 "_law_frac" ["top", "bottom"] spFrac) : FnOk P w K mg base CX0 3 f fd ["one", "other"] (spPair addT) := by
  obtain ⟨fC, fdC, GC, mC, kC, bC⟩ := GC
  refine F.ok scPlus (fun vs H Q X z => ?_) (fun cdv A outer s H vs Q X hr z => ?_)
  · obtain ⟨p, q, t, b, t2, b2, rfl, _⟩ := z
    rfl
  · obtain ⟨p, q, t, b, t2, b2, rfl, hp, hq, hb, z1, z2, z3, z4, k⟩ := z
    refine ⟨_, PSs.nox (pss_one (ps_ret (pe_call GC hr rfl mC kC bC .nil pass0
      (pa_cons (pe_op op_add (pe_op op_mulW (pe_ix ix_tup (pv 0) pe_int (fun _ _ => rfl)) (pe_ix ix_tup (pv 1) pe_int (fun _ _ => rfl))) (pe_op op_mulW (pe_ix ix_tup (pv 1) pe_int (fun _ _ => rfl)) (pe_ix ix_tup (pv 0) pe_int (fun _ _ => rfl))))
      (pa_cons (pe_op op_mulW (pe_ix ix_tup (pv 0) pe_int (fun _ _ => rfl)) (pe_ix ix_tup (pv 1) pe_int (fun _ _ => rfl))) pa_nil))))), ?_⟩
    refine ⟨_, rfl, p, _, _, V.int t, rfl, rfl, SqT.of hp, at_of (j := 0) rfl rfl, _, rfl, q, _, _, V.int b2, rfl, rfl, SqT.of hq, at_of (j := 1) rfl rfl, _, _, rfl, rfl, m400 z1 z4,
      _, rfl, q, _, _, V.int t2, rfl, rfl, SqT.of hq, at_of (j := 0) rfl rfl, _, rfl, p, _, _, V.int b, rfl, rfl, SqT.of hp, at_of (j := 1) rfl rfl, _, _, rfl, rfl, m400 z3 z2, _, _, rfl, rfl, ?_⟩
    refine ⟨_, rfl, p, _, _, V.int b, rfl, rfl, SqT.of hp, at_of (j := 1) rfl rfl, _, rfl, q, _, _, V.int b2, rfl, rfl, SqT.of hq, at_of (j := 1) rfl rfl, _, _, rfl, rfl, m400 z2 z4, ?_⟩
    exact ⟨_, _, rfl, hb, (z2.mul z4).mono (by decide), k⟩
theorem scBy : FnScope ["one", "other"] ["one", "other"] (defScope sBy) := ⟨rfl, rfl, rfl, by decide +kernel, rfl, by decide +kernel, by decide +kernel⟩
theorem ok_by (F : FnP K "_law_by" "_law_by" sBy [] f fd) (T : Txt K mg C E B) (GC : GloOk P w K mg base CX0 2 "_law_frac" ["top", "bottom"] spFrac) : FnOk P w K mg base CX0 3 f fd ["one", "other"] (spPair mulT) := by
  obtain ⟨fC, fdC, GC, mC, kC, bC⟩ := GC
  refine F.ok scBy (fun vs H Q X z => ?_) (fun cdv A outer s H vs Q X hr z => ?_)
  · obtain ⟨p, q, t, b, t2, b2, rfl, _⟩ := z
    rfl
  · obtain ⟨p, q, t, b, t2, b2, rfl, hp, hq, hb, z1, z2, z3, z4, k⟩ := z
    refine ⟨_, PSs.nox (pss_one (ps_ret (pe_call GC hr rfl mC kC bC .nil pass0
      (pa_cons (pe_op op_mulW (pe_ix ix_tup (pv 0) pe_int (fun _ _ => rfl)) (pe_ix ix_tup (pv 1) pe_int (fun _ _ => rfl)))
      (pa_cons (pe_op op_mulW (pe_ix ix_tup (pv 0) pe_int (fun _ _ => rfl)) (pe_ix ix_tup (pv 1) pe_int (fun _ _ => rfl))) pa_nil))))), ?_⟩
    refine ⟨_, rfl, p, _, _, V.int t, rfl, rfl, SqT.of hp, at_of (j := 0) rfl rfl, _, rfl, q, _, _, V.int t2, rfl, rfl, SqT.of hq, at_of (j := 0) rfl rfl, _, _, rfl, rfl, m400 z1 z3, ?_⟩
    refine ⟨_, rfl, p, _, _, V.int b, rfl, rfl, SqT.of hp, at_of (j := 1) rfl rfl, _, rfl, q, _, _, V.int b2, rfl, rfl, SqT.of hq, at_of (j := 1) rfl rfl, _, _, rfl, rfl, m400 z2 z4, ?_⟩
    exact ⟨_, _, rfl, hb, (z2.mul z4).mono (by decide), k⟩
theorem scIs : FnScope ["told", "due"] ["told", "due"] (defScope sIs) := ⟨rfl, rfl, rfl, by decide +kernel, rfl, by decide +kernel, by decide +kernel⟩
theorem ok_is (F : FnP K "_law_is" "_law_is" sIs [] f fd) (T : Txt K mg C E B) (GI : GloOk P w K mg base CX0 1 "_law_is_integer" ["thing"] (spIsInt K)) : FnOk P w K mg base CX0 2 f fd ["told", "due"] (spIs C) := by
  obtain ⟨fI, fdI, GI, mI, kI, bI⟩ := GI
  refine F.ok scIs (fun vs H Q X z => ?_) (fun cdv A outer s H vs Q X hr z => ?_)
  · obtain ⟨p, q, t, b, rfl, _⟩ := z
    rfl
  · obtain ⟨p, q, t, b, rfl, hp, hq, k⟩ := z
    refine ⟨_, PSs.nox (pss_cons (ps_if (PW.pt (pw_or (pt_not (pt_val (pe_callB call_isi (by rfl) T.isinst (by decide +kernel) (pa_cons (pv 0) (pa_cons (pe_glob (v := .ref C) (by rfl) T.mgC rfl) pa_nil)))))
        (pw_or (pt_not (pt_val (pe_call GI hr rfl mI kI bI .nil pass0 (pa_cons (pe_fld (pv 0) rfl) pa_nil)))) (pw_or1 (pt_not (pt_val (pe_call GI hr rfl mI kI bI .nil pass0 (pa_cons (pe_fld (pv 0) rfl) pa_nil))))))))
        (pss_one (ps_ret pe_bl)) pss_nil)
      (pss_one (ps_ret (pe_and (pe_cmpR op_eq (pe_fld (pv 0) rfl) (pe_ix ix_tup (pv 1) pe_int (fun _ _ => rfl)) (nomark _)) (pe_one (pe_cmpR op_eq (pe_fld (pv 0) rfl) (pe_ix ix_tup (pv 1) pe_int (fun _ _ => rfl)) (nomark _))))))), ?_⟩
    have ty := ty_rat T hp
    obtain ⟨dx, e⟩ := hp
    refine ⟨_, rfl, _, .ref C, _, _, true, rfl, .own C, ty, kit_self, true, rfl, iteF ?_⟩
    refine ⟨_, rfl, p, C, dx, _, _, rfl, e, T.cl, T.nT, flds_top _ _, _, true, rfl, .int t, true, rfl, iteF ?_⟩
    refine ⟨_, rfl, p, C, dx, _, _, rfl, e, T.cl, T.nB, flds_bot _ _, _, true, rfl, .int b, true, rfl, iteF ?_⟩
    refine ⟨_, rfl, p, C, dx, _, _, rfl, e, T.cl, T.nT, flds_top _ _, _, rfl, q, _, _, V.int t, rfl, rfl, SqT.of hq, at_of (j := 0) rfl rfl, rfl, _, rfl, itT (decide_eq_true rfl) ?_⟩
    refine ⟨_, rfl, p, C, dx, _, _, rfl, e, T.cl, T.nB, flds_bot _ _, _, rfl, q, _, _, V.int b, rfl, rfl, SqT.of hq, at_of (j := 1) rfl rfl, rfl, ?_⟩
    rw [decide_eq_true (rfl : V.int b = V.int b)]
    exact k
end
end KR

set_option Elab.async false
set_option linter.all false
set_option maxRecDepth 100000
set_option maxHeartbeats 4000000
/-! law k06: kinds of things, what is a row of numbers -/
namespace K6
open PySem L2 TL KG
abbrev sSeq : Stmt := top 16
abbrev sIsNum : Stmt := top 33
abbrev sAmts : Stmt := top 42
theorem _root_.KR.RatAt.nl {C : Addr} {H H' : Hp} {p : Addr} {t b : Int} (h : KR.RatAt C H p t b) (s : NL H H') : KR.RatAt C H' p t b := let ⟨dx, e⟩ := h; ⟨dx, s _ _ (fun _ z => by cases z) e⟩
theorem _root_.KR.NumV.nl {C : Addr} {H H' : Hp} {y : V} {t b : Int} (h : KR.NumV C H y t b) (s : NL H H') : KR.NumV C H' y t b := by
  rcases h with h | ⟨p, e, h⟩
  · exact .inl h
  · exact .inr ⟨p, e, h.nl s⟩
theorem _root_.KG.GridAt.nl {C : Addr} {H H' : Hp} {p : Addr} {as : List Ax} (h : GridAt C H p as) (s : NL H H') : GridAt C H' p as := by
  have ts : TSame H H' := fun a xs e => s a _ (fun _ z => by cases z) e
  obtain ⟨dx, va, vc, e, a, c⟩ := h
  exact ⟨dx, va, vc, s _ _ (fun _ z => by cases z) e, a.t ts, c.t ts⟩
/-- kinds of things -/
inductive Kd | no | bl | it | st | dk | ls | tp | rt | gr
  deriving DecidableEq
def Kd.ty (Cr Cg : Addr) : Kd → Value
  | .no => .type "NoneType" | .bl => .type "bool" | .it => .type "int" | .st => .type "str" | .dk => .type "dict" | .ls => .type "list" | .tp => .type "tuple" | .rt => .ref Cr | .gr => .ref Cg
def Kd.row : Kd → Bool | .ls => true | .tp => true | _ => false
def Kd.num : Kd → Bool | .it => true | .rt => true | _ => false
def Kd.int : Kd → Bool | .it => true | _ => false
def Kd.i1 : Kd → Bool | .it => true | .bl => true | _ => false
def Kd.i2 : Kd → Bool | .bl => true | _ => false
def Kd.rat : Kd → Bool | .rt => true | _ => false
def Kd.grid : Kd → Bool | .gr => true | _ => false
def At (Cr Cg : Addr) (H : Hp) (x : V) : Kd → Prop
  | .no => x = .non
  | .bl => ∃ b, x = .bl b
  | .it => ∃ i, x = .int i
  | .st => ∃ z, x = .str z
  | .dk => ∃ p, x = .ref p ∧ H p = some (.dK [])
  | .ls => ∃ p xs, x = .ref p ∧ H p = some (.lst xs)
  | .tp => ∃ p xs, x = .ref p ∧ H p = some (.tup xs)
  | .rt => ∃ p t b, x = .ref p ∧ KR.RatAt Cr H p t b
  | .gr => ∃ p as, x = .ref p ∧ GridAt Cg H p as ∧ (cellsL as).length ≤ 100
/-- what of the text is asked: the classes Ratio, Grid, Question, the errors NoQuestion, NoAmounts -/
structure Cl (K : PySem.W.Frag) (C : Addr) : Prop where
  oL : PySem.W.kitOne K (.ref C) (.type "list") = some false
  oT : PySem.W.kitOne K (.ref C) (.type "tuple") = some false
  oI : PySem.W.kitOne K (.ref C) (.type "int") = some false
  oB : PySem.W.kitOne K (.ref C) (.type "bool") = some false
  iN : PySem.W.kitOne K (.type "NoneType") (.ref C) = some false
  iB : PySem.W.kitOne K (.type "bool") (.ref C) = some false
  iI : PySem.W.kitOne K (.type "int") (.ref C) = some false
  iS : PySem.W.kitOne K (.type "str") (.ref C) = some false
  iD : PySem.W.kitOne K (.type "dict") (.ref C) = some false
  iL : PySem.W.kitOne K (.type "list") (.ref C) = some false
  iT : PySem.W.kitOne K (.type "tuple") (.ref C) = some false
structure QTxt (K : PySem.W.Frag) (mg : Str → Option Value) (Cg Cr Cq Eg Er Eq En B : Addr) : Prop where
  g : GTxt K mg Cg Eg B
  r : KR.Txt K mg Cr Er B
  cG : Cl K Cg
  cR : Cl K Cr
  cQ : Cl K Cq
  gr : PySem.W.kitOne K (.ref Cg) (.ref Cr) = some false
  rg : PySem.W.kitOne K (.ref Cr) (.ref Cg) = some false
  cl : Cls K Cq
  nG : NoAttr K Cq "grid"
  nW : NoAttr K Cq "weights"
  mgQ : mg "Question" = some (.ref Cq)
  ca : PySem.W.findIn K (.ref Cq) "__class__" = some (some (.builtin "object.__class__"))
  cm : PySem.W.mroIn K Cq (.type "object") = some true
  ox : OexC K Eq
  mgE : mg "NoQuestion" = some (.ref Eq)
  noW : PySem.W.findIn K (.ref Eq) "word" = some none
  xf : XfC K Eq
  exm : PySem.W.exmOne K (.ref Eq) (.ref Eq) = some true
  up : PySem.W.kitCls K (.ref Eq) (.ref B) = some true
  neB : Eq ≠ B
  q : PySem.W.excIn K En [.type "ValueError", .type "Exception", .type "BaseException", .type "object"] "ValueError.__new__" = true
  mgN : mg "NoAmounts" = some (.ref En)
  kN : PySem.W.keepIn K (.ref En) = true
  ex : PySem.W.subIn K (.ref En) (.type "BaseException") = some true
  ty : PySem.W.typeIn K (.ref En) = some (.type "type")
  exN : PySem.W.exmOne K (.ref En) (.ref En) = some true
  lcm : mg "lcm" = some (.builtin "math.lcm")
  sum : mg "sum" = none
section
variable {K : PySem.W.Frag} {mg : Str → Option Value} {Cg Cr Cq Eg Er Eq En B : Addr} {H H' : Hp} {x : V} {k : Kd}
theorem At.same (h : At Cr Cg H x k) (s : Same H H') : At Cr Cg H' x k := by
  cases k <;> first
    | exact h
    | (obtain ⟨p, e, z⟩ := h; exact ⟨p, e, s _ _ z⟩)
    | (obtain ⟨p, xs, e, z⟩ := h; exact ⟨p, xs, e, s _ _ z⟩)
    | (obtain ⟨p, t, b, e, z⟩ := h; exact ⟨p, t, b, e, z.same s⟩)
    | (obtain ⟨p, as, e, z, l⟩ := h; exact ⟨p, as, e, z.same s, l⟩)
theorem At.ty (T : QTxt K mg Cg Cr Cq Eg Er Eq En B) (h : At Cr Cg H x k) : TyX K H x (k.ty Cr Cg) := by
  cases k with
  | no => rw [show x = .non from h]; exact .base .non
  | bl => obtain ⟨b, rfl⟩ := h; exact .base (.bl b)
  | it => obtain ⟨b, rfl⟩ := h; exact .base (.int b)
  | st => obtain ⟨b, rfl⟩ := h; exact .base (.str b)
  | dk => obtain ⟨p, rfl, e⟩ := h; exact .base (.dK e)
  | ls => obtain ⟨p, xs, rfl, e⟩ := h; exact .base (.lst e)
  | tp => obtain ⟨p, xs, rfl, e⟩ := h; exact .base (.tup e)
  | rt => obtain ⟨p, t, b, rfl, e⟩ := h; exact KR.ty_rat T.r e
  | gr => obtain ⟨p, as, rfl, e, _⟩ := h; exact ty_grid T.g e
theorem kit_row (T : QTxt K mg Cg Cr Cq Eg Er Eq En B) (k : Kd) : PySem.W.kitAny K (k.ty Cr Cg) [.type "list", .type "tuple"] = some k.row := by
  have any2 : ∀ {t : Value} {b1 b2 : Bool}, PySem.W.kitOne K t (.type "list") = some b1 → PySem.W.kitOne K t (.type "tuple") = some b2 → PySem.W.kitAny K t [.type "list", .type "tuple"] = some (b1 || b2) := fun {t b1 b2} h1 h2 => by
    refine kitAny_cons (b := b1) h1 (fun e => ?_) (fun e => by rw [e]; rfl)
    refine kitAny_cons (b := b2) h2 (fun e2 => by rw [e, e2]; rfl) (fun e2 => by rw [e2, Bool.or_true])
  cases k with
  | rt => exact any2 (b1 := false) (b2 := false) T.cR.oL T.cR.oT
  | gr => exact any2 (b1 := false) (b2 := false) T.cG.oL T.cG.oT
  | ls => exact any2 (b1 := true) (b2 := false) (kit_ty (by decide +kernel)) (kit_ty (by decide +kernel))
  | tp => exact any2 (b1 := false) (b2 := true) (kit_ty (by decide +kernel)) (kit_ty (by decide +kernel))
  | _ => exact any2 (b1 := false) (b2 := false) (kit_ty (by decide +kernel)) (kit_ty (by decide +kernel))
theorem kit_rat (T : QTxt K mg Cg Cr Cq Eg Er Eq En B) (k : Kd) : PySem.W.kitOne K (k.ty Cr Cg) (.ref Cr) = some k.rat := by
  cases k with
  | rt => exact KR.kit_self
  | gr => exact T.gr
  | no => exact T.cR.iN
  | bl => exact T.cR.iB
  | it => exact T.cR.iI
  | st => exact T.cR.iS
  | dk => exact T.cR.iD
  | ls => exact T.cR.iL
  | tp => exact T.cR.iT
theorem kit_grid (T : QTxt K mg Cg Cr Cq Eg Er Eq En B) (k : Kd) : PySem.W.kitOne K (k.ty Cr Cg) (.ref Cg) = some k.grid := by
  cases k with
  | gr => exact KR.kit_self
  | rt => exact T.rg
  | no => exact T.cG.iN
  | bl => exact T.cG.iB
  | it => exact T.cG.iI
  | st => exact T.cG.iS
  | dk => exact T.cG.iD
  | ls => exact T.cG.iL
  | tp => exact T.cG.iT
theorem At.int (T : QTxt K mg Cg Cr Cq Eg Er Eq En B) (h : At Cr Cg H x k) : KR.IntV K H x k.int := by
  refine ⟨_, k.i1, k.i2, h.ty T, ?_, ?_, ?_⟩
  · clear h
    cases k <;> first | exact T.cR.oI | exact T.cG.oI | exact kit_ty (by decide +kernel)
  · clear h
    cases k <;> first | exact T.cR.oB | exact T.cG.oB | exact kit_ty (by decide +kernel)
  · cases k <;> rfl
end
/-- a comprehension over a row whose values are known ahead -/
theorem lc_vals {xs : List V} (ys : List V) {J : It} {te : TE} {i : Nat} {vs : List Nat} {σ : St} {H : Hp} {D : Addr} {Qd : Hp → Prop} (hlen : ys.length = xs.length) (wk : Walk J xs.length (fun H' => Same H H') (YAt xs)) (nD : H D = none) (len : xs.length ≤ 1000) (hw : ∀ v : V, wipe ((wipe σ vs).set i (some v)) vs = wipe σ vs)
    (elem : ∀ (j : Nat) (v u : V), xs[j]? = some v → ys[j]? = some u → ∀ H' (Q : VK), Same H H' → (∀ H'', Same H' H'' → Q u H'') → te ((wipe σ vs).set i (some v)) H' Q) (hd : ∀ H', Same H H' → H' D = some (.lst ys) → Qd H') :
    ∃ W : Nat → Nat → Hp → Prop, (∃ m, W 0 m (upd H D (.lst []))) ∧ ∀ j m H', W j m H' → ((J.stop j H' ∧ Qd H') ∨ (J.go j H' ∧ ∃ Nx : Hp → Prop, (∀ H', Nx H' → ∃ m', m' < m ∧ W (j + 1) m' H') ∧
      ∀ x H2, J.yld j H' x H2 → gName i x (wipe σ vs) H2 fun σ2 H3 => wipe σ2 vs = wipe σ vs ∧ tYes σ2 H3 fun b H4 => if b = true then te σ2 H4 fun y H5 => ∃ acc, H5 D = some (.lst acc) ∧ acc.length < sizeLine ∧ Nx (upd H5 D (.lst (acc ++ [y]))) else Nx H4)) := by
  refine lc_each (fun j us _ => us = ys.take j ∧ j ≤ ys.length) wk nD len hw ⟨(List.take_zero).symm, Nat.zero_le _⟩ (fun j us H' g => ?_) (fun j us H' H'' _ g => g) (fun j us H' old o _ g => g) (fun j v us e H' Q s g k => ?_) (fun us H' s e g => ?_)
  · rw [g.1, List.length_take]
    omega
  · have hj : j < ys.length := by rw [hlen]; exact (List.getElem?_eq_some_iff.mp e).1
    refine elem j v ys[j] e (List.getElem?_eq_getElem hj) H' Q s fun H'' s'' => k ys[j] H'' s'' ⟨?_, hj⟩
    rw [g.1, List.take_succ, List.getElem?_eq_getElem hj]
    rfl
  · obtain ⟨rfl, _⟩ := g
    rw [← hlen, List.take_length] at e
    exact hd H' s e
def spSeq (Cr Cg : Addr) : Sp := fun vs H Q _ => ∃ x k, vs = [x] ∧ At Cr Cg H x k ∧ ∀ H', Same H H' → Q (.bl k.row) H'
def spNum (Cr Cg : Addr) : Sp := fun vs H Q _ => ∃ x k, vs = [x] ∧ At Cr Cg H x k ∧ Q (.bl k.num) H
/-- x is a row of things of the kinds ks, or no row -/
def Rw (Cr Cg : Addr) (H : Hp) (x : V) : Option (List Kd) → Prop
  | none => ∃ k, At Cr Cg H x k ∧ k.row = false
  | some ks => ∃ xs, Row H x xs ∧ ks.length ≤ 100 ∧ All2 (At Cr Cg H) xs ks
def good (n : Nat) : Option (List Kd) → Bool
  | none => false
  | some ks => decide (ks.length = n) && ks.all Kd.num
theorem good_some (n : Nat) (ks : List Kd) : good n (some ks) = (decide (ks.length = n) && ks.all Kd.num) := rfl
theorem Rw.same {Cr Cg : Addr} {H H' : Hp} {x : V} {o : Option (List Kd)} (h : Rw Cr Cg H x o) (s : Same H H') : Rw Cr Cg H' x o := by
  cases o with
  | none => obtain ⟨k, a, r⟩ := h; exact ⟨k, a.same s, r⟩
  | some ks => obtain ⟨xs, r, l, a⟩ := h; exact ⟨xs, r.same s, l, a.1, fun i v k e1 e2 => (a.2 i v k e1 e2).same s⟩
def spAmts (Cr Cg : Addr) : Sp := fun vs H Q _ => ∃ g x as o, vs = [.ref g, x] ∧ GridAt Cg H g as ∧ Rw Cr Cg H x o ∧ ∀ H', Same H H' → Q (.bl (good (cellsL as).length o)) H'
theorem row_at {Cr Cg : Addr} {H : Hp} {x : V} {xs : List V} (r : Row H x xs) : ∃ k, At Cr Cg H x k ∧ k.row = true := by
  obtain ⟨p, e, h | h⟩ := r
  · exact ⟨.ls, ⟨p, xs, e, h⟩, rfl⟩
  · exact ⟨.tp, ⟨p, xs, e, h⟩, rfl⟩
section
variable {P : Program} {w : World} {K : PySem.W.Frag} {mg : Str → Option Value} {base : Heap} {Cg Cr Cq Eg Er Eq En B f g h : Addr} {fd gd hd : FuncData}
theorem scSeq : FnScope ["found"] ["found"] (defScope sSeq) := ⟨rfl, rfl, rfl, by decide +kernel, rfl, by decide +kernel, by decide +kernel⟩
theorem ok_seq (F : FnP K "is_sequence" "is_sequence" sSeq [] f fd) (T : Txt K mg) (TQ : QTxt K mg Cg Cr Cq Eg Er Eq En B) : FnOk P w K mg base CX0 1 f fd ["found"] (spSeq Cr Cg) := by
  refine F.ok scSeq (fun vs H Q X z => ?_) (fun cdv A outer s H vs Q X hr z => ?_)
  · obtain ⟨x, k, rfl, _⟩ := z
    rfl
  · obtain ⟨x, kd, rfl, a, k⟩ := z
    refine ⟨_, PSs.nox (pss_one (ps_ret (pe_callB call_isiT (by rfl) T.isinst (by decide +kernel) (pa_cons (pv 0) (pa_cons (pe_tup (pa_cons (pe_bltn (v := .ty "list") (by rfl) T.list (by decide +kernel) rfl) (pa_cons (pe_bltn (v := .ty "tuple") (by rfl) T.tuple (by decide +kernel) rfl) pa_nil))) pa_nil))))), ?_⟩
    refine ⟨_, rfl, (by show 2 ≤ sizeLine; decide), fun p hp => ?_⟩
    have s1 : Same H (upd H p (.tup [.ty "list", .ty "tuple"])) := new hp
    exact ⟨x, p, [.ty "list", .ty "tuple"], kd.ty Cr Cg, [.type "list", .type "tuple"], kd.row, rfl, upd_same, .cons (.ty _) (.cons (.ty _) .nil), (a.same s1).ty TQ, kit_row TQ kd, k _ s1⟩
theorem scIsNum : FnScope ["found"] ["found"] (defScope sIsNum) := ⟨rfl, rfl, rfl, by decide +kernel, rfl, by decide +kernel, by decide +kernel⟩
theorem ok_num (F : FnP K "is_number" "is_number" sIsNum [] f fd) (T : Txt K mg) (TQ : QTxt K mg Cg Cr Cq Eg Er Eq En B) (GI : GloOk P w K mg base CX0 1 "is_integer" ["found"] (KR.spIsInt K)) : FnOk P w K mg base CX0 2 f fd ["found"] (spNum Cr Cg) := by
  obtain ⟨fI, fdI, GI, mI, kI, bI⟩ := GI
  refine F.ok scIsNum (fun vs H Q X z => ?_) (fun cdv A outer s H vs Q X hr z => ?_)
  · obtain ⟨x, k, rfl, _⟩ := z
    rfl
  · obtain ⟨x, kd, rfl, a, k⟩ := z
    refine ⟨_, PSs.nox (pss_one (ps_ret (pe_or
      (pe_callB call_isi (by rfl) T.isinst (by decide +kernel) (pa_cons (pv 0) (pa_cons (pe_glob (v := .ref Cr) (by rfl) TQ.r.mgC rfl) pa_nil)))
      (pe_one (pe_call GI hr rfl mI kI bI .nil pass0 (pa_cons (pv 0) pa_nil)))))), ?_⟩
    refine ⟨_, rfl, x, .ref Cr, kd.ty Cr Cg, _, kd.rat, rfl, .own Cr, a.ty TQ, kit_rat TQ kd, kd.rat, rfl, ?_⟩
    cases hk : kd.rat with
    | true =>
      have e : kd.num = true := by cases kd <;> first | rfl | cases hk
      rw [e] at k
      exact iteT k
    | false =>
      have e : kd.num = kd.int := by cases kd <;> first | rfl | cases hk
      rw [e] at k
      exact iteF ⟨_, rfl, x, kd.int, rfl, a.int TQ, k⟩
theorem scAmts : FnScope ["grid", "found", "amount"] ["grid", "found"] (defScope sAmts) := ⟨rfl, rfl, rfl, by decide +kernel, rfl, by decide +kernel, by decide +kernel⟩
theorem ok_amts (F : FnP K "are_amounts" "are_amounts" sAmts [] f fd) (T : Txt K mg) (TQ : QTxt K mg Cg Cr Cq Eg Er Eq En B) (GS : GloOk P w K mg base CX0 1 "is_sequence" ["found"] (spSeq Cr Cg)) (GN : GloOk P w K mg base CX0 2 "is_number" ["found"] (spNum Cr Cg)) :
    FnOk P w K mg base CX0 3 f fd ["grid", "found"] (spAmts Cr Cg) := by
  obtain ⟨fS, fdS, GS, mS, kS, bS⟩ := GS
  obtain ⟨fN, fdN, GN, mN, kN, bN⟩ := GN
  refine F.ok scAmts (fun vs H Q X z => ?_) (fun cdv A outer s H vs Q X hr z => ?_)
  · obtain ⟨g, x, as, o, rfl, _⟩ := z
    rfl
  · obtain ⟨g, x, as, o, rfl, ga, rw_, k⟩ := z
    have hr1 : Room 1 _ := hr.mono (by decide)
    refine ⟨_, PSs.nox (pss_cons (ps_if (PW.pt (pw_or (pt_not (pt_val (pe_call GS hr1 rfl mS kS bS .nil pass0 (pa_cons (pv 1) pa_nil)))) (pw_or1 (pt_cmpR op_ne (pe_callB call_len_seq (by rfl) T.len PySem.boot_len (pa_cons (pv 1) pa_nil)) (pe_fld (pv 0) rfl) (nomark _))))) (pss_one (ps_ret pe_bl)) pss_nil)
      (pss_one (ps_ret (pe_callB (cr_all rfl) (by rfl) T.all (by decide +kernel) (pa_cons
        (pe_lc (own := [("amount", 2)]) (g := gName 2) (tt := tYes) (by rfl) scAmts.nd (pi_row (pv 1)) (blkOk_by (own := [("amount", 2)]) (N := ["grid", "found", "amount"]) (sc := defScope sAmts) (by decide +kernel)) (fun _ _ _ _ _ => pg_name (i := 2) scAmts.nd rfl (Or.inl rfl)) (fun _ _ _ _ _ => pts_nil)
          (fun _ _ _ _ _ => pe_call GN hr rfl mN kN bN .nil pass0 (pa_cons (pv 2) pa_nil))) pa_nil))))), ?_⟩
    cases o with
    | none =>
      obtain ⟨kd, a, e⟩ := rw_
      refine ⟨_, rfl, x, kd, rfl, a, fun H1 s1 => ?_⟩
      rw [e]
      exact ⟨_, rfl, iteT (iteT (k H1 s1))⟩
    | some ks =>
      obtain ⟨xs, r, l, al⟩ := rw_
      obtain ⟨kd, a, e⟩ := row_at (Cr := Cr) (Cg := Cg) r
      refine ⟨_, rfl, x, kd, rfl, a, fun H1 s1 => ?_⟩
      rw [e]
      refine ⟨_, rfl, iteF ?_⟩
      have r1 := r.same s1
      obtain ⟨p, rfl, hq⟩ := r1.seq (K := K)
      obtain ⟨dx, va, vc, eg, _⟩ := ga.same s1
      refine ⟨_, rfl, p, xs, rfl, hq, _, rfl, g, Cg, dx, _, _, rfl, eg, TQ.g.cl, TQ.g.nS, flds_size _ _ _, rfl, _, rfl, ?_⟩
      rcases Decidable.em (xs.length = (cellsL as).length) with c | c
      · refine itF ?_ ?_
        · rw [Bool.not_eq_false']
          exact decide_eq_true (by rw [c])
        refine nx_ ?_
        refine cb_one (tLc_row rfl r1 fun J wk D nD => lc_vals ((ks.map Kd.num).map V.bl) (by rw [List.length_map, List.length_map]; exact al.1.symm) wk nD (by have := al.1; omega) (fun _ => by rfl) (fun j v u hv hu H2 Q2 s2 a2 => ?_) fun H2 s2 e2 => ?_)
        · rw [List.map_map, List.getElem?_map] at hu
          obtain ⟨kv, hkv, rfl⟩ := Option.map_eq_some_iff.mp hu
          exact ⟨_, rfl, v, kv, rfl, (al.2 j v kv hv hkv).same (s1.trans s2), a2 H2 (Same.refl _)⟩
        · have k2 := k H2 (s1.trans s2)
          rw [good_some, decide_eq_true (show ks.length = (cellsL as).length by rw [← al.1]; exact c), Bool.true_and] at k2
          refine ⟨D, ks.map Kd.num, rfl, SqL.of e2, ?_⟩
          rw [List.all_map]
          exact k2
      · refine itT ?_ ?_
        · rw [decide_eq_false (fun z => c (by have := V.int.inj z; omega))]
          rfl
        · have k2 := k H1 s1
          rw [good_some, decide_eq_false (show ¬ ks.length = (cellsL as).length by rw [← al.1]; exact c), Bool.false_and] at k2
          exact k2
end
end K6

set_option Elab.async false
set_option linter.all false
set_option maxRecDepth 100000
set_option maxHeartbeats 4000000
/-! law k06: Question's making and == -/
namespace K6
open PySem L2 TL KG
abbrev sErr : Stmt := inClass (top 6) 0
abbrev sQInit : Stmt := inClass (top 41) 0
abbrev sQEq : Stmt := inClass (top 41) 1
theorem nl_upd {H : Hp} {D : Addr} {old : List V} {o : HO} (e : H D = some (.lst old)) : NL H (upd H D o) := fun a u n h => by
  rw [upd_ne (fun z => by rw [z, e] at h; cases h; exact n _ rfl)]
  exact h
/-- a comprehension over a row that makes a thing for each -/
theorem lc_objs {α : Type} {xs : List V} (R : Hp → V → α → Prop) (ns : List α) {J : It} {te : TE} {i : Nat} {vs : List Nat} {σ : St} {H : Hp} {D : Addr} {Qd : Hp → Prop} (hlen : ns.length = xs.length) (Rs : ∀ {H H' : Hp} {u : V} {n : α}, Same H H' → R H u n → R H' u n) (Rl : ∀ {H H' : Hp} {u : V} {n : α}, NL H H' → R H u n → R H' u n)
    (wk : Walk J xs.length (fun H' => Same H H') (YAt xs)) (nD : H D = none) (len : xs.length ≤ 1000) (hw : ∀ v : V, wipe ((wipe σ vs).set i (some v)) vs = wipe σ vs)
    (elem : ∀ (j : Nat) (v : V) (n : α), xs[j]? = some v → ns[j]? = some n → ∀ H' (Q : VK), Same H H' → (∀ u H'', Same H' H'' → R H'' u n → Q u H'') → te ((wipe σ vs).set i (some v)) H' Q) (hd : ∀ us H', Same H H' → H' D = some (.lst us) → All2 (R H') us ns → Qd H') :
    ∃ W : Nat → Nat → Hp → Prop, (∃ m, W 0 m (upd H D (.lst []))) ∧ ∀ j m H', W j m H' → ((J.stop j H' ∧ Qd H') ∨ (J.go j H' ∧ ∃ Nx : Hp → Prop, (∀ H', Nx H' → ∃ m', m' < m ∧ W (j + 1) m' H') ∧
      ∀ x H2, J.yld j H' x H2 → gName i x (wipe σ vs) H2 fun σ2 H3 => wipe σ2 vs = wipe σ vs ∧ tYes σ2 H3 fun b H4 => if b = true then te σ2 H4 fun y H5 => ∃ acc, H5 D = some (.lst acc) ∧ acc.length < sizeLine ∧ Nx (upd H5 D (.lst (acc ++ [y]))) else Nx H4)) := by
  refine lc_each (fun j us H' => All2 (R H') us (ns.take j) ∧ j ≤ ns.length) wk nD len hw ⟨All2.nil, Nat.zero_le _⟩ (fun j us H' g => ?_) (fun j us H' H'' s g => ⟨g.1.imp fun _ _ y => Rs s y, g.2⟩) (fun j us H' old o e g => ⟨g.1.imp fun _ _ y => Rl (nl_upd e) y, g.2⟩) (fun j v us e H' Q s g k => ?_) (fun us H' s e g => ?_)
  · rw [g.1.1, List.length_take, Nat.min_eq_left g.2]
  · have hj : j < ns.length := by rw [hlen]; exact (List.getElem?_eq_some_iff.mp e).1
    refine elem j v ns[j] e (List.getElem?_eq_getElem hj) H' Q s fun u H'' s'' r => k u H'' s'' ⟨?_, hj⟩
    rw [take_snoc (List.getElem?_eq_getElem hj)]
    exact (g.1.imp fun _ _ y => Rs s'' y).snoc r
  · obtain ⟨g, _⟩ := g
    rw [← hlen, List.take_length] at g
    exact hd us H' s e g
/-! ### what a Question looks like -/
abbrev Fr := Int × Int
def NumP (Cr : Addr) (H : Hp) (v : V) (n : Fr) : Prop := KR.NumV Cr H v n.1 n.2
def RatP (Cr : Addr) (H : Hp) (v : V) (n : Fr) : Prop := ∃ q, v = .ref q ∧ KR.RatAt Cr H q n.1 n.2
theorem NumP.same {Cr : Addr} {H H' : Hp} {v : V} {n : Fr} (s : Same H H') (h : NumP Cr H v n) : NumP Cr H' v n := KR.NumV.same h s
theorem NumP.nl {Cr : Addr} {H H' : Hp} {v : V} {n : Fr} (s : NL H H') (h : NumP Cr H v n) : NumP Cr H' v n := KR.NumV.nl h s
theorem RatP.same {Cr : Addr} {H H' : Hp} {v : V} {n : Fr} (s : Same H H') (h : RatP Cr H v n) : RatP Cr H' v n := let ⟨q, e, h⟩ := h; ⟨q, e, h.same s⟩
theorem RatP.nl {Cr : Addr} {H H' : Hp} {v : V} {n : Fr} (s : NL H H') (h : RatP Cr H v n) : RatP Cr H' v n := let ⟨q, e, h⟩ := h; ⟨q, e, h.nl s⟩
theorem ngw : ¬ (("grid" : Str) = "weights") := by decide +kernel
def q1 (vg : V) : List (Str × V) := putF "grid" vg []
def qf (vg vw : V) : List (Str × V) := putF "weights" vw (q1 vg)
theorem qf_grid (vg vw : V) : (qf vg vw).lookup ("grid" : Str) = some vg := by
  unfold qf q1
  rw [lookup_putF, if_neg ngw, lookup_putF, if_pos rfl]
theorem qf_weights (vg vw : V) : (qf vg vw).lookup ("weights" : Str) = some vw := by
  unfold qf
  rw [lookup_putF, if_pos rfl]
def QAt (Cq Cg Cr : Addr) (H : Hp) (p : Addr) (as : List Ax) (ns : List Fr) : Prop :=
  ∃ dx g wt vs, H p = some (.ins Cq dx (qf (.ref g) (.ref wt))) ∧ GridAt Cg H g as ∧ H wt = some (.tup vs) ∧ All2 (RatP Cr H) vs ns
theorem QAt.nl {Cq Cg Cr : Addr} {H H' : Hp} {p : Addr} {as : List Ax} {ns : List Fr} (h : QAt Cq Cg Cr H p as ns) (s : NL H H') : QAt Cq Cg Cr H' p as ns :=
  let ⟨dx, g, wt, vs, e, ga, t, al⟩ := h; ⟨dx, g, wt, vs, s _ _ (fun _ z => by cases z) e, ga.nl s, s _ _ (fun _ z => by cases z) t, al.imp fun _ _ y => y.nl s⟩
theorem QAt.same {Cq Cg Cr : Addr} {H H' : Hp} {p : Addr} {as : List Ax} {ns : List Fr} (h : QAt Cq Cg Cr H p as ns) (s : Same H H') : QAt Cq Cg Cr H' p as ns := h.nl (NL.of s)
theorem q1_top (vg : V) : (q1 vg).lookup ("top" : Str) = none := by
  unfold q1
  rw [lookup_putF, if_neg (by decide +kernel)]
  rfl
theorem q1_axes (vg : V) : (q1 vg).lookup ("axes" : Str) = none := by
  unfold q1
  rw [lookup_putF, if_neg (by decide +kernel)]
  rfl
/-- all but p stays -/
abbrev Off (p : Addr) (H H' : Hp) : Prop := ∀ a o, a ≠ p → H a = some o → H' a = some o
theorem rat_off {C D p q dx : Addr} {H H' : Hp} {t b : Int} {fs : List (Str × V)} (h : KR.RatAt C H q t b) (e : H p = some (.ins D dx fs)) (n : fs.lookup ("top" : Str) = none) (o : Off p H H') : KR.RatAt C H' q t b := by
  obtain ⟨dy, e2⟩ := h
  refine ⟨dy, o _ _ (fun z => ?_) e2⟩
  rw [z, e] at e2
  cases e2
  rw [KR.flds_top] at n
  cases n
theorem grid_off {C D p q dx : Addr} {H H' : Hp} {as : List Ax} {fs : List (Str × V)} (h : GridAt C H q as) (e : H p = some (.ins D dx fs)) (n : fs.lookup ("axes" : Str) = none) (o : Off p H H') : GridAt C H' q as := by
  have ts : TSame H H' := fun a xs h => o _ _ (fun z => by rw [z, e] at h; cases h) h
  obtain ⟨dy, va, vc, e2, a, c⟩ := h
  refine ⟨dy, va, vc, o _ _ (fun z => ?_) e2, a.t ts, c.t ts⟩
  rw [z, e] at e2
  cases e2
  rw [flds_axes] at n
  cases n
theorem row_off {D p dx : Addr} {H H' : Hp} {y : V} {xs : List V} {fs : List (Str × V)} (h : Row H y xs) (e : H p = some (.ins D dx fs)) (o : Off p H H') : Row H' y xs := by
  obtain ⟨a, rfl, h⟩ := h
  have n : a ≠ p := fun z => by
    rw [z, e] at h
    rcases h with h | h <;> cases h
  rcases h with h | h
  · exact ⟨a, rfl, .inl (o _ _ n h)⟩
  · exact ⟨a, rfl, .inr (o _ _ n h)⟩
theorem num_off {C D p dx : Addr} {H H' : Hp} {v : V} {n : Fr} {fs : List (Str × V)} (h : NumP C H v n) (e : H p = some (.ins D dx fs)) (m : fs.lookup ("top" : Str) = none) (o : Off p H H') : NumP C H' v n := by
  rcases h with h | ⟨q, rfl, h⟩
  · exact .inl h
  · exact .inr ⟨q, rfl, rat_off h e m o⟩
theorem off_upd {p : Addr} {H : Hp} {o : HO} : Off p H (upd H p o) := fun a u n h => by rw [upd_ne n]; exact h
def spQInit (K : PySem.W.Frag) (Cq Cg Cr Eq : Addr) : Sp := fun vs H Q X => ∃ p dx x y, vs = [.ref p, x, y] ∧ H p = some (.ins Cq dx []) ∧
  ((∃ k, At Cr Cg H x k ∧ k.grid = false ∧ Raised Eq p H X "grid") ∨ ∃ g as, x = .ref g ∧ GridAt Cg H g as ∧ ∃ o, Rw Cr Cg H y o ∧
    ((good (cellsL as).length o = false ∧ Raised Eq p H X "weights") ∨ (good (cellsL as).length o = true ∧ ∃ xs ns, Row H y xs ∧ xs.length ≤ 100 ∧ All2 (NumP Cr H) xs ns ∧
      ∀ H', (∀ a o, a ≠ p → H a = some o → H' a = some o) → QAt Cq Cg Cr H' p as ns → Q .non H')))
section
variable {P : Program} {w : World} {K : PySem.W.Frag} {mg : Str → Option Value} {base : Heap} {Cg Cr Cq Eg Er Eq En B f g h : Addr} {fd gd hd : FuncData}
theorem scErr : FnScope ["self", "word"] ["self", "word"] (defScope sErr) := ⟨rfl, rfl, rfl, by decide +kernel, rfl, by decide +kernel, by decide +kernel⟩
theorem ok_err (F : FnP K "__init__" "NoQuestion.__init__" sErr [] f fd) (TQ : QTxt K mg Cg Cr Cq Eg Er Eq En B) : FnOk P w K mg base CX0 1 f fd ["self", "word"] (spErr K Eq) := by
  refine F.ok scErr (fun vs H Q X z => ?_) (fun cdv A outer s H vs Q X hr z => ?_)
  · obtain ⟨a, v, rfl, _⟩ := z
    rfl
  · obtain ⟨a, v, rfl, ha, k⟩ := z
    refine ⟨_, PSs.nox (pss_one (ps_ost (pv 0) (pv 1))), ?_⟩
    exact ⟨_, rfl, _, rfl, a, Eq, rfl, TQ.ox, TQ.noW, .inl ⟨ha, fun d hd ne => k d hd ne⟩⟩
theorem scQInit : FnScope ["self", "grid", "weights", "weight"] ["self", "grid", "weights"] (defScope sQInit) := ⟨rfl, rfl, rfl, by decide +kernel, rfl, by decide +kernel, by decide +kernel⟩
theorem ok_qinit (F : FnP K "__init__" "Question.__init__" sQInit [] f fd) (T : Txt K mg) (TQ : QTxt K mg Cg Cr Cq Eg Er Eq En B) (GE : ErrOk P w K mg base Eq 1 ["self", "word"] (spErr K Eq))
    (GA : GloOk P w K mg base CX0 3 "are_amounts" ["grid", "found"] (spAmts Cr Cg)) (GR : GloOk P w K mg base CX0 5 "as_ratio" ["number"] (KR.spAsR Cr)) : FnOk P w K mg base (L2.CX P w) 6 f fd ["self", "grid", "weights"] (spQInit K Cq Cg Cr Eq) := by
  obtain ⟨fE, fdE, GE, iE, tE, bE⟩ := GE
  obtain ⟨fA, fdA, GA, mA, kA, bA⟩ := GA
  obtain ⟨fR, fdR, GR, mR, kR, bR⟩ := GR
  refine F.ok scQInit (fun vs H Q X z => ?_) (fun cdv A outer s H vs Q X hr z => ?_)
  · obtain ⟨p, dx, x, y, rfl, _⟩ := z
    rfl
  · obtain ⟨p, dx, x, y, rfl, hp, z⟩ := z
    have hr2 : Room 2 _ := hr.mono (by decide)
    have hr3 : Room 3 _ := hr.mono (by decide)
    refine ⟨_, pss_cons (ps_if (pt_not (pt_val (pe_callB call_isi (by rfl) T.isinst (by decide +kernel) (pa_cons (pv 1) (pa_cons (pe_glob (v := .ref Cg) (by rfl) TQ.g.mgC rfl) pa_nil))))) (pss_one (ps_raise rfl (takes_of rfl rfl rfl rfl) (pmk_oex TQ.ox iE tE GE hr2 bE .nil pass0 rfl TQ.mgE (pa_cons pe_str pa_nil)))) pss_nil)
      (pss_cons (ps_if (pt_not (pt_val (pe_call GA hr3 rfl mA kA bA .nil pass0 (pa_cons (pv 1) (pa_cons (pv 2) pa_nil))))) (pss_one (ps_raise rfl (takes_of rfl rfl rfl rfl) (pmk_oex TQ.ox iE tE GE hr2 bE .nil pass0 rfl TQ.mgE (pa_cons pe_str pa_nil)))) pss_nil)
      (pss_cons (ps_fld (pv 0) (pv 1) rfl)
      (pss_one (ps_fld (pv 0) (pe_callTy (show CallR _ (.type "tuple") (rTup K) from call_tuple_of) (by rfl) T.tuple (by decide +kernel) (pa_cons
          (pe_lc (own := [("weight", 3)]) (g := gName 3) (tt := tYes) (by rfl) scQInit.nd (pi_row (pv 2)) (blkOk_by (own := [("weight", 3)]) (N := ["self", "grid", "weights", "weight"]) (sc := defScope sQInit) (by decide +kernel)) (fun _ _ _ _ _ => pg_name (i := 3) scQInit.nd rfl (Or.inl rfl)) (fun _ _ _ _ _ => pts_nil)
            (fun _ _ _ _ _ => pe_call GR hr rfl mR kR bR .nil pass0 (pa_cons (pv 3) pa_nil))) pa_nil)) rfl)))), ?_⟩
    rcases z with ⟨k, a, e, r⟩ | ⟨g, as, rfl, ga, o, ro, z⟩
    · exact ⟨_, rfl, x, .ref Cg, k.ty Cr Cg, _, k.grid, rfl, .own Cg, a.ty TQ, kit_grid TQ k, k.grid, rfl, by rw [e]; exact iteT (raised_ok r)⟩
    · refine ⟨_, rfl, .ref g, .ref Cg, .ref Cg, _, true, rfl, .own Cg, ty_grid TQ.g ga, KR.kit_self, true, rfl, iteF (nx_ ?_)⟩
      refine ⟨_, rfl, _, rfl, g, y, as, o, rfl, ga, ro, fun H1 s1 => ⟨_, rfl, ?_⟩⟩
      rcases z with ⟨e, r⟩ | ⟨e, xs, ns, ry, lx, al, k⟩
      · rw [e]
        exact iteT (raised_ok (r.at fun a o _ h => s1 _ _ h))
      · rw [e]
        refine iteF (nx_ ?_)
        refine sq ?_
        refine ⟨_, rfl, _, rfl, p, Cq, dx, _, rfl, s1 _ _ hp, TQ.cl, TQ.nG, (by show 0 < 1000; decide), ?_⟩
        refine nx_ ?_
        refine fld_cb ?_
        have e1 := s1 _ _ hp
        have o1 : Off p H1 (upd H1 p (.ins Cq dx (q1 (.ref g)))) := off_upd
        have e2 : upd H1 p (.ins Cq dx (q1 (.ref g))) p = some (.ins Cq dx (q1 (.ref g))) := upd_same
        have g2 := grid_off (ga.same s1) e1 rfl o1
        have r2 := row_off (ry.same s1) e1 o1
        have al2 : All2 (NumP Cr (upd H1 p (.ins Cq dx (q1 (.ref g))))) xs ns := al.imp fun _ _ z => num_off (NumP.same s1 z) e1 rfl o1
        have sz : xs.length ≤ 1000 := by omega
        have al0 := al.1
        refine tLc_row (x := y) (xs := xs) rfl (show Row (upd H1 p (.ins Cq dx (q1 (.ref g)))) y xs from r2) fun J wk D nD => ?_
        refine lc_objs (RatP Cr) ns al.1.symm (fun s h => RatP.same s h) (fun s h => RatP.nl s h) wk nD sz (fun _ => by rfl) (fun j v n hv hn H' Q' s' h => ?_) (fun us H5 s5 e5 al5 => ?_)
        · exact ⟨_, rfl, v, n.1, n.2, rfl, NumP.same s' (al2.2 j v n hv hn), fun q H' s'' r => h _ _ s'' ⟨q, rfl, r⟩⟩
        · refine ⟨D, us, rfl, .inl ⟨SqL.of e5, fun l nl => ?_⟩⟩
          have s6 := s5.trans (new (o := .tup us) nl)
          have e7 : upd H5 l (.tup us) p = some (.ins Cq dx (q1 (.ref g))) := s6 _ _ e2
          refine ⟨_, rfl, p, Cq, dx, _, rfl, e7, TQ.cl, TQ.nW, (by show 1 < 1000; decide), ?_⟩
          have o8 : Off p (upd H5 l (.tup us)) (upd (upd H5 l (.tup us)) p (.ins Cq dx (qf (.ref g) (.ref l)))) := off_upd
          refine k _ (fun a o n h => o8 _ _ n (s6 _ _ (o1 _ _ n (s1 _ _ h)))) ⟨dx, g, l, us, upd_same, grid_off (g2.same s6) e7 (q1_axes _) o8, ?_, ?_⟩
          · refine o8 _ _ (fun z => ?_) upd_same
            rw [z, upd_same] at e7
            cases e7
          · exact al5.imp fun v n z => by
              obtain ⟨q, e, r⟩ := z.same (new (o := .tup us) nl)
              exact ⟨q, e, rat_off r e7 (q1_top _) o8⟩
end
end K6

set_option Elab.async false
set_option linter.all false
set_option maxRecDepth 100000
set_option maxHeartbeats 4000000
/-! law k06: Question's == -/
namespace K6
open PySem L2 TL KG
theorem getD_at {α : Type} {l : List α} {d : α} {j : Nat} (h : j < l.length) : l.getD j d = l[j] := by
  rw [List.getD_eq_getElem?_getD, List.getElem?_eq_getElem h]
  rfl
theorem rat_one {C : Addr} {H : Hp} {p : Addr} {n m : Fr} (h : KR.RatAt C H p n.1 n.2) (k : KR.RatAt C H p m.1 m.2) : n = m := by
  obtain ⟨d1, e1⟩ := h
  obtain ⟨d2, e2⟩ := k
  rw [e1] at e2
  have e3 : KR.flds n.1 n.2 = KR.flds m.1 m.2 := by
    have := Option.some.inj e2
    injection this
  have t1 := KR.flds_top n.1 n.2
  have b1 := KR.flds_bot n.1 n.2
  rw [e3, KR.flds_top] at t1
  rw [e3, KR.flds_bot] at b1
  have t2 := V.int.inj (Option.some.inj t1)
  have b2 := V.int.inj (Option.some.inj b1)
  exact Prod.ext t2.symm b2.symm
def eqn (ns ms : List Fr) (j : Nat) : Bool := decide ((ns.getD j (0, 0)).1 = (ms.getD j (0, 0)).1) && decide ((ns.getD j (0, 0)).2 = (ms.getD j (0, 0)).2)
theorem eqn_iff {ns ms : List Fr} {j : Nat} : eqn ns ms j = true ↔ ns.getD j (0, 0) = ms.getD j (0, 0) := by
  unfold eqn
  rw [Bool.and_eq_true, decide_eq_true_iff, decide_eq_true_iff]
  exact ⟨fun h => Prod.ext h.1 h.2, fun h => by rw [h]; exact ⟨rfl, rfl⟩⟩
theorem eqn_all (ns ms : List Fr) : ((List.range (min ns.length ms.length)).all (eqn ns ms) && (ns.length == ms.length)) = true ↔ ns = ms := by
  rw [Bool.and_eq_true, List.all_eq_true, beq_iff_eq]
  constructor
  · rintro ⟨h, l⟩
    refine List.ext_getElem l fun i h1 h2 => ?_
    have e := eqn_iff.mp (h i (List.mem_range.mpr (by omega)))
    rw [getD_at h1, getD_at h2] at e
    exact e
  · rintro rfl
    exact ⟨fun i _ => eqn_iff.mpr rfl, rfl⟩
def spQEq (K : PySem.W.Frag) (Cq Cg Cr : Addr) : Sp := fun vs H Q _ => ∃ p y as ns, vs = [.ref p, y] ∧ QAt Cq Cg Cr H p as ns ∧ AxOk as ∧
  ((∃ q bs ms, y = .ref q ∧ QAt Cq Cg Cr H q bs ms ∧ AxOk bs ∧ ∀ r : Bool, (r = true ↔ as = bs ∧ ns = ms) → Q (.bl r) H) ∨ (∃ ty, TyX K H y ty ∧ PySem.W.kitOne K ty (.ref Cq) = some false ∧ Q (.bl false) H))
section
variable {P : Program} {w : World} {K : PySem.W.Frag} {mg : Str → Option Value} {base : Heap} {Cg Cr Cq Eg Er Eq En B f g h : Addr} {fd gd hd : FuncData}
theorem ty_q (TQ : QTxt K mg Cg Cr Cq Eg Er Eq En B) {H : Hp} {p : Addr} {as : List Ax} {ns : List Fr} (h : QAt Cq Cg Cr H p as ns) : TyX K H (.ref p) (.ref Cq) := by
  obtain ⟨dx, g, wt, vs, e, _⟩ := h
  exact .base (.ins e TQ.cl TQ.ca TQ.g.cn TQ.g.ct TQ.cm)
theorem nf_self {K : PySem.W.Frag} {C : Addr} : PySem.W.notFirst K C (.ref C) = true := by
  show (_ || _) = true
  rw [beq_self_eq_true]
  rfl
theorem scQEq : FnScope ["self", "other"] ["self", "other"] (defScope sQEq) := ⟨rfl, rfl, rfl, by decide +kernel, rfl, by decide +kernel, by decide +kernel⟩
theorem ok_qeq (F : FnP K "__eq__" "Question.__eq__" sQEq [] f fd) (T : Txt K mg) (TQ : QTxt K mg Cg Cr Cq Eg Er Eq En B) (GG : MthOk P w K mg base Cg CX0 1 "__eq__" ["self", "other"] (spEq K Cg))
    (GR : MthOk P w K mg base Cr CX0 2 "__eq__" ["self", "other"] (KR.spEq K Cr)) : FnOk P w K mg base CX0 4 f fd ["self", "other"] (spQEq K Cq Cg Cr) := by
  obtain ⟨fG, fdG, GG, MG, bG⟩ := GG
  obtain ⟨fR, fdR, GR, MR, bR⟩ := GR
  refine F.ok scQEq (fun vs H Q X z => ?_) (fun cdv A outer s H vs Q X hr z => ?_)
  · obtain ⟨p, y, as, ns, rfl, _⟩ := z
    rfl
  · obtain ⟨p, y, as, ns, rfl, qp, oa, z⟩ := z
    have hr1 : Room 1 _ := hr.mono (by decide)
    refine ⟨_, PSs.nox (pss_one (ps_ret (pe_and (pe_callB call_isi (by rfl) T.isinst (by decide +kernel) (pa_cons (pv 1) (pa_cons (pe_glob (v := .ref Cq) (by rfl) TQ.mgQ rfl) pa_nil)))
      (pe_and (pe_cmpR (op_cmp (op := .Eq) (fun _ _ => rfl) MG.at_ MG.fn GG hr1 bG pass0) (pe_fld (pv 0) rfl) (pe_fld (pv 1) rfl) (nomark _))
      (pe_one (pe_cmpR (op_eqTup (C := Cr) nf_self MR.at_ MR.fn GR hr bR pass0) (pe_fld (pv 0) rfl) (pe_fld (pv 1) rfl) (nomark _))))))), ?_⟩
    rcases z with ⟨q, bs, ms, rfl, qq, ob, k⟩ | ⟨ty, hty, hk, k⟩
    · have t2 := ty_q TQ qq
      obtain ⟨dx, g1, w1, v1, e1, a1, c1, l1⟩ := qp
      obtain ⟨dy, g2, w2, v2, e2, a2, c2, l2⟩ := qq
      refine ⟨_, rfl, _, .ref Cq, .ref Cq, _, true, rfl, .own Cq, t2, KR.kit_self, true, rfl, iteT ?_⟩
      refine ⟨_, rfl, p, Cq, dx, _, _, rfl, e1, TQ.cl, TQ.nG, qf_grid _ _, _, rfl, q, Cq, dy, _, _, rfl, e2, TQ.cl, TQ.nG, qf_grid _ _, ?_⟩
      obtain ⟨dg, va, vc, eg, _⟩ := id a1
      refine ⟨g1, dg, _, .ref Cg, rfl, eg, ty_grid TQ.g a2, nf_self, g1, _, as, rfl, a1, oa, .inl ⟨g2, bs, rfl, a2, ob, fun r hr' => ⟨r, rfl, ?_⟩⟩⟩
      cases r with
      | false => exact iteF (k false ⟨fun z => Bool.noConfusion z, fun z => hr'.mpr z.1⟩)
      | true =>
        refine iteT ?_
        refine ⟨_, rfl, p, Cq, dx, _, _, rfl, e1, TQ.cl, TQ.nW, qf_weights _ _, _, rfl, q, Cq, dy, _, _, rfl, e2, TQ.cl, TQ.nW, qf_weights _ _, ?_⟩
        refine ⟨w1, w2, v1, v2, eqn ns ms, rfl, rfl, SqT.of c1, SqT.of c2, fun j u v hu hv => ?_, ?_⟩
        · have j1 := (List.getElem?_eq_some_iff.mp hu).1
          have j2 := (List.getElem?_eq_some_iff.mp hv).1
          have j3 : j < ns.length := by rw [← l1.1]; exact j1
          have j4 : j < ms.length := by rw [← l2.1]; exact j2
          obtain ⟨a, rfl, ra⟩ := l1.2 j u _ hu (List.getElem?_eq_getElem j3)
          obtain ⟨b, rfl, rb⟩ := l2.2 j v _ hv (List.getElem?_eq_getElem j4)
          obtain ⟨d3, e3⟩ := id ra
          obtain ⟨d4, e4⟩ := id rb
          have g3 : ns.getD j (0, 0) = ns[j] := getD_at j3
          have g4 : ms.getD j (0, 0) = ms[j] := getD_at j4
          refine ⟨a, d3, _, b, d4, _, rfl, rfl, e3, e4, fun z => ?_, a, _, _, _, rfl, ra, .inl ⟨_, _, .inr ⟨b, rfl, rb⟩, ?_, rfl⟩⟩
          · subst z
            rw [eqn_iff, g3, g4]
            exact rat_one ra rb
          · unfold eqn
            rw [g3, g4]
        · refine k _ ?_
          rw [l1.1, l2.1, eqn_all]
          exact ⟨fun z => ⟨hr'.mp rfl, z⟩, fun z => z.2⟩
    · exact ⟨_, rfl, y, .ref Cq, ty, _, false, rfl, .own Cq, hty, hk, false, rfl, iteF k⟩
end
end K6

namespace Rt
theorem low_eq {t b t2 b2 : Int} (h : Low t b) (k : Low t2 b2) : t * b2 = t2 * b ↔ t = t2 ∧ b = b2 := by
  constructor
  · intro e
    have hb := h.pos
    have hk := k.pos
    have e1 : t.natAbs * b2.natAbs = t2.natAbs * b.natAbs := by rw [← Int.natAbs_mul, ← Int.natAbs_mul, e]
    have d1 : b.natAbs ∣ b2.natAbs := by
      have c : Nat.Coprime b.natAbs t.natAbs := by
        show Nat.gcd _ _ = 1
        rw [Nat.gcd_comm]
        exact h.cop
      exact c.dvd_of_dvd_mul_left ⟨t2.natAbs, by rw [e1, Nat.mul_comm]⟩
    have d2 : b2.natAbs ∣ b.natAbs := by
      have c : Nat.Coprime b2.natAbs t2.natAbs := by
        show Nat.gcd _ _ = 1
        rw [Nat.gcd_comm]
        exact k.cop
      exact c.dvd_of_dvd_mul_left ⟨t.natAbs, by rw [← e1, Nat.mul_comm]⟩
    have e2 := Nat.dvd_antisymm d1 d2
    have e3 : b = b2 := by omega
    subst e3
    exact ⟨Int.eq_of_mul_eq_mul_right (by omega) e, rfl⟩
  · rintro ⟨rfl, rfl⟩
    rfl
end Rt

/-! plain mathematics of sums of products of fractions -/
namespace Rt
theorem nrm_cross {p q : Int} (h : q ≠ 0) : nrmT p q * q = p * nrmB p q := by
  have hs := shr_ne (p := p) h
  have e1 : shr p q * nrmT p q = p := fdiv_mul hs (shr_dvd_l p q)
  have e2 : shr p q * nrmB p q = q := fdiv_mul hs (shr_dvd_r p q)
  have go : ∀ x y z : Int, z * x = p → z * y = q → x * q = p * y := by
    intro x y z h1 h2
    rw [← h1, ← h2]
    grind
  exact go _ _ _ e1 e2
/-- two fractions of one value have one lowest form -/
theorem nrm_same {p q t b : Int} (h : q ≠ 0) (l : Low t b) (e : t * q = b * p) : nrmT p q = t ∧ nrmB p q = b := by
  have c := nrm_cross (p := p) h
  refine (low_eq (nrm_low h) l).mp ?_
  refine Int.eq_of_mul_eq_mul_right h ?_
  generalize nrmT p q = x at *
  generalize nrmB p q = y at *
  grind
abbrev Frc := Int × Int
def plusF (x y : Frc) : Frc := (nrmT (x.1 * y.2 + y.1 * x.2) (x.2 * y.2), nrmB (x.1 * y.2 + y.1 * x.2) (x.2 * y.2))
def byF (x y : Frc) : Frc := (nrmT (x.1 * y.1) (x.2 * y.2), nrmB (x.1 * y.1) (x.2 * y.2))
/-- the sum of the products, step by step -/
def runF (ws as : List Frc) : Nat → Frc
  | 0 => (0, 1)
  | k + 1 => plusF (runF ws as k) (byF (ws.getD k (0, 1)) (as.getD k (0, 1)))
def lcmL (ns : List Frc) : Nat := ns.foldl (fun b n => Nat.lcm b n.2.natAbs) 1
def topsL (ns : List Frc) (B : Int) : List Int := ns.map fun n => n.1 * B.fdiv n.2
def dotL (xs ys : List Int) : Nat → Int
  | 0 => 0
  | k + 1 => dotL xs ys k + xs.getD k 0 * ys.getD k 0
theorem lcmL_snoc (ns : List Frc) (n : Frc) : lcmL (ns ++ [n]) = Nat.lcm (lcmL ns) n.2.natAbs := by
  unfold lcmL
  rw [List.foldl_append]
  rfl
theorem lcmL_dvd (ns : List Frc) : ∀ n ∈ ns, n.2.natAbs ∣ lcmL ns := by
  have go : ∀ (ns : List Frc) (b : Nat), b ∣ ns.foldl (fun b n => Nat.lcm b n.2.natAbs) b ∧ ∀ n ∈ ns, n.2.natAbs ∣ ns.foldl (fun b n => Nat.lcm b n.2.natAbs) b := by
    intro ns
    induction ns with
    | nil => exact fun b => ⟨Nat.dvd_refl b, fun n h => absurd h (by simp)⟩
    | cons m r ih =>
      intro b
      obtain ⟨h1, h2⟩ := ih (Nat.lcm b m.2.natAbs)
      rw [List.foldl_cons]
      refine ⟨Nat.dvd_trans (Nat.dvd_lcm_left _ _) h1, fun n hn => ?_⟩
      rcases List.mem_cons.mp hn with rfl | hn
      · exact Nat.dvd_trans (Nat.dvd_lcm_right _ _) h1
      · exact h2 n hn
  exact (go ns 1).2
theorem lcmL_pos (ns : List Frc) (h : ∀ n ∈ ns, 0 < n.2) : 0 < lcmL ns := by
  have go : ∀ (ns : List Frc) (b : Nat), 0 < b → (∀ n ∈ ns, 0 < n.2) → 0 < ns.foldl (fun b n => Nat.lcm b n.2.natAbs) b := by
    intro ns
    induction ns with
    | nil => exact fun b h _ => h
    | cons m r ih =>
      intro b hb h
      rw [List.foldl_cons]
      exact ih _ (Nat.lcm_pos hb (by have := h m List.mem_cons_self; omega)) fun n hn => h n (List.mem_cons_of_mem _ hn)
  exact go ns 1 (by decide) h
theorem lcmL_le (c : Nat) (ns : List Frc) (h : ∀ n ∈ ns, n.2.natAbs ≤ c) : lcmL ns ≤ c ^ ns.length := by
  have go : ∀ (ns : List Frc) (b : Nat), (∀ n ∈ ns, n.2.natAbs ≤ c) → ns.foldl (fun b n => Nat.lcm b n.2.natAbs) b ≤ b * c ^ ns.length := by
    intro ns
    induction ns with
    | nil => exact fun b h => by simp
    | cons m r ih =>
      intro b h
      rw [List.foldl_cons, List.length_cons, Nat.pow_succ]
      refine Nat.le_trans (ih _ fun n hn => h n (List.mem_cons_of_mem _ hn)) ?_
      have h1 : Nat.lcm b m.2.natAbs ≤ b * m.2.natAbs := Nat.div_le_self _ _
      have h2 : b * m.2.natAbs ≤ b * c := Nat.mul_le_mul_left _ (h m List.mem_cons_self)
      have h3 := Nat.mul_le_mul_right (c ^ r.length) (Nat.le_trans h1 h2)
      rw [show b * (c ^ r.length * c) = b * c * c ^ r.length by rw [Nat.mul_comm (c ^ r.length) c, Nat.mul_assoc]]
      exact h3
  have := go ns 1 h
  rwa [Nat.one_mul] at this
theorem getD_map' {α β : Type} (f : α → β) (l : List α) {d : α} {e : β} {j : Nat} (h : j < l.length) : (l.map f).getD j e = f (l.getD j d) := by
  rw [List.getD_eq_getElem?_getD, List.getD_eq_getElem?_getD, List.getElem?_map, List.getElem?_eq_getElem h]
  rfl
theorem run_step {s d x y wt wb at_ ab T B C u v : Int} (hd : d ≠ 0) (hy : y ≠ 0) (h2 : s * (B * C) = d * T) (h3 : x * (wb * ab) = (wt * at_) * y) (h4 : B = wb * u) (h5 : C = ab * v) :
    nrmT (s * y + x * d) (d * y) * (B * C) = nrmB (s * y + x * d) (d * y) * (T + (wt * u) * (at_ * v)) := by
  have hn : d * y ≠ 0 := Int.mul_ne_zero hd hy
  have h1 := nrm_cross (p := s * y + x * d) hn
  refine Int.eq_of_mul_eq_mul_right hn ?_
  generalize nrmT (s * y + x * d) (d * y) = s' at *
  generalize nrmB (s * y + x * d) (d * y) = d' at *
  grind
/-- the running sum has the value of the sum over one bottom -/
theorem run_val (ws as : List Frc) (hw : ∀ n ∈ ws, 0 < n.2) (ha : ∀ n ∈ as, 0 < n.2) : ∀ k, k ≤ ws.length → k ≤ as.length →
    Low (runF ws as k).1 (runF ws as k).2 ∧ (runF ws as k).1 * ((lcmL ws : Int) * (lcmL as : Int)) = (runF ws as k).2 * dotL (topsL ws (lcmL ws)) (topsL as (lcmL as)) k
  | 0, _, _ => ⟨⟨by show (0 : Int) < 1; decide, by show Nat.gcd 0 1 = 1; rfl⟩, by show (0 : Int) * _ = 1 * 0; simp⟩
  | k + 1, h1, h2 => by
    obtain ⟨l, e⟩ := run_val ws as hw ha k (by omega) (by omega)
    have m1 : ws.getD k (0, 1) = ws[k]'h1 := by rw [List.getD_eq_getElem?_getD, List.getElem?_eq_getElem h1]; rfl
    have m2 : as.getD k (0, 1) = as[k]'h2 := by rw [List.getD_eq_getElem?_getD, List.getElem?_eq_getElem h2]; rfl
    have p1 := hw _ (List.getElem_mem h1)
    have p2 := ha _ (List.getElem_mem h2)
    have dv1 : (ws[k]'h1).2 ∣ (lcmL ws : Int) := by
      rw [← Int.natAbs_dvd_natAbs]
      exact lcmL_dvd ws _ (List.getElem_mem h1)
    have dv2 : (as[k]'h2).2 ∣ (lcmL as : Int) := by
      rw [← Int.natAbs_dvd_natAbs]
      exact lcmL_dvd as _ (List.getElem_mem h2)
    have q1 : (lcmL ws : Int) = (ws[k]'h1).2 * (lcmL ws : Int).fdiv (ws[k]'h1).2 := (fdiv_mul (by omega) dv1).symm
    have q2 : (lcmL as : Int) = (as[k]'h2).2 * (lcmL as : Int).fdiv (as[k]'h2).2 := (fdiv_mul (by omega) dv2).symm
    have hq : (ws[k]'h1).2 * (as[k]'h2).2 ≠ 0 := Int.mul_ne_zero (by omega) (by omega)
    have lb := nrm_low (p := (ws[k]'h1).1 * (as[k]'h2).1) hq
    have cb := nrm_cross (p := (ws[k]'h1).1 * (as[k]'h2).1) hq
    have hd : (runF ws as k).2 ≠ 0 := Int.ne_of_gt l.pos
    have e2 := run_step hd (Int.ne_of_gt lb.pos) e cb q1 q2
    have d1 : dotL (topsL ws (lcmL ws)) (topsL as (lcmL as)) (k + 1) = dotL (topsL ws (lcmL ws)) (topsL as (lcmL as)) k + ((ws[k]'h1).1 * (lcmL ws : Int).fdiv (ws[k]'h1).2) * ((as[k]'h2).1 * (lcmL as : Int).fdiv (as[k]'h2).2) := by
      show _ + _ * _ = _
      unfold topsL
      rw [getD_map' (d := (0, 1)) _ _ h1, getD_map' (d := (0, 1)) _ _ h2, m1, m2]
    have r1 : runF ws as (k + 1) = plusF (runF ws as k) (byF (ws[k]'h1) (as[k]'h2)) := by
      show plusF _ (byF _ _) = _
      rw [m1, m2]
    rw [r1, d1]
    exact ⟨nrm_low (Int.mul_ne_zero hd (Int.ne_of_gt lb.pos)), e2⟩
/-- .. so the sum of products is the law's -/
theorem sum_is (ws as : List Frc) (hw : ∀ n ∈ ws, 0 < n.2) (ha : ∀ n ∈ as, 0 < n.2) (hl : ws.length = as.length) :
    nrmT (dotL (topsL ws (lcmL ws)) (topsL as (lcmL as)) ws.length) ((lcmL ws : Int) * (lcmL as : Int)) = (runF ws as ws.length).1 ∧
    nrmB (dotL (topsL ws (lcmL ws)) (topsL as (lcmL as)) ws.length) ((lcmL ws : Int) * (lcmL as : Int)) = (runF ws as ws.length).2 := by
  obtain ⟨l, e⟩ := run_val ws as hw ha ws.length (Nat.le_refl _) (by omega)
  have p1 := lcmL_pos ws hw
  have p2 := lcmL_pos as ha
  exact nrm_same (Int.mul_ne_zero (by omega) (by omega)) l e
end Rt

set_option Elab.async false
set_option linter.all false
set_option maxRecDepth 100000
set_option maxHeartbeats 4000000
/-! law k06: sums of products -/
namespace K6
open PySem L2 TL KG
abbrev sOver1 : Stmt := top 37
abbrev sDot : Stmt := top 38
abbrev sSum : Stmt := top 39
/-- for x in row -/
theorem for_row {K : PySem.W.Frag} {g : TG} {tb : TS} {D : Ends} {σ : St} {H : Hp} {i : Nat} {x : V} {xs : List V} (hi : σ[i]? = some (some x)) (r : Row H x xs)
    (k : ∀ J, Walk J xs.length (fun H' => Same H H') (YAt xs) → ∃ W : Nat → Nat → St → Hp → Prop, (∃ m, W 0 m σ H) ∧ ∀ i m σ H, W i m σ H →
      (J.stop i H ∧ D.nx σ H) ∨ (J.go i H ∧ ∃ N : St → Hp → Prop, (∀ σ' H', N σ' H' → ∃ m', m' < m ∧ W (i + 1) m' σ' H') ∧ ∀ x H', J.yld i H x H' → g x σ H' fun σ2 H2 => tb { D with nx := N, ct := N, bk := D.nx } σ2 H2)) :
    iRow K (tVar i) σ H fun J H1 => ∃ W : Nat → Nat → St → Hp → Prop, (∃ m, W 0 m σ H1) ∧ ∀ i m σ H, W i m σ H →
      (J.stop i H ∧ D.nx σ H) ∨ (J.go i H ∧ ∃ N : St → Hp → Prop, (∀ σ' H', N σ' H' → ∃ m', m' < m ∧ W (i + 1) m' σ' H') ∧ ∀ x H', J.yld i H x H' → g x σ H' fun σ2 H2 => tb { D with nx := N, ct := N, bk := D.nx } σ2 H2) :=
  ⟨x, hi, row_walk (R := fun J H1 => ∃ W : Nat → Nat → St → Hp → Prop, (∃ m, W 0 m σ H1) ∧ ∀ i m σ H, W i m σ H →
      (J.stop i H ∧ D.nx σ H) ∨ (J.go i H ∧ ∃ N : St → Hp → Prop, (∀ σ' H', N σ' H' → ∃ m', m' < m ∧ W (i + 1) m' σ' H') ∧ ∀ x H', J.yld i H x H' → g x σ H' fun σ2 H2 => tb { D with nx := N, ct := N, bk := D.nx } σ2 H2)) r k⟩
theorem ret_pair {ta tb : TE} {D : Ends} {σ : St} {H : Hp} (h : ta σ H fun x H1 => tb σ H1 fun y H2 => [x, y].length ≤ sizeLine ∧ ∀ p, H2 p = none → D.rt (.ref p) (upd H2 p (.tup [x, y]))) : tRet (tTup (tCons ta (tCons tb tNil))) D σ H := h
/-- a number of the law -/
structure Nm (n : Fr) : Prop where
  low : Rt.Low n.1 n.2
  bot : n.2.natAbs ≤ 12
  top : n.1.natAbs ≤ 10 ^ 12
/-- a number of a question's -/
structure Nb (n : Fr) : Prop where
  low : Rt.Low n.1 n.2
  b : KR.Sz 100 n.2
  t : KR.Sz 100 n.1
theorem Nm.nb {n : Fr} (h : Nm n) : Nb n := ⟨h.low, Nat.lt_of_le_of_lt h.bot (by decide +kernel), Nat.lt_of_le_of_lt h.top (by decide +kernel)⟩
def spOver1 (Cr : Addr) : Sp := fun vs H Q _ => ∃ x xs ns, vs = [x] ∧ Row H x xs ∧ All2 (RatP Cr H) xs ns ∧ (∀ n ∈ ns, Nb n) ∧ ns.length ≤ 8 ∧
  ∀ p l H', Same H H' → H' p = some (.tup [.ref l, .int (Rt.lcmL ns)]) → H' l = some (.lst ((Rt.topsL ns (Rt.lcmL ns)).map V.int)) → Q (.ref p) H'
theorem lcm_le {ns : List Fr} (h : ∀ n ∈ ns, Nb n) (l : ns.length ≤ 8) : Rt.lcmL ns ≤ (2 ^ 100) ^ 8 := Nat.le_trans (Rt.lcmL_le (2 ^ 100) ns fun n hn => Nat.le_of_lt (h n hn).b) (Nat.pow_le_pow_right (by decide +kernel) l)
theorem lcm_take {ns : List Fr} (h : ∀ n ∈ ns, Nb n) (l : ns.length ≤ 8) (j : Nat) : Rt.lcmL (ns.take j) ≤ (2 ^ 100) ^ 8 := lcm_le (fun n hn => h n (List.mem_of_mem_take hn)) (by rw [List.length_take]; omega)
theorem sz_of {z : Int} {m k : Nat} (h : z.natAbs ≤ m) (k' : m < 2 ^ k) : KR.Sz k z := Nat.lt_of_le_of_lt h k'
theorem fdiv_le {a b : Int} (ha : 0 ≤ a) (hb : 0 < b) : (a.fdiv b).natAbs ≤ a.natAbs := by
  rw [Int.fdiv_eq_ediv_of_nonneg _ (Int.le_of_lt hb)]
  have h1 := Int.ediv_le_self b ha
  have h2 := Int.ediv_nonneg ha (Int.le_of_lt hb)
  omega
section
variable {P : Program} {w : World} {K : PySem.W.Frag} {mg : Str → Option Value} {base : Heap} {Cg Cr Cq Eg Er Eq En B f g h : Addr} {fd gd hd : FuncData}
theorem scOver1 : FnScope ["numbers", "bottom", "number"] ["numbers"] (defScope sOver1) := ⟨rfl, rfl, rfl, by decide +kernel, rfl, by decide +kernel, by decide +kernel⟩
theorem ok_over1 (F : FnP K "over_one" "over_one" sOver1 [] f fd) (T : Txt K mg) (TQ : QTxt K mg Cg Cr Cq Eg Er Eq En B) : FnOk P w K mg base CX0 1 f fd ["numbers"] (spOver1 Cr) := by
  refine F.ok scOver1 (fun vs H Q X z => ?_) (fun cdv A outer s H vs Q X hr z => ?_)
  · obtain ⟨x, xs, ns, rfl, _⟩ := z
    rfl
  · obtain ⟨x, xs, ns, rfl, rx, al, nm, l8, k⟩ := z
    refine ⟨_, PSs.nox (pss_cons (ps_set (i := 1) scOver1.nd rfl (Or.inr rfl) pe_int)
      (pss_cons (ps_for PassesOwn.never rfl (pi_row (pv 0)) (pg_name (i := 2) scOver1.nd rfl (Or.inl rfl))
        (pss_one (ps_set (i := 1) scOver1.nd rfl (Or.inr rfl) (pe_callBfun cr_lcm (by rfl) TQ.lcm (pa_cons (pv 1) (pa_cons (pe_fld (pv 2) rfl) pa_nil))))))
      (pss_one (ps_ret (pe_tup (pa_cons
        (pe_lc (own := [("number", 2)]) (g := gName 2) (tt := tYes) (by rfl) scOver1.nd (pi_row (pv 0)) (blkOk_by (own := [("number", 2)]) (N := ["numbers", "bottom", "number"]) (sc := defScope sOver1) (by decide +kernel)) (fun _ _ _ _ _ => pg_name (i := 2) scOver1.nd rfl (Or.inl rfl)) (fun _ _ _ _ _ => pts_nil)
          (fun _ _ _ _ _ => show PE _ _ (tOp (rI CMulW fun i j => .int (i * j)) (tFld K (tVar 2) "top") (tOp (rI CDivX fun i j => .int (i.fdiv j)) (tVar 1) (tFld K (tVar 2) "bottom"))) from pe_op op_mulW (pe_fld (pv 2) rfl) (pe_op op_fdivX (pv 1) (pe_fld (pv 2) rfl)))) (pa_cons (pv 1) pa_nil))))))), ?_⟩
    refine nx_ ?_
    refine sq ?_
    refine for_row (x := x) (xs := xs) rfl rx fun J wk => ?_
    have nl : xs.length = ns.length := al.1
    refine for_it wk (fun j σ H' => H' = H ∧ ∃ v2, σ = [some x, some (.int (Rt.lcmL (ns.take j))), v2]) ⟨rfl, none, rfl⟩ (fun _ _ _ _ h => by rw [h.1]; exact Same.refl H) ?_ ?_
    · rintro j v σ H1 H2 hj ⟨rfl, v2, rfl⟩ ⟨rfl, hv⟩
      have hj' : j < ns.length := by omega
      obtain ⟨n, hn⟩ : ∃ n, ns[j]? = some n := ⟨_, List.getElem?_eq_getElem hj'⟩
      obtain ⟨q, rfl, dq, eq⟩ := al.2 j v n hv hn
      have m := nm n (List.mem_of_getElem? hn)
      refine gname_step ?_
      refine ⟨_, rfl, _, rfl, q, Cr, dq, _, _, rfl, eq, TQ.r.cl, TQ.r.nB, KR.flds_bot _ _, _, _, rfl, ?_, m.b, ?_⟩
      · have := lcm_take nm l8 j
        show Rt.lcmL (ns.take j) < 2 ^ 900
        exact Nat.lt_of_le_of_lt this (by decide +kernel)
      · refine nx_ ⟨rfl, some (.ref q), ?_⟩
        rw [take_snoc hn, Rt.lcmL_snoc]
        rfl
    · rintro σ H1 ⟨rfl, v2, rfl⟩
      rw [nl, List.take_length]
      refine nx_ ?_
      refine ret_pair ?_
      refine tLc_row (x := x) (xs := xs) rfl rx fun J wk D nD => ?_
      refine lc_vals ((Rt.topsL ns (Rt.lcmL ns)).map V.int) (by rw [List.length_map]; unfold Rt.topsL; rw [List.length_map]; exact nl.symm) wk nD (by omega) (fun _ => by rfl) (fun j v u hv hu H2 Q2 s2 a2 => ?_) fun H2 s2 e2 => ?_
      · unfold Rt.topsL at hu
        rw [List.map_map, List.getElem?_map] at hu
        obtain ⟨n, hn, rfl⟩ := Option.map_eq_some_iff.mp hu
        obtain ⟨q, rfl, dq, eq⟩ := (al.2 j v n hv hn).same s2
        have m := nm n (List.mem_of_getElem? hn)
        have lp := m.low.pos
        have lc := lcm_le nm l8
        refine ⟨_, rfl, q, Cr, dq, _, _, rfl, eq, TQ.r.cl, TQ.r.nT, KR.flds_top _ _, _, rfl, _, rfl, q, Cr, dq, _, _, rfl, eq, TQ.r.cl, TQ.r.nB, KR.flds_bot _ _, _, _, rfl, rfl, ⟨by omega, ?_⟩, _, _, rfl, rfl, ?_, a2 H2 (Same.refl _)⟩
        · have h3 : n.2.natAbs < 2 ^ 100 := m.b
          have h4 := PySem.Flt.log2_lt_of (by decide) h3
          omega
        · refine KR.mulOk (m.t.mono (by decide)) (sz_of (m := (2 ^ 100) ^ 8) (Nat.le_trans (fdiv_le (by omega) lp) lc) (by decide +kernel))
      · refine ⟨_, rfl, (by show 2 ≤ sizeLine; decide), fun p hp => ?_⟩
        exact k p D _ (s2.trans (new hp)) upd_same (new hp _ _ e2)
end
end K6

set_option Elab.async false
set_option linter.all false
set_option maxRecDepth 100000
set_option maxHeartbeats 4000000
/-! law k06: dot, sum_of_products -/
namespace K6
open PySem L2 TL KG
def prL (xs ys : List Int) (k : Nat) : List Int := (List.range k).map fun i => xs.getD i 0 * ys.getD i 0
theorem prL_sum (xs ys : List Int) : ∀ k, (prL xs ys k).sum = Rt.dotL xs ys k
  | 0 => rfl
  | k + 1 => by
    unfold prL
    rw [List.range_succ, List.map_append, List.sum_append]
    show (prL xs ys k).sum + _ = Rt.dotL xs ys k + _
    rw [prL_sum xs ys k]
    simp
theorem prL_take (xs ys : List Int) {j n : Nat} (h : j < n) : (prL xs ys n).take (j + 1) = (prL xs ys n).take j ++ [xs.getD j 0 * ys.getD j 0] := by
  have e : (prL xs ys n)[j]? = some (xs.getD j 0 * ys.getD j 0) := by
    unfold prL
    rw [List.getElem?_map, List.getElem?_range h]
    rfl
  exact take_snoc e
theorem prL_len (xs ys : List Int) (n : Nat) : (prL xs ys n).length = n := by
  unfold prL
  rw [List.length_map, List.length_range]
def spDot : Sp := fun vs H Q _ => ∃ a b xs ys, vs = [.ref a, .ref b] ∧ H a = some (.lst (xs.map V.int)) ∧ H b = some (.lst (ys.map V.int)) ∧ xs.length = ys.length ∧ ys.length ≤ 8 ∧ (∀ x ∈ xs, KR.Sz 1000 x) ∧ (∀ y ∈ ys, KR.Sz 1000 y) ∧
  ∀ H', Same H H' → Q (.int (Rt.dotL xs ys xs.length)) H'
section
variable {P : Program} {w : World} {K : PySem.W.Frag} {mg : Str → Option Value} {base : Heap} {Cg Cr Cq Eg Er Eq En B f g h : Addr} {fd gd hd : FuncData}
theorem scDot : FnScope ["ones", "others", "one", "other"] ["ones", "others"] (defScope sDot) := ⟨rfl, rfl, rfl, by decide +kernel, rfl, by decide +kernel, by decide +kernel⟩
theorem ok_dot (F : FnP K "dot" "dot" sDot [] f fd) (T : Txt K mg) (TQ : QTxt K mg Cg Cr Cq Eg Er Eq En B) : FnOk P w K mg base CX0 1 f fd ["ones", "others"] spDot := by
  refine F.ok scDot (fun vs H Q X z => ?_) (fun cdv A outer s H vs Q X hr z => ?_)
  · obtain ⟨a, b, xs, ys, rfl, _⟩ := z
    rfl
  · obtain ⟨a, b, xs, ys, rfl, ha, hb, le, l8, zx, zy, k⟩ := z
    refine ⟨_, PSs.nox (pss_one (ps_ret (pe_callB (cr_sum rfl) (by rfl) TQ.sum (by decide +kernel) (pa_cons
        (pe_lc (own := [("one", 2), ("other", 3)]) (g := gTup K 2 (gCons (gName 2) (gCons (gName 3) gNil))) (tt := tYes) (by rfl) scDot.nd (pi_zip rfl T.zip (pa_cons (pv 0) (pa_cons (pv 1) pa_nil))) (blkOk_by (own := [("one", 2), ("other", 3)]) (N := ["ones", "others", "one", "other"]) (sc := defScope sDot) (by decide +kernel))
          (fun _ _ _ _ _ => pg_tup (by rfl) (pgs_cons (pg_name (i := 2) scDot.nd rfl (Or.inl rfl)) (pgs_cons (pg_name (i := 3) scDot.nd rfl (Or.inl rfl)) pgs_nil))) (fun _ _ _ _ _ => pts_nil)
          (fun _ _ _ _ _ => show PE _ _ (tOp (rI CMulW fun i j => .int (i * j)) (tVar 2) (tVar 3)) from pe_op op_mulW (pv 2) (pv 3))) pa_nil)))), ?_⟩
    refine cb_one ?_
    refine ⟨_, rfl, _, rfl, a, b, _, _, rfl, SqL.of ha, SqL.of hb, ?_⟩
    intro D nD
    have sn : Same H (upd H D (.lst [])) := new nD
    refine lc_it (walk_zip (n := xs.length) (by rw [List.length_map, List.length_map]; omega)) (fun j H' => Same H H' ∧ H' D = some (.lst (((prL xs ys xs.length).take j).map V.int))) ⟨sn, upd_same⟩ (fun i H' _ h => ⟨SqL.of (h.1 _ _ ha), SqL.of (h.1 _ _ hb)⟩) ?_ ?_
    · rintro j v H1 H2 hj ⟨s1, e1⟩ ⟨t, x, y, rfl, nt, rfl, hx, hy⟩
      have hj2 : j < ys.length := by omega
      obtain rfl : V.int xs[j] = x := by
        have e : (xs.map V.int)[j]? = some x := hx
        rw [List.getElem?_map, List.getElem?_eq_getElem hj] at e
        exact Option.some.inj e
      obtain rfl : V.int ys[j] = y := by
        have e : (ys.map V.int)[j]? = some y := hy
        rw [List.getElem?_map, List.getElem?_eq_getElem hj2] at e
        exact Option.some.inj e
      have s2 : Same H1 (upd H1 t (.tup [V.int xs[j], V.int ys[j]])) := new nt
      refine ⟨t, _, rfl, SqT.of upd_same, rfl, _, _, rfl, _, _, rfl, rfl, ?_⟩
      refine ⟨rfl, ?_⟩
      unfold tYes
      refine iteT ?_
      refine ⟨_, rfl, _, rfl, _, _, rfl, rfl, KR.mulOk ((zx _ (List.getElem_mem hj)).mono (by decide)) ((zy _ (List.getElem_mem hj2)).mono (by decide)), _, s2 _ _ e1, ?_, fun c o e => ?_, ?_⟩
      · rw [List.length_map, List.length_take, prL_len]
        exact Nat.lt_of_lt_of_le (show _ < 1000 by omega) (by decide)
      · rw [upd_ne (ne_of_none e nD)]
        exact s2 _ _ (s1 _ _ e)
      · rw [upd_same, prL_take xs ys hj, List.map_append, getD_at hj, getD_at hj2]
        rfl
    · rintro H1 ⟨s1, e1⟩
      rw [show (prL xs ys xs.length).take xs.length = prL xs ys xs.length from by rw [List.take_of_length_le (by rw [prL_len]; exact Nat.le_refl _)]] at e1
      refine ⟨D, prL xs ys xs.length, rfl, SqL.of e1, ?_⟩
      rw [prL_sum]
      exact k H1 s1
end
end K6

set_option Elab.async false
set_option linter.all false
set_option maxRecDepth 100000
set_option maxHeartbeats 4000000
/-! law k06: sum_of_products, Question.at, Question.is_nothing -/
namespace K6
open PySem L2 TL KG
abbrev sAt : Stmt := inClass (top 41) 8
abbrev sNothing : Stmt := inClass (top 41) 9
def spSum (Cr : Addr) : Sp := fun vs H Q _ => ∃ x y xs ys ws am, vs = [x, y] ∧ Row H x xs ∧ Row H y ys ∧ All2 (RatP Cr H) xs ws ∧ All2 (RatP Cr H) ys am ∧ (∀ n ∈ ws, Nb n) ∧ (∀ n ∈ am, Nb n) ∧ ws.length = am.length ∧ ws.length ≤ 8 ∧
  ∀ q H', Same H H' → KR.RatAt Cr H' q (Rt.runF ws am ws.length).1 (Rt.runF ws am ws.length).2 → Q (.ref q) H'
def spAt (Cq Cg Cr En : Addr) : Sp := fun vs H Q X => ∃ p x as ws o, vs = [.ref p, x] ∧ QAt Cq Cg Cr H p as ws ∧ Rw Cr Cg H x o ∧
  ((good (cellsL as).length o = false ∧ ∀ H', Same H H' → X (.ref En) none H') ∨ (good (cellsL as).length o = true ∧ ∃ xs am, Row H x xs ∧ All2 (NumP Cr H) xs am ∧ (∀ n ∈ ws, Nb n) ∧ (∀ n ∈ am, Nb n) ∧ ws.length = am.length ∧ ws.length ≤ 8 ∧
    ∀ q H', Same H H' → KR.RatAt Cr H' q (Rt.runF ws am ws.length).1 (Rt.runF ws am ws.length).2 → Q (.ref q) H'))
def zeroF (n : Fr) : Bool := decide (n.1 = 0) && decide (n.2 = 1)
def spNothing (Cq Cg Cr : Addr) : Sp := fun vs H Q _ => ∃ p as ws, vs = [.ref p] ∧ QAt Cq Cg Cr H p as ws ∧ ws.length ≤ 100 ∧ ∀ H', Same H H' → Q (.bl (ws.all zeroF)) H'
theorem tops_sz {ns : List Fr} (h : ∀ n ∈ ns, Nb n) (l : ns.length ≤ 8) : ∀ x ∈ Rt.topsL ns (Rt.lcmL ns), KR.Sz 1000 x := by
  intro x hx
  obtain ⟨n, hn, rfl⟩ := List.mem_map.mp hx
  have m := h n hn
  exact (KR.Sz.mul m.t (sz_of (k := 801) (m := (2 ^ 100) ^ 8) (Nat.le_trans (fdiv_le (by omega) m.low.pos) (lcm_le h l)) (by decide +kernel))).mono (by decide)
theorem tops_len (ns : List Fr) (B : Int) : (Rt.topsL ns B).length = ns.length := List.length_map ..
theorem tLc_rowF {K : PySem.W.Frag} {g : TG} {tt : TT} {te : TE} {vs : List Nat} {σ : St} {H : Hp} {Q : VK} {i : Nat} {p C dx : Addr} {fs : List (Str × V)} {v : V} {f : Str} {xs : List V} (hi : σ[i]? = some (some (.ref p))) (e : H p = some (.ins C dx fs)) (cl : Cls K C) (na : NoAttr K C f) (l : fs.lookup f = some v) (r : Row H v xs)
    (k : ∀ J, Walk J xs.length (fun H' => Same H H') (YAt xs) → tLc (fun _ H R => R J H) g tt te vs σ H Q) : tLc (iRow K (tFld K (tVar i) f)) g tt te vs σ H Q :=
  ⟨_, hi, p, C, dx, fs, v, rfl, e, cl, na, l, row_walk (R := fun J H1 => tLc (fun _ H R => R J H) g tt te vs σ H1 Q) r k⟩
section
variable {P : Program} {w : World} {K : PySem.W.Frag} {mg : Str → Option Value} {base : Heap} {Cg Cr Cq Eg Er Eq En B f g h : Addr} {fd gd hd : FuncData}
theorem scSum : FnScope ["ones", "others", "tops", "bottom", "other_tops", "other_bottom"] ["ones", "others"] (defScope sSum) := ⟨rfl, rfl, rfl, by decide +kernel, rfl, by decide +kernel, by decide +kernel⟩
theorem ok_sum (F : FnP K "sum_of_products" "sum_of_products" sSum [] f fd) (T : Txt K mg) (TQ : QTxt K mg Cg Cr Cq Eg Er Eq En B) (GO : GloOk P w K mg base CX0 1 "over_one" ["numbers"] (spOver1 Cr)) (GD : GloOk P w K mg base CX0 1 "dot" ["ones", "others"] spDot)
    (GM : KR.MkOk P w K mg base Cr (L2.CX P w) 3 ["self", "top", "bottom"] [.int 1] (KR.spInit K Cr Er)) : FnOk P w K mg base CX0 5 f fd ["ones", "others"] (spSum Cr) := by
  obtain ⟨fO, fdO, GO, mO, kO, bO⟩ := GO
  obtain ⟨fD, fdD, GD, mD, kD, bD⟩ := GD
  obtain ⟨fM, fdM, GM, M, bM, _⟩ := GM
  refine F.ok scSum (fun vs H Q X z => ?_) (fun cdv A outer s H vs Q X hr z => ?_)
  · obtain ⟨x, y, xs, ys, ws, am, rfl, _⟩ := z
    rfl
  · obtain ⟨x, y, xs, ys, ws, am, rfl, rx, ry, ax, ay, nw, na, le, l8, k⟩ := z
    have hr1 : Room 1 _ := hr.mono (by decide)
    refine ⟨_, PSs.nox (pss_cons (ps_asg (pe_call GO hr1 rfl mO kO bO .nil pass0 (pa_cons (pv 0) pa_nil)) (pg_tup (by rfl) (pgs_cons (pg_name (i := 2) scSum.nd rfl (Or.inl rfl)) (pgs_cons (pg_name (i := 3) scSum.nd rfl (Or.inl rfl)) pgs_nil))))
      (pss_cons (ps_asg (pe_call GO hr1 rfl mO kO bO .nil pass0 (pa_cons (pv 1) pa_nil)) (pg_tup (by rfl) (pgs_cons (pg_name (i := 4) scSum.nd rfl (Or.inl rfl)) (pgs_cons (pg_name (i := 5) scSum.nd rfl (Or.inl rfl)) pgs_nil))))
      (pss_one (ps_ret (pe_make M GM hr rfl TQ.r.mgC bM .nil passL (pa_cons (pe_call GD hr1 rfl mD kD bD .nil pass0 (pa_cons (pv 2) (pa_cons (pv 4) pa_nil))) (pa_cons (pe_op op_mulW (pv 3) (pv 5)) pa_nil))))))), ?_⟩
    refine ⟨_, rfl, x, xs, ws, rfl, rx, ax, nw, l8, fun p1 t1 H1 s1 e1 f1 => ?_⟩
    refine ⟨p1, _, rfl, SqT.of e1, rfl, _, _, rfl, _, _, rfl, rfl, ?_⟩
    refine nx_ ?_
    refine sq ?_
    refine ⟨_, rfl, y, ys, am, rfl, ry.same s1, ay.imp fun _ _ z => z.same s1, na, by omega, fun p2 t2 H2 s2 e2 f2 => ?_⟩
    refine ⟨p2, _, rfl, SqT.of e2, rfl, _, _, rfl, _, _, rfl, rfl, ?_⟩
    refine nx_ ?_
    have f1' := s2 _ _ f1
    refine ⟨_, rfl, _, rfl, t1, t2, _, _, rfl, f1', f2, by rw [tops_len, tops_len]; exact le, by rw [tops_len]; omega, tops_sz nw l8, tops_sz na (by omega), fun H3 s3 => ?_⟩
    have p1' := Rt.lcmL_pos ws fun n hn => (nw n hn).low.pos
    have p2' := Rt.lcmL_pos am fun n hn => (na n hn).low.pos
    have z1 : KR.Sz 4000 (Rt.lcmL ws : Int) := sz_of (m := (2 ^ 100) ^ 8) (lcm_le nw l8) (by decide +kernel)
    have z2 : KR.Sz 4000 (Rt.lcmL am : Int) := sz_of (m := (2 ^ 100) ^ 8) (lcm_le na (by omega)) (by decide +kernel)
    refine ⟨_, rfl, _, rfl, _, _, rfl, rfl, KR.mulOk z1 z2, ?_⟩
    intro x dx' nx nd nex
    refine ⟨x, dx', _, _, rfl, upd_same, .inr (.inr (.inr ⟨_, _, rfl, rfl, Int.mul_ne_zero (by omega) (by omega), z1.mul z2, fun H' fr rt => ⟨rfl, k x H' ((s1.trans s2).trans (s3.trans (Same.made nx nd fun b o e ne => fr b o ne e))) ?_⟩⟩))⟩
    have sm := Rt.sum_is ws am (fun n hn => (nw n hn).low.pos) (fun n hn => (na n hn).low.pos) le
    rw [← sm.1, ← sm.2]
    rw [tops_len] at rt
    exact rt
theorem scAt : FnScope ["self", "amounts", "amount"] ["self", "amounts"] (defScope sAt) := ⟨rfl, rfl, rfl, by decide +kernel, rfl, by decide +kernel, by decide +kernel⟩
theorem ok_at (F : FnP K "at" "Question.at" sAt [] f fd) (T : Txt K mg) (TQ : QTxt K mg Cg Cr Cq Eg Er Eq En B) (GA : GloOk P w K mg base CX0 3 "are_amounts" ["grid", "found"] (spAmts Cr Cg)) (GR : GloOk P w K mg base CX0 5 "as_ratio" ["number"] (KR.spAsR Cr))
    (GS : GloOk P w K mg base CX0 5 "sum_of_products" ["ones", "others"] (spSum Cr)) : FnOk P w K mg base (L2.CX P w) 6 f fd ["self", "amounts"] (spAt Cq Cg Cr En) := by
  obtain ⟨fA, fdA, GA, mA, kA, bA⟩ := GA
  obtain ⟨fR, fdR, GR, mR, kR, bR⟩ := GR
  obtain ⟨fS, fdS, GS, mS, kS, bS⟩ := GS
  refine F.ok scAt (fun vs H Q X z => ?_) (fun cdv A outer s H vs Q X hr z => ?_)
  · obtain ⟨p, x, as, ws, o, rfl, _⟩ := z
    rfl
  · obtain ⟨p, x, as, ws, o, rfl, qp, ro, z⟩ := z
    have hr3 : Room 3 _ := hr.mono (by decide)
    refine ⟨_, pss_cons (ps_if (pt_not (pt_val (pe_call GA hr3 rfl mA kA bA .nil pass0 (pa_cons (pe_fld (pv 0) rfl) (pa_cons (pv 1) pa_nil))))) (pss_one (ps_raise rfl (takes_of rfl rfl rfl rfl) (pmk_own0 PySem.F.excBase_ValueError TQ.q TQ.mgN TQ.kN (raises_own TQ.ex TQ.ty) (by rfl)))) pss_nil)
      (pss_one (ps_ret (pe_call GS hr rfl mS kS bS .nil pass0 (pa_cons (pe_fld (pv 0) rfl) (pa_cons
        (pe_lc (own := [("amount", 2)]) (g := gName 2) (tt := tYes) (by rfl) scAt.nd (pi_row (pv 1)) (blkOk_by (own := [("amount", 2)]) (N := ["self", "amounts", "amount"]) (sc := defScope sAt) (by decide +kernel)) (fun _ _ _ _ _ => pg_name (i := 2) scAt.nd rfl (Or.inl rfl)) (fun _ _ _ _ _ => pts_nil)
            (fun _ _ _ _ _ => pe_call GR hr rfl mR kR bR .nil pass0 (pa_cons (pv 2) pa_nil))) pa_nil))))), ?_⟩
    obtain ⟨dx, g, wt, vs, e1, ga, ew, aw⟩ := qp
    refine ⟨_, rfl, p, Cq, dx, _, _, rfl, e1, TQ.cl, TQ.nG, qf_grid _ _, _, rfl, g, x, as, o, rfl, ga, ro, fun H1 s1 => ⟨_, rfl, ?_⟩⟩
    rcases z with ⟨e, k⟩ | ⟨e, xs, am, rx, ax, nw, na, le, l8, k⟩
    · rw [e]
      exact iteT (k H1 s1)
    · rw [e]
      refine iteF (nx_ ?_)
      refine ⟨_, rfl, p, Cq, dx, _, _, rfl, s1 _ _ e1, TQ.cl, TQ.nW, qf_weights _ _, ?_⟩
      have lx := ax.1
      have one : ∀ Qd : VK, (∀ D us H2, Same H1 H2 → H2 D = some (.lst us) → All2 (RatP Cr H2) us am → Qd (.ref D) H2) → tLc (iRow K (tVar 1)) (gName 2) tYes (tCall (KR.spAsR Cr) [] E0 (tCons (tVar 2) tNil)) ([("amount", 2)].map (·.2)) [some (.ref p), some x, none] H1 Qd := fun Qd kd => by
        refine tLc_row (x := x) (xs := xs) rfl (rx.same s1) fun J wk D nD => ?_
        refine lc_objs (RatP Cr) am lx.symm (fun s h => RatP.same s h) (fun s h => RatP.nl s h) wk nD (by omega) (fun _ => by rfl) (fun j v n hv hn H' Q' s' h => ?_) (fun us H5 s5 e5 al5 => kd D us H5 s5 e5 al5)
        exact ⟨_, rfl, v, n.1, n.2, rfl, NumP.same (s1.trans s') (ax.2 j v n hv hn), fun q H' s'' r => h _ _ s'' ⟨q, rfl, r⟩⟩
      refine one _ fun D us H2 s2 e2 al2 => ?_
      have s12 := s1.trans s2
      exact ⟨_, _, vs, us, ws, am, rfl, ⟨wt, rfl, .inr (s12 _ _ ew)⟩, ⟨D, rfl, .inl e2⟩, aw.imp fun _ _ z => z.same s12, al2, nw, na, le, l8, fun q H' s' r => k q H' (s12.trans s') r⟩
theorem scNothing : FnScope ["self", "weight"] ["self"] (defScope sNothing) := ⟨rfl, rfl, rfl, by decide +kernel, rfl, by decide +kernel, by decide +kernel⟩
theorem ok_nothing (F : FnP K "is_nothing" "Question.is_nothing" sNothing [] f fd) (T : Txt K mg) (TQ : QTxt K mg Cg Cr Cq Eg Er Eq En B) (GR : MthOk P w K mg base Cr CX0 2 "__eq__" ["self", "other"] (KR.spEq K Cr)) : FnOk P w K mg base CX0 3 f fd ["self"] (spNothing Cq Cg Cr) := by
  obtain ⟨fR, fdR, GR, MR, bR⟩ := GR
  refine F.ok scNothing (fun vs H Q X z => ?_) (fun cdv A outer s H vs Q X hr z => ?_)
  · obtain ⟨p, as, ws, rfl, _⟩ := z
    rfl
  · obtain ⟨p, as, ws, rfl, ⟨dx, g, wt, vs, e1, ga, ew, aw⟩, l1, k⟩ := z
    refine ⟨_, PSs.nox (pss_one (ps_ret (pe_callB (cr_all rfl) (by rfl) T.all (by decide +kernel) (pa_cons
        (pe_lc (own := [("weight", 1)]) (g := gName 1) (tt := tYes) (by rfl) scNothing.nd (pi_row (pe_fld (pv 0) rfl)) (blkOk_by (own := [("weight", 1)]) (N := ["self", "weight"]) (sc := defScope sNothing) (by decide +kernel)) (fun _ _ _ _ _ => pg_name (i := 1) scNothing.nd rfl (Or.inl rfl)) (fun _ _ _ _ _ => pts_nil)
          (fun _ _ _ _ _ => show PE _ _ (tOp (rCmp K Cr (KR.spEq K Cr) E0) (tVar 1) (tC (.int 0))) from pe_cmpR (op_cmp (op := .Eq) (fun _ _ => rfl) MR.at_ MR.fn GR hr bR pass0) (pv 1) pe_int (nomark _))) pa_nil)))), ?_⟩
    refine cb_one (tLc_rowF (p := p) (xs := vs) rfl e1 TQ.cl TQ.nW (qf_weights _ _) ⟨wt, rfl, .inr ew⟩ fun J wk D nD => lc_vals ((ws.map zeroF).map V.bl) (by rw [List.length_map, List.length_map]; exact aw.1.symm) wk nD (by have := aw.1; omega) (fun _ => by rfl) (fun j v u hv hu H2 Q2 s2 a2 => ?_) fun H2 s2 e2 => ?_)
    · rw [List.map_map, List.getElem?_map] at hu
      obtain ⟨n, hn, rfl⟩ := Option.map_eq_some_iff.mp hu
      obtain ⟨q, rfl, r⟩ := (aw.2 j v n hv hn).same s2
      obtain ⟨dq, eq⟩ := id r
      exact ⟨_, rfl, q, dq, _, _, rfl, eq, .base (.int 0), (by show (_ || _) = true; rw [TQ.r.own.subI]; rfl), q, _, n.1, n.2, rfl, r, .inl ⟨0, 1, .inl ⟨rfl, rfl⟩, a2 H2 (Same.refl _)⟩⟩
    · refine ⟨D, ws.map zeroF, rfl, SqL.of e2, ?_⟩
      rw [List.all_map]
      exact k H2 s2
end
end K6

set_option Elab.async false
set_option linter.all false
set_option maxRecDepth 100000
set_option maxHeartbeats 4000000
/-! law k06: numbers drawn -/
namespace K6
open PySem L2 TL KG
abbrev sLNum : Stmt := top 52
abbrev sLHand : Stmt := top 53
abbrev sLWeights : Stmt := top 56
theorem _root_.KG.But.nl {l : Addr} {H H' : Hp} (b : But l H H') (st : Strm H l) : NL H H' := fun a o n e => b a o (fun z => by
  obtain ⟨c, f, m, h⟩ := st
  rw [z, h] at e
  exact n _ (Option.some.inj e).symm) e
theorem drawn {σ : St} {H : Hp} {i : Nat} {l : Addr} {n : Int} {Q : VK} (hi : σ[i]? = some (some (.ref l))) (st : Strm H l) (n0 : 0 < n) (n1 : n < 1000) (k : ∀ d H', 0 ≤ d → d < n → But l H H' → Strm H' l → Q (.int d) H') : tCall spDraw [] E0 (tCons (tVar i) (tCons (tC (.int n)) tNil)) σ H Q :=
  ⟨_, hi, l, n, rfl, st, n0, sz_small (by omega), fun d H' d0 d1 b s => k d H' d0 d1 b s⟩
theorem coin {σ : St} {H : Hp} {i : Nat} {l : Addr} {n : Int} {Q : Bool → Hp → Prop} (hi : σ[i]? = some (some (.ref l))) (st : Strm H l) (n0 : 0 < n) (n1 : n < 1000) (k : ∀ b H', But l H H' → Strm H' l → Q b H') :
    tTest (tOp rEq (tCall spDraw [] E0 (tCons (tVar i) (tCons (tC (.int n)) tNil))) (tC (.int 0))) σ H Q :=
  drawn hi st n0 n1 fun d H' _ _ b s => ⟨rfl, _, rfl, k _ H' b s⟩
/-- a comprehension that draws -/
theorem lc_drawn {α : Type} {n : Nat} {Y : Nat → Hp → V → Hp → Prop} (R : Hp → V → α → Prop) (S : Nat → α → Prop) {J : It} {te : TE} {i : Nat} {vs : List Nat} {σ : St} {H : Hp} {D l : Addr} {Qd : Hp → Prop} (Rl : ∀ {H H' : Hp} {u : V} {a : α}, NL H H' → R H u a → R H' u a)
    (wk : Walk J n (fun H' => But l H H') Y) (hY : ∀ j H' v H'', Y j H' v H'' → H'' = H') (nD : H D = none) (st : Strm H l) (len : n ≤ 1000) (hw : ∀ v : V, wipe ((wipe σ vs).set i (some v)) vs = wipe σ vs)
    (elem : ∀ (j : Nat) (v : V) (H' : Hp) (Q : VK), j < n → Y j H' v H' → But l H H' → Strm H' l → (∀ u a H'', But l H' H'' → Strm H'' l → R H'' u a → S j a → Q u H'') → te ((wipe σ vs).set i (some v)) H' Q)
    (hd : ∀ us as H', But l H H' → Strm H' l → H' D = some (.lst us) → All2 (R H') us as → as.length = n → (∀ (j : Nat) (a : α), as[j]? = some a → S j a) → Qd H') :
    ∃ W : Nat → Nat → Hp → Prop, (∃ m, W 0 m (upd H D (.lst []))) ∧ ∀ j m H', W j m H' → ((J.stop j H' ∧ Qd H') ∨ (J.go j H' ∧ ∃ Nx : Hp → Prop, (∀ H', Nx H' → ∃ m', m' < m ∧ W (j + 1) m' H') ∧
      ∀ x H2, J.yld j H' x H2 → gName i x (wipe σ vs) H2 fun σ2 H3 => wipe σ2 vs = wipe σ vs ∧ tYes σ2 H3 fun b H4 => if b = true then te σ2 H4 fun y H5 => ∃ acc, H5 D = some (.lst acc) ∧ acc.length < sizeLine ∧ Nx (upd H5 D (.lst (acc ++ [y]))) else Nx H4)) := by
  have Dl : D ≠ l := st.ne nD
  refine lc_it wk (fun j H' => But l H H' ∧ Strm H' l ∧ ∃ us as, H' D = some (.lst us) ∧ All2 (R H') us as ∧ as.length = j ∧ ∀ (i : Nat) (a : α), as[i]? = some a → S i a)
    ⟨But.of (new nD), st.same (new nD), [], [], upd_same, All2.nil, rfl, fun i a h => by simp at h⟩ (fun _ _ _ h => h.1) ?_ ?_
  · rintro j v H1 H2 hj ⟨b1, s1, us, as, e1, al, ln, sa⟩ hy
    obtain rfl := hY _ _ _ _ hy
    refine ⟨hw v, ?_⟩
    unfold tYes
    refine iteT (elem j v _ _ hj hy b1 s1 fun u a H3 b3 s3 r3 t3 => ⟨us, b3 _ _ Dl e1, ?_, ?_, ?_, us ++ [u], as ++ [a], upd_same, ?_, ?_, ?_⟩)
    · rw [al.1, ln]
      exact Nat.lt_of_lt_of_le (show j < 1001 by omega) (by decide)
    · exact fun c o n e => by
        rw [upd_ne (ne_of_none e nD)]
        exact b3 _ _ n (b1 _ _ n e)
    · obtain ⟨c, f, m, h⟩ := s3
      exact ⟨c, f, m, by rw [upd_ne (Ne.symm Dl)]; exact h⟩
    · exact ((al.imp fun _ _ y => Rl ((b3.nl s1).trans (nl_upd (b3 _ _ Dl e1))) y).snoc (Rl (nl_upd (b3 _ _ Dl e1)) r3))
    · rw [List.length_append, ln]
      rfl
    · intro i b h
      by_cases lt : i < as.length
      · rw [List.getElem?_append_left lt] at h
        exact sa i b h
      · rw [List.getElem?_append_right (by omega)] at h
        cases e : i - as.length with
        | zero =>
          rw [e] at h
          cases h
          rw [show i = j by omega]
          exact t3
        | succ k =>
          rw [e] at h
          cases h
  · rintro H1 ⟨b1, s1, us, as, e1, al, ln, sa⟩
    exact hd us as H1 b1 s1 e1 al ln sa
/-- a fraction of the law's: a pair of ints -/
def FrP (H : Hp) (v : V) (n : Fr) : Prop := ∃ p, v = .ref p ∧ H p = some (.tup [.int n.1, .int n.2])
theorem FrP.nl {H H' : Hp} {v : V} {n : Fr} (s : NL H H') (h : FrP H v n) : FrP H' v n := let ⟨p, e, h⟩ := h; ⟨p, e, s _ _ (fun _ z => by cases z) h⟩
theorem FrP.same {H H' : Hp} {v : V} {n : Fr} (s : Same H H') (h : FrP H v n) : FrP H' v n := h.nl (NL.of s)
def spLNum : Sp := fun vs H Q _ => ∃ l, vs = [.ref l] ∧ Strm H l ∧ ∀ v n H', But l H H' → Strm H' l → FrP H' v n → Nm n → Q v H'
def spLHand (Cr : Addr) : Sp := fun vs H Q _ => ∃ l v n, vs = [.ref l, v] ∧ Strm H l ∧ FrP H v n ∧ Nm n ∧ ∀ u H', But l H H' → Strm H' l → NumP Cr H' u n → Q u H'
def spLWeights : Sp := fun vs H Q _ => ∃ (l : Addr) (m : Nat), vs = [.ref l, .int m] ∧ Strm H l ∧ m ≤ 8 ∧ ∀ p us ns H', But l H H' → Strm H' l → H p = none → H' p = some (.lst us) → All2 (FrP H') us ns → ns.length = m → (∀ n ∈ ns, Nm n) → Q (.ref p) H'
def spLRow (Cr : Addr) : Sp := fun vs H Q _ => ∃ l a us ns, vs = [.ref l, .ref a] ∧ Strm H l ∧ a ≠ l ∧ H a = some (.lst us) ∧ All2 (FrP H) us ns ∧ ns.length ≤ 8 ∧ (∀ n ∈ ns, Nm n) ∧
  ∀ p xs H', But l H H' → Strm H' l → H p = none → H' p = some (.lst xs) → All2 (NumP Cr H') xs ns → Q (.ref p) H'
section
variable {P : Program} {w : World} {K : PySem.W.Frag} {mg : Str → Option Value} {base : Heap} {Cg Cr Cq Eg Er Eq En B f g h : Addr} {fd gd hd : FuncData}
theorem scLNum : FnScope ["stream", "size", "top", "bottom"] ["stream"] (defScope sLNum) := ⟨rfl, rfl, rfl, by decide +kernel, rfl, by decide +kernel, by decide +kernel⟩
theorem ok_lnum (F : FnP K "_law_number" "_law_number" sLNum [] f fd) (T : Txt K mg) (GD : GloOk P w K mg base CX0 1 "_law_draw" ["stream", "many"] spDraw) (GC : GloOk P w K mg base CX0 2 "_law_frac" ["top", "bottom"] KR.spFrac) : FnOk P w K mg base CX0 3 f fd ["stream"] spLNum := by
  obtain ⟨fD, fdD, GD, mD, kD, bD⟩ := GD
  obtain ⟨fC, fdC, GC, mC, kC, bC⟩ := GC
  refine F.ok scLNum (fun vs H Q X z => ?_) (fun cdv A outer s H vs Q X hr z => ?_)
  · obtain ⟨l, rfl, _⟩ := z
    rfl
  · obtain ⟨l, rfl, st, k⟩ := z
    have hr1 : Room 1 _ := hr.mono (by decide)
    refine ⟨_, PSs.nox (pss_cons (ps_set (i := 1) scLNum.nd rfl (Or.inl rfl) (pe_ix ix_list (pe_lst (pa_cons pe_int (pa_cons pe_int (pa_cons pe_int (pa_cons pe_int (pa_cons (pe_op op_pow pe_int pe_int) pa_nil)))))) (pe_call GD hr1 rfl mD kD bD .nil pass0 (pa_cons (pv 0) (pa_cons pe_int pa_nil))) (fun _ _ => rfl)))
      (pss_cons (ps_set (i := 2) scLNum.nd rfl (Or.inl rfl) (pe_op op_sub (pe_call GD hr1 rfl mD kD bD .nil pass0 (pa_cons (pv 0) (pa_cons (pe_op op_add (pe_op op_mul pe_int (pv 1)) pe_int) pa_nil))) (pv 1)))
      (pss_cons (ps_set (i := 3) scLNum.nd rfl (Or.inl rfl) (pe_op op_add pe_int (pe_call GD hr1 rfl mD kD bD .nil pass0 (pa_cons (pv 0) (pa_cons (pe_ix ix_list (pe_lst (pa_cons pe_int (pa_cons pe_int (pa_cons pe_int (pa_cons pe_int pa_nil))))) (pe_call GD hr1 rfl mD kD bD .nil pass0 (pa_cons (pv 0) (pa_cons pe_int pa_nil))) (fun _ _ => rfl)) pa_nil)))))
      (pss_one (ps_ret (pe_call GC hr rfl mC kC bC .nil pass0 (pa_cons (pv 2) (pa_cons (pv 3) pa_nil)))))))), ?_⟩
    refine ⟨_, _, rfl, rfl, ⟨by decide, by decide, by decide⟩, (by show 5 ≤ sizeLine; decide), fun p hp => ?_⟩
    have npl : p ≠ l := st.ne hp
    refine ⟨_, rfl, l, 5, rfl, st.same (new hp), by decide, by unfold KG.Sz; decide +kernel, fun d H1 h0 h1 b1 s1 => ?_⟩
    have hp1 := b1 p _ npl upd_same
    obtain ⟨v, hv, ha⟩ := at_any (xs := [V.int 5, V.int 5, V.int 5, V.int 30, V.int (10 ^ (12 : Int).toNat)]) h0 h1
    obtain ⟨z, rfl, z0, z1⟩ : ∃ z : Int, v = .int z ∧ 0 < z ∧ z.natAbs ≤ 10 ^ 12 := by
      rcases List.mem_cons.mp hv with e | hv
      · exact ⟨5, e, by decide, by decide⟩
      rcases List.mem_cons.mp hv with e | hv
      · exact ⟨5, e, by decide, by decide⟩
      rcases List.mem_cons.mp hv with e | hv
      · exact ⟨5, e, by decide, by decide⟩
      rcases List.mem_cons.mp hv with e | hv
      · exact ⟨30, e, by decide, by decide⟩
      rcases List.mem_cons.mp hv with e | hv
      · exact ⟨_, e, by decide, by decide⟩
      · cases hv
    refine ⟨p, _, d, _, rfl, rfl, SqL.of hp1, ha, ?_⟩
    refine nx_ ?_
    refine sq ?_
    have hz : KG.Sz 8000 (2 * z + 1) := by
      have h2 : (2 * z + 1).natAbs < 10 ^ 13 := by omega
      exact Nat.lt_of_lt_of_le h2 (by decide +kernel)
    have a1 : But l H H1 := (But.of (new hp)).trans b1
    refine ⟨_, rfl, _, rfl, _, _, rfl, rfl, .inl ⟨by decide, by decide⟩, _, _, rfl, rfl, l, _, rfl, s1, by omega, hz, fun d2 H2 g0 g1 b2 s2 => ?_⟩
    refine ⟨_, rfl, _, _, rfl, rfl, ?_⟩
    refine nx_ ?_
    refine sq ?_
    refine ⟨_, rfl, ⟨by show 4 ≤ sizeLine; decide, fun p2 hp2 => ?_⟩⟩
    have npl2 : p2 ≠ l := s2.ne hp2
    refine ⟨_, rfl, l, 4, rfl, s2.same (new hp2), by decide, by unfold KG.Sz; decide +kernel, fun d3 H3 h30 h31 b3 s3 => ?_⟩
    have hp3 := b3 p2 _ npl2 upd_same
    obtain ⟨v, hv, ha⟩ := at_any (xs := [V.int 1, V.int 1, V.int 4, V.int 12]) h30 h31
    obtain ⟨m, rfl, m0, m1⟩ : ∃ z : Int, v = .int z ∧ 0 < z ∧ z ≤ 12 := by
      rcases List.mem_cons.mp hv with e | hv
      · exact ⟨1, e, by decide, by decide⟩
      rcases List.mem_cons.mp hv with e | hv
      · exact ⟨1, e, by decide, by decide⟩
      rcases List.mem_cons.mp hv with e | hv
      · exact ⟨4, e, by decide, by decide⟩
      rcases List.mem_cons.mp hv with e | hv
      · exact ⟨12, e, by decide, by decide⟩
      · cases hv
    refine ⟨p2, _, d3, _, rfl, rfl, SqL.of hp3, ha, ?_⟩
    refine ⟨l, _, rfl, s3, m0, sz_small (by omega), fun d4 H4 g40 g41 b4 s4 => ?_⟩
    refine ⟨_, _, rfl, rfl, ?_⟩
    refine nx_ ?_
    have hd : 1 + d4 ≠ 0 := by omega
    refine ⟨_, rfl, _, rfl, _, _, rfl, hd, Nat.lt_of_le_of_lt (show (1 + d4).natAbs ≤ 12 by omega) (by decide +kernel), fun q H5 s5 _ pr => ?_⟩
    obtain ⟨l1, l2⟩ := Rt.nrm_le (p := d2 - z) hd
    exact k (.ref q) (_, _) H5 (a1.trans (b2.trans ((But.of (new hp2)).trans (b3.trans (b4.trans (But.of s5)))))) (s4.same s5) ⟨q, rfl, pr⟩ ⟨Rt.nrm_low hd, by show (Rt.nrmB _ _).natAbs ≤ 12; omega, by show (Rt.nrmT _ _).natAbs ≤ _; omega⟩
end
end K6

set_option Elab.async false
set_option linter.all false
set_option maxRecDepth 100000
set_option maxHeartbeats 4000000
/-! law k06: rows drawn -/
namespace K6
open PySem L2 TL KG
section
variable {P : Program} {w : World} {K : PySem.W.Frag} {mg : Str → Option Value} {base : Heap} {Cg Cr Cq Eg Er Eq En B f g h : Addr} {fd gd hd : FuncData}
theorem scLHand : FnScope ["stream", "frac"] ["stream", "frac"] (defScope sLHand) := ⟨rfl, rfl, rfl, by decide +kernel, rfl, by decide +kernel, by decide +kernel⟩
theorem ok_lhand (F : FnP K "_law_handed" "_law_handed" sLHand [] f fd) (T : Txt K mg) (TQ : QTxt K mg Cg Cr Cq Eg Er Eq En B) (GD : GloOk P w K mg base CX0 1 "_law_draw" ["stream", "many"] spDraw)
    (GM : KR.MkOk P w K mg base Cr (L2.CX P w) 3 ["self", "top", "bottom"] [.int 1] (KR.spInit K Cr Er)) : FnOk P w K mg base CX0 5 f fd ["stream", "frac"] (spLHand Cr) := by
  obtain ⟨fD, fdD, GD, mD, kD, bD⟩ := GD
  obtain ⟨fM, fdM, GM, M, bM, _⟩ := GM
  refine F.ok scLHand (fun vs H Q X z => ?_) (fun cdv A outer s H vs Q X hr z => ?_)
  · obtain ⟨l, v, n, rfl, _⟩ := z
    rfl
  · obtain ⟨l, v, n, rfl, st, fp, nm, k⟩ := z
    have hr1 : Room 1 _ := hr.mono (by decide)
    refine ⟨_, PSs.nox (pss_cons (ps_if (PW.pt (pw_and (pt_cmpR op_eq (pe_ix ix_tup (pv 1) pe_int (fun _ _ => rfl)) pe_int (nomark _)) (pw_and1 (pt_cmpR op_eq (pe_call GD hr1 rfl mD kD bD .nil pass0 (pa_cons (pv 0) (pa_cons pe_int pa_nil))) pe_int (nomark _)))))
        (pss_one (ps_ret (pe_ix ix_tup (pv 1) pe_int (fun _ _ => rfl)))) pss_nil)
      (pss_one (ps_ret (pe_make M GM hr rfl TQ.r.mgC bM .nil passL (pa_cons (pe_ix ix_tup (pv 1) pe_int (fun _ _ => rfl)) (pa_cons (pe_ix ix_tup (pv 1) pe_int (fun _ _ => rfl)) pa_nil)))))), ?_⟩
    obtain ⟨p, rfl, ep⟩ := id fp
    have made : ∀ (H1 : Hp), But l H H1 → Strm H1 l → H1 p = some (.tup [.int n.1, .int n.2]) → tMake Cr (KR.spInit K Cr Er) [] E0 (tCons (tOp (rIxT K) (tVar 1) (tC (.int 0))) (tCons (tOp (rIxT K) (tVar 1) (tC (.int 1))) tNil)) [some (.ref l), some (.ref p)] H1 Q := fun H1 b1 s1 e1 => by
      refine ⟨_, rfl, p, _, _, V.int n.1, rfl, rfl, SqT.of e1, at_of (j := 0) rfl rfl, _, rfl, p, _, _, V.int n.2, rfl, rfl, SqT.of e1, at_of (j := 1) rfl rfl, ?_⟩
      intro x dx' nx nd nex
      have lo := nm.low.pos
      refine ⟨x, dx', _, _, rfl, upd_same, .inr (.inr (.inr ⟨_, _, rfl, rfl, by omega, sz_of (m := 12) nm.bot (by decide +kernel), fun H' fr rt => ⟨rfl, ?_⟩⟩))⟩
      have sm := Same.made nx nd fun b o e ne => fr b o ne e
      rw [(Rt.nrm_of_low nm.low).1, (Rt.nrm_of_low nm.low).2] at rt
      exact k (.ref x) H' (b1.trans (But.of sm)) (s1.same sm) (.inr ⟨x, rfl, rt⟩)
    refine ⟨_, rfl, p, _, _, V.int n.2, rfl, rfl, SqT.of ep, at_of (j := 1) rfl rfl, rfl, _, rfl, ?_⟩
    rcases Decidable.em (n.2 = 1) with c | c
    · refine itT (decide_eq_true (congrArg V.int c)) ?_
      refine coin rfl st (by decide) (by decide) fun b H1 b1 s1 => ?_
      have e1 : H1 p = _ := b1.nl st p _ (fun _ z => by cases z) ep
      cases b with
      | true => exact iteT ⟨_, rfl, p, _, _, V.int n.1, rfl, rfl, SqT.of e1, at_of (j := 0) rfl rfl, k (.int n.1) H1 b1 s1 (.inl ⟨rfl, c⟩)⟩
      | false => exact iteF (nx_ (made H1 b1 s1 e1))
    · refine itF (decide_eq_false fun z => c (V.int.inj z)) ?_
      exact iteF (nx_ (made H (But.of (Same.refl H)) st ep))
theorem scLWeights : FnScope ["stream", "size", "k"] ["stream", "size"] (defScope sLWeights) := ⟨rfl, rfl, rfl, by decide +kernel, rfl, by decide +kernel, by decide +kernel⟩
theorem ok_lweights (F : FnP K "_law_weights" "_law_weights" sLWeights [] f fd) (T : Txt K mg) (GN : GloOk P w K mg base CX0 3 "_law_number" ["stream"] spLNum) : FnOk P w K mg base CX0 4 f fd ["stream", "size"] spLWeights := by
  obtain ⟨fN, fdN, GN, mN, kN, bN⟩ := GN
  refine F.ok scLWeights (fun vs H Q X z => ?_) (fun cdv A outer s H vs Q X hr z => ?_)
  · obtain ⟨l, m, rfl, _⟩ := z
    rfl
  · obtain ⟨l, m, rfl, st, m8, k⟩ := z
    refine ⟨_, PSs.nox (pss_one (ps_ret (pe_lc (own := [("k", 2)]) (g := gName 2) (tt := tYes) (by rfl) scLWeights.nd (pi_range1 rfl T.range (pa_cons (pv 1) pa_nil)) (blkOk_by (own := [("k", 2)]) (N := ["stream", "size", "k"]) (sc := defScope sLWeights) (by decide +kernel)) (fun _ _ _ _ _ => pg_name (i := 2) scLWeights.nd rfl (Or.inl rfl)) (fun _ _ _ _ _ => pts_nil)
      (fun _ _ _ _ _ => pe_call GN hr rfl mN kN bN .nil pass0 (pa_cons (pv 0) pa_nil))))), ?_⟩
    refine ⟨_, rfl, m, rfl, by omega, by omega, fun D nD => ?_⟩
    refine lc_drawn (n := m) (Y := YFn fun i => .int (0 + i)) FrP (fun _ n => Nm n) (fun s h => h.nl s) (walk_range.mono (fun _ _ => trivial) fun _ _ _ _ _ _ y => y) (fun _ _ _ _ y => y.1) nD st (by omega) (fun _ => by rfl) (fun j v H' Q' hj y b1 s1 h => ?_) (fun us as H' b1 s1 e1 al ln sa => ?_)
    · exact ⟨_, rfl, l, rfl, s1, fun u n H2 b2 s2 fp nm => h u n H2 b2 s2 fp nm⟩
    · exact k D us as H' b1 s1 nD e1 al ln fun n hn => by
        obtain ⟨i, hi⟩ := List.mem_iff_getElem?.mp hn
        exact sa i n hi
end
end K6

set_option Elab.async false
set_option linter.all false
set_option maxRecDepth 100000
set_option maxHeartbeats 4000000
/-! law k06: the law's own sum, what is given, what is good -/
namespace K6
open PySem L2 TL KG
abbrev sLAt : Stmt := top 57
abbrev sLGiven : Stmt := top 58
abbrev sLAsks : Stmt := top 59
theorem Sz.add {a : Nat} {x y : Int} (h : KR.Sz a x) (k : KR.Sz a y) : KR.Sz (a + 1) (x + y) := by
  unfold KR.Sz at *
  rw [Nat.pow_succ]
  omega
theorem Sz.le {a : Nat} {x y : Int} (h : KR.Sz a x) (k : y.natAbs ≤ x.natAbs) : KR.Sz a y := Nat.lt_of_le_of_lt k h
theorem by_sz {m n : Fr} (h : Nb m) (k : Nm n) : KR.Sz 140 (Rt.byF m n).1 ∧ KR.Sz 104 (Rt.byF m n).2 := by
  have hb : m.2 * n.2 ≠ 0 := Int.mul_ne_zero (Int.ne_of_gt h.low.pos) (Int.ne_of_gt k.low.pos)
  obtain ⟨l1, l2⟩ := Rt.nrm_le (p := m.1 * n.1) hb
  exact ⟨Sz.le (h.t.mul (sz_of (k := 40) k.top (by decide))) l1, Sz.le (h.b.mul (sz_of (k := 4) k.bot (by decide))) l2⟩
theorem run_sz (ws am : List Fr) (hw : ∀ n ∈ ws, Nb n) (ha : ∀ n ∈ am, Nm n) : ∀ k, k ≤ ws.length → k ≤ am.length → KR.Sz (141 + 105 * k) (Rt.runF ws am k).1 ∧ KR.Sz (104 * k + 1) (Rt.runF ws am k).2
  | 0, _, _ => ⟨by unfold KR.Sz; show 0 < _; exact Nat.pow_pos (by decide), by unfold KR.Sz; show 1 < 2; decide⟩
  | k + 1, h1, h2 => by
    obtain ⟨e1, e2⟩ := run_sz ws am hw ha k (by omega) (by omega)
    have m1 : ws.getD k (0, 1) = ws[k]'h1 := getD_at h1
    have m2 : am.getD k (0, 1) = am[k]'h2 := getD_at h2
    obtain ⟨b1, b2⟩ := by_sz (hw _ (List.getElem_mem h1)) (ha _ (List.getElem_mem h2))
    obtain ⟨lo, _⟩ := Rt.run_val ws am (fun n hn => (hw n hn).low.pos) (fun n hn => (ha n hn).low.pos) k (by omega) (by omega)
    have lb := Rt.nrm_low (p := (ws[k]'h1).1 * (am[k]'h2).1) (Int.mul_ne_zero (Int.ne_of_gt (hw _ (List.getElem_mem h1)).low.pos) (Int.ne_of_gt (ha _ (List.getElem_mem h2)).low.pos))
    have r1 : Rt.runF ws am (k + 1) = Rt.plusF (Rt.runF ws am k) (Rt.byF (ws[k]'h1) (am[k]'h2)) := by
      show Rt.plusF _ (Rt.byF _ _) = _
      rw [m1, m2]
    rw [r1]
    obtain ⟨l1, l2⟩ := Rt.nrm_le (p := (Rt.runF ws am k).1 * (Rt.byF (ws[k]'h1) (am[k]'h2)).2 + (Rt.byF (ws[k]'h1) (am[k]'h2)).1 * (Rt.runF ws am k).2) (q := (Rt.runF ws am k).2 * (Rt.byF (ws[k]'h1) (am[k]'h2)).2) (Int.mul_ne_zero (Int.ne_of_gt lo.pos) (Int.ne_of_gt lb.pos))
    refine ⟨Sz.le (Sz.add (a := 141 + 105 * k + 104) (e1.mul b2) ((b1.mul e2).mono (by omega))) l1 |>.mono (by omega), (Sz.le (e2.mul b2) l2).mono (by omega)⟩
def spLAt : Sp := fun vs H Q _ => ∃ a b us xs ws am, vs = [.ref a, .ref b] ∧ H a = some (.lst us) ∧ H b = some (.lst xs) ∧ All2 (FrP H) us ws ∧ All2 (FrP H) xs am ∧ (∀ n ∈ ws, Nb n) ∧ (∀ n ∈ am, Nm n) ∧ ws.length = am.length ∧ ws.length ≤ 8 ∧
  ∀ v H', Same H H' → FrP H' v (Rt.runF ws am ws.length) → Q v H'
def nrmF (n : Fr) : Fr := (Rt.nrmT n.1 n.2, Rt.nrmB n.1 n.2)
def spLGiven (Cr : Addr) : Sp := fun vs H Q _ => ∃ a us ns, vs = [.ref a] ∧ H a = some (.lst us) ∧ All2 (FrP H) us ns ∧ ns.length ≤ 8 ∧ (∀ n ∈ ns, n.2 ≠ 0 ∧ KR.Sz 8000 n.2) ∧
  ∀ p xs H', Same H H' → H p = none → H' p = some (.lst xs) → All2 (RatP Cr H') xs (ns.map nrmF) → Q (.ref p) H'
def spLAsks (Cq Cg Cr : Addr) : Sp := fun vs H Q _ => ∃ p g a us as ws, vs = [.ref p, .ref g, .ref a] ∧ QAt Cq Cg Cr H p as ws ∧ GridAt Cg H g as ∧ AxOk as ∧ H a = some (.lst us) ∧ All2 (FrP H) us ws ∧ ws.length ≤ 100 ∧ ∀ H', Same H H' → Q (.bl true) H'
theorem all2_get {α : Type} {R : V → α → Prop} {us : List V} {as : List α} (al : All2 R us as) {j : Nat} (h : j < as.length) : ∃ v, us[j]? = some v ∧ R v as[j] := by
  have h' : j < us.length := by rw [al.1]; exact h
  exact ⟨us[j], List.getElem?_eq_getElem h', al.2 j _ _ (List.getElem?_eq_getElem h') (List.getElem?_eq_getElem h)⟩
section
variable {P : Program} {w : World} {K : PySem.W.Frag} {mg : Str → Option Value} {base : Heap} {Cg Cr Cq Eg Er Eq En B f g h : Addr} {fd gd hd : FuncData}
theorem scLAt : FnScope ["weights", "amounts", "total", "k"] ["weights", "amounts"] (defScope sLAt) := ⟨rfl, rfl, rfl, by decide +kernel, rfl, by decide +kernel, by decide +kernel⟩
theorem ok_lat (F : FnP K "_law_at" "_law_at" sLAt [] f fd) (T : Txt K mg) (GP : GloOk P w K mg base CX0 3 "_law_plus" ["one", "other"] (KR.spPair KR.addT)) (GB : GloOk P w K mg base CX0 3 "_law_by" ["one", "other"] (KR.spPair KR.mulT)) : FnOk P w K mg base CX0 4 f fd ["weights", "amounts"] spLAt := by
  obtain ⟨fP, fdP, GP, mP, kP, bP⟩ := GP
  obtain ⟨fB, fdB, GB, mB, kB, bB⟩ := GB
  refine F.ok scLAt (fun vs H Q X z => ?_) (fun cdv A outer s H vs Q X hr z => ?_)
  · obtain ⟨a, b, us, xs, ws, am, rfl, _⟩ := z
    rfl
  · obtain ⟨a, b, us, xs, ws, am, rfl, ea, eb, al, bl, nw, na, le, l8, k⟩ := z
    refine ⟨_, PSs.nox (pss_cons (ps_set (i := 2) scLAt.nd rfl (Or.inl rfl) (pe_tup (pa_cons pe_int (pa_cons pe_int pa_nil))))
      (pss_cons (ps_for PassesOwn.never rfl (pi_range1 rfl T.range (pa_cons (pe_callB call_len_seq (by rfl) T.len PySem.boot_len (pa_cons (pv 0) pa_nil)) pa_nil)) (pg_name (i := 3) scLAt.nd rfl (Or.inl rfl))
        (pss_one (ps_set (i := 2) scLAt.nd rfl (Or.inl rfl) (pe_call GP hr rfl mP kP bP .nil pass0 (pa_cons (pv 2) (pa_cons (pe_call GB hr rfl mB kB bB .nil pass0 (pa_cons (pe_ix ix_list (pv 0) (pv 3) (fun _ _ => rfl)) (pa_cons (pe_ix ix_list (pv 1) (pv 3) (fun _ _ => rfl)) pa_nil))) pa_nil))))))
      (pss_one (ps_ret (pv 2))))), ?_⟩
    refine ⟨(by show 2 ≤ sizeLine; decide), fun p0 n0 => ?_⟩
    have s0 : Same H (upd H p0 (.tup [.int 0, .int 1])) := new n0
    refine nx_ ?_
    refine sq ?_
    refine ⟨_, rfl, a, us, rfl, .inl (SqL.of (s0 _ _ ea)), us.length, rfl, by have := al.1; omega, by have := al.1; omega, ?_⟩
    refine for_it walk_range (fun j σ H' => Same H H' ∧ ∃ v w3, σ = [some (.ref a), some (.ref b), some v, w3] ∧ FrP H' v (Rt.runF ws am j)) ⟨s0, .ref p0, none, rfl, p0, rfl, upd_same⟩ (fun _ _ _ _ _ => trivial) ?_ ?_
    · rintro j x σ H1 H1' hj ⟨s1, v, w3, rfl, p, rfl, ep⟩ ⟨rfl, ex⟩
      obtain rfl : x = V.int (j : Int) := by
        rw [ex]
        show V.int (0 + _) = _
        rw [Int.zero_add]
      have hj1 : j < ws.length := by rw [← al.1]; exact hj
      have hj2 : j < am.length := by omega
      obtain ⟨u, hu, q1, rfl, f1⟩ := all2_get (al.imp fun _ _ y => y.same s1) hj1
      obtain ⟨x, hx, q2, rfl, f2⟩ := all2_get (bl.imp fun _ _ y => y.same s1) hj2
      have m1 := nw _ (List.getElem_mem hj1)
      have m2 := na _ (List.getElem_mem hj2)
      refine gname_step ?_
      refine ⟨_, rfl, _, rfl, _, rfl, a, _, _, _, rfl, rfl, SqL.of (s1 _ _ ea), atI_nat hu, _, rfl, _, rfl, b, _, _, _, rfl, rfl, SqL.of (s1 _ _ eb), atI_nat hx, ?_⟩
      have hb : ws[j].2 * am[j].2 ≠ 0 := Int.mul_ne_zero (Int.ne_of_gt m1.low.pos) (Int.ne_of_gt m2.low.pos)
      refine ⟨q1, q2, _, _, _, _, rfl, f1, f2, hb, m1.t.mono (by decide), m1.b.mono (by decide), sz_of m2.top (by decide +kernel), sz_of m2.bot (by decide +kernel), fun r H2 s2 nr pr => ?_⟩
      obtain ⟨z1, z2⟩ := by_sz m1 m2
      obtain ⟨y1, y2⟩ := run_sz ws am nw na j (by omega) (by omega)
      obtain ⟨lo, _⟩ := Rt.run_val ws am (fun n hn => (nw n hn).low.pos) (fun n hn => (na n hn).low.pos) j (by omega) (by omega)
      have lb := Rt.nrm_low (p := ws[j].1 * am[j].1) hb
      refine ⟨p, r, _, _, _, _, rfl, s2 _ _ ep, pr, Int.mul_ne_zero (Int.ne_of_gt lo.pos) (Int.ne_of_gt lb.pos), y1.mono (by omega), y2.mono (by omega), z1.mono (by decide), z2.mono (by decide), fun t H3 s3 nt pt => ?_⟩
      refine nx_ ⟨s1.trans (s2.trans s3), .ref t, some (.int j), rfl, t, rfl, ?_⟩
      have r1 : Rt.runF ws am (j + 1) = Rt.plusF (Rt.runF ws am j) (Rt.byF ws[j] am[j]) := by
        show Rt.plusF _ (Rt.byF _ _) = _
        rw [getD_at hj1, getD_at hj2]
      rw [r1]
      exact pt
    · rintro σ H1 ⟨s1, v, w3, rfl, fp⟩
      rw [al.1] at fp
      exact nx_ ⟨_, rfl, k v H1 s1 fp⟩
theorem scLGiven : FnScope ["fracs", "frac"] ["fracs"] (defScope sLGiven) := ⟨rfl, rfl, rfl, by decide +kernel, rfl, by decide +kernel, by decide +kernel⟩
theorem ok_lgiven (F : FnP K "_law_given" "_law_given" sLGiven [] f fd) (T : Txt K mg) (TQ : QTxt K mg Cg Cr Cq Eg Er Eq En B)
    (GM : KR.MkOk P w K mg base Cr (L2.CX P w) 3 ["self", "top", "bottom"] [.int 1] (KR.spInit K Cr Er)) : FnOk P w K mg base CX0 5 f fd ["fracs"] (spLGiven Cr) := by
  obtain ⟨fM, fdM, GM, M, bM, _⟩ := GM
  refine F.ok scLGiven (fun vs H Q X z => ?_) (fun cdv A outer s H vs Q X hr z => ?_)
  · obtain ⟨a, us, ns, rfl, _⟩ := z
    rfl
  · obtain ⟨a, us, ns, rfl, ea, al, l8, nz, k⟩ := z
    refine ⟨_, PSs.nox (pss_one (ps_ret (pe_lc (own := [("frac", 1)]) (g := gName 1) (tt := tYes) (by rfl) scLGiven.nd (pi_row (pv 0)) (blkOk_by (own := [("frac", 1)]) (N := ["fracs", "frac"]) (sc := defScope sLGiven) (by decide +kernel)) (fun _ _ _ _ _ => pg_name (i := 1) scLGiven.nd rfl (Or.inl rfl)) (fun _ _ _ _ _ => pts_nil)
      (fun _ _ _ _ _ => show PE _ _ (tMake Cr (KR.spInit K Cr Er) [] E0 (tCons (tOp (rIxT K) (tVar 1) (tC (.int 0))) (tCons (tOp (rIxT K) (tVar 1) (tC (.int 1))) tNil))) from pe_make M GM hr rfl TQ.r.mgC bM .nil passL (pa_cons (pe_ix ix_tup (pv 1) pe_int (fun _ _ => rfl)) (pa_cons (pe_ix ix_tup (pv 1) pe_int (fun _ _ => rfl)) pa_nil)))))), ?_⟩
    have lu := al.1
    refine tLc_row (x := .ref a) (xs := us) rfl ⟨a, rfl, .inl ea⟩ fun J wk D nD => ?_
    refine lc_objs (fun H u n => RatP Cr H u (nrmF n)) ns al.1.symm (fun s h => RatP.same s h) (fun s h => RatP.nl s h) wk nD (by omega) (fun _ => by rfl) (fun j v n hv hn H' Q' s' h => ?_) (fun xs H5 s5 e5 al5 => ?_)
    · obtain ⟨p, rfl, ep⟩ := (al.2 j v n hv hn).same s'
      obtain ⟨hb, hs⟩ := nz n (List.mem_of_getElem? hn)
      refine ⟨_, rfl, p, _, _, V.int n.1, rfl, rfl, SqT.of ep, at_of (j := 0) rfl rfl, _, rfl, p, _, _, V.int n.2, rfl, rfl, SqT.of ep, at_of (j := 1) rfl rfl, ?_⟩
      intro x dx' nx nd nex
      exact ⟨x, dx', _, _, rfl, upd_same, .inr (.inr (.inr ⟨_, _, rfl, rfl, hb, hs, fun H' fr rt => ⟨rfl, h (.ref x) H' (Same.made nx nd fun b o e ne => fr b o ne e) ⟨x, rfl, rt⟩⟩⟩))⟩
    · refine k D xs H5 s5 nD e5 ⟨by rw [al5.1, List.length_map], fun i v m h1 h2 => ?_⟩
      rw [List.getElem?_map] at h2
      obtain ⟨n, hn, rfl⟩ := Option.map_eq_some_iff.mp h2
      exact al5.2 i v n h1 hn
end
end K6

set_option Elab.async false
set_option linter.all false
set_option maxRecDepth 100000
set_option maxHeartbeats 4000000
/-! law k06: a question as it should be; odd things -/
namespace K6
open PySem L2 TL KG
section
variable {P : Program} {w : World} {K : PySem.W.Frag} {mg : Str → Option Value} {base : Heap} {Cg Cr Cq Eg Er Eq En B f g h : Addr} {fd gd hd : FuncData}
theorem scLAsks : FnScope ["told", "grid", "weights", "k"] ["told", "grid", "weights"] (defScope sLAsks) := ⟨rfl, rfl, rfl, by decide +kernel, rfl, by decide +kernel, by decide +kernel⟩
theorem ok_lasks (F : FnP K "_law_asks" "_law_asks" sLAsks [] f fd) (T : Txt K mg) (TQ : QTxt K mg Cg Cr Cq Eg Er Eq En B) (hne : PySem.W.findIn K (.ref Cg) "__ne__" = some (some (.builtin "object.__ne__")))
    (GG : MthOk P w K mg base Cg CX0 1 "__eq__" ["self", "other"] (spEq K Cg)) (GI : GloOk P w K mg base CX0 2 "_law_is" ["told", "due"] (KR.spIs Cr)) : FnOk P w K mg base CX0 3 f fd ["told", "grid", "weights"] (spLAsks Cq Cg Cr) := by
  obtain ⟨fG, fdG, GG, MG, bG⟩ := GG
  obtain ⟨fI, fdI, GI, mI, kI, bI⟩ := GI
  refine F.ok scLAsks (fun vs H Q X z => ?_) (fun cdv A outer s H vs Q X hr z => ?_)
  · obtain ⟨p, g, a, us, as, ws, rfl, _⟩ := z
    rfl
  · obtain ⟨p, g, a, us, as, ws, rfl, qp, ga, oa, ea, al, l1, k⟩ := z
    refine ⟨_, PSs.nox (pss_cons (ps_if (PW.pt (pw_or (pt_not (pt_val (pe_callB call_isi (by rfl) T.isinst (by decide +kernel) (pa_cons (pv 0) (pa_cons (pe_glob (v := .ref Cq) (by rfl) TQ.mgQ rfl) pa_nil)))))
        (pw_or (pt_cmpR (op_neOwn hne TQ.g.cm MG.at_ MG.fn GG hr bG pass0) (pe_fld (pv 0) rfl) (pv 1) (nomark _))
        (pw_or1 (pt_not (pt_val (pe_callB call_isi (by rfl) T.isinst (by decide +kernel) (pa_cons (pe_fld (pv 0) rfl) (pa_cons (pe_bltn (v := .ty "tuple") (by rfl) T.tuple (by decide +kernel) rfl) pa_nil))))))))) (pss_one (ps_ret pe_bl)) pss_nil)
      (pss_cons (ps_if (pt_cmpR op_ne (pe_callB call_len_seq (by rfl) T.len PySem.boot_len (pa_cons (pe_fld (pv 0) rfl) pa_nil)) (pe_callB call_len_seq (by rfl) T.len PySem.boot_len (pa_cons (pv 2) pa_nil)) (nomark _)) (pss_one (ps_ret pe_bl)) pss_nil)
      (pss_one (ps_ret (pe_callB (cr_all rfl) (by rfl) T.all (by decide +kernel) (pa_cons
        (pe_lc (own := [("k", 3)]) (g := gName 3) (tt := tYes) (by rfl) scLAsks.nd (pi_range1 rfl T.range (pa_cons (pe_callB call_len_seq (by rfl) T.len PySem.boot_len (pa_cons (pv 2) pa_nil)) pa_nil)) (blkOk_by (own := [("k", 3)]) (N := ["told", "grid", "weights", "k"]) (sc := defScope sLAsks) (by decide +kernel)) (fun _ _ _ _ _ => pg_name (i := 3) scLAsks.nd rfl (Or.inl rfl)) (fun _ _ _ _ _ => pts_nil)
          (fun _ _ _ _ _ => show PE _ _ (tCall (KR.spIs Cr) [] E0 (tCons (tOp (rIxT K) (tFld K (tVar 0) "weights") (tVar 3)) (tCons (tOp (rIxL K) (tVar 2) (tVar 3)) tNil))) from
            pe_call GI hr rfl mI kI bI .nil pass0 (pa_cons (pe_ix ix_tup (pe_fld (pv 0) rfl) (pv 3) (fun _ _ => rfl)) (pa_cons (pe_ix ix_list (pv 2) (pv 3) (fun _ _ => rfl)) pa_nil)))) pa_nil)))))), ?_⟩
    have tq := ty_q TQ qp
    obtain ⟨dx, g1, wt, vs, e1, a1, c1, l2⟩ := qp
    obtain ⟨dg, va, vc, eg, _⟩ := id a1
    have al1 := al.1
    have l21 := l2.1
    refine ⟨_, rfl, .ref p, .ref Cq, .ref Cq, _, true, rfl, .own Cq, tq, KR.kit_self, true, rfl, iteF ?_⟩
    refine ⟨_, rfl, p, Cq, dx, _, _, rfl, e1, TQ.cl, TQ.nG, qf_grid _ _, _, rfl, g1, dg, _, .ref Cg, rfl, eg, ty_grid TQ.g ga, nf_self, g1, _, as, rfl, a1, oa, .inl ⟨g, as, rfl, ga, oa, fun r hr' => ⟨r, rfl, _, rfl, ?_⟩⟩⟩
    rw [hr'.mpr rfl]
    refine iteF ?_
    refine ⟨_, rfl, p, Cq, dx, _, _, rfl, e1, TQ.cl, TQ.nW, qf_weights _ _, .ref wt, .ty "tuple", .type "tuple", _, true, rfl, .ty _, .base (.tup c1), kit_ty (by decide +kernel), true, rfl, iteF ?_⟩
    refine nx_ ?_
    refine sq ?_
    refine ⟨_, rfl, p, Cq, dx, _, _, rfl, e1, TQ.cl, TQ.nW, qf_weights _ _, wt, vs, rfl, .inr (SqT.of c1), _, rfl, a, us, rfl, .inl (SqL.of ea), rfl, _, rfl, ?_⟩
    refine itF ?_ ?_
    · rw [Bool.not_eq_false']
      exact decide_eq_true (by rw [l21, al1])
    refine nx_ ?_
    refine cb_one ?_
    refine ⟨_, rfl, a, us, rfl, .inl (SqL.of ea), us.length, rfl, by omega, by omega, fun D nD => ?_⟩
    refine lc_it walk_range (fun j H' => Same H H' ∧ H' D = some (.lst ((List.replicate j true).map V.bl))) ⟨new nD, upd_same⟩ (fun _ _ _ _ => trivial) ?_ ?_
    · rintro j x H1 H1' hj ⟨s1, eD⟩ ⟨rfl, ex⟩
      obtain rfl : x = V.int (j : Int) := by
        rw [ex]
        show V.int (0 + _) = _
        rw [Int.zero_add]
      have hj1 : j < ws.length := by omega
      obtain ⟨u, hu, q, rfl, rq⟩ := all2_get (l2.imp fun _ _ y => y.same s1) hj1
      obtain ⟨x, hx, q2, rfl, f2⟩ := all2_get (al.imp fun _ _ y => FrP.same s1 y) hj1
      refine ⟨rfl, ?_⟩
      unfold tYes
      refine iteT ?_
      refine ⟨_, rfl, p, Cq, dx, _, _, rfl, s1 _ _ e1, TQ.cl, TQ.nW, qf_weights _ _, _, rfl, wt, _, _, _, rfl, rfl, SqT.of (s1 _ _ c1), atI_nat hu, _, rfl, _, rfl, a, _, _, _, rfl, rfl, SqL.of (s1 _ _ ea), atI_nat hx, ?_⟩
      refine ⟨q, q2, _, _, rfl, rq, f2, _, eD, ?_, fun c o e => ?_, ?_⟩
      · rw [List.length_map, List.length_replicate]
        exact Nat.lt_of_lt_of_le (show j < 1000 by omega) (by decide)
      · rw [upd_ne (ne_of_none e nD)]
        exact s1 _ _ e
      · rw [upd_same, List.replicate_succ', List.map_append]
        rfl
    · rintro H1 ⟨s1, eD⟩
      refine ⟨D, List.replicate us.length true, rfl, SqL.of eD, ?_⟩
      rw [show (List.replicate us.length true).all id = true from by rw [List.all_eq_true]; exact fun x hx => List.eq_of_mem_replicate hx]
      exact k H1 s1
end
end K6

set_option Elab.async false
set_option linter.all false
set_option maxRecDepth 100000
set_option maxHeartbeats 4000000
namespace KR
open PySem L2 Rt
section
variable {P : Program} {w : World} {K : PySem.W.Frag} {mg : Str → Option Value} {base : Heap} {C E B f g h : Addr} {fd gd hd : FuncData}
theorem scAdd : FnScope ["self", "other", "right"] ["self", "other"] (defScope sAdd) := ⟨rfl, rfl, rfl, by decide +kernel, rfl, by decide +kernel, by decide +kernel⟩
theorem ok_add (F : FnP K "__add__" "Ratio.__add__" sAdd [] f fd) (T : Txt K mg C E B) (GM : MkOk P w K mg base C (L2.CX P w) 3 ["self", "top", "bottom"] [.int 1] (spInit K C E))
    (GN : GloOk P w K mg base CX0 2 "is_number" ["found"] (spIsNum C)) (GA : GloOk P w K mg base CX0 5 "as_ratio" ["number"] (spAsR C)) : FnOk P w K mg base CX0 6 f fd ["self", "other"] (spBin C addT bb) := by
  obtain ⟨fM, fdM, GM, M, bM, _⟩ := GM
  obtain ⟨fN, fdN, GN, mN, kN, bN⟩ := GN
  obtain ⟨fA, fdA, GA, mA, kA, bA⟩ := GA
  refine F.ok scAdd (fun vs H Q X z => ?_) (fun cdv A outer s H vs Q X hr z => ?_)
  · obtain ⟨p, y, t, b, t2, b2, rfl, _⟩ := z
    rfl
  · obtain ⟨p, y, t, b, t2, b2, rfl, hp, l1, num, l2, z1, z2, z3, z4, k⟩ := z
    have hrN : Room 2 _ := hr.mono (by decide)
    have hrM : Room 4 _ := hr.mono (by decide)
    refine ⟨_, PSs.nox (pss_cons (ps_if (pt_not (pt_val (pe_call GN hrN rfl mN kN bN .nil pass0 (pa_cons (pv 1) pa_nil)))) pss_never pss_nil)
      (pss_cons (ps_set (i := 2) scAdd.nd rfl (Or.inl rfl) (pe_call GA hr rfl mA kA bA .nil pass0 (pa_cons (pv 1) pa_nil)))
      (pss_one (ps_ret (pe_make M GM hrM rfl T.mgC bM .nil passL
        (pa_cons (pe_op op_add (pe_op op_mulW (pe_fld (pv 0) rfl) (pe_fld (pv 2) rfl)) (pe_op op_mulW (pe_fld (pv 2) rfl) (pe_fld (pv 0) rfl)))
        (pa_cons (pe_op op_mulW (pe_fld (pv 0) rfl) (pe_fld (pv 2) rfl)) pa_nil))))))), ?_⟩
    refine ⟨_, rfl, y, t2, b2, rfl, num, true, rfl, iteF ?_⟩
    refine ⟨_, rfl, y, t2, b2, rfl, num, fun q H1 sm hq => ?_⟩
    obtain ⟨dx, e1⟩ := hp.same sm
    obtain ⟨dq, e2⟩ := id hq
    refine ⟨_, rfl, p, C, dx, _, _, rfl, e1, T.cl, T.nT, flds_top _ _, _, rfl, q, C, dq, _, _, rfl, e2, T.cl, T.nB, flds_bot _ _, _, _, rfl, rfl, mulOk z1 z4,
      _, rfl, q, C, dq, _, _, rfl, e2, T.cl, T.nT, flds_top _ _, _, rfl, p, C, dx, _, _, rfl, e1, T.cl, T.nB, flds_bot _ _, _, _, rfl, rfl, mulOk z3 z2, _, _, rfl, rfl, ?_⟩
    refine ⟨_, rfl, p, C, dx, _, _, rfl, e1, T.cl, T.nB, flds_bot _ _, _, rfl, q, C, dq, _, _, rfl, e2, T.cl, T.nB, flds_bot _ _, _, _, rfl, rfl, mulOk z2 z4, ?_⟩
    intro x dx' nx nd nex
    exact ⟨x, dx', _, _, rfl, upd_same, .inr (.inr (.inr ⟨_, _, rfl, rfl, bot_ne l1 l2, z2.mul z4, fun H' fr rt => ⟨rfl, k x H' (sm.trans (Same.made nx nd fun b o e ne => fr b o ne e)) rt⟩⟩))⟩
theorem scMul : FnScope ["self", "other", "right"] ["self", "other"] (defScope sMul) := ⟨rfl, rfl, rfl, by decide +kernel, rfl, by decide +kernel, by decide +kernel⟩
theorem ok_mul (F : FnP K "__mul__" "Ratio.__mul__" sMul [] f fd) (T : Txt K mg C E B) (GM : MkOk P w K mg base C (L2.CX P w) 3 ["self", "top", "bottom"] [.int 1] (spInit K C E))
    (GN : GloOk P w K mg base CX0 2 "is_number" ["found"] (spIsNum C)) (GA : GloOk P w K mg base CX0 5 "as_ratio" ["number"] (spAsR C)) : FnOk P w K mg base CX0 6 f fd ["self", "other"] (spBin C mulT bb) := by
  obtain ⟨fM, fdM, GM, M, bM, _⟩ := GM
  obtain ⟨fN, fdN, GN, mN, kN, bN⟩ := GN
  obtain ⟨fA, fdA, GA, mA, kA, bA⟩ := GA
  refine F.ok scMul (fun vs H Q X z => ?_) (fun cdv A outer s H vs Q X hr z => ?_)
  · obtain ⟨p, y, t, b, t2, b2, rfl, _⟩ := z
    rfl
  · obtain ⟨p, y, t, b, t2, b2, rfl, hp, l1, num, l2, z1, z2, z3, z4, k⟩ := z
    have hrN : Room 2 _ := hr.mono (by decide)
    have hrM : Room 4 _ := hr.mono (by decide)
    refine ⟨_, PSs.nox (pss_cons (ps_if (pt_not (pt_val (pe_call GN hrN rfl mN kN bN .nil pass0 (pa_cons (pv 1) pa_nil)))) pss_never pss_nil)
      (pss_cons (ps_set (i := 2) scMul.nd rfl (Or.inl rfl) (pe_call GA hr rfl mA kA bA .nil pass0 (pa_cons (pv 1) pa_nil)))
      (pss_one (ps_ret (pe_make M GM hrM rfl T.mgC bM .nil passL
        (pa_cons (pe_op op_mulW (pe_fld (pv 0) rfl) (pe_fld (pv 2) rfl))
        (pa_cons (pe_op op_mulW (pe_fld (pv 0) rfl) (pe_fld (pv 2) rfl)) pa_nil))))))), ?_⟩
    refine ⟨_, rfl, y, t2, b2, rfl, num, true, rfl, iteF ?_⟩
    refine ⟨_, rfl, y, t2, b2, rfl, num, fun q H1 sm hq => ?_⟩
    obtain ⟨dx, e1⟩ := hp.same sm
    obtain ⟨dq, e2⟩ := id hq
    refine ⟨_, rfl, p, C, dx, _, _, rfl, e1, T.cl, T.nT, flds_top _ _, _, rfl, q, C, dq, _, _, rfl, e2, T.cl, T.nT, flds_top _ _, _, _, rfl, rfl, mulOk z1 z3, ?_⟩
    refine ⟨_, rfl, p, C, dx, _, _, rfl, e1, T.cl, T.nB, flds_bot _ _, _, rfl, q, C, dq, _, _, rfl, e2, T.cl, T.nB, flds_bot _ _, _, _, rfl, rfl, mulOk z2 z4, ?_⟩
    intro x dx' nx nd nex
    exact ⟨x, dx', _, _, rfl, upd_same, .inr (.inr (.inr ⟨_, _, rfl, rfl, bot_ne l1 l2, z2.mul z4, fun H' fr rt => ⟨rfl, k x H' (sm.trans (Same.made nx nd fun b o e ne => fr b o ne e)) rt⟩⟩))⟩

theorem scNeg : FnScope ["self"] ["self"] (defScope sNeg) := ⟨rfl, rfl, rfl, by decide +kernel, rfl, by decide +kernel, by decide +kernel⟩
theorem ok_neg (F : FnP K "__neg__" "Ratio.__neg__" sNeg [] f fd) (T : Txt K mg C E B) (GM : MkOk P w K mg base C (L2.CX P w) 3 ["self", "top", "bottom"] [.int 1] (spInit K C E)) : FnOk P w K mg base CX0 5 f fd ["self"] (spUn C fun t => -t) := by
  obtain ⟨fM, fdM, GM, M, bM, _⟩ := GM
  refine F.ok scNeg (fun vs H Q X z => ?_) (fun cdv A outer s H vs Q X hr z => ?_)
  · obtain ⟨p, t, b, rfl, _⟩ := z
    rfl
  · obtain ⟨p, t, b, rfl, ⟨dx, e1⟩, lo, zb, k⟩ := z
    refine ⟨_, PSs.nox (pss_one (ps_ret (pe_make M GM hr rfl T.mgC bM .nil passL (pa_cons (pe_un un_neg (pe_fld (pv 0) rfl)) (pa_cons (pe_fld (pv 0) rfl) pa_nil))))), ?_⟩
    refine ⟨_, rfl, p, C, dx, _, _, rfl, e1, T.cl, T.nT, flds_top _ _, _, rfl, _, rfl, p, C, dx, _, _, rfl, e1, T.cl, T.nB, flds_bot _ _, ?_⟩
    intro x dx' nx nd nex
    refine ⟨x, dx', _, _, rfl, upd_same, .inr (.inr (.inr ⟨_, _, rfl, rfl, Int.ne_of_gt lo.pos, zb, fun H' fr rt => ⟨rfl, ?_⟩⟩))⟩
    rw [(nrm_of_low lo.neg).1, (nrm_of_low lo.neg).2] at rt
    exact k x H' (Same.made nx nd fun b o e ne => fr b o ne e) rt
theorem scOver : FnScope ["self", "number", "right"] ["self", "number"] (defScope sOver) := ⟨rfl, rfl, rfl, by decide +kernel, rfl, by decide +kernel, by decide +kernel⟩
theorem ok_over (F : FnP K "over" "Ratio.over" sOver [] f fd) (T : Txt K mg C E B) (GM : MkOk P w K mg base C (L2.CX P w) 3 ["self", "top", "bottom"] [.int 1] (spInit K C E))
    (GA : GloOk P w K mg base CX0 5 "as_ratio" ["number"] (spAsR C)) : FnOk P w K mg base (L2.CX P w) 6 f fd ["self", "number"] (spOver C E) := by
  obtain ⟨fM, fdM, GM, M, bM, _⟩ := GM
  obtain ⟨fA, fdA, GA, mA, kA, bA⟩ := GA
  refine F.ok scOver (fun vs H Q X z => ?_) (fun cdv A outer s H vs Q X hr z => ?_)
  · obtain ⟨p, y, t, b, t2, b2, rfl, _⟩ := z
    rfl
  · obtain ⟨p, y, t, b, t2, b2, rfl, hp, l1, num, l2, z1, z2, z3, z4, k⟩ := z
    have hrM : Room 4 _ := hr.mono (by decide)
    refine ⟨_, pss_cons (ps_set (i := 2) scOver.nd rfl (Or.inl rfl) (pe_call GA hr rfl mA kA bA .nil pass0 (pa_cons (pv 1) pa_nil)))
      (pss_one (ps_ret (pe_make M GM hrM rfl T.mgC bM .nil (passes_call (takes_of rfl rfl rfl rfl) (fun _ _ _ _ h => h))
        (pa_cons (pe_op op_mulW (pe_fld (pv 0) rfl) (pe_fld (pv 2) rfl)) (pa_cons (pe_op op_mulW (pe_fld (pv 0) rfl) (pe_fld (pv 2) rfl)) pa_nil))))), ?_⟩
    refine ⟨_, rfl, y, t2, b2, rfl, num, fun q H1 sm hq => ?_⟩
    obtain ⟨dx, e1⟩ := hp.same sm
    obtain ⟨dq, e2⟩ := id hq
    refine ⟨_, rfl, p, C, dx, _, _, rfl, e1, T.cl, T.nT, flds_top _ _, _, rfl, q, C, dq, _, _, rfl, e2, T.cl, T.nB, flds_bot _ _, _, _, rfl, rfl, mulOk z1 z4, ?_⟩
    refine ⟨_, rfl, p, C, dx, _, _, rfl, e1, T.cl, T.nB, flds_bot _ _, _, rfl, q, C, dq, _, _, rfl, e2, T.cl, T.nT, flds_top _ _, _, _, rfl, rfl, mulOk z2 z3, ?_⟩
    intro x dx' nx nd nex
    have nw : Same H1 (upd (upd H1 dx' (.own x)) x (.ins C dx' [])) := fun b o e => by
      rw [upd_ne (ne_of_none e nx), upd_ne (ne_of_none e nd)]
      exact e
    rcases k with ⟨rfl, k⟩ | ⟨hz, k⟩
    · refine ⟨x, dx', _, _, rfl, upd_same, .inr (.inr (.inl ⟨_, rfl, congrArg V.int (Int.mul_zero b), fun d H' s' hd => k d H' (sm.trans (nw.trans s')) hd⟩))⟩
    · exact ⟨x, dx', _, _, rfl, upd_same, .inr (.inr (.inr ⟨_, _, rfl, rfl, Int.mul_ne_zero (Int.ne_of_gt l1.pos) hz, z2.mul z3, fun H' fr rt => ⟨rfl, k x H' (sm.trans (Same.made nx nd fun b o e ne => fr b o ne e)) rt⟩⟩))⟩
end
end KR

set_option Elab.async false
set_option linter.all false
set_option maxRecDepth 100000
set_option maxHeartbeats 2000000
namespace L2
open PySem PySem.Spec PyProof.Rows
/-- C(e, ..) in a try: what is raised is wished for at the slots as they stand -/
def tMakeS (C : Addr) (sp : Sp) (dvs : List V) (E : St → XK) (t : TA) : TE := fun σ H Q => t σ H fun vs H1 => ∀ x dx, H1 x = none → H1 dx = none → dx ≠ x →
  sp (.ref x :: (vs ++ dvs)) (upd (upd H1 dx (.own x)) x (.ins C dx [])) (fun v H2 => v = .non ∧ Q (.ref x) H2) (E σ)
section
variable {X : Cx} {CX : CXT} {k : Nat} {g C : Addr} {fd : FuncData} {ps : List Str} {sp : Sp} {dvs : List V} {ds : List Value} {E : St → XK} {x : Str} {p pos : Pos} {e : Expr} {es : List Expr} {t : TA}
theorem pe_makeS (M : Mk X.K C g) (F : FnOk X.prog X.w X.K X.mg X.base CX k g fd ps sp) (hr : Room (k + 1) X.A) (hg : Gl X x) (hm : X.mg x = some (.ref C)) (hb : Binds X.K fd ps ds) (hd : Vals dvs ds) (hx : ∀ σ, PassesAt CX X σ (E σ))
    (ha : PA X (e :: es) t) (hdb : (x == ("__debug__" : Str)) = false := by decide) (he : starEach (e :: es) X.env = (false, eval e X.env) :: starEach es X.env := by rfl) (hpl : (backTo pos (starEach es X.env)).any (·.1) = false := by rfl) :
    PE X (.Call (.Name x p) (e :: es) [] pos) (tMakeS C sp dvs E t) := by
  constructor
  intro pins s σ H Q I0 h0
  refine wpAny_Call_Name_kw (ld_glob I0 hg hm ?_ hdb)
  refine PySem.W.callWith_K (h₀ := X.base) I0.ok.mod.kin M.kp (thn (ha.run pos pins s σ H _ I0 h0) fun us s1 hh => ?_) he hpl
  obtain ⟨vs, H1, I, r, h⟩ := hh
  refine ⟨I.kIn, ?_⟩
  have hq := h (s1.heap.objs.size + 1) s1.heap.objs.size (I.hok.fresh (Nat.le_succ _)) (I.hok.fresh (Nat.le_refl _)) (Nat.ne_of_lt (Nat.lt_succ_self _))
  have J := Inv.made (C := C) I
  have rr : Vals (V.ref (s1.heap.objs.size + 1) :: (vs ++ dvs)) (Value.ref (s1.heap.objs.size + 1) :: (us ++ ds)) := .cons rfl (r.append hd)
  have ll : (Value.ref (s1.heap.objs.size + 1) :: us ++ ds).length = ps.length := by
    have z := rr.length
    rw [F.len _ _ _ _ hq] at z
    exact z.symm
  have bd := hb { s1 with heap := (s1.heap.push PySem.W.emptyDict).push (PySem.W.instObj C s1.heap.objs.size) } (Value.ref (s1.heap.objs.size + 1) :: us) J.kIn ll
  show wpAny _ _ (call (.ref C) us) _ _ _
  refine wpAny_call (make_map (f := g) I.kIn M.makes M.init (beq_iff_eq.mp M.fn) (codeAny_mono (F.run _ X.stack _ _ _ _ _ _ (E σ) (hr.make C us []) (J.env0.make C us []) bd rr hq) fun res s' z => ?_))
  match res, z with
  | .error er, z => exact hx σ pins _ _ er s' J z
  | .ok (.ret u), z =>
    obtain ⟨v, H', I3, rv, ev, q3⟩ := J.after z
    subst ev
    exact ⟨rv, V.ref (s1.heap.objs.size + 1), H', I3, rfl, q3⟩
  | .ok .next, z => exact z.elim
  | .ok .brk, z => exact z.elim
  | .ok .cont, z => exact z.elim
end
end L2

set_option Elab.async false
set_option linter.all false
set_option maxRecDepth 100000
set_option maxHeartbeats 4000000
/-! o.m(..) within a try -/
namespace L2
open PySem PySem.Spec PyProof.Rows
def tMethW (C : Addr) (m : Str) (sp : Sp) (E : St → XK) (ta : TE) (t : TA) : TE := fun σ H Q => ta σ H fun x H1 => ∃ a dx fs, x = .ref a ∧ H1 a = some (.ins C dx fs) ∧ fs.lookup m = none ∧ t σ H1 fun vs H2 => sp (x :: vs) H2 Q (E σ)
section
variable {X : Cx} {CX : CXT} {k : Nat} {f C : Addr} {fd : FuncData} {ps : List Str} {sp : Sp} {E : St → XK} {m : Str} {pos apos : Pos} {e o : Expr} {es : List Expr} {ta : TE} {t : TA}
theorem pe_methW {pl : Sem Bool} (he : PE X o ta) (c : Cls X.K C) (hm : Meth X.K C m f) (F : FnOk X.prog X.w X.K X.mg X.base CX k f fd ps sp) (hr : Room k X.A) (hb : Binds X.K fd ps []) (hx : ∀ σ, PassesAt CX X σ (E σ)) (ha : PA X (e :: es) t)
    (hst : starEach (e :: es) X.env = (false, eval e X.env) :: starEach es X.env := by rfl) (hpl : (backTo pos (starEach es X.env)).any (·.1) = false := by rfl)
    (ht : eval (.Call (.Attribute o m apos) (e :: es) [] pos) X.env = (do
      let ov ← eval o X.env
      standAt apos.atName
      let (f, first) ← holding [ov] (getMethod ov m pl)
      callWith pos f first (backTo pos (starEach (e :: es) X.env)) (backToKw pos (keywordEach [] X.env))) := by rfl) :
    PE X (.Call (.Attribute o m apos) (e :: es) [] pos) (tMethW C m sp E ta t) := by
  constructor
  intro pins s σ H Q I h
  refine PySem.W.methodCall_KW (pl := pl) (thn (he.run pins s σ H _ I h) fun u s1 hh => ?_) ht
  obtain ⟨x, H1, I1, rx, a, dx, fs, ex, ea, l, q⟩ := hh
  subst ex
  obtain rfl : u = Value.ref a := rx
  refine getmeth_ok I1 ea c hm l ?_
  refine PySem.W.callWith_K (first := [.ref a]) (h₀ := X.base) I.ok.mod.kin hm.kp (thn (ha.run pos pins s1 σ H1 _ I1 q) fun us s2 hh2 => ?_) hst hpl
  obtain ⟨vs, H2, I2, r, q2⟩ := hh2
  exact ⟨I2.kIn, run_fnS (us := .ref a :: us) (vs := .ref a :: vs) F hr hb (hx σ) I2 (.cons rfl r) q2⟩
end
end L2

set_option Elab.async false
set_option linter.all false
set_option maxRecDepth 100000
set_option maxHeartbeats 2000000
/-! x op y, the class of x knows nothing of y (NotImplemented), the class of y has the reflected method -/
namespace PySem.OwnOps
open PySem PySem.W PySem.Calls
theorem refl_own {prog : Program} {w : World} {A : Around} {E : Value → Shared → Prop} {s : Shared} {K : Frag} {x y C D f g p q : Addr} {ox oy : Obj} {od od2 : Option Obj} {op : Operator} {Q : Value → Shared → Prop} {J : Shared → Prop}
    (X : K.In s.heap) (I : InstAt s.heap x ox C od) (I2 : InstAt s.heap y oy D od2) (hne : D ≠ C)
    (hc : selfFirst K C = true) (hcD : selfFirst K D = true) (hs : findIn K (.ref C) (PySem.dunder op.info.2) = some (some (.ref f))) (hf : isFn K (.ref f) = true) (hr : findIn K (.ref C) (dunderR op.info.2) = some (some (.ref q)))
    (hsD : findIn K (.ref D) (PySem.dunder op.info.2) = some (some (.ref p))) (hrD : findIn K (.ref D) (dunderR op.info.2) = some (some (.ref g))) (hg : isFn K (.ref g) = true) (hsub : subIn K (.ref D) (.ref C) = some false)
    (h1 : wpAny (model prog w) A (call (.ref f) [.ref x, .ref y]) (fun v s' => v = .notImplemented ∧ J s') E s)
    (h2 : ∀ s', J s' → K.In s'.heap ∧ (∃ ox od, InstAt s'.heap x ox C od) ∧ (∃ oy od, InstAt s'.heap y oy D od) ∧ wpAny (model prog w) A (call (.ref g) [.ref y, .ref x]) (W.CmpBack Q) E s') :
    wpAny (model prog w) A (binaryOp op (.ref x) (.ref y)) Q E s := by
  obtain ⟨cd, rest, hcd, hm⟩ := ksp_first hc
  obtain ⟨cd2, rest2, hcd2, hm2⟩ := ksp_first hcD
  rcases hi : op.info with ⟨sym, nm'⟩
  rw [hi] at hs hr hsD hrD
  dsimp only at hs hr hsD hrD
  have one : wpAny (model prog w) A (tryMethod (.ref x) (PySem.dunder nm') (.ref y)) (fun r s' => r = none ∧ J s') E s := by
    unfold tryMethod
    refine wpAny_bind (special_fn X I hs (beq_iff_eq.mp hf) (wpAny_mono h1 (fun v s' hv => ?_) fun _ _ e => e))
    obtain ⟨rfl, j⟩ := hv
    exact wpAny_pure ⟨rfl, j⟩
  obtain ⟨hh, gg, d, tt, os⟩ := s
  have L1 : Looks (model prog w) hh (typeOf (.ref x)) (.ref C) := I.type
  have L2 : Looks (model prog w) hh (typeOf (.ref y)) (.ref D) := I2.type
  have L3 : Looks (model prog w) hh (fillsNumberSlot (.ref C) nm') true := fills_K X hcd hm hs
  have L4 : Looks (model prog w) hh (fillsNumberSlot (.ref D) nm') true := fills_K X hcd2 hm2 hsD
  have L5 : Looks (model prog w) hh (isSubtype (.ref D) (.ref C)) false := looks_subIn X hsub
  have L6 : Looks (model prog w) hh (numberSlotInPython (.ref C) nm') true := ksp_inPy X hs hr (.inr ⟨_, rfl⟩)
  have L7 : Looks (model prog w) hh (numberSlotInPython (.ref D) nm') true := ksp_inPy X hsD hrD (.inr ⟨_, rfl⟩)
  have hne' : (Value.ref C == Value.ref D) = false := Bool.eq_false_iff.mpr fun q => by
    have := beq_iff_eq.mp q
    injection this with e
    exact hne e.symm
  simp only [binaryOp, hi]
  refine wpAny_holding (wpAny_bind ?_)
  unfold binaryOp1
  refine wpAny_bind (L1.at (wpAny_bind (L2.at (wpAny_bind (L3.at ?_)))))
  simp only [hne', Bool.false_eq_true, if_false]
  ksp_lk
  refine wpAny_mono one (fun r s' hr' => ?_) fun _ _ e => e
  obtain ⟨rfl, j⟩ := hr'
  obtain ⟨X', ⟨ox', od', I'⟩, ⟨oy', od2', I2'⟩, h3⟩ := h2 s' j
  have two := ksp_try X' I2' hrD hg h3
  obtain ⟨hh', g', d', t', os'⟩ := s'
  have M1 : Looks (model prog w) hh' (typeOf (.ref x)) (.ref C) := I'.type
  have M2 : Looks (model prog w) hh' (typeOf (.ref y)) (.ref D) := I2'.type
  ksp_lk
  simp only [hne', Bool.false_eq_true, if_false]
  ksp_lk
  refine wpAny_mono two (fun r s' hr' => ?_) fun _ _ e => e
  obtain ⟨v, rfl, hq⟩ := hr'
  ksp_lk
  exact hq
end PySem.OwnOps

set_option Elab.async false
set_option linter.all false
set_option maxRecDepth 100000
set_option maxHeartbeats 2000000
/-! a def that begins with 'if test: return NotImplemented', where the test holds -/
namespace L2
open PySem PySem.Spec PyProof.Rows
/-- what such a call comes to -/
def NR (outer : List Env) (P : Program) (w : World) (H : Hp) (s : Shared) (E : XK) : Result → Shared → Prop
  | .ok (.ret v), s' => v = .notImplemented ∧ ∃ H', Same H H' ∧ s'.os = s.os ∧ AllBare s'.gens ∧ Un (frs outer) [] H H' s.heap s'.heap ∧ HOk P w H' s'.heap
  | .ok _, _ => False
  | .error e, s' => CX0 outer H s E e s'
section
variable {P : Program} {w : World} {K : PySem.W.Frag} {mg : Str → Option Value} {base : Heap} {k : Nat} {f : Addr} {N ps : List Str}
theorem FunD.ni {x qual : Str} {params : Arguments} {rest : List Stmt} {scope : Scope} {fd : FuncData} {test : Expr} {p1 p2 p3 : Pos} (F : FunD K x qual params (.If test [.Return (some (.Name "NotImplemented" p1)) p2] [] p3 :: rest) scope [] [] f fd) (S : FnScope N ps scope)
    (hm : mg "NotImplemented" = none) (hg : ∀ (cdv : Value) (A : Around) (outer : List Env) (s : Shared) (H : Hp) (E : XK), Gl (cxOf CX0 P w K mg base N qual scope f cdv A outer s H E) "NotImplemented")
    {vs : List V} {H : Hp} (lv : vs.length = ps.length)
    (walk : ∀ (cdv : Value) (A : Around) (outer : List Env) (s : Shared) (E : XK), Room k (A.deeper (envOfC qual scope s.heap.objs.size f cdv)) →
      ∃ t, PT (cxOf CX0 P w K mg base N qual scope f cdv A outer s H E) test t ∧ t (start N vs) H (fun c H' => c = true ∧ Same H H')) :
    ∀ (A : Around) (outer : List Env) (s : Shared) (args : Args) (us : List Value) (E : XK), Room (k + 1) A → Env0 P w K mg base A outer s H → BindsTo s fd args (ps.zip us) → Vals vs us → codeAny (model P w) A (.call (.ref f) args) (NR outer P w H s E) s := by
  obtain ⟨oc, od, dV, kV, doc, pm, an, cdv, ct, osl, rfl, at_, code, _, _⟩ := F.ex
  intro A outer s args us E room env bd rv
  have inK : K.In s.heap := env.mod.kin.keeps fun b o e => (env.bs b o e).1
  refine codeAny_call_function room.depth (inK _ _ at_) rfl S.co S.gen rfl (PySem.W.codeRec_of inK code) (bd _ _ _ _ ?_)
  have kinds : ∀ y ∈ ps.zip us, scope.names.lookup y.1 = some .local ∨ (scope.names.lookup y.1 = some .cell ∧ ((cellsFrom (s.heap.objs.size + 1) scope.names []).lookup y.1).isSome = true) := by
    rintro ⟨n, v⟩ hy
    exact (S.par n (List.of_mem_zip hy).1).imp id fun q => ⟨q, PySem.W.cellsFrom_some _ _ _ (.inl q)⟩
  refine wpAny_newFunctionEnv_cells S.kind kinds fun e' he s1 inc => ?_
  subst he
  obtain ⟨t, body_, hq⟩ := walk cdv A outer s E (room.deeper _)
  have I0 := inv_start (CX := CX0) (E := E) S room.hd env lv rv inc
  refine ⟨(env.mod.nolimit.keeps fun b o e => (env.bs b o e).1).keeps inc.toInCall.keep, codeAny_func (wpAny_mono (Q := fun fl s' => fl = .ret .notImplemented ∧ ∃ σ' H', Same H H' ∧ Inv (cxOf CX0 P w K mg base N qual scope f cdv A outer s H E) [] σ' H' s') ?_ (fun fl s' hs => ?_) fun _ _ z => z)⟩
  · refine wpAny_execs_cons (wpAny_If (thn (body_.run [] s1 (start N vs) H _ I0 hq) fun d s2 hd => ?_))
    obtain ⟨H2, I2, rfl, s12⟩ := hd
    refine wpAny_execs_cons (wpAny_Return_some (ld_blt (u := .notImplemented) I2 (hg cdv A outer s H E) hm (by decide +kernel) ?_))
    exact ⟨rfl, _, H2, s12, I2⟩
  · obtain ⟨rfl, σ', H', s12, J⟩ := hs
    exact ⟨rfl, H', s12, J.os, J.bare, J.base, J.hok⟩
end
section
variable {X : Cx} {CX : CXT} {C D g q p : Addr} {fd : FuncData} {ps : List Str} {k : Nat} {sp : Sp} {E : XK}
/-- x op y: the class of x knows nothing of y, the class of y says the reflected method -/
theorem op_reflOwn {op : Operator} {f : Addr} {fdf : FuncData} {psf : List Str} {sx : V → V → Hp → Prop} (T : OwnC X.K C) (hcD : PySem.W.selfFirst X.K D = true) (hne : D ≠ C) (hs : PySem.W.findIn X.K (.ref C) (PySem.dunder op.info.2) = some (some (.ref f))) (hf : PySem.W.isFn X.K (.ref f) = true)
    (hr' : PySem.W.findIn X.K (.ref C) (dunderR op.info.2) = some (some (.ref q))) (hsD : PySem.W.findIn X.K (.ref D) (PySem.dunder op.info.2) = some (some (.ref p))) (hrD : PySem.W.findIn X.K (.ref D) (dunderR op.info.2) = some (some (.ref g))) (hgf : PySem.W.isFn X.K (.ref g) = true)
    (hsub : PySem.W.subIn X.K (.ref D) (.ref C) = some false)
    (ni : ∀ (x y : V) (H : Hp), sx x y H → ∀ (A : Around) (outer : List Env) (s : Shared) (args : Args) (us : List Value) (E : XK), Room k A → Env0 X.prog X.w X.K X.mg X.base A outer s H → BindsTo s fdf args (psf.zip us) → Vals [x, y] us → codeAny (model X.prog X.w) A (.call (.ref f) args) (NR outer X.prog X.w H s E) s)
    (hbf : Binds X.K fdf psf []) (lf : psf.length = 2)
    (F : FnOk X.prog X.w X.K X.mg X.base CX k g fd ps sp) (hr : Room k X.A) (hb : Binds X.K fd ps []) (hx : Passes CX X E) :
    OpR X (binaryOp op) (fun x y H Q => ∃ a dx fs b dy gs, x = .ref a ∧ y = .ref b ∧ H a = some (.ins C dx fs) ∧ H b = some (.ins D dy gs) ∧ sx x y H ∧ ∀ H', Same H H' → sp [y, x] H' Q E) := by
  intro pins s σ H x y v u Q I rx ry h
  obtain ⟨a, dx, fs, b, dy, gs, rfl, rfl, ha, hb', hsx, z⟩ := h
  cases (show v = Value.ref a from rx)
  cases (show u = Value.ref b from ry)
  obtain ⟨mA, O, _⟩ := ins_get I.hok ha
  obtain ⟨od, J, _⟩ := O.look
  obtain ⟨mB, O', _⟩ := ins_get I.hok hb'
  obtain ⟨od', J', _⟩ := O'.look
  have r2 : Vals [V.ref a, .ref b] [Value.ref a, .ref b] := .cons rfl (.cons rfl .nil)
  have bd : BindsTo s fdf ⟨[Value.ref a, .ref b], []⟩ (psf.zip [Value.ref a, .ref b]) := by
    have b1 := hbf s [Value.ref a, .ref b] I.kIn (by rw [List.append_nil]; exact lf.symm)
    rw [List.append_nil] at b1
    exact b1
  refine PySem.OwnOps.refl_own (J := fun s' => ∃ H', Same H H' ∧ Inv X pins σ H' s') I.kIn J J' hne T.first hcD hs hf hr' hsD hrD hgf hsub ?_ ?_
  · refine wpAny_call (codeAny_mono (ni _ _ H hsx X.A X.stack s _ _ (fun _ _ _ => False) hr I.env0 bd r2) fun r s' hq => ?_)
    match r, hq with
    | .error e, hq => exact False.elim hq
    | .ok (.ret w), hq =>
      obtain ⟨rfl, H', s1, os, bare, un, hok⟩ := hq
      obtain ⟨hh, g', d, t, os'⟩ := s'
      obtain rfl : os' = s.os := os
      exact ⟨rfl, H', s1, I.call (h' := hh) (g' := g') (d' := d) (t' := t) (ch := []) un hok bare (fun b z => absurd z (by simp))⟩
    | .ok .next, hq => exact hq.elim
    | .ok .brk, hq => exact hq.elim
    | .ok .cont, hq => exact hq.elim
  · rintro s' ⟨H', s1, I1⟩
    obtain ⟨_, O1, _⟩ := ins_get I1.hok (s1 _ _ ha)
    obtain ⟨od1, J1, _⟩ := O1.look
    obtain ⟨_, O2, _⟩ := ins_get I1.hok (s1 _ _ hb')
    obtain ⟨od2, J2, _⟩ := O2.look
    refine ⟨I1.kIn, ⟨_, _, J1⟩, ⟨_, _, J2⟩, ?_⟩
    refine wpAny_mono (run_fn (us := [.ref b, .ref a]) (vs := [.ref b, .ref a]) F hr hb .nil hx I1 (.cons rfl (.cons rfl .nil)) (z H' s1)) (fun w s' z => ?_) fun _ _ x => x
    obtain ⟨z', H2, I', rz, qz⟩ := z
    exact backs rz ⟨z', H2, I', rz, qz⟩
end
end L2

set_option Elab.async false
set_option linter.all false
set_option maxRecDepth 100000
set_option maxHeartbeats 2000000
/-! x op y of two classes of one's own, by the left one's method; zip of two tuples -/
namespace PySem.OwnOps
open PySem PySem.W PySem.Calls
theorem left_own {prog : Program} {w : World} {A : Around} {E : Value → Shared → Prop} {s : Shared} {K : Frag} {x y C D f p q q2 : Addr} {ox oy : Obj} {od od2 : Option Obj} {op : Operator} {Q : Value → Shared → Prop}
    (X : K.In s.heap) (I : InstAt s.heap x ox C od) (I2 : InstAt s.heap y oy D od2) (hne : D ≠ C)
    (hc : selfFirst K C = true) (hcD : selfFirst K D = true) (hs : findIn K (.ref C) (PySem.dunder op.info.2) = some (some (.ref f))) (hf : isFn K (.ref f) = true) (hr : findIn K (.ref C) (dunderR op.info.2) = some (some (.ref q)))
    (hsD : findIn K (.ref D) (PySem.dunder op.info.2) = some (some (.ref p))) (hrD : findIn K (.ref D) (dunderR op.info.2) = some (some (.ref q2))) (hsub : subIn K (.ref D) (.ref C) = some false)
    (h : wpAny (model prog w) A (call (.ref f) [.ref x, .ref y]) (W.CmpBack Q) E s) : wpAny (model prog w) A (binaryOp op (.ref x) (.ref y)) Q E s := by
  obtain ⟨cd, rest, hcd, hm⟩ := ksp_first hc
  obtain ⟨cd2, rest2, hcd2, hm2⟩ := ksp_first hcD
  rcases hi : op.info with ⟨sym, nm'⟩
  rw [hi] at hs hr hsD hrD
  dsimp only at hs hr hsD hrD
  have one := ksp_try X I hs hf h
  obtain ⟨hh, gg, d, tt, os⟩ := s
  have L1 : Looks (model prog w) hh (typeOf (.ref x)) (.ref C) := I.type
  have L2 : Looks (model prog w) hh (typeOf (.ref y)) (.ref D) := I2.type
  have L3 : Looks (model prog w) hh (fillsNumberSlot (.ref C) nm') true := fills_K X hcd hm hs
  have L4 : Looks (model prog w) hh (fillsNumberSlot (.ref D) nm') true := fills_K X hcd2 hm2 hsD
  have L5 : Looks (model prog w) hh (isSubtype (.ref D) (.ref C)) false := looks_subIn X hsub
  have L6 : Looks (model prog w) hh (numberSlotInPython (.ref C) nm') true := ksp_inPy X hs hr (.inr ⟨_, rfl⟩)
  have L7 : Looks (model prog w) hh (numberSlotInPython (.ref D) nm') true := ksp_inPy X hsD hrD (.inr ⟨_, rfl⟩)
  have hne' : (Value.ref C == Value.ref D) = false := Bool.eq_false_iff.mpr fun q => by
    have := beq_iff_eq.mp q
    injection this with e
    exact hne e.symm
  simp only [binaryOp, hi]
  refine wpAny_holding (wpAny_bind ?_)
  unfold binaryOp1
  refine wpAny_bind (L1.at (wpAny_bind (L2.at (wpAny_bind (L3.at ?_)))))
  simp only [hne', Bool.false_eq_true, if_false]
  ksp_lk
  refine wpAny_mono one (fun r s' hr' => ?_) fun _ _ e => e
  obtain ⟨v, rfl, hq⟩ := hr'
  ksp_lk
  exact hq
end PySem.OwnOps
namespace L2
open PySem PySem.Spec PyProof.Rows
section
variable {X : Cx} {CX : CXT} {C D g p q q2 : Addr} {fd : FuncData} {ps : List Str} {k : Nat} {sp : Sp} {E : XK}
theorem op_left {op : Operator} (T : PySem.W.selfFirst X.K C = true) (hcD : PySem.W.selfFirst X.K D = true) (hne : D ≠ C) (hs : PySem.W.findIn X.K (.ref C) (PySem.dunder op.info.2) = some (some (.ref g))) (hf : PySem.W.isFn X.K (.ref g) = true)
    (hr' : PySem.W.findIn X.K (.ref C) (dunderR op.info.2) = some (some (.ref q))) (hsD : PySem.W.findIn X.K (.ref D) (PySem.dunder op.info.2) = some (some (.ref p))) (hrD : PySem.W.findIn X.K (.ref D) (dunderR op.info.2) = some (some (.ref q2)))
    (hsub : PySem.W.subIn X.K (.ref D) (.ref C) = some false)
    (F : FnOk X.prog X.w X.K X.mg X.base CX k g fd ps sp) (hr : Room k X.A) (hb : Binds X.K fd ps []) (hx : Passes CX X E) :
    OpR X (binaryOp op) (fun x y H Q => ∃ a dx fs b dy gs, x = .ref a ∧ y = .ref b ∧ H a = some (.ins C dx fs) ∧ H b = some (.ins D dy gs) ∧ sp [x, y] H Q E) := by
  intro pins s σ H x y v u Q I rx ry h
  obtain ⟨a, dx, fs, b, dy, gs, rfl, rfl, ha, hb', z⟩ := h
  cases (show v = Value.ref a from rx)
  cases (show u = Value.ref b from ry)
  obtain ⟨mA, O, _⟩ := ins_get I.hok ha
  obtain ⟨od, J, _⟩ := O.look
  obtain ⟨mB, O', _⟩ := ins_get I.hok hb'
  obtain ⟨od', J', _⟩ := O'.look
  refine PySem.OwnOps.left_own I.kIn J J' hne T hcD hs hf hr' hsD hrD hsub ?_
  refine wpAny_mono (run_fn (us := [.ref a, .ref b]) (vs := [.ref a, .ref b]) F hr hb .nil hx I (.cons rfl (.cons rfl .nil)) z) (fun w s' z => ?_) fun _ _ x => x
  obtain ⟨z', H', I', rz, qz⟩ := z
  exact backs rz ⟨z', H', I', rz, qz⟩
end
theorem walk_zipT {K : PySem.W.Frag} {a b : Addr} {xs ys : List V} {n : Nat} (hn : n = min xs.length ys.length) : Walk (RZ.ItzT K a b) n (fun H => SqT K H a xs ∧ SqT K H b ys) (YPair (fun i => xs[i]?) (fun i => ys[i]?)) := by
  subst hn
  refine ⟨fun i _ hi q => ?_, fun _ q => ⟨xs, ys, q.1, q.2, by omega⟩, fun i H v H' _ q y => ?_⟩
  · have h1 : i < xs.length := by omega
    have h2 : i < ys.length := by omega
    exact ⟨xs, ys, xs[i], ys[i], q.1, q.2, by simp [h1], by simp [h2]⟩
  · obtain ⟨T, x, z, h1, h2, h3, h4, h5⟩ := y
    exact ⟨T, x, z, h1, h2, h3, h4 xs q.1, h5 ys q.2⟩
end L2

set_option Elab.async false
set_option linter.all false
set_option maxRecDepth 100000
set_option maxHeartbeats 4000000
/-! law k07: Question's sums, differences, products, quotients -/
namespace K6
open PySem L2 TL KG
abbrev sQAdd : Stmt := inClass (top 41) 2
abbrev sQSub : Stmt := inClass (top 41) 3
abbrev sQNeg : Stmt := inClass (top 41) 4
abbrev sQMul : Stmt := inClass (top 41) 5
abbrev sQRmul : Stmt := inClass (top 41) 6
abbrev sQOver : Stmt := inClass (top 41) 7
def kindOf : V → Kd
  | .int _ => .it
  | _ => .rt
theorem num_at {Cr Cg : Addr} {H : Hp} {v : V} {n : Fr} (h : NumP Cr H v n) : At Cr Cg H v (kindOf v) ∧ (kindOf v).num = true := by
  rcases h with ⟨rfl, _⟩ | ⟨p, rfl, r⟩
  · exact ⟨⟨_, rfl⟩, rfl⟩
  · exact ⟨⟨p, _, _, rfl, r⟩, rfl⟩
theorem kinds_at {Cr Cg : Addr} {H : Hp} {xs : List V} {ns : List Fr} (h : All2 (NumP Cr H) xs ns) : All2 (At Cr Cg H) xs (xs.map kindOf) ∧ ∀ k ∈ xs.map kindOf, k.num = true := by
  refine ⟨⟨(List.length_map ..).symm, fun i v k h1 h2 => ?_⟩, fun k hk => ?_⟩
  · rw [List.getElem?_map, h1] at h2
    cases h2
    have lt := (List.getElem?_eq_some_iff.mp h1).1
    exact (num_at (h.2 i v _ h1 (List.getElem?_eq_getElem (by rw [← h.1]; exact lt)))).1
  · obtain ⟨v, hv, rfl⟩ := List.mem_map.mp hk
    obtain ⟨i, hi⟩ := List.mem_iff_getElem?.mp hv
    have lt := (List.getElem?_eq_some_iff.mp hi).1
    exact (num_at (Cg := 0) (h.2 i v _ hi (List.getElem?_eq_getElem (by rw [← h.1]; exact lt)))).2
theorem good_of {n : Nat} {ks : List Kd} (l : ks.length = n) (h : ∀ k ∈ ks, k.num = true) : good n (some ks) = true := by
  rw [good_some, decide_eq_true l, Bool.true_and, List.all_eq_true]
  exact h
theorem rat_num {Cr : Addr} {H : Hp} {v : V} {n : Fr} (h : RatP Cr H v n) : NumP Cr H v n := let ⟨q, e, r⟩ := h; .inr ⟨q, e, r⟩
theorem same_made {C : Addr} {H : Hp} {x dx : Addr} (nx : H x = none) (nd : H dx = none) : Same H (upd (upd H dx (.own x)) x (.ins C dx [])) := fun b o e => by
  rw [upd_ne (ne_of_none e nx), upd_ne (ne_of_none e nd)]
  exact e
/-- a question is made of numbers -/
theorem make_end {K : PySem.W.Frag} {Cq Cg Cr Eq : Addr} {H : Hp} {g : Addr} {y : V} {as : List Ax} {xs : List V} {ns : List Fr} {Q : VK} {X : XK} (ga : GridAt Cg H g as) (r : Row H y xs) (al : All2 (NumP Cr H) xs ns) (ln : ns.length = (cellsL as).length) (l8 : ns.length ≤ 8)
    (k : ∀ q H', Same H H' → QAt Cq Cg Cr H' q as ns → Q (.ref q) H') : ∀ x dx, H x = none → H dx = none → dx ≠ x → spQInit K Cq Cg Cr Eq (.ref x :: ([.ref g, y] ++ [])) (upd (upd H dx (.own x)) x (.ins Cq dx [])) (fun v H2 => v = .non ∧ Q (.ref x) H2) X := by
  intro x dx nx nd ne
  have sm := same_made (C := Cq) nx nd
  have al2 : All2 (NumP Cr (upd (upd H dx (.own x)) x (.ins Cq dx []))) xs ns := al.imp fun _ _ z => NumP.same sm z
  obtain ⟨ka, kn⟩ := kinds_at (Cg := Cg) al2
  have lx := al.1
  exact ⟨x, dx, .ref g, y, rfl, upd_same, .inr ⟨g, as, rfl, ga.same sm, some (xs.map kindOf), ⟨xs, r.same sm, by rw [List.length_map]; omega, ka⟩, .inr ⟨good_of (by rw [List.length_map]; omega) kn, xs, ns, r.same sm, by omega, al2, fun H' fr qa => ⟨rfl, k x H' (Same.made nx nd fun b o e ne => fr b o ne e) qa⟩⟩⟩⟩
theorem Nb.s4 {n : Fr} (h : Nb n) : KR.Sz 4000 n.1 ∧ KR.Sz 4000 n.2 := ⟨h.t.mono (by decide), h.b.mono (by decide)⟩
def negF (n : Fr) : Fr := (-n.1, n.2)
theorem Nb.neg {n : Fr} (h : Nb n) : Nb (negF n) := ⟨h.low.neg, h.b, by unfold KR.Sz negF; rw [Int.natAbs_neg]; exact h.t⟩
def spQNeg (Cq Cg Cr : Addr) : Sp := fun vs H Q _ => ∃ p as ws, vs = [.ref p] ∧ QAt Cq Cg Cr H p as ws ∧ (∀ n ∈ ws, Nb n) ∧ ws.length = (cellsL as).length ∧ ws.length ≤ 8 ∧ ∀ r H', Same H H' → QAt Cq Cg Cr H' r as (ws.map negF) → Q (.ref r) H'
def spQMul (Cq Cg Cr : Addr) : Sp := fun vs H Q _ => ∃ p y as ws n, vs = [.ref p, y] ∧ QAt Cq Cg Cr H p as ws ∧ (∀ n ∈ ws, Nb n) ∧ NumP Cr H y n ∧ Nb n ∧ ws.length = (cellsL as).length ∧ ws.length ≤ 8 ∧ ∀ r H', Same H H' → QAt Cq Cg Cr H' r as (ws.map fun m => Rt.byF m n) → Q (.ref r) H'
section
variable {P : Program} {w : World} {K : PySem.W.Frag} {mg : Str → Option Value} {base : Heap} {Cg Cr Cq Eg Er Eq En B f g h : Addr} {fd gd hd : FuncData}
theorem scQNeg : FnScope ["self", "weight"] ["self"] (defScope sQNeg) := ⟨rfl, rfl, rfl, by decide +kernel, rfl, by decide +kernel, by decide +kernel⟩
theorem ok_qneg (F : FnP K "__neg__" "Question.__neg__" sQNeg [] f fd) (T : Txt K mg) (TQ : QTxt K mg Cg Cr Cq Eg Er Eq En B) (GQ : MkOk P w K mg base Cq (L2.CX P w) 6 ["self", "grid", "weights"] (spQInit K Cq Cg Cr Eq))
    (GN : MthOk P w K mg base Cr CX0 5 "__neg__" ["self"] (KR.spUn Cr fun t => -t)) : FnOk P w K mg base CX0 8 f fd ["self"] (spQNeg Cq Cg Cr) := by
  obtain ⟨fQ, fdQ, GQ, MQ, bQ⟩ := GQ
  obtain ⟨fN, fdN, GN, MN, bN⟩ := GN
  refine F.ok scQNeg (fun vs H Q X z => ?_) (fun cdv A outer s H vs Q X hr z => ?_)
  · obtain ⟨p, as, ws, rfl, _⟩ := z
    rfl
  · obtain ⟨p, as, ws, rfl, ⟨dx, g, wt, vs, e1, ga, ew, aw⟩, nb, ln, l8, k⟩ := z
    have hr5 : Room 5 (A.deeper (PyProof.Rows.envOfC "Question.__neg__" (defScope sQNeg) s.heap.objs.size f cdv)) := hr.mono (by decide)
    refine ⟨_, PSs.nox (pss_one (ps_ret (pe_make MQ GQ hr rfl TQ.mgQ bQ .nil passL (pa_cons (pe_fld (pv 0) rfl) (pa_cons
        (pe_lc (own := [("weight", 1)]) (g := gName 1) (tt := tYes) (by rfl) scQNeg.nd (pi_row (pe_fld (pv 0) rfl)) (blkOk_by (own := [("weight", 1)]) (N := ["self", "weight"]) (sc := defScope sQNeg) (by decide +kernel)) (fun _ _ _ _ _ => pg_name (i := 1) scQNeg.nd rfl (Or.inl rfl)) (fun _ _ _ _ _ => pts_nil)
          (fun _ _ _ _ _ => pe_un (un_negO MN.at_ MN.fn GN hr5 bN pass0) (pv 1))) pa_nil))))), ?_⟩
    refine ⟨_, rfl, p, Cq, dx, _, _, rfl, e1, TQ.cl, TQ.nG, qf_grid _ _, ?_⟩
    refine tLc_rowF (p := p) (xs := vs) rfl e1 TQ.cl TQ.nW (qf_weights _ _) ⟨wt, rfl, .inr ew⟩ fun J wk D nD => ?_
    refine lc_objs (fun H u n => RatP Cr H u (negF n)) ws aw.1.symm (fun s h => RatP.same s h) (fun s h => RatP.nl s h) wk nD (by have := aw.1; omega) (fun _ => by rfl) (fun j v n hv hn H' Q' s' h => ?_) (fun us H5 s5 e5 al5 => ?_)
    · obtain ⟨q, rfl, rq⟩ := (aw.2 j v n hv hn).same s'
      obtain ⟨dq, eq⟩ := id rq
      have m := nb n (List.mem_of_getElem? hn)
      exact ⟨_, rfl, q, dq, _, rfl, eq, q, n.1, n.2, rfl, rq, m.low, m.b.mono (by decide), fun r H2 s2 rr => h _ _ s2 ⟨r, rfl, rr⟩⟩
    · refine make_end (ga.same s5) ⟨D, rfl, .inl e5⟩ (ns := ws.map negF) ⟨by rw [al5.1, List.length_map], fun i v m h1 h2 => ?_⟩ (by rw [List.length_map]; exact ln) (by rw [List.length_map]; exact l8) fun q H6 s6 qa => k q H6 (s5.trans s6) qa
      rw [List.getElem?_map] at h2
      obtain ⟨n, hn, rfl⟩ := Option.map_eq_some_iff.mp h2
      exact rat_num (al5.2 i v n h1 hn)
theorem scQMul : FnScope ["self", "other", "weight"] ["self", "other"] (defScope sQMul) := ⟨rfl, rfl, rfl, by decide +kernel, rfl, by decide +kernel, by decide +kernel⟩
theorem ok_qmul (F : FnP K "__mul__" "Question.__mul__" sQMul [] f fd) (T : Txt K mg) (TQ : QTxt K mg Cg Cr Cq Eg Er Eq En B) (GQ : MkOk P w K mg base Cq (L2.CX P w) 6 ["self", "grid", "weights"] (spQInit K Cq Cg Cr Eq)) (GNum : GloOk P w K mg base CX0 2 "is_number" ["found"] (spNum Cr Cg))
    (GM : MthOk P w K mg base Cr CX0 6 "__mul__" ["self", "other"] (KR.spBin Cr KR.mulT KR.bb)) (GR : ∃ q, Meth K Cr "__rmul__" q) : FnOk P w K mg base CX0 8 f fd ["self", "other"] (spQMul Cq Cg Cr) := by
  obtain ⟨fQ, fdQ, GQ, MQ, bQ⟩ := GQ
  obtain ⟨fM, fdM, GM, MM, bM⟩ := GM
  obtain ⟨fN, fdN, GN, mN, kN, bN⟩ := GNum
  obtain ⟨fR, MR⟩ := GR
  refine F.ok scQMul (fun vs H Q X z => ?_) (fun cdv A outer s H vs Q X hr z => ?_)
  · obtain ⟨p, y, as, ws, n, rfl, _⟩ := z
    rfl
  · obtain ⟨p, y, as, ws, n, rfl, ⟨dx, g, wt, vs, e1, ga, ew, aw⟩, nb, ny, bn, ln, l8, k⟩ := z
    have hr2 : Room 2 (A.deeper (PyProof.Rows.envOfC "Question.__mul__" (defScope sQMul) s.heap.objs.size f cdv)) := hr.mono (by decide)
    have hr6 : Room 6 (A.deeper (PyProof.Rows.envOfC "Question.__mul__" (defScope sQMul) s.heap.objs.size f cdv)) := hr.mono (by decide)
    refine ⟨_, PSs.nox (pss_cons (ps_if (pt_not (pt_val (pe_call GN hr2 rfl mN kN bN .nil pass0 (pa_cons (pv 1) pa_nil)))) pss_never pss_nil)
      (pss_one (ps_ret (pe_make MQ GQ hr rfl TQ.mgQ bQ .nil passL (pa_cons (pe_fld (pv 0) rfl) (pa_cons
        (pe_lc (own := [("weight", 2)]) (g := gName 2) (tt := tYes) (by rfl) scQMul.nd (pi_row (pe_fld (pv 0) rfl)) (blkOk_by (own := [("weight", 2)]) (N := ["self", "other", "weight"]) (sc := defScope sQMul) (by decide +kernel)) (fun _ _ _ _ _ => pg_name (i := 2) scQMul.nd rfl (Or.inl rfl)) (fun _ _ _ _ _ => pts_nil)
          (fun _ _ _ _ _ => pe_op (OpR.or (op_same (op := .Mult) TQ.r.own MM.at_ MM.fn GM hr6 bM pass0) (op_instInt (op := .Mult) TQ.r.own MM.at_ MM.fn MR.at_ TQ.r.iMul TQ.r.iRmul GM hr6 bM pass0)) (pv 2) (pv 1))) pa_nil)))))), ?_⟩
    obtain ⟨ya, yn⟩ := num_at (Cg := Cg) ny
    refine ⟨_, rfl, y, kindOf y, rfl, ya, _, rfl, ?_⟩
    rw [yn]
    refine iteF (nx_ ?_)
    refine ⟨_, rfl, p, Cq, dx, _, _, rfl, e1, TQ.cl, TQ.nG, qf_grid _ _, ?_⟩
    refine tLc_rowF (p := p) (xs := vs) rfl e1 TQ.cl TQ.nW (qf_weights _ _) ⟨wt, rfl, .inr ew⟩ fun J wk D nD => ?_
    refine lc_objs (fun H u m => RatP Cr H u (Rt.byF m n)) ws aw.1.symm (fun s h => RatP.same s h) (fun s h => RatP.nl s h) wk nD (by have := aw.1; omega) (fun _ => by rfl) (fun j v m hv hm H' Q' s' h => ?_) (fun us H5 s5 e5 al5 => ?_)
    · obtain ⟨q, rfl, rq⟩ := (aw.2 j v m hv hm).same s'
      obtain ⟨dq, eq⟩ := id rq
      have mb := nb m (List.mem_of_getElem? hm)
      have ny' := NumP.same s' ny
      refine ⟨_, rfl, _, rfl, ?_⟩
      rcases ny' with ⟨rfl, h1⟩ | ⟨q2, rfl, rq2⟩
      · exact .inr ⟨q, dq, _, n.1, rfl, rfl, eq, q, _, m.1, m.2, n.1, n.2, rfl, rq, mb.low, .inl ⟨rfl, h1⟩, bn.low, mb.s4.1, mb.s4.2, bn.s4.1, bn.s4.2, fun r H2 s2 rr => h _ _ s2 ⟨r, rfl, rr⟩⟩
      · obtain ⟨dq2, eq2⟩ := id rq2
        exact .inl ⟨q, dq, _, q2, dq2, _, rfl, rfl, eq, eq2, q, _, m.1, m.2, n.1, n.2, rfl, rq, mb.low, .inr ⟨q2, rfl, rq2⟩, bn.low, mb.s4.1, mb.s4.2, bn.s4.1, bn.s4.2, fun r H2 s2 rr => h _ _ s2 ⟨r, rfl, rr⟩⟩
    · refine make_end (ga.same s5) ⟨D, rfl, .inl e5⟩ (ns := ws.map fun m => Rt.byF m n) ⟨by rw [al5.1, List.length_map], fun i v m h1 h2 => ?_⟩ (by rw [List.length_map]; exact ln) (by rw [List.length_map]; exact l8) fun q H6 s6 qa => k q H6 (s5.trans s6) qa
      rw [List.getElem?_map] at h2
      obtain ⟨m, hm, rfl⟩ := Option.map_eq_some_iff.mp h2
      exact rat_num (al5.2 i v m h1 hm)
end
end K6

set_option Elab.async false
set_option linter.all false
set_option maxRecDepth 100000
set_option maxHeartbeats 4000000
/-! T7: an exception that a call lets out of a list comprehension's element (one clause) -/
namespace L2
open PySem PySem.Spec PyProof.Rows
section
variable {X : Cx} {W : XK}
/-- what a call lets out in the element leaves the comprehension too: its variables are let go, the def's frame holds it -/
theorem passes_out (tk : Takes X fun cls d _ H => W cls d H) (hs : X.stack = X.env :: X.outer) (hf : X.env.frame = some X.env.locals)
    {pins : List (Addr × Obj)} {σ : St} {H3 : Hp} {s3 : Shared} {scope : Scope} {ce : Env} {fp : List Addr} {Qf : Value → Shared → Prop} {acc : Value}
    (I3 : Inv X pins σ H3 s3) (f3 : ∀ b ∈ fp, FpOk X pins H3 b ∧ b < s3.heap.objs.size) (hce : ce.frame = X.env.frame) (hC : ce.locals = s3.heap.objs.size) :
    Passes (CX X.prog X.w) ((X.blk s3 H3 scope ce fp).wish (notedBy (model X.prog X.w) X.A ce fun e s' => compEnds (model X.prog X.w) X.A X.xe none Qf acc ce (.error e) s')) W := by
  intro pn σb Hb sb e s' I c
  have I := I.unwish
  have x := XE.of_call (W := fun cls d _ H => W cls d H) I (fun _ _ _ h => h) c
  obtain ⟨a, _, _, _, _, rfl, fl, _⟩ := c
  obtain ⟨a', B, sI, pins', σ', H', cls, d, ea, J, nb, up, sky, na, os, ag, w⟩ := x
  cases ea
  have hfr : X.A.frames = some (X.env :: X.outer) := by rw [I3.ok.frames, hs]
  have fl' : HandSPX.FlyingZ B X.stack a (Zc cls d) s'.heap := by
    obtain ⟨_, _, _, oe, vs, T, oT, ts, he, _, hd, h1, _, _, hT, hdT, h3⟩ := fl
    rcases sky with ⟨_, _, _, oe', vs', he', _, hd', h1'⟩ | f | ⟨_, _, _, oe', vs', T', oT', ts', he', _, hd', h1', _, _, hT', hdT', h3'⟩
    · rw [he] at he'; cases he'
      rw [hd] at hd'; cases hd'
      rw [h1] at h1'; cases h1'
    · exact f
    · rw [he] at he'; cases he'
      rw [hd] at hd'; cases hd'
      rw [h1] at h1'; cases h1'
      rw [hT] at hT'; cases hT'
      rw [hdT] at hdT'; cases hdT'
      rw [h3] at h3'
      exact absurd h3' (by simp [rawInt])
  obtain ⟨fk, fn, ff, ft⟩ := fl'
  -- the ground without the comprehension's variables
  obtain ⟨B', hB'⟩ : ∃ B', B' = PySem.W.hideAll B [ce.locals] := ⟨_, rfl⟩
  have b1 : ∀ b o, B'.get? b = some o → B.get? b = some o ∧ b ≠ ce.locals := fun b o e => by
    rw [hB'] at e
    refine ⟨PySem.W.of_hideAll _ e, fun q => ?_⟩
    rw [PySem.W.hideAll_none _ (by rw [q]; exact List.mem_cons_self)] at e; cases e
  have bn : ∀ b, B.get? b = none → B'.get? b = none := fun b e => by
    cases q : B'.get? b with
    | none => rfl
    | some o =>
      have z := (b1 b o q).1
      rw [e] at z; cases z
  have flB : HandSPX.FlyingZ B' (X.env :: X.outer) a (Zc cls d) s'.heap := by
    rw [hs] at ff
    obtain ⟨oe, vs, T, oT, ts, he, hz, hd, h1, hnT, r⟩ := ft
    exact ⟨fun b o e => fk b o (b1 b o e).1, bn a fn, funFrames_none ff fun L hL => bn L (ff.mem hL).1, oe, vs, T, oT, ts, he, hz, hd, h1, bn T hnT, r⟩
  show wpAny _ _ (noteFrame (.ref a) ce) _ _ s'
  rw [noteFrame_env _ hce]
  refine HandSPX.looks_onZ Zc.steady hfr hf flB fun h1 hH up1 => ?_
  show CompFails _ _ _ _ _ _
  obtain ⟨m, hn, _⟩ := J.loc
  have hn : sI.heap.Ns ce.locals m := hn
  have hn1 : h1.Ns ce.locals m := hn.upToSlots (up.trans up1)
  refine ⟨m, hn1, fun h2 m2 hn2 sb2 => ?_⟩
  have sb2 : Heap.SameBut ce.locals h1 h2 := sb2
  have hH2 : HandSPX.HeldZ B' (X.env :: X.outer) a (Zc cls d) X.env.locals h2 := by
    obtain ⟨k1, k2, k3, oe, vs, T, oT, ts, he, hz, hd, h1', hnT, hTe, hT, hdT, h3⟩ := hH
    obtain ⟨oL, es, ep, hoL, hdL, _⟩ := hn1
    have nf : ∀ b o vs, h1.get? b = some o → o.data = .fields vs → b ≠ ce.locals := fun b o vs e hd q => by
      rw [q, hoL] at e; cases e
      rw [hdL] at hd; cases hd
    exact ⟨fun b o e => (sb2.2 b (b1 b o e).2).trans (k1 b o e), k2, Heap.FunFrames.sameBut sb2 hn2 k3, oe, vs, T, oT, ts, (sb2.2 a (nf a oe vs he hd)).trans he, hz, hd, h1', hnT, hTe, (sb2.2 T (nf T oT ts hT hdT)).trans hT, hdT, h3⟩
  unfold PySem.passOn
  obtain ⟨_, _, _, oe, vs, T, oT, ts, he, hz, hd, h1', _⟩ := id hH2
  refine wpAny_bind (wpAny_field he hd h1' ?_)
  rw [if_neg (show ¬ ((Value.ref T == Value.none) = true) from by simp)]
  rw [hce, hf]
  refine wpAny_bind (HandSPX.setFlight_onZ hH2 fun h4 hH4 up4 => ?_)
  have neC : ∀ {b o}, s3.heap.get? b = some o → b ∉ [ce.locals] := fun {b o} e hm => by
    rw [List.mem_singleton.mp hm, hC] at e
    exact absurd (Heap.lt_size e) (Nat.lt_irrefl _)
  have upx : (PySem.W.hideAll sI.heap [ce.locals]).UpToSlots h4 := fun b o e hnf => by
    have e0 := PySem.W.of_hideAll _ e
    have ne : b ≠ ce.locals := fun q => by
      rw [PySem.W.hideAll_none _ (by rw [q]; exact List.mem_cons_self)] at e; cases e
    obtain ⟨sl, e1⟩ := (up.trans up1) b o e0 hnf
    obtain ⟨sl2, e2⟩ := up4 b _ ((sb2.2 b ne).trans e1) hnf
    exact ⟨sl2, e2⟩
  have Jx : Inv X pins σ H' { sI with heap := PySem.W.hideAll sI.heap [ce.locals] } := by
    refine I3.call' (ch := fp) J.os ⟨fun b o e n hb hx => PySem.W.hideAll_get _ (J.base.keep b o e n hb hx) (neC e), fun b o e n hb hx => ?_, J.base.free, fun b o e hx => ?_, J.base.tups, J.base.frzs, J.base.tbls⟩
      (fun b o q => (J.hok b o q).stay (fun c u hc r => PySem.W.hideAll_get _ r fun hm => ?_) (fun _ r => r) fun _ _ r => r) J.bare
      fun b hb => ⟨(f3 b hb).1.2.2.2.1, (f3 b hb).1.2.1, (f3 b hb).1.2.2.2.2.1, (f3 b hb).1.2.2.2.2.2⟩
    · obtain ⟨sl, q⟩ := J.base.slot b o e n hb hx
      exact ⟨sl, PySem.W.hideAll_get _ q (neC e)⟩
    · obtain ⟨o', q⟩ := J.base.there b o e hx
      exact ⟨o', PySem.W.hideAll_get _ q (neC e)⟩
    · have z : H' ce.locals = none := J.free
      rw [← List.mem_singleton.mp hm] at z
      rcases hc with hc | hc
      · rw [hc, q] at z; cases z
      · rw [hc] at z; cases z
  refine wpAny_throw (tk _ _ ⟨a, B', _, pins, σ, H', cls, d, rfl, Jx, fun b o e hb => ?_, upx, .inr (.inr (by rw [hs]; exact hH4)), na, os, ag, w⟩)
  have e0 := PySem.W.of_hideAll _ e
  have ne : b ∉ [ce.locals] := fun q => by
    rw [PySem.W.hideAll_none _ q] at e; cases e
  rw [hB']
  exact PySem.W.hideAll_get _ (nb b o e0 hb) ne
end
end L2

set_option Elab.async false
set_option linter.all false
set_option maxRecDepth 100000
set_option maxHeartbeats 4000000
/-! T8: a list comprehension (one clause) whose element may let a call's exception out -/
namespace L2
open PySem PySem.Spec PyProof.Rows
section
variable {X : Cx} {W : XK}
theorem lc_coreX {pins : List (Addr × Obj)} {s : Shared} {σ : St} {H : Hp} {Q : VK} {elt tg iter : Expr} {ifs : List Expr} {scope : Scope} {own : List (Str × Nat)} {pos pos' : Pos} {wi : TI} {g : TG} {tt : TT} {te : TE} {Qf : Value → Shared → Prop}
    (tk : Takes X fun cls d _ H => W cls d H) (hs : X.stack = X.env :: X.outer) (hf : X.env.frame = some X.env.locals)
    (hc : X.calm = true) (hN : X.N.Nodup) (I : Inv X pins σ H s) (hi : PI X tg iter wi) (ok : BlkOk X.N X.env.scope scope own)
    (hg : ∀ (s : Shared) (H : Hp) (C : Addr) (cl : List (Str × Addr)) (fp : List Addr), PG (X.blk s H scope (compEnvC scope cl C X.env) fp) tg g) (ht : ∀ (s : Shared) (H : Hp) (C : Addr) (cl : List (Str × Addr)) (fp : List Addr), PTs (X.blk s H scope (compEnvC scope cl C X.env) fp) ifs tt)
    (he : ∀ (s : Shared) (H : Hp) (C : Addr) (cl : List (Str × Addr)) (fp : List Addr) (xe : Value → Shared → Prop), Passes (CX X.prog X.w) ((X.blk s H scope (compEnvC scope cl C X.env) fp).wish xe) W → PE ((X.blk s H scope (compEnvC scope cl C X.env) fp).wish xe) elt te)
    (hfs : ∀ x, foldedSetIterable iter X.env x = pure x)
    (h : tLc wi g tt te (own.map (·.2)) σ H Q)
    (hQ : ∀ D C s' m H', Inv X pins σ H' s' → Q (.ref D) H' → s'.heap.Ns C m → FpOk X pins H' C → ∀ h', Heap.SameBut C s'.heap h' → Qf (.ref D) { s' with heap := h' }) :
    wpAny (model X.prog X.w) X.A (comprehension (.ListComp elt [⟨tg, iter, ifs, 0⟩] scope pos) scope X.env pos' (newList []) false (eval iter X.env) none) Qf X.xe s := by
  have hfree : ∀ y ∈ scope.names, y.2 = .free → ∃ c, X.env.cells.lookup y.1 = some c := fun y hy e => by
    rcases ok.free y hy e with k | k
    · exact I.ok.has _ (.inl k)
    · exact I.ok.has _ (.inr k)
  refine comprehension_at (use := none) rfl hfs (closure_ok hfree) ok.kind (fun y hy e => by rw [ok.uniq y hy, e])
    (thn (hi.run pins s σ H _ I h) fun xv s1 hx => thn hx fun itv s2 h2 => ?_)
  obtain ⟨it, fp, tn, J, H2, e, I2, T, st2, f2, q⟩ := h2
  subst e
  refine wpAny_newObj_type (newEnv_comp ?_) (by show 0 ≤ sizeLine; decide)
  generalize hD : s2.heap.objs.size = D
  have hDn : H2 D = none := I2.hok.fresh (Nat.le_of_eq hD)
  obtain ⟨Wt, ⟨m0, w0⟩, turn⟩ := q D hDn
  generalize hs3 : ({ s2 with heap := s2.heap.push { cls := .type "list", data := .seq ([] : List Value).toArray } } : Shared) = s3
  have I3 : Inv X pins σ (upd H2 D (.lst [])) s3 := by
    rw [← hs3]
    refine I2.laid (t' := s2.toks) (fun b o e => Heap.get?_push_of_some _ e) (Nat.le_of_eq hD) ⟨Nat.zero_le _, [], 0, .nil, ?_⟩
    rw [← hD]
    exact Heap.get?_push_size _ rfl
  have h3 : s3.heap = s2.heap.push { cls := .type "list", data := .seq ([] : List Value).toArray } := by rw [← hs3]
  have f3 : ∀ b ∈ fp, FpOk X pins (upd H2 D (.lst [])) b ∧ b < s3.heap.objs.size := fun b hb => by
    obtain ⟨o, e, _⟩ := T.obj _ _ st2 b hb
    have hlt := Heap.lt_size e
    refine ⟨⟨?_, (f2 b hb).2⟩, by rw [h3, Heap.size_push]; exact Nat.lt_succ_of_lt hlt⟩
    rw [upd_ne (by rw [← hD]; exact Nat.ne_of_lt hlt)]
    exact (f2 b hb).1
  have st3 : tn 0 s3.heap := T.keep _ _ _ st2 fun b _ o e => by rw [h3]; exact Heap.get?_push_of_some _ e
  have I4 := block_start I3 ok hN f3
  generalize hcl : cellsFrom (s3.heap.objs.size + 1) scope.names (cloFrom X.env.cells scope.names []) = cls at I4
  have pg := hg s3 (upd H2 D (.lst [])) s3.heap.objs.size cls fp
  have pt := ht s3 (upd H2 D (.lst [])) s3.heap.objs.size cls fp
  have pe := he s3 (upd H2 D (.lst [])) s3.heap.objs.size cls fp _ (passes_out (Qf := Qf) (acc := .ref D) (scope := scope) (ce := compEnvC scope cls s3.heap.objs.size X.env) tk hs hf I3 f3 rfl rfl)
  show codeAny _ _ (.compStart (.ListComp elt [⟨tg, iter, ifs, 0⟩] scope pos) 0 (.ref it) (.ref D) (compEnvC scope cls s3.heap.objs.size X.env))
    (compEnds (model X.prog X.w) X.A X.xe none Qf (.ref D) (compEnvC scope cls s3.heap.objs.size X.env)) { s3 with heap := pushCells (s3.heap.push { cls := .type "dict", data := .dict #[] }) scope.names }
  have nfp : ∀ b ∈ fp, (upd H2 D (.lst [])) b = none := fun b hb => (f3 b hb).1.1
  generalize hce : compEnvC scope cls s3.heap.objs.size X.env = ce at I4 pg pt pe ⊢
  have cL : ce.locals = s3.heap.objs.size := by subst hce; rfl
  generalize hH3 : upd H2 D (.lst []) = H3 at I3 I4 pg pt pe w0 nfp f3
  generalize hs4 : ({ s3 with heap := pushCells (s3.heap.push { cls := .type "dict", data := .dict #[] }) scope.names } : Shared) = s4 at I4 ⊢
  have st4 : tn 0 s4.heap := T.keep _ _ _ st3 fun b _ o e => by rw [← hs4]; exact pushCells_keeps _ _ _ _ (Heap.get?_push_of_some _ e)
  have stat : ∀ {σ' : St} {H' : Hp} {s' : Shared}, Inv (X.blk s3 H3 scope ce fp) [] σ' H' s' → (∀ b ∈ fp, H' b = none) → ∀ b ∈ fp, FpOk (X.blk s3 H3 scope ce fp) [] H' b := fun {σ' H' s'} I' hn b hb =>
    ⟨hn b hb, (I'.ok.exf b hb).1, I'.ok.exfs b hb, .inl hb, fun x c e => (I'.ok.exf b hb).2 x c e, fun p hp => absurd (show p ∈ ([] : List (Addr × Obj)) ++ [] from hp) (by simp)⟩
  have loop : codeAny (model X.prog X.w) X.A (.compLoop (.ListComp elt [⟨tg, iter, ifs, 0⟩] scope pos) 0 (.ref it) (.ref D) ce) (compEnds (model X.prog X.w) X.A X.xe none Qf (.ref D) ce) s4 := by
    refine compLoop_any (fun n s' => ∃ i H', Inv (X.blk s3 H3 scope ce fp) [] (wipe σ (own.map (·.2))) H' s' ∧ tn i s'.heap ∧ (∀ b ∈ fp, H' b = none) ∧ Wt i n H') ?_ m0 ⟨0, H3, I4, st4, nfp, w0⟩
    rintro n s5 ⟨i, H5, I5, st5, n5, w5⟩
    rcases turn i n H5 w5 with ⟨stop, qq⟩ | ⟨go, Nx, hNx, step⟩
    · refine thnF (T.done (X.blk s3 H3 scope ce fp) rfl rfl rfl hc i [] s5 _ H5 (fun _ _ => False) I5 (stat I5 n5) st5 stop) fun r s6 ⟨hr, I6⟩ => ?_
      subst hr
      have I7 : Inv X pins σ H5 s6 := I3.call' (ch := fp) I6.os I6.base I6.hok I6.bare fun b hb => ⟨(f3 b hb).1.2.2.2.1, (f3 b hb).1.2.1, (f3 b hb).1.2.2.2.2.1, (f3 b hb).1.2.2.2.2.2⟩
      have nC : H5 s3.heap.objs.size = none := by
        have z : H5 ce.locals = none := I6.free
        rw [cL] at z
        exact z
      obtain ⟨m, hn, _⟩ := I6.loc
      have hn : s6.heap.Ns ce.locals m := hn
      refine ⟨m, hn, fun h' sb => ?_⟩
      rw [cL] at hn sb
      exact hQ D s3.heap.objs.size s6 m H5 I7 qq hn (I3.fpOk (Nat.le_refl _) nC) h' sb
    · refine thnF (T.item (X.blk s3 H3 scope ce fp) rfl rfl rfl hc i [] s5 _ H5 (fun _ _ => False) I5 (stat I5 n5) st5 go) fun r s6 ⟨u, hr, h6⟩ => ?_
      subst hr
      refine thnF h6 fun _ s7 ⟨x, H7, I7, r7, y7, st7, n7⟩ => ?_
      have I7' := I7.pinned (stat I7 n7) (T.obj _ _ st7)
      refine thnF (pg.run _ s7 _ H7 x u _ I7' r7 (step x H7 y7)) fun _ s8 ⟨σ8, H8, I8, hw8, q8⟩ => ?_
      refine thnF (pt.run _ s8 σ8 H8 _ I8 q8) fun b s9 ⟨H9, I9, q9⟩ => ?_
      have fin : ∀ {s' : Shared} {H' : Hp}, Inv (X.blk s3 H3 scope ce fp) ([] ++ pinsAt fp s7.heap) σ8 H' s' → Nx H' → ∃ m, m < n ∧ ∃ i H', Inv (X.blk s3 H3 scope ce fp) [] (wipe σ (own.map (·.2))) H' s' ∧ tn i s'.heap ∧ (∀ b ∈ fp, H' b = none) ∧ Wt i m H' := fun {s' H'} I' nx => by
        obtain ⟨m', hm, w'⟩ := hNx H' nx
        have pin' : ∀ b ∈ fp, ∀ o, s7.heap.get? b = some o → s'.heap.get? b = some o ∧ H' b = none := fun b hb o e =>
          let z := I'.pin (b, o) (List.mem_append_right _ (List.mem_append_right _ (mem_pinsAt hb e)))
          ⟨z.1, z.2.1⟩
        have hl : (wipe σ (own.map (·.2))).length = σ8.length := by rw [← hw8, wipe_length]
        refine ⟨m', hm, i + 1, H', (I'.unpinned (pins := [])).weak hl (fun j v e => ?_), T.keep _ _ _ st7 fun b hb o e => (pin' b hb o e).1, fun b hb => ?_, w'⟩
        · rw [← hw8] at e
          exact (wipe_some e).1
        · obtain ⟨o, e, _⟩ := T.obj _ _ st7 b hb
          exact (pin' b hb o e).2
      cases b with
      | false =>
        simp only [Bool.false_eq_true, if_false] at q9 ⊢
        exact fin I9 q9
      | true =>
        simp only [if_true] at q9 ⊢
        refine thn (pe.run _ s9 σ8 H9 _ (I9.wish _) q9) fun z s10 ⟨yv, H10, I10, r10, acc, hD10, hz10, nx⟩ => ?_
        exact app_ok (X := X.blk s3 H3 scope ce fp) I10.unwish hD10 hz10 r10 fun s11 I11 => fin I11 nx
  exact codeAny_compStart_list loop (T.self X.A 0 _ _ _ st4 loop)
/-- as a value -/
theorem pe_lcX {elt tg iter : Expr} {ifs : List Expr} {scope : Scope} {own : List (Str × Nat)} {pos : Pos} {wi : TI} {g : TG} {tt : TT} {te : TE} (tk : Takes X fun cls d _ H => W cls d H) (hs : X.stack = X.env :: X.outer) (hf : X.env.frame = some X.env.locals)
    (hc : X.calm = true) (hN : X.N.Nodup) (hi : PI X tg iter wi) (ok : BlkOk X.N X.env.scope scope own)
    (hg : ∀ (s : Shared) (H : Hp) (C : Addr) (cl : List (Str × Addr)) (fp : List Addr), PG (X.blk s H scope (compEnvC scope cl C X.env) fp) tg g) (ht : ∀ (s : Shared) (H : Hp) (C : Addr) (cl : List (Str × Addr)) (fp : List Addr), PTs (X.blk s H scope (compEnvC scope cl C X.env) fp) ifs tt)
    (he : ∀ (s : Shared) (H : Hp) (C : Addr) (cl : List (Str × Addr)) (fp : List Addr) (xe : Value → Shared → Prop), Passes (CX X.prog X.w) ((X.blk s H scope (compEnvC scope cl C X.env) fp).wish xe) W → PE ((X.blk s H scope (compEnvC scope cl C X.env) fp).wish xe) elt te)
    (hfs : ∀ x, foldedSetIterable iter X.env x = pure x := by intro _; rfl) :
    PE X (.ListComp elt [⟨tg, iter, ifs, 0⟩] scope pos) (tLc wi g tt te (own.map (·.2))) := by
  refine ⟨fun pins s σ H Q I h => ?_⟩
  rw [eval_ListComp]
  refine lc_coreX tk hs hf hc hN I hi ok hg ht he hfs h fun D C s' m H' I' q hn f h'' sb => ?_
  obtain ⟨f0, f1, f2, f3, f4, f5⟩ := f
  exact ⟨.ref D, H', I'.turned (t' := s'.toks) (fun b o hb e => (sb.2 b hb).trans e) f0 f1 f3 f4 f5, rfl, q⟩
end
end L2

set_option Elab.async false
set_option linter.all false
set_option maxRecDepth 100000
set_option maxHeartbeats 4000000
namespace K6
open PySem L2 TL KG
/-- what else is asked of the two classes, and of OtherGrid -/
structure OTx (K : PySem.W.Frag) (mg : Str → Option Value) (Cr Cq Eo : Addr) : Prop where
  own : OwnC K Cq
  rq : PySem.W.subIn K (.ref Cr) (.ref Cq) = some false
  qr : PySem.W.subIn K (.ref Cq) (.ref Cr) = some false
  ne : Cr ≠ Cq
  q : PySem.W.excIn K Eo [.type "ValueError", .type "Exception", .type "BaseException", .type "object"] "ValueError.__new__" = true
  mgO : mg "OtherGrid" = some (.ref Eo)
  kO : PySem.W.keepIn K (.ref Eo) = true
  ex : PySem.W.subIn K (.ref Eo) (.type "BaseException") = some true
  ty : PySem.W.typeIn K (.ref Eo) = some (.type "type")
def overF (m n : Fr) : Fr := (Rt.nrmT (m.1 * n.2) (m.2 * n.1), Rt.nrmB (m.1 * n.2) (m.2 * n.1))
def spQOver (Cq Cg Cr Er : Addr) : Sp := fun vs H Q X => ∃ p y as ws n, vs = [.ref p, y] ∧ QAt Cq Cg Cr H p as ws ∧ (∀ n ∈ ws, Nb n) ∧ NumP Cr H y n ∧ Nb n ∧ ws.length = (cellsL as).length ∧ ws.length ≤ 8 ∧ 1 ≤ ws.length ∧
  ((n.1 = 0 ∧ KR.Raised Er H X "zero") ∨ (n.1 ≠ 0 ∧ ∀ r H', Same H H' → QAt Cq Cg Cr H' r as (ws.map fun m => overF m n) → Q (.ref r) H'))
def sumQ (ws ms : List Fr) : List Fr := List.zipWith Rt.plusF ws ms
def spQAdd (Cq Cg Cr Eo : Addr) : Sp := fun vs H Q X => ∃ p q as bs ws ms, vs = [.ref p, .ref q] ∧ QAt Cq Cg Cr H p as ws ∧ QAt Cq Cg Cr H q bs ms ∧ AxOk as ∧ AxOk bs ∧
  ((as ≠ bs ∧ ∀ H', Same H H' → X (.ref Eo) none H') ∨ (as = bs ∧ (∀ n ∈ ws, Nb n) ∧ (∀ n ∈ ms, Nb n) ∧ ws.length = (cellsL as).length ∧ ms.length = (cellsL as).length ∧ ws.length ≤ 8 ∧ ∀ r H', Same H H' → QAt Cq Cg Cr H' r as (sumQ ws ms) → Q (.ref r) H'))
section
variable {P : Program} {w : World} {K : PySem.W.Frag} {mg : Str → Option Value} {base : Heap} {Cg Cr Cq Eg Er Eq En Eo B f g h : Addr} {fd gd hd : FuncData}
theorem scQRmul : FnScope ["self", "other"] ["self", "other"] (defScope sQRmul) := ⟨rfl, rfl, rfl, by decide +kernel, rfl, by decide +kernel, by decide +kernel⟩
theorem ok_qrmul (F : FnP K "__rmul__" "Question.__rmul__" sQRmul [] f fd) (TQ : QTxt K mg Cg Cr Cq Eg Er Eq En B) (O : OTx K mg Cr Cq Eo) (GM : MthOk P w K mg base Cq CX0 8 "__mul__" ["self", "other"] (spQMul Cq Cg Cr)) (GR : ∃ q, Meth K Cq "__rmul__" q) (RM : ∃ q, Meth K Cr "__mul__" q) (RR : ∃ q, Meth K Cr "__rmul__" q) :
    FnOk P w K mg base CX0 9 f fd ["self", "other"] (spQMul Cq Cg Cr) := by
  obtain ⟨fM, fdM, GM, MM, bM⟩ := GM
  obtain ⟨fR, MR⟩ := GR
  obtain ⟨f1, M1⟩ := RM
  obtain ⟨f2, M2⟩ := RR
  refine F.ok scQRmul (fun vs H Q X z => ?_) (fun cdv A outer s H vs Q X hr z => ?_)
  · obtain ⟨p, y, as, ws, n, rfl, _⟩ := z
    rfl
  · obtain ⟨p, y, as, ws, n, rfl, qp, z⟩ := z
    refine ⟨_, PSs.nox (pss_one (ps_ret (pe_op (OpR.or (op_left (op := .Mult) (C := Cq) (D := Cr) O.own.first TQ.r.own.first O.ne MM.at_ MM.fn MR.at_ M1.at_ M2.at_ O.rq GM hr bM pass0) (op_instInt (op := .Mult) O.own MM.at_ MM.fn MR.at_ TQ.r.iMul TQ.r.iRmul GM hr bM pass0)) (pv 0) (pv 1)))), ?_⟩
    obtain ⟨dx, g, wt, vs, e1, _⟩ := id qp
    obtain ⟨nb, ny, z⟩ := z
    refine ⟨_, rfl, _, rfl, ?_⟩
    rcases id ny with ⟨rfl, h1⟩ | ⟨q2, rfl, dq2, eq2⟩
    · exact .inr ⟨p, dx, _, n.1, rfl, rfl, e1, p, _, as, ws, n, rfl, qp, nb, ny, z⟩
    · exact .inl ⟨p, dx, _, q2, dq2, _, rfl, rfl, e1, eq2, p, _, as, ws, n, rfl, qp, nb, ny, z⟩
theorem scQOver : FnScope ["self", "number", "weight"] ["self", "number"] (defScope sQOver) := ⟨rfl, rfl, rfl, by decide +kernel, rfl, by decide +kernel, by decide +kernel⟩
theorem no_over (t b : Int) : (KR.flds t b).lookup ("over" : Str) = none := KR.flds_no t b (by decide +kernel) (by decide +kernel)
theorem ok_qover (F : FnP K "over" "Question.over" sQOver [] f fd) (T : Txt K mg) (TQ : QTxt K mg Cg Cr Cq Eg Er Eq En B) (GQ : MkOk P w K mg base Cq (L2.CX P w) 6 ["self", "grid", "weights"] (spQInit K Cq Cg Cr Eq))
    (GO : MthOk P w K mg base Cr (L2.CX P w) 6 "over" ["self", "number"] (KR.spOver Cr Er)) : FnOk P w K mg base (L2.CX P w) 8 f fd ["self", "number"] (spQOver Cq Cg Cr Er) := by
  obtain ⟨fQ, fdQ, GQ, MQ, bQ⟩ := GQ
  obtain ⟨fO, fdO, GO, MO, bO⟩ := GO
  refine F.ok scQOver (fun vs H Q X z => ?_) (fun cdv A outer s H vs Q X hr z => ?_)
  · obtain ⟨p, y, as, ws, n, rfl, _⟩ := z
    rfl
  · obtain ⟨p, y, as, ws, n, rfl, ⟨dx, g, wt, vs, e1, ga, ew, aw⟩, nb, ny, bn, ln, l8, l1, z⟩ := z
    have hr6 : Room 6 (A.deeper (PyProof.Rows.envOfC "Question.over" (defScope sQOver) s.heap.objs.size f cdv)) := hr.mono (by decide)
    refine ⟨_, pss_one (ps_ret (pe_make MQ GQ hr rfl TQ.mgQ bQ .nil passL (pa_cons (pe_fld (pv 0) rfl) (pa_cons
        (pe_lcX (W := X) (takes_of rfl rfl rfl rfl) rfl rfl (own := [("weight", 2)]) (g := gName 2) (tt := tYes) (by rfl) scQOver.nd (pi_row (pe_fld (pv 0) rfl)) (blkOk_by (own := [("weight", 2)]) (N := ["self", "number", "weight"]) (sc := defScope sQOver) (by decide +kernel)) (fun _ _ _ _ _ => pg_name (i := 2) scQOver.nd rfl (Or.inl rfl)) (fun _ _ _ _ _ => pts_nil)
          (fun _ _ _ _ _ _ hp => show PE _ _ (tMeth Cr "over" (KR.spOver Cr Er) [] X (tVar 2) (tCons (tVar 1) tNil)) from pe_meth (pv 2) TQ.r.cl MO GO hr6 bO .nil hp (pa_cons (pv 1) pa_nil))) pa_nil)))), ?_⟩
    refine ⟨_, rfl, p, Cq, dx, _, _, rfl, e1, TQ.cl, TQ.nG, qf_grid _ _, ?_⟩
    refine tLc_rowF (p := p) (xs := vs) rfl e1 TQ.cl TQ.nW (qf_weights _ _) ⟨wt, rfl, .inr ew⟩ fun J wk D nD => ?_
    refine lc_objs (fun H u m => n.1 ≠ 0 ∧ RatP Cr H u (overF m n)) ws aw.1.symm (fun s h => ⟨h.1, RatP.same s h.2⟩) (fun s h => ⟨h.1, RatP.nl s h.2⟩) wk nD (by have := aw.1; omega) (fun _ => by rfl) (fun j v m hv hm H' Q' s' h => ?_) (fun us H5 s5 e5 al5 => ?_)
    · obtain ⟨q, rfl, rq⟩ := (aw.2 j v m hv hm).same s'
      obtain ⟨dq, eq⟩ := id rq
      have mb := nb m (List.mem_of_getElem? hm)
      refine ⟨_, rfl, q, dq, _, rfl, eq, no_over _ _, _, rfl, q, _, m.1, m.2, n.1, n.2, rfl, rq, mb.low, NumP.same s' ny, bn.low, mb.s4.1, mb.s4.2, bn.s4.1, bn.s4.2, ?_⟩
      rcases z with ⟨e, r⟩ | ⟨e, k⟩
      · exact .inl ⟨e, fun d H2 s2 hd => r d H2 (s'.trans s2) hd⟩
      · exact .inr ⟨e, fun r H2 s2 rr => h _ _ s2 ⟨e, r, rfl, rr⟩⟩
    · rcases z with ⟨e, r⟩ | ⟨e, k⟩
      · obtain ⟨u, _, h, _⟩ := all2_get al5 (show 0 < ws.length by omega)
        exact (h e).elim
      · refine make_end (ga.same s5) ⟨D, rfl, .inl e5⟩ (ns := ws.map fun m => overF m n) ⟨by rw [al5.1, List.length_map], fun i v m h1 h2 => ?_⟩ (by rw [List.length_map]; exact ln) (by rw [List.length_map]; exact l8) fun q H6 s6 qa => k q H6 (s5.trans s6) qa
        rw [List.getElem?_map] at h2
        obtain ⟨m, hm, rfl⟩ := Option.map_eq_some_iff.mp h2
        exact rat_num (al5.2 i v m h1 hm).2
theorem scQAdd : FnScope ["self", "other", "one", "two"] ["self", "other"] (defScope sQAdd) := ⟨rfl, rfl, rfl, by decide +kernel, rfl, by decide +kernel, by decide +kernel⟩
theorem ok_qadd (F : FnP K "__add__" "Question.__add__" sQAdd [] f fd) (T : Txt K mg) (TQ : QTxt K mg Cg Cr Cq Eg Er Eq En B) (O : OTx K mg Cr Cq Eo) (hne : PySem.W.findIn K (.ref Cg) "__ne__" = some (some (.builtin "object.__ne__")))
    (GQ : MkOk P w K mg base Cq (L2.CX P w) 6 ["self", "grid", "weights"] (spQInit K Cq Cg Cr Eq)) (GG : MthOk P w K mg base Cg CX0 1 "__eq__" ["self", "other"] (spEq K Cg))
    (GA : MthOk P w K mg base Cr CX0 6 "__add__" ["self", "other"] (KR.spBin Cr KR.addT KR.bb)) : FnOk P w K mg base (L2.CX P w) 8 f fd ["self", "other"] (spQAdd Cq Cg Cr Eo) := by
  obtain ⟨fQ, fdQ, GQ, MQ, bQ⟩ := GQ
  obtain ⟨fG, fdG, GG, MG, bG⟩ := GG
  obtain ⟨fA, fdA, GA, MA, bA⟩ := GA
  refine F.ok scQAdd (fun vs H Q X z => ?_) (fun cdv A outer s H vs Q X hr z => ?_)
  · obtain ⟨p, q, as, bs, ws, ms, rfl, _⟩ := z
    rfl
  · obtain ⟨p, q, as, bs, ws, ms, rfl, qp, qq, oa, ob, z⟩ := z
    have hr6 : Room 6 (A.deeper (PyProof.Rows.envOfC "Question.__add__" (defScope sQAdd) s.heap.objs.size f cdv)) := hr.mono (by decide)
    have hr2 : Room 2 (A.deeper (PyProof.Rows.envOfC "Question.__add__" (defScope sQAdd) s.heap.objs.size f cdv)) := hr.mono (by decide)
    refine ⟨_, pss_cons (ps_if (pt_not (pt_val (pe_callB call_isi (by rfl) T.isinst (by decide +kernel) (pa_cons (pv 1) (pa_cons (pe_glob (v := .ref Cq) (by rfl) TQ.mgQ rfl) pa_nil))))) pss_never pss_nil)
      (pss_cons (ps_if (pt_cmpR (op_neOwn hne TQ.g.cm MG.at_ MG.fn GG hr2 bG pass0) (pe_fld (pv 0) rfl) (pe_fld (pv 1) rfl) (nomark _)) (pss_one (ps_raise rfl (takes_of rfl rfl rfl rfl) (pmk_own0 PySem.F.excBase_ValueError O.q O.mgO O.kO (raises_own O.ex O.ty) (by rfl)))) pss_nil)
      (pss_one (ps_ret (pe_make MQ GQ hr rfl TQ.mgQ bQ .nil passL (pa_cons (pe_fld (pv 0) rfl) (pa_cons
        (pe_lc (own := [("one", 2), ("two", 3)]) (g := gTup K 2 (gCons (gName 2) (gCons (gName 3) gNil))) (tt := tYes) (by rfl) scQAdd.nd (RZ.pi_zipA rfl T.zip (pa_cons (pe_fld (pv 0) rfl) (pa_cons (pe_fld (pv 1) rfl) pa_nil))) (blkOk_by (own := [("one", 2), ("two", 3)]) (N := ["self", "other", "one", "two"]) (sc := defScope sQAdd) (by decide +kernel))
          (fun _ _ _ _ _ => pg_tup (by rfl) (pgs_cons (pg_name (i := 2) scQAdd.nd rfl (Or.inl rfl)) (pgs_cons (pg_name (i := 3) scQAdd.nd rfl (Or.inl rfl)) pgs_nil))) (fun _ _ _ _ _ => pts_nil)
          (fun _ _ _ _ _ => pe_op (op_same (op := .Add) TQ.r.own MA.at_ MA.fn GA hr6 bA pass0) (pv 2) (pv 3))) pa_nil)))))), ?_⟩
    have tq := ty_q TQ qq
    obtain ⟨dx, g1, w1, v1, e1, a1, c1, l1⟩ := qp
    obtain ⟨dy, g2, w2, v2, e2, a2, c2, l2⟩ := qq
    refine ⟨_, rfl, .ref q, .ref Cq, .ref Cq, _, true, rfl, .own Cq, tq, KR.kit_self, true, rfl, iteF (nx_ ?_)⟩
    refine sq ?_
    obtain ⟨dg, va, vc, eg, _⟩ := id a1
    refine ⟨_, rfl, p, Cq, dx, _, _, rfl, e1, TQ.cl, TQ.nG, qf_grid _ _, _, rfl, q, Cq, dy, _, _, rfl, e2, TQ.cl, TQ.nG, qf_grid _ _, ?_⟩
    refine ⟨g1, dg, _, .ref Cg, rfl, eg, ty_grid TQ.g a2, nf_self, g1, _, as, rfl, a1, oa, .inl ⟨g2, bs, rfl, a2, ob, fun r hr' => ⟨r, rfl, _, rfl, ?_⟩⟩⟩
    rcases z with ⟨ne, k⟩ | ⟨rfl, nw, nm, lw, lm, l8, k⟩
    · cases r with
      | true => exact (ne (hr'.mp rfl)).elim
      | false => exact iteT (k H (Same.refl H))
    · rw [hr'.mpr rfl]
      refine iteF (nx_ ?_)
      refine ⟨_, rfl, p, Cq, dx, _, _, rfl, e1, TQ.cl, TQ.nG, qf_grid _ _, ?_⟩
      refine ⟨_, rfl, p, Cq, dx, _, _, rfl, e1, TQ.cl, TQ.nW, qf_weights _ _, _, rfl, q, Cq, dy, _, _, rfl, e2, TQ.cl, TQ.nW, qf_weights _ _, w1, w2, v1, v2, rfl, .inr ⟨SqT.of c1, SqT.of c2, ?_⟩⟩
      intro D nD
      have ll1 := l1.1
      have ll2 := l2.1
      have ls : (sumQ ws ms).length = ws.length := by unfold sumQ; rw [List.length_zipWith]; omega
      refine lc_it (walk_zipT (n := ws.length) (by omega)) (fun j H' => Same H H' ∧ ∃ us, H' D = some (.lst us) ∧ All2 (RatP Cr H') us ((sumQ ws ms).take j)) ⟨new nD, [], upd_same, All2.nil⟩ (fun i H' _ h => ⟨SqT.of (h.1 _ _ c1), SqT.of (h.1 _ _ c2)⟩) ?_ ?_
      · rintro j v H1 H2 hj ⟨s1, us, eD, al⟩ ⟨t, x, y, rfl, nt, rfl, hx, hy⟩
        have hj2 : j < ms.length := by omega
        have s2 : Same H1 (upd H1 t (.tup [x, y])) := new nt
        have s02 := s1.trans s2
        obtain ⟨p1, rfl, r1⟩ := (l1.2 j x ws[j] hx (List.getElem?_eq_getElem hj)).same s02
        obtain ⟨p2, rfl, r2⟩ := (l2.2 j y ms[j] hy (List.getElem?_eq_getElem hj2)).same s02
        obtain ⟨d1, f1⟩ := id r1
        obtain ⟨d2, f2⟩ := id r2
        have b1 := nw _ (List.getElem_mem hj)
        have b2 := nm _ (List.getElem_mem hj2)
        refine ⟨t, _, rfl, SqT.of upd_same, rfl, _, _, rfl, _, _, rfl, rfl, ?_⟩
        refine ⟨rfl, ?_⟩
        unfold tYes
        refine iteT ?_
        refine ⟨_, rfl, _, rfl, p1, d1, _, p2, d2, _, rfl, rfl, f1, f2, p1, _, _, _, _, _, rfl, r1, b1.low, .inr ⟨p2, rfl, r2⟩, b2.low, b1.s4.1, b1.s4.2, b2.s4.1, b2.s4.2, fun r H3 s3 rr => ⟨us, s3 _ _ (s2 _ _ eD), ?_, fun c o e => ?_, us ++ [.ref r], upd_same, ?_⟩⟩
        · rw [al.1, List.length_take]
          exact Nat.lt_of_lt_of_le (show _ < 1000 by omega) (by decide)
        · rw [upd_ne (ne_of_none e nD)]
          exact s3 _ _ (s02 _ _ e)
        · have hs : (sumQ ws ms)[j]? = some (Rt.plusF ws[j] ms[j]) := by
            unfold sumQ
            rw [List.getElem?_zipWith, List.getElem?_eq_getElem hj, List.getElem?_eq_getElem hj2]
          rw [take_snoc hs]
          have nu := nl_upd (o := .lst (us ++ [V.ref r])) (s3 _ _ (s2 _ _ eD))
          exact ((al.imp fun _ _ y => RatP.nl nu (y.same (s2.trans s3))).snoc (RatP.nl nu ⟨r, rfl, rr⟩))
      · rintro H1 ⟨s1, us, eD, al⟩
        rw [List.take_of_length_le (by omega)] at al
        exact make_end (a1.same s1) ⟨D, rfl, .inl eD⟩ (al.imp fun _ _ y => rat_num y) (by omega) (by omega) fun r H6 s6 qa => k r H6 (s1.trans s6) qa
theorem scQSub : FnScope ["self", "other"] ["self", "other"] (defScope sQSub) := ⟨rfl, rfl, rfl, by decide +kernel, rfl, by decide +kernel, by decide +kernel⟩
def spQSub (Cq Cg Cr Eo : Addr) : Sp := fun vs H Q X => ∃ p q as bs ws ms, vs = [.ref p, .ref q] ∧ QAt Cq Cg Cr H p as ws ∧ QAt Cq Cg Cr H q bs ms ∧ AxOk as ∧ AxOk bs ∧ (∀ n ∈ ms, Nb n) ∧ ms.length = (cellsL bs).length ∧ ms.length ≤ 8 ∧
  ((as ≠ bs ∧ ∀ H', Same H H' → X (.ref Eo) none H') ∨ (as = bs ∧ (∀ n ∈ ws, Nb n) ∧ ws.length = (cellsL as).length ∧ ws.length ≤ 8 ∧ ∀ r H', Same H H' → QAt Cq Cg Cr H' r as (sumQ ws (ms.map negF)) → Q (.ref r) H'))
theorem ok_qsub (F : FnP K "__sub__" "Question.__sub__" sQSub [] f fd) (T : Txt K mg) (TQ : QTxt K mg Cg Cr Cq Eg Er Eq En B) (O : OTx K mg Cr Cq Eo)
    (GA : MthOk P w K mg base Cq (L2.CX P w) 8 "__add__" ["self", "other"] (spQAdd Cq Cg Cr Eo)) (GN : MthOk P w K mg base Cq CX0 8 "__neg__" ["self"] (spQNeg Cq Cg Cr)) : FnOk P w K mg base (L2.CX P w) 9 f fd ["self", "other"] (spQSub Cq Cg Cr Eo) := by
  obtain ⟨fA, fdA, GA, MA, bA⟩ := GA
  obtain ⟨fN, fdN, GN, MN, bN⟩ := GN
  refine F.ok scQSub (fun vs H Q X z => ?_) (fun cdv A outer s H vs Q X hr z => ?_)
  · obtain ⟨p, q, as, bs, ws, ms, rfl, _⟩ := z
    rfl
  · obtain ⟨p, q, as, bs, ws, ms, rfl, qp, qq, oa, ob, nm, lm, m8, z⟩ := z
    refine ⟨_, pss_cons (ps_if (pt_not (pt_val (pe_callB call_isi (by rfl) T.isinst (by decide +kernel) (pa_cons (pv 1) (pa_cons (pe_glob (v := .ref Cq) (by rfl) TQ.mgQ rfl) pa_nil))))) pss_never pss_nil)
      (pss_one (ps_ret (pe_op (op_same (op := .Add) O.own MA.at_ MA.fn GA hr bA (passes_call (takes_of rfl rfl rfl rfl) (fun _ _ _ _ h => h))) (pv 0) (pe_un (un_negO MN.at_ MN.fn GN hr bN pass0) (pv 1))))), ?_⟩
    obtain ⟨dy, g2, w2, v2, e2, _⟩ := id qq
    refine ⟨_, rfl, .ref q, .ref Cq, .ref Cq, _, true, rfl, .own Cq, ty_q TQ qq, KR.kit_self, true, rfl, iteF (nx_ ?_)⟩
    refine ⟨_, rfl, _, rfl, q, dy, _, rfl, e2, q, bs, ms, rfl, qq, nm, lm, m8, fun r H1 s1 rn => ?_⟩
    have qp1 := qp.same s1
    obtain ⟨dx, g1, w1, v1, e1, _⟩ := id qp1
    obtain ⟨dr, g3, w3, v3, e3, _⟩ := id rn
    refine ⟨p, dx, _, r, dr, _, rfl, rfl, e1, e3, p, r, as, bs, ws, _, rfl, qp1, rn, oa, ob, ?_⟩
    rcases z with ⟨ne, k⟩ | ⟨rfl, nw, lw, l8, k⟩
    · exact .inl ⟨ne, fun H2 s2 => k H2 (s1.trans s2)⟩
    · refine .inr ⟨rfl, nw, fun n hn => ?_, lw, by rw [List.length_map]; exact lm, l8, fun r2 H2 s2 qr => k r2 H2 (s1.trans s2) qr⟩
      obtain ⟨m, hm, rfl⟩ := List.mem_map.mp hn
      exact (nm m hm).neg
end
end K6

set_option Elab.async false
set_option linter.all false
set_option maxRecDepth 100000
set_option maxHeartbeats 4000000
/-! law k07: a small number; over zero -/
namespace K6
open PySem L2 TL KG
abbrev sLSmall : Stmt := top 60
abbrev sLZero : Stmt := top 62
/-- a small number -/
structure Ns (n : Fr) : Prop where
  low : Rt.Low n.1 n.2
  bot : n.2.natAbs ≤ 4
  top : n.1.natAbs ≤ 5
theorem Ns.nm {n : Fr} (h : Ns n) : Nm n := ⟨h.low, Nat.le_trans h.bot (by decide), Nat.le_trans h.top (by decide)⟩
def spLSmall : Sp := fun vs H Q _ => ∃ l, vs = [.ref l] ∧ Strm H l ∧ ∀ v n H', But l H H' → Strm H' l → FrP H' v n → Ns n → Q v H'
def spLZero (Cq Cg Cr : Addr) : Sp := fun vs H Q _ => ∃ p as ws, vs = [.ref p] ∧ QAt Cq Cg Cr H p as ws ∧ (∀ n ∈ ws, Nb n) ∧ ws.length = (cellsL as).length ∧ ws.length ≤ 8 ∧ 1 ≤ ws.length ∧ ∀ H', Same H H' → Q (.str "zero") H'
abbrev rInt1' : List V → Hp → VK → Prop := fun xs H Q => (∃ i, xs = [.int i] ∧ Q (.int i) H) ∨ ∃ k, xs = [.bl k] ∧ Q (.int (if k then 1 else 0)) H
def tZero (K : PySem.W.Frag) (Cq Cg Cr Er : Addr) : TE := tOp (rIxL K) (tLst (tCons (tC (.int 0)) (tCons (tMake Cr (KR.spInit K Cr Er) [.int 1] E0 (tCons (tC (.int 0)) tNil)) tNil))) (tCB rInt1' (tCons (tMeth Cq "is_nothing" (spNothing Cq Cg Cr) [] E0 (tVar 0) tNil) tNil))
theorem look_word {v : V} : ([(("word" : Str), v)] : List (Str × V)).lookup ("word" : Str) = some v := by simp [List.lookup]
theorem noq_over {va vc : V} : (qf va vc).lookup ("over" : Str) = none := by
  unfold qf q1
  rw [lookup_putF, if_neg (by decide +kernel), lookup_putF, if_neg (by decide +kernel)]
  rfl
theorem noq_nothing {va vc : V} : (qf va vc).lookup ("is_nothing" : Str) = none := by
  unfold qf q1
  rw [lookup_putF, if_neg (by decide +kernel), lookup_putF, if_neg (by decide +kernel)]
  rfl
theorem low01 : Rt.Low 0 1 := (Rt.nrm_low (p := 0) (q := 1) (by decide))
theorem nb01 : Nb (0, 1) := ⟨low01, by unfold KR.Sz; decide +kernel, by unfold KR.Sz; decide +kernel⟩
section
variable {P : Program} {w : World} {K : PySem.W.Frag} {mg : Str → Option Value} {base : Heap} {Cg Cr Cq Eg Er Eq En Eo B f g h : Addr} {fd gd hd : FuncData}
theorem scLSmall : FnScope ["stream"] ["stream"] (defScope sLSmall) := ⟨rfl, rfl, rfl, by decide +kernel, rfl, by decide +kernel, by decide +kernel⟩
theorem ok_lsmall (F : FnP K "_law_small" "_law_small" sLSmall [] f fd) (T : Txt K mg) (GD : GloOk P w K mg base CX0 1 "_law_draw" ["stream", "many"] spDraw) (GC : GloOk P w K mg base CX0 2 "_law_frac" ["top", "bottom"] KR.spFrac) : FnOk P w K mg base CX0 3 f fd ["stream"] spLSmall := by
  obtain ⟨fD, fdD, GD, mD, kD, bD⟩ := GD
  obtain ⟨fC, fdC, GC, mC, kC, bC⟩ := GC
  refine F.ok scLSmall (fun vs H Q X z => ?_) (fun cdv A outer s H vs Q X hr z => ?_)
  · obtain ⟨l, rfl, _⟩ := z
    rfl
  · obtain ⟨l, rfl, st, k⟩ := z
    have hr1 : Room 1 _ := hr.mono (by decide)
    refine ⟨_, PSs.nox (pss_one (ps_ret (pe_call GC hr rfl mC kC bC .nil pass0 (pa_cons (pe_op op_sub (pe_call GD hr1 rfl mD kD bD .nil pass0 (pa_cons (pv 0) (pa_cons pe_int pa_nil))) pe_int) (pa_cons (pe_op op_add pe_int (pe_call GD hr1 rfl mD kD bD .nil pass0 (pa_cons (pv 0) (pa_cons pe_int pa_nil)))) pa_nil))))), ?_⟩
    refine drawn rfl st (by decide) (by decide) fun d H1 d0 d1 b1 s1 => ?_
    refine ⟨_, _, rfl, rfl, ?_⟩
    refine drawn rfl s1 (by decide) (by decide) fun d2 H2 d20 d21 b2 s2 => ?_
    refine ⟨_, _, rfl, rfl, ?_⟩
    have hd : 1 + d2 ≠ 0 := by omega
    refine ⟨_, _, rfl, hd, Nat.lt_of_le_of_lt (show (1 + d2).natAbs ≤ 12 by omega) (by decide +kernel), fun q H5 s5 _ pr => ?_⟩
    obtain ⟨l1, l2⟩ := Rt.nrm_le (p := d - 5) hd
    exact k (.ref q) (_, _) H5 (b1.trans (b2.trans (But.of s5))) (s2.same s5) ⟨q, rfl, pr⟩ ⟨Rt.nrm_low hd, by show (Rt.nrmB _ _).natAbs ≤ 4; omega, by show (Rt.nrmT _ _).natAbs ≤ 5; omega⟩
theorem scLZero : FnScope ["question", "word", "e"] ["question"] (defScope sLZero) := ⟨rfl, rfl, rfl, by decide +kernel, rfl, by decide +kernel, by decide +kernel⟩
theorem ok_lzero (F : FnP K "_law_over_zero" "_law_over_zero" sLZero [] f fd) (T : Txt K mg) (TQ : QTxt K mg Cg Cr Cq Eg Er Eq En B) (GO : MthOk P w K mg base Cq (L2.CX P w) 8 "over" ["self", "number"] (spQOver Cq Cg Cr Er)) (GN : MthOk P w K mg base Cq CX0 3 "is_nothing" ["self"] (spNothing Cq Cg Cr))
    (GM : KR.MkOk P w K mg base Cr (L2.CX P w) 3 ["self", "top", "bottom"] [.int 1] (KR.spInit K Cr Er)) : FnOk P w K mg base CX0 9 f fd ["question"] (spLZero Cq Cg Cr) := by
  obtain ⟨fO, fdO, GO, MO, bO⟩ := GO
  obtain ⟨fN, fdN, GN, MN, bN⟩ := GN
  obtain ⟨fM, fdM, GM, M, bM, ds, vM, bD⟩ := GM
  refine F.ok scLZero (fun vs H Q X z => ?_) (fun cdv A outer s H vs Q X hr z => ?_)
  · obtain ⟨p, as, ws, rfl, _⟩ := z
    rfl
  · obtain ⟨p, as, ws, rfl, qp, nb, ln, l8, l1, k⟩ := z
    have hr3 : Room 3 _ := hr.mono (by decide)
    have hr4 : Room 4 _ := hr.mono (by decide)
    refine ⟨_, PSs.nox (pss_cons (ps_set (i := 1) scLZero.nd rfl (Or.inl rfl) pe_str)
      (pss_cons (ps_try_as (i := 2) (tb := fun W => tDrop (tMethW Cq "over" (spQOver Cq Cg Cr Er) (WE W) (tVar 0) (tCons (tZero K Cq Cg Cr Er) tNil)))
          (ts := fun a cls d => tAsg (tXf a cls d Er "word" (tVar 2)) (gName 1))
          (Wout := fun _ _ _ _ => False) rfl rfl scLZero.nd rfl rfl ⟨rfl, by decide, Or.inl TQ.r.mgE⟩ takes0
          (fun W pn xe tk _ => pss_one (ps_expr (by exact (pe_methW (pv 0) TQ.cl MO GO hr bO (fun σ => passAt tk σ) (by exact (pa_cons
            (pe_ix ix_list (pe_lst (pa_cons pe_int (pa_cons (pe_make M GM hr4 rfl TQ.r.mgC bD vM passL (pa_cons pe_int pa_nil)) pa_nil))) (pe_callTy (show CallR _ (.type "int") rInt1' from call_int1) (by rfl) T.int (by decide +kernel) (pa_cons (pe_meth0 (pv 0) TQ.cl MN GN hr3 bN .nil pass0) pa_nil)) (fun _ _ => rfl)) pa_nil))))))
          (fun a oe cls d pn hz hf => pss_one (ps_set (i := 1) scLZero.nd rfl (Or.inl rfl) (by exact (pe_xf TQ.r.xf TQ.r.noW hz hf (pv 2))))))
      (pss_one (ps_ret (pv 1))))), ?_⟩
    obtain ⟨dx, g, wt, vs, e1, _⟩ := id qp
    refine ⟨_, rfl, p, dx, _, rfl, e1, noq_over, ?_⟩
    intro x dx' nx nd nex
    refine ⟨x, dx', _, _, rfl, upd_same, .inr (.inr (.inr ⟨0, 1, rfl, rfl, by decide, by unfold KR.Sz; decide +kernel, fun H1 fr rt => ⟨rfl, ?_⟩⟩))⟩
    have s1 : Same H H1 := Same.made nx nd fun b o e ne => fr b o ne e
    refine ⟨by show 2 ≤ sizeLine; decide, fun l hl => ?_⟩
    have s2 : Same H1 (upd H1 l (.lst [.int 0, .ref x])) := new hl
    have s02 := s1.trans s2
    refine ⟨_, rfl, p, dx, _, rfl, s02 _ _ e1, noq_nothing, p, as, ws, rfl, qp.same s02, by omega, fun H3 s3 => ?_⟩
    have s03 := s02.trans s3
    obtain ⟨y, hy, ny⟩ : ∃ y, atI [V.int 0, V.ref x] (if ws.all zeroF = true then 1 else 0) = some y ∧ NumP Cr H3 y (0, 1) := by
      rw [(Rt.nrm_of_low low01).1, (Rt.nrm_of_low low01).2] at rt
      cases c : ws.all zeroF with
      | false => exact ⟨.int 0, at_of (j := 0) rfl rfl, .inl ⟨rfl, rfl⟩⟩
      | true => exact ⟨.ref x, at_of (j := 1) rfl rfl, .inr ⟨x, rfl, rt.same (s2.trans s3)⟩⟩
    refine .inr ⟨_, rfl, l, _, _, y, rfl, rfl, SqL.of (s3 _ _ upd_same), hy, ?_⟩
    refine ⟨p, y, as, ws, (0, 1), rfl, qp.same s03, nb, ny, nb01, ln, l8, l1, .inl ⟨rfl, fun d H4 s4 hd => ?_⟩⟩
    refine ⟨true, TQ.r.exm, fun _ a0 na => ?_, fun z => Bool.noConfusion z⟩
    refine ⟨_, rfl, rfl, rfl, d, _, _, rfl, hd, look_word, ?_⟩
    exact ⟨_, rfl, k _ (s03.trans s4)⟩
end
end K6

set_option Elab.async false
set_option linter.all false
set_option maxRecDepth 100000
set_option maxHeartbeats 4000000
/-! law k07: questions of unequal grids -/
namespace K6
open PySem L2 TL KG
abbrev sLApart : Stmt := top 63
/-- what is let out, whatever the slots hold -/
def Wn (n : Nat) (W : WX) : XK := fun cls d H => ∀ σ, σ.length = n → W cls d σ H
theorem pass_len {X : Cx} {W : WX} (tk : Takes X W) : Passes (L2.CX X.prog X.w) X (Wn X.N.length W) := fun _ σ _ _ e s' I c => tk e s' (XE.of_call I (fun _ _ _ h => h σ I.len) c)
/-- the class OtherGrid -/
structure OEx (K : PySem.W.Frag) (Eo B : Addr) : Prop where
  exm : PySem.W.exmOne K (.ref Eo) (.ref Eo) = some true
  ne : Eo ≠ B
  up : PySem.W.kitCls K (.ref Eo) (.ref B) = some true
def tBelow (K : PySem.W.Frag) (Eo B : Addr) : Addr → Value → TE := fun a cls => tOp (rIxL K) (tLst (tCons (tC (.str "below")) (tCons (tC (.str "other")) tNil))) (tCB rInt1' (tCons (tNotV (tCB (fun xs H Q => cls = .ref Eo ∧ xs = [.ref a, .ref B] ∧ Q (.bl true) H) (tCons (tVar 4) (tCons (tC (.ref B)) tNil)))) tNil))
def spLApart (Cq Cg Cr : Addr) : Sp := fun vs H Q _ => ∃ p q i as bs ws ms, vs = [.ref p, .ref q, .int i] ∧ QAt Cq Cg Cr H p as ws ∧ QAt Cq Cg Cr H q bs ms ∧ AxOk as ∧ AxOk bs ∧ as ≠ bs ∧ (∀ n ∈ ms, Nb n) ∧ ms.length = (cellsL bs).length ∧ ms.length ≤ 8 ∧ ∀ H', Same H H' → Q (.str "below") H'
def rAdd (Cq Cg Cr Eo : Addr) (E : XK) : R2 := fun x y H Q => ∃ a dx fs b dy gs, x = .ref a ∧ y = .ref b ∧ H a = some (.ins Cq dx fs) ∧ H b = some (.ins Cq dy gs) ∧ spQAdd Cq Cg Cr Eo [x, y] H Q E
def rSub (Cq Cg Cr Eo : Addr) (E : XK) : R2 := fun x y H Q => ∃ a dx fs b dy gs, x = .ref a ∧ y = .ref b ∧ H a = some (.ins Cq dx fs) ∧ H b = some (.ins Cq dy gs) ∧ spQSub Cq Cg Cr Eo [x, y] H Q E
section
variable {P : Program} {w : World} {K : PySem.W.Frag} {mg : Str → Option Value} {base : Heap} {Cg Cr Cq Eg Er Eq En Eo B f g h : Addr} {fd gd hd : FuncData}
theorem scLApart : FnScope ["one", "other", "which", "told", "e"] ["one", "other", "which"] (defScope sLApart) := ⟨rfl, rfl, rfl, by decide +kernel, rfl, by decide +kernel, by decide +kernel⟩
theorem ok_lapart (F : FnP K "_law_apart" "_law_apart" sLApart [] f fd) (T : Txt K mg) (TQ : QTxt K mg Cg Cr Cq Eg Er Eq En B) (O : OTx K mg Cr Cq Eo) (OX : OEx K Eo B) (GA : MthOk P w K mg base Cq (L2.CX P w) 8 "__add__" ["self", "other"] (spQAdd Cq Cg Cr Eo))
    (GS : MthOk P w K mg base Cq (L2.CX P w) 9 "__sub__" ["self", "other"] (spQSub Cq Cg Cr Eo)) : FnOk P w K mg base CX0 10 f fd ["one", "other", "which"] (spLApart Cq Cg Cr) := by
  obtain ⟨fA, fdA, GA, MA, bA⟩ := GA
  obtain ⟨fS, fdS, GS, MS, bS⟩ := GS
  refine F.ok scLApart (fun vs H Q X z => ?_) (fun cdv A outer s H vs Q X hr z => ?_)
  · obtain ⟨p, q, i, as, bs, ws, ms, rfl, _⟩ := z
    rfl
  · obtain ⟨p, q, i, as, bs, ws, ms, rfl, qp, qq, oa, ob, ne, nm, lm, m8, k⟩ := z
    have hr8 : Room 8 _ := hr.mono (by decide)
    refine ⟨_, PSs.nox (pss_cons (ps_set (i := 3) scLApart.nd rfl (Or.inl rfl) pe_str)
      (pss_cons (ps_try_as (i := 4) (tb := fun W => tIfS (tTest (tOp rEq (tVar 2) (tC (.int 0)))) (tAsg (tOp (rAdd Cq Cg Cr Eo (Wn 5 W)) (tVar 0) (tVar 1)) (gName 3)) (tAsg (tOp (rSub Cq Cg Cr Eo (Wn 5 W)) (tVar 0) (tVar 1)) (gName 3)))
          (ts := fun a cls d => tAsg (tBelow K Eo B a cls) (gName 3))
          (Wout := fun _ _ _ _ => False) rfl rfl scLApart.nd rfl rfl ⟨rfl, by decide, Or.inl O.mgO⟩ takes0
          (fun W pn xe tk _ => pss_one (ps_if (pt_cmpR op_eq (pv 2) pe_int (nomark _))
            (pss_one (ps_set (i := 3) scLApart.nd rfl (Or.inl rfl) (by exact (pe_op (op_same (op := .Add) O.own MA.at_ MA.fn GA hr8 bA (pass_len tk)) (pv 0) (pv 1)))))
            (pss_one (ps_set (i := 3) scLApart.nd rfl (Or.inl rfl) (by exact (pe_op (op_same (op := .Sub) O.own MS.at_ MS.fn GS hr bS (pass_len tk)) (pv 0) (pv 1)))))))
          (fun a oe cls d pn hz hf => pss_one (ps_set (i := 3) scLApart.nd rfl (Or.inl rfl) (by exact (pe_ix ix_list (pe_lst (pa_cons pe_str (pa_cons pe_str pa_nil)))
            (pe_callTy (show CallR _ (.type "int") rInt1' from call_int1) (by rfl) T.int (by decide +kernel) (pa_cons (pe_not (pe_callB (call_isUp hz OX.ne OX.up) (by rfl) T.isinst (by decide +kernel) (pa_cons (pv 4) (pa_cons (pe_glob (v := .ref B) (by rfl) TQ.g.mgB rfl) pa_nil)))) pa_nil)) (fun _ _ => rfl))))))
      (pss_one (ps_ret (pv 3))))), ?_⟩
    obtain ⟨dx, g1, w1, v1, e1, _⟩ := id qp
    obtain ⟨dy, g2, w2, v2, e2, _⟩ := id qq
    have fin : ∀ (σ : St) (H' : Hp), σ.length = 5 → Same H H' → wAs K (.ref Eo) 4 (fun a cls d => tAsg (tBelow K Eo B a cls) (gName 3)) (fun _ _ _ _ => False) { nx := tRet (tVar 3) { nx := fun _ H' => Q .non H', rt := Q }, rt := Q } (.ref Eo) none σ H' := fun σ H' hl s' => by
      match σ, hl with
      | [x0, x1, x2, x3, x4], _ =>
        refine ⟨true, OX.exm, fun _ a0 na => ?_, fun z => Bool.noConfusion z⟩
        refine ⟨by show 2 ≤ sizeLine; decide, fun l hl => ?_⟩
        refine ⟨_, rfl, rfl, rfl, true, rfl, ?_⟩
        refine .inr ⟨_, rfl, l, _, _, .str "below", rfl, rfl, SqL.of upd_same, at_of (j := 0) rfl rfl, ?_⟩
        exact ⟨_, rfl, k _ (s'.trans (new hl))⟩
    refine ⟨_, rfl, rfl, _, rfl, ?_⟩
    cases decide (V.int i = V.int 0) with
    | true => exact ⟨_, rfl, _, rfl, p, dx, _, q, dy, _, rfl, rfl, e1, e2, p, q, as, bs, ws, ms, rfl, qp, qq, oa, ob, .inl ⟨ne, fun H2 s2 σ hl => fin σ H2 hl s2⟩⟩
    | false => exact ⟨_, rfl, _, rfl, p, dx, _, q, dy, _, rfl, rfl, e1, e2, p, q, as, bs, ws, ms, rfl, qp, qq, oa, ob, nm, lm, m8, .inl ⟨ne, fun H2 s2 σ hl => fin σ H2 hl s2⟩⟩
end
end K6

set_option Elab.async false
set_option linter.all false
set_option maxRecDepth 100000
set_option maxHeartbeats 4000000
/-! law k07: how the weights grow -/
namespace K6
open PySem L2 TL KG
/-- a weight behind j steps -/
structure Ng (j : Nat) (n : Fr) : Prop where
  low : Rt.Low n.1 n.2
  b : KR.Sz (4 + 4 * j) n.2
  t : KR.Sz (41 + 5 * j) n.1
theorem Ng.nb {j : Nat} {n : Fr} (h : Ng j n) (l : j ≤ 8) : Nb n := ⟨h.low, h.b.mono (by omega), h.t.mono (by omega)⟩
theorem Nm.ng {n : Fr} (h : Nm n) (j : Nat) : Ng j n := ⟨h.low, (sz_of (k := 4) h.bot (by decide)).mono (by omega), (sz_of (k := 41) h.top (by decide)).mono (by omega)⟩
theorem Ng.neg {j : Nat} {n : Fr} (h : Ng j n) : Ng j (negF n) := ⟨h.low.neg, h.b, by unfold KR.Sz negF; rw [Int.natAbs_neg]; exact h.t⟩
theorem Nm.neg {n : Fr} (h : Nm n) : Nm (negF n) := ⟨h.low.neg, h.bot, by unfold negF; rw [Int.natAbs_neg]; exact h.top⟩
theorem Ng.up {j : Nat} {n : Fr} (h : Ng j n) : Ng (j + 1) n := ⟨h.low, h.b.mono (by omega), h.t.mono (by omega)⟩
theorem Ng.plus {j : Nat} {m n : Fr} (h : Ng j m) (k : Nm n) : Ng (j + 1) (Rt.plusF m n) := by
  have hb : m.2 * n.2 ≠ 0 := Int.mul_ne_zero (Int.ne_of_gt h.low.pos) (Int.ne_of_gt k.low.pos)
  obtain ⟨l1, l2⟩ := Rt.nrm_le (p := m.1 * n.2 + n.1 * m.2) hb
  have n2 : KR.Sz 4 n.2 := sz_of (k := 4) k.bot (by decide)
  have n1 : KR.Sz 40 n.1 := sz_of (k := 40) k.top (by decide)
  exact ⟨Rt.nrm_low hb, (Sz.le (h.b.mul n2) l2).mono (by omega), (Sz.le (Sz.add (a := 41 + 5 * j + 4) (h.t.mul n2) ((n1.mul h.b).mono (by omega))) l1).mono (by omega)⟩
theorem plus_comm (m n : Fr) : Rt.plusF m n = Rt.plusF n m := by
  unfold Rt.plusF
  rw [Int.add_comm (m.1 * n.2), Int.mul_comm m.2 n.2]
theorem Ng.by_ {j : Nat} {m n : Fr} (h : Ng j m) (k : Ns n) : Ng (j + 1) (Rt.byF m n) := by
  have hb : m.2 * n.2 ≠ 0 := Int.mul_ne_zero (Int.ne_of_gt h.low.pos) (Int.ne_of_gt k.low.pos)
  obtain ⟨l1, l2⟩ := Rt.nrm_le (p := m.1 * n.1) hb
  have n2 : KR.Sz 3 n.2 := sz_of (k := 3) k.bot (by decide)
  have n1 : KR.Sz 3 n.1 := sz_of (k := 3) k.top (by decide)
  exact ⟨Rt.nrm_low hb, (Sz.le (h.b.mul n2) l2).mono (by omega), (Sz.le (h.t.mul n1) l1).mono (by omega)⟩
theorem Ng.over {j : Nat} {m n : Fr} (h : Ng j m) (k : Ns n) (nz : n.1 ≠ 0) : Ng (j + 1) (overF m n) := by
  have hb : m.2 * n.1 ≠ 0 := Int.mul_ne_zero (Int.ne_of_gt h.low.pos) nz
  obtain ⟨l1, l2⟩ := Rt.nrm_le (p := m.1 * n.2) hb
  have n2 : KR.Sz 3 n.2 := sz_of (k := 3) k.bot (by decide)
  have n1 : KR.Sz 3 n.1 := sz_of (k := 3) k.top (by decide)
  exact ⟨Rt.nrm_low hb, (Sz.le (h.b.mul n1) l2).mono (by omega), (Sz.le (h.t.mul n2) l1).mono (by omega)⟩
/-- a quotient is the product with the reciprocal -/
theorem over_by {m n : Fr} (hm : m.2 ≠ 0) (nz : n.1 ≠ 0) : overF m n = Rt.byF m (Rt.nrmT n.2 n.1, Rt.nrmB n.2 n.1) := by
  have c := Rt.nrm_cross (p := n.2) nz
  have q0 : Rt.nrmB n.2 n.1 ≠ 0 := Int.ne_of_gt (Rt.nrm_low (p := n.2) nz).pos
  generalize Rt.nrmT n.2 n.1 = p at c
  generalize Rt.nrmB n.2 n.1 = q at c q0
  have h2 : m.2 * q ≠ 0 := Int.mul_ne_zero hm q0
  have l := Rt.nrm_low (p := m.1 * p) h2
  have d := Rt.nrm_cross (p := m.1 * p) h2
  have e : Rt.nrmT (m.1 * p) (m.2 * q) * (m.2 * n.1) = Rt.nrmB (m.1 * p) (m.2 * q) * (m.1 * n.2) := by
    refine Int.eq_of_mul_eq_mul_right q0 ?_
    generalize Rt.nrmT (m.1 * p) (m.2 * q) = t at d
    generalize Rt.nrmB (m.1 * p) (m.2 * q) = b at d
    calc t * (m.2 * n.1) * q = (t * (m.2 * q)) * n.1 := by ac_rfl
      _ = (m.1 * p * b) * n.1 := by rw [d]
      _ = (b * m.1) * (p * n.1) := by ac_rfl
      _ = (b * m.1) * (n.2 * q) := by rw [c]
      _ = b * (m.1 * n.2) * q := by ac_rfl
  have s := Rt.nrm_same (p := m.1 * n.2) (Int.mul_ne_zero hm nz) l e
  exact Prod.ext s.1 s.2
end K6

set_option Elab.async false
set_option linter.all false
set_option maxRecDepth 100000
set_option maxHeartbeats 4000000
/-! law k07: a ratio times a question: the ratio's method does not know -/
namespace K6
open PySem L2 TL KG
def spNumQ (Cq Cg Cr : Addr) : Sp := fun vs H Q _ => ∃ p as ws, vs = [.ref p] ∧ QAt Cq Cg Cr H p as ws ∧ Q (.bl false) H
section
variable {P : Program} {w : World} {K : PySem.W.Frag} {mg : Str → Option Value} {base : Heap} {Cg Cr Cq Eg Er Eq En Eo B f g h : Addr} {fd gd hd : FuncData}
theorem ok_numQ (F : FnP K "is_number" "is_number" sIsNum [] f fd) (T : Txt K mg) (TQ : QTxt K mg Cg Cr Cq Eg Er Eq En B) (hqr : PySem.W.kitOne K (.ref Cq) (.ref Cr) = some false) (GI : GloOk P w K mg base CX0 1 "is_integer" ["found"] (KR.spIsInt K)) : FnOk P w K mg base CX0 2 f fd ["found"] (spNumQ Cq Cg Cr) := by
  obtain ⟨fI, fdI, GI, mI, kI, bI⟩ := GI
  refine F.ok scIsNum (fun vs H Q X z => ?_) (fun cdv A outer s H vs Q X hr z => ?_)
  · obtain ⟨p, as, ws, rfl, _⟩ := z
    rfl
  · obtain ⟨p, as, ws, rfl, qp, k⟩ := z
    refine ⟨_, PSs.nox (pss_one (ps_ret (pe_or
      (pe_callB call_isi (by rfl) T.isinst (by decide +kernel) (pa_cons (pv 0) (pa_cons (pe_glob (v := .ref Cr) (by rfl) TQ.r.mgC rfl) pa_nil)))
      (pe_one (pe_call GI hr rfl mI kI bI .nil pass0 (pa_cons (pv 0) pa_nil)))))), ?_⟩
    refine ⟨_, rfl, .ref p, .ref Cr, .ref Cq, _, false, rfl, .own Cr, ty_q TQ qp, hqr, false, rfl, ?_⟩
    exact iteF ⟨_, rfl, .ref p, false, rfl, ⟨_, false, false, ty_q TQ qp, TQ.cQ.oI, TQ.cQ.oB, rfl⟩, k⟩
/-- what the ratio's method is given -/
def Sx (Cq Cg Cr : Addr) (_ y : V) (H : Hp) : Prop := ∃ p as ws, y = .ref p ∧ QAt Cq Cg Cr H p as ws
theorem ni_mul (F : FnP K "__mul__" "Ratio.__mul__" KR.sMul [] f fd) (hm : mg "NotImplemented" = none) (GN : GloOk P w K mg base CX0 2 "is_number" ["found"] (spNumQ Cq Cg Cr)) :
    ∀ (x y : V) (H : Hp), Sx Cq Cg Cr x y H → ∀ (A : Around) (outer : List Env) (s : Shared) (args : Args) (us : List Value) (E : XK), Room 9 A → Env0 P w K mg base A outer s H → BindsTo s fd args ((["self", "other"] : List Str).zip us) → Vals [x, y] us → codeAny (model P w) A (.call (.ref f) args) (NR outer P w H s E) s := by
  obtain ⟨fN, fdN, GN, mN, kN, bN⟩ := GN
  rintro x y H ⟨p, as, ws, rfl, qp⟩
  refine FunD.ni F KR.scMul hm (fun _ _ _ _ _ _ => by rfl) (by rfl) (fun cdv A outer s E room => ?_)
  have hr2 : Room 2 (A.deeper (PyProof.Rows.envOfC "Ratio.__mul__" (defScope KR.sMul) s.heap.objs.size f cdv)) := room.mono (by decide)
  exact ⟨_, pt_not (pt_val (pe_call GN hr2 rfl mN kN bN .nil pass0 (pa_cons (pv 1) pa_nil))), ⟨_, rfl, p, as, ws, rfl, qp, _, rfl, rfl, Same.refl H⟩⟩
end
end K6

set_option Elab.async false
set_option linter.all false
set_option maxRecDepth 100000
set_option maxHeartbeats 8000000
/-! law k07: a step -/
namespace K6
open PySem L2 TL KG
abbrev sLStep : Stmt := top 61
theorem ext_of {as ts : List Fr} {n : Nat} (l1 : as.length = n) (l2 : ts.length = n) (h : ∀ (j : Nat) (a : Fr), as[j]? = some a → ts[j]? = some a) : as = ts := by
  refine List.ext_getElem? fun j => ?_
  by_cases c : j < as.length
  · have e := List.getElem?_eq_getElem c
    rw [e, h j _ e]
  · rw [List.getElem?_eq_none (by omega), List.getElem?_eq_none (by omega)]
theorem sum_at {ws ms : List Fr} {j : Nat} (h1 : j < ws.length) (h2 : j < ms.length) : (sumQ ws ms)[j]? = some (Rt.plusF ws[j] ms[j]) := by
  unfold sumQ
  rw [List.getElem?_zipWith, List.getElem?_eq_getElem h1, List.getElem?_eq_getElem h2]
theorem sum_len {ws ms : List Fr} (h : ws.length = ms.length) : (sumQ ws ms).length = ws.length := by unfold sumQ; rw [List.length_zipWith]; omega
theorem sum_ng {j : Nat} {ws ms : List Fr} (nw : ∀ n ∈ ws, Ng j n) (nm : ∀ n ∈ ms, Nm n) : ∀ n ∈ sumQ ws ms, Ng (j + 1) n := fun n hn => by
  obtain ⟨i, hi⟩ := List.mem_iff_getElem?.mp hn
  unfold sumQ at hi
  rw [List.getElem?_zipWith] at hi
  cases e1 : ws[i]? with
  | none => rw [e1] at hi; cases hi
  | some x =>
    cases e2 : ms[i]? with
    | none => rw [e1, e2] at hi; cases hi
    | some y =>
      rw [e1, e2] at hi
      cases hi
      exact (nw x (List.mem_of_getElem? e1)).plus (nm y (List.mem_of_getElem? e2))
theorem sum_comm (ws ms : List Fr) : sumQ ws ms = sumQ ms ws := by
  refine List.ext_getElem? fun j => ?_
  unfold sumQ
  rw [List.getElem?_zipWith, List.getElem?_zipWith]
  cases ws[j]? <;> cases ms[j]? <;> simp [plus_comm]
theorem rng_lc {te : TE} {σ : St} {H : Hp} {D l : Addr} {n : Nat} {J : It} {T : List Fr} {Qd : Hp → Prop} (wk : Walk J n (fun H' => But l H H') (YFn fun i => .int (0 + i))) (nD : H D = none) (st : Strm H l) (len : n ≤ 1000) (lT : T.length = n) (hw : ∀ v : V, wipe ((wipe σ [8]).set 8 (some v)) [8] = wipe σ [8])
    (elem : ∀ (j : Nat) (H' : Hp) (Q : VK), j < n → But l H H' → (∀ (r : Addr) (x : Fr) (H'' : Hp), Same H' H'' → KR.Pair H'' r x.1 x.2 → T[j]? = some x → Q (.ref r) H'') → te ((wipe σ [8]).set 8 (some (.int (j : Int)))) H' Q)
    (hd : ∀ zs H', But l H H' → Strm H' l → H' D = some (.lst zs) → All2 (FrP H') zs T → Qd H') :
    ∃ W : Nat → Nat → Hp → Prop, (∃ m, W 0 m (upd H D (.lst []))) ∧ ∀ j m H', W j m H' → ((J.stop j H' ∧ Qd H') ∨ (J.go j H' ∧ ∃ Nx : Hp → Prop, (∀ H', Nx H' → ∃ m', m' < m ∧ W (j + 1) m' H') ∧
      ∀ x H2, J.yld j H' x H2 → gName 8 x (wipe σ [8]) H2 fun σ2 H3 => wipe σ2 [8] = wipe σ [8] ∧ tYes σ2 H3 fun b H4 => if b = true then te σ2 H4 fun y H5 => ∃ acc, H5 D = some (.lst acc) ∧ acc.length < sizeLine ∧ Nx (upd H5 D (.lst (acc ++ [y]))) else Nx H4)) :=
  lc_drawn (n := n) (Y := YFn fun i => .int (0 + i)) FrP (fun j x => T[j]? = some x) (fun s h => h.nl s) wk (fun _ _ _ _ y => y.1) nD st len hw
    (fun j v H' Q' hj y b1 s1 h => by
      obtain ⟨_, ex⟩ := y
      obtain rfl : v = V.int (j : Int) := by
        rw [ex]
        show V.int (0 + _) = _
        rw [Int.zero_add]
      exact elem j H' Q' hj b1 fun r x H'' s p t => h (.ref r) x H'' (But.of s) (s1.same s) ⟨r, rfl, p⟩ t)
    (fun us as H' b1 s1 e1 al ln sa => by
      obtain rfl := ext_of ln lT sa
      exact hd us H' b1 s1 e1 al)
theorem all2_map {R : V → Fr → Prop} {f : Fr → Fr} {us : List V} {ws : List Fr} (h : All2 (fun u m => R u (f m)) us ws) : All2 R us (ws.map f) := ⟨by rw [h.1, List.length_map], fun i v m h1 h2 => by
  rw [List.getElem?_map] at h2
  obtain ⟨n, hn, rfl⟩ := Option.map_eq_some_iff.mp h2
  exact h.2 i v n h1 hn⟩
theorem pair_ok {j : Nat} {m n : Fr} (hm : Ng j m) (hn : Ng j n) (l : j ≤ 7) : m.2 * n.2 ≠ 0 ∧ KR.Sz 1000 m.1 ∧ KR.Sz 1000 m.2 ∧ KR.Sz 1000 n.1 ∧ KR.Sz 1000 n.2 :=
  ⟨Int.mul_ne_zero (Int.ne_of_gt hm.low.pos) (Int.ne_of_gt hn.low.pos), hm.t.mono (by omega), hm.b.mono (by omega), hn.t.mono (by omega), hn.b.mono (by omega)⟩
theorem row_lc {K : PySem.W.Frag} {te : TE} {σ : St} {H4 : Hp} {a : Addr} {us : List V} {ws : List Fr} (f : Fr → Fr) {Qv : VK} (hi : σ[2]? = some (some (.ref a))) (ea : H4 a = some (.lst us)) (aw : All2 (FrP H4) us ws) (l : ws.length ≤ 8) (hw : ∀ v : V, wipe ((wipe σ [9]).set 9 (some v)) [9] = wipe σ [9])
    (elem : ∀ (i : Nat) (p1 : Addr) (m : Fr) (H' : Hp) (Q' : VK), ws[i]? = some m → Same H4 H' → H' p1 = some (.tup [.int m.1, .int m.2]) → (∀ (t : Addr) (H'' : Hp), Same H' H'' → H'' t = some (.tup [.int (f m).1, .int (f m).2]) → Q' (.ref t) H'') → te ((wipe σ [9]).set 9 (some (.ref p1))) H' Q')
    (hd : ∀ (D : Addr) (zs : List V) (H5 : Hp), Same H4 H5 → H4 D = none → H5 D = some (.lst zs) → All2 (FrP H5) zs (ws.map f) → Qv (.ref D) H5) : tLc (iRow K (tVar 2)) (gName 9) tYes te [9] σ H4 Qv := by
  refine tLc_row (x := .ref a) (xs := us) hi ⟨a, rfl, .inl ea⟩ fun J wk D nD => ?_
  have lu := aw.1
  refine lc_objs (fun H u m => FrP H u (f m)) ws aw.1.symm (fun s h => FrP.same s h) (fun s h => FrP.nl s h) wk nD (by omega) hw (fun i v m hv hm H' Q' s' h => ?_) (fun zs H5 s5 e5 al5 => ?_)
  · obtain ⟨p1, rfl, f1⟩ := (aw.2 i v m hv hm).same s'
    exact elem i p1 m H' Q' hm s' f1 fun t H'' s'' e => h _ _ s'' ⟨t, rfl, e⟩
  · exact hd D zs H5 s5 nD e5 (all2_map al5)
def spLStep (Cq Cg Cr : Addr) : Sp := fun vs H Q _ => ∃ l p a q b as us xs ws ms j, vs = [.ref l, .ref p, .ref a, .ref q, .ref b] ∧ Strm H l ∧ a ≠ l ∧ b ≠ l ∧ QAt Cq Cg Cr H p as ws ∧ QAt Cq Cg Cr H q as ms ∧ AxOk as ∧ H a = some (.lst us) ∧ H b = some (.lst xs) ∧ All2 (FrP H) us ws ∧ All2 (FrP H) xs ms ∧
  ws.length = (cellsL as).length ∧ ms.length = (cellsL as).length ∧ ws.length ≤ 8 ∧ 1 ≤ ws.length ∧ j ≤ 7 ∧ (∀ n ∈ ws, Ng j n) ∧ (∀ n ∈ ms, Nm n) ∧
  ∀ t r D zs ns H', But l H H' → Strm H' l → H' t = some (.tup [.ref r, .ref D]) → D ≠ l → QAt Cq Cg Cr H' r as ns → H' D = some (.lst zs) → All2 (FrP H') zs ns → ns.length = ws.length → (∀ n ∈ ns, Ng (j + 1) n) → Q (.ref t) H'
section
variable {P : Program} {w : World} {K : PySem.W.Frag} {mg : Str → Option Value} {base : Heap} {Cg Cr Cq Eg Er Eq En Eo B f g h : Addr} {fd gd hd : FuncData}
abbrev rNegI : V → Hp → VK → Prop := rU fun i => .int (-i)
abbrev NSt : List Str := ["stream", "question", "weights", "other", "more", "kind", "number", "handed", "k", "weight"]
theorem scLStep : FnScope NSt ["stream", "question", "weights", "other", "more"] (defScope sLStep) := ⟨rfl, rfl, rfl, by decide +kernel, rfl, by decide +kernel, by decide +kernel⟩
theorem ok_lstep (F : FnP K "_law_step" "_law_step" sLStep [] f fd) (T : Txt K mg) (TQ : QTxt K mg Cg Cr Cq Eg Er Eq En B) (O : OTx K mg Cr Cq Eo) (GD : GloOk P w K mg base CX0 1 "_law_draw" ["stream", "many"] spDraw) (GS : GloOk P w K mg base CX0 3 "_law_small" ["stream"] spLSmall)
    (GH : GloOk P w K mg base CX0 5 "_law_handed" ["stream", "frac"] (spLHand Cr)) (GF : GloOk P w K mg base CX0 2 "_law_frac" ["top", "bottom"] KR.spFrac) (GP : GloOk P w K mg base CX0 3 "_law_plus" ["one", "other"] (KR.spPair KR.addT)) (GB : GloOk P w K mg base CX0 3 "_law_by" ["one", "other"] (KR.spPair KR.mulT))
    (GA : MthOk P w K mg base Cq (L2.CX P w) 8 "__add__" ["self", "other"] (spQAdd Cq Cg Cr Eo)) (GU : MthOk P w K mg base Cq (L2.CX P w) 9 "__sub__" ["self", "other"] (spQSub Cq Cg Cr Eo)) (GN : MthOk P w K mg base Cq CX0 8 "__neg__" ["self"] (spQNeg Cq Cg Cr))
    (GM : MthOk P w K mg base Cq CX0 8 "__mul__" ["self", "other"] (spQMul Cq Cg Cr)) (GR : MthOk P w K mg base Cq CX0 9 "__rmul__" ["self", "other"] (spQMul Cq Cg Cr)) (GO : MthOk P w K mg base Cq (L2.CX P w) 8 "over" ["self", "number"] (spQOver Cq Cg Cr Er))
    (RM : ∃ f fd, FnP K "__mul__" "Ratio.__mul__" KR.sMul [] f fd ∧ Meth K Cr "__mul__" f ∧ Binds K fd ["self", "other"] []) (RR : ∃ q, Meth K Cr "__rmul__" q) (hni : mg "NotImplemented" = none) (GQ : GloOk P w K mg base CX0 2 "is_number" ["found"] (spNumQ Cq Cg Cr)) :
    FnOk P w K mg base CX0 10 f fd ["stream", "question", "weights", "other", "more"] (spLStep Cq Cg Cr) := by
  obtain ⟨fD, fdD, GD, mD, kD, bD⟩ := GD
  obtain ⟨fS, fdS, GS, mS, kS, bS⟩ := GS
  obtain ⟨fH, fdH, GH, mH, kH, bH⟩ := GH
  obtain ⟨fF, fdF, GF, mF, kF, bF⟩ := GF
  obtain ⟨fP, fdP, GP, mP, kP, bP⟩ := GP
  obtain ⟨fB, fdB, GB, mB, kB, bB⟩ := GB
  obtain ⟨fA, fdA, GA, MA, bA⟩ := GA
  obtain ⟨fU, fdU, GU, MU, bU⟩ := GU
  obtain ⟨fN, fdN, GN, MN, bN⟩ := GN
  obtain ⟨fM, fdM, GM, MM, bM⟩ := GM
  obtain ⟨fR, fdR, GR, MR, bR⟩ := GR
  obtain ⟨fO, fdO, GO, MO, bO⟩ := GO
  obtain ⟨f1, fd1, F1, M1, b1⟩ := RM
  obtain ⟨f2, M2⟩ := RR
  have ni := ni_mul (P := P) (w := w) (base := base) (Cq := Cq) (Cg := Cg) (Cr := Cr) F1 hni GQ
  refine F.ok scLStep (fun vs H Q X z => ?_) (fun cdv A outer s H vs Q X hr z => ?_)
  · obtain ⟨l, p, a, q, b, as, us, xs, ws, ms, j, rfl, _⟩ := z
    rfl
  · obtain ⟨l, p, a, q, b, as, us, xs, ws, ms, j, rfl, st, al, bl, qp, qq, oa, ea, eb, aw, am, lw, lm, l8, l1, j7, nw, nm, k⟩ := z
    have hr8 : Room 8 (A.deeper (PyProof.Rows.envOfC "_law_step" (defScope sLStep) s.heap.objs.size f cdv)) := hr.mono (by decide)
    have hr5 : Room 5 (A.deeper (PyProof.Rows.envOfC "_law_step" (defScope sLStep) s.heap.objs.size f cdv)) := hr.mono (by decide)
    have hr3 : Room 3 (A.deeper (PyProof.Rows.envOfC "_law_step" (defScope sLStep) s.heap.objs.size f cdv)) := hr.mono (by decide)
    have hr2 : Room 2 (A.deeper (PyProof.Rows.envOfC "_law_step" (defScope sLStep) s.heap.objs.size f cdv)) := hr.mono (by decide)
    have hr1 : Room 1 (A.deeper (PyProof.Rows.envOfC "_law_step" (defScope sLStep) s.heap.objs.size f cdv)) := hr.mono (by decide)
    refine ⟨_, PSs.nox (pss_cons (ps_set (i := 5) scLStep.nd rfl (Or.inl rfl) (pe_call GD hr1 rfl mD kD bD .nil pass0 (pa_cons (pv 0) (pa_cons pe_int pa_nil))))
      (pss_cons (ps_set (i := 6) scLStep.nd rfl (Or.inr rfl) (pe_call GS hr3 rfl mS kS bS .nil pass0 (pa_cons (pv 0) pa_nil)))
      (pss_cons (ps_set (i := 7) scLStep.nd rfl (Or.inl rfl) (pe_call GH hr5 rfl mH kH bH .nil pass0 (pa_cons (pv 0) (pa_cons (pv 6) pa_nil))))
      (pss_cons (ps_if (pt_cmpR op_eq (pv 5) pe_int (nomark _)) (pss_one (ps_ret (pe_tup (pa_cons (pe_op (op_same (op := .Add) O.own MA.at_ MA.fn GA hr8 bA passL) (pv 1) (pv 3)) (pa_cons
          (pe_lc (own := [("k", 8)]) (g := gName 8) (tt := tYes) (by rfl) scLStep.nd (pi_range1 rfl T.range (pa_cons (pe_callB call_len_seq (by rfl) T.len PySem.boot_len (pa_cons (pv 2) pa_nil)) pa_nil)) (blkOk_by (own := [("k", 8)]) (N := NSt) (sc := defScope sLStep) (by decide +kernel)) (fun _ _ _ _ _ => pg_name (i := 8) scLStep.nd rfl (Or.inl rfl)) (fun _ _ _ _ _ => pts_nil)
            (fun _ _ _ _ _ => show PE _ _ (tCall (KR.spPair KR.addT) [] E0 (tCons (tOp (rIxL K) (tVar 2) (tVar 8)) (tCons (tOp (rIxL K) (tVar 4) (tVar 8)) tNil))) from pe_call GP hr3 rfl mP kP bP .nil pass0 (pa_cons (pe_ix ix_list (pv 2) (pv 8) (fun _ _ => rfl)) (pa_cons (pe_ix ix_list (pv 4) (pv 8) (fun _ _ => rfl)) pa_nil)))) pa_nil))))) pss_nil)
      (pss_cons (ps_if (pt_cmpR op_eq (pv 5) pe_int (nomark _)) (pss_one (ps_ret (pe_tup (pa_cons (pe_op (op_same (op := .Sub) O.own MU.at_ MU.fn GU hr bU passL) (pv 1) (pv 3)) (pa_cons
          (pe_lc (own := [("k", 8)]) (g := gName 8) (tt := tYes) (by rfl) scLStep.nd (pi_range1 rfl T.range (pa_cons (pe_callB call_len_seq (by rfl) T.len PySem.boot_len (pa_cons (pv 2) pa_nil)) pa_nil)) (blkOk_by (own := [("k", 8)]) (N := NSt) (sc := defScope sLStep) (by decide +kernel)) (fun _ _ _ _ _ => pg_name (i := 8) scLStep.nd rfl (Or.inl rfl)) (fun _ _ _ _ _ => pts_nil)
            (fun _ _ _ _ _ => show PE _ _ (tCall (KR.spPair KR.addT) [] E0 (tCons (tOp (rIxL K) (tVar 2) (tVar 8)) (tCons (tTup (tCons (tUn rNegI (tOp (rIxT K) (tOp (rIxL K) (tVar 4) (tVar 8)) (tC (.int 0)))) (tCons (tOp (rIxT K) (tOp (rIxL K) (tVar 4) (tVar 8)) (tC (.int 1))) tNil))) tNil))) from pe_call GP hr3 rfl mP kP bP .nil pass0 (pa_cons (pe_ix ix_list (pv 2) (pv 8) (fun _ _ => rfl)) (pa_cons (pe_tup (pa_cons (pe_un un_neg (pe_ix ix_tup (pe_ix ix_list (pv 4) (pv 8) (fun _ _ => rfl)) pe_int (fun _ _ => rfl))) (pa_cons (pe_ix ix_tup (pe_ix ix_list (pv 4) (pv 8) (fun _ _ => rfl)) pe_int (fun _ _ => rfl)) pa_nil))) pa_nil)))) pa_nil))))) pss_nil)
      (pss_cons (ps_if (pt_cmpR op_eq (pv 5) pe_int (nomark _)) (pss_one (ps_ret (pe_tup (pa_cons (pe_op (op_same (op := .Sub) O.own MU.at_ MU.fn GU hr bU passL) (pv 3) (pv 1)) (pa_cons
          (pe_lc (own := [("k", 8)]) (g := gName 8) (tt := tYes) (by rfl) scLStep.nd (pi_range1 rfl T.range (pa_cons (pe_callB call_len_seq (by rfl) T.len PySem.boot_len (pa_cons (pv 2) pa_nil)) pa_nil)) (blkOk_by (own := [("k", 8)]) (N := NSt) (sc := defScope sLStep) (by decide +kernel)) (fun _ _ _ _ _ => pg_name (i := 8) scLStep.nd rfl (Or.inl rfl)) (fun _ _ _ _ _ => pts_nil)
            (fun _ _ _ _ _ => show PE _ _ (tCall (KR.spPair KR.addT) [] E0 (tCons (tOp (rIxL K) (tVar 4) (tVar 8)) (tCons (tTup (tCons (tUn rNegI (tOp (rIxT K) (tOp (rIxL K) (tVar 2) (tVar 8)) (tC (.int 0)))) (tCons (tOp (rIxT K) (tOp (rIxL K) (tVar 2) (tVar 8)) (tC (.int 1))) tNil))) tNil))) from pe_call GP hr3 rfl mP kP bP .nil pass0 (pa_cons (pe_ix ix_list (pv 4) (pv 8) (fun _ _ => rfl)) (pa_cons (pe_tup (pa_cons (pe_un un_neg (pe_ix ix_tup (pe_ix ix_list (pv 2) (pv 8) (fun _ _ => rfl)) pe_int (fun _ _ => rfl))) (pa_cons (pe_ix ix_tup (pe_ix ix_list (pv 2) (pv 8) (fun _ _ => rfl)) pe_int (fun _ _ => rfl)) pa_nil))) pa_nil)))) pa_nil))))) pss_nil)
      (pss_cons (ps_if (pt_cmpR op_eq (pv 5) pe_int (nomark _)) (pss_one (ps_ret (pe_tup (pa_cons (pe_un (un_negO MN.at_ MN.fn GN hr8 bN pass0) (pv 1)) (pa_cons
          (pe_lc (own := [("weight", 9)]) (g := gName 9) (tt := tYes) (by rfl) scLStep.nd (pi_row (pv 2)) (blkOk_by (own := [("weight", 9)]) (N := NSt) (sc := defScope sLStep) (by decide +kernel)) (fun _ _ _ _ _ => pg_name (i := 9) scLStep.nd rfl (Or.inl rfl)) (fun _ _ _ _ _ => pts_nil)
            (fun _ _ _ _ _ => show PE _ _ (tTup (tCons (tUn rNegI (tOp (rIxT K) (tVar 9) (tC (.int 0)))) (tCons (tOp (rIxT K) (tVar 9) (tC (.int 1))) tNil))) from pe_tup (pa_cons (pe_un un_neg (pe_ix ix_tup (pv 9) pe_int (fun _ _ => rfl))) (pa_cons (pe_ix ix_tup (pv 9) pe_int (fun _ _ => rfl)) pa_nil)))) pa_nil))))) pss_nil)
      (pss_cons (ps_if (pt_cmpR op_eq (pv 5) pe_int (nomark _)) (pss_one (ps_ret (pe_tup (pa_cons (pe_op (OpR.or (op_left (op := .Mult) (C := Cq) (D := Cr) O.own.first TQ.r.own.first O.ne MM.at_ MM.fn MR.at_ M1.at_ M2.at_ O.rq GM hr8 bM pass0) (op_instInt (op := .Mult) O.own MM.at_ MM.fn MR.at_ TQ.r.iMul TQ.r.iRmul GM hr8 bM pass0)) (pv 1) (pv 7)) (pa_cons
          (pe_lc (own := [("weight", 9)]) (g := gName 9) (tt := tYes) (by rfl) scLStep.nd (pi_row (pv 2)) (blkOk_by (own := [("weight", 9)]) (N := NSt) (sc := defScope sLStep) (by decide +kernel)) (fun _ _ _ _ _ => pg_name (i := 9) scLStep.nd rfl (Or.inl rfl)) (fun _ _ _ _ _ => pts_nil)
            (fun _ _ _ _ _ => pe_call GB hr3 rfl mB kB bB .nil pass0 (pa_cons (pv 9) (pa_cons (pv 6) pa_nil)))) pa_nil))))) pss_nil)
      (pss_cons (ps_if (PW.pt (pw_or (pt_cmpR op_eq (pv 5) pe_int (nomark _)) (pw_or1 (pt_cmpR op_eq (pe_ix ix_tup (pv 6) pe_int (fun _ _ => rfl)) pe_int (nomark _))))) (pss_one (ps_ret (pe_tup (pa_cons (pe_op (OpR.or (op_reflOwn (op := .Mult) (C := Cr) (D := Cq) TQ.r.own O.own.first (Ne.symm O.ne) M1.at_ M1.fn M2.at_ MM.at_ MR.at_ MR.fn O.qr ni b1 (by rfl) GR hr bR pass0) (op_mulRI O.own MR.at_ MR.fn MM.at_ GR hr bR pass0)) (pv 7) (pv 1)) (pa_cons
          (pe_lc (own := [("weight", 9)]) (g := gName 9) (tt := tYes) (by rfl) scLStep.nd (pi_row (pv 2)) (blkOk_by (own := [("weight", 9)]) (N := NSt) (sc := defScope sLStep) (by decide +kernel)) (fun _ _ _ _ _ => pg_name (i := 9) scLStep.nd rfl (Or.inl rfl)) (fun _ _ _ _ _ => pts_nil)
            (fun _ _ _ _ _ => pe_call GB hr3 rfl mB kB bB .nil pass0 (pa_cons (pv 9) (pa_cons (pv 6) pa_nil)))) pa_nil))))) pss_nil)
      (pss_one (ps_ret (pe_tup (pa_cons (pe_meth (pv 1) TQ.cl MO GO hr8 bO .nil passL (pa_cons (pv 7) pa_nil)) (pa_cons
          (pe_lc (own := [("weight", 9)]) (g := gName 9) (tt := tYes) (by rfl) scLStep.nd (pi_row (pv 2)) (blkOk_by (own := [("weight", 9)]) (N := NSt) (sc := defScope sLStep) (by decide +kernel)) (fun _ _ _ _ _ => pg_name (i := 9) scLStep.nd rfl (Or.inl rfl)) (fun _ _ _ _ _ => pts_nil)
            (fun _ _ _ _ _ => show PE _ _ (tCall (KR.spPair KR.mulT) [] E0 (tCons (tVar 9) (tCons (tCall KR.spFrac [] E0 (tCons (tOp (rIxT K) (tVar 6) (tC (.int 1))) (tCons (tOp (rIxT K) (tVar 6) (tC (.int 0))) tNil))) tNil))) from pe_call GB hr3 rfl mB kB bB .nil pass0 (pa_cons (pv 9) (pa_cons (pe_call GF hr2 rfl mF kF bF .nil pass0 (pa_cons (pe_ix ix_tup (pv 6) pe_int (fun _ _ => rfl)) (pa_cons (pe_ix ix_tup (pv 6) pe_int (fun _ _ => rfl)) pa_nil))) pa_nil)))) pa_nil)))))))))))))), ?_⟩
    refine drawn rfl st (by decide) (by decide) fun d H1 d0 d1 b1' s1 => ?_
    refine nx_ ?_
    refine sq ?_
    refine ⟨_, rfl, l, rfl, s1, fun v n H2 b2 s2 fn hn => ?_⟩
    refine nx_ ?_
    refine sq ?_
    refine ⟨_, rfl, _, rfl, l, v, n, rfl, s2, fn, hn.nm, fun u H3 b3 s3 nu => ?_⟩
    refine nx_ ?_
    refine sq ?_
    have b13 : But l H H3 := b1'.trans (b2.trans b3)
    have nl13 : NL H H3 := b13.nl st
    have ea3 := b13 a _ al ea
    have eb3 := b13 b _ bl eb
    have aw3 : All2 (FrP H3) us ws := aw.imp fun _ _ y => y.nl nl13
    have am3 : All2 (FrP H3) xs ms := am.imp fun _ _ y => y.nl nl13
    have fn3 : FrP H3 v n := fn.nl (b3.nl s2)
    have qp3 := qp.nl nl13
    have qq3 := qq.nl nl13
    have nbw : ∀ n ∈ ws, Nb n := fun n h => (nw n h).nb (by omega)
    have nbm : ∀ n ∈ ms, Nb n := fun n h => (nm n h).nb
    have lu := aw.1
    have lx := am.1
    have fin : ∀ (r D t : Addr) (ns : List Fr) (zs : List V) (H5 : Hp), But l H3 H5 → Strm H5 l → D ≠ l → QAt Cq Cg Cr H5 r as ns → H5 D = some (.lst zs) → All2 (FrP H5) zs ns → ns.length = ws.length → (∀ n ∈ ns, Ng (j + 1) n) → H5 t = none → Q (.ref t) (upd H5 t (.tup [.ref r, .ref D])) :=
      fun r D t ns zs H5 b5 s5 nDl qr eD al5 ln ng ht => k t r D zs ns _ (b13.trans (b5.trans (But.of (new ht)))) (s5.same (new ht)) upd_same nDl (qr.same (new ht)) ((new ht) _ _ eD) (al5.imp fun _ _ y => y.same (new ht)) ln ng
    obtain ⟨dx, g1, w1, v1, e1, _⟩ := id qp3
    obtain ⟨dy, g2, w2, v2, e2, _⟩ := id qq3
    clear k qp qq ea eb aw am fn
    refine ⟨_, rfl, rfl, _, rfl, ?_⟩
    cases h0 : decide (V.int d = V.int 0) with
    | true =>
      refine iteT ?_
      refine ⟨_, rfl, _, rfl, p, dx, _, q, dy, _, rfl, rfl, e1, e2, p, q, as, as, ws, ms, rfl, qp3, qq3, oa, oa, .inr ⟨rfl, nbw, nbm, lw, lm, l8, fun r H4 s4 qr => ?_⟩⟩
      refine ⟨_, rfl, a, us, rfl, .inl (SqL.of (s4 _ _ ea3)), us.length, rfl, by omega, by omega, fun D nD => ?_⟩
      refine rng_lc (n := us.length) (T := sumQ ws ms) (walk_range.mono (fun _ _ => trivial) fun _ _ _ _ _ _ y => y) nD (s3.same s4) (by omega) (by rw [sum_len (by omega)]; omega) (fun _ => by rfl) (fun i H' Q' hi b' h => ?_) (fun zs H5 b5 s5 e5 al5 => ?_)
      · have hi1 : i < ws.length := by omega
        have hi2 : i < ms.length := by omega
        have n4 : NL H3 H' := (NL.of s4).trans (b'.nl (s3.same s4))
        obtain ⟨u1, hu, p1, rfl, f1⟩ := all2_get (aw3.imp fun _ _ y => FrP.nl n4 y) hi1
        obtain ⟨u2, hx, p2, rfl, f2⟩ := all2_get (am3.imp fun _ _ y => FrP.nl n4 y) hi2
        have ea5 := b' a _ al (s4 _ _ ea3)
        have eb5 := b' b _ bl (s4 _ _ eb3)
        obtain ⟨hb, z1, z2, z3, z4⟩ := pair_ok (nw _ (List.getElem_mem hi1)) ((nm _ (List.getElem_mem hi2)).ng j) j7
        exact ⟨_, rfl, _, rfl, a, _, _, _, rfl, rfl, SqL.of ea5, atI_nat hu, _, rfl, _, rfl, b, _, _, _, rfl, rfl, SqL.of eb5, atI_nat hx, p1, p2, _, _, _, _, rfl, f1, f2, hb, z1, z2, z3, z4, fun r H6 s6 _ pr => h r (Rt.plusF ws[i] ms[i]) H6 s6 pr (sum_at hi1 hi2)⟩
      · exact ⟨by show 2 ≤ sizeLine; decide, fun t ht => fin r D t _ zs H5 ((But.of s4).trans b5) s5 ((s3.same s4).ne nD) (qr.nl (b5.nl (s3.same s4))) e5 al5 (sum_len (by omega)) (sum_ng nw nm) ht⟩
    | false =>
      refine iteF (nx_ ?_)
      clear h0
      refine ⟨_, rfl, rfl, _, rfl, ?_⟩
      cases h0 : decide (V.int d = V.int 1) with
      | true =>
        refine iteT ?_
        refine ⟨_, rfl, _, rfl, p, dx, _, q, dy, _, rfl, rfl, e1, e2, p, q, as, as, ws, ms, rfl, qp3, qq3, oa, oa, nbm, lm, by omega, .inr ⟨rfl, nbw, lw, l8, fun r H4 s4 qr => ?_⟩⟩
        refine ⟨_, rfl, a, us, rfl, .inl (SqL.of (s4 _ _ ea3)), us.length, rfl, by omega, by omega, fun D nD => ?_⟩
        have lT : (sumQ ws (ms.map negF)).length = ws.length := sum_len (by rw [List.length_map]; omega)
        refine rng_lc (n := us.length) (T := sumQ ws (ms.map negF)) (walk_range.mono (fun _ _ => trivial) fun _ _ _ _ _ _ y => y) nD (s3.same s4) (by omega) (by omega) (fun _ => by rfl) (fun i H' Q' hi b' h => ?_) (fun zs H5 b5 s5 e5 al5 => ?_)
        · have hi1 : i < ws.length := by omega
          have hi2 : i < ms.length := by omega
          have n4 : NL H3 H' := (NL.of s4).trans (b'.nl (s3.same s4))
          obtain ⟨u1, hu, p1, rfl, f1⟩ := all2_get (aw3.imp fun _ _ y => FrP.nl n4 y) hi1
          obtain ⟨u2, hx, p2, rfl, f2⟩ := all2_get (am3.imp fun _ _ y => FrP.nl n4 y) hi2
          have ea5 := b' a _ al (s4 _ _ ea3)
          have eb5 := b' b _ bl (s4 _ _ eb3)
          obtain ⟨hb, z1, z2, z3, z4⟩ := pair_ok (nw _ (List.getElem_mem hi1)) ((nm _ (List.getElem_mem hi2)).neg.ng j) j7
          exact ⟨_, rfl, _, rfl, a, _, _, _, rfl, rfl, SqL.of ea5, atI_nat hu, _, rfl, _, rfl, b, _, _, _, rfl, rfl, SqL.of eb5, atI_nat hx, p2, _, _, V.int _, rfl, rfl, SqT.of f2, at_of (j := 0) rfl rfl, _, rfl,
            _, rfl, _, rfl, b, _, _, _, rfl, rfl, SqL.of eb5, atI_nat hx, p2, _, _, V.int _, rfl, rfl, SqT.of f2, at_of (j := 1) rfl rfl, by show 2 ≤ sizeLine; decide, fun t ht => ⟨p1, t, _, _, _, _, rfl, (new ht) _ _ f1, upd_same, hb, z1, z2, z3, z4,
              fun r H6 s6 _ pr => h r (Rt.plusF ws[i] (negF ms[i])) H6 ((new ht).trans s6) pr (by rw [sum_at hi1 (by rw [List.length_map]; exact hi2), List.getElem_map])⟩⟩
        · exact ⟨by show 2 ≤ sizeLine; decide, fun t ht => fin r D t _ zs H5 ((But.of s4).trans b5) s5 ((s3.same s4).ne nD) (qr.nl (b5.nl (s3.same s4))) e5 al5 lT (sum_ng nw fun n hn => by
            obtain ⟨m, hm, rfl⟩ := List.mem_map.mp hn
            exact (nm m hm).neg) ht⟩
      | false =>
        refine iteF (nx_ ?_)
        clear h0
        refine ⟨_, rfl, rfl, _, rfl, ?_⟩
        cases h0 : decide (V.int d = V.int 2) with
        | true =>
          refine iteT ?_
          refine ⟨_, rfl, _, rfl, q, dy, _, p, dx, _, rfl, rfl, e2, e1, q, p, as, as, ms, ws, rfl, qq3, qp3, oa, oa, nbw, lw, l8, .inr ⟨rfl, nbm, lm, by omega, fun r H4 s4 qr => ?_⟩⟩
          refine ⟨_, rfl, a, us, rfl, .inl (SqL.of (s4 _ _ ea3)), us.length, rfl, by omega, by omega, fun D nD => ?_⟩
          have lT : (sumQ ms (ws.map negF)).length = ws.length := (sum_len (by rw [List.length_map]; omega)).trans (by omega)
          refine rng_lc (n := us.length) (T := sumQ ms (ws.map negF)) (walk_range.mono (fun _ _ => trivial) fun _ _ _ _ _ _ y => y) nD (s3.same s4) (by omega) (by omega) (fun _ => by rfl) (fun i H' Q' hi b' h => ?_) (fun zs H5 b5 s5 e5 al5 => ?_)
          · have hi1 : i < ws.length := by omega
            have hi2 : i < ms.length := by omega
            have n4 : NL H3 H' := (NL.of s4).trans (b'.nl (s3.same s4))
            obtain ⟨u1, hu, p1, rfl, f1⟩ := all2_get (aw3.imp fun _ _ y => FrP.nl n4 y) hi1
            obtain ⟨u2, hx, p2, rfl, f2⟩ := all2_get (am3.imp fun _ _ y => FrP.nl n4 y) hi2
            have ea5 := b' a _ al (s4 _ _ ea3)
            have eb5 := b' b _ bl (s4 _ _ eb3)
            obtain ⟨hb, z1, z2, z3, z4⟩ := pair_ok ((nm _ (List.getElem_mem hi2)).ng j) (nw _ (List.getElem_mem hi1)).neg j7
            exact ⟨_, rfl, _, rfl, b, _, _, _, rfl, rfl, SqL.of eb5, atI_nat hx, _, rfl, _, rfl, a, _, _, _, rfl, rfl, SqL.of ea5, atI_nat hu, p1, _, _, V.int _, rfl, rfl, SqT.of f1, at_of (j := 0) rfl rfl, _, rfl,
              _, rfl, _, rfl, a, _, _, _, rfl, rfl, SqL.of ea5, atI_nat hu, p1, _, _, V.int _, rfl, rfl, SqT.of f1, at_of (j := 1) rfl rfl, by show 2 ≤ sizeLine; decide, fun t ht => ⟨p2, t, _, _, _, _, rfl, (new ht) _ _ f2, upd_same, hb, z1, z2, z3, z4,
                fun r H6 s6 _ pr => h r (Rt.plusF ms[i] (negF ws[i])) H6 ((new ht).trans s6) pr (by rw [sum_at hi2 (by rw [List.length_map]; exact hi1), List.getElem_map])⟩⟩
          · refine ⟨by show 2 ≤ sizeLine; decide, fun t ht => fin r D t _ zs H5 ((But.of s4).trans b5) s5 ((s3.same s4).ne nD) (qr.nl (b5.nl (s3.same s4))) e5 al5 lT ?_ ht⟩
            rw [sum_comm]
            exact sum_ng (fun n hn => by
              obtain ⟨m, hm, rfl⟩ := List.mem_map.mp hn
              exact (nw m hm).neg) nm
        | false =>
          refine iteF (nx_ ?_)
          clear h0
          obtain ⟨p6, rfl, f6⟩ := fn3
          have nbn : Nb n := hn.nm.nb
          refine ⟨_, rfl, rfl, _, rfl, ?_⟩
          cases h0 : decide (V.int d = V.int 3) with
          | true =>
            refine iteT ?_
            refine ⟨_, rfl, p, dx, _, rfl, e1, p, as, ws, rfl, qp3, nbw, lw, l8, fun r H4 s4 qr => ?_⟩
            refine row_lc negF rfl (s4 _ _ ea3) (aw3.imp fun _ _ y => y.same s4) l8 (fun _ => by rfl) (fun i p1 m H' Q' hm s' f1 h => ?_) (fun D zs H5 s5 nD e5 al5 => ?_)
            · exact ⟨_, rfl, p1, _, _, V.int m.1, rfl, rfl, SqT.of f1, at_of (j := 0) rfl rfl, _, rfl, _, rfl, p1, _, _, V.int m.2, rfl, rfl, SqT.of f1, at_of (j := 1) rfl rfl, by show 2 ≤ sizeLine; decide, fun t ht => h t _ (new ht) upd_same⟩
            · exact ⟨by show 2 ≤ sizeLine; decide, fun t ht => fin r D t _ zs H5 ((But.of s4).trans (But.of s5)) ((s3.same s4).same s5) ((s3.same s4).ne nD) (qr.same s5) e5 al5 (by rw [List.length_map]) (fun n hn => by
                obtain ⟨m, hm, rfl⟩ := List.mem_map.mp hn
                exact (nw m hm).neg.up) ht⟩
          | false =>
            refine iteF (nx_ ?_)
            clear h0
            refine ⟨_, rfl, rfl, _, rfl, ?_⟩
            cases h0 : decide (V.int d = V.int 4) with
            | true =>
              refine iteT ?_
              refine ⟨_, rfl, _, rfl, ?_⟩
              have nu' := nu
              rcases id nu with ⟨rfl, h1⟩ | ⟨q2, rfl, dq2, eq2⟩
              · refine .inr ⟨p, dx, _, n.1, rfl, rfl, e1, p, _, as, ws, n, rfl, qp3, nbw, nu', nbn, lw, l8, fun r H4 s4 qr => ?_⟩
                refine row_lc (fun m => Rt.byF m n) rfl (s4 _ _ ea3) (aw3.imp fun _ _ y => y.same s4) l8 (fun _ => by rfl) (fun i p1 m H' Q' hm s' f1 h => ?_) (fun D zs H5 s5 nD e5 al5 => ?_)
                · obtain ⟨hb, z1, z2, z3, z4⟩ := pair_ok (nw m (List.mem_of_getElem? hm)) (hn.nm.ng j) j7
                  exact ⟨_, rfl, _, rfl, p1, p6, _, _, _, _, rfl, f1, s' _ _ (s4 _ _ f6), hb, z1, z2, z3, z4, fun r2 H6 s6 _ pr => h r2 H6 s6 pr⟩
                · exact ⟨by show 2 ≤ sizeLine; decide, fun t ht => fin r D t _ zs H5 ((But.of s4).trans (But.of s5)) ((s3.same s4).same s5) ((s3.same s4).ne nD) (qr.same s5) e5 al5 (by rw [List.length_map]) (fun n' hn' => by
                    obtain ⟨m, hm, rfl⟩ := List.mem_map.mp hn'
                    exact (nw m hm).by_ hn) ht⟩
              · refine .inl ⟨p, dx, _, q2, dq2, _, rfl, rfl, e1, eq2, p, _, as, ws, n, rfl, qp3, nbw, nu', nbn, lw, l8, fun r H4 s4 qr => ?_⟩
                refine row_lc (fun m => Rt.byF m n) rfl (s4 _ _ ea3) (aw3.imp fun _ _ y => y.same s4) l8 (fun _ => by rfl) (fun i p1 m H' Q' hm s' f1 h => ?_) (fun D zs H5 s5 nD e5 al5 => ?_)
                · obtain ⟨hb, z1, z2, z3, z4⟩ := pair_ok (nw m (List.mem_of_getElem? hm)) (hn.nm.ng j) j7
                  exact ⟨_, rfl, _, rfl, p1, p6, _, _, _, _, rfl, f1, s' _ _ (s4 _ _ f6), hb, z1, z2, z3, z4, fun r2 H6 s6 _ pr => h r2 H6 s6 pr⟩
                · exact ⟨by show 2 ≤ sizeLine; decide, fun t ht => fin r D t _ zs H5 ((But.of s4).trans (But.of s5)) ((s3.same s4).same s5) ((s3.same s4).ne nD) (qr.same s5) e5 al5 (by rw [List.length_map]) (fun n' hn' => by
                    obtain ⟨m, hm, rfl⟩ := List.mem_map.mp hn'
                    exact (nw m hm).by_ hn) ht⟩
            | false =>
              refine iteF (nx_ ?_)
              clear h0
              refine ⟨_, rfl, rfl, _, rfl, ?_⟩
              cases h0 : decide (V.int d = V.int 5) with
              | true =>
                refine iteT (iteT ?_)
                refine ⟨_, rfl, _, rfl, ?_⟩
                have nu' := nu
                rcases id nu with ⟨rfl, h1⟩ | ⟨q2, rfl, dq2, eq2⟩
                · refine .inr ⟨n.1, p, dx, _, rfl, rfl, e1, p, _, as, ws, n, rfl, qp3, nbw, nu', nbn, lw, l8, fun r H4 s4 qr => ?_⟩
                  refine row_lc (fun m => Rt.byF m n) rfl (s4 _ _ ea3) (aw3.imp fun _ _ y => y.same s4) l8 (fun _ => by rfl) (fun i p1 m H' Q' hm s' f1 h => ?_) (fun D zs H5 s5 nD e5 al5 => ?_)
                  · obtain ⟨hb, z1, z2, z3, z4⟩ := pair_ok (nw m (List.mem_of_getElem? hm)) (hn.nm.ng j) j7
                    exact ⟨_, rfl, _, rfl, p1, p6, _, _, _, _, rfl, f1, s' _ _ (s4 _ _ f6), hb, z1, z2, z3, z4, fun r2 H6 s6 _ pr => h r2 H6 s6 pr⟩
                  · exact ⟨by show 2 ≤ sizeLine; decide, fun t ht => fin r D t _ zs H5 ((But.of s4).trans (But.of s5)) ((s3.same s4).same s5) ((s3.same s4).ne nD) (qr.same s5) e5 al5 (by rw [List.length_map]) (fun n' hn' => by
                      obtain ⟨m, hm, rfl⟩ := List.mem_map.mp hn'
                      exact (nw m hm).by_ hn) ht⟩
                · refine .inl ⟨q2, dq2, _, p, dx, _, rfl, rfl, eq2, e1, ⟨p, as, ws, rfl, qp3⟩, fun H35 s35 => ⟨p, _, as, ws, n, rfl, qp3.same s35, nbw, NumP.same s35 nu', nbn, lw, l8, fun r H4 s45 qr => ?_⟩⟩
                  have s4 := s35.trans s45
                  refine row_lc (fun m => Rt.byF m n) rfl (s4 _ _ ea3) (aw3.imp fun _ _ y => y.same s4) l8 (fun _ => by rfl) (fun i p1 m H' Q' hm s' f1 h => ?_) (fun D zs H5 s5 nD e5 al5 => ?_)
                  · obtain ⟨hb, z1, z2, z3, z4⟩ := pair_ok (nw m (List.mem_of_getElem? hm)) (hn.nm.ng j) j7
                    exact ⟨_, rfl, _, rfl, p1, p6, _, _, _, _, rfl, f1, s' _ _ (s4 _ _ f6), hb, z1, z2, z3, z4, fun r2 H6 s6 _ pr => h r2 H6 s6 pr⟩
                  · exact ⟨by show 2 ≤ sizeLine; decide, fun t ht => fin r D t _ zs H5 ((But.of s4).trans (But.of s5)) ((s3.same s4).same s5) ((s3.same s4).ne nD) (qr.same s5) e5 al5 (by rw [List.length_map]) (fun n' hn' => by
                      obtain ⟨m, hm, rfl⟩ := List.mem_map.mp hn'
                      exact (nw m hm).by_ hn) ht⟩
              | false =>
                refine iteF ?_
                clear h0
                refine ⟨_, rfl, p6, _, _, V.int n.1, rfl, rfl, SqT.of f6, at_of (j := 0) rfl rfl, rfl, _, rfl, ?_⟩
                cases h0 : decide (V.int n.1 = V.int 0) with
                | true =>
                  refine iteT ?_
                  refine ⟨_, rfl, _, rfl, ?_⟩
                  have nu' := nu
                  rcases id nu with ⟨rfl, h1⟩ | ⟨q2, rfl, dq2, eq2⟩
                  · refine .inr ⟨n.1, p, dx, _, rfl, rfl, e1, p, _, as, ws, n, rfl, qp3, nbw, nu', nbn, lw, l8, fun r H4 s4 qr => ?_⟩
                    refine row_lc (fun m => Rt.byF m n) rfl (s4 _ _ ea3) (aw3.imp fun _ _ y => y.same s4) l8 (fun _ => by rfl) (fun i p1 m H' Q' hm s' f1 h => ?_) (fun D zs H5 s5 nD e5 al5 => ?_)
                    · obtain ⟨hb, z1, z2, z3, z4⟩ := pair_ok (nw m (List.mem_of_getElem? hm)) (hn.nm.ng j) j7
                      exact ⟨_, rfl, _, rfl, p1, p6, _, _, _, _, rfl, f1, s' _ _ (s4 _ _ f6), hb, z1, z2, z3, z4, fun r2 H6 s6 _ pr => h r2 H6 s6 pr⟩
                    · exact ⟨by show 2 ≤ sizeLine; decide, fun t ht => fin r D t _ zs H5 ((But.of s4).trans (But.of s5)) ((s3.same s4).same s5) ((s3.same s4).ne nD) (qr.same s5) e5 al5 (by rw [List.length_map]) (fun n' hn' => by
                        obtain ⟨m, hm, rfl⟩ := List.mem_map.mp hn'
                        exact (nw m hm).by_ hn) ht⟩
                  · refine .inl ⟨q2, dq2, _, p, dx, _, rfl, rfl, eq2, e1, ⟨p, as, ws, rfl, qp3⟩, fun H35 s35 => ⟨p, _, as, ws, n, rfl, qp3.same s35, nbw, NumP.same s35 nu', nbn, lw, l8, fun r H4 s45 qr => ?_⟩⟩
                    have s4 := s35.trans s45
                    refine row_lc (fun m => Rt.byF m n) rfl (s4 _ _ ea3) (aw3.imp fun _ _ y => y.same s4) l8 (fun _ => by rfl) (fun i p1 m H' Q' hm s' f1 h => ?_) (fun D zs H5 s5 nD e5 al5 => ?_)
                    · obtain ⟨hb, z1, z2, z3, z4⟩ := pair_ok (nw m (List.mem_of_getElem? hm)) (hn.nm.ng j) j7
                      exact ⟨_, rfl, _, rfl, p1, p6, _, _, _, _, rfl, f1, s' _ _ (s4 _ _ f6), hb, z1, z2, z3, z4, fun r2 H6 s6 _ pr => h r2 H6 s6 pr⟩
                    · exact ⟨by show 2 ≤ sizeLine; decide, fun t ht => fin r D t _ zs H5 ((But.of s4).trans (But.of s5)) ((s3.same s4).same s5) ((s3.same s4).ne nD) (qr.same s5) e5 al5 (by rw [List.length_map]) (fun n' hn' => by
                        obtain ⟨m, hm, rfl⟩ := List.mem_map.mp hn'
                        exact (nw m hm).by_ hn) ht⟩
                | false =>
                  refine iteF (nx_ ?_)
                  have nz : n.1 ≠ 0 := fun z => absurd (congrArg V.int z) (of_decide_eq_false h0)
                  refine ⟨_, rfl, p, dx, _, rfl, e1, noq_over, _, rfl, p, _, as, ws, n, rfl, qp3, nbw, nu, nbn, lw, l8, l1, .inr ⟨nz, fun r H4 s4 qr => ?_⟩⟩
                  refine row_lc (fun m => overF m n) rfl (s4 _ _ ea3) (aw3.imp fun _ _ y => y.same s4) l8 (fun _ => by rfl) (fun i p1 m H' Q' hm s' f1 h => ?_) (fun D zs H5 s5 nD e5 al5 => ?_)
                  · have nm1 := nw m (List.mem_of_getElem? hm)
                    have f6' := s' _ _ (s4 _ _ f6)
                    have q0 := (Rt.nrm_low (p := n.2) nz).pos
                    obtain ⟨y1, y2⟩ := Rt.nrm_le (p := n.2) nz
                    have t5 := hn.top
                    have b4 := hn.bot
                    refine ⟨_, rfl, _, rfl, p6, _, _, V.int n.2, rfl, rfl, SqT.of f6', at_of (j := 1) rfl rfl, _, rfl, p6, _, _, V.int n.1, rfl, rfl, SqT.of f6', at_of (j := 0) rfl rfl, n.2, n.1, rfl, nz, ?_, fun p7 H6 s6 _ pr7 => ?_⟩
                    · exact Nat.lt_of_le_of_lt t5 (by decide +kernel)
                    · refine ⟨p1, p7, m.1, m.2, _, _, rfl, s6 _ _ f1, pr7, Int.mul_ne_zero (Int.ne_of_gt nm1.low.pos) (Int.ne_of_gt q0), nm1.t.mono (by omega), nm1.b.mono (by omega), ?_, ?_, fun r2 H7 s7 _ pr => h r2 H7 (s6.trans s7) ?_⟩
                      · exact Nat.lt_of_le_of_lt (Nat.le_trans y1 b4) (by decide +kernel)
                      · exact Nat.lt_of_le_of_lt (Nat.le_trans y2 t5) (by decide +kernel)
                      · have e := over_by (m := m) (n := n) (Int.ne_of_gt nm1.low.pos) nz
                        show H7 r2 = some (.tup [.int (overF m n).1, .int (overF m n).2])
                        rw [e]
                        exact pr
                  · exact ⟨by show 2 ≤ sizeLine; decide, fun t ht => fin r D t _ zs H5 ((But.of s4).trans (But.of s5)) ((s3.same s4).same s5) ((s3.same s4).ne nD) (qr.same s5) e5 al5 (by rw [List.length_map]) (fun n' hn' => by
                      obtain ⟨m, hm, rfl⟩ := List.mem_map.mp hn'
                      exact (nw m hm).over hn nz) ht⟩
end
end K6

set_option Elab.async false
set_option linter.all false
set_option maxRecDepth 100000
set_option maxHeartbeats 8000000
/-! law k07: another grid -/
namespace K6
open PySem L2 TL KG
def zzAx : List Ax := [("zz", ["z"])]
theorem cells_zz : (cellsL zzAx).length = 1 := by decide +kernel
theorem namZz : NameS "zz" := by
  have e : tl ("zz" : Str) = [122, 122] := by decide +kernel
  refine ⟨⟨by rw [e]; decide, by rw [e]; decide, fun c h => ?_, fun c h => ?_⟩, by decide +kernel, by decide +kernel⟩
  · rw [e] at h
    cases h
    exact ⟨by decide, by decide⟩
  · rw [e] at h
    rw [show c = 122 by simpa using h]
    exact .inl ⟨by decide, by decide⟩
theorem namZ : NameS "z" := by
  have e : tl ("z" : Str) = [122] := by decide +kernel
  refine ⟨⟨by rw [e]; decide, by rw [e]; decide, fun c h => ?_, fun c h => ?_⟩, by decide +kernel, by decide +kernel⟩
  · rw [e] at h
    cases h
    exact ⟨by decide, by decide⟩
  · rw [e] at h
    rw [List.mem_singleton.mp h]
    exact .inl ⟨by decide, by decide⟩
theorem ax_zz : AxOk zzAx := by
  intro a ha
  rw [List.mem_singleton.mp ha]
  exact ⟨namZz, fun m hm => by rw [List.mem_singleton.mp hm]; exact namZ⟩
theorem right_zz {H : Hp} {x t m : Addr} (ex : H x = some (.lst [.ref t])) (et : H t = some (.tup [.str "zz", .ref m])) (em : H m = some (.lst [.str "z"])) : Kn 3 H (.ref x) ∧ Right H (.ref x) zzAx := by
  have rm : Row H (.ref m) [.str "z"] := ⟨m, rfl, .inl em⟩
  have rt : Row H (.ref t) [.str "zz", .ref m] := ⟨t, rfl, .inr et⟩
  have rx : Row H (.ref x) [.ref t] := ⟨x, rfl, .inl ex⟩
  have kS : ∀ (n : Nat) (z : Str), z.length ≤ 100 → Kn n H (.str z) := fun n z l => by
    have q : NoRow H (.str z) ∧ ∀ y, V.str z = .str y → y.length ≤ 100 := ⟨.inr (.inr (.inr (.inl ⟨z, rfl⟩))), fun y e => by cases e; exact l⟩
    cases n with
    | zero => exact .inr q
    | succ n => exact .inr q
  have kM : Kn 1 H (.ref m) := .inl ⟨_, rm, by show 1 ≤ 100; decide, fun y hy => by rw [List.mem_singleton.mp hy]; exact kS 0 _ (by decide +kernel)⟩
  have kT : Kn 2 H (.ref t) := .inl ⟨_, rt, by show 2 ≤ 100; decide, fun y hy => by
    rcases List.mem_cons.mp hy with rfl | hy
    · exact kS 1 _ (by decide +kernel)
    · rw [List.mem_singleton.mp hy]
      exact kM⟩
  refine ⟨.inl ⟨_, rx, by show 1 ≤ 100; decide, fun y hy => by rw [List.mem_singleton.mp hy]; exact kT⟩, [(.str "zz", .ref m)], ⟨_, rx, rfl, fun i v p h1 h2 => ?_⟩, ⟨by show 1 ≤ 1; decide, by show 1 ≤ 3; decide⟩, ⟨fun p hp => ?_, ?_⟩, fun p hp => ?_, ⟨rfl, fun i p a h1 h2 => ?_⟩, by rw [cells_zz]; decide⟩
  · cases i with
    | zero =>
      cases h1
      cases h2
      exact rt
    | succ i => simp at h1
  · rw [List.mem_singleton.mp hp]
    exact ⟨"zz", rfl, namZz⟩
  · exact List.nodup_cons.mpr ⟨List.not_mem_nil, List.nodup_nil⟩
  · rw [List.mem_singleton.mp hp]
    exact ⟨_, rm, by simp, fun y hy => by rw [List.mem_singleton.mp hy]; exact ⟨"z", rfl, namZ⟩, List.nodup_cons.mpr ⟨List.not_mem_nil, List.nodup_nil⟩, by show 1 ≤ 4; decide⟩
  · cases i with
    | zero =>
      cases h1
      cases h2
      exact ⟨rfl, rm⟩
    | succ i => simp at h1
end K6

set_option Elab.async false
set_option linter.all false
set_option maxRecDepth 100000
set_option maxHeartbeats 4000000
/-! law k06: what its main def asks -/
namespace K6
open PySem L2 TL KG
theorem upto (z : Int) (h : 0 ≤ z) : 1 ≤ (if (if (7 : Int) < z then 7 else z) > 2 then (if (7 : Int) < z then 7 else z) else 2) ∧ (if (if (7 : Int) < z then 7 else z) > 2 then (if (7 : Int) < z then 7 else z) else 2) ≤ 7 := by
  constructor <;> (repeat' split) <;> omega
theorem axes_right {H : Hp} {v : V} {as : List Ax} (av : AxesAt H v as) (g : GoodAx as) : Right H v as := by
  obtain ⟨p, us, rfl, e, al⟩ := av
  exact good_right g ⟨p, rfl, .inr e⟩ (al.imp fun _ _ h => h.row)
theorem name_short {z : Str} (h : NameS z) : z.length ≤ 100 := by
  have := h.1.hi
  rw [len_tl]
  omega
theorem axes_kn {H : Hp} {v : V} {as : List Ax} (av : AxesAt H v as) (g : GoodAx as) : Kn 3 H v := by
  obtain ⟨p, us, rfl, e, al⟩ := av
  have kS : ∀ (n : Nat) (z : Str), z.length ≤ 100 → Kn n H (.str z) := fun n z l => by
    have q : NoRow H (.str z) ∧ ∀ y, V.str z = .str y → y.length ≤ 100 := ⟨.inr (.inr (.inr (.inl ⟨z, rfl⟩))), fun y e => by cases e; exact l⟩
    cases n with
    | zero => exact .inr q
    | succ n => exact .inr q
  have hi := g.hi
  refine .inl ⟨us, ⟨p, rfl, .inr e⟩, by rw [al.1]; omega, fun u hu => ?_⟩
  obtain ⟨j, hj⟩ := List.mem_iff_getElem?.mp hu
  have lt := (List.getElem?_eq_some_iff.mp hj).1
  obtain ⟨a, ha⟩ : ∃ a, as[j]? = some a := ⟨_, List.getElem?_eq_getElem (by rw [← al.1]; exact lt)⟩
  obtain ⟨q, m, rfl, hq, hm⟩ := al.2 j u a hj ha
  have am := List.mem_of_getElem? ha
  have ok := g.ok a am
  have ms := (g.ms a am).2.2
  refine .inl ⟨_, ⟨q, rfl, .inr hq⟩, by show 2 ≤ 100; decide, fun y hy => ?_⟩
  rcases List.mem_cons.mp hy with rfl | hy
  · exact kS 1 _ (name_short ok.1)
  · rw [List.mem_singleton.mp hy]
    refine .inl ⟨_, ⟨m, rfl, .inr hm⟩, by rw [List.length_map]; omega, fun y hy => ?_⟩
    obtain ⟨z, hz, rfl⟩ := List.mem_map.mp hy
    exact kS 0 _ (name_short (ok.2 z hz))
theorem cells_some {as : List Ax} (h : ∀ a ∈ as, a.2 ≠ []) : cellsL as ≠ [] := by
  have go : ∀ (as : List Ax) (cs : List (List Str)), (∀ a ∈ as, a.2 ≠ []) → cs ≠ [] → as.foldl (fun cs a => longer cs a.2) cs ≠ [] := by
    intro as
    induction as with
    | nil => intro cs _ h; exact h
    | cons a r ih =>
      intro cs ha hc
      rw [List.foldl_cons]
      refine ih _ (fun b hb => ha b (List.mem_cons_of_mem _ hb)) fun e => ?_
      have l := longer_len cs a.2
      rw [e] at l
      have p1 := List.length_pos_iff.mpr hc
      have p2 := List.length_pos_iff.mpr (ha a List.mem_cons_self)
      have := Nat.mul_pos p1 p2
      rw [← l] at this
      exact absurd this (by decide)
  exact go as [[]] h (by simp)
theorem sql_same {K : PySem.W.Frag} {H H' : Hp} {a : Addr} {xs : List V} (s : Same H H') (h : SqL K H a xs) : SqL K H' a xs := by
  rcases h with (h | ⟨o, h⟩) | h
  · exact .inl (.inl (s _ _ h))
  · exact .inl (.inr ⟨o, s _ _ h⟩)
  · exact .inr h
theorem same_upd {H0 H : Hp} {r : Addr} {o : HO} (s : Same H0 H) (n : H0 r = none) : Same H0 (upd H r o) := fun a u e => by
  rw [upd_ne (ne_of_none e n)]
  exact s _ _ e
theorem rep_flat {α : Type} (n : Nat) (x : α) : (List.replicate n [x]).flatten = List.replicate n x := by
  induction n with
  | zero => rfl
  | succ n ih => rw [List.replicate_succ, List.flatten_cons, ih]; rfl
theorem nm_zero : Nm (0, 1) := ⟨⟨by decide, by decide⟩, by decide, by decide⟩
theorem zero_iff {n : Fr} (h : Nm n) : zeroF n = decide (n.1 = 0) := by
  unfold zeroF
  rcases Decidable.em (n.1 = 0) with e | e
  · have c := h.low.cop
    have p := h.low.pos
    rw [e, Int.natAbs_zero, Nat.gcd_zero_left] at c
    rw [decide_eq_true e, decide_eq_true (show n.2 = 1 by omega)]
    rfl
  · rw [decide_eq_false e]
    rfl
theorem nrm_self {n : Fr} (h : Nm n) : nrmF n = n := Prod.ext (Rt.nrm_of_low h.low).1 (Rt.nrm_of_low h.low).2
theorem nrm_other : (nrmF (12345, 678910)).2 = 135782 := by decide +kernel
end K6

set_option Elab.async false
set_option linter.all false
set_option maxRecDepth 100000
set_option maxHeartbeats 4000000
/-! what the top has left: common to the laws over grids, ratios, questions -/
namespace K6
open PySem L2 TL KG He
abbrev Lk (K : PySem.W.Frag) (f : Addr) (o : Obj) : Prop := K.lookup f = some o
/-- a def without defaults stands at f -/
theorem fnp {K : PySem.W.Frag} {x q : Str} {st : Stmt} {f : Addr} {oc : Value} {od an : Option Addr} {osl : Array (Option Value)} {kV doc pm cdv ct : Value}
    (l : K.lookup f = some ⟨oc, od, .func (PySem.W.fnOf x q (defArgs st) (defBody st) (defScope st) .none kV doc pm an cdv ct), osl⟩) (c : PySem.W.codeIn K cdv q = true) (k : PySem.W.keepIn K (.ref f) = true) : ∃ fd, FnP K x q st [] f fd :=
  ⟨_, ⟨oc, od, .none, kV, doc, pm, an, cdv, ct, osl, rfl, l, c, .inl ⟨rfl, rfl⟩, .inl rfl⟩, k⟩
/-- a global def -/
def GF (K : PySem.W.Frag) (x : Str) (st : Stmt) : Prop := ∃ f, PySem.W.nsIn K mainGlobals x = some (some (.ref f)) ∧ ∃ fd, FnP K x x st [] f fd
/-- a method of C -/
def MF (K : PySem.W.Frag) (C : Addr) (x q : Str) (st : Stmt) : Prop := ∃ f, PySem.W.findIn K (.ref C) x = some (some (.ref f)) ∧ PySem.W.isFn K (.ref f) = true ∧ ∃ fd, FnP K x q st [] f fd
section
variable {P : Program} {w : World} {K : PySem.W.Frag} {mg : Str → Option Value} {base h : Heap} {CX : CXT} {k : Nat} {x q : Str} {ps : List Str} {st : Stmt} {sp : Sp} {C : Addr}
theorem GF.ok (g : GF K x st) (X : K.In h) (G : h.Ns mainGlobals mg) (ok : ∀ f fd, FnP K x x st [] f fd → FnOk P w K mg base CX k f fd ps sp)
    (b : ∀ (kV doc pm : Value) (an : Option Addr) (cdv ct : Value) (us : List Value), us.length = ps.length → bindArgs (PySem.W.fnOf x x (defArgs st) (defBody st) (defScope st) .none kV doc pm an cdv ct) ⟨us, []⟩ = pure (ps.zip us)) : GloOk P w K mg base CX k x ps sp := by
  obtain ⟨f, a, fd, F⟩ := g
  exact ⟨f, fd, ok f fd F, PySem.W.mg_of X G a, F.kp, F.bindsN b⟩
theorem MF.ok (g : MF K C x q st) (ok : ∀ f fd, FnP K x q st [] f fd → FnOk P w K mg base CX k f fd ps sp)
    (b : ∀ (kV doc pm : Value) (an : Option Addr) (cdv ct : Value) (us : List Value), us.length = ps.length → bindArgs (PySem.W.fnOf x q (defArgs st) (defBody st) (defScope st) .none kV doc pm an cdv ct) ⟨us, []⟩ = pure (ps.zip us)) : MthOk P w K mg base C CX k x ps sp := by
  obtain ⟨f, a, i, fd, F⟩ := g
  exact ⟨f, fd, ok f fd F, ⟨a, i, F.kp⟩, F.bindsN b⟩
theorem MF.meth (g : MF K C x q st) : ∃ f, Meth K C x f := by
  obtain ⟨f, a, i, fd, F⟩ := g
  exact ⟨f, a, i, F.kp⟩
end
theorem kit_sub {K : PySem.W.Frag} {C : Addr} {n : String} {b : Bool} (h : PySem.W.subIn K (.ref C) (.type n) = some b) (hm : PySem.W.kitMeta n = true) : PySem.W.kitOne K (.ref C) (.type n) = some b := by
  unfold PySem.W.kitOne
  rw [if_neg (by simp)]
  show (if PySem.W.kitMeta n = true then PySem.W.subIn K (.ref C) (.type n) else none) = some b
  rw [if_pos hm]
  exact h
theorem kit_cl {K : PySem.W.Frag} {C : Addr} {t : Value} {b : Bool} (hc : PySem.W.isClsIn K C = true) (ht : PySem.W.typeIn K (.ref C) = some (.type "type")) (h : PySem.W.subIn K t (.ref C) = some b) : PySem.W.kitCls K t (.ref C) = some b := by
  have e : ((PySem.W.clsIn K C).isSome && PySem.W.typeIn K (.ref C) == some (.type "type")) = true := by
    rw [show (PySem.W.clsIn K C).isSome = true from hc, ht] <;> rfl
  show (if ((PySem.W.clsIn K C).isSome && PySem.W.typeIn K (.ref C) == some (.type "type")) = true then PySem.W.subIn K t (.ref C) else none) = some b
  rw [if_pos e]
  exact h
theorem kit_tyc {K : PySem.W.Frag} {C : Addr} {n : String} {b : Bool} (hc : PySem.W.isClsIn K C = true) (ht : PySem.W.typeIn K (.ref C) = some (.type "type")) (h : PySem.W.subIn K (.type n) (.ref C) = some b) : PySem.W.kitOne K (.type n) (.ref C) = some b := by
  unfold PySem.W.kitOne
  rw [if_neg (by simp)]
  exact kit_cl hc ht h
theorem exm_own {K : PySem.W.Frag} {S : Addr} (h1 : PySem.W.subIn K (.ref S) (.type "BaseException") = some true) (h2 : PySem.W.isClsIn K S = true) (h3 : PySem.W.typeIn K (.ref S) = some (.type "type")) (h4 : PySem.W.subIn K (.ref S) (.ref S) = some true) :
    PySem.W.exmOne K (.ref S) (.ref S) = some true := by
  have e1 : (PySem.W.subIn K (.ref S) (.type "BaseException") == some true) = true := by rw [h1] <;> rfl
  have e2 : ((PySem.W.clsIn K S).isSome && PySem.W.typeIn K (.ref S) == some (.type "type")) = true := by
    rw [show (PySem.W.clsIn K S).isSome = true from h2, h3] <;> rfl
  show (if (PySem.W.subIn K (.ref S) (.type "BaseException") == some true) = true then (if ((PySem.W.clsIn K S).isSome && PySem.W.typeIn K (.ref S) == some (.type "type")) = true then PySem.W.subIn K (.ref S) (.ref S) else none) else none) = some true
  rw [if_pos e1, if_pos e2]
  exact h4
theorem fnp1 {K : PySem.W.Frag} {x q : Str} {st : Stmt} {f T : Addr} {oc oc' : Value} {od an od' : Option Addr} {osl osl' : Array (Option Value)} {kV doc pm cdv ct : Value} {i : Int} {t : Tok} {n : Nat}
    (l : K.lookup f = some ⟨oc, od, .func (PySem.W.fnOf x q (defArgs st) (defBody st) (defScope st) (.ref T) kV doc pm an cdv ct), osl⟩) (c : PySem.W.codeIn K cdv q = true) (k : PySem.W.keepIn K (.ref f) = true)
    (lT : K.lookup T = some ⟨oc', od', .seq #[.int i t] n, osl'⟩) : ∃ fd, FnP K x q st [.int i] f fd :=
  ⟨_, ⟨oc, od, .ref T, kV, doc, pm, an, cdv, ct, osl, rfl, l, c, .inr ⟨List.cons_ne_nil _ _, T, _, [.int i t], n, rfl, lT, rfl, .cons ⟨t, rfl⟩ .nil⟩, .inl rfl⟩, k⟩

theorem kit_rr {K : PySem.W.Frag} {C D : Addr} {b : Bool} (n : D ≠ C) (hc : PySem.W.isClsIn K C = true) (ht : PySem.W.typeIn K (.ref C) = some (.type "type")) (h : PySem.W.subIn K (.ref D) (.ref C) = some b) : PySem.W.kitOne K (.ref D) (.ref C) = some b := by
  unfold PySem.W.kitOne
  rw [if_neg (fun z => n (by have := eq_of_beq z; injection this))]
  exact kit_cl hc ht h
/-- a class of one's own -/
structure CF (K : PySem.W.Frag) (C : Addr) : Prop where
  pg : PySem.W.plainGet K C Str.empty = true
  hd : PySem.W.hasDictIn K C = true
  po : PySem.W.plainOver K C = true
  sa : PySem.W.findIn K (.ref C) "__setattr__" = some (some (.builtin "object.__setattr__"))
  mks : PySem.W.makesIn K C = true
  kc : PySem.W.keepIn K (.ref C) = true
  ca : PySem.W.findIn K (.ref C) "__class__" = some (some (.builtin "object.__class__"))
  cm : PySem.W.mroIn K C (.type "object") = some true
  ic : PySem.W.isClsIn K C = true
  ty : PySem.W.typeIn K (.ref C) = some (.type "type")
  ne : PySem.W.findIn K (.ref C) "__ne__" = some (some (.builtin "object.__ne__"))
  oL : PySem.W.subIn K (.ref C) (.type "list") = some false
  oT : PySem.W.subIn K (.ref C) (.type "tuple") = some false
  oI : PySem.W.subIn K (.ref C) (.type "int") = some false
  oB : PySem.W.subIn K (.ref C) (.type "bool") = some false
  iN : PySem.W.subIn K (.type "NoneType") (.ref C) = some false
  iB : PySem.W.subIn K (.type "bool") (.ref C) = some false
  iI : PySem.W.subIn K (.type "int") (.ref C) = some false
  iS : PySem.W.subIn K (.type "str") (.ref C) = some false
  iD : PySem.W.subIn K (.type "dict") (.ref C) = some false
  iL : PySem.W.subIn K (.type "list") (.ref C) = some false
  iT : PySem.W.subIn K (.type "tuple") (.ref C) = some false
theorem CF.cl {K : PySem.W.Frag} {C : Addr} (c : CF K C) : Cl K C where
  oL := kit_sub c.oL (by decide +kernel)
  oT := kit_sub c.oT (by decide +kernel)
  oI := kit_sub c.oI (by decide +kernel)
  oB := kit_sub c.oB (by decide +kernel)
  iN := kit_tyc c.ic c.ty c.iN
  iB := kit_tyc c.ic c.ty c.iB
  iI := kit_tyc c.ic c.ty c.iI
  iS := kit_tyc c.ic c.ty c.iS
  iD := kit_tyc c.ic c.ty c.iD
  iL := kit_tyc c.ic c.ty c.iL
  iT := kit_tyc c.ic c.ty c.iT
/-- what else is asked of each class -/
structure XF (K : PySem.W.Frag) (Cg Cr Cq : Addr) : Prop where
  cn : PySem.W.specialIn K (.builtin "object.__class__") "__get__" = some (some (.builtin "getset_descriptor.__get__"))
  ct : PySem.W.takesIn K (.builtin "object.__class__") = some true
  gA : PySem.W.findIn K (.ref Cg) "axes" = some none
  gC : PySem.W.findIn K (.ref Cg) "cells" = some none
  gS : PySem.W.findIn K (.ref Cg) "size" = some none
  rT : PySem.W.findIn K (.ref Cr) "top" = some none
  rB : PySem.W.findIn K (.ref Cr) "bottom" = some none
  sf : PySem.W.selfFirst K Cr = true
  qG : PySem.W.findIn K (.ref Cq) "grid" = some none
  qW : PySem.W.findIn K (.ref Cq) "weights" = some none
  gr : PySem.W.subIn K (.ref Cg) (.ref Cr) = some false
  rg : PySem.W.subIn K (.ref Cr) (.ref Cg) = some false
/-- the class of an error, and the one above it -/
structure EF (K : PySem.W.Frag) (E B : Addr) : Prop where
  sa : PySem.W.findIn K (.ref E) "__setattr__" = some (some (.builtin "object.__setattr__"))
  ex : PySem.W.subIn K (.ref E) (.type "BaseException") = some true
  ty : PySem.W.typeIn K (.ref E) = some (.type "type")
  kE : PySem.W.keepIn K (.ref E) = true
  noW : PySem.W.findIn K (.ref E) "word" = some none
  ga : PySem.W.findIn K (.ref E) "__getattribute__" = some (some (.builtin "BaseException.__getattribute__"))
  gg : PySem.W.findIn K (.ref E) "__getattr__" = some none
  hd : PySem.W.hasDictIn K E = true
  ic : PySem.W.isClsIn K E = true
  se : PySem.W.subIn K (.ref E) (.ref E) = some true
  ib : PySem.W.isClsIn K B = true
  tb : PySem.W.typeIn K (.ref B) = some (.type "type")
  sb : PySem.W.subIn K (.ref E) (.ref B) = some true
/-- the class NoAmounts -/
structure NEF (K : PySem.W.Frag) (N : Addr) : Prop where
  q : PySem.W.excIn K N [.type "ValueError", .type "Exception", .type "BaseException", .type "object"] "ValueError.__new__" = true
  kN : PySem.W.keepIn K (.ref N) = true
  ex : PySem.W.subIn K (.ref N) (.type "BaseException") = some true
  ty : PySem.W.typeIn K (.ref N) = some (.type "type")
  ic : PySem.W.isClsIn K N = true
  se : PySem.W.subIn K (.ref N) (.ref N) = some true
structure IF (K : PySem.W.Frag) : Prop where
  a : PySem.W.findIn K (.type "int") "__add__" = some (some (.builtin "int.__add__"))
  ra : PySem.W.findIn K (.type "int") "__radd__" = some (some (.builtin "int.__radd__"))
  s : PySem.W.findIn K (.type "int") "__sub__" = some (some (.builtin "int.__sub__"))
  rs : PySem.W.findIn K (.type "int") "__rsub__" = some (some (.builtin "int.__rsub__"))
  m : PySem.W.findIn K (.type "int") "__mul__" = some (some (.builtin "int.__mul__"))
  rm : PySem.W.findIn K (.type "int") "__rmul__" = some (some (.builtin "int.__rmul__"))
structure NF (K : PySem.W.Frag) : Prop where
  gcd : PySem.W.nsIn K mainGlobals "gcd" = some (some (.builtin "math.gcd"))
  lcm : PySem.W.nsIn K mainGlobals "lcm" = some (some (.builtin "math.lcm"))
  isinst : PySem.W.nsIn K mainGlobals "isinstance" = some none
  int : PySem.W.nsIn K mainGlobals "int" = some none
  str : PySem.W.nsIn K mainGlobals "str" = some none
  list : PySem.W.nsIn K mainGlobals "list" = some none
  tuple : PySem.W.nsIn K mainGlobals "tuple" = some none
  set : PySem.W.nsIn K mainGlobals "set" = some none
  abs : PySem.W.nsIn K mainGlobals "abs" = some none
  len : PySem.W.nsIn K mainGlobals "len" = some none
  range : PySem.W.nsIn K mainGlobals "range" = some none
  min : PySem.W.nsIn K mainGlobals "min" = some none
  all : PySem.W.nsIn K mainGlobals "all" = some none
  any : PySem.W.nsIn K mainGlobals "any" = some none
  enum : PySem.W.nsIn K mainGlobals "enumerate" = some none
  zip : PySem.W.nsIn K mainGlobals "zip" = some none
  repr : PySem.W.nsIn K mainGlobals "repr" = some none
  max : PySem.W.nsIn K mainGlobals "max" = some none
  sum : PySem.W.nsIn K mainGlobals "sum" = some none
  bool : PySem.W.nsIn K mainGlobals "bool" = some none
theorem txt_mk {K : PySem.W.Frag} {h : Heap} {mg : Str → Option Value} (X : K.In h) (G : h.Ns mainGlobals mg) (n : NF K) : Txt K mg where
  isinst := PySem.W.mg_none_of X G n.isinst
  int := PySem.W.mg_none_of X G n.int
  str := PySem.W.mg_none_of X G n.str
  list := PySem.W.mg_none_of X G n.list
  tuple := PySem.W.mg_none_of X G n.tuple
  set := PySem.W.mg_none_of X G n.set
  abs := PySem.W.mg_none_of X G n.abs
  len := PySem.W.mg_none_of X G n.len
  range := PySem.W.mg_none_of X G n.range
  min := PySem.W.mg_none_of X G n.min
  all := PySem.W.mg_none_of X G n.all
  any := PySem.W.mg_none_of X G n.any
  enum := PySem.W.mg_none_of X G n.enum
  zip := PySem.W.mg_none_of X G n.zip
  repr := PySem.W.mg_none_of X G n.repr
  max := PySem.W.mg_none_of X G n.max
theorem gtxt_mk {K : PySem.W.Frag} {h : Heap} {mg : Str → Option Value} {Cg Cr Cq E B : Addr} (X : K.In h) (G : h.Ns mainGlobals mg) (aC : PySem.W.nsIn K mainGlobals "Grid" = some (some (.ref Cg))) (aE : PySem.W.nsIn K mainGlobals "NoGrid" = some (some (.ref E))) (aB : PySem.W.nsIn K mainGlobals "ToldError" = some (some (.ref B))) (ne : E ≠ B)
    (c : CF K Cg) (x : XF K Cg Cr Cq) (e : EF K E B)
    {nm q : Str} {N : Addr} {bs bm : List Value} {sn : List Str} {sub : List Value} {ab : Bool} {col : Option Bool} {dd : Option Addr} {m0 m1 m2 m3 m5 : Option Value}
    (xL : K.lookup E = some (excClassObj nm q E N bs bm true sn sub ab col dd m0 m1 m2 m3 m5 "ValueError.__new__")) (rf : PySem.HandSPX.refsVE bm = true) : GTxt K mg Cg E B where
  cl := ⟨c.pg, c.hd, c.po, c.sa⟩
  nA := x.gA
  nC := x.gC
  nS := x.gS
  mgC := PySem.W.mg_of X G aC
  ca := c.ca
  cn := x.cn
  ct := x.ct
  cm := c.cm
  ox := ⟨⟨nm, q, N, bs, bm, sn, sub, ab, col, dd, m0, m1, m2, m3, m5, xL, rf⟩, e.sa, e.ex, e.ty, e.kE⟩
  mgE := PySem.W.mg_of X G aE
  noW := e.noW
  xf := ⟨e.ga, e.gg, e.ex, e.hd⟩
  exm := exm_own e.ex e.ic e.ty e.se
  up := kit_cl e.ib e.tb e.sb
  neB := ne
  mgB := PySem.W.mg_of X G aB
theorem rtxt_mk {K : PySem.W.Frag} {h : Heap} {mg : Str → Option Value} {Cg Cr Cq E B : Addr} (X : K.In h) (G : h.Ns mainGlobals mg) (aC : PySem.W.nsIn K mainGlobals "Ratio" = some (some (.ref Cr))) (aE : PySem.W.nsIn K mainGlobals "NoRatio" = some (some (.ref E))) (aB : PySem.W.nsIn K mainGlobals "ToldError" = some (some (.ref B))) (ne : E ≠ B)
    (c : CF K Cr) (x : XF K Cg Cr Cq) (e : EF K E B) (i : IF K) (n : NF K)
    {nm q : Str} {N : Addr} {bs bm : List Value} {sn : List Str} {sub : List Value} {ab : Bool} {col : Option Bool} {dd : Option Addr} {m0 m1 m2 m3 m5 : Option Value}
    (xL : K.lookup E = some (excClassObj nm q E N bs bm true sn sub ab col dd m0 m1 m2 m3 m5 "ValueError.__new__")) (rf : PySem.HandSPX.refsVE bm = true) : KR.Txt K mg Cr E B where
  cl := ⟨c.pg, c.hd, c.po, c.sa⟩
  nT := x.rT
  nB := x.rB
  mgC := PySem.W.mg_of X G aC
  own := ⟨x.sf, c.iI, c.oI⟩
  ca := c.ca
  cn := x.cn
  ct := x.ct
  cm := c.cm
  rInt := kit_sub c.oI (by decide +kernel)
  rBool := kit_sub c.oB (by decide +kernel)
  iC := kit_tyc c.ic c.ty c.iI
  ox := ⟨⟨nm, q, N, bs, bm, sn, sub, ab, col, dd, m0, m1, m2, m3, m5, xL, rf⟩, e.sa, e.ex, e.ty, e.kE⟩
  mgE := PySem.W.mg_of X G aE
  noW := e.noW
  xf := ⟨e.ga, e.gg, e.ex, e.hd⟩
  exm := exm_own e.ex e.ic e.ty e.se
  up := kit_cl e.ib e.tb e.sb
  neB := ne
  mgB := PySem.W.mg_of X G aB
  iAdd := i.a
  iRadd := i.ra
  iSub := i.s
  iRsub := i.rs
  iMul := i.m
  iRmul := i.rm
  gcd := PySem.W.mg_of X G n.gcd
  isinst := PySem.W.mg_none_of X G n.isinst
  int := PySem.W.mg_none_of X G n.int
  bool := PySem.W.mg_none_of X G n.bool
  abs := PySem.W.mg_none_of X G n.abs
  len := PySem.W.mg_none_of X G n.len
  range := PySem.W.mg_none_of X G n.range
  max := PySem.W.mg_none_of X G n.max
  min := PySem.W.mg_none_of X G n.min
  all := PySem.W.mg_none_of X G n.all
theorem qtxt_mk {K : PySem.W.Frag} {h : Heap} {mg : Str → Option Value} {Cg Cr Cq Eg Er Eq En B : Addr} (X : K.In h) (G : h.Ns mainGlobals mg) (g : GTxt K mg Cg Eg B) (r : KR.Txt K mg Cr Er B) (nGR : Cg ≠ Cr) (cG : CF K Cg) (cR : CF K Cr) (cQ : CF K Cq) (x : XF K Cg Cr Cq) (e : EF K Eq B) (m : NEF K En) (n : NF K)
    (aQ : PySem.W.nsIn K mainGlobals "Question" = some (some (.ref Cq))) (aE : PySem.W.nsIn K mainGlobals "NoQuestion" = some (some (.ref Eq))) (aN : PySem.W.nsIn K mainGlobals "NoAmounts" = some (some (.ref En))) (ne : Eq ≠ B)
    {nm q : Str} {N : Addr} {bs bm : List Value} {sn : List Str} {sub : List Value} {ab : Bool} {col : Option Bool} {dd : Option Addr} {m0 m1 m2 m3 m5 : Option Value}
    (xL : K.lookup Eq = some (excClassObj nm q Eq N bs bm true sn sub ab col dd m0 m1 m2 m3 m5 "ValueError.__new__")) (rf : PySem.HandSPX.refsVE bm = true) : QTxt K mg Cg Cr Cq Eg Er Eq En B where
  g := g
  r := r
  cG := cG.cl
  cR := cR.cl
  cQ := cQ.cl
  gr := kit_rr nGR cR.ic cR.ty x.gr
  rg := kit_rr (Ne.symm nGR) cG.ic cG.ty x.rg
  cl := ⟨cQ.pg, cQ.hd, cQ.po, cQ.sa⟩
  nG := x.qG
  nW := x.qW
  mgQ := PySem.W.mg_of X G aQ
  ca := cQ.ca
  cm := cQ.cm
  ox := ⟨⟨nm, q, N, bs, bm, sn, sub, ab, col, dd, m0, m1, m2, m3, m5, xL, rf⟩, e.sa, e.ex, e.ty, e.kE⟩
  mgE := PySem.W.mg_of X G aE
  noW := e.noW
  xf := ⟨e.ga, e.gg, e.ex, e.hd⟩
  exm := exm_own e.ex e.ic e.ty e.se
  up := kit_cl e.ib e.tb e.sb
  neB := ne
  q := m.q
  mgN := PySem.W.mg_of X G aN
  kN := m.kN
  ex := m.ex
  ty := m.ty
  exN := exm_own m.ex m.ic m.ty m.se
  lcm := PySem.W.mg_of X G n.lcm
  sum := PySem.W.mg_none_of X G n.sum
theorem glo_gf {K : PySem.W.Frag} {x : Str} {st : Stmt} (c : (Fa.glo x).ok K = true) (F : ∃ fd, FnP K x x st [] (ga K x) fd) : GF K x st := ⟨_, eqO_ok c, F⟩
theorem meth_mf {K : PySem.W.Frag} {c x q : Str} {st : Stmt} (m : Meth K (ga K c) x (ma K (ga K c) x)) (F : ∃ fd, FnP K x q st [] (ma K (ga K c) x) fd) : MF K (ga K c) x q st := ⟨_, m.at_, m.fn, F⟩
theorem all_of {l : List Bool} (h : l.all id = true) : ∀ b ∈ l, b = true := fun b hb => List.all_eq_true.mp h b hb
theorem cf_ok {K : PySem.W.Frag} {C : Addr} (h : KF.cfB K C = true) : CF K C := by
  unfold KF.cfB at h
  simp only [List.all_cons, List.all_nil, Bool.and_eq_true, decide_eq_true_eq, id_eq, and_true] at h
  obtain ⟨h0, h1, h2, h3, h4, h5, h6, h7, h8, h9, h10, h11, h12, h13, h14, h15, h16, h17, h18, h19, h20, h21⟩ := h
  exact ⟨h0, h1, h2, h3, h4, h5, h6, h7, h8, h9, h10, h11, h12, h13, h14, h15, h16, h17, h18, h19, h20, h21⟩
theorem ef_ok {K : PySem.W.Frag} {C B : Addr} (h : KF.efB K C B = true) : EF K C B := by
  unfold KF.efB at h
  simp only [List.all_cons, List.all_nil, Bool.and_eq_true, decide_eq_true_eq, id_eq, and_true] at h
  obtain ⟨h1, h2, h3, h4, h5, h6, h7, h8, h9, h10, h11, h12, h13⟩ := h
  exact ⟨h1, h2, h3, h4, h5, h6, h7, h8, h9, h10, h11, h12, h13⟩
theorem nf_ok {K : PySem.W.Frag} {C : Addr} (h : KF.nfB K C = true) : NEF K C := by
  unfold KF.nfB at h
  simp only [List.all_cons, List.all_nil, Bool.and_eq_true, decide_eq_true_eq, id_eq, and_true] at h
  obtain ⟨h0, h1, h2, h3, h4, h5⟩ := h
  exact ⟨h0, h1, h2, h3, h4, h5⟩
end K6

set_option Elab.async false
set_option linter.all false
set_option maxRecDepth 100000
set_option maxHeartbeats 8000000
/-! law k07: its main def -/
namespace K6
open PySem L2 TL KG
abbrev sLaw : Stmt := top 64
theorem make_at {K : PySem.W.Frag} {Cq Cg Cr Eq : Addr} {H : Hp} {g : Addr} {y : V} {as : List Ax} {xs : List V} {ns : List Fr} {R : Hp → Prop} {X : XK} {x dx : Addr} (nx : H x = none) (nd : H dx = none) (ga : GridAt Cg H g as) (r : Row H y xs) (al : All2 (NumP Cr H) xs ns) (ln : ns.length = (cellsL as).length) (l8 : ns.length ≤ 8)
    (k : ∀ H', Same H H' → QAt Cq Cg Cr H' x as ns → R H') : spQInit K Cq Cg Cr Eq (.ref x :: ([.ref g, y] ++ [])) (upd (upd H dx (.own x)) x (.ins Cq dx [])) (fun v H2 => v = .non ∧ R H2) X := by
  have sm := same_made (C := Cq) nx nd
  have al2 : All2 (NumP Cr (upd (upd H dx (.own x)) x (.ins Cq dx []))) xs ns := al.imp fun _ _ z => NumP.same sm z
  obtain ⟨ka, kn⟩ := kinds_at (Cg := Cg) al2
  have lx := al.1
  exact ⟨x, dx, .ref g, y, rfl, upd_same, .inr ⟨g, as, rfl, ga.same sm, some (xs.map kindOf), ⟨xs, r.same sm, by rw [List.length_map]; omega, ka⟩, .inr ⟨good_of (by rw [List.length_map]; omega) kn, xs, ns, r.same sm, by omega, al2, fun H' fr qa => ⟨rfl, k H' (Same.made nx nd fun b o e ne => fr b o ne e) qa⟩⟩⟩⟩
theorem nrm_map {ns : List Fr} (h : ∀ n ∈ ns, Nm n) : ns.map nrmF = ns := by
  conv => rhs; rw [← List.map_id ns]
  exact List.map_congr_left fun n hn => nrm_self (h n hn)
theorem noq_at {va vc : V} : (qf va vc).lookup ("at" : Str) = none := by
  unfold qf q1
  rw [lookup_putF, if_neg (by decide +kernel), lookup_putF, if_neg (by decide +kernel)]
  rfl
theorem nm_nz {n : Fr} (h : Nm n) : n.2 ≠ 0 ∧ KR.Sz 8000 n.2 := ⟨Int.ne_of_gt h.low.pos, sz_of (m := 12) h.bot (by decide +kernel)⟩
def spLaw (K : PySem.W.Frag) : Sp := fun vs H Q _ => ∃ (a : Addr) (ns : List Int), vs = [.ref a] ∧ SqL K H a (ns.map V.int) ∧ ns.length ≤ 63 ∧ ∀ H', Q (.bl true) H'
section
variable {P : Program} {w : World} {K : PySem.W.Frag} {mg : Str → Option Value} {base : Heap} {Cg Cr Cq Eg Er Eq En Eo B f g h : Addr} {fd gd hd : FuncData}
abbrev NLw : List Str := ["script", "stream", "axes", "grid", "strange", "at", "weights", "more", "amounts", "other", "question", "k", "before", "due", "which"]
theorem scLaw : FnScope NLw ["script"] (defScope sLaw) := ⟨rfl, rfl, rfl, by decide +kernel, rfl, by decide +kernel, by decide +kernel⟩
theorem ok_law (F : FnP K "law" "law" sLaw [] f fd) (T : Txt K mg) (TQ : QTxt K mg Cg Cr Cq Eg Er Eq En B)
    (GG : MkOk P w K mg base Cg (L2.CX P w) 6 ["self", "axes"] (KG.spInit K Cg Eg)) (GQ : MkOk P w K mg base Cq (L2.CX P w) 6 ["self", "grid", "weights"] (spQInit K Cq Cg Cr Eq)) (GA : MthOk P w K mg base Cq (L2.CX P w) 6 "at" ["self", "amounts"] (spAt Cq Cg Cr En))
    (LS : GloOk P w K mg base CX0 1 "_law_stream" ["script", "k"] (spStream K)) (LD : GloOk P w K mg base CX0 1 "_law_draw" ["stream", "many"] spDraw) (LA : GloOk P w K mg base CX0 3 "_law_axes" ["stream"] spLAxes)
    (LW : GloOk P w K mg base CX0 4 "_law_weights" ["stream", "size"] spLWeights) (LK : GloOk P w K mg base CX0 3 "_law_asks" ["told", "grid", "weights"] (spLAsks Cq Cg Cr)) (LI : GloOk P w K mg base CX0 2 "_law_is" ["told", "due"] (KR.spIs Cr))
    (LT : GloOk P w K mg base CX0 4 "_law_at" ["weights", "amounts"] spLAt) (LV : GloOk P w K mg base CX0 5 "_law_given" ["fracs"] (spLGiven Cr)) (LP : GloOk P w K mg base CX0 10 "_law_step" ["stream", "question", "weights", "other", "more"] (spLStep Cq Cg Cr))
    (LZ : GloOk P w K mg base CX0 9 "_law_over_zero" ["question"] (spLZero Cq Cg Cr)) (LO : GloOk P w K mg base CX0 10 "_law_apart" ["one", "other", "which"] (spLApart Cq Cg Cr)) : FnOk P w K mg base CX0 11 f fd ["script"] (spLaw K) := by
  obtain ⟨fM, fdM, GG, MG, bM⟩ := GG
  obtain ⟨fQ, fdQ, GQ, MQ, bQ⟩ := GQ
  obtain ⟨fA, fdA, GA, MA, bA⟩ := GA
  obtain ⟨lS, ldS, LS, mS, kS, dS⟩ := LS
  obtain ⟨lD, ldD, LD, mD, kD, dD⟩ := LD
  obtain ⟨lA, ldA, LA, mA, kA, dA⟩ := LA
  obtain ⟨lW, ldW, LW, mW, kW, dW⟩ := LW
  obtain ⟨lK, ldK, LK, mK, kK, dK⟩ := LK
  obtain ⟨lI, ldI, LI, mI, kI, dI⟩ := LI
  obtain ⟨lT, ldT, LT, mT, kT, dT⟩ := LT
  obtain ⟨lV, ldV, LV, mV, kV, dV⟩ := LV
  obtain ⟨lP, ldP, LP, mP, kP, dP⟩ := LP
  obtain ⟨lZ, ldZ, LZ, mZ, kZ, dZ⟩ := LZ
  obtain ⟨lO, ldO, LO, mO, kO, dO⟩ := LO
  refine F.ok scLaw (fun vs H Q X z => ?_) (fun cdv A outer s H vs Q X hr z => ?_)
  · obtain ⟨a, ns, rfl, _⟩ := z
    rfl
  · obtain ⟨a, ns, rfl, hS, hlen, k⟩ := z
    have hr1 : Room 1 (A.deeper (PyProof.Rows.envOfC "law" (defScope sLaw) s.heap.objs.size f cdv)) := hr.mono (by decide)
    have hr2 : Room 2 (A.deeper (PyProof.Rows.envOfC "law" (defScope sLaw) s.heap.objs.size f cdv)) := hr.mono (by decide)
    have hr3 : Room 3 (A.deeper (PyProof.Rows.envOfC "law" (defScope sLaw) s.heap.objs.size f cdv)) := hr.mono (by decide)
    have hr4 : Room 4 (A.deeper (PyProof.Rows.envOfC "law" (defScope sLaw) s.heap.objs.size f cdv)) := hr.mono (by decide)
    have hr5 : Room 5 (A.deeper (PyProof.Rows.envOfC "law" (defScope sLaw) s.heap.objs.size f cdv)) := hr.mono (by decide)
    have hr6 : Room 6 (A.deeper (PyProof.Rows.envOfC "law" (defScope sLaw) s.heap.objs.size f cdv)) := hr.mono (by decide)
    have hr7 : Room 7 (A.deeper (PyProof.Rows.envOfC "law" (defScope sLaw) s.heap.objs.size f cdv)) := hr.mono (by decide)
    have hr9 : Room 9 (A.deeper (PyProof.Rows.envOfC "law" (defScope sLaw) s.heap.objs.size f cdv)) := hr.mono (by decide)
    refine ⟨_, PSs.nox (pss_cons (ps_set (i := 1) scLaw.nd rfl (Or.inl rfl) (pe_call LS hr1 rfl mS kS dS .nil pass0 (pa_cons (pv 0) (pa_cons pe_int pa_nil))))
      (pss_cons (ps_set (i := 2) scLaw.nd rfl (Or.inl rfl) (pe_call LA hr3 rfl mA kA dA .nil pass0 (pa_cons (pv 1) pa_nil)))
      (pss_cons (ps_set (i := 3) scLaw.nd rfl (Or.inl rfl) (pe_make MG GG hr7 rfl TQ.g.mgC bM .nil passL (pa_cons (pv 2) pa_nil)))
      (pss_cons (ps_set (i := 4) scLaw.nd rfl (Or.inl rfl) (pe_make MQ GQ hr7 rfl TQ.mgQ bQ .nil passL (pa_cons (pe_make MG GG hr7 rfl TQ.g.mgC bM .nil passL (pa_cons (pe_lst (pa_cons (pe_tup (pa_cons pe_str (pa_cons (pe_lst (pa_cons pe_str pa_nil)) pa_nil))) pa_nil)) pa_nil)) (pa_cons (pe_lst (pa_cons pe_int pa_nil)) pa_nil))))
      (pss_cons (ps_for PassesOwn.never rfl (pi_range2 (by rfl) T.range (pa_cons pe_int (pa_cons (pe_callB (call_max2 rfl) (by rfl) T.max (by decide +kernel) (pa_cons pe_int (pa_cons (pe_callB (call_min2 rfl) (by rfl) T.min (by decide +kernel)
            (pa_cons (pe_callB call_len_seq (by rfl) T.len PySem.boot_len (pa_cons (pv 0) pa_nil)) (pa_cons pe_int pa_nil))) pa_nil))) pa_nil))) (pg_name (i := 5) scLaw.nd rfl (Or.inl rfl))
        (pss_cons (ps_set (i := 1) scLaw.nd rfl (Or.inl rfl) (pe_call LS hr1 rfl mS kS dS .nil pass0 (pa_cons (pv 0) (pa_cons (pv 5) pa_nil))))
        (pss_cons (ps_set (i := 6) scLaw.nd rfl (Or.inl rfl) (pe_call LW hr4 rfl mW kW dW .nil pass0 (pa_cons (pv 1) (pa_cons (pe_fld (pv 3) rfl) pa_nil))))
        (pss_cons (ps_set (i := 7) scLaw.nd rfl (Or.inl rfl) (pe_call LW hr4 rfl mW kW dW .nil pass0 (pa_cons (pv 1) (pa_cons (pe_fld (pv 3) rfl) pa_nil))))
        (pss_cons (ps_set (i := 8) scLaw.nd rfl (Or.inl rfl) (pe_call LW hr4 rfl mW kW dW .nil pass0 (pa_cons (pv 1) (pa_cons (pe_fld (pv 3) rfl) pa_nil))))
        (pss_cons (ps_set (i := 9) scLaw.nd rfl (Or.inl rfl) (pe_make MQ GQ hr7 rfl TQ.mgQ bQ .nil passL (pa_cons (pv 3) (pa_cons (pe_call LV hr5 rfl mV kV dV .nil pass0 (pa_cons (pv 7) pa_nil)) pa_nil))))
        (pss_cons (ps_set (i := 10) scLaw.nd rfl (Or.inl rfl) (pe_make MQ GQ hr7 rfl TQ.mgQ bQ .nil passL (pa_cons (pv 3) (pa_cons (pe_call LV hr5 rfl mV kV dV .nil pass0 (pa_cons (pv 6) pa_nil)) pa_nil))))
        (pss_cons (ps_for PassesOwn.never rfl (pi_range1 rfl T.range (pa_cons (pe_op op_add pe_int (pe_call LD hr1 rfl mD kD dD .nil pass0 (pa_cons (pv 1) (pa_cons pe_int pa_nil)))) pa_nil)) (pg_name (i := 11) scLaw.nd rfl (Or.inl rfl))
          (pss_cons (ps_set (i := 12) scLaw.nd rfl (Or.inl rfl) (pv 10))
          (pss_cons (ps_set (i := 13) scLaw.nd rfl (Or.inl rfl) (pv 6))
          (pss_cons (ps_asg (pe_call LP hr rfl mP kP dP .nil pass0 (pa_cons (pv 1) (pa_cons (pv 12) (pa_cons (pv 13) (pa_cons (pv 9) (pa_cons (pv 7) pa_nil)))))) (pg_tup rfl (pgs_cons (pg_name (i := 10) scLaw.nd rfl (Or.inl rfl)) (pgs_cons (pg_name (i := 6) scLaw.nd rfl (Or.inl rfl)) pgs_nil))))
          (pss_cons (ps_if (PW.pt (pw_or (pt_not (pt_val (pe_call LK hr3 rfl mK kK dK .nil pass0 (pa_cons (pv 10) (pa_cons (pv 3) (pa_cons (pv 6) pa_nil)))))) (pw_or1 (pt_not (pt_val (pe_call LK hr3 rfl mK kK dK .nil pass0 (pa_cons (pv 12) (pa_cons (pv 3) (pa_cons (pv 13) pa_nil))))))))) (pss_one (ps_ret pe_bl)) pss_nil)
          (pss_one (ps_if (pt_not (pt_val (pe_call LI hr2 rfl mI kI dI .nil pass0 (pa_cons (pe_meth (pv 10) TQ.cl MA GA hr6 bA .nil passL (pa_cons (pe_call LV hr5 rfl mV kV dV .nil pass0 (pa_cons (pv 8) pa_nil)) pa_nil)) (pa_cons (pe_call LT hr4 rfl mT kT dT .nil pass0 (pa_cons (pv 6) (pa_cons (pv 8) pa_nil))) pa_nil))))) (pss_one (ps_ret pe_bl)) pss_nil)))))))
        (pss_cons (ps_if (PW.pt (pw_or (pt_not (pt_val (pe_call LK hr3 rfl mK kK dK .nil pass0 (pa_cons (pv 9) (pa_cons (pv 3) (pa_cons (pv 7) pa_nil)))))) (pw_or1 (pt_cmpR op_ne (pe_call LZ hr9 rfl mZ kZ dZ .nil pass0 (pa_cons (pv 10) pa_nil)) pe_str (nomark _))))) (pss_one (ps_ret pe_bl)) pss_nil)
        (pss_one (ps_if (pt_cmpR (op_neD hr.units) (pv 2) (pe_fld (pe_fld (pv 4) rfl) rfl) (nomark _))
          (pss_one (ps_for PassesOwn.never rfl (pi_range1 rfl T.range (pa_cons pe_int pa_nil)) (pg_name (i := 14) scLaw.nd rfl (Or.inl rfl))
            (pss_one (ps_if (PW.pt (pw_or (pt_cmpR op_ne (pe_call LO hr rfl mO kO dO .nil pass0 (pa_cons (pv 10) (pa_cons (pv 4) (pa_cons (pv 14) pa_nil)))) pe_str (nomark _)) (pw_or1 (pt_cmpR op_ne (pe_call LO hr rfl mO kO dO .nil pass0 (pa_cons (pv 4) (pa_cons (pv 10) (pa_cons (pv 14) pa_nil)))) pe_str (nomark _))))) (pss_one (ps_ret pe_bl)) pss_nil)))) pss_nil)))))))))))
      (pss_one (ps_ret pe_bl))))))), ?_⟩
    obtain ⟨u1, u2⟩ := upto ((ns.map V.int).length : Int) (by omega)
    refine ⟨_, rfl, a, ns, 0, rfl, hS, by decide, fun l0 H1 s1 n0 st0 => ?_⟩
    refine nx_ ?_
    refine sq ?_
    refine ⟨_, rfl, l0, rfl, st0, fun v as H2 b2 st2 av gd => ?_⟩
    have s2 : Same H H2 := same_but s1 n0 b2
    refine nx_ ?_
    refine sq ?_
    refine ⟨_, rfl, fun g dx ng nd nex => ⟨g, dx, v, rfl, upd_same, axes_kn (av.same (same_made ng nd)) gd, .inr ⟨as, axes_right (av.same (same_made ng nd)) gd, fun H3 fr gr => ⟨rfl, ?_⟩⟩⟩⟩
    have s23 : Same H2 H3 := Same.made ng nd fun b o e ne => fr b o ne e
    have hS3 := sql_same (s2.trans s23) hS
    have av3 := av.same s23
    have c1 : 1 ≤ (cellsL as).length := List.length_pos_iff.mpr (cells_some fun a ha => (gd.ms a ha).1)
    have c8 := gd.sz
    have oa : AxOk as := gd.ok
    clear s1 st0 n0 b2 st2 s2 fr ng nd nex hS av
    refine nx_ ?_
    refine sq ?_
    -- the other grid
    refine ⟨by show 1 ≤ sizeLine; decide, fun m nm => ?_⟩
    have t4 := new (o := .lst [V.str "z"]) nm
    have em := upd_same (H := H3) (a := m) (o := .lst [V.str "z"])
    generalize upd H3 m (.lst [V.str "z"]) = H4 at *
    refine ⟨by show 2 ≤ sizeLine; decide, fun t nt => ?_⟩
    have t5 := new (o := .tup [V.str "zz", V.ref m]) nt
    have et := upd_same (H := H4) (a := t) (o := .tup [V.str "zz", V.ref m])
    generalize upd H4 t (.tup [V.str "zz", V.ref m]) = H5 at *
    refine ⟨by show 1 ≤ sizeLine; decide, fun x nx => ?_⟩
    have t6 := new (o := .lst [V.ref t]) nx
    have ex := upd_same (H := H5) (a := x) (o := .lst [V.ref t])
    generalize upd H5 x (.lst [V.ref t]) = H6 at *
    intro g2 dx2 ng nd ne
    have s7 : Same H6 (upd (upd H6 dx2 (.own g2)) g2 (.ins Cg dx2 [])) := same_made ng nd
    obtain ⟨kn, rg⟩ := right_zz (s7 _ _ ex) (s7 _ _ (t6 _ _ et)) (s7 _ _ (t6 _ _ (t5 _ _ em)))
    refine ⟨g2, dx2, .ref x, rfl, upd_same, kn, .inr ⟨zzAx, rg, fun H8 fr ga => ⟨rfl, ?_⟩⟩⟩
    have s8 : Same H6 H8 := Same.made ng nd fun b o e ne => fr b o ne e
    refine ⟨by show 1 ≤ sizeLine; decide, fun y ny => ?_⟩
    have t9 := new (o := .lst [V.int 1]) ny
    intro q dq nq ndq neq
    have sm : Same _ (upd (upd (upd H8 y (.lst [V.int 1])) dq (.own q)) q (.ins Cq dq [])) := same_made (C := Cq) nq ndq
    have al2 : All2 (NumP Cr (upd (upd (upd H8 y (.lst [V.int 1])) dq (.own q)) q (.ins Cq dq []))) [V.int 1] [((1, 1) : Fr)] := All2.nil.snoc (.inl ⟨rfl, rfl⟩)
    obtain ⟨ka, kn'⟩ := kinds_at (Cg := Cg) al2
    have ry : Row (upd (upd (upd H8 y (.lst [V.int 1])) dq (.own q)) q (.ins Cq dq [])) (.ref y) [V.int 1] := ⟨y, rfl, .inl (sm _ _ upd_same)⟩
    refine ⟨q, dq, .ref g2, .ref y, rfl, upd_same, .inr ⟨g2, zzAx, rfl, (ga.same t9).same sm, some ([V.int 1].map kindOf), ⟨[V.int 1], ry, by decide, ka⟩, .inr ⟨good_of (by rw [cells_zz]; rfl) kn', [V.int 1], [(1, 1)], ry, by decide, al2, fun H10 fr10 qs => ⟨rfl, ?_⟩⟩⟩⟩
    have s10 : Same (upd H8 y (.lst [V.int 1])) H10 := Same.made nq ndq fun b o e ne => fr10 b o ne e
    have s310 : Same H3 H10 := t4.trans (t5.trans (t6.trans (s8.trans (t9.trans s10))))
    have hS10 := sql_same s310 hS3
    have av10 := av3.same s310
    have gr10 := gr.same s310
    clear al2 ka kn' ry sm fr10 nq ndq neq t4 t5 t6 s7 s8 t9 s10 em et ex nm nt nx ng nd ne fr kn rg ga ny hS3 av3 gr s23
    refine nx_ ?_
    refine sq ?_
    obtain ⟨dg, va, vc, eg, aa, _⟩ := id gr10
    refine ⟨_, rfl, a, _, rfl, .inl hS10, _, _, rfl, _, _, rfl, _, _, rfl, ⟨by decide, by decide, by omega, by omega⟩, ?_⟩
    refine for_range (lo := 1) (n := _) (fun i σ H' => Same H10 H' ∧ ∃ w1 w5 w6 w7 w8 w9 w10 w11 w12 w13 w14 : Option V, σ = [some (.ref a), w1, some v, some (.ref g), some (.ref q), w5, w6, w7, w8, w9, w10, w11, w12, w13, w14])
      ⟨Same.refl _, _, _, _, _, _, _, _, _, _, _, _, rfl⟩ ?_ ?_
    · rintro i σ H5 hi ⟨s5, w1, w5, w6, w7, w8, w9, w10, w11, w12, w13, w14, rfl⟩
      refine ⟨_, rfl, _, rfl, a, ns, 1 + i, by rw [Int.natCast_add]; rfl, sql_same s5 hS10, by omega, fun l H6 s6 nl st6 => ?_⟩
      have nl3 : H10 l = none := s5.free nl
      have s36 := s5.trans s6
      refine nx_ ?_
      refine sq ?_
      refine ⟨_, rfl, _, rfl, g, Cg, dg, _, _, rfl, s36 _ _ eg, TQ.g.cl, TQ.g.nS, flds_size _ _ _, l, (cellsL as).length, rfl, st6, c8, fun W us ws H7 b7 st7 nW eW aw lw nw => ?_⟩
      have s37 := same_but s36 nl3 b7
      have Wl : W ≠ l := st6.ne nW
      refine nx_ ?_
      refine sq ?_
      refine ⟨_, rfl, _, rfl, g, Cg, dg, _, _, rfl, s37 _ _ eg, TQ.g.cl, TQ.g.nS, flds_size _ _ _, l, (cellsL as).length, rfl, st7, c8, fun M xs ms H8 b8 st8 nM eM am lm nm => ?_⟩
      have s38 := same_but s37 nl3 b8
      have Ml : M ≠ l := st7.ne nM
      refine nx_ ?_
      refine sq ?_
      refine ⟨_, rfl, _, rfl, g, Cg, dg, _, _, rfl, s38 _ _ eg, TQ.g.cl, TQ.g.nS, flds_size _ _ _, l, (cellsL as).length, rfl, st8, c8, fun D ys ds H9 b9 st9 nD eD ad ld nd => ?_⟩
      have s39 := same_but s38 nl3 b9
      have Dl : D ≠ l := st8.ne nD
      have eM9 := b9 _ _ Ml eM
      have am9 := am.imp fun _ _ y => FrP.nl (b9.nl st8) y
      have eW9 := b9 _ _ Wl (b8 _ _ Wl eW)
      have aw9 := aw.imp fun _ _ y => FrP.nl ((b8.trans b9).nl st7) y
      refine nx_ ?_
      refine sq ?_
      clear eW aw eM am b7 b8 b9 nW nM nD s36 s37 s38 st6 st7 st8
      refine ⟨_, rfl, _, rfl, M, xs, ms, rfl, eM9, am9, by omega, fun n hn => nm_nz (nm n hn), fun y1 zs1 H11 s11 n11 e11 a11 => ?_⟩
      rw [nrm_map nm] at a11
      intro o do_ no ndo neo
      refine make_at no ndo (gr10.same (s39.trans s11)) ⟨y1, rfl, .inl e11⟩ (a11.imp fun _ _ z => rat_num z) (by omega) (by omega) fun H12 s12 qo => ?_
      have s912 := s11.trans s12
      refine nx_ ?_
      refine sq ?_
      refine ⟨_, rfl, _, rfl, W, us, ws, rfl, s912 _ _ eW9, aw9.imp fun _ _ y => FrP.same s912 y, by omega, fun n hn => nm_nz (nw n hn), fun y2 zs2 H13 s13 n13 e13 a13 => ?_⟩
      rw [nrm_map nw] at a13
      intro q0 dq nq ndq neq
      refine make_at nq ndq (gr10.same (s39.trans (s912.trans s13))) ⟨y2, rfl, .inl e13⟩ (a13.imp fun _ _ z => rat_num z) (by omega) (by omega) fun H14 s14 qq => ?_
      have s914 := s912.trans (s13.trans s14)
      have st14 := st9.same s914
      have eW14 := s914 _ _ eW9
      have eM14 := s914 _ _ eM9
      have eD14 := s914 _ _ eD
      have aw14 := aw9.imp fun _ _ y => FrP.same s914 y
      have am14 := am9.imp fun _ _ y => FrP.same s914 y
      have ad14 := ad.imp fun _ _ y => FrP.same s914 y
      have qo14 := qo.same (s13.trans s14)
      have s1014 := s39.trans s914
      clear eW9 eM9 eD aw9 am9 ad qo s11 s12 s13 s14 s912 s914 s39 st9 no ndo neo nq ndq neq n11 e11 a11 n13 e13 a13
      refine nx_ ?_
      refine sq ?_
      refine drawn rfl st14 (by decide) (by decide) fun d H15 d0 d1 b15 st15 => ?_
      obtain ⟨m, rfl⟩ : ∃ m : Nat, d = (m : Int) := ⟨d.toNat, by omega⟩
      refine ⟨_, _, rfl, rfl, 1 + (m : Int), rfl, by omega, by omega, ?_⟩
      refine for_it walk_range (fun j σ H' => But l H14 H' ∧ Strm H' l ∧ ∃ (W' q' : Addr) (us' : List V) (ws' : List Fr) (w11 w12 w13 w14 : Option V), σ = [some (.ref a), some (.ref l), some v, some (.ref g), some (.ref q), some (.int (1 + (i : Int))), some (.ref W'), some (.ref M), some (.ref D), some (.ref o), some (.ref q'), w11, w12, w13, w14]
          ∧ W' ≠ l ∧ H' W' = some (.lst us') ∧ All2 (FrP H') us' ws' ∧ QAt Cq Cg Cr H' q' as ws' ∧ ws'.length = (cellsL as).length ∧ ∀ n ∈ ws', Ng j n)
        ⟨b15, st15, W, q0, us, ws, _, _, _, _, rfl, Wl, b15 _ _ Wl eW14, aw14.imp fun _ _ y => FrP.nl (b15.nl st14) y, qq.nl (b15.nl st14), lw, fun n hn => (nw n hn).ng 0⟩ (fun _ _ _ _ _ => trivial) ?_ ?_
      · rintro j x σ H1 H1' hj ⟨b1, st1, W', q', us', ws', w11, w12, w13, w14, rfl, Wl', eW', aw', qp', lw', ng'⟩ ⟨rfl, ex⟩
        have j7 : j ≤ 7 := by omega
        have n1 := b1.nl st14
        refine gname_step ?_
        refine ⟨_, rfl, ?_⟩
        refine nx_ ?_
        refine sq ?_
        refine ⟨_, rfl, ?_⟩
        refine nx_ ?_
        refine sq ?_
        refine ⟨_, rfl, _, rfl, _, rfl, _, rfl, _, rfl, l, q', W', o, M, as, us', xs, ws', ms, j, rfl, st1, Wl', Ml, qp', qo14.nl n1, oa, eW', b1 _ _ Ml eM14, aw', am14.imp fun _ _ y => FrP.nl n1 y, lw', lm, by omega, by omega, j7, ng', nm, fun t r D' zs ns' H2 b2 st2 et D'l qr eD' al2 ln ngn => ?_⟩
        have n2 := b2.nl st1
        refine ⟨t, _, rfl, SqT.of et, rfl, _, _, rfl, _, _, rfl, rfl, ?_⟩
        refine sq ?_
        refine ⟨_, rfl, _, rfl, _, rfl, r, g, D', zs, as, ns', rfl, qr, (gr10.same s1014).nl (n1.trans n2), oa, eD', al2, by omega, fun H3 s3 => ?_⟩
        refine ⟨_, rfl, iteF ?_⟩
        refine ⟨_, rfl, _, rfl, _, rfl, q', g, W', us', as, ws', rfl, (qp'.nl n2).same s3, ((gr10.same s1014).nl (n1.trans n2)).same s3, oa, s3 _ _ (b2 _ _ Wl' eW'), aw'.imp fun _ _ y => FrP.same s3 (FrP.nl n2 y), by omega, fun H4 s4 => ?_⟩
        refine ⟨_, rfl, iteF (nx_ ?_)⟩
        have s24 := s3.trans s4
        have n14 : NL H14 H4 := n1.trans (n2.trans (NL.of s24))
        have bb4 : But l H14 H4 := b1.trans (b2.trans (But.of s24))
        have qr4 := qr.same s24
        have eD4 := bb4 _ _ Dl eD14
        have ad4 : All2 (FrP H4) ys ds := ad14.imp fun _ _ y => FrP.nl n14 y
        have st4 := st2.same s24
        have ez4 := s24 _ _ eD'
        have al4 : All2 (FrP H4) zs ns' := al2.imp fun _ _ y => FrP.same s24 y
        clear qr eD' al2 aw' am14 eW' st1 et
        obtain ⟨dr, g1, w1, v1, er, _⟩ := id qr4
        refine ⟨_, rfl, r, dr, _, rfl, er, noq_at, _, rfl, D, ys, ds, rfl, eD4, ad4, by omega, fun n hn => nm_nz (nd n hn), fun y3 zs3 H5 s5' n5 e5 a5 => ?_⟩
        rw [nrm_map nd] at a5
        have a5n : All2 (NumP Cr H5) zs3 ds := a5.imp fun _ _ z => rat_num z
        obtain ⟨ka, kn⟩ := kinds_at (Cg := Cg) a5n
        have l3 := a5.1
        refine ⟨r, .ref y3, as, ns', some (zs3.map kindOf), rfl, qr4.same s5', ⟨zs3, ⟨y3, rfl, .inl e5⟩, by rw [List.length_map]; omega, ka⟩, .inr ⟨good_of (by rw [List.length_map]; omega) kn, zs3, ds, ⟨y3, rfl, .inl e5⟩, a5n, fun n hn => (ngn n hn).nb (by omega), fun n hn => (nd n hn).nb, by omega, by omega, fun qa H6 s6' ra => ?_⟩⟩
        have s46 := s5'.trans s6'
        refine ⟨_, rfl, _, rfl, D', D, zs, ys, ns', ds, rfl, s46 _ _ ez4, s46 _ _ eD4, al4.imp fun _ _ y => FrP.same s46 y, ad4.imp fun _ _ y => FrP.same s46 y, fun n hn => (ngn n hn).nb (by omega), nd, by omega, by omega, fun u H7 s7 fu => ?_⟩
        obtain ⟨pu, rfl, eu⟩ := fu
        refine ⟨qa, pu, _, _, rfl, ra.same s7, eu, ?_⟩
        have s47 := s46.trans s7
        refine ⟨_, rfl, iteF (nx_ ?_)⟩
        exact ⟨bb4.trans (But.of s47), st4.same s47, D', r, zs, ns', _, _, _, _, rfl, D'l, s47 _ _ ez4, al4.imp fun _ _ y => FrP.same s47 y, qr4.same s47, by omega, ngn⟩
      · rintro σ H1 ⟨b1, st1, W', q', us', ws', w11, w12, w13, w14, rfl, Wl', eW', aw', qp', lw', ng'⟩
        refine nx_ ?_
        refine sq ?_
        have n1 := b1.nl st14
        have nbw : ∀ n ∈ ws', Nb n := fun n hn => (ng' n hn).nb (by omega)
        have s101 : Same H10 H1 := fun c o e => b1 c o (fun z => by rw [z, nl3] at e; cases e) (s1014 c o e)
        refine ⟨_, rfl, _, rfl, _, rfl, o, g, M, xs, as, ms, rfl, qo14.nl n1, gr10.same s101, oa, b1 _ _ Ml eM14, am14.imp fun _ _ y => FrP.nl n1 y, by omega, fun H2 s2 => ?_⟩
        refine ⟨_, rfl, iteF ?_⟩
        refine ⟨_, rfl, q', as, ws', rfl, qp'.same s2, nbw, lw', by omega, by omega, fun H3 s3 => ?_⟩
        have s103 := s101.trans (s2.trans s3)
        have qp3 := qp'.same (s2.trans s3)
        refine ⟨rfl, _, rfl, ?_⟩
        refine iteF (nx_ ?_)
        obtain ⟨dq, gz, wz, vz, eqz, gaz, _⟩ := id (qs.same s103)
        obtain ⟨dz, vaz, vcz, ezz, az, _⟩ := id gaz
        refine ⟨_, rfl, _, rfl, q, Cq, dq, _, _, rfl, eqz, TQ.cl, TQ.nG, qf_grid _ _, gz, Cg, dz, _, _, rfl, ezz, TQ.g.cl, TQ.g.nA, flds_axes _ _ _, _, _, dp_axs (av10.same s103), dp_axs az, shaped_axs oa, shaped_axs ax_zz, _, rfl, ?_⟩
        cases he : PyData.eqv (axsD as) (axsD zzAx) with
        | true => exact iteF (nx_ ⟨s103, _, _, _, _, _, _, _, _, _, _, _, rfl⟩)
        | false =>
          have ne : as ≠ zzAx := fun z => by
            rw [(eqv_axs as zzAx).mpr z] at he
            cases he
          refine iteT ?_
          refine ⟨2, rfl, by decide, by decide, ?_⟩
          have nb1 : ∀ n ∈ ([(1, 1)] : List Fr), Nb n := fun n hn => by
            rw [List.mem_singleton.mp hn]
            exact ⟨⟨by decide, by decide⟩, by unfold KR.Sz; decide +kernel, by unfold KR.Sz; decide +kernel⟩
          refine for_it walk_range (fun j σ H' => Same H3 H' ∧ ∃ w14 : Option V, σ = [some (.ref a), some (.ref l), some v, some (.ref g), some (.ref q), some (.int (1 + (i : Int))), some (.ref W'), some (.ref M), some (.ref D), some (.ref o), some (.ref q'), w11, w12, w13, w14])
            ⟨Same.refl H3, _, rfl⟩ (fun _ _ _ _ _ => trivial) ?_ ?_
          · rintro j x σ H4 H4' hj ⟨s4, w14, rfl⟩ ⟨rfl, ex⟩
            obtain rfl : x = V.int (j : Int) := by
              rw [ex]
              show V.int (0 + _) = _
              rw [Int.zero_add]
            refine gname_step ?_
            refine ⟨_, rfl, _, rfl, _, rfl, q', q, j, as, zzAx, ws', [(1, 1)], rfl, qp3.same s4, (qs.same s103).same s4, oa, ax_zz, ne, nb1, by rw [cells_zz]; rfl, by decide, fun H5 s5' => ?_⟩
            refine ⟨rfl, _, rfl, ?_⟩
            refine iteF ?_
            refine ⟨_, rfl, _, rfl, _, rfl, q, q', j, zzAx, as, [(1, 1)], ws', rfl, ((qs.same s103).same s4).same s5', (qp3.same s4).same s5', ax_zz, oa, Ne.symm ne, nbw, lw', by omega, fun H6 s6' => ?_⟩
            refine ⟨rfl, _, rfl, ?_⟩
            exact iteF (nx_ ⟨s4.trans (s5'.trans s6'), _, rfl⟩)
          · rintro σ H4 ⟨s4, w14, rfl⟩
            exact nx_ ⟨s103.trans s4, _, _, _, _, _, _, _, _, _, _, _, rfl⟩
    · rintro σ H5 ⟨s5, w1, w5, w6, w7, w8, w9, w10, w11, w12, w13, w14, rfl⟩
      exact nx_ (k H5)
end
end K6

set_option Elab.async false
set_option linter.all false
set_option maxRecDepth 100000
set_option maxHeartbeats 8000000
/-! the end: from the facts to the law's def -/
namespace K6
open PySem L2 TL KG He
theorem facts {P : Program} {w : World} {K : PySem.W.Frag} {h : Heap} {mg : Str → Option Value} {f : Addr} (X : K.In h) (G : h.Ns mainGlobals mg) (hfa : mg ("law" : Str) = some (.ref f)) (c : SaysX KF.fa KF.fn [] [] KF.ex w h K) :
    ∃ fd : FuncData, (∀ (s : Shared) (v : Value), BindsTo s fd ⟨[v], []⟩ [("script", v)]) ∧ ∀ base : Heap, K.In base → base.Ns mainGlobals mg → FnOk P w K mg base CX0 11 f fd ["script"] (spLaw K) := by
  have D := c.t.d
  have M := c.more
  have ex_at := @KF.ex_at K
  obtain ⟨fdL, FL⟩ := (D.def_ 57 (d := KF.dg_law) rfl)
  have e := hfa.symm.trans (glo_ok X G (D.fact 87 (f := .glo "law") rfl))
  cases e
  have bL := FunD.bindsA (ps := ["script"]) FL fun _ _ _ _ _ _ us hl => match us, hl with | [_], _ => rfl
  refine ⟨fdL, fun s v => bL s [v] rfl, fun base _ _ => ?_⟩
  obtain ⟨t1, hL⟩ := (str_ok X G (D.fact 0 (f := .str "LETTERS" "abcdefghijklmnopqrstuvwxyz") rfl))
  obtain ⟨t2, hD⟩ := (str_ok X G (D.fact 1 (f := .str "DIGITS" "0123456789") rfl))
  obtain ⟨t3, hN⟩ := (int_ok X G (D.fact 2 (f := .int "MOST_NAME_LENGTH" 8) rfl))
  obtain ⟨t4, hA⟩ := (int_ok X G (D.fact 3 (f := .int "MOST_AXES" 3) rfl))
  obtain ⟨t5, hM⟩ := (int_ok X G (D.fact 4 (f := .int "MOST_MEMBERS" 4) rfl))
  obtain ⟨t6, hC⟩ := (int_ok X G (D.fact 5 (f := .int "MOST_CELLS" 8) rfl))
  have hR : mg "RESERVED" = some (.ref (ga K "RESERVED")) := (glo_ok X G (D.fact 6 (f := .glo "RESERVED") rfl))
  have sR : ∀ H, SqT K H (ga K "RESERVED") [.str "sum", .str "each"] := fun H => (tupB_ok (ex_at M 0 (f := fun K => tupB K "RESERVED" [.str "sum", .str "each"]) rfl)) H
  have nf : NF K := ⟨(of_decide_eq_true (ex_at M 1 (f := fun K => decide (PySem.W.nsIn K mainGlobals "gcd" = some (some (.builtin "math.gcd")))) rfl)), (of_decide_eq_true (ex_at M 2 (f := fun K => decide (PySem.W.nsIn K mainGlobals "lcm" = some (some (.builtin "math.lcm")))) rfl)), (eqO_ok (D.fact 7 (f := .free "isinstance") rfl)), (eqO_ok (D.fact 8 (f := .free "int") rfl)), (eqO_ok (D.fact 9 (f := .free "str") rfl)), (eqO_ok (D.fact 10 (f := .free "list") rfl)), (eqO_ok (D.fact 11 (f := .free "tuple") rfl)), (eqO_ok (D.fact 12 (f := .free "set") rfl)), (eqO_ok (D.fact 13 (f := .free "abs") rfl)), (eqO_ok (D.fact 14 (f := .free "len") rfl)), (eqO_ok (D.fact 15 (f := .free "range") rfl)), (eqO_ok (D.fact 16 (f := .free "min") rfl)), (eqO_ok (D.fact 17 (f := .free "all") rfl)), (eqO_ok (D.fact 18 (f := .free "any") rfl)), (eqO_ok (D.fact 19 (f := .free "enumerate") rfl)), (eqO_ok (D.fact 20 (f := .free "zip") rfl)), (eqO_ok (D.fact 21 (f := .free "repr") rfl)), (eqO_ok (D.fact 22 (f := .free "max") rfl)), (eqO_ok (D.fact 23 (f := .free "sum") rfl)), (eqO_ok (D.fact 24 (f := .free "bool") rfl))⟩
  have cG : CF K (ga K "Grid") := (cf_ok (ex_at M 3 (f := fun K => KF.cfB K (ga K "Grid")) rfl))
  have cR : CF K (ga K "Ratio") := (cf_ok (ex_at M 4 (f := fun K => KF.cfB K (ga K "Ratio")) rfl))
  have cQ : CF K (ga K "Question") := (cf_ok (ex_at M 5 (f := fun K => KF.cfB K (ga K "Question")) rfl))
  have xf : XF K (ga K "Grid") (ga K "Ratio") (ga K "Question") := ⟨(of_decide_eq_true (ex_at M 6 (f := fun K => decide (PySem.W.specialIn K (.builtin "object.__class__") "__get__" = some (some (.builtin "getset_descriptor.__get__")))) rfl)), (of_decide_eq_true (ex_at M 7 (f := fun K => decide (PySem.W.takesIn K (.builtin "object.__class__") = some true)) rfl)), (of_decide_eq_true (ex_at M 8 (f := fun K => decide (PySem.W.findIn K (.ref (ga K "Grid")) "axes" = some none)) rfl)), (of_decide_eq_true (ex_at M 9 (f := fun K => decide (PySem.W.findIn K (.ref (ga K "Grid")) "cells" = some none)) rfl)), (of_decide_eq_true (ex_at M 10 (f := fun K => decide (PySem.W.findIn K (.ref (ga K "Grid")) "size" = some none)) rfl)), (of_decide_eq_true (ex_at M 11 (f := fun K => decide (PySem.W.findIn K (.ref (ga K "Ratio")) "top" = some none)) rfl)), (of_decide_eq_true (ex_at M 12 (f := fun K => decide (PySem.W.findIn K (.ref (ga K "Ratio")) "bottom" = some none)) rfl)), (of_decide_eq_true (ex_at M 13 (f := fun K => decide (PySem.W.selfFirst K (ga K "Ratio") = true)) rfl)), (of_decide_eq_true (ex_at M 14 (f := fun K => decide (PySem.W.findIn K (.ref (ga K "Question")) "grid" = some none)) rfl)), (of_decide_eq_true (ex_at M 15 (f := fun K => decide (PySem.W.findIn K (.ref (ga K "Question")) "weights" = some none)) rfl)), (of_decide_eq_true (ex_at M 16 (f := fun K => decide (PySem.W.subIn K (.ref (ga K "Grid")) (.ref (ga K "Ratio")) = some false)) rfl)), (of_decide_eq_true (ex_at M 17 (f := fun K => decide (PySem.W.subIn K (.ref (ga K "Ratio")) (.ref (ga K "Grid")) = some false)) rfl))⟩
  have eG : EF K (ga K "NoGrid") (ga K "ToldError") := (ef_ok (ex_at M 18 (f := fun K => KF.efB K (ga K "NoGrid") (ga K "ToldError")) rfl))
  obtain ⟨nmeG, qeG, NeG, bseG, sneG, subeG, abeG, coleG, ddeG, m0eG, m1eG, m2eG, m3eG, m5eG, xeG⟩ := (KF.clsB_ok (ex_at M 19 (f := fun K => KF.clsB K (ga K "NoGrid") (.ref (ga K "ToldError") :: KF.veMro)) rfl))
  have neG : (ga K "NoGrid") ≠ (ga K "ToldError") := (of_decide_eq_true (ex_at M 20 (f := fun K => decide ((ga K "NoGrid") ≠ (ga K "ToldError"))) rfl))
  have eR : EF K (ga K "NoRatio") (ga K "ToldError") := (ef_ok (ex_at M 21 (f := fun K => KF.efB K (ga K "NoRatio") (ga K "ToldError")) rfl))
  obtain ⟨nmeR, qeR, NeR, bseR, sneR, subeR, abeR, coleR, ddeR, m0eR, m1eR, m2eR, m3eR, m5eR, xeR⟩ := (KF.clsB_ok (ex_at M 22 (f := fun K => KF.clsB K (ga K "NoRatio") (.ref (ga K "ToldError") :: KF.veMro)) rfl))
  have neR : (ga K "NoRatio") ≠ (ga K "ToldError") := (of_decide_eq_true (ex_at M 23 (f := fun K => decide ((ga K "NoRatio") ≠ (ga K "ToldError"))) rfl))
  have eQ : EF K (ga K "NoQuestion") (ga K "ToldError") := (ef_ok (ex_at M 24 (f := fun K => KF.efB K (ga K "NoQuestion") (ga K "ToldError")) rfl))
  obtain ⟨nmeQ, qeQ, NeQ, bseQ, sneQ, subeQ, abeQ, coleQ, ddeQ, m0eQ, m1eQ, m2eQ, m3eQ, m5eQ, xeQ⟩ := (KF.clsB_ok (ex_at M 25 (f := fun K => KF.clsB K (ga K "NoQuestion") (.ref (ga K "ToldError") :: KF.veMro)) rfl))
  have neQ : (ga K "NoQuestion") ≠ (ga K "ToldError") := (of_decide_eq_true (ex_at M 26 (f := fun K => decide ((ga K "NoQuestion") ≠ (ga K "ToldError"))) rfl))
  have eN : NEF K (ga K "NoAmounts") := (nf_ok (ex_at M 27 (f := fun K => KF.nfB K (ga K "NoAmounts")) rfl))
  have inf : IF K := ⟨(of_decide_eq_true (ex_at M 28 (f := fun K => decide (PySem.W.findIn K (.type "int") "__add__" = some (some (.builtin "int.__add__")))) rfl)), (of_decide_eq_true (ex_at M 29 (f := fun K => decide (PySem.W.findIn K (.type "int") "__radd__" = some (some (.builtin "int.__radd__")))) rfl)), (of_decide_eq_true (ex_at M 30 (f := fun K => decide (PySem.W.findIn K (.type "int") "__sub__" = some (some (.builtin "int.__sub__")))) rfl)), (of_decide_eq_true (ex_at M 31 (f := fun K => decide (PySem.W.findIn K (.type "int") "__rsub__" = some (some (.builtin "int.__rsub__")))) rfl)), (of_decide_eq_true (ex_at M 32 (f := fun K => decide (PySem.W.findIn K (.type "int") "__mul__" = some (some (.builtin "int.__mul__")))) rfl)), (of_decide_eq_true (ex_at M 33 (f := fun K => decide (PySem.W.findIn K (.type "int") "__rmul__" = some (some (.builtin "int.__rmul__")))) rfl))⟩
  have nGR : (ga K "Grid") ≠ (ga K "Ratio") := (of_decide_eq_true (ex_at M 34 (f := fun K => decide ((ga K "Grid") ≠ (ga K "Ratio"))) rfl))
  have T : KG.Txt K mg := txt_mk X G nf
  have TG : GTxt K mg (ga K "Grid") (ga K "NoGrid") (ga K "ToldError") := gtxt_mk X G (eqO_ok (D.fact 25 (f := .glo "Grid") rfl)) (eqO_ok (D.fact 26 (f := .glo "NoGrid") rfl)) (eqO_ok (D.fact 27 (f := .glo "ToldError") rfl)) neG cG xf eG xeG rfl
  have TR : KR.Txt K mg (ga K "Ratio") (ga K "NoRatio") (ga K "ToldError") := rtxt_mk X G (eqO_ok (D.fact 28 (f := .glo "Ratio") rfl)) (eqO_ok (D.fact 29 (f := .glo "NoRatio") rfl)) (eqO_ok (D.fact 27 (f := .glo "ToldError") rfl)) neR cR xf eR inf nf xeR rfl
  have TQ : QTxt K mg (ga K "Grid") (ga K "Ratio") (ga K "Question") (ga K "NoGrid") (ga K "NoRatio") (ga K "NoQuestion") (ga K "NoAmounts") (ga K "ToldError") := qtxt_mk X G TG TR nGR cG cR cQ xf eQ eN nf (eqO_ok (D.fact 30 (f := .glo "Question") rfl)) (eqO_ok (D.fact 31 (f := .glo "NoQuestion") rfl)) (eqO_ok (D.fact 32 (f := .glo "NoAmounts") rfl)) neQ xeQ rfl
  have D1 : GloOk P w K mg base CX0 1 "is_sequence" ["found"] KG.spSeq := GF.ok (glo_gf (st := KF.top 16) (D.fact 33 (f := .glo "is_sequence") rfl) (D.def_ 0 (d := KF.dg_is_sequence) rfl)) X G (fun f fd F => KG.ok_seq F T) fun _ _ _ _ _ _ us hl => match us, hl with | [_], _ => rfl
  have D2 : GloOk P w K mg base CX0 2 "is_pair" ["found"] KG.spPair := GF.ok (glo_gf (st := KF.top 17) (D.fact 34 (f := .glo "is_pair") rfl) (D.def_ 1 (d := KF.dg_is_pair) rfl)) X G (fun f fd F => KG.ok_pair F T D1) fun _ _ _ _ _ _ us hl => match us, hl with | [_], _ => rfl
  have D3 : GloOk P w K mg base CX0 1 "is_word" ["found"] KG.spWord := GF.ok (glo_gf (st := KF.top 18) (D.fact 35 (f := .glo "is_word") rfl) (D.def_ 2 (d := KF.dg_is_word) rfl)) X G (fun f fd F => KG.ok_word F T hL hD hN) fun _ _ _ _ _ _ us hl => match us, hl with | [_], _ => rfl
  have D4 : GloOk P w K mg base CX0 2 "is_name" ["found"] KG.spName := GF.ok (glo_gf (st := KF.top 19) (D.fact 36 (f := .glo "is_name") rfl) (D.def_ 3 (d := KF.dg_is_name) rfl)) X G (fun f fd F => KG.ok_name F T hR sR D3) fun _ _ _ _ _ _ us hl => match us, hl with | [_], _ => rfl
  have D5 : GloOk P w K mg base CX0 3 "are_names" ["found"] KG.spNames := GF.ok (glo_gf (st := KF.top 20) (D.fact 37 (f := .glo "are_names") rfl) (D.def_ 4 (d := KF.dg_are_names) rfl)) X G (fun f fd F => KG.ok_names F T D1 D4) fun _ _ _ _ _ _ us hl => match us, hl with | [_], _ => rfl
  have D6 : GloOk P w K mg base CX0 4 "are_unlike_names" ["found"] KG.spUnlike := GF.ok (glo_gf (st := KF.top 21) (D.fact 38 (f := .glo "are_unlike_names") rfl) (D.def_ 5 (d := KF.dg_are_unlike_names) rfl)) X G (fun f fd F => KG.ok_unlike F T D5) fun _ _ _ _ _ _ us hl => match us, hl with | [_], _ => rfl
  have D7 : GloOk P w K mg base CX0 3 "are_pairs_of_axes" ["axes"] KG.spAxes := GF.ok (glo_gf (st := KF.top 28) (D.fact 39 (f := .glo "are_pairs_of_axes") rfl) (D.def_ 6 (d := KF.dg_are_pairs_of_axes) rfl)) X G (fun f fd F => KG.ok_axes F T hA D1 D2) fun _ _ _ _ _ _ us hl => match us, hl with | [_], _ => rfl
  have D8 : GloOk P w K mg base CX0 5 "are_members" ["found"] KG.spMem := GF.ok (glo_gf (st := KF.top 29) (D.fact 40 (f := .glo "are_members") rfl) (D.def_ 7 (d := KF.dg_are_members) rfl)) X G (fun f fd F => KG.ok_mem F T hM D6) fun _ _ _ _ _ _ us hl => match us, hl with | [_], _ => rfl
  have D9 : GloOk P w K mg base CX0 1 "cells_of" ["axes"] KG.spCells := GF.ok (glo_gf (st := KF.top 30) (D.fact 41 (f := .glo "cells_of") rfl) (D.def_ 8 (d := KF.dg_cells_of) rfl)) X G (fun f fd F => KG.ok_cells F T) fun _ _ _ _ _ _ us hl => match us, hl with | [_], _ => rfl
  have D10 : GloOk P w K mg base CX0 1 "_law_stream" ["script", "k"] (KG.spStream K) := GF.ok (glo_gf (st := KF.top 45) (D.fact 42 (f := .glo "_law_stream") rfl) (D.def_ 9 (d := KF.dg__law_stream) rfl)) X G (fun f fd F => KG.ok_stream F T) fun _ _ _ _ _ _ us hl => match us, hl with | [_, _], _ => rfl
  have D11 : GloOk P w K mg base CX0 1 "_law_draw" ["stream", "many"] KG.spDraw := GF.ok (glo_gf (st := KF.top 46) (D.fact 43 (f := .glo "_law_draw") rfl) (D.def_ 10 (d := KF.dg__law_draw) rfl)) X G (fun f fd F => KG.ok_draw F T) fun _ _ _ _ _ _ us hl => match us, hl with | [_, _], _ => rfl
  have D12 : GloOk P w K mg base CX0 2 "_law_names" ["stream", "many"] KG.spLNames := GF.ok (glo_gf (st := KF.top 54) (D.fact 44 (f := .glo "_law_names") rfl) (D.def_ 11 (d := KF.dg__law_names) rfl)) X G (fun f fd F => KG.ok_lnames F T D11) fun _ _ _ _ _ _ us hl => match us, hl with | [_, _], _ => rfl
  have D13 : GloOk P w K mg base CX0 3 "_law_axes" ["stream"] KG.spLAxes := GF.ok (glo_gf (st := KF.top 55) (D.fact 45 (f := .glo "_law_axes") rfl) (D.def_ 12 (d := KF.dg__law_axes) rfl)) X G (fun f fd F => KG.ok_laxes F T D11 D12) fun _ _ _ _ _ _ us hl => match us, hl with | [_], _ => rfl
  have GEG : ErrOk P w K mg base (ga K "NoGrid") 1 ["self", "word"] (KG.spErr K (ga K "NoGrid")) := by
    obtain ⟨fd, F⟩ := (D.def_ 13 (d := KF.dg_NoGrid_x___init__) rfl)
    exact ⟨_, fd, KG.ok_err F TQ.g, (of_decide_eq_true (ex_at M 35 (f := fun K => decide (PySem.W.findIn K (.ref (ga K "NoGrid")) "__init__" = some (some (.ref (ma K (ga K "NoGrid") "__init__"))))) rfl)), (of_decide_eq_true (ex_at M 36 (f := fun K => decide (PySem.W.typeIn K (.ref (ma K (ga K "NoGrid") "__init__")) = some (.type "function"))) rfl)), F.bindsN fun _ _ _ _ _ _ us hl => match us, hl with | [_, _], _ => rfl⟩
  have GMG : MkOk P w K mg base (ga K "Grid") (L2.CX P w) 6 ["self", "axes"] (KG.spInit K (ga K "Grid") (ga K "NoGrid")) := by
    obtain ⟨fd, F⟩ := (D.def_ 14 (d := KF.dg_Grid_x___init__) rfl)
    exact ⟨_, fd, KG.ok_init F T TQ.g hC GEG D7 D6 D8 D9, ⟨cG.mks, (of_decide_eq_true (ex_at M 37 (f := fun K => decide (PySem.W.findIn K (.ref (ga K "Grid")) "__init__" = some (some (.ref (ma K (ga K "Grid") "__init__"))))) rfl)), (of_decide_eq_true (ex_at M 38 (f := fun K => decide (PySem.W.isFn K (.ref (ma K (ga K "Grid") "__init__")) = true)) rfl)), cG.kc⟩, F.bindsN fun _ _ _ _ _ _ us hl => match us, hl with | [_, _], _ => rfl⟩
  have EG : MthOk P w K mg base (ga K "Grid") CX0 1 "__eq__" ["self", "other"] (KG.spEq K (ga K "Grid")) := MF.ok (meth_mf (q := "Grid.__eq__") (st := inClass (KF.top 27) 1) (meth_ok (D.fact 46 (f := .meth "Grid" "__eq__") rfl)) (D.def_ 15 (d := KF.dg_Grid_x___eq__) rfl)) (fun f fd F => KG.ok_eq F T TQ.g) fun _ _ _ _ _ _ us hl => match us, hl with | [_, _], _ => rfl
  have R1 : GloOk P w K mg base CX0 1 "is_integer" ["found"] (KR.spIsInt K) := GF.ok (glo_gf (st := KF.top 15) (D.fact 47 (f := .glo "is_integer") rfl) (D.def_ 16 (d := KF.dg_is_integer) rfl)) X G (fun f fd F => KR.ok_isInt F TQ.r) fun _ _ _ _ _ _ us hl => match us, hl with | [_], _ => rfl
  have GER : ErrOk P w K mg base (ga K "NoRatio") 1 ["self", "word"] (KR.spErr K (ga K "NoRatio")) := by
    obtain ⟨fd, F⟩ := (D.def_ 17 (d := KF.dg_NoRatio_x___init__) rfl)
    exact ⟨_, fd, KR.ok_err F TQ.r, (of_decide_eq_true (ex_at M 39 (f := fun K => decide (PySem.W.findIn K (.ref (ga K "NoRatio")) "__init__" = some (some (.ref (ma K (ga K "NoRatio") "__init__"))))) rfl)), (of_decide_eq_true (ex_at M 40 (f := fun K => decide (PySem.W.typeIn K (.ref (ma K (ga K "NoRatio") "__init__")) = some (.type "function"))) rfl)), F.bindsN fun _ _ _ _ _ _ us hl => match us, hl with | [_, _], _ => rfl⟩
  have GMR : KR.MkOk P w K mg base (ga K "Ratio") (L2.CX P w) 3 ["self", "top", "bottom"] [.int 1] (KR.spInit K (ga K "Ratio") (ga K "NoRatio")) := by
    obtain ⟨fd, F⟩ := (D.def_ 18 (d := KF.dg_Ratio_x___init__) rfl)
    obtain ⟨ds, vd, bd⟩ := FunD.binds1 F (ps := ["self", "top", "bottom"]) 3 1 (List.cons_ne_nil _ _) rfl fun _ _ _ _ _ _ _ us its hl hi => match us, its, hl, hi with | [_, _, _], [_], _, _ => ⟨_, rfl, rfl⟩
    obtain ⟨ds', vd', bd'⟩ := FunD.binds1 F (ps := ["self", "top", "bottom"]) 2 0 (List.cons_ne_nil _ _) rfl fun _ _ _ _ _ _ _ us its hl hi => match us, its, hl, hi with | [_, _], [_], _, _ => ⟨_, rfl, rfl⟩
    cases vd
    exact ⟨_, fd, KR.ok_init F TQ.r R1 GER, ⟨cR.mks, (of_decide_eq_true (ex_at M 41 (f := fun K => decide (PySem.W.findIn K (.ref (ga K "Ratio")) "__init__" = some (some (.ref (ma K (ga K "Ratio") "__init__"))))) rfl)), (of_decide_eq_true (ex_at M 42 (f := fun K => decide (PySem.W.isFn K (.ref (ma K (ga K "Ratio") "__init__")) = true)) rfl)), cR.kc⟩, bd, ds', vd', bd'⟩
  have R2 : GloOk P w K mg base CX0 5 "as_ratio" ["number"] (KR.spAsR (ga K "Ratio")) := GF.ok (glo_gf (st := KF.top 34) (D.fact 48 (f := .glo "as_ratio") rfl) (D.def_ 19 (d := KF.dg_as_ratio) rfl)) X G (fun f fd F => KR.ok_asR F TQ.r GMR) fun _ _ _ _ _ _ us hl => match us, hl with | [_], _ => rfl
  have R4 : GloOk P w K mg base CX0 1 "_law_common" ["one", "rest"] KR.spCommon := GF.ok (glo_gf (st := KF.top 47) (D.fact 49 (f := .glo "_law_common") rfl) (D.def_ 20 (d := KF.dg__law_common) rfl)) X G (fun f fd F => KR.ok_common F TQ.r) fun _ _ _ _ _ _ us hl => match us, hl with | [_, _], _ => rfl
  have R5 : GloOk P w K mg base CX0 2 "_law_frac" ["top", "bottom"] KR.spFrac := GF.ok (glo_gf (st := KF.top 48) (D.fact 50 (f := .glo "_law_frac") rfl) (D.def_ 21 (d := KF.dg__law_frac) rfl)) X G (fun f fd F => KR.ok_frac F TQ.r R4) fun _ _ _ _ _ _ us hl => match us, hl with | [_, _], _ => rfl
  have R3 : GloOk P w K mg base CX0 1 "_law_is_integer" ["thing"] (KR.spIsInt K) := GF.ok (glo_gf (st := KF.top 44) (D.fact 51 (f := .glo "_law_is_integer") rfl) (D.def_ 22 (d := KF.dg__law_is_integer) rfl)) X G (fun f fd F => KR.ok_lint F TQ.r) fun _ _ _ _ _ _ us hl => match us, hl with | [_], _ => rfl
  have R6 : GloOk P w K mg base CX0 3 "_law_plus" ["one", "other"] (KR.spPair KR.addT) := GF.ok (glo_gf (st := KF.top 49) (D.fact 52 (f := .glo "_law_plus") rfl) (D.def_ 23 (d := KF.dg__law_plus) rfl)) X G (fun f fd F => KR.ok_plus F TQ.r R5) fun _ _ _ _ _ _ us hl => match us, hl with | [_, _], _ => rfl
  have R7 : GloOk P w K mg base CX0 3 "_law_by" ["one", "other"] (KR.spPair KR.mulT) := GF.ok (glo_gf (st := KF.top 50) (D.fact 53 (f := .glo "_law_by") rfl) (D.def_ 24 (d := KF.dg__law_by) rfl)) X G (fun f fd F => KR.ok_by F TQ.r R5) fun _ _ _ _ _ _ us hl => match us, hl with | [_, _], _ => rfl
  have R8 : GloOk P w K mg base CX0 2 "_law_is" ["told", "due"] (KR.spIs (ga K "Ratio")) := GF.ok (glo_gf (st := KF.top 51) (D.fact 54 (f := .glo "_law_is") rfl) (D.def_ 25 (d := KF.dg__law_is) rfl)) X G (fun f fd F => KR.ok_is F TQ.r R3) fun _ _ _ _ _ _ us hl => match us, hl with | [_, _], _ => rfl
  have ER : MthOk P w K mg base (ga K "Ratio") CX0 2 "__eq__" ["self", "other"] (KR.spEq K (ga K "Ratio")) := MF.ok (meth_mf (q := "Ratio.__eq__") (st := inClass (KF.top 32) 10) (meth_ok (D.fact 55 (f := .meth "Ratio" "__eq__") rfl)) (D.def_ 26 (d := KF.dg_Ratio_x___eq__) rfl)) (fun f fd F => KR.ok_eq F TQ.r R1) fun _ _ _ _ _ _ us hl => match us, hl with | [_, _], _ => rfl
  have S1 : GloOk P w K mg base CX0 1 "is_sequence" ["found"] (spSeq (ga K "Ratio") (ga K "Grid")) := GF.ok (glo_gf (st := KF.top 16) (D.fact 33 (f := .glo "is_sequence") rfl) (D.def_ 0 (d := KF.dg_is_sequence) rfl)) X G (fun f fd F => ok_seq F T TQ) fun _ _ _ _ _ _ us hl => match us, hl with | [_], _ => rfl
  have S2 : GloOk P w K mg base CX0 2 "is_number" ["found"] (spNum (ga K "Ratio") (ga K "Grid")) := GF.ok (glo_gf (st := KF.top 33) (D.fact 56 (f := .glo "is_number") rfl) (D.def_ 27 (d := KF.dg_is_number) rfl)) X G (fun f fd F => ok_num F T TQ R1) fun _ _ _ _ _ _ us hl => match us, hl with | [_], _ => rfl
  have S3 : GloOk P w K mg base CX0 3 "are_amounts" ["grid", "found"] (spAmts (ga K "Ratio") (ga K "Grid")) := GF.ok (glo_gf (st := KF.top 42) (D.fact 57 (f := .glo "are_amounts") rfl) (D.def_ 28 (d := KF.dg_are_amounts) rfl)) X G (fun f fd F => ok_amts F T TQ S1 S2) fun _ _ _ _ _ _ us hl => match us, hl with | [_, _], _ => rfl
  have S4 : GloOk P w K mg base CX0 1 "over_one" ["numbers"] (spOver1 (ga K "Ratio")) := GF.ok (glo_gf (st := KF.top 37) (D.fact 58 (f := .glo "over_one") rfl) (D.def_ 29 (d := KF.dg_over_one) rfl)) X G (fun f fd F => ok_over1 F T TQ) fun _ _ _ _ _ _ us hl => match us, hl with | [_], _ => rfl
  have S5 : GloOk P w K mg base CX0 1 "dot" ["ones", "others"] spDot := GF.ok (glo_gf (st := KF.top 38) (D.fact 59 (f := .glo "dot") rfl) (D.def_ 30 (d := KF.dg_dot) rfl)) X G (fun f fd F => ok_dot F T TQ) fun _ _ _ _ _ _ us hl => match us, hl with | [_, _], _ => rfl
  have S6 : GloOk P w K mg base CX0 5 "sum_of_products" ["ones", "others"] (spSum (ga K "Ratio")) := GF.ok (glo_gf (st := KF.top 39) (D.fact 60 (f := .glo "sum_of_products") rfl) (D.def_ 31 (d := KF.dg_sum_of_products) rfl)) X G (fun f fd F => ok_sum F T TQ S4 S5 GMR) fun _ _ _ _ _ _ us hl => match us, hl with | [_, _], _ => rfl
  have GEQ : ErrOk P w K mg base (ga K "NoQuestion") 1 ["self", "word"] (spErr K (ga K "NoQuestion")) := by
    obtain ⟨fd, F⟩ := (D.def_ 32 (d := KF.dg_NoQuestion_x___init__) rfl)
    exact ⟨_, fd, ok_err F TQ, (of_decide_eq_true (ex_at M 43 (f := fun K => decide (PySem.W.findIn K (.ref (ga K "NoQuestion")) "__init__" = some (some (.ref (ma K (ga K "NoQuestion") "__init__"))))) rfl)), (of_decide_eq_true (ex_at M 44 (f := fun K => decide (PySem.W.typeIn K (.ref (ma K (ga K "NoQuestion") "__init__")) = some (.type "function"))) rfl)), F.bindsN fun _ _ _ _ _ _ us hl => match us, hl with | [_, _], _ => rfl⟩
  have GMQ : MkOk P w K mg base (ga K "Question") (L2.CX P w) 6 ["self", "grid", "weights"] (spQInit K (ga K "Question") (ga K "Grid") (ga K "Ratio") (ga K "NoQuestion")) := by
    obtain ⟨fd, F⟩ := (D.def_ 33 (d := KF.dg_Question_x___init__) rfl)
    exact ⟨_, fd, ok_qinit F T TQ GEQ S3 R2, ⟨cQ.mks, (of_decide_eq_true (ex_at M 45 (f := fun K => decide (PySem.W.findIn K (.ref (ga K "Question")) "__init__" = some (some (.ref (ma K (ga K "Question") "__init__"))))) rfl)), (of_decide_eq_true (ex_at M 46 (f := fun K => decide (PySem.W.isFn K (.ref (ma K (ga K "Question") "__init__")) = true)) rfl)), cQ.kc⟩, F.bindsN fun _ _ _ _ _ _ us hl => match us, hl with | [_, _, _], _ => rfl⟩
  have EQ : MthOk P w K mg base (ga K "Question") CX0 4 "__eq__" ["self", "other"] (spQEq K (ga K "Question") (ga K "Grid") (ga K "Ratio")) := MF.ok (meth_mf (q := "Question.__eq__") (st := inClass (KF.top 41) 1) (meth_ok (D.fact 61 (f := .meth "Question" "__eq__") rfl)) (D.def_ 34 (d := KF.dg_Question_x___eq__) rfl)) (fun f fd F => ok_qeq F T TQ EG ER) fun _ _ _ _ _ _ us hl => match us, hl with | [_, _], _ => rfl
  have AT : MthOk P w K mg base (ga K "Question") (L2.CX P w) 6 "at" ["self", "amounts"] (spAt (ga K "Question") (ga K "Grid") (ga K "Ratio") (ga K "NoAmounts")) := MF.ok (meth_mf (q := "Question.at") (st := inClass (KF.top 41) 8) (meth_ok (D.fact 62 (f := .meth "Question" "at") rfl)) (D.def_ 35 (d := KF.dg_Question_x_at) rfl)) (fun f fd F => ok_at F T TQ S3 R2 S6) fun _ _ _ _ _ _ us hl => match us, hl with | [_, _], _ => rfl
  have NO : MthOk P w K mg base (ga K "Question") CX0 3 "is_nothing" ["self"] (spNothing (ga K "Question") (ga K "Grid") (ga K "Ratio")) := MF.ok (meth_mf (q := "Question.is_nothing") (st := inClass (KF.top 41) 9) (meth_ok (D.fact 63 (f := .meth "Question" "is_nothing") rfl)) (D.def_ 36 (d := KF.dg_Question_x_is_nothing) rfl)) (fun f fd F => ok_nothing F T TQ ER) fun _ _ _ _ _ _ us hl => match us, hl with | [_], _ => rfl
  have RN : GloOk P w K mg base CX0 2 "is_number" ["found"] (KR.spIsNum (ga K "Ratio")) := GF.ok (glo_gf (st := KF.top 33) (D.fact 56 (f := .glo "is_number") rfl) (D.def_ 27 (d := KF.dg_is_number) rfl)) X G (fun f fd F => KR.ok_isNum F TQ.r R1) fun _ _ _ _ _ _ us hl => match us, hl with | [_], _ => rfl
  have RA : MthOk P w K mg base (ga K "Ratio") CX0 6 "__add__" ["self", "other"] (KR.spBin (ga K "Ratio") KR.addT KR.bb) := MF.ok (meth_mf (q := "Ratio.__add__") (st := inClass (KF.top 32) 1) (meth_ok (D.fact 64 (f := .meth "Ratio" "__add__") rfl)) (D.def_ 37 (d := KF.dg_Ratio_x___add__) rfl)) (fun f fd F => KR.ok_add F TQ.r GMR RN R2) fun _ _ _ _ _ _ us hl => match us, hl with | [_, _], _ => rfl
  have RMul : MthOk P w K mg base (ga K "Ratio") CX0 6 "__mul__" ["self", "other"] (KR.spBin (ga K "Ratio") KR.mulT KR.bb) := MF.ok (meth_mf (q := "Ratio.__mul__") (st := inClass (KF.top 32) 5) (meth_ok (D.fact 65 (f := .meth "Ratio" "__mul__") rfl)) (D.def_ 38 (d := KF.dg_Ratio_x___mul__) rfl)) (fun f fd F => KR.ok_mul F TQ.r GMR RN R2) fun _ _ _ _ _ _ us hl => match us, hl with | [_, _], _ => rfl
  have RNeg : MthOk P w K mg base (ga K "Ratio") CX0 5 "__neg__" ["self"] (KR.spUn (ga K "Ratio") fun t => -t) := MF.ok (meth_mf (q := "Ratio.__neg__") (st := inClass (KF.top 32) 7) (meth_ok (D.fact 66 (f := .meth "Ratio" "__neg__") rfl)) (D.def_ 39 (d := KF.dg_Ratio_x___neg__) rfl)) (fun f fd F => KR.ok_neg F TQ.r GMR) fun _ _ _ _ _ _ us hl => match us, hl with | [_], _ => rfl
  have ROv : MthOk P w K mg base (ga K "Ratio") (L2.CX P w) 6 "over" ["self", "number"] (KR.spOver (ga K "Ratio") (ga K "NoRatio")) := MF.ok (meth_mf (q := "Ratio.over") (st := inClass (KF.top 32) 9) (meth_ok (D.fact 67 (f := .meth "Ratio" "over") rfl)) (D.def_ 40 (d := KF.dg_Ratio_x_over) rfl)) (fun f fd F => KR.ok_over F TQ.r GMR R2) fun _ _ _ _ _ _ us hl => match us, hl with | [_, _], _ => rfl
  have RR : ∃ q, Meth K (ga K "Ratio") "__rmul__" q := ⟨_, (meth_ok (D.fact 68 (f := .meth "Ratio" "__rmul__") rfl))⟩
  have QR : ∃ q, Meth K (ga K "Question") "__rmul__" q := ⟨_, (meth_ok (D.fact 69 (f := .meth "Question" "__rmul__") rfl))⟩
  have RMm : ∃ q, Meth K (ga K "Ratio") "__mul__" q := ⟨_, (meth_ok (D.fact 65 (f := .meth "Ratio" "__mul__") rfl))⟩
  have RM : ∃ f fd, FnP K "__mul__" "Ratio.__mul__" KR.sMul [] f fd ∧ Meth K (ga K "Ratio") "__mul__" f ∧ Binds K fd ["self", "other"] [] := by
    obtain ⟨fd, F⟩ := (D.def_ 38 (d := KF.dg_Ratio_x___mul__) rfl)
    exact ⟨_, fd, F, (meth_ok (D.fact 65 (f := .meth "Ratio" "__mul__") rfl)), FunD.bindsN F fun _ _ _ _ _ _ us hl => match us, hl with | [_, _], _ => rfl⟩
  have eO : NEF K (ga K "OtherGrid") := (nf_ok (ex_at M 47 (f := fun K => KF.nfB K (ga K "OtherGrid")) rfl))
  have rq : PySem.W.subIn K (.ref (ga K "Ratio")) (.ref (ga K "Question")) = some false := (of_decide_eq_true (ex_at M 48 (f := fun K => decide (PySem.W.subIn K (.ref (ga K "Ratio")) (.ref (ga K "Question")) = some false)) rfl))
  have qr : PySem.W.subIn K (.ref (ga K "Question")) (.ref (ga K "Ratio")) = some false := (of_decide_eq_true (ex_at M 49 (f := fun K => decide (PySem.W.subIn K (.ref (ga K "Question")) (.ref (ga K "Ratio")) = some false)) rfl))
  have nRQ : (ga K "Ratio") ≠ (ga K "Question") := (of_decide_eq_true (ex_at M 50 (f := fun K => decide ((ga K "Ratio") ≠ (ga K "Question"))) rfl))
  have O : OTx K mg (ga K "Ratio") (ga K "Question") (ga K "OtherGrid") := ⟨⟨(of_decide_eq_true (ex_at M 51 (f := fun K => decide (PySem.W.selfFirst K (ga K "Question") = true)) rfl)), cQ.iI, cQ.oI⟩, rq, qr, nRQ, eO.q, (glo_ok X G (D.fact 70 (f := .glo "OtherGrid") rfl)), eO.kN, eO.ex, eO.ty⟩
  have eT : EF K (ga K "OtherGrid") (ga K "ToldError") := (ef_ok (ex_at M 52 (f := fun K => KF.efB K (ga K "OtherGrid") (ga K "ToldError")) rfl))
  have OX : OEx K (ga K "OtherGrid") (ga K "ToldError") := ⟨exm_own eO.ex eO.ic eO.ty eO.se, (of_decide_eq_true (ex_at M 53 (f := fun K => decide ((ga K "OtherGrid") ≠ (ga K "ToldError"))) rfl)), kit_cl eT.ib eT.tb eT.sb⟩
  have hqr : PySem.W.kitOne K (.ref (ga K "Question")) (.ref (ga K "Ratio")) = some false := kit_rr (Ne.symm nRQ) cR.ic cR.ty qr
  have NQ : GloOk P w K mg base CX0 2 "is_number" ["found"] (spNumQ (ga K "Question") (ga K "Grid") (ga K "Ratio")) := GF.ok (glo_gf (st := KF.top 33) (D.fact 56 (f := .glo "is_number") rfl) (D.def_ 27 (d := KF.dg_is_number) rfl)) X G (fun f fd F => ok_numQ F T TQ hqr R1) fun _ _ _ _ _ _ us hl => match us, hl with | [_], _ => rfl
  have QN : MthOk P w K mg base (ga K "Question") CX0 8 "__neg__" ["self"] (spQNeg (ga K "Question") (ga K "Grid") (ga K "Ratio")) := MF.ok (meth_mf (q := "Question.__neg__") (st := inClass (KF.top 41) 4) (meth_ok (D.fact 71 (f := .meth "Question" "__neg__") rfl)) (D.def_ 41 (d := KF.dg_Question_x___neg__) rfl)) (fun f fd F => ok_qneg F T TQ GMQ RNeg) fun _ _ _ _ _ _ us hl => match us, hl with | [_], _ => rfl
  have QM : MthOk P w K mg base (ga K "Question") CX0 8 "__mul__" ["self", "other"] (spQMul (ga K "Question") (ga K "Grid") (ga K "Ratio")) := MF.ok (meth_mf (q := "Question.__mul__") (st := inClass (KF.top 41) 5) (meth_ok (D.fact 72 (f := .meth "Question" "__mul__") rfl)) (D.def_ 42 (d := KF.dg_Question_x___mul__) rfl)) (fun f fd F => ok_qmul F T TQ GMQ S2 RMul RR) fun _ _ _ _ _ _ us hl => match us, hl with | [_, _], _ => rfl
  have QRm : MthOk P w K mg base (ga K "Question") CX0 9 "__rmul__" ["self", "other"] (spQMul (ga K "Question") (ga K "Grid") (ga K "Ratio")) := MF.ok (meth_mf (q := "Question.__rmul__") (st := inClass (KF.top 41) 6) (meth_ok (D.fact 69 (f := .meth "Question" "__rmul__") rfl)) (D.def_ 43 (d := KF.dg_Question_x___rmul__) rfl)) (fun f fd F => ok_qrmul F TQ O QM QR RMm RR) fun _ _ _ _ _ _ us hl => match us, hl with | [_, _], _ => rfl
  have QO : MthOk P w K mg base (ga K "Question") (L2.CX P w) 8 "over" ["self", "number"] (spQOver (ga K "Question") (ga K "Grid") (ga K "Ratio") (ga K "NoRatio")) := MF.ok (meth_mf (q := "Question.over") (st := inClass (KF.top 41) 7) (meth_ok (D.fact 73 (f := .meth "Question" "over") rfl)) (D.def_ 44 (d := KF.dg_Question_x_over) rfl)) (fun f fd F => ok_qover F T TQ GMQ ROv) fun _ _ _ _ _ _ us hl => match us, hl with | [_, _], _ => rfl
  have QA : MthOk P w K mg base (ga K "Question") (L2.CX P w) 8 "__add__" ["self", "other"] (spQAdd (ga K "Question") (ga K "Grid") (ga K "Ratio") (ga K "OtherGrid")) := MF.ok (meth_mf (q := "Question.__add__") (st := inClass (KF.top 41) 2) (meth_ok (D.fact 74 (f := .meth "Question" "__add__") rfl)) (D.def_ 45 (d := KF.dg_Question_x___add__) rfl)) (fun f fd F => ok_qadd F T TQ O cG.ne GMQ EG RA) fun _ _ _ _ _ _ us hl => match us, hl with | [_, _], _ => rfl
  have QS : MthOk P w K mg base (ga K "Question") (L2.CX P w) 9 "__sub__" ["self", "other"] (spQSub (ga K "Question") (ga K "Grid") (ga K "Ratio") (ga K "OtherGrid")) := MF.ok (meth_mf (q := "Question.__sub__") (st := inClass (KF.top 41) 3) (meth_ok (D.fact 75 (f := .meth "Question" "__sub__") rfl)) (D.def_ 46 (d := KF.dg_Question_x___sub__) rfl)) (fun f fd F => ok_qsub F T TQ O QA QN) fun _ _ _ _ _ _ us hl => match us, hl with | [_, _], _ => rfl
  have hni : mg "NotImplemented" = none := (free_ok X G (D.fact 76 (f := .free "NotImplemented") rfl))
  have L1 : GloOk P w K mg base CX0 3 "_law_number" ["stream"] spLNum := GF.ok (glo_gf (st := KF.top 52) (D.fact 77 (f := .glo "_law_number") rfl) (D.def_ 47 (d := KF.dg__law_number) rfl)) X G (fun f fd F => ok_lnum F T D11 R5) fun _ _ _ _ _ _ us hl => match us, hl with | [_], _ => rfl
  have L2 : GloOk P w K mg base CX0 5 "_law_handed" ["stream", "frac"] (spLHand (ga K "Ratio")) := GF.ok (glo_gf (st := KF.top 53) (D.fact 78 (f := .glo "_law_handed") rfl) (D.def_ 48 (d := KF.dg__law_handed) rfl)) X G (fun f fd F => ok_lhand F T TQ D11 GMR) fun _ _ _ _ _ _ us hl => match us, hl with | [_, _], _ => rfl
  have L3 : GloOk P w K mg base CX0 4 "_law_weights" ["stream", "size"] spLWeights := GF.ok (glo_gf (st := KF.top 56) (D.fact 79 (f := .glo "_law_weights") rfl) (D.def_ 49 (d := KF.dg__law_weights) rfl)) X G (fun f fd F => ok_lweights F T L1) fun _ _ _ _ _ _ us hl => match us, hl with | [_, _], _ => rfl
  have L5 : GloOk P w K mg base CX0 4 "_law_at" ["weights", "amounts"] spLAt := GF.ok (glo_gf (st := KF.top 57) (D.fact 80 (f := .glo "_law_at") rfl) (D.def_ 50 (d := KF.dg__law_at) rfl)) X G (fun f fd F => ok_lat F T R6 R7) fun _ _ _ _ _ _ us hl => match us, hl with | [_, _], _ => rfl
  have L6 : GloOk P w K mg base CX0 5 "_law_given" ["fracs"] (spLGiven (ga K "Ratio")) := GF.ok (glo_gf (st := KF.top 58) (D.fact 81 (f := .glo "_law_given") rfl) (D.def_ 51 (d := KF.dg__law_given) rfl)) X G (fun f fd F => ok_lgiven F T TQ GMR) fun _ _ _ _ _ _ us hl => match us, hl with | [_], _ => rfl
  have L8 : GloOk P w K mg base CX0 3 "_law_asks" ["told", "grid", "weights"] (spLAsks (ga K "Question") (ga K "Grid") (ga K "Ratio")) := GF.ok (glo_gf (st := KF.top 59) (D.fact 82 (f := .glo "_law_asks") rfl) (D.def_ 52 (d := KF.dg__law_asks) rfl)) X G (fun f fd F => ok_lasks F T TQ cG.ne EG R8) fun _ _ _ _ _ _ us hl => match us, hl with | [_, _, _], _ => rfl
  have LSm : GloOk P w K mg base CX0 3 "_law_small" ["stream"] spLSmall := GF.ok (glo_gf (st := KF.top 60) (D.fact 83 (f := .glo "_law_small") rfl) (D.def_ 53 (d := KF.dg__law_small) rfl)) X G (fun f fd F => ok_lsmall F T D11 R5) fun _ _ _ _ _ _ us hl => match us, hl with | [_], _ => rfl
  have LZ : GloOk P w K mg base CX0 9 "_law_over_zero" ["question"] (spLZero (ga K "Question") (ga K "Grid") (ga K "Ratio")) := GF.ok (glo_gf (st := KF.top 62) (D.fact 84 (f := .glo "_law_over_zero") rfl) (D.def_ 54 (d := KF.dg__law_over_zero) rfl)) X G (fun f fd F => ok_lzero F T TQ QO NO GMR) fun _ _ _ _ _ _ us hl => match us, hl with | [_], _ => rfl
  have LA : GloOk P w K mg base CX0 10 "_law_apart" ["one", "other", "which"] (spLApart (ga K "Question") (ga K "Grid") (ga K "Ratio")) := GF.ok (glo_gf (st := KF.top 63) (D.fact 85 (f := .glo "_law_apart") rfl) (D.def_ 55 (d := KF.dg__law_apart) rfl)) X G (fun f fd F => ok_lapart F T TQ O OX QA QS) fun _ _ _ _ _ _ us hl => match us, hl with | [_, _, _], _ => rfl
  have LP : GloOk P w K mg base CX0 10 "_law_step" ["stream", "question", "weights", "other", "more"] (spLStep (ga K "Question") (ga K "Grid") (ga K "Ratio")) := GF.ok (glo_gf (st := KF.top 61) (D.fact 86 (f := .glo "_law_step") rfl) (D.def_ 56 (d := KF.dg__law_step) rfl)) X G (fun f fd F => ok_lstep F T TQ O D11 LSm L2 R5 R6 R7 QA QS QN QM QRm QO RM RR hni NQ) fun _ _ _ _ _ _ us hl => match us, hl with | [_, _, _, _, _], _ => rfl
  exact ok_law FL T TQ GMG GMQ AT D10 D11 D13 L3 L8 R8 L5 L6 LP LZ LA
end K6

set_option Elab.async false
set_option linter.all false
set_option maxRecDepth 100000
set_option maxHeartbeats 0
open PySem PySem.W PySem.Calls PyProof.Rows
theorem PySem.Challenge.cw_toldwithin_k07_whole_questions_add_and_s_holds : PySem.Challenge.rw_toldwithin_k07_whole_questions_add_and_s.Holds := by
  w_on; o_law
  refine HandSHeadRun.head_imp (r := OpenLaw.row PySem.Challenge.rw_toldwithin_k07_whole_questions_add_and_s) (q := view (OpenLaw.row PySem.Challenge.rw_toldwithin_k07_whole_questions_add_and_s).prog [0, 64]) (H := KF.hk) (ob := KF.ob) (M := 20000) (loose := KF.loose) (d := HandSHeadRun.topDef (OpenLaw.row PySem.Challenge.rw_toldwithin_k07_whole_questions_add_and_s).prog 64) (kwd := []) KF.ob_eq
    KF.run (by kernel_rfl) (by kernel_rfl) (by kernel_rfl) (by rfl) (by first | assumption | decide +kernel) (by decide +kernel) ⟨rfl, rfl, rfl, rfl, rfl, by decide +kernel⟩ ?hw ?hc
  case hw => w_witness2
  case hc =>
    refine L2.walk_ofE (l := PySem.Challenge.rw_toldwithin_k07_whole_questions_add_and_s) (n := 63) (k := 11) (x := "script") (CX := L2.CX0) rfl (by decide) (by kernel_rfl) ⟨rfl, by decide, by decide⟩ ?F (fun _ _ _ _ z => z)
    intro w mg fa h Y G hmg0
    obtain ⟨K, KX, c⟩ := Y
    have hmg : mg ("law" : PySem.Str) = some (.ref fa) := by
      have e : (HandSHeadRun.topDef (OpenLaw.row PySem.Challenge.rw_toldwithin_k07_whole_questions_add_and_s).prog 64).name = ("law" : PySem.Str) := by kernel_rfl
      rw [← e]
      exact hmg0
    obtain ⟨fd, hb, hF⟩ := K6.facts (P := (PySem.Challenge.rw_toldwithin_k07_whole_questions_add_and_s).prog) (w := w) KX G hmg c
    exact ⟨K, fd, K6.spLaw K, KX, hb, fun H a ns hl _ hS => ⟨a, ns, rfl, hS, hl, fun _ => rfl⟩, hF⟩
