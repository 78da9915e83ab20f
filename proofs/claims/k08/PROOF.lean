import PyProof.Rows.All
import Wide.All
import OpenK.AllK
import Wide.FinOn
import HandS.Words
import HandS.WordsExc
import HandS.Defaults
import HandS.Head0
import HandS.Head1
import HandS.Head2
import HandS.Head3
import HandS.HeadEnd
import HandS.HeadHook1
import HandS.HeadHook2
import HandS.HeadHook3
import HandS.HeadHook4
import HandS.ForMost
import HandS.Exc
import HandS.Codes
import HandS.Walk
import HandS.Steps
import HandS.WordsList
import HandS.IsInst
import HandS.TryOnly
import HandS.Wide
import HandS.Conv
import HandS.TupAny
import HandS.ExcInit
import HandS.ExcField
import HandS.ExcOwn
import HandS.RaiseMore
import KE.KOpsOwn
import HandS.Base
import HandS.Call
import HandS.List
import HandS.MakeKw
import HandS.Gcd
import PyProof.InstNe
import PyProof.EqAt
import PyProof.EqKinds
import PyProof.FactsAll.dict_1
import HandS.Iter
import HandS.Zip0
import PyProof.Draws
import PyProof.EnumMake
import HandS.Strs
import HandS.Zip
import HandS.Style
import HandS.Small
import KE.KMathG
import HandS.Star
import HandS.TryMany
import HandS.Dict
import HandS.Deep
import HandS.Ends
import HandS.HeadWalk
import PySem.Challenge.RW_toldwithin_k08_whole_sums_over_regions
set_option Elab.async false
set_option linter.all false
set_option maxRecDepth 100000
set_option maxHeartbeats 0
/-! the run of the top, and the facts that are asked of what it leaves -/
namespace KF
open PySem PySem.Spec PyProof.Rows L2 He
def top (i : Nat) : Stmt := PySem.Challenge.pw_toldwithin_k08_whole_sums_over_regions.main.body.getD i (.Pass ⟨0, 0, 0, 0⟩)
abbrev veMro : List Value := [.type "ValueError", .type "Exception", .type "BaseException", .type "object"]
/-- the class that stands at C, its line bm -/
def clsB (K : PySem.W.Frag) (C : Addr) (bm : List Value) : Bool := match K.lookup C with
  | some ⟨cl, _, .cls cd, sl⟩ => decide (cl = .type "type") && (decide (cd.mro = .ref C :: bm) && (cd.hasDict && (!cd.hasDel && (match sl.toList with
      | [_, _, _, _, some (.builtin n), _] => decide (n = "ValueError.__new__")
      | _ => false))))
  | _ => false
abbrev ObjAt (K : PySem.W.Frag) (C : Addr) (bm : List Value) : Prop := ∃ nm q N bs sn sub ab col dd m0 m1 m2 m3 m5, K.lookup C = some (excClassObj nm q C N bs bm true sn sub ab col dd m0 m1 m2 m3 m5 "ValueError.__new__")
theorem clsB_ok {K : PySem.W.Frag} {C : Addr} {bm : List Value} (h : clsB K C bm = true) : ObjAt K C bm := by
  unfold clsB at h
  split at h
  · rename_i cl od cd sl e
    obtain ⟨h1, h⟩ := ba h
    obtain ⟨h2, h⟩ := ba h
    obtain ⟨h3, h⟩ := ba h
    obtain ⟨h4, h⟩ := ba h
    split at h
    · rename_i m0 m1 m2 m3 n m5 es
      have e1 := of_decide_eq_true h1
      have e2 := of_decide_eq_true h2
      have e5 := of_decide_eq_true h
      obtain ⟨sl⟩ := sl
      have es' : sl = [m0, m1, m2, m3, some (.builtin n), m5] := es
      subst e1 es' e5
      obtain ⟨x1, x2, x3, x4, x5, x6, x7, x8, x9, x10, x11⟩ := cd
      dsimp only at e2 h3 h4
      subst e2 h3
      have h4' : x11 = false := by cases x11 with | true => cases h4 | false => rfl
      subst h4'
      exact ⟨_, _, _, _, _, _, _, _, _, _, _, _, _, _, e⟩
    · cases h
  · cases h
def cfB (K : PySem.W.Frag) (C : Addr) : Bool := [decide (PySem.W.plainGet K C Str.empty = true), decide (PySem.W.hasDictIn K C = true), decide (PySem.W.plainOver K C = true), decide (PySem.W.findIn K (.ref C) "__setattr__" = some (some (.builtin "object.__setattr__"))), decide (PySem.W.makesIn K C = true), decide (PySem.W.keepIn K (.ref C) = true), decide (PySem.W.findIn K (.ref C) "__class__" = some (some (.builtin "object.__class__"))), decide (PySem.W.mroIn K C (.type "object") = some true), decide (PySem.W.isClsIn K C = true), decide (PySem.W.typeIn K (.ref C) = some (.type "type")), decide (PySem.W.findIn K (.ref C) "__ne__" = some (some (.builtin "object.__ne__"))), decide (PySem.W.subIn K (.ref C) (.type "list") = some false), decide (PySem.W.subIn K (.ref C) (.type "tuple") = some false), decide (PySem.W.subIn K (.ref C) (.type "int") = some false), decide (PySem.W.subIn K (.ref C) (.type "bool") = some false), decide (PySem.W.subIn K (.type "NoneType") (.ref C) = some false), decide (PySem.W.subIn K (.type "bool") (.ref C) = some false), decide (PySem.W.subIn K (.type "int") (.ref C) = some false), decide (PySem.W.subIn K (.type "str") (.ref C) = some false), decide (PySem.W.subIn K (.type "dict") (.ref C) = some false), decide (PySem.W.subIn K (.type "list") (.ref C) = some false), decide (PySem.W.subIn K (.type "tuple") (.ref C) = some false)].all id
def efB (K : PySem.W.Frag) (C B : Addr) : Bool := [decide (PySem.W.findIn K (.ref C) "__setattr__" = some (some (.builtin "object.__setattr__"))), decide (PySem.W.subIn K (.ref C) (.type "BaseException") = some true), decide (PySem.W.typeIn K (.ref C) = some (.type "type")), decide (PySem.W.keepIn K (.ref C) = true), decide (PySem.W.findIn K (.ref C) "word" = some none), decide (PySem.W.findIn K (.ref C) "__getattribute__" = some (some (.builtin "BaseException.__getattribute__"))), decide (PySem.W.findIn K (.ref C) "__getattr__" = some none), decide (PySem.W.hasDictIn K C = true), decide (PySem.W.isClsIn K C = true), decide (PySem.W.subIn K (.ref C) (.ref C) = some true), decide (PySem.W.isClsIn K B = true), decide (PySem.W.typeIn K (.ref B) = some (.type "type")), decide (PySem.W.subIn K (.ref C) (.ref B) = some true)].all id
def nfB (K : PySem.W.Frag) (C : Addr) : Bool := [decide (PySem.W.excIn K C veMro "ValueError.__new__" = true), decide (PySem.W.keepIn K (.ref C) = true), decide (PySem.W.subIn K (.ref C) (.type "BaseException") = some true), decide (PySem.W.typeIn K (.ref C) = some (.type "type")), decide (PySem.W.isClsIn K C = true), decide (PySem.W.subIn K (.ref C) (.ref C) = some true)].all id
def txB (K : PySem.W.Frag) (l : List (String × List String)) (ps : List (String × String)) : Bool :=
  [decide (PySem.W.specialIn K (.builtin "object.__class__") "__get__" = some (some (.builtin "getset_descriptor.__get__"))), decide (PySem.W.takesIn K (.builtin "object.__class__") = some true),
   l.all fun p => [cfB K (ga K (Str.ofString p.1)), decide (PySem.W.subIn K (.ref (ga K (Str.ofString p.1))) (.type "str") = some false), decide (PySem.W.subIn K (.ref (ga K (Str.ofString p.1))) (.type "dict") = some false),
     p.2.all fun f => decide (PySem.W.findIn K (.ref (ga K (Str.ofString p.1))) (Str.ofString f) = some none)].all id,
   ps.all fun p => [decide (ga K (Str.ofString p.1) ≠ ga K (Str.ofString p.2)), decide (PySem.W.subIn K (.ref (ga K (Str.ofString p.1))) (.ref (ga K (Str.ofString p.2))) = some false)].all id].all id
def ersB (K : PySem.W.Frag) (l : List String) (ps : List (String × String × Bool)) : Bool :=
  [l.all fun c => [decide (PySem.W.subIn K (.ref (ga K (Str.ofString c))) (.type "BaseException") = some true), decide (PySem.W.isClsIn K (ga K (Str.ofString c)) = true), decide (PySem.W.typeIn K (.ref (ga K (Str.ofString c))) = some (.type "type"))].all id,
   ps.all fun p => decide (PySem.W.subIn K (.ref (ga K (Str.ofString p.1))) (.ref (ga K (Str.ofString p.2.1))) = some p.2.2)].all id
def xfcB (K : PySem.W.Frag) (c : String) (ns : List String) : Bool :=
  [decide (PySem.W.findIn K (.ref (ga K (Str.ofString c))) "__getattribute__" = some (some (.builtin "BaseException.__getattribute__"))), decide (PySem.W.findIn K (.ref (ga K (Str.ofString c))) "__getattr__" = some none), decide (PySem.W.subIn K (.ref (ga K (Str.ofString c))) (.type "BaseException") = some true), decide (PySem.W.hasDictIn K (ga K (Str.ofString c)) = true),
   ns.all fun n => decide (PySem.W.findIn K (.ref (ga K (Str.ofString c))) (Str.ofString n) = some none), decide (ga K (Str.ofString c) ≠ ga K "ToldError"), decide (PySem.W.isClsIn K (ga K "ToldError") = true), decide (PySem.W.typeIn K (.ref (ga K "ToldError")) = some (.type "type")), decide (PySem.W.subIn K (.ref (ga K (Str.ofString c))) (.ref (ga K "ToldError")) = some true)].all id
def exnB (K : PySem.W.Frag) (c : String) (ns : List String) : Bool :=
  [clsB K (ga K (Str.ofString c)) (.ref (ga K "ToldError") :: veMro), decide (PySem.W.findIn K (.ref (ga K (Str.ofString c))) "__setattr__" = some (some (.builtin "object.__setattr__"))), decide (PySem.W.subIn K (.ref (ga K (Str.ofString c))) (.type "BaseException") = some true), decide (PySem.W.typeIn K (.ref (ga K (Str.ofString c))) = some (.type "type")), decide (PySem.W.keepIn K (.ref (ga K (Str.ofString c))) = true),
   ns.all fun n => decide (PySem.W.findIn K (.ref (ga K (Str.ofString c))) (Str.ofString n) = some none)].all id
def mk0 : List (PySem.W.Frag → Bool) := [fun K => KF.txB K [("Ratio", ["top", "bottom"]), ("Grid", ["axes", "cells", "size"]), ("Question", ["grid", "weights"])] [("Ratio", "Grid"), ("Ratio", "Question"), ("Grid", "Ratio"), ("Grid", "Question"), ("Question", "Ratio"), ("Question", "Grid")], fun K => tupB K "RESERVED" [.str "sum", .str "each"], fun K => KF.exnB K "NoRatio" ["word"], fun K => decide (PySem.W.nsIn K mainGlobals "gcd" = some (some (.builtin "math.gcd"))), fun K => decide (PySem.W.nsIn K mainGlobals "lcm" = some (some (.builtin "math.lcm"))), fun K => KF.exnB K "NoWish" ["place", "word"], fun K => KF.exnB K "NoQuestion" ["word"], fun K => KF.nfB K (ga K "NoAmounts"), fun K => decide (PySem.W.findIn K (.ref (ga K "Grid")) "__ne__" = some (some (.builtin "object.__ne__"))), fun K => decide (PySem.W.mroIn K (ga K "Grid") (.type "object") = some true), fun K => KF.exnB K "NoGrid" ["word"], fun K => KF.nfB K (ga K "OtherGrid"), fun K => decide (PySem.W.selfFirst K (ga K "Ratio") = true), fun K => decide (PySem.W.subIn K (.type "int") (.ref (ga K "Ratio")) = some false), fun K => decide (PySem.W.subIn K (.ref (ga K "Ratio")) (.type "int") = some false)]
def mk1 : List (PySem.W.Frag → Bool) := [fun K => decide (PySem.W.selfFirst K (ga K "Question") = true), fun K => decide (PySem.W.subIn K (.type "int") (.ref (ga K "Question")) = some false), fun K => decide (PySem.W.subIn K (.ref (ga K "Question")) (.type "int") = some false), fun K => KF.nfB K (ga K "NoAxis"), fun K => KF.ersB K ["ToldError", "NoRatio", "NoGrid", "NoWish", "NoAxis", "NoQuestion", "NoAmounts", "OtherGrid"] [("ToldError", "ToldError", true), ("ToldError", "NoRatio", false), ("ToldError", "NoGrid", false), ("ToldError", "NoWish", false), ("ToldError", "NoAxis", false), ("ToldError", "NoQuestion", false), ("ToldError", "NoAmounts", false), ("ToldError", "OtherGrid", false), ("NoRatio", "ToldError", true), ("NoRatio", "NoRatio", true), ("NoRatio", "NoGrid", false), ("NoRatio", "NoWish", false), ("NoRatio", "NoAxis", false), ("NoRatio", "NoQuestion", false), ("NoRatio", "NoAmounts", false), ("NoRatio", "OtherGrid", false), ("NoGrid", "ToldError", true), ("NoGrid", "NoRatio", false), ("NoGrid", "NoGrid", true), ("NoGrid", "NoWish", false), ("NoGrid", "NoAxis", false), ("NoGrid", "NoQuestion", false), ("NoGrid", "NoAmounts", false), ("NoGrid", "OtherGrid", false), ("NoWish", "ToldError", true), ("NoWish", "NoRatio", false), ("NoWish", "NoGrid", false), ("NoWish", "NoWish", true), ("NoWish", "NoAxis", false), ("NoWish", "NoQuestion", false), ("NoWish", "NoAmounts", false), ("NoWish", "OtherGrid", false), ("NoAxis", "ToldError", true), ("NoAxis", "NoRatio", false), ("NoAxis", "NoGrid", false), ("NoAxis", "NoWish", false), ("NoAxis", "NoAxis", true), ("NoAxis", "NoQuestion", false), ("NoAxis", "NoAmounts", false), ("NoAxis", "OtherGrid", false), ("NoQuestion", "ToldError", true), ("NoQuestion", "NoRatio", false), ("NoQuestion", "NoGrid", false), ("NoQuestion", "NoWish", false), ("NoQuestion", "NoAxis", false), ("NoQuestion", "NoQuestion", true), ("NoQuestion", "NoAmounts", false), ("NoQuestion", "OtherGrid", false), ("NoAmounts", "ToldError", true), ("NoAmounts", "NoRatio", false), ("NoAmounts", "NoGrid", false), ("NoAmounts", "NoWish", false), ("NoAmounts", "NoAxis", false), ("NoAmounts", "NoQuestion", false), ("NoAmounts", "NoAmounts", true), ("NoAmounts", "OtherGrid", false), ("OtherGrid", "ToldError", true), ("OtherGrid", "NoRatio", false), ("OtherGrid", "NoGrid", false), ("OtherGrid", "NoWish", false), ("OtherGrid", "NoAxis", false), ("OtherGrid", "NoQuestion", false), ("OtherGrid", "NoAmounts", false), ("OtherGrid", "OtherGrid", true)], fun K => KF.xfcB K "NoAxis" [], fun K => KF.xfcB K "NoWish" ["place", "word"], fun K => decide (PySem.W.findIn K (.ref (ga K "NoRatio")) "__init__" = some (some (.ref (ma K (ga K "NoRatio") "__init__")))), fun K => decide (PySem.W.typeIn K (.ref (ma K (ga K "NoRatio") "__init__")) = some (.type "function")), fun K => decide (PySem.W.findIn K (.ref (ga K "NoGrid")) "__init__" = some (some (.ref (ma K (ga K "NoGrid") "__init__")))), fun K => decide (PySem.W.typeIn K (.ref (ma K (ga K "NoGrid") "__init__")) = some (.type "function")), fun K => decide (PySem.W.findIn K (.ref (ga K "NoQuestion")) "__init__" = some (some (.ref (ma K (ga K "NoQuestion") "__init__")))), fun K => decide (PySem.W.typeIn K (.ref (ma K (ga K "NoQuestion") "__init__")) = some (.type "function")), fun K => decide (PySem.W.findIn K (.ref (ga K "NoWish")) "__init__" = some (some (.ref (ma K (ga K "NoWish") "__init__")))), fun K => decide (PySem.W.typeIn K (.ref (ma K (ga K "NoWish") "__init__")) = some (.type "function"))]
def mk2 : List (PySem.W.Frag → Bool) := [fun K => decide (PySem.W.makesIn K (ga K "Ratio") = true), fun K => decide (PySem.W.findIn K (.ref (ga K "Ratio")) "__init__" = some (some (.ref (ma K (ga K "Ratio") "__init__")))), fun K => decide (PySem.W.isFn K (.ref (ma K (ga K "Ratio") "__init__")) = true), fun K => decide (PySem.W.keepIn K (.ref (ga K "Ratio")) = true), fun K => decide (PySem.W.makesIn K (ga K "Question") = true), fun K => decide (PySem.W.findIn K (.ref (ga K "Question")) "__init__" = some (some (.ref (ma K (ga K "Question") "__init__")))), fun K => decide (PySem.W.isFn K (.ref (ma K (ga K "Question") "__init__")) = true), fun K => decide (PySem.W.keepIn K (.ref (ga K "Question")) = true), fun K => decide (PySem.W.makesIn K (ga K "Grid") = true), fun K => decide (PySem.W.findIn K (.ref (ga K "Grid")) "__init__" = some (some (.ref (ma K (ga K "Grid") "__init__")))), fun K => decide (PySem.W.isFn K (.ref (ma K (ga K "Grid") "__init__")) = true), fun K => decide (PySem.W.keepIn K (.ref (ga K "Grid")) = true)]
def mks : List (PySem.W.Frag → Bool) := mk0 ++ mk1 ++ mk2
def ex (K : PySem.W.Frag) : Bool := mks.all fun f => f K
theorem ex_at {K : PySem.W.Frag} (h : ex K = true) (i : Nat) {f : PySem.W.Frag → Bool} (e : mks[i]? = some f) : f K = true := List.all_eq_true.mp h f (List.mem_of_getElem? e)
def dg_law : DefD := ⟨("law", none), "law", "law", defArgs (top 78), defBody (top 78), defScope (top 78), [], []⟩
def dg__law_stream : DefD := ⟨("_law_stream", none), "_law_stream", "_law_stream", defArgs (top 56), defBody (top 56), defScope (top 56), [], []⟩
def dg__law_draw : DefD := ⟨("_law_draw", none), "_law_draw", "_law_draw", defArgs (top 57), defBody (top 57), defScope (top 57), [], []⟩
def dg__law_common : DefD := ⟨("_law_common", none), "_law_common", "_law_common", defArgs (top 58), defBody (top 58), defScope (top 58), [], []⟩
def dg_NoRatio_x___init__ : DefD := ⟨("NoRatio", some "__init__"), "__init__", "NoRatio.__init__", defArgs (inClass (top 4) 0), defBody (inClass (top 4) 0), defScope (inClass (top 4) 0), [], []⟩
def dg_NoGrid_x___init__ : DefD := ⟨("NoGrid", some "__init__"), "__init__", "NoGrid.__init__", defArgs (inClass (top 5) 0), defBody (inClass (top 5) 0), defScope (inClass (top 5) 0), [], []⟩
def dg_NoQuestion_x___init__ : DefD := ⟨("NoQuestion", some "__init__"), "__init__", "NoQuestion.__init__", defArgs (inClass (top 8) 0), defBody (inClass (top 8) 0), defScope (inClass (top 8) 0), [], []⟩
def dg_NoWish_x___init__ : DefD := ⟨("NoWish", some "__init__"), "__init__", "NoWish.__init__", defArgs (inClass (top 6) 0), defBody (inClass (top 6) 0), defScope (inClass (top 6) 0), [], []⟩
def dg_is_integer : DefD := ⟨("is_integer", none), "is_integer", "is_integer", defArgs (top 17), defBody (top 17), defScope (top 17), [], []⟩
def dg_is_sequence : DefD := ⟨("is_sequence", none), "is_sequence", "is_sequence", defArgs (top 18), defBody (top 18), defScope (top 18), [], []⟩
def dg_is_pair : DefD := ⟨("is_pair", none), "is_pair", "is_pair", defArgs (top 19), defBody (top 19), defScope (top 19), [], []⟩
def dg_is_word : DefD := ⟨("is_word", none), "is_word", "is_word", defArgs (top 20), defBody (top 20), defScope (top 20), [], []⟩
def dg_is_name : DefD := ⟨("is_name", none), "is_name", "is_name", defArgs (top 21), defBody (top 21), defScope (top 21), [], []⟩
def dg_are_names : DefD := ⟨("are_names", none), "are_names", "are_names", defArgs (top 22), defBody (top 22), defScope (top 22), [], []⟩
def dg_are_unlike_names : DefD := ⟨("are_unlike_names", none), "are_unlike_names", "are_unlike_names", defArgs (top 23), defBody (top 23), defScope (top 23), [], []⟩
def dg_is_figure : DefD := ⟨("is_figure", none), "is_figure", "is_figure", defArgs (top 24), defBody (top 24), defScope (top 24), [], []⟩
def dg_are_pairs_of_axes : DefD := ⟨("are_pairs_of_axes", none), "are_pairs_of_axes", "are_pairs_of_axes", defArgs (top 30), defBody (top 30), defScope (top 30), [], []⟩
def dg_are_members : DefD := ⟨("are_members", none), "are_members", "are_members", defArgs (top 31), defBody (top 31), defScope (top 31), [], []⟩
def dg_place_of_axis : DefD := ⟨("place_of_axis", none), "place_of_axis", "place_of_axis", defArgs (top 33), defBody (top 33), defScope (top 33), [], []⟩
def dg_are_members_among : DefD := ⟨("are_members_among", none), "are_members_among", "are_members_among", defArgs (top 36), defBody (top 36), defScope (top 36), [], []⟩
def dg_Ratio_x___init__ : DefD := ⟨("Ratio", some "__init__"), "__init__", "Ratio.__init__", defArgs (inClass (top 39) 0), defBody (inClass (top 39) 0), defScope (inClass (top 39) 0), [.int 1], []⟩
def dg_is_number : DefD := ⟨("is_number", none), "is_number", "is_number", defArgs (top 40), defBody (top 40), defScope (top 40), [], []⟩
def dg_as_ratio : DefD := ⟨("as_ratio", none), "as_ratio", "as_ratio", defArgs (top 41), defBody (top 41), defScope (top 41), [], []⟩
def dg_sign_of_difference : DefD := ⟨("sign_of_difference", none), "sign_of_difference", "sign_of_difference", defArgs (top 42), defBody (top 42), defScope (top 42), [], []⟩
def dg_Ratio_x___neg__ : DefD := ⟨("Ratio", some "__neg__"), "__neg__", "Ratio.__neg__", defArgs (inClass (top 39) 7), defBody (inClass (top 39) 7), defScope (inClass (top 39) 7), [], []⟩
def dg_Ratio_x___abs__ : DefD := ⟨("Ratio", some "__abs__"), "__abs__", "Ratio.__abs__", defArgs (inClass (top 39) 8), defBody (inClass (top 39) 8), defScope (inClass (top 39) 8), [], []⟩
def dg_Ratio_x_over : DefD := ⟨("Ratio", some "over"), "over", "Ratio.over", defArgs (inClass (top 39) 9), defBody (inClass (top 39) 9), defScope (inClass (top 39) 9), [], []⟩
def dg_Ratio_x___eq__ : DefD := ⟨("Ratio", some "__eq__"), "__eq__", "Ratio.__eq__", defArgs (inClass (top 39) 10), defBody (inClass (top 39) 10), defScope (inClass (top 39) 10), [], []⟩
def dg_over_one : DefD := ⟨("over_one", none), "over_one", "over_one", defArgs (top 44), defBody (top 44), defScope (top 44), [], []⟩
def dg_dot : DefD := ⟨("dot", none), "dot", "dot", defArgs (top 45), defBody (top 45), defScope (top 45), [], []⟩
def dg_sum_of_products : DefD := ⟨("sum_of_products", none), "sum_of_products", "sum_of_products", defArgs (top 46), defBody (top 46), defScope (top 46), [], []⟩
def dg_are_amounts : DefD := ⟨("are_amounts", none), "are_amounts", "are_amounts", defArgs (top 49), defBody (top 49), defScope (top 49), [], []⟩
def dg_Grid_x___eq__ : DefD := ⟨("Grid", some "__eq__"), "__eq__", "Grid.__eq__", defArgs (inClass (top 29) 1), defBody (inClass (top 29) 1), defScope (inClass (top 29) 1), [], []⟩
def dg_cells_of : DefD := ⟨("cells_of", none), "cells_of", "cells_of", defArgs (top 32), defBody (top 32), defScope (top 32), [], []⟩
def dg_wanted_members : DefD := ⟨("wanted_members", none), "wanted_members", "wanted_members", defArgs (top 35), defBody (top 35), defScope (top 35), [], []⟩
def dg_is_wanted : DefD := ⟨("is_wanted", none), "is_wanted", "is_wanted", defArgs (top 37), defBody (top 37), defScope (top 37), [], []⟩
def dg_Ratio_x___add__ : DefD := ⟨("Ratio", some "__add__"), "__add__", "Ratio.__add__", defArgs (inClass (top 39) 1), defBody (inClass (top 39) 1), defScope (inClass (top 39) 1), [], []⟩
def dg_Ratio_x___sub__ : DefD := ⟨("Ratio", some "__sub__"), "__sub__", "Ratio.__sub__", defArgs (inClass (top 39) 3), defBody (inClass (top 39) 3), defScope (inClass (top 39) 3), [], []⟩
def dg_Ratio_x___mul__ : DefD := ⟨("Ratio", some "__mul__"), "__mul__", "Ratio.__mul__", defArgs (inClass (top 39) 5), defBody (inClass (top 39) 5), defScope (inClass (top 39) 5), [], []⟩
def dg_Question_x___eq__ : DefD := ⟨("Question", some "__eq__"), "__eq__", "Question.__eq__", defArgs (inClass (top 48) 1), defBody (inClass (top 48) 1), defScope (inClass (top 48) 1), [], []⟩
def dg_Question_x___init__ : DefD := ⟨("Question", some "__init__"), "__init__", "Question.__init__", defArgs (inClass (top 48) 0), defBody (inClass (top 48) 0), defScope (inClass (top 48) 0), [], []⟩
def dg_Question_x___neg__ : DefD := ⟨("Question", some "__neg__"), "__neg__", "Question.__neg__", defArgs (inClass (top 48) 4), defBody (inClass (top 48) 4), defScope (inClass (top 48) 4), [], []⟩
def dg_Question_x_at : DefD := ⟨("Question", some "at"), "at", "Question.at", defArgs (inClass (top 48) 8), defBody (inClass (top 48) 8), defScope (inClass (top 48) 8), [], []⟩
def dg_Question_x_is_nothing : DefD := ⟨("Question", some "is_nothing"), "is_nothing", "Question.is_nothing", defArgs (inClass (top 48) 9), defBody (inClass (top 48) 9), defScope (inClass (top 48) 9), [], []⟩
def dg_sum_over : DefD := ⟨("sum_over", none), "sum_over", "sum_over", defArgs (top 53), defBody (top 53), defScope (top 53), [], []⟩
def dg__law_is_integer : DefD := ⟨("_law_is_integer", none), "_law_is_integer", "_law_is_integer", defArgs (top 55), defBody (top 55), defScope (top 55), [], []⟩
def dg__law_frac : DefD := ⟨("_law_frac", none), "_law_frac", "_law_frac", defArgs (top 59), defBody (top 59), defScope (top 59), [], []⟩
def dg__law_plus : DefD := ⟨("_law_plus", none), "_law_plus", "_law_plus", defArgs (top 60), defBody (top 60), defScope (top 60), [], []⟩
def dg__law_by : DefD := ⟨("_law_by", none), "_law_by", "_law_by", defArgs (top 61), defBody (top 61), defScope (top 61), [], []⟩
def dg__law_is : DefD := ⟨("_law_is", none), "_law_is", "_law_is", defArgs (top 62), defBody (top 62), defScope (top 62), [], []⟩
def dg__law_number : DefD := ⟨("_law_number", none), "_law_number", "_law_number", defArgs (top 63), defBody (top 63), defScope (top 63), [], []⟩
def dg__law_names : DefD := ⟨("_law_names", none), "_law_names", "_law_names", defArgs (top 64), defBody (top 64), defScope (top 64), [], []⟩
def dg__law_axes : DefD := ⟨("_law_axes", none), "_law_axes", "_law_axes", defArgs (top 65), defBody (top 65), defScope (top 65), [], []⟩
def dg__law_cells : DefD := ⟨("_law_cells", none), "_law_cells", "_law_cells", defArgs (top 66), defBody (top 66), defScope (top 66), [], []⟩
def dg__law_wish : DefD := ⟨("_law_wish", none), "_law_wish", "_law_wish", defArgs (top 67), defBody (top 67), defScope (top 67), [], []⟩
def dg__law_region : DefD := ⟨("_law_region", none), "_law_region", "_law_region", defArgs (top 68), defBody (top 68), defScope (top 68), [], []⟩
def dg__law_weights : DefD := ⟨("_law_weights", none), "_law_weights", "_law_weights", defArgs (top 69), defBody (top 69), defScope (top 69), [], []⟩
def dg__law_at : DefD := ⟨("_law_at", none), "_law_at", "_law_at", defArgs (top 70), defBody (top 70), defScope (top 70), [], []⟩
def dg__law_given : DefD := ⟨("_law_given", none), "_law_given", "_law_given", defArgs (top 71), defBody (top 71), defScope (top 71), [], []⟩
def dg__law_asks : DefD := ⟨("_law_asks", none), "_law_asks", "_law_asks", defArgs (top 72), defBody (top 72), defScope (top 72), [], []⟩
def dg__law_ones : DefD := ⟨("_law_ones", none), "_law_ones", "_law_ones", defArgs (top 73), defBody (top 73), defScope (top 73), [], []⟩
def dg_Grid_x___init__ : DefD := ⟨("Grid", some "__init__"), "__init__", "Grid.__init__", defArgs (inClass (top 29) 0), defBody (inClass (top 29) 0), defScope (inClass (top 29) 0), [], []⟩
def dg_region_beside : DefD := ⟨("region_beside", none), "region_beside", "region_beside", defArgs (top 34), defBody (top 34), defScope (top 34), [], []⟩
def dg_Grid_x_region : DefD := ⟨("Grid", some "region"), "region", "Grid.region", defArgs (inClass (top 29) 3), defBody (inClass (top 29) 3), defScope (inClass (top 29) 3), [], []⟩
def dg_Question_x___add__ : DefD := ⟨("Question", some "__add__"), "__add__", "Question.__add__", defArgs (inClass (top 48) 2), defBody (inClass (top 48) 2), defScope (inClass (top 48) 2), [], []⟩
def dg_Question_x___sub__ : DefD := ⟨("Question", some "__sub__"), "__sub__", "Question.__sub__", defArgs (inClass (top 48) 3), defBody (inClass (top 48) 3), defScope (inClass (top 48) 3), [], []⟩
def dg_Question_x_over : DefD := ⟨("Question", some "over"), "over", "Question.over", defArgs (inClass (top 48) 7), defBody (inClass (top 48) 7), defScope (inClass (top 48) 7), [], []⟩
def dg_each_of : DefD := ⟨("each_of", none), "each_of", "each_of", defArgs (top 52), defBody (top 52), defScope (top 52), [], []⟩
def dg_sum_of : DefD := ⟨("sum_of", none), "sum_of", "sum_of", defArgs (top 50), defBody (top 50), defScope (top 50), [], []⟩
def dg_nothing_of : DefD := ⟨("nothing_of", none), "nothing_of", "nothing_of", defArgs (top 51), defBody (top 51), defScope (top 51), [], []⟩
def dg__law_parted : DefD := ⟨("_law_parted", none), "_law_parted", "_law_parted", defArgs (top 74), defBody (top 74), defScope (top 74), [], []⟩
def dg__law_summed : DefD := ⟨("_law_summed", none), "_law_summed", "_law_summed", defArgs (top 75), defBody (top 75), defScope (top 75), [], []⟩
def dg__law_right : DefD := ⟨("_law_right", none), "_law_right", "_law_right", defArgs (top 76), defBody (top 76), defScope (top 76), [], []⟩
def dg__law_left_out : DefD := ⟨("_law_left_out", none), "_law_left_out", "_law_left_out", defArgs (top 77), defBody (top 77), defScope (top 77), [], []⟩
def fn0 : List DefD := [dg_law, dg__law_stream, dg__law_draw, dg__law_common, dg_NoRatio_x___init__, dg_NoGrid_x___init__, dg_NoQuestion_x___init__, dg_NoWish_x___init__, dg_is_integer, dg_is_sequence, dg_is_pair, dg_is_word, dg_is_name, dg_are_names, dg_are_unlike_names, dg_is_figure, dg_are_pairs_of_axes, dg_are_members, dg_place_of_axis, dg_are_members_among, dg_Ratio_x___init__, dg_is_number, dg_as_ratio, dg_sign_of_difference, dg_Ratio_x___neg__, dg_Ratio_x___abs__, dg_Ratio_x_over, dg_Ratio_x___eq__, dg_over_one, dg_dot]
def fn1 : List DefD := [dg_sum_of_products, dg_are_amounts, dg_Grid_x___eq__, dg_cells_of, dg_wanted_members, dg_is_wanted, dg_Ratio_x___add__, dg_Ratio_x___sub__, dg_Ratio_x___mul__, dg_Question_x___eq__, dg_Question_x___init__, dg_Question_x___neg__, dg_Question_x_at, dg_Question_x_is_nothing, dg_sum_over, dg__law_is_integer, dg__law_frac, dg__law_plus, dg__law_by, dg__law_is, dg__law_number, dg__law_names, dg__law_axes, dg__law_cells, dg__law_wish, dg__law_region, dg__law_weights, dg__law_at, dg__law_given, dg__law_asks]
def fn2 : List DefD := [dg__law_ones, dg_Grid_x___init__, dg_region_beside, dg_Grid_x_region, dg_Question_x___add__, dg_Question_x___sub__, dg_Question_x_over, dg_each_of, dg_sum_of, dg_nothing_of, dg__law_parted, dg__law_summed, dg__law_right, dg__law_left_out]
def fn : List DefD := fn0 ++ fn1 ++ fn2
def fa0 : List Fa := [.glo "law", .free "isinstance", .free "int", .free "bool", .free "str", .free "list", .free "tuple", .free "dict", .free "set", .free "abs", .free "len", .free "range", .free "min", .free "max", .free "all", .free "any", .free "sum", .free "sorted", .free "enumerate", .free "zip", .free "repr", .glo "Ratio", .glo "Grid", .glo "Question", .free "Listed", .free "Expression", .free "Reading", .free "Planned", .free "Exact", .free "Rough"]
def fa1 : List Fa := [.free "Book", .free "History", .free "Promise", .free "Doubt", .free "End", .free "Conflict", .free "Offer", .free "Goal", .free "Refuter", .free "Bounded", .free "Outcome", .free "Combination", .free "Span", .free "Frame", .free "Search", .free "Row", .free "Held", .free "Sketch", .free "Branch", .free "State", .free "Kept", .free "Page", .str "DIGITS" "0123456789", .str "LETTERS" "abcdefghijklmnopqrstuvwxyz", .int "MOST_NAME_LENGTH" 8, .glo "RESERVED", .int "MOST_DIGITS" 60, .int "MOST_AXES" 3, .int "MOST_MEMBERS" 4, .glo "NoRatio"]
def fa2 : List Fa := [.glo "NoWish", .glo "NoQuestion", .glo "NoAmounts", .glo "NoGrid", .int "MOST_CELLS" 8, .glo "OtherGrid", .glo "NoAxis", .glo "ToldError", .glo "_law_stream", .glo "_law_draw", .glo "_law_common", .glo "is_integer", .glo "is_sequence", .glo "is_pair", .glo "is_word", .glo "is_name", .glo "are_names", .glo "are_unlike_names", .glo "is_figure", .glo "are_pairs_of_axes", .glo "are_members", .glo "place_of_axis", .glo "are_members_among", .glo "is_number", .glo "as_ratio", .glo "sign_of_difference", .meth "Ratio" "__neg__", .meth "Ratio" "__abs__", .meth "Ratio" "over", .meth "Ratio" "__eq__"]
def fa3 : List Fa := [.glo "over_one", .glo "dot", .glo "sum_of_products", .glo "are_amounts", .meth "Grid" "__eq__", .glo "cells_of", .glo "wanted_members", .glo "is_wanted", .meth "Ratio" "__add__", .meth "Ratio" "__sub__", .meth "Ratio" "__mul__", .meth "Question" "__eq__", .meth "Question" "__neg__", .meth "Question" "at", .meth "Question" "is_nothing", .glo "sum_over", .glo "_law_is_integer", .glo "_law_frac", .glo "_law_plus", .glo "_law_by", .glo "_law_is", .glo "_law_number", .glo "_law_names", .glo "_law_axes", .glo "_law_cells", .glo "_law_wish", .glo "_law_region", .glo "_law_weights", .glo "_law_at", .glo "_law_given"]
def fa4 : List Fa := [.glo "_law_asks", .glo "_law_ones", .glo "region_beside", .meth "Grid" "region", .meth "Question" "__add__", .meth "Question" "__sub__", .meth "Question" "over", .glo "each_of", .glo "sum_of", .glo "nothing_of", .glo "_law_parted", .glo "_law_summed", .glo "_law_right", .glo "_law_left_out"]
def fa : List Fa := fa0 ++ fa1 ++ fa2 ++ fa3 ++ fa4
abbrev R : PySem.W.OpenRow := PySem.W.OpenLaw.row PySem.Challenge.rw_toldwithin_k08_whole_sums_over_regions
abbrev hk : PySem.W.Hook := He.hookX 4 fa fn [] [] ex
def ob (s : PySem.W.SharedT) : He.AlX := He.obsX 4 fa fn [] [] ex (HandSHeadRun.getT s)
theorem ob_eq (s : PySem.W.SharedT) : ob s = hk.obs s.abs := He.obsX_eq (HandSHeadRun.getT_eq s)
def loose0 : List Str := ["_wall", "__name__", "ToldError", "NoRatio", "NoGrid", "NoWish", "NoAxis", "NoQuestion", "NoAmounts", "OtherGrid", "LETTERS", "DIGITS", "RESERVED", "MOST_NAME_LENGTH", "MOST_DIGITS", "is_integer", "is_sequence", "is_pair", "is_word", "is_name", "are_names", "are_unlike_names", "is_figure", "MOST_AXES", "MOST_MEMBERS"]
def loose1 : List Str := ["MOST_CELLS", "Grid", "are_pairs_of_axes", "are_members", "cells_of", "place_of_axis", "region_beside", "wanted_members", "are_members_among", "is_wanted", "Ratio", "is_number", "as_ratio", "sign_of_difference", "over_one", "dot", "sum_of_products", "Question", "are_amounts", "sum_of", "nothing_of", "each_of", "sum_over", "_law_is_integer", "_law_stream"]
def loose2 : List Str := ["_law_draw", "_law_common", "_law_frac", "_law_plus", "_law_by", "_law_is", "_law_number", "_law_names", "_law_axes", "_law_cells", "_law_wish", "_law_region", "_law_weights", "_law_at", "_law_given", "_law_asks", "_law_ones", "_law_parted", "_law_summed", "_law_right", "_law_left_out"]
def loose : List Str := loose0 ++ loose1 ++ loose2
theorem run (w : World) : HandSHeadRun.RunEqI R (PySem.W.view R.prog [0, 78]) hk ob 20000 loose w := by
  unfold HandSHeadRun.RunEqI
  kernel_rfl
end KF

set_option Elab.async false
set_option linter.all false
set_option maxRecDepth 100000
set_option maxHeartbeats 2000000
/-! data: what stands behind a value, in a heap; what an evaluation may change -/
namespace DL
open PySem L2 He
inductive D where
  | non | bl (b : Bool) | int (i : Int) | str (z : Str) | ty (n : String)
  | tup (l : List D) | lst (l : List D) | obj (c : String) (ns : List String) (ds : List D) | dic (ks : List Key) (ds : List D) | scr (ns : List Int)
abbrev AS := Addr → Prop
/-- the classes whose instances are data, and their fields -/
def fldsOf : String → List String
  | "Ratio" => ["top", "bottom"] | "Grid" => ["axes", "cells", "size"] | "Question" => ["grid", "weights"] | "Listed" => ["axis", "questions"] | "Expression" => ["kind", "parts", "depth"]
  | "Reading" => ["time", "name", "question", "value", "slip", "grid"] | "Planned" => ["time", "name", "question", "slip", "grid"] | "Exact" => ["time", "name", "grid", "changes"] | "Rough" => ["time", "name", "grid", "place", "amount", "bound"]
  | "Book" => ["grid", "entries"] | "History" => ["first", "extras"] | "Promise" => ["error", "weights"] | "Doubt" => ["error", "history"] | "End" => ["number", "weights", "history"] | "Conflict" => ["kind", "what"]
  | "Offer" => ["name", "question", "slip", "cost"] | "Goal" => ["question", "error"] | "Refuter" => ["pair", "is_at_work", "hiding"] | "Bounded" => ["rows", "lows", "highs", "width", "unit"] | "Outcome" => ["is_clash", "basis", "weights", "point", "unit"]
  | "Combination" => ["source", "looks", "weights"] | "Span" => ["name", "numbers", "middle", "reach"] | "Frame" => ["source", "spans", "rows", "steps", "scale", "bounded", "sketch"] | "Search" => ["frame", "scale", "is_endless", "aim", "outcome", "is_clash"]
  | "Row" => ["parts", "scale"] | "Held" => ["parts", "scale"] | "Sketch" => ["lengths", "rows", "tops", "bottoms", "lows", "highs"] | "Branch" => ["now", "base"] | "State" => ["branches", "present", "meanings"] | "Kept" => ["question", "moment", "pair"] | "Page" => ["frame", "kept"]
  | _ => []
/-- such a class stands in the program's text -/
def Pres (K : PySem.W.Frag) (c : String) : Prop := fldsOf c ≠ [] ∧ PySem.W.nsIn K mainGlobals (Str.ofString c) = some (some (.ref (ga K (Str.ofString c))))
mutual
inductive Dr (K : PySem.W.Frag) (M : AS) (H : Hp) : V → D → Prop
  | non : Dr K M H .non .non
  | bl (b : Bool) : Dr K M H (.bl b) (.bl b)
  | int (i : Int) : Dr K M H (.int i) (.int i)
  | str (z : Str) : Dr K M H (.str z) (.str z)
  | ty (n : String) : Dr K M H (.ty n) (.ty n)
  | tup {a : Addr} {vs : List V} {l : List D} : Rd H a (.tup vs) → ¬ M a → DrL K M H vs l → Dr K M H (.ref a) (.tup l)
  | tupW {a : Addr} {vs : List V} {l : List D} : (∀ H, SqT K H a vs) → DrL K M H vs l → Dr K M H (.ref a) (.tup l)
  | scr {a : Addr} {ns : List Int} : Rd H a (.lst (ns.map V.int)) → ¬ M a → Dr K M H (.ref a) (.scr ns)
  | scrW {a : Addr} {ns : List Int} : (∀ H, SqL K H a (ns.map V.int)) → Dr K M H (.ref a) (.scr ns)
  | lst {a : Addr} {vs : List V} {l : List D} : H a = some (.lst vs) → ¬ M a → DrL K M H vs l → Dr K M H (.ref a) (.lst l)
  | obj {a dx : Addr} {c : String} {ns : List String} {vs : List V} {ds : List D} : H a = some (.ins (ga K (Str.ofString c)) dx ((ns.map Str.ofString).zip vs)) → ¬ M a → vs.length = ns.length → Pres K c ∧ (∀ n ∈ ns, n ∈ fldsOf c) → DrL K M H vs ds → Dr K M H (.ref a) (.obj c ns ds)
  | dic {a : Addr} {ks : List Key} {vs : List V} {ds : List D} : H a = some (.dK (ks.zip vs)) → ¬ M a → vs.length = ks.length → DrL K M H vs ds → Dr K M H (.ref a) (.dic ks ds)
inductive DrL (K : PySem.W.Frag) (M : AS) (H : Hp) : List V → List D → Prop
  | nil : DrL K M H [] []
  | cons {v : V} {d : D} {vs : List V} {l : List D} : Dr K M H v d → DrL K M H vs l → DrL K M H (v :: vs) (d :: l)
end
def IsStrm (H : Hp) (a : Addr) : Prop := ∃ c f n : Int, H a = some (.lst [.int c, .int f, .int n])
/-- an evaluation: only streams may change -/
structure Evo (S : AS) (H H' : Hp) : Prop where
  keep : ∀ a o, ¬ S a → H a = some o → H' a = some o
  strm : ∀ a, S a → IsStrm H a → IsStrm H' a
theorem IsStrm.some {H : Hp} {a : Addr} (h : IsStrm H a) : H a ≠ none := by
  obtain ⟨c, f, n, e⟩ := h
  rw [e]
  simp
theorem Evo.refl (S : AS) (H : Hp) : Evo S H H := ⟨fun _ _ _ e => e, fun _ _ e => e⟩
theorem Evo.trans {S : AS} {H H1 H2 : Hp} (a : Evo S H H1) (b : Evo S H1 H2) : Evo S H H2 := ⟨fun c o n e => b.keep c o n (a.keep c o n e), fun c s e => b.strm c s (a.strm c s e)⟩
theorem Evo.of {S : AS} {H H' : Hp} (s : Same H H') : Evo S H H' := ⟨fun a o _ e => s a o e, fun a _ ⟨c, f, n, e⟩ => ⟨c, f, n, s _ _ e⟩⟩
theorem Evo.mono {S S' : AS} {H H' : Hp} (e : Evo S H H') (h : ∀ a, S a → S' a) (g : ∀ a, S' a → S a ∨ IsStrm H a) : Evo S' H H' :=
  ⟨fun a o n x => e.keep a o (fun z => n (h a z)) x, fun a s x => by
    by_cases c : S a
    · exact e.strm a c x
    · obtain ⟨p, q, r, y⟩ := x
      exact ⟨p, q, r, e.keep _ _ c y⟩⟩
/-- what was tracked stays so -/
theorem Evo.free {S : AS} {H H' : Hp} (e : Evo S H H') (hs : ∀ a, S a → IsStrm H a) {a : Addr} (h : H' a = none) : H a = none := by
  by_cases c : S a
  · exact absurd h (e.strm a c (hs a c)).some
  · cases q : H a with
    | none => rfl
    | some o => rw [e.keep a o c q] at h; cases h
theorem rd_some {H : Hp} {a : Addr} {u : HO} (h : Rd H a u) : H a ≠ none := by
  rcases h with h | ⟨o, h⟩ <;> rw [h] <;> simp
theorem rd_evo {S : AS} {H H' : Hp} {a : Addr} {u : HO} (h : Rd H a u) (n : ¬ S a) (e : ∀ a o, ¬ S a → H a = some o → H' a = some o) : Rd H' a u := by
  rcases h with h | ⟨o, h⟩
  · exact .inl (e _ _ n h)
  · exact .inr ⟨o, e _ _ n h⟩
mutual
theorem Dr.go {K : PySem.W.Frag} {M M' S : AS} {H H' : Hp} (hs : ∀ a, S a → M a) (e : ∀ a o, ¬ S a → H a = some o → H' a = some o) (g : ∀ a, M' a → M a ∨ H a = none) : ∀ {v : V} {d : D}, Dr K M H v d → Dr K M' H' v d
  | _, _, .non => .non
  | _, _, .bl b => .bl b
  | _, _, .int b => .int b
  | _, _, .str b => .str b
  | _, _, .ty b => .ty b
  | _, _, .tup r n al => .tup (rd_evo r (fun z => n (hs _ z)) e) (fun z => (g _ z).elim n (rd_some r)) (DrL.go hs e g al)
  | _, _, .tupW r al => .tupW r (DrL.go hs e g al)
  | _, _, .scr r n => .scr (rd_evo r (fun z => n (hs _ z)) e) (fun z => (g _ z).elim n (rd_some r))
  | _, _, .scrW r => .scrW r
  | _, _, .lst r n al => .lst (e _ _ (fun z => n (hs _ z)) r) (fun z => (g _ z).elim n (by rw [r]; simp)) (DrL.go hs e g al)
  | _, _, .obj r n l p al => .obj (e _ _ (fun z => n (hs _ z)) r) (fun z => (g _ z).elim n (by rw [r]; simp)) l p (DrL.go hs e g al)
  | _, _, .dic r n l al => .dic (e _ _ (fun z => n (hs _ z)) r) (fun z => (g _ z).elim n (by rw [r]; simp)) l (DrL.go hs e g al)
theorem DrL.go {K : PySem.W.Frag} {M M' S : AS} {H H' : Hp} (hs : ∀ a, S a → M a) (e : ∀ a o, ¬ S a → H a = some o → H' a = some o) (g : ∀ a, M' a → M a ∨ H a = none) : ∀ {vs : List V} {l : List D}, DrL K M H vs l → DrL K M' H' vs l
  | _, _, .nil => .nil
  | _, _, .cons h t => .cons (Dr.go hs e g h) (DrL.go hs e g t)
end
theorem Dr.evo {K : PySem.W.Frag} {M S : AS} {H H' : Hp} {v : V} {d : D} (h : Dr K M H v d) (hs : ∀ a, S a → M a) (e : Evo S H H') : Dr K M H' v d := Dr.go hs e.keep (fun _ z => .inl z) h
theorem DrL.evo {K : PySem.W.Frag} {M S : AS} {H H' : Hp} {v : List V} {d : List D} (h : DrL K M H v d) (hs : ∀ a, S a → M a) (e : Evo S H H') : DrL K M H' v d := DrL.go hs e.keep (fun _ z => .inl z) h
theorem Dr.grow {K : PySem.W.Frag} {M M' : AS} {H : Hp} {v : V} {d : D} (h : Dr K M H v d) (g : ∀ a, M' a → M a ∨ H a = none) : Dr K M' H v d := Dr.go (S := fun _ => False) (fun _ z => z.elim) (fun _ _ _ z => z) g h
theorem DrL.grow {K : PySem.W.Frag} {M M' : AS} {H : Hp} {v : List V} {d : List D} (h : DrL K M H v d) (g : ∀ a, M' a → M a ∨ H a = none) : DrL K M' H v d := DrL.go (S := fun _ => False) (fun _ z => z.elim) (fun _ _ _ z => z) g h
theorem DrL.length {K : PySem.W.Frag} {M : AS} {H : Hp} : ∀ {vs : List V} {l : List D}, DrL K M H vs l → vs.length = l.length
  | _, _, .nil => rfl
  | _, _, .cons _ t => congrArg Nat.succ t.length
theorem DrL.get {K : PySem.W.Frag} {M : AS} {H : Hp} : ∀ {vs : List V} {l : List D}, DrL K M H vs l → ∀ {i : Nat} {v : V}, vs[i]? = some v → ∃ d, l[i]? = some d ∧ Dr K M H v d
  | _, _, .nil, i, v, h => by simp at h
  | _, _, .cons x t, 0, v, h => by
    simp only [List.getElem?_cons_zero, Option.some.injEq] at h
    subst h
    exact ⟨_, rfl, x⟩
  | _, _, .cons x t, i + 1, v, h => by
    simp only [List.getElem?_cons_succ] at h ⊢
    exact t.get h
theorem DrL.at_ {K : PySem.W.Frag} {M : AS} {H : Hp} {vs : List V} {l : List D} (h : DrL K M H vs l) {i : Nat} {d : D} (e : l[i]? = some d) : ∃ v, vs[i]? = some v ∧ Dr K M H v d := by
  have hi : i < l.length := (List.getElem?_eq_some_iff.mp e).1
  have hv : vs[i]? = some (vs[i]'(by rw [h.length]; exact hi)) := List.getElem?_eq_getElem _
  obtain ⟨d', e', r⟩ := h.get hv
  rw [e] at e'
  cases e'
  exact ⟨_, hv, r⟩
theorem DrL.append {K : PySem.W.Frag} {M : AS} {H : Hp} : ∀ {vs : List V} {l : List D} {us : List V} {m : List D}, DrL K M H vs l → DrL K M H us m → DrL K M H (vs ++ us) (l ++ m)
  | _, _, _, _, .nil, b => b
  | _, _, _, _, .cons x t, b => .cons x (DrL.append t b)
/-- a list or tuple of data -/
theorem Dr.sqt {K : PySem.W.Frag} {M : AS} {H : Hp} {v : V} {l : List D} (h : Dr K M H v (.tup l)) : ∃ a vs, v = .ref a ∧ SqT K H a vs ∧ DrL K M H vs l := by
  cases h with
  | tup r n al => exact ⟨_, _, rfl, .inl r, al⟩
  | tupW r al => exact ⟨_, _, rfl, r H, al⟩
theorem Dr.sql {K : PySem.W.Frag} {M : AS} {H : Hp} {v : V} {l : List D} (h : Dr K M H v (.lst l)) : ∃ a vs, v = .ref a ∧ H a = some (.lst vs) ∧ ¬ M a ∧ DrL K M H vs l := by
  cases h with
  | lst r n al => exact ⟨_, _, rfl, r, n, al⟩
/-! ### a def's names -/
/-- an exception of a class of one's own, its fields -/
structure Ex where
  c : String
  ns : List String
  ds : List D
def RepX (K : PySem.W.Frag) (M : AS) (H : Hp) (c : Value) (d : Option Addr) (x : Ex) : Prop :=
  c = .ref (ga K (Str.ofString x.c)) ∧ ((x.ns = [] ∧ x.ds = [] ∧ d = none) ∨ ∃ a vs, d = some a ∧ ¬ M a ∧ H a = some (.xd ((x.ns.map Str.ofString).zip vs).reverse) ∧ vs.length = x.ns.length ∧ DrL K M H vs x.ds)
inductive Sl where
  | d (x : D) | strm (a : Addr) | own (a : Addr) (l : List D) | self (a : Addr) (c : String) (ns : List String) (ds : List D) | exc (a : Addr) (d : Option Addr) (x : Ex) | dct (a : Addr) (ks : List Key) (ds : List D)
def Sl.addr : Sl → Option Addr
  | .d _ => none | .strm a => some a | .own a _ => some a | .self a _ _ _ => some a | .exc _ _ _ => none | .dct a _ _ => some a
abbrev Env := List (Option Sl)
def Mo (A : AS) (ρ : Env) : AS := fun a => A a ∨ ∃ s, some s ∈ ρ ∧ s.addr = some a
def Ss (ρ : Env) : AS := fun a => some (Sl.strm a) ∈ ρ
theorem ss_mo {A : AS} {ρ : Env} (a : Addr) (h : Ss ρ a) : Mo A ρ a := .inr ⟨_, h, rfl⟩
def RepSl (K : PySem.W.Frag) (M : AS) (H : Hp) (v : V) : Sl → Prop
  | .d x => Dr K M H v x
  | .strm a => v = .ref a ∧ IsStrm H a
  | .own a l => v = .ref a ∧ ∃ vs, H a = some (.lst vs) ∧ DrL K M H vs l
  | .self a c ns ds => v = .ref a ∧ ∃ dx vs, H a = some (.ins (ga K (Str.ofString c)) dx ((ns.map Str.ofString).zip vs)) ∧ (vs.length = ns.length ∧ Pres K c) ∧ DrL K M H vs ds
  | .exc a d x => v = .ref a ∧ RepX K M H (.ref (ga K (Str.ofString x.c))) d x
  | .dct a ks ds => v = .ref a ∧ ∃ vs, H a = some (.dK (ks.zip vs)) ∧ vs.length = ks.length ∧ DrL K M H vs ds
/-- where a stretch of the run began: its heap, the streams there, what else may change -/
structure Bd where
  Hs : Hp
  S0 : AS
  F0 : AS
/-- what the stretch has left alone so far -/
structure Bv (B : Bd) (H : Hp) : Prop where
  keep : ∀ a o, ¬ B.S0 a → ¬ B.F0 a → B.Hs a = some o → H a = some o
  strm : ∀ a, B.S0 a → IsStrm H a
  f0 : ∀ a, B.F0 a → H a ≠ none
  s0 : ∀ a, B.S0 a → B.Hs a ≠ none
  sf : ∀ a, B.F0 a → ¬ B.S0 a
structure RepS (K : PySem.W.Frag) (A : AS) (B : Bd) (ρ : Env) (H : Hp) (σ : St) : Prop where
  len : σ.length = ρ.length
  at_ : ∀ (i : Nat) s, ρ[i]? = some (some s) → ∃ v, σ[i]? = some (some v) ∧ RepSl K (Mo A ρ) H v s
  apart : ∀ (i j : Nat) s t a, ρ[i]? = some (some s) → ρ[j]? = some (some t) → s.addr = some a → t.addr = some a → i = j
  amb : ∀ a, A a → H a ≠ none
  na : ∀ (i : Nat) s a, ρ[i]? = some (some s) → s.addr = some a → (∀ b, s ≠ .strm b) → ¬ A a
  bv : Bv B H
  fr : ∀ (i : Nat) s a, ρ[i]? = some (some s) → s.addr = some a → B.Hs a = none ∨ ((∃ b, s = .strm b) ∧ B.S0 a) ∨ ((∀ b, s ≠ .strm b) ∧ B.F0 a)
theorem mem_at {ρ : Env} {s : Sl} (h : some s ∈ ρ) : ∃ i : Nat, ρ[i]? = some (some s) := List.mem_iff_getElem?.mp h
theorem at_mem {ρ : Env} {s : Sl} {i : Nat} (h : ρ[i]? = some (some s)) : some s ∈ ρ := List.mem_of_getElem? h
section
variable {K : PySem.W.Frag} {A : AS} {B : Bd} {ρ : Env} {H H' : Hp} {σ : St}
theorem RepS.strm (R : RepS K A B ρ H σ) (a : Addr) (h : Ss ρ a) : IsStrm H a := by
  obtain ⟨i, hi⟩ := mem_at h
  obtain ⟨v, _, r⟩ := R.at_ i _ hi
  exact r.2
/-- what may change is tracked -/
theorem RepS.mo (R : RepS K A B ρ H σ) (a : Addr) (h : Mo A ρ a) : H a ≠ none := by
  rcases h with h | ⟨s, hs, e⟩
  · exact R.amb a h
  · obtain ⟨i, hi⟩ := mem_at hs
    obtain ⟨v, _, r⟩ := R.at_ i _ hi
    cases s with
    | d x => cases e
    | strm b => cases e; exact r.2.some
    | own b l => cases e; obtain ⟨_, vs, q, _⟩ := r; rw [q]; simp
    | self b c ns ds => cases e; obtain ⟨_, dx, vs, q, _⟩ := r; rw [q]; simp
    | exc b d x => cases e
    | dct b ks ds => cases e; obtain ⟨_, vs, q, _⟩ := r; rw [q]; simp
theorem RepX.go {M M' S : AS} {c : Value} {d : Option Addr} {x : Ex} (h : RepX K M H c d x) (hs : ∀ a, S a → M a) (kp : ∀ a o, ¬ S a → H a = some o → H' a = some o) (g : ∀ a, M' a → M a ∨ H a = none) : RepX K M' H' c d x := by
  obtain ⟨e, h⟩ := h
  refine ⟨e, h.imp id ?_⟩
  rintro ⟨a, vs, e1, nm, e2, l, al⟩
  exact ⟨a, vs, e1, fun z => (g a z).elim nm fun y => by (rw [y] at e2; cases e2), kp a _ (fun z => nm (hs a z)) e2, l, al.go hs kp g⟩
/-- by a change that leaves data, own things and streams what they are -/
theorem RepSl.go {M M' S : AS} {v : V} {s : Sl} (h : RepSl K M H v s) (hs : ∀ a, S a → M a) (kp : ∀ a o, ¬ S a → H a = some o → H' a = some o) (st : ∀ a, S a → IsStrm H a → IsStrm H' a) (g : ∀ a, M' a → M a ∨ H a = none) (n : ∀ a, s.addr = some a → (∀ b, s ≠ .strm b) → ¬ S a) : RepSl K M' H' v s := by
  cases s with
  | d x => exact Dr.go hs kp g h
  | strm a =>
    refine ⟨h.1, ?_⟩
    by_cases c : S a
    · exact st a c h.2
    · obtain ⟨_, p, q, r, y⟩ := h
      exact ⟨p, q, r, kp _ _ c y⟩
  | own a l =>
    obtain ⟨rfl, vs, q, al⟩ := h
    exact ⟨rfl, vs, kp _ _ (n a rfl (fun b z => by cases z)) q, al.go hs kp g⟩
  | self a c ns ds =>
    obtain ⟨rfl, dx, vs, q, l, al⟩ := h
    exact ⟨rfl, dx, vs, kp _ _ (n a rfl (fun b z => by cases z)) q, l, al.go hs kp g⟩
  | exc a d x => exact ⟨h.1, h.2.go hs kp g⟩
  | dct a ks ds =>
    obtain ⟨rfl, vs, q, l, al⟩ := h
    exact ⟨rfl, vs, kp _ _ (n a rfl (fun b z => by cases z)) q, l, al.go hs kp g⟩
theorem Bv.evo {S : AS} (h : Bv B H) (e : Evo S H H') (n : ∀ a, S a → B.Hs a = none ∨ B.S0 a) (hs : ∀ a, S a → IsStrm H a) : Bv B H' where
  keep a o n1 n2 x := by
    refine e.keep a o (fun z => ?_) (h.keep a o n1 n2 x)
    rcases n a z with q | q
    · rw [q] at x; cases x
    · exact n1 q
  strm a s := by
    by_cases c : S a
    · exact e.strm a c (h.strm a s)
    · obtain ⟨p, q, r, y⟩ := h.strm a s
      exact ⟨p, q, r, e.keep _ _ c y⟩
  f0 a s := fun z => h.f0 a s (e.free hs z)
  s0 := h.s0
  sf := h.sf
theorem RepS.evo (R : RepS K A B ρ H σ) (e : Evo (Ss ρ) H H') : RepS K A B ρ H' σ where
  len := R.len
  at_ i s hi := by
    obtain ⟨v, hv, r⟩ := R.at_ i s hi
    refine ⟨v, hv, r.go ss_mo e.keep e.strm (fun _ z => .inl z) fun a ha ns hS => ?_⟩
    obtain ⟨j, hj⟩ := mem_at hS
    have := R.apart i j s _ a hi hj ha rfl
    subst this
    rw [hi] at hj
    cases hj
    exact ns a rfl
  apart := R.apart
  amb a h := fun z => R.amb a h (e.free R.strm z)
  na := R.na
  bv := R.bv.evo e (fun a ha => by
    obtain ⟨i, hi⟩ := mem_at ha
    rcases R.fr i _ a hi rfl with q | ⟨_, q⟩ | ⟨q, _⟩
    · exact .inl q
    · exact .inr q
    · exact absurd rfl (q a)) R.strm
  fr := R.fr
end
end DL

set_option Elab.async false
set_option linter.all false
set_option maxRecDepth 100000
set_option maxHeartbeats 2000000
/-! expressions over data -/
namespace DL
open PySem L2 He
/-- what an expression gives: data; a stream; a new list that nothing else has; a list that a name owns -/
inductive Rv where
  | d (x : D) | strm (a : Addr) | new (a : Addr) (l : List D) | bor (a : Addr) (l : List D) | tp (a : Addr) (its : List (Sum D (Addr × List D)))
abbrev KD := Rv → Prop
abbrev KX := Ex → Prop
abbrev ME := Env → KD → KX → Prop
abbrev MT := Env → (Bool → Prop) → KX → Prop
abbrev MA := Env → (List Rv → Prop) → KX → Prop
abbrev Itm := Sum D (Addr × List D)
def itD : Itm → D
  | .inl d => d | .inr (_, l) => .lst l
def newsI : List Itm → List Addr
  | [] => []
  | .inl _ :: is => newsI is
  | .inr (b, _) :: is => b :: newsI is
def RepIs (K : PySem.W.Frag) (N : AS) (H : Hp) : List V → List Itm → Prop
  | [], [] => True
  | v :: vs, .inl d :: is => Dr K N H v d ∧ RepIs K N H vs is
  | v :: vs, .inr (b, l) :: is => (v = .ref b ∧ ∃ ws, H b = some (.lst ws) ∧ DrL K N H ws l) ∧ RepIs K N H vs is
  | _, _ => False
def Rv.data : Rv → Option D
  | .d x => some x | .new _ l => some (.lst l) | .tp _ its => some (.tup (its.map itD)) | _ => none
def Rv.asL : Rv → Option (List D)
  | .d (.lst l) => some l | .new _ l => some l | .bor _ l => some l | _ => none
def Rv.asT : Rv → Option (List D)
  | .d (.tup l) => some l | .tp _ its => some (its.map itD) | _ => none
def Rv.asS : Rv → Option (List D)
  | .d (.lst l) => some l | .d (.tup l) => some l | .d (.scr ns) => some (ns.map .int) | .new _ l => some l | .bor _ l => some l | .tp _ its => some (its.map itD) | _ => none
def RepR (K : PySem.W.Frag) (M S : AS) (H0 H : Hp) (v : V) : Rv → Prop
  | .d x => Dr K M H v x
  | .strm a => v = .ref a ∧ S a ∧ IsStrm H a
  | .new a l => v = .ref a ∧ H0 a = none ∧ ¬ M a ∧ ∃ vs, H a = some (.lst vs) ∧ DrL K (fun b => M b ∨ b = a) H vs l
  | .bor a l => v = .ref a ∧ M a ∧ ¬ S a ∧ ∃ vs, H a = some (.lst vs) ∧ DrL K M H vs l
  | .tp a its => v = .ref a ∧ ¬ M a ∧ (∀ b ∈ newsI its, H0 b = none ∧ ¬ M b) ∧ (newsI its).Nodup ∧ ∃ vs, H a = some (.tup vs) ∧ RepIs K (fun b => M b ∨ b ∈ newsI its) H vs its
structure Wf (M S : AS) (H : Hp) : Prop where
  mo : ∀ a, M a → H a ≠ none
  sm : ∀ a, S a → M a
  st : ∀ a, S a → IsStrm H a
theorem Wf.evo {M S : AS} {H H' : Hp} (w : Wf M S H) (e : Evo S H H') : Wf M S H' := ⟨fun a m z => w.mo a m (e.free w.st z), w.sm, fun a s => e.strm a s (w.st a s)⟩
theorem RepS.wf {K : PySem.W.Frag} {A : AS} {B : Bd} {ρ : Env} {H : Hp} {σ : St} (R : RepS K A B ρ H σ) : Wf (Mo A ρ) (Ss ρ) H := ⟨R.mo, ss_mo, R.strm⟩
section
variable {K : PySem.W.Frag} {M S : AS} {H0 H1 H H' : Hp} {v : V} {r : Rv}
theorem RepIs.evo {N S : AS} (sn : ∀ a, S a → N a) (e : Evo S H H') : ∀ {vs : List V} {its : List Itm}, (∀ b ∈ newsI its, ¬ S b) → RepIs K N H vs its → RepIs K N H' vs its
  | [], [], _, _ => trivial
  | v :: vs, .inl d :: is, n, h => ⟨h.1.evo sn e, RepIs.evo sn e n h.2⟩
  | v :: vs, .inr (b, l) :: is, n, h => by
    obtain ⟨⟨rfl, ws, q, al⟩, h2⟩ := h
    exact ⟨⟨rfl, ws, e.keep _ _ (n b List.mem_cons_self) q, al.evo sn e⟩, RepIs.evo sn e (fun c hc => n c (List.mem_cons_of_mem _ hc)) h2⟩
theorem RepIs.drl {N : AS} : ∀ {vs : List V} {its : List Itm}, (∀ b ∈ newsI its, ¬ M b) → (∀ b, M b → N b) → RepIs K N H vs its → DrL K M H vs (its.map itD)
  | [], [], _, _, _ => .nil
  | v :: vs, .inl d :: is, n, g, h => .cons (Dr.grow h.1 fun b z => .inl (g b z)) (RepIs.drl n g h.2)
  | v :: vs, .inr (b, l) :: is, n, g, h => by
    obtain ⟨⟨rfl, ws, q, al⟩, h2⟩ := h
    exact .cons (.lst q (n b List.mem_cons_self) (al.grow fun b z => .inl (g b z))) (RepIs.drl (fun c hc => n c (List.mem_cons_of_mem _ hc)) g h2)
/-- as data -/
theorem RepR.flat {a : Addr} {its : List Itm} (h : RepR K M S H0 H v (.tp a its)) : RepR K M S H0 H v (.d (.tup (its.map itD))) := by
  obtain ⟨rfl, na, nw, nd, vs, q, al⟩ := h
  exact .tup (.inl q) na (al.drl (fun b hb => (nw b hb).2) fun b z => .inl z)
theorem RepR.evo (h : RepR K M S H0 H v r) (w : Wf M S H) (e : Evo S H H') : RepR K M S H0 H' v r := by
  cases r with
  | d x => exact Dr.evo h w.sm e
  | strm a => exact ⟨h.1, h.2.1, e.strm a h.2.1 h.2.2⟩
  | new a l =>
    obtain ⟨rfl, n, nm, vs, q, al⟩ := h
    exact ⟨rfl, n, nm, vs, e.keep _ _ (fun z => nm (w.sm a z)) q, al.evo (fun b z => .inl (w.sm b z)) e⟩
  | bor a l =>
    obtain ⟨rfl, m, ns, vs, q, al⟩ := h
    exact ⟨rfl, m, ns, vs, e.keep _ _ ns q, al.evo w.sm e⟩
  | tp a its =>
    obtain ⟨rfl, na, nw, nd, vs, q, al⟩ := h
    exact ⟨rfl, na, nw, nd, vs, e.keep _ _ (fun z => na (w.sm a z)) q, al.evo (fun b z => .inl (w.sm b z)) e fun b hb z => (nw b hb).2 (w.sm b z)⟩
theorem RepR.up (h : RepR K M S H1 H v r) (f : ∀ a, H1 a = none → H0 a = none) : RepR K M S H0 H v r := by
  cases r with
  | d x => exact h
  | strm a => exact h
  | new a l =>
    obtain ⟨rfl, n, nm, z⟩ := h
    exact ⟨rfl, f a n, nm, z⟩
  | bor a l => exact h
  | tp a its =>
    obtain ⟨e1, na, nw, z⟩ := h
    exact ⟨e1, na, fun b hb => ⟨f b (nw b hb).1, (nw b hb).2⟩, z⟩
theorem RepR.dr {x : D} (h : RepR K M S H0 H v r) (e : r.data = some x) : Dr K M H v x := by
  cases r with
  | d y => cases e; exact h
  | strm a => cases e
  | new a l =>
    cases e
    obtain ⟨rfl, n, nm, vs, q, al⟩ := h
    exact .lst q nm (al.grow fun b z => .inl (.inl z))
  | bor a l => cases e
  | tp a its => cases e; exact h.flat
theorem RepR.sl {l : List D} (h : RepR K M S H0 H v r) (e : r.asL = some l) : ∃ a vs, v = .ref a ∧ H a = some (.lst vs) ∧ DrL K M H vs l := by
  cases r with
  | d y =>
    cases y with
    | lst l' =>
      cases e
      cases h with
      | lst q n al => exact ⟨_, _, rfl, q, al⟩
    | _ => cases e
  | strm a => cases e
  | new a l' =>
    cases e
    obtain ⟨rfl, n, nm, vs, q, al⟩ := h
    exact ⟨a, vs, rfl, q, al.grow fun b z => .inl (.inl z)⟩
  | bor a l' =>
    cases e
    obtain ⟨rfl, m, ns, vs, q, al⟩ := h
    exact ⟨a, vs, rfl, q, al⟩
  | tp a its => cases e
theorem drl_ints : ∀ ns : List Int, DrL K M H (ns.map V.int) (ns.map D.int)
  | [] => .nil
  | n :: ns => .cons (.int n) (drl_ints ns)
/-- a list or a tuple -/
theorem RepR.ss {l : List D} (h : RepR K M S H0 H v r) (e : r.asS = some l) : ∃ a vs, v = .ref a ∧ (SqL K H a vs ∨ SqT K H a vs) ∧ DrL K M H vs l := by
  cases r with
  | d y =>
    cases y with
    | lst l' =>
      obtain ⟨a, vs, e1, q, al⟩ := h.sl (show Rv.asL (.d (.lst l')) = some l from e)
      exact ⟨a, vs, e1, .inl (.inl (.inl q)), al⟩
    | tup l' =>
      cases e
      obtain ⟨a, vs, e1, q, al⟩ := Dr.sqt h
      exact ⟨a, vs, e1, .inr q, al⟩
    | scr ns =>
      cases e
      cases h with
      | scr q n => exact ⟨_, _, rfl, .inl (.inl q), drl_ints ns⟩
      | scrW q => exact ⟨_, _, rfl, .inl (q H), drl_ints ns⟩
    | _ => cases e
  | strm a => cases e
  | new a l' =>
    obtain ⟨a, vs, e1, q, al⟩ := h.sl (show Rv.asL (.new a l') = some l from e)
    exact ⟨a, vs, e1, .inl (.inl (.inl q)), al⟩
  | bor a l' =>
    obtain ⟨a, vs, e1, q, al⟩ := h.sl (show Rv.asL (.bor a l') = some l from e)
    exact ⟨a, vs, e1, .inl (.inl (.inl q)), al⟩
  | tp a its =>
    cases e
    obtain ⟨a, vs, e1, q, al⟩ := Dr.sqt h.flat
    exact ⟨a, vs, e1, .inr q, al⟩
end
end DL

set_option Elab.async false
set_option linter.all false
set_option maxRecDepth 100000
set_option maxHeartbeats 2000000
/-! expressions over data: the judgements -/
namespace DL
open PySem L2 He
theorem ofString_inj {s t : String} : (Str.ofString s = Str.ofString t) ↔ s = t := by
  constructor
  · intro h
    rw [Str.ofString_eq_toList, Str.ofString_eq_toList] at h
    injection h with h
    have h2 : s.toList.map Char.toNat = t.toList.map Char.toNat := by
      have := congrArg Array.toList h
      simpa using this
    have h3 : s.toList = t.toList := by
      have inj : ∀ a b : Char, a.toNat = b.toNat → a = b := fun a b e => Char.ext (UInt32.toNat_inj.mp e)
      generalize s.toList = xs at h2
      generalize t.toList = ys at h2
      induction xs generalizing ys with
      | nil => cases ys with
        | nil => rfl
        | cons _ _ => simp at h2
      | cons x xs ih => cases ys with
        | nil => simp at h2
        | cons y ys =>
          simp only [List.map_cons, List.cons.injEq] at h2
          rw [inj _ _ h2.1, ih _ h2.2]
    exact String.toList_inj.mp h3
  · rintro rfl
    rfl
/-- a field, by its name -/
def look (f : String) : List String → List D → Option D
  | n :: ns, x :: ds => if n = f then some x else look f ns ds
  | _, _ => none
theorem look_at {K : PySem.W.Frag} {M : AS} {H : Hp} {f : String} {x : D} : ∀ {ns : List String} {vs : List V} {ds : List D}, DrL K M H vs ds → look f ns ds = some x → ∃ v, ((ns.map Str.ofString).zip vs).lookup (Str.ofString f) = some v ∧ Dr K M H v x
  | [], _, _, _, h => by simp [look] at h
  | _ :: _, _, _, .nil, h => by simp [look] at h
  | n :: ns, v :: vs, d :: ds, .cons r t, h => by
    unfold look at h
    by_cases c : n = f
    · rw [if_pos c] at h
      cases h
      refine ⟨v, ?_, r⟩
      rw [List.map_cons, List.zip_cons_cons, c]
      unfold List.lookup
      rw [beq_self_eq_true]
    · rw [if_neg c] at h
      obtain ⟨u, hu, ru⟩ := look_at t h
      refine ⟨u, ?_, ru⟩
      rw [List.map_cons, List.zip_cons_cons]
      unfold List.lookup
      rw [beq_eq_false_iff_ne.mpr fun e => c (ofString_inj.mp e).symm]
      exact hu
theorem look_none {f : String} : ∀ {ns : List String} {vs : List V}, f ∉ ns → ((ns.map Str.ofString).zip vs).lookup (Str.ofString f) = none
  | [], _, _ => rfl
  | _ :: _, [], _ => rfl
  | n :: ns, v :: vs, h => by
    rw [List.map_cons, List.zip_cons_cons]
    unfold List.lookup
    rw [beq_eq_false_iff_ne.mpr fun e => h (by rw [ofString_inj.mp e]; exact List.mem_cons_self)]
    exact look_none fun z => h (List.mem_cons_of_mem _ z)
def SE (K : PySem.W.Frag) (E : XK) (t : TE) (m : ME) : Prop :=
  ∀ A B ρ H σ, RepS K A B ρ H σ → ∀ (Qd : KD) (Ed : KX) (Q : VK), m ρ Qd Ed → (∀ r v H', Evo (Ss ρ) H H' → RepR K (Mo A ρ) (Ss ρ) H H' v r → Qd r → Q v H') →
    (∀ x c d H', Evo (Ss ρ) H H' → RepX K (Mo A ρ) H' c d x → Ed x → E c d H') → t σ H Q
def ST (K : PySem.W.Frag) (E : XK) (t : TT) (m : MT) : Prop :=
  ∀ A B ρ H σ, RepS K A B ρ H σ → ∀ (Qd : Bool → Prop) (Ed : KX) (Q : Bool → Hp → Prop), m ρ Qd Ed → (∀ b H', Evo (Ss ρ) H H' → Qd b → Q b H') →
    (∀ x c d H', Evo (Ss ρ) H H' → RepX K (Mo A ρ) H' c d x → Ed x → E c d H') → t σ H Q
def RepRs (K : PySem.W.Frag) (M S : AS) (H0 H : Hp) : List V → List Rv → Prop
  | [], [] => True
  | v :: vs, r :: rs => RepR K M S H0 H v r ∧ RepRs K M S H0 H vs rs
  | _, _ => False
def SA (K : PySem.W.Frag) (E : XK) (n : Nat) (t : TA) (m : MA) : Prop :=
  ∀ A B ρ H σ, RepS K A B ρ H σ → ∀ (Qd : List Rv → Prop) (Ed : KX) (Q : List V → Hp → Prop), m ρ Qd Ed → (∀ rs vs H', Evo (Ss ρ) H H' → RepRs K (Mo A ρ) (Ss ρ) H H' vs rs → vs.length = n → Qd rs → Q vs H') →
    (∀ x c d H', Evo (Ss ρ) H H' → RepX K (Mo A ρ) H' c d x → Ed x → E c d H') → t σ H Q
/-- by values -/
def S1 (K : PySem.W.Frag) (E : XK) (r : V → Hp → VK → Prop) (f : Rv → KD → KX → Prop) : Prop :=
  ∀ M S H0 H v x, Wf M S H → RepR K M S H0 H v x → ∀ (Qd : KD) (Ed : KX) (Q : VK), f x Qd Ed → (∀ z u H', Evo S H H' → RepR K M S H H' u z → Qd z → Q u H') → (∀ x c d H', Evo S H H' → RepX K M H' c d x → Ed x → E c d H') → r v H Q
def S2 (K : PySem.W.Frag) (E : XK) (r : R2) (f : Rv → Rv → KD → KX → Prop) : Prop :=
  ∀ M S H0 H v w x y, Wf M S H → RepR K M S H0 H v x → RepR K M S H0 H w y → ∀ (Qd : KD) (Ed : KX) (Q : VK), f x y Qd Ed → (∀ z u H', Evo S H H' → RepR K M S H H' u z → Qd z → Q u H') → (∀ x c d H', Evo S H H' → RepX K M H' c d x → Ed x → E c d H') → r v w H Q
def SN (K : PySem.W.Frag) (E : XK) (r : List V → Hp → VK → Prop) (f : List Rv → KD → KX → Prop) : Prop :=
  ∀ M S H0 H vs xs, Wf M S H → RepRs K M S H0 H vs xs → ∀ (Qd : KD) (Ed : KX) (Q : VK), f xs Qd Ed → (∀ z u H', Evo S H H' → RepR K M S H H' u z → Qd z → Q u H') → (∀ x c d H', Evo S H H' → RepX K M H' c d x → Ed x → E c d H') → r vs H Q
theorem RepRs.evo {K : PySem.W.Frag} {M S : AS} {H0 H H' : Hp} (w : Wf M S H) (e : Evo S H H') : ∀ {vs : List V} {rs : List Rv}, RepRs K M S H0 H vs rs → RepRs K M S H0 H' vs rs
  | [], [], _ => trivial
  | _ :: _, _ :: _, ⟨a, b⟩ => ⟨a.evo w e, RepRs.evo w e b⟩
theorem RepRs.up {K : PySem.W.Frag} {M S : AS} {H0 H1 H : Hp} (f : ∀ a, H1 a = none → H0 a = none) : ∀ {vs : List V} {rs : List Rv}, RepRs K M S H1 H vs rs → RepRs K M S H0 H vs rs
  | [], [], _ => trivial
  | _ :: _, _ :: _, ⟨a, b⟩ => ⟨a.up f, RepRs.up f b⟩
/-! ### what an expression is worth -/
def eVar (i : Nat) : ME := fun ρ Q _ => match ρ[i]? with
  | some (some (.d x)) => Q (.d x)
  | some (some (.strm a)) => Q (.strm a)
  | some (some (.own a l)) => Q (.bor a l)
  | _ => False
def eC (x : D) : ME := fun _ Q _ => Q (.d x)
def eOp (f : Rv → Rv → KD → KX → Prop) (a b : ME) : ME := fun ρ Q Ed => a ρ (fun x => b ρ (fun y => f x y Q Ed) Ed) Ed
def eUn (f : Rv → KD → KX → Prop) (a : ME) : ME := fun ρ Q Ed => a ρ (fun x => f x Q Ed) Ed
def aNil : MA := fun _ Q _ => Q []
def aCons (a : ME) (b : MA) : MA := fun ρ Q Ed => a ρ (fun x => b ρ (fun xs => Q (x :: xs)) Ed) Ed
def eN (f : List Rv → KD → KX → Prop) (a : MA) : ME := fun ρ Q Ed => a ρ (fun xs => f xs Q Ed) Ed
def datas : List Rv → Option (List D)
  | [] => some []
  | r :: rs => match r.data, datas rs with
    | some x, some l => some (x :: l)
    | _, _ => none
def mTup (rs : List Rv) (Q : KD) (_ : KX) : Prop := match datas rs with
  | some l => Q (.d (.tup l))
  | none => False
def mLst (rs : List Rv) (Q : KD) (_ : KX) : Prop := match datas rs with
  | some l => ∀ a, Q (.new a l)
  | none => False
def tBl (m : ME) : MT := fun ρ Q Ed => m ρ (fun r => match r with
  | .d (.bl b) => Q b
  | _ => False) Ed
def tNotD (m : MT) : MT := fun ρ Q Ed => m ρ (fun b => Q (!b)) Ed
def tAndD (m n : MT) : MT := fun ρ Q Ed => m ρ (fun b => if b = true then n ρ Q Ed else Q false) Ed
def tOrD (m n : MT) : MT := fun ρ Q Ed => m ρ (fun b => if b = true then Q true else n ρ Q Ed) Ed
def eIf (c : MT) (a b : ME) : ME := fun ρ Q Ed => c ρ (fun k => if k = true then a ρ Q Ed else b ρ Q Ed) Ed
def eAnd (a b : ME) : ME := fun ρ Q Ed => a ρ (fun r => match r with
  | .d (.bl k) => if k = true then b ρ Q Ed else Q (.d (.bl false))
  | _ => False) Ed
def eOr (a b : ME) : ME := fun ρ Q Ed => a ρ (fun r => match r with
  | .d (.bl k) => if k = true then Q (.d (.bl true)) else b ρ Q Ed
  | _ => False) Ed
def eNot (a : ME) : ME := fun ρ Q Ed => a ρ (fun r => match r with
  | .d (.bl k) => Q (.d (.bl !k))
  | _ => False) Ed
def mFld (f : String) (r : Rv) (Q : KD) (_ : KX) : Prop := match r with
  | .d (.obj c ns ds) => (match look f ns ds with
    | some x => Q (.d x)
    | none => False)
  | _ => False
theorem look_mem {f : String} {x : D} : ∀ {ns : List String} {ds : List D}, look f ns ds = some x → f ∈ ns
  | [], _, h => by simp [look] at h
  | _ :: _, [], h => by simp [look] at h
  | n :: ns, d :: ds, h => by
    unfold look at h
    by_cases c : n = f
    · rw [c]
      exact List.mem_cons_self
    · rw [if_neg c] at h
      exact List.mem_cons_of_mem _ (look_mem h)
/-- what of the written part is asked -/
structure Tx (K : PySem.W.Frag) : Prop where
  cls : ∀ c, Pres K c → Cls K (ga K (Str.ofString c))
  att : ∀ c, Pres K c → ∀ f ∈ fldsOf c, NoAttr K (ga K (Str.ofString c)) (Str.ofString f)
  ty : ∀ c, Pres K c → ∀ (H : Hp) (a dx : Addr) (fs : List (Str × V)), H a = some (.ins (ga K (Str.ofString c)) dx fs) → TyX K H (.ref a) (.ref (ga K (Str.ofString c)))
  kB : ∀ c, Pres K c → ∀ t ∈ ["list", "tuple", "int", "bool", "str", "dict"], PySem.W.kitOne K (.ref (ga K (Str.ofString c))) (.type t) = some false
  kC : ∀ c, Pres K c → ∀ t ∈ ["NoneType", "bool", "int", "str", "dict", "list", "tuple"], PySem.W.kitOne K (.type t) (.ref (ga K (Str.ofString c))) = some false
  kX : ∀ c d, Pres K c → Pres K d → PySem.W.kitOne K (.ref (ga K (Str.ofString c))) (.ref (ga K (Str.ofString d))) = some (c == d)
  nB : ∀ c, Pres K c → ∀ t ∈ ["NoneType", "bool", "int", "str", "dict", "list", "tuple"], PySem.W.notFirst K (ga K (Str.ofString c)) (.type t) = true
  nX : ∀ c d, Pres K c → Pres K d → PySem.W.notFirst K (ga K (Str.ofString c)) (.ref (ga K (Str.ofString d))) = true
section
variable {K : PySem.W.Frag} {E : XK} {m m1 m2 m3 : ME} {c c1 c2 : MT} {t t1 t2 t3 : TE} {q q1 q2 : TT} {w : TA} {ma : MA} {n : Nat}
theorem l_var {i : Nat} : SE K E (tVar i) (eVar i) := fun A B ρ H σ R Qd Ed Q hm k kx => by
  unfold eVar at hm
  split at hm
  · rename_i x hx
    obtain ⟨v, hv, r⟩ := R.at_ i _ hx
    exact ⟨v, hv, k (.d x) _ _ (Evo.refl _ _) r hm⟩
  · rename_i a hx
    obtain ⟨v, hv, r⟩ := R.at_ i _ hx
    exact ⟨v, hv, k (.strm a) _ _ (Evo.refl _ _) ⟨r.1, at_mem hx, r.2⟩ hm⟩
  · rename_i a l hx
    obtain ⟨v, hv, rfl, vs, q, al⟩ := R.at_ i _ hx
    refine ⟨_, hv, k (.bor a l) _ _ (Evo.refl _ _) ⟨rfl, .inr ⟨_, at_mem hx, rfl⟩, fun z => ?_, vs, q, al⟩ hm⟩
    obtain ⟨j, hj⟩ := mem_at z
    have := R.apart i j _ _ a hx hj rfl rfl
    subst this
    rw [hx] at hj
    cases hj
  · exact hm.elim
theorem l_c {v : V} {x : D} (h : ∀ M H, Dr K M H v x) : SE K E (tC v) (eC x) := fun A B ρ H σ R Qd Ed Q hm k kx => k (.d x) _ _ (Evo.refl _ _) (h _ _) hm
theorem l_int {i : Int} : SE K E (tC (.int i)) (eC (.int i)) := l_c fun _ _ => .int i
theorem l_str {i : Str} : SE K E (tC (.str i)) (eC (.str i)) := l_c fun _ _ => .str i
theorem l_bl {i : Bool} : SE K E (tC (.bl i)) (eC (.bl i)) := l_c fun _ _ => .bl i
theorem l_non : SE K E (tC .non) (eC .non) := l_c fun _ _ => .non
theorem l_ty {i : String} : SE K E (tC (.ty i)) (eC (.ty i)) := l_c fun _ _ => .ty i
theorem l_op {r : R2} {f : Rv → Rv → KD → KX → Prop} (hs : S2 K E r f) (s1 : SE K E t1 m1) (s2 : SE K E t2 m2) : SE K E (tOp r t1 t2) (eOp f m1 m2) := fun A B ρ H σ R Qd Ed Q hm k kx => by
  refine s1 A B ρ H σ R _ Ed _ hm (fun x v H1 e1 r1 hm1 => ?_) kx
  refine s2 A B ρ H1 σ (R.evo e1) _ Ed _ hm1 (fun y w H2 e2 r2 hm2 => ?_) fun x c d H' e' => kx x c d H' (e1.trans e')
  have w1 := R.wf.evo e1
  refine hs _ _ H H2 v w x y (w1.evo e2) (r1.evo w1 e2) (r2.up fun a z => e1.free R.strm z) Qd Ed Q hm2 (fun z u H' e' rz => k z u H' ((e1.trans e2).trans e') (rz.up fun a z => (e1.trans e2).free R.strm z)) fun x c d H' e' => kx x c d H' ((e1.trans e2).trans e')
theorem l_un {r : V → Hp → VK → Prop} {f : Rv → KD → KX → Prop} (hs : S1 K E r f) (s1 : SE K E t1 m1) : SE K E (tUn r t1) (eUn f m1) := fun A B ρ H σ R Qd Ed Q hm k kx => by
  refine s1 A B ρ H σ R _ Ed _ hm (fun x v H1 e1 r1 hm1 => ?_) kx
  exact hs _ _ H H1 v x (R.wf.evo e1) r1 Qd Ed Q hm1 (fun z u H' e' rz => k z u H' (e1.trans e') (rz.up fun a z => e1.free R.strm z)) fun x c d H' e' => kx x c d H' (e1.trans e')
theorem l_nil : SA K E 0 tNil aNil := fun A B ρ H σ R Qd Ed Q hm k kx => k [] [] H (Evo.refl _ _) trivial rfl hm
theorem l_cons (s1 : SE K E t1 m1) (s2 : SA K E n w ma) : SA K E (n + 1) (tCons t1 w) (aCons m1 ma) := fun A B ρ H σ R Qd Ed Q hm k kx => by
  refine s1 A B ρ H σ R _ Ed _ hm (fun x v H1 e1 r1 hm1 => ?_) kx
  refine s2 A B ρ H1 σ (R.evo e1) _ Ed _ hm1 (fun rs vs H2 e2 r2 l hm2 => ?_) fun x c d H' e' => kx x c d H' (e1.trans e')
  have w1 := R.wf.evo e1
  exact k (x :: rs) (v :: vs) H2 (e1.trans e2) ⟨r1.evo w1 e2, r2.up fun a z => e1.free R.strm z⟩ (congrArg Nat.succ l) hm2
theorem datas_dr {M S : AS} {H0 H : Hp} : ∀ {vs : List V} {rs : List Rv} {l : List D}, RepRs K M S H0 H vs rs → datas rs = some l → DrL K M H vs l
  | [], [], _, _, e => by cases e; exact .nil
  | v :: vs, r :: rs, l, ⟨a, b⟩, e => by
    unfold datas at e
    split at e
    · rename_i x l' e1 e2
      cases e
      exact .cons (a.dr e1) (datas_dr b e2)
    · cases e
theorem new_same {H : Hp} {p : Addr} {o : HO} (h : H p = none) : Same H (upd H p o) := fun b o' e => by
  rw [upd_ne (ne_of_none e h)]
  exact e
theorem l_tup (s : SA K E n w ma) (hn : n ≤ 1000) : SE K E (tTup w) (fun ρ Q Ed => ma ρ (fun rs => mTup rs Q Ed) Ed) := fun A B ρ H σ R Qd Ed Q hm k kx => by
  refine s A B ρ H σ R _ Ed _ hm (fun rs vs H1 e1 r1 l hm1 => ?_) kx
  unfold mTup at hm1
  split at hm1
  · rename_i ds e
    refine ⟨Nat.le_trans (by rw [l]; exact hn) (by decide), fun p hp => ?_⟩
    have w1 := R.wf.evo e1
    have e2 : Evo (Ss ρ) H1 (upd H1 p (.tup vs)) := Evo.of (new_same hp)
    exact k (.d (.tup ds)) _ _ (e1.trans e2) (Dr.tup (.inl upd_same) (fun z => w1.mo _ z hp) ((datas_dr r1 e).evo w1.sm e2)) hm1
  · exact hm1.elim
theorem l_lst (s : SA K E n w ma) (hn : n ≤ 1000) : SE K E (tLst w) (fun ρ Q Ed => ma ρ (fun rs => mLst rs Q Ed) Ed) := fun A B ρ H σ R Qd Ed Q hm k kx => by
  refine s A B ρ H σ R _ Ed _ hm (fun rs vs H1 e1 r1 l hm1 => ?_) kx
  unfold mLst at hm1
  split at hm1
  · rename_i ds e
    refine ⟨Nat.le_trans (by rw [l]; exact hn) (by decide), fun p hp => ?_⟩
    have w1 := R.wf.evo e1
    have e2 : Evo (Ss ρ) H1 (upd H1 p (.lst vs)) := Evo.of (new_same hp)
    refine k (.new p ds) _ _ (e1.trans e2) ⟨rfl, e1.free R.strm hp, fun z => w1.mo _ z hp, vs, upd_same, ?_⟩ (hm1 p)
    exact (datas_dr r1 e).go w1.sm e2.keep fun b z => z.imp id fun q => by rw [q]; exact hp
  · exact hm1.elim
theorem l_N {r : List V → Hp → VK → Prop} {f : List Rv → KD → KX → Prop} (hs : SN K E r f) (s1 : SA K E n w ma) : SE K E (tCB r w) (eN f ma) := fun A B ρ H σ R Qd Ed Q hm k kx => by
  refine s1 A B ρ H σ R _ Ed _ hm (fun rs vs H1 e1 r1 l hm1 => ?_) kx
  exact hs _ _ H H1 vs rs (R.wf.evo e1) r1 Qd Ed Q hm1 (fun z u H' e' rz => k z u H' (e1.trans e') (rz.up fun a z => e1.free R.strm z)) fun x c d H' e' => kx x c d H' (e1.trans e')
/-! tests -/
theorem RepR.bl {M S : AS} {H0 H : Hp} {v : V} {b : Bool} (h : RepR K M S H0 H v (.d (.bl b))) : v = .bl b := by cases h; rfl
theorem l_B (s1 : SE K E t1 m1) : ST K E (tB t1) (tBl m1) := fun A B ρ H σ R Qd Ed Q hm k kx => by
  refine s1 A B ρ H σ R _ Ed _ hm (fun x v H1 e1 r1 hm1 => ?_) kx
  split at hm1
  · exact ⟨_, r1.bl, k _ _ e1 hm1⟩
  · exact hm1.elim
theorem l_Test (s1 : SE K E t1 m1) : ST K E (tTest t1) (tBl m1) := l_B s1
theorem l_not (s1 : ST K E q c) : ST K E (tNot q) (tNotD c) := fun A B ρ H σ R Qd Ed Q hm k kx => s1 A B ρ H σ R _ Ed _ hm (fun b H1 e1 hm1 => k _ _ e1 hm1) kx
theorem l_and (s1 : ST K E q1 c1) (s2 : ST K E q2 c2) : ST K E (tAnd q1 q2) (tAndD c1 c2) := fun A B ρ H σ R Qd Ed Q hm k kx => by
  refine s1 A B ρ H σ R _ Ed _ hm (fun b H1 e1 hm1 => ?_) kx
  cases b with
  | true => exact iteT (s2 A B ρ H1 σ (R.evo e1) _ Ed _ hm1 (fun b H2 e2 => k b H2 (e1.trans e2)) fun x c d H' e' => kx x c d H' (e1.trans e'))
  | false => exact iteF (k _ _ e1 hm1)
theorem l_or (s1 : ST K E q1 c1) (s2 : ST K E q2 c2) : ST K E (tOr q1 q2) (tOrD c1 c2) := fun A B ρ H σ R Qd Ed Q hm k kx => by
  refine s1 A B ρ H σ R _ Ed _ hm (fun b H1 e1 hm1 => ?_) kx
  cases b with
  | true => exact iteT (k _ _ e1 hm1)
  | false => exact iteF (s2 A B ρ H1 σ (R.evo e1) _ Ed _ hm1 (fun b H2 e2 => k b H2 (e1.trans e2)) fun x c d H' e' => kx x c d H' (e1.trans e'))
theorem l_if (s0 : ST K E q c) (s1 : SE K E t1 m1) (s2 : SE K E t2 m2) : SE K E (tIf q t1 t2) (eIf c m1 m2) := fun A B ρ H σ R Qd Ed Q hm k kx => by
  refine s0 A B ρ H σ R _ Ed _ hm (fun b H1 e1 hm1 => ?_) kx
  have f : ∀ r v H', Evo (Ss ρ) H1 H' → RepR K (Mo A ρ) (Ss ρ) H1 H' v r → Qd r → Q v H' := fun r v H' e' rr => k r v H' (e1.trans e') (rr.up fun a z => e1.free R.strm z)
  cases b with
  | true => exact iteT (s1 A B ρ H1 σ (R.evo e1) _ Ed _ hm1 f fun x c d H' e' => kx x c d H' (e1.trans e'))
  | false => exact iteF (s2 A B ρ H1 σ (R.evo e1) _ Ed _ hm1 f fun x c d H' e' => kx x c d H' (e1.trans e'))
theorem l_andV (s1 : SE K E t1 m1) (s2 : SE K E t2 m2) : SE K E (tAndV t1 t2) (eAnd m1 m2) := fun A B ρ H σ R Qd Ed Q hm k kx => by
  refine s1 A B ρ H σ R _ Ed _ hm (fun x v H1 e1 r1 hm1 => ?_) kx
  split at hm1
  · rename_i b
    refine ⟨b, r1.bl, ?_⟩
    cases b with
    | true => exact iteT (s2 A B ρ H1 σ (R.evo e1) _ Ed _ hm1 (fun r v H' e' rr => k r v H' (e1.trans e') (rr.up fun a z => e1.free R.strm z)) fun x c d H' e' => kx x c d H' (e1.trans e'))
    | false => exact iteF (k (.d (.bl false)) _ _ e1 (Dr.bl false) hm1)
  · exact hm1.elim
theorem l_orV (s1 : SE K E t1 m1) (s2 : SE K E t2 m2) : SE K E (tOrV t1 t2) (eOr m1 m2) := fun A B ρ H σ R Qd Ed Q hm k kx => by
  refine s1 A B ρ H σ R _ Ed _ hm (fun x v H1 e1 r1 hm1 => ?_) kx
  split at hm1
  · rename_i b
    refine ⟨b, r1.bl, ?_⟩
    cases b with
    | true => exact iteT (k (.d (.bl true)) _ _ e1 (Dr.bl true) hm1)
    | false => exact iteF (s2 A B ρ H1 σ (R.evo e1) _ Ed _ hm1 (fun r v H' e' rr => k r v H' (e1.trans e') (rr.up fun a z => e1.free R.strm z)) fun x c d H' e' => kx x c d H' (e1.trans e'))
  · exact hm1.elim
theorem l_notV (s1 : SE K E t1 m1) : SE K E (tNotV t1) (eNot m1) := fun A B ρ H σ R Qd Ed Q hm k kx => by
  refine s1 A B ρ H σ R _ Ed _ hm (fun x v H1 e1 r1 hm1 => ?_) kx
  split at hm1
  · exact ⟨_, r1.bl, k (.d (.bl _)) _ _ e1 (Dr.bl _) hm1⟩
  · exact hm1.elim
/-! fields -/
theorem l_fld {f : String} (T : Tx K) (s1 : SE K E t1 m1) : SE K E (tFld K t1 (Str.ofString f)) (eUn (mFld f) m1) := fun A B ρ H σ R Qd Ed Q hm k kx => by
  refine s1 A B ρ H σ R _ Ed _ hm (fun x v H1 e1 r1 hm1 => ?_) kx
  unfold mFld at hm1
  split at hm1
  · rename_i c ns ds
    split at hm1
    · rename_i y hy
      cases r1 with
      | obj q n l p al =>
        obtain ⟨u, hu, ru⟩ := look_at al hy
        exact ⟨_, _, _, _, u, rfl, q, T.cls c p.1, T.att c p.1 f (p.2 f (look_mem hy)), hu, k (.d y) _ _ e1 ru hm1⟩
    · exact hm1.elim
  · exact hm1.elim
end
end DL

set_option Elab.async false
set_option linter.all false
set_option maxRecDepth 100000
set_option maxHeartbeats 2000000
/-! operations on data -/
namespace DL
open PySem L2 He
def D.sc : D → Option V
  | .non => some .non | .bl b => some (.bl b) | .int i => some (.int i) | .str z => some (.str z) | _ => none
def Rv.sc : Rv → Option V
  | .d x => x.sc | _ => none
theorem Dr.sc {K : PySem.W.Frag} {M : AS} {H : Hp} {v u : V} {x : D} (h : Dr K M H v x) (e : x.sc = some u) : v = u := by
  cases h <;> first | (cases e; rfl) | cases e
theorem RepR.sc {K : PySem.W.Frag} {M S : AS} {H0 H : Hp} {v u : V} {x : Rv} (h : RepR K M S H0 H v x) (e : x.sc = some u) : v = u := by
  cases x with
  | d x => exact Dr.sc h e
  | _ => cases e
def V.toD : V → D
  | .non => .non | .bl b => .bl b | .int i => .int i | .str z => .str z | .ty n => .ty n | _ => .non
/-! intsOf -/
def fI (C : Int → Int → Prop) (g : Int → Int → D) (x y : Rv) (Q : KD) (_ : KX) : Prop := match x, y with
  | .d (.int i), .d (.int j) => C i j ∧ Q (.d (g i j))
  | _, _ => False
def fI0 (g : Int → Int → D) (x y : Rv) (Q : KD) (_ : KX) : Prop := match x, y with
  | .d (.int i), .d (.int j) => Q (.d (g i j))
  | _, _ => False
def fU (g : Int → D) (x : Rv) (Q : KD) (_ : KX) : Prop := match x with
  | .d (.int i) => Q (.d (g i))
  | _ => False
section
variable {K : PySem.W.Frag} {E : XK}
theorem s_I {C : Int → Int → Prop} {g : Int → Int → V} {gd : Int → Int → D} (hg : ∀ i j M H, Dr K M H (g i j) (gd i j)) : S2 K E (rI C g) (fI C gd) := fun M S H0 H v w x y wf rx ry Qd Ed Q hf k kx => by
  unfold fI at hf
  split at hf
  · rename_i i j
    cases rx
    cases ry
    exact ⟨i, j, rfl, rfl, hf.1, k (.d (gd i j)) _ _ (Evo.refl _ _) (hg i j _ _) hf.2⟩
  · exact hf.elim
theorem s_I0 {g : Int → Int → V} {gd : Int → Int → D} (hg : ∀ i j M H, Dr K M H (g i j) (gd i j)) : S2 K E (rI0 g) (fI0 gd) := fun M S H0 H v w x y wf rx ry Qd Ed Q hf k kx => by
  unfold fI0 at hf
  split at hf
  · rename_i i j
    cases rx
    cases ry
    exact ⟨i, j, rfl, rfl, k (.d (gd i j)) _ _ (Evo.refl _ _) (hg i j _ _) hf⟩
  · exact hf.elim
theorem s_U {g : Int → V} {gd : Int → D} (hg : ∀ i M H, Dr K M H (g i) (gd i)) : S1 K E (rU g) (fU gd) := fun M S H0 H v x wf rx Qd Ed Q hf k kx => by
  unfold fU at hf
  split at hf
  · rename_i i
    cases rx
    exact ⟨i, rfl, k (.d (gd i)) _ _ (Evo.refl _ _) (hg i _ _) hf⟩
  · exact hf.elim
abbrev fAdd := fI0 fun i j => .int (i + j)
abbrev fSub := fI0 fun i j => .int (i - j)
abbrev fMul := fI CMulW fun i j => .int (i * j)
abbrev fDiv := fI CDiv fun i j => .int (i / j)
abbrev fMod := fI (fun _ j => 0 < j) fun i j => .int (i % j)
abbrev fDivW := fI CDivW fun i j => .int (i / j)
abbrev fNeg := fU fun i => .int (-i)
abbrev fLt := fI0 fun i j => .bl (decide (i < j))
abbrev fLe := fI0 fun i j => .bl (decide (i ≤ j))
abbrev fGt := fI0 fun i j => .bl (decide (j < i))
abbrev fGe := fI0 fun i j => .bl (decide (j ≤ i))
theorem s_int {g : Int → Int → Int} : S2 K E (rI0 fun i j => V.int (g i j)) (fI0 fun i j => .int (g i j)) := s_I0 fun _ _ _ _ => .int _
theorem s_intC {C : Int → Int → Prop} {g : Int → Int → Int} : S2 K E (rI C fun i j => V.int (g i j)) (fI C fun i j => .int (g i j)) := s_I fun _ _ _ _ => .int _
theorem s_bool {g : Int → Int → Bool} : S2 K E (rI0 fun i j => V.bl (g i j)) (fI0 fun i j => .bl (g i j)) := s_I0 fun _ _ _ _ => .bl _
theorem s_neg : S1 K E (rU fun i => V.int (-i)) fNeg := s_U fun _ _ _ => .int _
/-! equality of scalars -/
def fEq (neg : Bool) (x y : Rv) (Q : KD) (_ : KX) : Prop := match x.sc, y.sc with
  | some v, some w => scal v w = true ∧ Q (.d (.bl (neg ^^ decide (v = w))))
  | _, _ => False
theorem s_eq : S2 K E rEq (fEq false) := fun M S H0 H v w x y wf rx ry Qd Ed Q hf k kx => by
  unfold fEq at hf
  split at hf
  · rename_i a b ea eb
    rw [rx.sc ea, ry.sc eb]
    exact ⟨hf.1, k (.d (.bl _)) _ _ (Evo.refl _ _) (by rw [Bool.false_xor]; exact Dr.bl _) hf.2⟩
  · exact hf.elim
theorem s_ne : S2 K E rNe (fEq true) := fun M S H0 H v w x y wf rx ry Qd Ed Q hf k kx => by
  unfold fEq at hf
  split at hf
  · rename_i a b ea eb
    rw [rx.sc ea, ry.sc eb]
    exact ⟨hf.1, k (.d (.bl _)) _ _ (Evo.refl _ _) (by rw [Bool.true_xor]; exact Dr.bl _) hf.2⟩
  · exact hf.elim
/-! items -/
def fIx (as : Rv → Option (List D)) (x y : Rv) (Q : KD) (_ : KX) : Prop := match as x, y with
  | some l, .d (.int i) => (match atI l i with
    | some z => Q (.d z)
    | none => False)
  | _, _ => False
theorem atI_dr {M : AS} {H : Hp} {vs : List V} {l : List D} {i : Int} {z : D} (al : DrL K M H vs l) (h : atI l i = some z) : ∃ v, atI vs i = some v ∧ Dr K M H v z := by
  unfold atI at h ⊢
  rw [al.length]
  cases e : ixN l.length i with
  | none => rw [e] at h; cases h
  | some j =>
    rw [e] at h
    exact al.at_ h
theorem s_ixT : S2 K E (rIxT K) (fIx Rv.asT) := fun M S H0 H v w x y wf rx ry Qd Ed Q hf k kx => by
  unfold fIx at hf
  split at hf
  · rename_i l i e
    split at hf
    · rename_i z hz
      cases x with
      | d x =>
        cases x with
        | tup l' =>
          cases e
          obtain ⟨a, vs, rfl, q, al⟩ := Dr.sqt rx
          obtain ⟨u, hu, ru⟩ := atI_dr al hz
          cases ry
          exact ⟨a, vs, i, u, rfl, rfl, q, hu, k (.d z) _ _ (Evo.refl _ _) ru hf⟩
        | _ => cases e
      | tp b its =>
        cases e
        obtain ⟨a, vs, rfl, q, al⟩ := Dr.sqt rx.flat
        obtain ⟨u, hu, ru⟩ := atI_dr al hz
        cases ry
        exact ⟨a, vs, i, u, rfl, rfl, q, hu, k (.d z) _ _ (Evo.refl _ _) ru hf⟩
      | _ => cases e
    · exact hf.elim
  · exact hf.elim
theorem s_ixL : S2 K E (rIxL K) (fIx Rv.asL) := fun M S H0 H v w x y wf rx ry Qd Ed Q hf k kx => by
  unfold fIx at hf
  split at hf
  · rename_i l i e
    split at hf
    · rename_i z hz
      obtain ⟨a, vs, rfl, q, al⟩ := rx.sl e
      obtain ⟨u, hu, ru⟩ := atI_dr al hz
      cases ry
      exact ⟨a, vs, i, u, rfl, rfl, .inl (.inl q), hu, k (.d z) _ _ (Evo.refl _ _) ru hf⟩
    · exact hf.elim
  · exact hf.elim
theorem s_ix : S2 K E (rIx K) (fIx Rv.asS) := fun M S H0 H v w x y wf rx ry Qd Ed Q hf k kx => by
  unfold fIx at hf
  split at hf
  · rename_i l i e
    split at hf
    · rename_i z hz
      obtain ⟨a, vs, rfl, q, al⟩ := rx.ss e
      obtain ⟨u, hu, ru⟩ := atI_dr al hz
      cases ry
      have kk := k (.d z) _ _ (Evo.refl _ _) ru hf
      rcases q with q | q
      · exact .inl ⟨a, vs, i, u, rfl, rfl, q, hu, kk⟩
      · exact .inr (.inl ⟨a, vs, i, u, rfl, rfl, q, hu, kk⟩)
    · exact hf.elim
  · exact hf.elim
/-- a sign of a text -/
def fIxS (x y : Rv) (Q : KD) (_ : KX) : Prop := match x, y with
  | .d (.str z), .d (.int i) => z.length ≤ sizeLine ∧ (match atI z.cps.toList i with
    | some c => Q (.d (.str ⟨#[c]⟩))
    | none => False)
  | _, _ => False
theorem s_ixS : S2 K E rIxS fIxS := fun M S H0 H v w x y wf rx ry Qd Ed Q hf k kx => by
  unfold fIxS at hf
  split at hf
  · rename_i z i
    obtain ⟨l, hf⟩ := hf
    split at hf
    · rename_i c hc
      cases rx
      cases ry
      exact ⟨z, i, c, rfl, rfl, l, hc, k (.d (.str _)) _ _ (Evo.refl _ _) (Dr.str _) hf⟩
    · exact hf.elim
  · exact hf.elim
/-! in -/
def scs : List D → Option (List V)
  | [] => some []
  | x :: l => match x.sc, scs l with
    | some v, some vs => some (v :: vs)
    | _, _ => none
theorem scs_eq {M : AS} {H : Hp} : ∀ {vs : List V} {l : List D} {us : List V}, DrL K M H vs l → scs l = some us → vs = us
  | _, _, _, .nil, e => by cases e; rfl
  | _, _, _, .cons h t, e => by
    unfold scs at e
    split at e
    · rename_i v vs e1 e2
      cases e
      rw [h.sc e1, scs_eq t e2]
    · cases e
theorem sc_flat {x : D} {v : V} (e : x.sc = some v) : flatV v = true := by
  cases x <;> first | (cases e; rfl) | cases e
theorem scs_flat : ∀ {l : List D} {us : List V}, scs l = some us → us.all flatV = true
  | [], _, e => by cases e; rfl
  | x :: l, us, e => by
    unfold scs at e
    split at e
    · rename_i v vs e1 e2
      cases e
      rw [List.all_cons, sc_flat e1, scs_flat e2]
      rfl
    · cases e
def fIn (neg : Bool) (x y : Rv) (Q : KD) (_ : KX) : Prop := match x.sc, y.asS with
  | some v, some l => (match scs l with
    | some us => Q (.d (.bl (neg ^^ inV v us)))
    | none => False)
  | _, _ => False
theorem s_in {neg : Bool} : S2 K E (rIn K neg) (fIn neg) := fun M S H0 H v w x y wf rx ry Qd Ed Q hf k kx => by
  unfold fIn at hf
  split at hf
  · rename_i v l e1 e2
    split at hf
    · rename_i us e3
      obtain ⟨a, vs, rfl, q, al⟩ := ry.ss e2
      rw [rx.sc e1]
      have e4 := scs_eq al e3
      subst e4
      have fx : flatV v = true := by
        cases x with
        | d x => exact sc_flat e1
        | _ => cases e1
      exact ⟨a, vs, rfl, q, fx, scs_flat e3, k (.d (.bl _)) _ _ (Evo.refl _ _) (by cases neg <;> simp only [Bool.false_xor, Bool.true_xor, if_true, Bool.false_eq_true, if_false] <;> exact Dr.bl _) hf⟩
    · exact hf.elim
  · exact hf.elim
/-! calls of what is built in -/
def fLen (xs : List Rv) (Q : KD) (_ : KX) : Prop := match xs with
  | [x] => (match x.asS with
    | some l => Q (.d (.int (l.length : Nat)))
    | none => False)
  | _ => False
theorem RepRs.one {M S : AS} {H0 H : Hp} {vs : List V} {x : Rv} (h : RepRs K M S H0 H vs [x]) : ∃ v, vs = [v] ∧ RepR K M S H0 H v x := by
  cases vs with
  | nil => exact h.elim
  | cons v t => cases t with
    | nil => exact ⟨v, rfl, h.1⟩
    | cons _ _ => exact h.2.elim
theorem RepRs.two {M S : AS} {H0 H : Hp} {vs : List V} {x y : Rv} (h : RepRs K M S H0 H vs [x, y]) : ∃ v w, vs = [v, w] ∧ RepR K M S H0 H v x ∧ RepR K M S H0 H w y := by
  cases vs with
  | nil => exact h.elim
  | cons v t =>
    obtain ⟨w, rfl, r⟩ := RepRs.one h.2
    exact ⟨v, w, rfl, h.1, r⟩
abbrev rLen' (K : PySem.W.Frag) : List V → Hp → VK → Prop := fun xs H Q => ∃ p ys, xs = [.ref p] ∧ (SqL K H p ys ∨ SqT K H p ys) ∧ Q (.int (ys.length : Nat)) H
theorem s_len : SN K E (rLen' K) fLen := fun M S H0 H vs xs wf rs Qd Ed Q hf k kx => by
  unfold fLen at hf
  split at hf
  · rename_i x
    split at hf
    · rename_i l e
      obtain ⟨v, rfl, r⟩ := rs.one
      obtain ⟨a, us, rfl, q, al⟩ := r.ss e
      exact ⟨a, us, rfl, q, k (.d (.int _)) _ _ (Evo.refl _ _) (by rw [al.length]; exact Dr.int _) hf⟩
    · exact hf.elim
  · exact hf.elim
def fLenS (xs : List Rv) (Q : KD) (_ : KX) : Prop := match xs with
  | [.d (.str z)] => z.length ≤ sizeLine ∧ Q (.d (.int (z.length : Nat)))
  | _ => False
abbrev rLenS' : List V → Hp → VK → Prop := fun xs H Q => ∃ z, xs = [.str z] ∧ z.length ≤ sizeLine ∧ Q (.int (z.length : Nat)) H
theorem s_lenS : SN K E rLenS' fLenS := fun M S H0 H vs xs wf rs Qd Ed Q hf k kx => by
  unfold fLenS at hf
  split at hf
  · rename_i z
    obtain ⟨v, rfl, r⟩ := rs.one
    cases r
    exact ⟨z, rfl, hf.1, k (.d (.int _)) _ _ (Evo.refl _ _) (Dr.int _) hf.2⟩
  · exact hf.elim
def fInt (xs : List Rv) (Q : KD) (_ : KX) : Prop := match xs with
  | [.d (.int i)] => Q (.d (.int i))
  | [.d (.bl b)] => Q (.d (.int (if b = true then 1 else 0)))
  | _ => False
abbrev rInt' : List V → Hp → VK → Prop := fun xs H Q => (∃ i, xs = [.int i] ∧ Q (.int i) H) ∨ ∃ k, xs = [.bl k] ∧ Q (.int (if k = true then 1 else 0)) H
theorem s_int1 : SN K E rInt' fInt := fun M S H0 H vs xs wf rs Qd Ed Q hf k kx => by
  unfold fInt at hf
  split at hf
  · obtain ⟨v, rfl, r⟩ := rs.one
    cases r
    exact .inl ⟨_, rfl, k (.d (.int _)) _ _ (Evo.refl _ _) (Dr.int _) hf⟩
  · obtain ⟨v, rfl, r⟩ := rs.one
    cases r
    exact .inr ⟨_, rfl, k (.d (.int _)) _ _ (Evo.refl _ _) (Dr.int _) hf⟩
  · exact hf.elim
def f1I (g : Int → Int) (xs : List Rv) (Q : KD) (_ : KX) : Prop := match xs with
  | [.d (.int i)] => Q (.d (.int (g i)))
  | _ => False
def f2I (g : Int → Int → Int) (xs : List Rv) (Q : KD) (_ : KX) : Prop := match xs with
  | [.d (.int i), .d (.int j)] => Q (.d (.int (g i j)))
  | _ => False
theorem s_1I {g : Int → Int} : SN K E (fun xs H Q => ∃ i, xs = [V.int i] ∧ Q (V.int (g i)) H) (f1I g) := fun M S H0 H vs xs wf rs Qd Ed Q hf k kx => by
  unfold f1I at hf
  split at hf
  · obtain ⟨v, rfl, r⟩ := rs.one
    cases r
    exact ⟨_, rfl, k (.d (.int _)) _ _ (Evo.refl _ _) (Dr.int _) hf⟩
  · exact hf.elim
theorem s_2I {g : Int → Int → Int} : SN K E (fun xs H Q => ∃ i j, xs = [V.int i, V.int j] ∧ Q (V.int (g i j)) H) (f2I g) := fun M S H0 H vs xs wf rs Qd Ed Q hf k kx => by
  unfold f2I at hf
  split at hf
  · obtain ⟨v, w, rfl, r, q⟩ := rs.two
    cases r
    cases q
    exact ⟨_, _, rfl, k (.d (.int _)) _ _ (Evo.refl _ _) (Dr.int _) hf⟩
  · exact hf.elim
abbrev fAbs := f1I fun i => if i < 0 then -i else i
abbrev fMin := f2I fun i j => if j < i then j else i
abbrev fMax := f2I fun i j => if j > i then j else i
/-- tuple(..), list(..) -/
def fTuple (xs : List Rv) (Q : KD) (_ : KX) : Prop := match xs with
  | [x] => (match x.asS with
    | some l => Q (.d (.tup l))
    | none => False)
  | _ => False
abbrev rTup' (K : PySem.W.Frag) : List V → Hp → VK → Prop := fun xs H Q => ∃ p ys, xs = [.ref p] ∧ ((SqL K H p ys ∧ ∀ l, H l = none → Q (.ref l) (upd H l (.tup ys))) ∨ (SqT K H p ys ∧ Q (.ref p) H))
theorem s_tuple : SN K E (rTup' K) fTuple := fun M S H0 H vs xs wf rs Qd Ed Q hf k kx => by
  unfold fTuple at hf
  split at hf
  · rename_i x
    split at hf
    · rename_i l e
      obtain ⟨v, rfl, r⟩ := rs.one
      have fin : ∀ {p : Addr} {us : List V}, DrL K M H us l → ∀ q, H q = none → Q (.ref q) (upd H q (.tup us)) := fun {p us} al q hq => by
        have e2 : Evo S H (upd H q (.tup us)) := Evo.of (new_same hq)
        exact k (.d (.tup l)) _ _ e2 (Dr.tup (.inl upd_same) (fun z => wf.mo _ z hq) (al.evo wf.sm e2)) hf
      cases x with
      | d y =>
        cases y with
        | lst l' =>
          obtain ⟨a, us, rfl, q, al⟩ := r.sl (show Rv.asL (.d (.lst l')) = some l from e)
          exact ⟨a, us, rfl, .inl ⟨.inl (.inl q), fin (p := a) al⟩⟩
        | tup l' =>
          cases e
          cases r with
          | tup r n al => exact ⟨_, _, rfl, .inr ⟨.inl r, k (.d (.tup l)) _ _ (Evo.refl _ _) (Dr.tup r n al) hf⟩⟩
          | tupW r al => exact ⟨_, _, rfl, .inr ⟨r H, k (.d (.tup l)) _ _ (Evo.refl _ _) (Dr.tupW r al) hf⟩⟩
        | scr ns =>
          cases e
          cases r with
          | scr q n => exact ⟨_, _, rfl, .inl ⟨.inl q, fin (p := 0) (drl_ints ns)⟩⟩
          | scrW q => exact ⟨_, _, rfl, .inl ⟨q H, fin (p := 0) (drl_ints ns)⟩⟩
        | _ => cases e
      | strm a => cases e
      | new a l' =>
        obtain ⟨a, us, rfl, q, al⟩ := r.sl (show Rv.asL (.new a l') = some l from e)
        exact ⟨a, us, rfl, .inl ⟨.inl (.inl q), fin (p := a) al⟩⟩
      | bor a l' =>
        obtain ⟨a, us, rfl, q, al⟩ := r.sl (show Rv.asL (.bor a l') = some l from e)
        exact ⟨a, us, rfl, .inl ⟨.inl (.inl q), fin (p := a) al⟩⟩
      | tp b its =>
        cases e
        have r2 : Dr K M H v (.tup (its.map itD)) := r.flat
        obtain ⟨a, us, rfl, q, al⟩ := Dr.sqt r2
        exact ⟨a, us, rfl, .inr ⟨q, k (.d (.tup _)) _ _ (Evo.refl _ _) r2 hf⟩⟩
    · exact hf.elim
  · exact hf.elim
theorem new_list {M S : AS} {H : Hp} {us : List V} {l : List D} (wf : Wf M S H) (al : DrL K M H us l) {q : Addr} (hq : H q = none) : Evo S H (upd H q (.lst us)) ∧ RepR K M S H (upd H q (.lst us)) (.ref q) (.new q l) := by
  have e2 : Evo S H (upd H q (.lst us)) := Evo.of (new_same hq)
  exact ⟨e2, rfl, hq, fun z => wf.mo _ z hq, us, upd_same, al.go wf.sm e2.keep fun b z => z.imp id fun y => by rw [y]; exact hq⟩
def fList (xs : List Rv) (Q : KD) (_ : KX) : Prop := match xs with
  | [x] => (match x.asS with
    | some l => ∀ a, Q (.new a l)
    | none => False)
  | _ => False
abbrev rList' (K : PySem.W.Frag) : List V → Hp → VK → Prop := fun xs H Q => ∃ p ys, xs = [.ref p] ∧ (SqL K H p ys ∨ SqT K H p ys) ∧ ∀ l, H l = none → Q (.ref l) (upd H l (.lst ys))
theorem s_list : SN K E (rList' K) fList := fun M S H0 H vs xs wf rs Qd Ed Q hf k kx => by
  unfold fList at hf
  split at hf
  · rename_i x
    split at hf
    · rename_i l e
      obtain ⟨v, rfl, r⟩ := rs.one
      obtain ⟨a, us, rfl, q, al⟩ := r.ss e
      refine ⟨a, us, rfl, q, fun p hp => ?_⟩
      obtain ⟨e2, rp⟩ := new_list wf al hp
      exact k (.new p l) _ _ e2 rp (hf p)
    · exact hf.elim
  · exact hf.elim
/-- all, any -/
def bools : List D → Option (List Bool)
  | [] => some []
  | .bl b :: l => (bools l).map (b :: ·)
  | _ => none
theorem bools_eq {M : AS} {H : Hp} : ∀ {vs : List V} {l : List D} {bs : List Bool}, DrL K M H vs l → bools l = some bs → vs = bs.map V.bl
  | _, _, _, .nil, e => by cases e; rfl
  | _, _, _, .cons h t, e => by
    cases h with
    | bl b =>
      unfold bools at e
      obtain ⟨cs, e1, rfl⟩ := Option.map_eq_some_iff.mp e
      rw [bools_eq t e1]
      rfl
    | _ => cases e
def fBs (g : List Bool → Bool) (xs : List Rv) (Q : KD) (_ : KX) : Prop := match xs with
  | [x] => (match x.asL with
    | some l => (match bools l with
      | some bs => Q (.d (.bl (g bs)))
      | none => False)
    | none => False)
  | _ => False
theorem s_bs {g : List Bool → Bool} : SN K E (fun vs H Q => ∃ (a : Addr) (bs : List Bool), vs = [V.ref a] ∧ SqL K H a (bs.map V.bl) ∧ Q (.bl (g bs)) H) (fBs g) := fun M S H0 H vs xs wf rs Qd Ed Q hf k kx => by
  unfold fBs at hf
  split at hf
  · rename_i x
    split at hf
    · rename_i l e
      split at hf
      · rename_i bs eb
        obtain ⟨v, rfl, r⟩ := rs.one
        obtain ⟨a, us, rfl, q, al⟩ := r.sl e
        have := bools_eq al eb
        subst this
        exact ⟨a, bs, rfl, .inl (.inl q), k (.d (.bl _)) _ _ (Evo.refl _ _) (Dr.bl _) hf⟩
      · exact hf.elim
    · exact hf.elim
  · exact hf.elim
abbrev fAll := fBs fun bs => bs.all id
abbrev fAny := fBs fun bs => bs.any id
def intsOf : List D → Option (List Int)
  | [] => some []
  | .int b :: l => (intsOf l).map (b :: ·)
  | _ => none
theorem intsOf_eq {M : AS} {H : Hp} : ∀ {vs : List V} {l : List D} {bs : List Int}, DrL K M H vs l → intsOf l = some bs → vs = bs.map V.int
  | _, _, _, .nil, e => by cases e; rfl
  | _, _, _, .cons h t, e => by
    cases h with
    | int b =>
      unfold intsOf at e
      obtain ⟨cs, e1, rfl⟩ := Option.map_eq_some_iff.mp e
      rw [intsOf_eq t e1]
      rfl
    | _ => cases e
def fIs (g : List Int → Int) (xs : List Rv) (Q : KD) (_ : KX) : Prop := match xs with
  | [x] => (match x.asL with
    | some l => (match intsOf l with
      | some bs => Q (.d (.int (g bs)))
      | none => False)
    | none => False)
  | _ => False
theorem s_is {g : List Int → Int} : SN K E (fun vs H Q => ∃ (a : Addr) (bs : List Int), vs = [V.ref a] ∧ SqL K H a (bs.map V.int) ∧ Q (.int (g bs)) H) (fIs g) := fun M S H0 H vs xs wf rs Qd Ed Q hf k kx => by
  unfold fIs at hf
  split at hf
  · rename_i x
    split at hf
    · rename_i l e
      split at hf
      · rename_i bs eb
        obtain ⟨v, rfl, r⟩ := rs.one
        obtain ⟨a, us, rfl, q, al⟩ := r.sl e
        have := intsOf_eq al eb
        subst this
        exact ⟨a, bs, rfl, .inl (.inl q), k (.d (.int _)) _ _ (Evo.refl _ _) (Dr.int _) hf⟩
      · exact hf.elim
    · exact hf.elim
  · exact hf.elim
abbrev fSum := fIs List.sum
/-- lists and tuples put together -/
def fCat (x y : Rv) (Q : KD) (_ : KX) : Prop := match x.asL, y.asL with
  | some l, some m => l.length + m.length ≤ sizeLine ∧ ∀ a, Q (.new a (l ++ m))
  | _, _ => False
theorem s_cat : S2 K E rCat fCat := fun M S H0 H v w x y wf rx ry Qd Ed Q hf k kx => by
  unfold fCat at hf
  split at hf
  · rename_i l m e1 e2
    obtain ⟨a, us, rfl, q, al⟩ := rx.sl e1
    obtain ⟨b, ws, rfl, q', bl⟩ := ry.sl e2
    refine ⟨a, b, us, ws, rfl, rfl, q, q', by rw [al.length, bl.length]; exact hf.1, fun p hp => ?_⟩
    obtain ⟨e3, rp⟩ := new_list wf (al.append bl) hp
    exact k (.new p _) _ _ e3 rp (hf.2 p)
  · exact hf.elim
end
end DL

set_option Elab.async false
set_option linter.all false
set_option maxRecDepth 100000
set_option maxHeartbeats 2000000
/-! statements over data -/
namespace DL
open PySem L2 He
structure ED where
  nx : Env → Prop
  rt : Rv → Prop
  bk : Env → Prop
  ct : Env → Prop
  ex : KX
abbrev MS := Env → ED → Prop
/-- what is handed back: data, or a new list -/
def RetR (K : PySem.W.Frag) (A : AS) (B : Bd) (H : Hp) (v : V) : Rv → Prop
  | .d x => Dr K A H v x
  | .new a l => v = .ref a ∧ (B.Hs a = none ∨ B.F0 a) ∧ ¬ A a ∧ ∃ vs, H a = some (.lst vs) ∧ DrL K (fun b => A b ∨ b = a) H vs l
  | .tp a its => v = .ref a ∧ ¬ A a ∧ (∀ b ∈ newsI its, (B.Hs b = none ∨ B.F0 b) ∧ ¬ A b) ∧ (newsI its).Nodup ∧ ∃ vs, H a = some (.tup vs) ∧ RepIs K (fun b => A b ∨ b ∈ newsI its) H vs its
  | _ => False
structure Rel (K : PySem.W.Frag) (A : AS) (B : Bd) (E : XK) (M : ED) (D : Ends) : Prop where
  nx : ∀ ρ H σ, RepS K A B ρ H σ → M.nx ρ → D.nx σ H
  rt : ∀ r v H, Bv B H → RetR K A B H v r → M.rt r → D.rt v H
  bk : ∀ ρ H σ, RepS K A B ρ H σ → M.bk ρ → D.bk σ H
  ct : ∀ ρ H σ, RepS K A B ρ H σ → M.ct ρ → D.ct σ H
  ex : ∀ x c d H, Bv B H → RepX K A H c d x → M.ex x → E c d H
def SS (K : PySem.W.Frag) (E : XK) (t : TS) (m : MS) : Prop :=
  ∀ A B ρ H σ, RepS K A B ρ H σ → ∀ (M : ED) (D : Ends), m ρ M → Rel K A B E M D → t D σ H
section
variable {K : PySem.W.Frag} {A : AS} {B : Bd} {ρ : Env} {H H' H0 H1 : Hp} {σ : St} {E : XK}
/-! a name is stored -/
theorem mo_set {i : Nat} {s : Option Sl} {a : Addr} (h : Mo A (ρ.set i s) a) : Mo A ρ a ∨ ∃ t, s = some t ∧ t.addr = some a := by
  rcases h with h | ⟨t, ht, e⟩
  · exact .inl (.inl h)
  · rcases List.mem_or_eq_of_mem_set ht with h | h
    · exact .inl (.inr ⟨t, h, e⟩)
    · exact .inr ⟨t, h.symm, e⟩
theorem get_set {i j : Nat} {s : Option Sl} {t : Sl} (h : (ρ.set i s)[j]? = some (some t)) : (j = i ∧ s = some t) ∨ (j ≠ i ∧ ρ[j]? = some (some t)) := by
  rw [List.getElem?_set] at h
  split at h
  · rename_i e
    split at h
    · cases h
      exact .inl ⟨e.symm, rfl⟩
    · cases h
  · rename_i e
    exact .inr ⟨fun z => e z.symm, h⟩
theorem tracked (b : Bv B H) {a : Addr} (h : B.Hs a ≠ none) : H a ≠ none := by
  by_cases s : B.S0 a
  · exact (b.strm a s).some
  · by_cases f : B.F0 a
    · exact b.f0 a f
    · cases e : B.Hs a with
      | none => exact absurd e h
      | some o => rw [b.keep a o s f e]; simp
theorem untracked (b : Bv B H) {a : Addr} (h : H a = none) : B.Hs a = none := by
  cases e : B.Hs a with
  | none => rfl
  | some o => exact absurd h (tracked b (by rw [e]; simp))
theorem RepS.setD {i : Nat} {v : V} {x : D} (R : RepS K A B ρ H σ) (h : Dr K (Mo A ρ) H v x) : RepS K A B (ρ.set i (some (.d x))) H (σ.set i (some v)) where
  len := by rw [List.length_set, List.length_set, R.len]
  at_ j s hj := by
    have sub : ∀ a, Mo A (ρ.set i (some (.d x))) a → Mo A ρ a ∨ H a = none := fun a z => by
      rcases mo_set z with q | ⟨t, q, e⟩
      · exact .inl q
      · cases q; cases e
    rcases get_set hj with ⟨rfl, e⟩ | ⟨n, e⟩
    · cases e
      have : j < σ.length := by
        rw [R.len]
        have := (List.getElem?_eq_some_iff.mp hj).1
        rwa [List.length_set] at this
      exact ⟨v, by rw [List.getElem?_set_self this], Dr.grow h sub⟩
    · obtain ⟨u, hu, r⟩ := R.at_ j s e
      exact ⟨u, by rw [List.getElem?_set_ne (fun z => n z.symm)]; exact hu, r.go (S := fun _ => False) (fun _ z => z.elim) (fun _ _ _ z => z) (fun _ z => z.elim) sub (fun _ _ _ z => z)⟩
  apart j k s t a hj hk ea eb := by
    rcases get_set hj with ⟨rfl, e⟩ | ⟨_, e⟩
    · cases e; cases ea
    · rcases get_set hk with ⟨rfl, e'⟩ | ⟨_, e'⟩
      · cases e'; cases eb
      · exact R.apart j k s t a e e' ea eb
  amb := R.amb
  na j s a hj ea ns := by
    rcases get_set hj with ⟨rfl, e⟩ | ⟨_, e⟩
    · cases e; cases ea
    · exact R.na j s a e ea ns
  bv := R.bv
  fr j s a hj ea := by
    rcases get_set hj with ⟨rfl, e⟩ | ⟨_, e⟩
    · cases e; cases ea
    · exact R.fr j s a e ea
/-- a new list is stored as the name's own -/
theorem RepS.setN {i : Nat} {a : Addr} {s : Sl} {v : V} (R : RepS K A B ρ H0 σ) (e : Evo (Ss ρ) H0 H) (n : H0 a = none) (sa : s.addr = some a) (h : RepSl K (fun b => Mo A ρ b ∨ b = a) H v s) : RepS K A B (ρ.set i (some s)) H (σ.set i (some v)) := by
  have sub : ∀ b, Mo A (ρ.set i (some s)) b → Mo A ρ b ∨ b = a := fun b z => by
    rcases mo_set z with q | ⟨t, q, e⟩
    · exact .inl q
    · cases q
      rw [sa] at e
      cases e
      exact .inr rfl
  have R1 := R.evo e
  have nm : ¬ Mo A ρ a := fun z => R.mo _ z n
  refine ⟨by rw [List.length_set, List.length_set, R.len], fun j t hj => ?_, fun j k s' t b hj hk ea eb => ?_, R1.amb, fun j t b hj ea ns => ?_, R1.bv, fun j t b hj ea => ?_⟩
  · rcases get_set hj with ⟨rfl, q⟩ | ⟨m, q⟩
    · cases q
      have : j < σ.length := by
        rw [R.len]
        have := (List.getElem?_eq_some_iff.mp hj).1
        rwa [List.length_set] at this
      exact ⟨v, by rw [List.getElem?_set_self this], h.go (S := fun _ => False) (fun _ z => z.elim) (fun _ _ _ z => z) (fun _ z => z.elim) (fun b z => .inl (sub b z)) (fun _ _ _ z => z)⟩
    · obtain ⟨u, hu, r⟩ := R.at_ j t q
      refine ⟨u, by rw [List.getElem?_set_ne (fun z => m z.symm)]; exact hu, r.go ss_mo e.keep e.strm (fun b z => (sub b z).imp id fun y => by rw [y]; exact n) fun b hb ns hS => ?_⟩
      obtain ⟨k, hk⟩ := mem_at hS
      have := R.apart j k _ _ b q hk hb rfl
      subst this
      rw [q] at hk
      cases hk
      exact ns b rfl
  · rcases get_set hj with ⟨rfl, q⟩ | ⟨m, q⟩
    · cases q
      rw [sa] at ea
      cases ea
      rcases get_set hk with ⟨rfl, q'⟩ | ⟨m', q'⟩
      · rfl
      · exact absurd (.inr ⟨t, at_mem q', eb⟩) nm
    · rcases get_set hk with ⟨rfl, q'⟩ | ⟨m', q'⟩
      · cases q'
        rw [sa] at eb
        cases eb
        exact absurd (.inr ⟨s', at_mem q, ea⟩) nm
      · exact R.apart j k s' t b q q' ea eb
  · rcases get_set hj with ⟨rfl, q⟩ | ⟨m, q⟩
    · cases q
      rw [sa] at ea
      cases ea
      exact fun z => nm (.inl z)
    · exact R.na j t b q ea ns
  · rcases get_set hj with ⟨rfl, q⟩ | ⟨m, q⟩
    · cases q
      rw [sa] at ea
      cases ea
      exact .inl (untracked R.bv n)
    · exact R.fr j t b q ea
theorem ss_fr (R : RepS K A B ρ H σ) (a : Addr) (h : Ss ρ a) : B.Hs a = none ∨ B.S0 a := by
  obtain ⟨i, hi⟩ := mem_at h
  rcases R.fr i _ a hi rfl with q | ⟨_, q⟩ | ⟨q, _⟩
  · exact .inl q
  · exact .inr q
  · exact absurd rfl (q a)
theorem RepS.bvE (R : RepS K A B ρ H σ) (e : Evo (Ss ρ) H H') : Bv B H' := R.bv.evo e (ss_fr R) R.strm
theorem RepX.anti {M M' : AS} {c : Value} {d : Option Addr} {x : Ex} (h : RepX K M H c d x) (g : ∀ a, M' a → M a) : RepX K M' H c d x := by
  obtain ⟨e, h⟩ := h
  refine ⟨e, h.imp id ?_⟩
  rintro ⟨a, vs, e1, nm, e2, l, al⟩
  exact ⟨a, vs, e1, fun z => nm (g a z), e2, l, al.grow fun b z => .inl (g b z)⟩
/-- what an expression raises -/
theorem Rel.exE {M : ED} {D : Ends} (L : Rel K A B E M D) (R : RepS K A B ρ H σ) : ∀ x c d H', Evo (Ss ρ) H H' → RepX K (Mo A ρ) H' c d x → M.ex x → E c d H' :=
  fun x c d H' e rx hx => L.ex x c d H' (R.bvE e) (rx.anti fun a z => .inl z) hx
/-! ### the statements' words -/
def sNext : MS := fun ρ M => M.nx ρ
def sSeq (m n : MS) : MS := fun ρ M => m ρ { M with nx := fun ρ' => n ρ' M }
def sIf (c : MT) (m n : MS) : MS := fun ρ M => c ρ (fun b => if b = true then m ρ M else n ρ M) M.ex
def sSetD (i : Nat) (e : ME) : MS := fun ρ M => e ρ (fun r => match r.data with
  | some x => M.nx (ρ.set i (some (.d x)))
  | none => False) M.ex
def sSetO (i : Nat) (e : ME) : MS := fun ρ M => e ρ (fun r => match r with
  | .new a l => M.nx (ρ.set i (some (.own a l)))
  | _ => False) M.ex
def sSetS (i : Nat) (e : ME) : MS := fun ρ M => e ρ (fun r => match r with
  | .new a [.int _, .int _, .int _] => M.nx (ρ.set i (some (.strm a)))
  | _ => False) M.ex
def retK (Q : Rv → Prop) : KD := fun r => match r with
  | .d x => Q (.d x)
  | .new a l => Q (.new a l)
  | .tp a its => Q (.tp a its)
  | _ => False
def sRet (e : ME) : MS := fun ρ M => e ρ (retK M.rt) M.ex
def sDrop (e : ME) : MS := fun ρ M => e ρ (fun _ => M.nx ρ) M.ex
theorem w_next : SS K E tNext sNext := fun A B ρ H σ R M D hm L => L.nx ρ H σ R hm
theorem w_seq {t u : TS} {m n : MS} (s1 : SS K E t m) (s2 : SS K E u n) : SS K E (tSeq t u) (sSeq m n) := fun A B ρ H σ R M D hm L =>
  s1 A B ρ H σ R _ { D with nx := u D } hm ⟨fun ρ' H' σ' R' h => s2 A B ρ' H' σ' R' M D h L, L.rt, L.bk, L.ct, L.ex⟩
theorem w_if {c : TT} {mc : MT} {t u : TS} {m n : MS} (s0 : ST K E c mc) (s1 : SS K E t m) (s2 : SS K E u n) : SS K E (tIfS c t u) (sIf mc m n) := fun A B ρ H σ R M D hm L => by
  refine s0 A B ρ H σ R _ _ _ hm (fun b H1 e1 h => ?_) (L.exE R)
  cases b with
  | true => exact iteT (s1 A B ρ H1 σ (R.evo e1) M D h L)
  | false => exact iteF (s2 A B ρ H1 σ (R.evo e1) M D h L)
theorem w_setD {i : Nat} {t : TE} {m : ME} (s : SE K E t m) : SS K E (tAsg t (gName i)) (sSetD i m) := fun A B ρ H σ R M D hm L => by
  refine s A B ρ H σ R _ _ _ hm (fun r v H1 e1 rr h => ?_) (L.exE R)
  split at h
  · rename_i x hx
    exact L.nx _ _ _ ((R.evo e1).setD (rr.dr hx)) h
  · exact h.elim
theorem w_setO {i : Nat} {t : TE} {m : ME} (s : SE K E t m) : SS K E (tAsg t (gName i)) (sSetO i m) := fun A B ρ H σ R M D hm L => by
  refine s A B ρ H σ R _ _ _ hm (fun r v H1 e1 rr h => ?_) (L.exE R)
  split at h
  · rename_i a l
    obtain ⟨rfl, n, nm, z⟩ := rr
    exact L.nx _ _ _ (R.setN (s := .own a l) e1 n rfl ⟨rfl, z⟩) h
  · exact h.elim
theorem w_setS {i : Nat} {t : TE} {m : ME} (s : SE K E t m) : SS K E (tAsg t (gName i)) (sSetS i m) := fun A B ρ H σ R M D hm L => by
  refine s A B ρ H σ R _ _ _ hm (fun r v H1 e1 rr h => ?_) (L.exE R)
  split at h
  · rename_i a x y z
    obtain ⟨rfl, n, nm, vs, q, al⟩ := rr
    refine L.nx _ _ _ (R.setN (s := .strm a) e1 n rfl ⟨rfl, ?_⟩) h
    cases al with
    | cons h1 t1 => cases t1 with
      | cons h2 t2 => cases t2 with
        | cons h3 t3 => cases t3 with
          | nil =>
            cases h1; cases h2; cases h3
            exact ⟨_, _, _, q⟩
  · exact h.elim
theorem RepIs.grow {N N' : AS} (g : ∀ b, N' b → N b) : ∀ {vs : List V} {its : List Itm}, RepIs K N H vs its → RepIs K N' H vs its
  | [], [], _ => trivial
  | v :: vs, .inl d :: is, h => ⟨Dr.grow h.1 fun b z => .inl (g b z), RepIs.grow g h.2⟩
  | v :: vs, .inr (b, l) :: is, h => by
    obtain ⟨⟨rfl, ws, q, al⟩, h2⟩ := h
    exact ⟨⟨rfl, ws, q, al.grow fun b z => .inl (g b z)⟩, RepIs.grow g h2⟩
theorem w_ret {t : TE} {m : ME} (s : SE K E t m) : SS K E (tRet t) (sRet m) := fun A B ρ H σ R M D hm L => by
  refine s A B ρ H σ R _ _ _ hm (fun r v H1 e1 rr h => ?_) (L.exE R)
  have b1 := R.bvE e1
  cases r with
  | d x => exact L.rt (.d x) v H1 b1 (Dr.grow rr fun a z => .inl (.inl z)) h
  | strm a => exact h.elim
  | new a l =>
    obtain ⟨rfl, n, nm, vs, q, al⟩ := rr
    exact L.rt (.new a l) _ H1 b1 ⟨rfl, .inl (untracked R.bv n), fun z => nm (.inl z), vs, q, al.grow fun b z => .inl (z.imp (fun y => .inl y) id)⟩ h
  | bor a l => exact h.elim
  | tp a its =>
    obtain ⟨rfl, na, nw, nd, vs, q, al⟩ := rr
    exact L.rt (.tp a its) _ H1 b1 ⟨rfl, fun z => na (.inl z), fun b hb => ⟨.inl (untracked R.bv (nw b hb).1), fun z => (nw b hb).2 (.inl z)⟩, nd, vs, q, al.grow fun b z => z.imp (fun y => .inl y) id⟩ h
/-- return of a name that owns its list -/
def sRetO (i : Nat) : MS := fun ρ M => match ρ[i]? with
  | some (some (.own a l)) => M.rt (.new a l)
  | _ => False
theorem w_retO {i : Nat} : SS K E (tRet (tVar i)) (sRetO i) := fun A B ρ H σ R M D hm L => by
  unfold sRetO at hm
  split at hm
  · rename_i a l hi
    obtain ⟨v, hv, rfl, vs, q, al⟩ := R.at_ i _ hi
    have nA : ¬ A a := R.na i _ a hi rfl fun b z => by cases z
    refine ⟨_, hv, L.rt (.new a l) _ H R.bv ⟨rfl, ?_, nA, vs, q, al.grow fun b z => .inl ?_⟩ hm⟩
    · rcases R.fr i _ a hi rfl with q | ⟨⟨b, q⟩, _⟩ | ⟨_, q⟩
      · exact .inl q
      · cases q
      · exact .inr q
    · rcases z with z | rfl
      · exact .inl z
      · exact .inr ⟨_, at_mem hi, rfl⟩
  · exact hm.elim
theorem w_drop {t : TE} {m : ME} (s : SE K E t m) : SS K E (tDrop t) (sDrop m) := fun A B ρ H σ R M D hm L =>
  s A B ρ H σ R _ _ _ hm (fun r v H1 e1 rr h => L.nx _ _ _ (R.evo e1) h) (L.exE R)
end
end DL

set_option Elab.async false
set_option linter.all false
set_option maxRecDepth 100000
set_option maxHeartbeats 2000000
/-! defs and calls over data -/
namespace DL
open PySem L2 He
abbrev MF := List Sl → KD → KX → Prop
def Sa (as : List Sl) : AS := fun a => Sl.strm a ∈ as
def ArgR (K : PySem.W.Frag) (A : AS) (H : Hp) (v : V) : Sl → Prop
  | .d x => Dr K A H v x
  | .strm a => v = .ref a ∧ IsStrm H a ∧ A a
  | _ => False
def ArgsR (K : PySem.W.Frag) (A : AS) (H : Hp) : List V → List Sl → Prop
  | [], [] => True
  | v :: vs, s :: ss => ArgR K A H v s ∧ ArgsR K A H vs ss
  | _, _ => False
def strms : List Sl → List Addr
  | [] => []
  | .strm a :: l => a :: strms l
  | _ :: l => strms l
abbrev noF : AS := fun _ => False
/-- a def's promise: what its mirror says -/
def spD (K : PySem.W.Frag) (n : Nat) (m : MF) : Sp := fun vs H Q X => ∃ (A : AS) (as : List Sl), vs.length = n ∧ ArgsR K A H vs as ∧ (∀ a, A a → H a ≠ none) ∧ (strms as).Nodup ∧ ∃ (Qd : KD) (Ed : KX), m as Qd Ed ∧
  (∀ r v H', Evo (Sa as) H H' → RetR K A ⟨H, Sa as, noF⟩ H' v r → Qd r → Q v H') ∧ (∀ x c d H', Evo (Sa as) H H' → RepX K A H' c d x → Ed x → X c d H')
def envOf (N : Nat) (as : List Sl) : Env := as.map some ++ List.replicate (N - as.length) none
def mDef (N : Nat) (m : MS) : MF := fun as Qd Ed => m (envOf N as) ⟨fun _ => Qd (.d .non), Qd, fun _ => False, fun _ => False, Ed⟩
/-- a def that raises nothing -/
def mDef0 (N : Nat) (m : MS) : MF := fun as Qd _ => m (envOf N as) ⟨fun _ => Qd (.d .non), Qd, fun _ => False, fun _ => False, fun _ => False⟩
section
variable {K : PySem.W.Frag} {A : AS} {H : Hp}
theorem ArgsR.len : ∀ {vs : List V} {as : List Sl}, ArgsR K A H vs as → vs.length = as.length
  | [], [], _ => rfl
  | _ :: _, _ :: _, ⟨_, b⟩ => congrArg Nat.succ (ArgsR.len b)
theorem ArgsR.at_ : ∀ {vs : List V} {as : List Sl}, ArgsR K A H vs as → ∀ {i : Nat} {s : Sl}, as[i]? = some s → ∃ v, vs[i]? = some v ∧ ArgR K A H v s
  | [], [], _, i, s, h => by simp at h
  | v :: vs, s :: ss, ⟨a, b⟩, 0, s', h => by
    simp only [List.getElem?_cons_zero, Option.some.injEq] at h
    subst h
    exact ⟨v, rfl, a⟩
  | v :: vs, s :: ss, ⟨a, b⟩, i + 1, s', h => by
    simp only [List.getElem?_cons_succ] at h ⊢
    exact b.at_ h
theorem env_at {N : Nat} {as : List Sl} {i : Nat} {s : Sl} (h : (envOf N as)[i]? = some (some s)) : as[i]? = some s := by
  unfold envOf at h
  by_cases c : i < as.length
  · rw [List.getElem?_append_left (by rw [List.length_map]; exact c), List.getElem?_map] at h
    cases e : as[i]? with
    | none => rw [e] at h; cases h
    | some t => rw [e] at h; cases h; rfl
  · rw [List.getElem?_append_right (by rw [List.length_map]; omega), List.getElem?_replicate] at h
    split at h <;> cases h
theorem strms_mem : ∀ {as : List Sl} {a : Addr}, a ∈ strms as ↔ Sl.strm a ∈ as
  | [], a => by simp [strms]
  | .strm b :: l, a => by
    unfold strms
    rw [List.mem_cons, List.mem_cons, strms_mem]
    constructor
    · rintro (rfl | h)
      · exact .inl rfl
      · exact .inr h
    · rintro (h | h)
      · cases h; exact .inl rfl
      · exact .inr h
  | .d x :: l, a => by
    unfold strms
    rw [List.mem_cons, strms_mem]
    exact ⟨.inr, fun h => h.resolve_left fun z => by cases z⟩
  | .own b x :: l, a => by
    unfold strms
    rw [List.mem_cons, strms_mem]
    exact ⟨.inr, fun h => h.resolve_left fun z => by cases z⟩
  | .dct b x y :: l, a => by
    unfold strms
    rw [List.mem_cons, strms_mem]
    exact ⟨.inr, fun h => h.resolve_left fun z => by cases z⟩
  | .exc b x y :: l, a => by
    unfold strms
    rw [List.mem_cons, strms_mem]
    exact ⟨.inr, fun h => h.resolve_left fun z => by cases z⟩
  | .self b x y z :: l, a => by
    unfold strms
    rw [List.mem_cons, strms_mem]
    exact ⟨.inr, fun h => h.resolve_left fun z => by cases z⟩
theorem strms_apart : ∀ {as : List Sl}, (strms as).Nodup → ∀ {i j : Nat} {a : Addr}, as[i]? = some (.strm a) → as[j]? = some (.strm a) → i = j
  | [], _, i, j, a, h, _ => by simp at h
  | s :: l, nd, 0, 0, a, _, _ => rfl
  | s :: l, nd, 0, j + 1, a, h, k => by
    simp only [List.getElem?_cons_zero, Option.some.injEq, List.getElem?_cons_succ] at h k
    subst h
    unfold strms at nd
    exact absurd (strms_mem.mpr (List.mem_of_getElem? k)) (List.nodup_cons.mp nd).1
  | s :: l, nd, i + 1, 0, a, h, k => by
    simp only [List.getElem?_cons_zero, Option.some.injEq, List.getElem?_cons_succ] at h k
    subst k
    unfold strms at nd
    exact absurd (strms_mem.mpr (List.mem_of_getElem? h)) (List.nodup_cons.mp nd).1
  | s :: l, nd, i + 1, j + 1, a, h, k => by
    simp only [List.getElem?_cons_succ] at h k
    have nd' : (strms l).Nodup := by
      cases s <;> unfold strms at nd <;> first | exact (List.nodup_cons.mp nd).2 | exact nd
    rw [strms_apart nd' h k]
/-- the state at the entry -/
theorem rep_start {N : List Str} {vs : List V} {as : List Sl} (r : ArgsR K A H vs as) (l : vs.length ≤ N.length) (amb : ∀ a, A a → H a ≠ none) (nd : (strms as).Nodup) : RepS K A ⟨H, Sa as, noF⟩ (envOf N.length as) H (L2.start N vs) := by
  have sl : ∀ (i : Nat) s a, (envOf N.length as)[i]? = some (some s) → s.addr = some a → s = .strm a ∧ A a ∧ IsStrm H a ∧ as[i]? = some s := fun i s a hi ha => by
    have h1 := env_at hi
    obtain ⟨v, _, q⟩ := r.at_ h1
    cases s with
    | d x => cases ha
    | strm b => cases ha; exact ⟨rfl, q.2.2, q.2.1, h1⟩
    | own b x => exact q.elim
    | self b x y z => exact q.elim
    | exc b x y => exact q.elim
    | dct b x y => exact q.elim
  have mA : ∀ a, Mo A (envOf N.length as) a → A a ∨ H a = none := fun a z => by
    rcases z with z | ⟨s, hs, ea⟩
    · exact .inl z
    · obtain ⟨i, hi⟩ := mem_at hs
      exact .inl (sl i s a hi ea).2.1
  refine ⟨?_, fun i s hi => ?_, fun i j s t a hi hj ea eb => ?_, amb, fun i s a hi ea ns => absurd (sl i s a hi ea).1 (ns a), ⟨fun _ _ _ _ e => e, fun a ha => ?_, fun _ z => z.elim, fun a ha => ?_, fun _ z => z.elim⟩, fun i s a hi ea => .inr (.inl ⟨⟨a, (sl i s a hi ea).1⟩, ?_⟩)⟩
  · have := r.len
    unfold L2.start envOf
    rw [List.length_append, List.length_append, List.length_map, List.length_map, List.length_replicate, List.length_replicate]
    omega
  · have h1 := env_at hi
    obtain ⟨v, hv, q⟩ := r.at_ h1
    have hlt : i < vs.length := (List.getElem?_eq_some_iff.mp hv).1
    refine ⟨v, ?_, ?_⟩
    · unfold L2.start
      rw [List.getElem?_append_left (by rw [List.length_map]; exact hlt), List.getElem?_map, hv]
      rfl
    · cases s with
      | d x => exact Dr.grow q mA
      | strm b => exact ⟨q.1, q.2.1⟩
      | own b x => exact q.elim
      | self b x y z => exact q.elim
      | exc b x y => exact q.elim
      | dct b x y => exact q.elim
  · obtain ⟨rfl, _, _, h1⟩ := sl i s a hi ea
    obtain ⟨rfl, _, _, h2⟩ := sl j t a hj eb
    exact strms_apart nd h1 h2
  · obtain ⟨i, hi⟩ := List.mem_iff_getElem?.mp (show Sl.strm a ∈ as from ha)
    obtain ⟨v, _, q⟩ := r.at_ hi
    exact q.2.1
  · obtain ⟨i, hi⟩ := List.mem_iff_getElem?.mp (show Sl.strm a ∈ as from ha)
    obtain ⟨v, _, q⟩ := r.at_ hi
    exact q.2.1.some
  · obtain ⟨rfl, _, _, h1⟩ := sl i s a hi ea
    exact List.mem_of_getElem? h1
theorem bv_evo {as : List Sl} {H' : Hp} (b : Bv ⟨H, Sa as, noF⟩ H') : Evo (Sa as) H H' := ⟨fun a o n e => b.keep a o n (fun z => z.elim) e, fun a s _ => b.strm a s⟩
/-- THE RULE: a def's promise from its body's -/
theorem d_read {N : List Str} {n : Nat} {t : TS} {m : MS} {vs : List V} {Q : VK} {X : XK} (s : SS K X t m) (hn : n ≤ N.length) (z : spD K n (mDef N.length m) vs H Q X) : t { nx := fun _ H' => Q .non H', rt := Q } (L2.start N vs) H := by
  obtain ⟨A, as, l, r, amb, nd, Qd, Ed, hm, k, kx⟩ := z
  refine s A _ _ H _ (rep_start r (by omega) amb nd) _ _ hm ⟨fun ρ H' σ R h => k (.d .non) .non H' (bv_evo R.bv) .non h, fun r v H' b rr h => k r v H' (bv_evo b) rr h, fun _ _ _ _ h => h.elim, fun _ _ _ _ h => h.elim, fun x c d H' b rx h => kx x c d H' (bv_evo b) rx h⟩
theorem d_read0 {N : List Str} {n : Nat} {t : TS} {m : MS} {vs : List V} {Q : VK} {X : XK} (s : SS K E0 t m) (hn : n ≤ N.length) (z : spD K n (mDef0 N.length m) vs H Q X) : t { nx := fun _ H' => Q .non H', rt := Q } (L2.start N vs) H := by
  obtain ⟨A, as, l, r, amb, nd, Qd, Ed, hm, k, kx⟩ := z
  refine s A _ _ H _ (rep_start r (by omega) amb nd) _ _ hm ⟨fun ρ H' σ R h => k (.d .non) .non H' (bv_evo R.bv) .non h, fun r v H' b rr h => k r v H' (bv_evo b) rr h, fun _ _ _ _ h => h.elim, fun _ _ _ _ h => h.elim, fun x c d H' b rx h => h.elim⟩
theorem sp_len {n : Nat} {m : MF} {vs : List V} {Q : VK} {X : XK} (z : spD K n m vs H Q X) : vs.length = n := z.choose_spec.choose_spec.1
end
/-! calls -/
def Rv.arg : Rv → Option Sl
  | .d x => some (.d x) | .strm a => some (.strm a) | .new _ l => some (.d (.lst l)) | .tp _ its => some (.d (.tup (its.map itD))) | .bor _ _ => none
def argsOf : List Rv → Option (List Sl)
  | [] => some []
  | r :: rs => match r.arg, argsOf rs with
    | some x, some l => some (x :: l)
    | _, _ => none
def fCall (m : MF) (rs : List Rv) (Q : KD) (Ed : KX) : Prop := match argsOf rs with
  | some as => (strms as).Nodup ∧ m as Q Ed
  | none => False
section
variable {K : PySem.W.Frag} {M S : AS} {H0 H H' : Hp} {E : XK}
theorem args_rep (w : Wf M S H) : ∀ {vs : List V} {rs : List Rv} {as : List Sl}, RepRs K M S H0 H vs rs → argsOf rs = some as → ArgsR K M H vs as ∧ ∀ a, Sa as a → S a
  | [], [], _, _, e => by cases e; exact ⟨trivial, fun a h => by cases h⟩
  | v :: vs, r :: rs, as, ⟨a, b⟩, e => by
    unfold argsOf at e
    split at e
    · rename_i x l e1 e2
      cases e
      obtain ⟨ih, st⟩ := args_rep w b e2
      refine ⟨⟨?_, ih⟩, fun c hc => ?_⟩
      · cases r with
        | d y => cases e1; exact a
        | strm y => cases e1; exact ⟨a.1, a.2.2, w.sm _ a.2.1⟩
        | new y z => cases e1; exact a.dr rfl
        | tp y z => cases e1; exact a.flat
        | bor y z => cases e1
      · rcases List.mem_cons.mp hc with rfl | hc
        · cases r with
          | d y => cases e1
          | strm y => cases e1; exact a.2.1
          | new y z => cases e1
          | tp y z => cases e1
          | bor y z => cases e1
        · exact st c hc
    · cases e
theorem ret_rep {as : List Sl} {v : V} {r : Rv} (h : RetR K M ⟨H, Sa as, noF⟩ H' v r) : RepR K M S H H' v r := by
  cases r with
  | d x => exact h
  | new a l =>
    obtain ⟨rfl, n, nm, z⟩ := h
    exact ⟨rfl, n.resolve_right fun y => y, nm, z⟩
  | strm a => exact h.elim
  | bor a l => exact h.elim
  | tp a its =>
    obtain ⟨rfl, na, nw, nd, z⟩ := h
    exact ⟨rfl, na, fun b hb => ⟨(nw b hb).1.resolve_right fun y => y, (nw b hb).2⟩, nd, z⟩
/-- a call's values -/
theorem s_call {n : Nat} {m : MF} {X : XK} {vs : List V} {rs : List Rv} {Qd : KD} {Ed : KX} {Q : VK} (hn : vs.length = n) (w : Wf M S H) (rr : RepRs K M S H0 H vs rs) (hf : fCall m rs Qd Ed) (k : ∀ z u H', Evo S H H' → RepR K M S H H' u z → Qd z → Q u H')
    (kx : ∀ x c d H', Evo S H H' → RepX K M H' c d x → Ed x → X c d H') : spD K n m vs H Q X := by
  unfold fCall at hf
  split at hf
  · rename_i as e
    obtain ⟨ar, st⟩ := args_rep w rr e
    have up : ∀ H', Evo (Sa as) H H' → Evo S H H' := fun H' e => e.mono st fun a s => by
      by_cases c : Sa as a
      · exact .inl c
      · exact .inr (w.st a s)
    exact ⟨M, as, hn, ar, w.mo, hf.1, Qd, Ed, hf.2, fun r v H' e' q => k r v H' (up H' e') (ret_rep q), fun x c d H' e' => kx x c d H' (up H' e')⟩
  · exact hf.elim
/-- a call that lets what is raised through -/
theorem l_callX {n : Nat} {m : MF} {w : TA} {ma : MA} (s : SA K E n w ma) : SE K E (tCall (spD K n m) [] E w) (eN (fCall m) ma) := fun A B ρ H σ R Qd Ed Q hm k kx => by
  refine s A B ρ H σ R _ Ed _ hm (fun rs vs H1 e1 r1 l hm1 => ?_) kx
  show spD K n m (vs ++ []) H1 Q E
  rw [List.append_nil]
  exact s_call l (R.wf.evo e1) r1 hm1 (fun z u H' e' rz => k z u H' (e1.trans e') (rz.up fun a z => e1.free R.strm z)) fun x c d H' e' => kx x c d H' (e1.trans e')
/-- a call of what raises nothing -/
def eCall0 (m : MF) (ma : MA) : ME := fun ρ Q Ed => ma ρ (fun rs => fCall m rs Q fun _ => False) Ed
theorem l_call {n : Nat} {m : MF} {w : TA} {ma : MA} (s : SA K E n w ma) : SE K E (tCall (spD K n m) [] E0 w) (eCall0 m ma) := fun A B ρ H σ R Qd Ed Q hm k kx => by
  refine s A B ρ H σ R _ Ed _ hm (fun rs vs H1 e1 r1 l hm1 => ?_) kx
  show spD K n m (vs ++ []) H1 Q E0
  rw [List.append_nil]
  exact s_call l (R.wf.evo e1) r1 hm1 (fun z u H' e' rz => k z u H' (e1.trans e') (rz.up fun a z => e1.free R.strm z)) fun x c d H' e' _ h => h.elim
end
end DL

set_option Elab.async false
set_option linter.all false
set_option maxRecDepth 100000
set_option maxHeartbeats 2000000
/-! loops, comprehensions, lists that grow -/
namespace DL
open PySem L2 He
def Keep (M : AS) (H H' : Hp) : Prop := ∀ a o, ¬ M a → H a = some o → H' a = some o
/-- J walks over l: what it gives, whatever happened since -/
structure Yl (K : PySem.W.Frag) (M : AS) (J : It) (l : List D) (H1 : Hp) : Prop where
  ex : ∃ (G : Hp → Prop) (Y : Nat → Hp → V → Hp → Prop), Walk J l.length G Y ∧ (∀ H', Keep M H1 H' → G H') ∧
    ∀ (i : Nat) H' v H'', i < l.length → Keep M H1 H' → Y i H' v H'' → Same H' H'' ∧ ∃ x, l[i]? = some x ∧ ∀ M' : AS, (∀ a, M' a → M a ∨ H1 a = none) → (∀ a, M' a → H' a ≠ none) → Dr K M' H'' v x
abbrev MI := Env → (List D → Prop) → KX → Prop
def SI (K : PySem.W.Frag) (E : XK) (wi : TI) (it : MI) : Prop :=
  ∀ A B ρ H σ, RepS K A B ρ H σ → ∀ (Kd : List D → Prop) (Ed : KX) (R : It → Hp → Prop), it ρ Kd Ed → (∀ l J H1, Evo (Ss ρ) H H1 → Yl K (Mo A ρ) J l H1 → Kd l → R J H1) →
    (∀ x c d H', Evo (Ss ρ) H H' → RepX K (Mo A ρ) H' c d x → Ed x → E c d H') → wi σ H R
abbrev MG := D → Env → (Env → Prop) → Prop
/-- a target: the slots ts are set -/
def SG (K : PySem.W.Frag) (ts : List Nat) (g : TG) (tg : MG) : Prop :=
  ∀ A B ρ H σ, RepS K A B ρ H σ → ∀ v x, Dr K (Mo A ρ) H v x → ∀ (Kd : Env → Prop) (Q : St → Hp → Prop), tg x ρ Kd →
    (∀ ρ' σ', RepS K A B ρ' H σ' → (∀ vs, (∀ i ∈ ts, i ∈ vs) → wipe σ' vs = wipe σ vs) → (∀ (j : Nat), j ∉ ts → ρ'[j]? = ρ[j]?) → (∀ (j : Nat) s, j ∈ ts → ρ'[j]? = some (some s) → s.addr = none) → Kd ρ' → Q σ' H) → g v σ H Q
def gSet (i : Nat) : MG := fun x ρ Kd => Kd (ρ.set i (some (.d x)))
def gSets (is : List Nat) : MG := fun x ρ Kd => match x with
  | .tup l => go is l ρ Kd
  | _ => False
where go : List Nat → List D → Env → (Env → Prop) → Prop
  | [], [], ρ, Kd => Kd ρ
  | i :: is, x :: l, ρ, Kd => go is l (ρ.set i (some (.d x))) Kd
  | _, _, _, _ => False
theorem wipe_set (σ : St) (i : Nat) (o : Option V) : ∀ vs : List Nat, wipe (σ.set i o) vs = if i ∈ vs then wipe σ vs else (wipe σ vs).set i o
  | [] => by rw [if_neg (by simp)]; rfl
  | v :: vs => by
    unfold wipe
    rw [wipe_set σ i o vs]
    by_cases c : i = v
    · subst c
      rw [if_pos List.mem_cons_self]
      split
      · rfl
      · rw [List.set_set]
    · by_cases d : i ∈ vs
      · rw [if_pos d, if_pos (List.mem_cons_of_mem _ d)]
      · rw [if_neg d, if_neg (by simp [c, d]), List.set_comm _ _ c]
section
variable {K : PySem.W.Frag} {A : AS} {B : Bd} {ρ : Env} {H H' H0 H1 : Hp} {σ : St} {E : XK}
theorem g_name {i : Nat} : SG K [i] (gName i) (gSet i) := fun A B ρ H σ R v x h Kd Q hk k =>
  k _ _ (R.setD h) (fun vs hv => by rw [wipe_set, if_pos (hv i (by simp))]) (fun j hj => by rw [List.getElem?_set_ne (fun z => hj (by simp [z]))]) (fun j s hj hs => by
    rcases get_set hs with ⟨_, q⟩ | ⟨n, _⟩
    · cases q; rfl
    · exact absurd (by simpa using hj) n) hk
/-- tuples of names -/
def SGs (K : PySem.W.Frag) (is : List Nat) (g : TGs) : Prop :=
  ∀ A B ρ H σ, RepS K A B ρ H σ → ∀ vs l, DrL K (Mo A ρ) H vs l → ∀ (Kd : Env → Prop) (Q : St → Hp → Prop), gSets.go is l ρ Kd →
    (∀ ρ' σ', RepS K A B ρ' H σ' → (∀ ws, (∀ i ∈ is, i ∈ ws) → wipe σ' ws = wipe σ ws) → (∀ (j : Nat), j ∉ is → ρ'[j]? = ρ[j]?) → (∀ (j : Nat) s, j ∈ is → ρ'[j]? = some (some s) → s.addr = none) → Kd ρ' → Q σ' H) → g vs σ H Q
theorem gs_nil : SGs K [] gNil := fun A B ρ H σ R vs l al Kd Q hk k => by
  cases al with
  | nil => exact ⟨rfl, k ρ σ R (fun _ _ => rfl) (fun _ _ => rfl) (fun j s hj => by cases hj) hk⟩
  | cons _ _ => exact hk.elim
theorem gs_cons {i : Nat} {is : List Nat} {g : TGs} (s : SGs K is g) : SGs K (i :: is) (gCons (gName i) g) := fun A B ρ H σ R vs l al Kd Q hk k => by
  cases al with
  | nil => exact hk.elim
  | cons h t =>
    rename_i v x vs l
    refine ⟨v, vs, rfl, ?_⟩
    have R1 := R.setD (i := i) h
    have sub : ∀ a, Mo A (ρ.set i (some (.d x))) a → Mo A ρ a ∨ H a = none := fun a z => by
      rcases mo_set z with q | ⟨t, q, e⟩
      · exact .inl q
      · cases q; cases e
    refine s A B _ H _ R1 vs l (t.grow sub) Kd Q hk fun ρ' σ' R' w f fd h => k ρ' σ' R' (fun ws hw => ?_) (fun j hj => ?_) (fun j s hj hs => ?_) h
    · rw [w ws fun j hj => hw j (List.mem_cons_of_mem _ hj), wipe_set, if_pos (hw i List.mem_cons_self)]
    · rw [f j fun z => hj (List.mem_cons_of_mem _ z), List.getElem?_set_ne fun z => hj (by rw [z]; exact List.mem_cons_self)]
    · by_cases c : j ∈ is
      · exact fd j s c hs
      · rw [f j c] at hs
        rcases List.mem_cons.mp hj with rfl | z
        · rcases get_set hs with ⟨_, q⟩ | ⟨n, _⟩
          · cases q; rfl
          · exact absurd rfl n
        · exact absurd z c
theorem g_tup {is : List Nat} {g : TGs} {n : Nat} (s : SGs K is g) (hn : is.length = n) : SG K is (gTup K n g) (gSets is) := fun A B ρ H σ R v x h Kd Q hk k => by
  cases x with
  | tup l =>
    obtain ⟨a, vs, rfl, q, al⟩ := Dr.sqt h
    have ll : ∀ (is : List Nat) (l : List D) ρ, gSets.go is l ρ Kd → l.length = is.length := by
      intro is
      induction is with
      | nil => intro l ρ h; cases l with
        | nil => rfl
        | cons _ _ => exact h.elim
      | cons i is ih => intro l ρ h; cases l with
        | nil => exact h.elim
        | cons x l => exact congrArg Nat.succ (ih l _ h)
    exact ⟨a, vs, rfl, q, by rw [al.length, ll is l ρ hk, hn], s A B ρ H σ R vs l al Kd Q hk k⟩
  | _ => exact hk.elim
/-! what is walked -/
def itS (m : ME) : MI := fun ρ Kd Ed => m ρ (fun r => match r with
  | .d (.lst l) => Kd l
  | .new _ l => Kd l
  | _ => False) Ed
def itT (m : ME) : MI := fun ρ Kd Ed => m ρ (fun r => match r with
  | .d (.tup l) => Kd l
  | _ => False) Ed
theorem keep_dr {M M' : AS} {v : V} {x : D} (h : Dr K M H1 v x) (kp : Keep M H1 H') (g : ∀ a, M' a → M a ∨ H1 a = none) : Dr K M' H' v x := Dr.go (S := M) (fun _ z => z) kp g h
theorem yl_list {a : Addr} {vs : List V} {l : List D} {M : AS} (q : H1 a = some (.lst vs)) (n : ¬ M a) (al : DrL K M H1 vs l) : Yl K M (Itl K a) l H1 := by
  refine ⟨_, _, by rw [← al.length]; exact walk_list, fun H' kp => SqL.of (kp _ _ n q), fun i H' v H'' hi kp y => ?_⟩
  obtain ⟨rfl, hv⟩ := y
  obtain ⟨x, hx, r⟩ := al.get hv
  exact ⟨Same.refl _, x, hx, fun M' g _ => keep_dr r kp g⟩
theorem i_list {t : TE} {m : ME} (s : SE K E t m) : SI K E (iList K t) (itS m) := fun A B ρ H σ R Kd Ed Rk hm k kx => by
  refine s A B ρ H σ R _ Ed _ hm (fun r v H1 e1 rr h => ?_) kx
  split at h
  · rename_i l
    cases rr with
    | lst q n al => exact ⟨_, rfl, ⟨_, SqL.of q⟩, k l _ H1 e1 (yl_list q n al) h⟩
  · rename_i a l
    obtain ⟨rfl, n, nm, vs, q, al⟩ := rr
    exact ⟨_, rfl, ⟨_, SqL.of q⟩, k l _ H1 e1 (yl_list q nm (al.grow fun b z => .inl (.inl z))) h⟩
  · exact h.elim
theorem yl_tup {a : Addr} {vs : List V} {l : List D} {M : AS} (h : Dr K M H1 (.ref a) (.tup l)) : Yl K M (Itt K a) l H1 ∧ ∃ xs, SqT K H1 a xs := by
  cases h with
  | tup q n al =>
    rename_i vs
    refine ⟨⟨_, _, by rw [← al.length]; exact walk_tup (xs := vs), fun H' kp => ?_, fun i H' v H'' hi kp y => ?_⟩, _, .inl q⟩
    · rcases q with q | ⟨o, q⟩
      · exact .inl (.inl (kp _ _ n q))
      · exact .inl (.inr ⟨o, kp _ _ n q⟩)
    · obtain ⟨rfl, hv⟩ := y
      obtain ⟨x, hx, r⟩ := al.get hv
      exact ⟨Same.refl _, x, hx, fun M' g _ => keep_dr r kp g⟩
  | tupW q al =>
    rename_i vs
    refine ⟨⟨_, _, by rw [← al.length]; exact walk_tup (xs := vs), fun H' kp => q H', fun i H' v H'' hi kp y => ?_⟩, _, q H1⟩
    obtain ⟨rfl, hv⟩ := y
    obtain ⟨x, hx, r⟩ := al.get hv
    exact ⟨Same.refl _, x, hx, fun M' g _ => keep_dr r kp g⟩
theorem i_tup {t : TE} {m : ME} (s : SE K E t m) : SI K E (iTup K t) (itT m) := fun A B ρ H σ R Kd Ed Rk hm k kx => by
  refine s A B ρ H σ R _ Ed _ hm (fun r v H1 e1 rr h => ?_) kx
  split at h
  · rename_i l
    obtain ⟨a, vs, rfl, q, al⟩ := Dr.sqt rr
    obtain ⟨y, z⟩ := yl_tup (vs := vs) rr
    exact ⟨_, rfl, z, k l _ H1 e1 y h⟩
  · exact h.elim
def upInts (lo : Int) (n : Nat) : List D := (List.range n).map fun i => .int (lo + (i : Nat))
theorem yl_rng {lo : Int} {n : Nat} {M : AS} : Yl K M (Itr lo n) (upInts lo n) H1 := by
  have ln : (upInts lo n).length = n := by unfold upInts; rw [List.length_map, List.length_range]
  refine ⟨_, _, by rw [ln]; exact walk_range, fun _ _ => trivial, fun i H' v H'' hi kp y => ?_⟩
  obtain ⟨rfl, rfl⟩ := y
  refine ⟨Same.refl _, .int (lo + i), ?_, fun M' _ _ => .int _⟩
  unfold upInts
  rw [ln] at hi
  rw [List.getElem?_map, List.getElem?_range hi]
  rfl
def itR1 (m : MA) : MI := fun ρ Kd Ed => m ρ (fun rs => match rs with
  | [.d (.int j)] => (-(2 ^ 62) ≤ j ∧ j < 2 ^ 62) ∧ Kd (upInts 0 j.toNat)
  | _ => False) Ed
def itR2 (m : MA) : MI := fun ρ Kd Ed => m ρ (fun rs => match rs with
  | [.d (.int i), .d (.int j)] => (-(2 ^ 62) ≤ i ∧ i < 2 ^ 62 ∧ -(2 ^ 62) ≤ j ∧ j < 2 ^ 62) ∧ Kd (upInts i (j - i).toNat)
  | _ => False) Ed
theorem i_rng1 {w : TA} {m : MA} {n : Nat} (s : SA K E n w m) : SI K E (iRng1 w) (itR1 m) := fun A B ρ H σ R Kd Ed Rk hm k kx => by
  refine s A B ρ H σ R _ Ed _ hm (fun rs vs H1 e1 rr l h => ?_) kx
  split at h
  · rename_i j
    obtain ⟨v, rfl, r⟩ := RepRs.one rr
    cases r
    exact ⟨j, rfl, h.1.1, h.1.2, k _ _ H1 e1 yl_rng h.2⟩
  · exact h.elim
theorem i_rng2 {w : TA} {m : MA} {n : Nat} (s : SA K E n w m) : SI K E (iRng2 w) (itR2 m) := fun A B ρ H σ R Kd Ed Rk hm k kx => by
  refine s A B ρ H σ R _ Ed _ hm (fun rs vs H1 e1 rr l h => ?_) kx
  split at h
  · rename_i i j
    obtain ⟨v, w, rfl, r, q⟩ := RepRs.two rr
    cases r
    cases q
    exact ⟨i, j, rfl, h.1, k _ _ H1 e1 yl_rng h.2⟩
  · exact h.elim
/-! for -/
def forD (tg : MG) (body : MS) (M : ED) : List D → Env → Prop
  | [], ρ => M.nx ρ
  | x :: l, ρ => tg x ρ fun ρ1 => body ρ1 { M with nx := forD tg body M l, ct := forD tg body M l, bk := M.nx }
def sFor (it : MI) (tg : MG) (body : MS) : MS := fun ρ M => it ρ (fun l => forD tg body M l ρ) M.ex
/-- a stretch of its own, from here -/
def inner (ρ : Env) (H : Hp) : Bd := ⟨H, Ss ρ, fun a => ∃ s, some s ∈ ρ ∧ s.addr = some a ∧ ∀ b, s ≠ .strm b⟩
theorem RepS.inner (R : RepS K A B ρ H σ) : RepS K A (inner ρ H) ρ H σ :=
  ⟨R.len, R.at_, R.apart, R.amb, R.na, ⟨fun _ _ _ _ e => e, R.strm, fun a ⟨s, h, e, _⟩ => R.mo a (.inr ⟨s, h, e⟩), fun a h => (R.strm a h).some, fun a ⟨s, h, e, n⟩ z => by
      obtain ⟨i, hi⟩ := mem_at h
      obtain ⟨j, hj⟩ := mem_at z
      have := R.apart i j _ _ a hi hj e rfl
      subst this
      rw [hi] at hj
      cases hj
      exact n a rfl⟩, fun i s a hi e => .inr (by
      cases s with
      | d x => cases e
      | strm b => cases e; exact .inl ⟨⟨_, rfl⟩, at_mem hi⟩
      | own b l => exact .inr ⟨fun c z => (by cases z), _, at_mem hi, e, fun c z => (by cases z)⟩
      | self b c n l => exact .inr ⟨fun c z => (by cases z), _, at_mem hi, e, fun c z => (by cases z)⟩
      | exc b c n => cases e
      | dct b c n => exact .inr ⟨fun c z => (by cases z), _, at_mem hi, e, fun c z => (by cases z)⟩)⟩
theorem bv_out (R : RepS K A B ρ H σ) (b : Bv (DL.inner ρ H) H') : Bv B H' where
  keep a o n1 n2 e := by
    refine b.keep a o (fun z => ?_) (fun z => ?_) (R.bv.keep a o n1 n2 e)
    · rcases ss_fr R a z with q | q
      · rw [q] at e; cases e
      · exact n1 q
    · obtain ⟨s, h, ea, ns⟩ := z
      obtain ⟨i, hi⟩ := mem_at h
      rcases R.fr i s a hi ea with q | ⟨⟨c, q⟩, _⟩ | ⟨_, q⟩
      · rw [q] at e; cases e
      · exact ns c q
      · exact n2 q
  strm a s := by
    by_cases c : Ss ρ a
    · exact b.strm a c
    · obtain ⟨p, q, r, e⟩ := R.bv.strm a s
      refine ⟨p, q, r, b.keep a _ c (fun z => ?_) e⟩
      obtain ⟨t, h, ea, ns⟩ := z
      obtain ⟨i, hi⟩ := mem_at h
      rcases R.fr i t a hi ea with q | ⟨⟨c, q⟩, _⟩ | ⟨_, q⟩
      · exact R.bv.s0 a s q
      · exact ns c q
      · exact R.bv.sf a q s
  f0 a f := fun z => R.bv.f0 a f (untracked b z)
  s0 := R.bv.s0
  sf := R.bv.sf
theorem RepS.outer {ρ' : Env} {σ' : St} (R : RepS K A B ρ H σ) (R' : RepS K A (DL.inner ρ H) ρ' H' σ') : RepS K A B ρ' H' σ' :=
  ⟨R'.len, R'.at_, R'.apart, R'.amb, R'.na, bv_out R R'.bv, fun i s a hi ea => by
    rcases R'.fr i s a hi ea with q | ⟨x, q⟩ | ⟨x, t, h, e, ns⟩
    · exact .inl (untracked R.bv q)
    · rcases ss_fr R a q with y | y
      · exact .inl y
      · exact .inr (.inl ⟨x, y⟩)
    · obtain ⟨j, hj⟩ := mem_at h
      rcases R.fr j t a hj e with y | ⟨⟨c, y⟩, _⟩ | ⟨_, y⟩
      · exact .inl y
      · exact absurd y (ns c)
      · exact .inr (.inr ⟨x, y⟩)⟩
theorem ret_out {v : V} {r : Rv} (R : RepS K A B ρ H σ) (h : RetR K A (DL.inner ρ H) H' v r) : RetR K A B H' v r := by
  cases r with
  | d x => exact h
  | new a l =>
    obtain ⟨e, f, z⟩ := h
    refine ⟨e, ?_, z⟩
    rcases f with q | ⟨t, h, ea, ns⟩
    · exact .inl (untracked R.bv q)
    · obtain ⟨j, hj⟩ := mem_at h
      rcases R.fr j t a hj ea with y | ⟨⟨c, y⟩, _⟩ | ⟨_, y⟩
      · exact .inl y
      · exact absurd y (ns c)
      · exact .inr y
  | strm a => exact h.elim
  | tp a its =>
    obtain ⟨e, na, nw, z⟩ := h
    refine ⟨e, na, fun b hb => ⟨?_, (nw b hb).2⟩, z⟩
    rcases (nw b hb).1 with q | ⟨t, h, ea, ns⟩
    · exact .inl (untracked R.bv q)
    · obtain ⟨j, hj⟩ := mem_at h
      rcases R.fr j t b hj ea with y | ⟨⟨c, y⟩, _⟩ | ⟨_, y⟩
      · exact .inl y
      · exact absurd y (ns c)
      · exact .inr y
  | bor a l => exact h.elim
/-- what stays within a stretch -/
theorem keep_in {ρ' : Env} {σ' : St} (R' : RepS K A (DL.inner ρ H) ρ' H' σ') : Keep (Mo A ρ) H H' := fun a o n e =>
  R'.bv.keep a o (fun z => n (ss_mo a z)) (fun ⟨s, h, ea, _⟩ => n (.inr ⟨s, h, ea⟩)) e
theorem grow_in {ρ' : Env} {σ' : St} (R' : RepS K A (DL.inner ρ H) ρ' H' σ') (a : Addr) (h : Mo A ρ' a) : Mo A ρ a ∨ H a = none := by
  rcases h with h | ⟨s, hs, ea⟩
  · exact .inl (.inl h)
  · obtain ⟨i, hi⟩ := mem_at hs
    rcases R'.fr i s a hi ea with q | ⟨_, q⟩ | ⟨_, t, h, e, _⟩
    · exact .inr q
    · exact .inl (ss_mo a q)
    · exact .inl (.inr ⟨t, h, e⟩)
theorem RepS.same {H' : Hp} (R : RepS K A B ρ H σ) (s : Same H H') : RepS K A B ρ H' σ := R.evo (Evo.of s)
theorem w_for {wi : TI} {it : MI} {g : TG} {ts : List Nat} {tg : MG} {tb : TS} {m : MS} (si : SI K E wi it) (sg : SG K ts g tg) (sb : SS K E tb m) : SS K E (tFor wi g tb) (sFor it tg m) := fun A B ρ H σ R M D hm L => by
  refine si A B ρ H σ R _ _ _ hm (fun l J H1 e1 yl h => ?_) (L.exE R)
  have R1 := R.evo e1
  obtain ⟨G, Y, wk, kG, kY⟩ := yl.ex
  refine for_it wk (fun j σ' H' => ∃ ρ', RepS K A (DL.inner ρ H1) ρ' H' σ' ∧ forD tg m M (l.drop j) ρ') ⟨ρ, R1.inner, by rw [List.drop_zero]; exact h⟩ (fun j σ' H' _ ⟨ρ', R', _⟩ => kG H' (keep_in R')) ?_ ?_
  · rintro j v σ' H' H'' hj ⟨ρ', R', hd⟩ y
    obtain ⟨sm, x, hx, dr⟩ := kY j H' v H'' hj (keep_in R') y
    rw [List.drop_eq_getElem_cons hj] at hd
    have ex : l[j] = x := by rw [List.getElem?_eq_getElem hj] at hx; exact Option.some.inj hx
    rw [ex] at hd
    have R2 := R'.same sm
    refine sg A _ ρ' H'' σ' R2 v x (dr _ (grow_in R') (fun a z => R'.mo a z)) _ _ hd fun ρ2 σ2 R3 _ _ _ hb => ?_
    refine sb A _ ρ2 H'' σ2 R3 _ _ hb ⟨fun ρ3 H3 σ3 R4 h => ⟨ρ3, R4, h⟩, fun r u H3 b rr h => L.rt r u H3 (bv_out R1 b) (ret_out R1 rr) h, fun ρ3 H3 σ3 R4 h => L.nx ρ3 H3 σ3 (R1.outer R4) h, fun ρ3 H3 σ3 R4 h => ⟨ρ3, R4, h⟩, fun x c d H3 b rx h => L.ex x c d H3 (bv_out R1 b) rx h⟩
  · rintro σ' H' ⟨ρ', R', hd⟩
    rw [List.drop_length] at hd
    exact L.nx ρ' H' σ' (R1.outer R') hd
end
end DL

set_option Elab.async false
set_option linter.all false
set_option maxRecDepth 100000
set_option maxHeartbeats 2000000
/-! comprehensions; lists that grow -/
namespace DL
open PySem L2 He
def wipeD (ρ : Env) : List Nat → Env
  | [] => ρ
  | v :: vs => (wipeD ρ vs).set v none
/-- the comprehension's own names stand for nothing that changes -/
def clean (ρ : Env) (vs : List Nat) : Prop := ∀ i ∈ vs, match ρ[i]? with
  | some (some (.d _)) => True
  | some (some _) => False
  | _ => True
def lcD (tg : MG) (ct : MT) (me : ME) (ρ : Env) (K : List D → Prop) : List D → List D → Prop
  | [], out => K out
  | x :: l, out => tg x ρ fun ρ1 => ct ρ1 (fun b => if b = true then me ρ1 (fun r => match r.data with
      | some y => out.length < 1000000 ∧ lcD tg ct me ρ K l (out ++ [y])
      | none => False) (fun _ => False) else lcD tg ct me ρ K l out) fun _ => False
def eLc (it : MI) (tg : MG) (ct : MT) (me : ME) (vs : List Nat) : ME := fun ρ Q Ed => it ρ (fun l => clean ρ vs ∧ ∀ a, lcD tg ct me (wipeD ρ vs) (fun out => Q (.new a out)) l []) Ed
def tYesD : MT := fun _ Q _ => Q true
section
variable {K : PySem.W.Frag} {A : AS} {B : Bd} {ρ : Env} {H H' H0 H1 : Hp} {σ : St} {E : XK}
theorem l_yes : ST K E tYes tYesD := fun A B ρ H σ R Qd Ed Q hm k kx => k true H (Evo.refl _ _) hm
theorem wipe_get {j : Nat} {s : Sl} : ∀ {vs : List Nat}, (wipeD ρ vs)[j]? = some (some s) → ρ[j]? = some (some s) ∧ j ∉ vs
  | [], h => ⟨h, by simp⟩
  | v :: vs, h => by
    unfold wipeD at h
    rw [List.getElem?_set] at h
    split at h
    · split at h <;> cases h
    · rename_i n
      obtain ⟨h1, h2⟩ := wipe_get h
      exact ⟨h1, by simp only [List.mem_cons, not_or]; exact ⟨fun z => n z.symm, h2⟩⟩
theorem wipe_keep {j : Nat} : ∀ {vs : List Nat}, j ∉ vs → (wipeD ρ vs)[j]? = ρ[j]?
  | [], _ => rfl
  | v :: vs, h => by
    unfold wipeD
    simp only [List.mem_cons, not_or] at h
    rw [List.getElem?_set_ne (fun z => h.1 z.symm), wipe_keep h.2]
theorem wipe_keepS {j : Nat} : ∀ {vs : List Nat}, j ∉ vs → (wipe σ vs)[j]? = σ[j]?
  | [], _ => rfl
  | v :: vs, h => by
    unfold wipe
    simp only [List.mem_cons, not_or] at h
    rw [List.getElem?_set_ne (fun z => h.1 z.symm), wipe_keepS h.2]
theorem wipeD_length : ∀ vs : List Nat, (wipeD ρ vs).length = ρ.length
  | [] => rfl
  | v :: vs => by unfold wipeD; rw [List.length_set, wipeD_length vs]
theorem mo_wipe {vs : List Nat} {a : Addr} (h : Mo A (wipeD ρ vs) a) : Mo A ρ a := by
  rcases h with h | ⟨s, hs, ea⟩
  · exact .inl h
  · obtain ⟨i, hi⟩ := mem_at hs
    exact .inr ⟨s, at_mem (wipe_get hi).1, ea⟩
theorem mo_clean {vs : List Nat} (c : clean ρ vs) {a : Addr} (h : Mo A ρ a) : Mo A (wipeD ρ vs) a := by
  rcases h with h | ⟨s, hs, ea⟩
  · exact .inl h
  · obtain ⟨i, hi⟩ := mem_at hs
    have n : i ∉ vs := fun z => by
      have := c i z
      rw [hi] at this
      cases s with
      | d x => cases ea
      | _ => exact this.elim
    exact .inr ⟨s, at_mem (i := i) (by rw [wipe_keep n]; exact hi), ea⟩
theorem ss_wipe {vs : List Nat} {a : Addr} (h : Ss (wipeD ρ vs) a) : Ss ρ a := by
  obtain ⟨i, hi⟩ := mem_at h
  exact at_mem (wipe_get hi).1
theorem ss_clean {vs : List Nat} (c : clean ρ vs) {a : Addr} (h : Ss ρ a) : Ss (wipeD ρ vs) a := by
  obtain ⟨i, hi⟩ := mem_at h
  have n : i ∉ vs := fun z => by
    have := c i z
    rw [hi] at this
    exact this
  exact at_mem (i := i) (by rw [wipe_keep n]; exact hi)
theorem RepS.wipe {vs : List Nat} (R : RepS K A B ρ H σ) : RepS K A B (wipeD ρ vs) H (L2.wipe σ vs) :=
  ⟨by rw [wipeD_length, wipe_length, R.len], fun i s hi => by
    obtain ⟨h1, h2⟩ := wipe_get hi
    obtain ⟨v, hv, r⟩ := R.at_ i s h1
    exact ⟨v, by rw [wipe_keepS h2]; exact hv, r.go (S := fun _ => False) (fun _ z => z.elim) (fun _ _ _ z => z) (fun _ z => z.elim) (fun a z => .inl (mo_wipe z)) (fun _ _ _ z => z)⟩,
   fun i j s t a hi hj => R.apart i j s t a (wipe_get hi).1 (wipe_get hj).1, R.amb, fun i s a hi => R.na i s a (wipe_get hi).1, R.bv, fun i s a hi => R.fr i s a (wipe_get hi).1⟩
abbrev plus (A : AS) (D : Addr) : AS := fun a => A a ∨ a = D
theorem mo_plus {D a : Addr} : Mo (plus A D) ρ a ↔ (Mo A ρ a ∨ a = D) := by
  constructor
  · rintro ((h | h) | h)
    · exact .inl (.inl h)
    · exact .inr h
    · exact .inl (.inr h)
  · rintro ((h | h) | h)
    · exact .inl (.inl h)
    · exact .inr h
    · exact .inl (.inr h)
/-- with a new list at D beside -/
theorem RepS.comp {D : Addr} (R : RepS K A B ρ H1 σ) (n : H1 D = none) (e : Evo (Ss ρ) H1 H') (t : H' D ≠ none) : RepS K (plus A D) B ρ H' σ := by
  have R' := R.evo e
  refine ⟨R.len, fun i s hi => ?_, R.apart, fun a h => h.elim (R'.amb a) fun z => by rw [z]; exact t, fun i s a hi ea ns h => h.elim (R.na i s a hi ea ns) fun z => ?_, R'.bv, R.fr⟩
  · obtain ⟨v, hv, r⟩ := R.at_ i s hi
    refine ⟨v, hv, r.go ss_mo e.keep e.strm (fun a z => (mo_plus.mp z).imp id fun y => by rw [y]; exact n) fun a ha ns hS => ?_⟩
    obtain ⟨j, hj⟩ := mem_at hS
    have := R.apart i j s _ a hi hj ha rfl
    subst this
    rw [hi] at hj
    cases hj
    exact ns a rfl
  · subst z
    exact R.mo a (.inr ⟨s, at_mem hi, ea⟩) n
theorem wipe_at (j : Nat) : ∀ vs : List Nat, (L2.wipe σ vs)[j]? = if j ∈ vs then (σ[j]?).map (fun _ => none) else σ[j]?
  | [] => by rw [if_neg (by simp)]; rfl
  | v :: vs => by
    show ((L2.wipe σ vs).set v none)[j]? = _
    rw [List.getElem?_set, wipe_length, wipe_at j vs]
    by_cases c : v = j
    · subst c
      rw [if_pos rfl, if_pos List.mem_cons_self]
      split
      · rename_i h
        rw [List.getElem?_eq_getElem h]
        rfl
      · rename_i h
        rw [List.getElem?_eq_none (by omega)]
        rfl
    · rw [if_neg c]
      have : j ∈ v :: vs ↔ j ∈ vs := ⟨fun h => (List.mem_cons.mp h).resolve_left fun z => c z.symm, List.mem_cons_of_mem _⟩
      simp only [this]
theorem wipe_wipe {vs : List Nat} : L2.wipe (L2.wipe σ vs) vs = L2.wipe σ vs := by
  refine List.ext_getElem? fun j => ?_
  rw [wipe_at, wipe_at]
  split
  · cases σ[j]? <;> rfl
  · rfl
theorem l_lc {wi : TI} {it : MI} {g : TG} {ts vs : List Nat} {tg : MG} {tt : TT} {ct : MT} {te : TE} {me : ME} (si : SI K E wi it) (sg : SG K ts g tg) (hts : ∀ i ∈ ts, i ∈ vs) (sc : ST K E0 tt ct) (se : SE K E0 te me) : SE K E (tLc wi g tt te vs) (eLc it tg ct me vs) := fun A B ρ H σ R Qd Ed Q hm k kx => by
  refine si A B ρ H σ R _ _ _ hm (fun l J H1 e1 yl h => ?_) kx
  obtain ⟨cl, h⟩ := h
  have R1 := R.evo e1
  obtain ⟨G, Y, wk, kG, kY⟩ := yl.ex
  intro D nD
  have wf1 := R1.wf
  have nDH : H D = none := e1.free R.strm nD
  have nM : ¬ Mo A ρ D := fun z => R.mo _ z nDH
  have nS : ¬ Ss ρ D := fun z => nM (ss_mo _ z)
  refine lc_it wk (fun j H' => Evo (Ss ρ) H1 H' ∧ ∃ us out, H' D = some (.lst us) ∧ DrL K (plus (Mo A ρ) D) H' us out ∧ lcD tg ct me (wipeD ρ vs) (fun out => Qd (.new D out)) (l.drop j) out)
    ⟨Evo.of (new_same nD), [], [], upd_same, .nil, by rw [List.drop_zero]; exact h D⟩ (fun j H' _ z => kG H' fun a o n q => z.1.keep a o (fun y => n (ss_mo a y)) q) ?_ ?_
  · rintro j v H2 H3 hj ⟨e2, us, out, qD, al, hd⟩ y
    obtain ⟨sm, x, hx, dr⟩ := kY j H2 v H3 hj (fun a o n q => e2.keep a o (fun y => n (ss_mo a y)) q) y
    rw [List.drop_eq_getElem_cons hj] at hd
    have ex : l[j] = x := by rw [List.getElem?_eq_getElem hj] at hx; exact Option.some.inj hx
    rw [ex] at hd
    have R2 : RepS K (plus A D) B (wipeD ρ vs) H2 (L2.wipe σ vs) := (R1.comp nD e2 (by rw [qD]; simp)).wipe
    have R3 := R2.same sm
    have toM : ∀ a, Mo (plus A D) (wipeD ρ vs) a → Mo A ρ a ∨ H1 a = none := fun a z => (mo_plus.mp z).elim (fun y => .inl (mo_wipe y)) fun y => .inr (by rw [y]; exact nD)
    refine sg (plus A D) B _ H3 _ R3 v x (dr _ toM (fun a z => R2.mo a z)) _ _ hd fun ρ4 σ4 R4 hw hk hdt h4 => ⟨by rw [hw vs hts, wipe_wipe], ?_⟩
    have sS : ∀ a, Ss ρ4 a → Ss ρ a := fun a z => by
      obtain ⟨i, hi⟩ := mem_at z
      by_cases c : i ∈ ts
      · exact absurd (hdt i _ c hi) (by simp [Sl.addr])
      · rw [hk i c] at hi
        exact ss_wipe (at_mem hi)
    have e13 : Evo (Ss ρ) H1 H3 := e2.trans (Evo.of sm)
    have up : ∀ {X Y : Hp}, Evo (Ss ρ) H1 X → Evo (Ss ρ4) X Y → Evo (Ss ρ) X Y := fun {X Y} e1' e' => e'.mono sS fun a s => .inr (e1'.strm a s (R1.strm a s))
    have toM2 : ∀ a, plus (Mo A ρ) D a → Mo (plus A D) ρ4 a := fun a z => by
      rcases z with z | rfl
      · rcases mo_clean cl z with z | ⟨s, hs, ea⟩
        · exact .inl (.inl z)
        · obtain ⟨i, hi⟩ := mem_at hs
          have n : i ∉ ts := fun y => (wipe_get hi).2 (hts i y)
          exact .inr ⟨s, at_mem (i := i) (by rw [hk i n]; exact hi), ea⟩
      · exact .inl (.inr rfl)
    refine sc (plus A D) B ρ4 H3 σ4 R4 _ _ _ h4 (fun b H5 e5 h5 => ?_) (fun _ _ _ _ _ _ z => z.elim)
    have e35 := up e13 e5
    have e15 := e13.trans e35
    have e25 : Evo (Ss ρ) H2 H5 := (Evo.of sm).trans e35
    have qD5 := e25.keep _ _ nS qD
    have al5 : DrL K (plus (Mo A ρ) D) H5 us out := al.evo (fun a s => .inl (ss_mo a s)) e25
    cases b with
    | false => exact iteF ⟨e15, us, out, qD5, al5, h5⟩
    | true =>
      refine iteT (se (plus A D) B ρ4 H5 σ4 (R4.evo e5) _ _ _ h5 (fun r u H6 e6 rr h6 => ?_) (fun _ _ _ _ _ _ z => z.elim))
      split at h6
      · rename_i z hz
        have e56 := up e15 e6
        have qD6 := e56.keep _ _ nS qD5
        have al6 : DrL K (plus (Mo A ρ) D) H6 us out := al5.evo (fun a s => .inl (ss_mo a s)) e56
        have dz : Dr K (plus (Mo A ρ) D) H6 u z := Dr.grow (rr.dr hz) fun a z => .inl (toM2 a z)
        have kp : ∀ (o : HO) (a : Addr) (o' : HO), ¬ (a = D) → H6 a = some o' → upd H6 D o a = some o' := fun o a o' n q => by rw [upd_ne n]; exact q
        refine ⟨us, qD6, ?_, ⟨fun a o n q => ?_, fun a s q => ?_⟩, us ++ [u], out ++ [z], upd_same, ?_, h6.2⟩
        · rw [al6.length]
          exact Nat.lt_of_lt_of_le h6.1 (by decide)
        · rw [upd_ne (fun z => by rw [z, nD] at q; cases q)]
          exact e56.keep a o n (e15.keep a o n q)
        · obtain ⟨c1, c2, c3, q'⟩ := e56.strm a s (e15.strm a s q)
          exact ⟨c1, c2, c3, by rw [upd_ne (fun z => nS (by rw [← z]; exact s))]; exact q'⟩
        · exact DrL.append (al6.go (S := fun a => a = D) (fun a z => .inr z) (kp _) fun _ z => .inl z) (.cons (Dr.go (S := fun a => a = D) (fun a z => .inr z) (kp _) (fun _ z => .inl z) dz) .nil)
      · exact h6.elim
  · rintro H2 ⟨e2, us, out, qD, al, hd⟩
    rw [List.drop_length] at hd
    refine k (.new D out) _ H2 (e1.trans e2) ⟨rfl, nDH, nM, us, qD, al⟩ hd
end
end DL

set_option Elab.async false
set_option linter.all false
set_option maxRecDepth 100000
set_option maxHeartbeats 2000000
/-! lists that grow; objects made; methods; what is raised; isinstance -/
namespace DL
open PySem L2 He
section
variable {K : PySem.W.Frag} {A : AS} {B : Bd} {ρ : Env} {H H' H0 H1 : Hp} {σ : St} {E : XK}
/-! what a name owns is changed -/
theorem RepS.upd {i : Nat} {a : Addr} {s s' : Sl} {o : HO} (R : RepS K A B ρ H σ) (hi : ρ[i]? = some (some s)) (ea : s.addr = some a) (ns : ∀ b, s ≠ .strm b) (ea' : s'.addr = some a) (ns' : ∀ b, s' ≠ .strm b)
    (h : ∀ v, RepSl K (Mo A ρ) H v s → RepSl K (Mo A ρ) (L2.upd H a o) v s') : RepS K A B (ρ.set i (some s')) (L2.upd H a o) σ := by
  have kp : ∀ (b : Addr) (u : HO), ¬ (b = a) → H b = some u → L2.upd H a o b = some u := fun b u n q => by rw [upd_ne n]; exact q
  have ma : Mo A ρ a := .inr ⟨s, at_mem hi, ea⟩
  have tr : H a ≠ none := R.mo a ma
  have nS : ¬ Ss ρ a := fun z => by
    obtain ⟨j, hj⟩ := mem_at z
    have := R.apart i j _ _ a hi hj ea rfl
    subst this
    rw [hi] at hj
    cases hj
    exact ns a rfl
  have sub : ∀ b, Mo A (ρ.set i (some s')) b → Mo A ρ b := fun b z => by
    rcases mo_set z with q | ⟨t, q, e⟩
    · exact q
    · cases q
      rw [ea'] at e
      cases e
      exact ma
  have some_of : ∀ b, H b ≠ none → L2.upd H a o b ≠ none := fun b z => by
    by_cases c : b = a
    · rw [c, upd_same]; simp
    · rw [upd_ne c]; exact z
  refine ⟨by rw [List.length_set]; exact R.len, fun j t hj => ?_, fun j k t u b hj hk eb ec => ?_, fun b z => some_of b (R.amb b z), fun j t b hj eb nb => ?_, ⟨fun b u n1 n2 e => ?_, fun b z => ?_, fun b z => some_of b (R.bv.f0 b z), R.bv.s0, R.bv.sf⟩, fun j t b hj eb => ?_⟩
  · rcases get_set hj with ⟨rfl, q⟩ | ⟨m, q⟩
    · cases q
      obtain ⟨v, hv, r⟩ := R.at_ j s hi
      exact ⟨v, hv, (h v r).go (S := fun _ => False) (fun _ z => z.elim) (fun _ _ _ z => z) (fun _ z => z.elim) (fun b z => .inl (sub b z)) (fun _ _ _ z => z)⟩
    · obtain ⟨v, hv, r⟩ := R.at_ j t q
      have nb : ∀ b, t.addr = some b → ¬ (b = a) := fun b hb z => m (R.apart j i t s b q hi hb (by rw [z]; exact ea))
      refine ⟨v, hv, ?_⟩
      have gg : ∀ b, Mo A (ρ.set i (some s')) b → Mo A ρ b ∨ H b = none := fun b z => .inl (sub b z)
      have hs : ∀ b, b = a → Mo A ρ b := fun b z => by rw [z]; exact ma
      cases t with
      | d x => exact Dr.go (S := fun b => b = a) hs kp gg r
      | strm c => obtain ⟨e1, p1, p2, p3, e2⟩ := r; exact ⟨e1, p1, p2, p3, kp _ _ (nb c rfl) e2⟩
      | own c l => obtain ⟨e1, vs, e2, al⟩ := r; exact ⟨e1, vs, kp _ _ (nb c rfl) e2, al.go (S := fun b => b = a) hs kp gg⟩
      | self c n l k => obtain ⟨e1, dx, vs, e2, e3, al⟩ := r; exact ⟨e1, dx, vs, kp _ _ (nb c rfl) e2, e3, al.go (S := fun b => b = a) hs kp gg⟩
      | exc c d x => exact ⟨r.1, r.2.go (S := fun b => b = a) hs kp gg⟩
      | dct c ks ds => obtain ⟨e1, vs, e2, e3, al⟩ := r; exact ⟨e1, vs, kp _ _ (nb c rfl) e2, e3, al.go (S := fun b => b = a) hs kp gg⟩
  · have key : ∀ {j : Nat} {t : Sl} {b : Addr}, (ρ.set i (some s'))[j]? = some (some t) → t.addr = some b → ∃ u, ρ[j]? = some (some u) ∧ u.addr = some b := fun {j t b} hj eb => by
      rcases get_set hj with ⟨rfl, q⟩ | ⟨m, q⟩
      · cases q
        rw [ea'] at eb
        cases eb
        exact ⟨s, hi, ea⟩
      · exact ⟨t, q, eb⟩
    obtain ⟨t', h1, h2⟩ := key hj eb
    obtain ⟨u', h3, h4⟩ := key hk ec
    exact R.apart j k t' u' b h1 h3 h2 h4
  · rcases get_set hj with ⟨rfl, q⟩ | ⟨m, q⟩
    · cases q
      rw [ea'] at eb
      cases eb
      exact R.na j s a hi ea ns
    · exact R.na j t b q eb nb
  · have : b ≠ a := fun z => by
      subst z
      rcases R.fr i s b hi ea with q | ⟨⟨c, q⟩, _⟩ | ⟨_, q⟩
      · rw [q] at e; cases e
      · exact ns c q
      · exact n2 q
    rw [upd_ne this]
    exact R.bv.keep b u n1 n2 e
  · have : b ≠ a := fun y => by
      subst y
      rcases R.fr i s b hi ea with q | ⟨⟨c, q⟩, _⟩ | ⟨_, q⟩
      · exact R.bv.s0 b z q
      · exact ns c q
      · exact R.bv.sf b q z
    obtain ⟨p, q, r, e⟩ := R.bv.strm b z
    exact ⟨p, q, r, by rw [upd_ne this]; exact e⟩
  · rcases get_set hj with ⟨rfl, q⟩ | ⟨m, q⟩
    · cases q
      rw [ea'] at eb
      cases eb
      rcases R.fr j s a hi ea with q | ⟨⟨c, q⟩, _⟩ | ⟨_, q⟩
      · exact .inl q
      · exact absurd q (ns c)
      · exact .inr (.inr ⟨ns', q⟩)
    · exact R.fr j t b q eb
/-- x.append(e) of a name's own list -/
def sApp (i : Nat) (m : ME) : MS := fun ρ M => match ρ[i]? with
  | some (some (.own a l)) => m ρ (fun r => match r.data with
    | some x => l.length < 1000000 ∧ M.nx (ρ.set i (some (.own a (l ++ [x]))))
    | none => False) M.ex
  | _ => False
theorem w_app {i : Nat} {t : TE} {m : ME} (s : SE K E t m) : SS K E (tDrop (tBM K "list" rAppend (tVar i) (tCons t tNil))) (sApp i m) := fun A B ρ H σ R M Dn hm L => by
  unfold sApp at hm
  split at hm
  · rename_i a l hi
    obtain ⟨v, hv, rfl, vs, q, al⟩ := R.at_ i _ hi
    refine ⟨_, hv, .inl ⟨rfl, _, SqL.of q⟩, ?_⟩
    refine s A B ρ H σ R _ _ _ hm (fun r u H1 e1 rr h => ?_) (L.exE R)
    split at h
    · rename_i x e2
      have R1 := R.evo e1
      obtain ⟨v1, hv1, rfl, vs1, q1, al1⟩ := R1.at_ i _ hi
      have dx := rr.dr e2
      refine ⟨a, vs1, u, rfl, rfl, q1, ?_, ?_⟩
      · rw [al1.length]
        exact Nat.lt_of_lt_of_le h.1 (by decide)
      · refine L.nx _ _ _ (R1.upd hi rfl (fun b z => by cases z) rfl (fun b z => by cases z) fun w hw => ?_) h.2
        obtain ⟨rfl, vs2, q2, al2⟩ := hw
        rw [q1] at q2
        cases q2
        have ma : Mo A ρ a := .inr ⟨_, at_mem hi, rfl⟩
        have kp : ∀ (b : Addr) (u' : HO), ¬ (b = a) → H1 b = some u' → L2.upd H1 a (.lst (vs1 ++ [u])) b = some u' := fun b u' n q => by rw [upd_ne n]; exact q
        exact ⟨rfl, _, upd_same, DrL.append (al1.go (S := fun b => b = a) (fun b z => by rw [z]; exact ma) kp fun _ z => .inl z) (.cons (Dr.go (S := fun b => b = a) (fun b z => by rw [z]; exact ma) kp (fun _ z => .inl z) dx) .nil)⟩
    · exact h.elim
  · exact hm.elim
/-- from here on a list is no name's own -/
def sFree (i : Nat) (m : MS) : MS := fun ρ M => match ρ[i]? with
  | some (some (.own a l)) => m (ρ.set i (some (.d (.lst l)))) M
  | some (some (.d _)) => m ρ M
  | _ => False
theorem RepS.free {i : Nat} {a : Addr} {l : List D} (R : RepS K A B ρ H σ) (hi : ρ[i]? = some (some (.own a l))) : RepS K A B (ρ.set i (some (.d (.lst l)))) H σ := by
  obtain ⟨v, hv, rfl, vs, q, al⟩ := R.at_ i _ hi
  have sub : ∀ b, Mo A (ρ.set i (some (.d (.lst l)))) b → Mo A ρ b := fun b z => by
    rcases mo_set z with q | ⟨t, q, e⟩
    · exact q
    · cases q; cases e
  have na : ¬ Mo A (ρ.set i (some (.d (.lst l)))) a := fun z => by
    rcases z with z | ⟨s, hs, ea⟩
    · exact R.na i _ a hi rfl (fun b z => by cases z) z
    · obtain ⟨j, hj⟩ := mem_at hs
      rcases get_set hj with ⟨_, q⟩ | ⟨n, q⟩
      · cases q; cases ea
      · exact n (R.apart j i s _ a q hi ea rfl)
  refine ⟨by rw [List.length_set]; exact R.len, fun j t hj => ?_, fun j k t u b hj hk eb ec => ?_, R.amb, fun j t b hj eb => ?_, R.bv, fun j t b hj eb => ?_⟩
  · rcases get_set hj with ⟨rfl, e⟩ | ⟨n, e⟩
    · cases e
      exact ⟨_, hv, Dr.lst q na (al.grow fun b z => .inl (sub b z))⟩
    · obtain ⟨u, hu, r⟩ := R.at_ j t e
      exact ⟨u, hu, r.go (S := fun _ => False) (fun _ z => z.elim) (fun _ _ _ z => z) (fun _ z => z.elim) (fun b z => .inl (sub b z)) (fun _ _ _ z => z)⟩
  · rcases get_set hj with ⟨rfl, e⟩ | ⟨_, e⟩
    · cases e; cases eb
    · rcases get_set hk with ⟨rfl, e'⟩ | ⟨_, e'⟩
      · cases e'; cases ec
      · exact R.apart j k t u b e e' eb ec
  · rcases get_set hj with ⟨rfl, e⟩ | ⟨_, e⟩
    · cases e; cases eb
    · exact R.na j t b e eb
  · rcases get_set hj with ⟨rfl, e⟩ | ⟨_, e⟩
    · cases e; cases eb
    · exact R.fr j t b e eb
theorem w_free {i : Nat} {t : TS} {m : MS} (s : SS K E t m) : SS K E t (sFree i m) := fun A B ρ H σ R M Dn hm L => by
  unfold sFree at hm
  split at hm
  · rename_i a l hi
    exact s A B _ H σ (R.free hi) M Dn hm L
  · exact s A B _ H σ R M Dn hm L
  · exact hm.elim
/-! ### what kind of thing -/
def D.kd : D → String
  | .non => "NoneType" | .bl _ => "bool" | .int _ => "int" | .str _ => "str" | .tup _ => "tuple" | .lst _ => "list" | .dic _ _ => "dict" | .scr _ => "list" | .obj c _ _ => c | .ty _ => "type"
def isObjD : D → Bool
  | .obj _ _ _ => true | _ => false
def tyD (K : PySem.W.Frag) (x : D) : Value := if isObjD x then .ref (ga K (Str.ofString x.kd)) else .type x.kd
theorem dr_ty {M : AS} {v : V} {x : D} (T : Tx K) (h : Dr K M H v x) (n : ∀ z, x ≠ .ty z) : TyX K H v (tyD K x) := by
  cases h with
  | non => exact .base .non
  | bl b => exact .base (.bl b)
  | int b => exact .base (.int b)
  | str b => exact .base (.str b)
  | ty b => exact absurd rfl (n b)
  | tup q _ _ =>
    rcases q with q | ⟨o, q⟩
    · exact .base (.tup q)
    · exact .fTuple q
  | tupW q _ =>
    rcases q H with (q | ⟨o, q⟩) | ⟨o, its, n, q, c, _⟩
    · exact .base (.tup q)
    · exact .fTuple q
    · exact .kTuple q c
  | scr q _ =>
    rcases q with q | ⟨o, q⟩
    · exact .base (.lst q)
    · exact .base (.frz q)
  | scrW q =>
    rcases q H with (q | ⟨o, q⟩) | ⟨o, its, n, q, c, _⟩
    · exact .base (.lst q)
    · exact .base (.frz q)
    · exact .kList q c
  | lst q _ _ => exact .base (.lst q)
  | obj q _ _ p _ => exact T.ty _ p.1 H _ _ _ q
  | dic q _ _ _ => exact .base (.dK q)
def Rv.any : Rv → Option D
  | .d (.ty _) => none
  | .d x => some x | .new _ l => some (.lst l) | .bor _ l => some (.lst l) | .strm _ => some (.lst []) | .tp _ its => some (.tup (its.map itD))
theorem rv_ty {M S : AS} {v : V} {r : Rv} {x : D} (T : Tx K) (h : RepR K M S H0 H v r) (e : r.any = some x) : TyX K H v (tyD K x) := by
  cases r with
  | d y =>
    have : x = y ∧ ∀ z, y ≠ .ty z := by
      cases y <;> simp [Rv.any] at e <;> subst e <;> exact ⟨rfl, fun z w => by cases w⟩
    rw [this.1]
    exact dr_ty T h this.2
  | strm a =>
    cases e
    obtain ⟨rfl, _, p, q, r, q'⟩ := h
    exact .base (.lst q')
  | new a l =>
    cases e
    obtain ⟨rfl, _, _, vs, q, _⟩ := h
    exact .base (.lst q)
  | tp a its =>
    cases e
    exact dr_ty T h.flat fun z w => by cases w
  | bor a l =>
    cases e
    obtain ⟨rfl, _, _, vs, q, _⟩ := h
    exact .base (.lst q)
def isB (t : String) (x : D) : Bool := !isObjD x && (x.kd == t || (x.kd == "bool" && t == "int"))
def isC (t : String) (x : D) : Bool := isObjD x && x.kd == t
def fIsB (ts : List String) (r : Rv) (Q : KD) (_ : KX) : Prop := match r.any with
  | some x => Q (.d (.bl (ts.any fun t => isB t x)))
  | none => False
def fIsC (t : String) (r : Rv) (Q : KD) (_ : KX) : Prop := match r.any with
  | some x => Q (.d (.bl (isC t x)))
  | none => False
theorem RepR.any_pres {M S : AS} {v : V} {r : Rv} {x : D} (h : RepR K M S H0 H v r) (e : r.any = some x) (o : isObjD x = true) : Pres K x.kd := by
  cases r with
  | d y =>
    cases y with
    | obj c ns ds =>
      cases e
      cases h with
      | obj q _ _ p _ => exact p.1
    | ty z => cases e
    | _ => cases e; exact absurd o (by simp [isObjD])
  | _ => cases e <;> exact absurd o (by simp [isObjD])
theorem kd_mem (x : D) (o : isObjD x = false) (n : ∀ z, x ≠ .ty z) : x.kd ∈ ["NoneType", "bool", "int", "str", "dict", "list", "tuple"] := by
  cases x <;> first | (simp [D.kd]; done) | (simp [isObjD] at o; done) | exact absurd rfl (n _)
theorem kit_C (T : Tx K) {M S : AS} {v : V} {r : Rv} {x : D} {t : String} (hp : Pres K t) (h : RepR K M S H0 H v r) (e : r.any = some x) : PySem.W.kitOne K (tyD K x) (.ref (ga K (Str.ofString t))) = some (isC t x) := by
  unfold tyD isC
  cases o : isObjD x with
  | true =>
    rw [if_pos rfl, Bool.true_and]
    exact T.kX _ _ (h.any_pres e o) hp
  | false =>
    rw [if_neg (by simp), Bool.false_and]
    refine T.kC _ hp _ (kd_mem x o fun z w => ?_)
    subst w
    cases r with
    | d y => cases y <;> simp [Rv.any] at e
    | _ => cases e
theorem kit_B (T : Tx K) {M S : AS} {v : V} {r : Rv} {x : D} {t : String} (ht : t ∈ ["list", "tuple", "int", "bool", "str", "dict"]) (h : RepR K M S H0 H v r) (e : r.any = some x) : PySem.W.kitOne K (tyD K x) (.type t) = some (isB t x) := by
  unfold tyD isB
  cases o : isObjD x with
  | true =>
    rw [if_pos rfl]
    exact T.kB _ (h.any_pres e o) _ ht
  | false =>
    rw [if_neg (by simp), Bool.not_false, Bool.true_and]
    have hk := kd_mem x o fun z w => by
      subst w
      cases r with
      | d y => cases y <;> simp [Rv.any] at e
      | _ => cases e
    generalize x.kd = k at hk
    clear o e h
    simp only [List.mem_cons, List.not_mem_nil, or_false] at hk ht
    rcases hk with rfl | rfl | rfl | rfl | rfl | rfl | rfl <;> rcases ht with rfl | rfl | rfl | rfl | rfl | rfl <;> exact kit_ty (by decide +kernel)
end
end DL

set_option Elab.async false
set_option linter.all false
set_option maxRecDepth 100000
set_option maxHeartbeats 2000000
/-! isinstance, objects made, methods, what is raised -/
namespace DL
open PySem L2 He
section
variable {K : PySem.W.Frag} {A : AS} {B : Bd} {ρ : Env} {H H' H0 H1 : Hp} {σ : St} {E : XK} {m m1 m2 : ME} {t1 t2 : TE}
theorem l_isC {t : String} (T : Tx K) (hp : Pres K t) (s : SE K E t1 m1) : SE K E (tCB (rIsi K) (tCons t1 (tCons (tC (.ref (ga K (Str.ofString t)))) tNil))) (eUn (fIsC t) m1) := fun A B ρ H σ R Qd Ed Q hm k kx => by
  refine s A B ρ H σ R _ Ed _ hm (fun r v H1 e1 rr h => ?_) kx
  unfold fIsC at h
  split at h
  · rename_i x e
    exact ⟨v, .ref _, _, _, _, rfl, .own _, rv_ty T rr e, kit_C T hp rr e, k (.d (.bl _)) _ _ e1 (Dr.bl _) h⟩
  · exact h.elim
theorem l_isB {t : String} (T : Tx K) (ht : t ∈ ["list", "tuple", "int", "bool", "str", "dict"]) (s : SE K E t1 m1) : SE K E (tCB (rIsi K) (tCons t1 (tCons (tC (.ty t)) tNil))) (eUn (fIsB [t]) m1) := fun A B ρ H σ R Qd Ed Q hm k kx => by
  refine s A B ρ H σ R _ Ed _ hm (fun r v H1 e1 rr h => ?_) kx
  unfold fIsB at h
  split at h
  · rename_i x e
    refine ⟨v, .ty t, _, _, _, rfl, .ty _, rv_ty T rr e, kit_B T ht rr e, k (.d (.bl _)) _ _ e1 (Dr.bl _) ?_⟩
    rw [List.any_cons, List.any_nil, Bool.or_false] at h
    exact h
  · exact h.elim
theorem l_isLT (T : Tx K) (s : SE K E t1 m1) : SE K E (tCB (rIsiT K) (tCons t1 (tCons (tTup (tCons (tC (.ty "list")) (tCons (tC (.ty "tuple")) tNil))) tNil))) (eUn (fIsB ["list", "tuple"]) m1) := fun A B ρ H σ R Qd Ed Q hm k kx => by
  refine s A B ρ H σ R _ Ed _ hm (fun r v H1 e1 rr h => ?_) kx
  unfold fIsB at h
  split at h
  · rename_i x e
    refine ⟨by show 2 ≤ sizeLine; decide, fun p hp => ?_⟩
    have e2 : Evo (Ss ρ) H1 (L2.upd H1 p (.tup [.ty "list", .ty "tuple"])) := Evo.of (new_same hp)
    have r2 := rr.evo (R.wf.evo e1) e2
    refine ⟨v, p, _, _, _, _, rfl, upd_same, .cons (.ty _) (.cons (.ty _) .nil), rv_ty T r2 e, ?_, k (.d (.bl _)) _ _ (e1.trans e2) (Dr.bl _) h⟩
    have a := kit_B T (t := "list") (by simp) r2 e
    have b := kit_B T (t := "tuple") (by simp) r2 e
    rw [List.any_cons, List.any_cons, List.any_nil, Bool.or_false]
    refine kitAny_cons a (fun z => ?_) (fun z => by rw [z, Bool.true_or])
    rw [z, Bool.false_or]
    refine kitAny_cons b (fun z => by rw [z]; rfl) (fun z => z)
  · exact h.elim
/-! ### objects made -/
abbrev MFI := List Sl → (List String → List D → Prop) → KX → Prop
structure EvI (S : AS) (x : Addr) (H H' : Hp) : Prop where
  keep : ∀ a o, ¬ S a → a ≠ x → H a = some o → H' a = some o
  strm : ∀ a, S a → IsStrm H a → IsStrm H' a
def spI (K : PySem.W.Frag) (c : String) (n : Nat) (m : MFI) : Sp := fun vs H Q X => ∃ (A : AS) (x dx : Addr) (us : List V) (as : List Sl), vs = .ref x :: us ∧ us.length = n ∧ Pres K c ∧ H x = some (.ins (ga K (Str.ofString c)) dx []) ∧ ¬ A x ∧ ArgsR K (plus A x) H us as ∧ (∀ a, A a → H a ≠ none) ∧ (∀ a, Sa as a → A a) ∧ (strms as).Nodup ∧
  ∃ (Qd : List String → List D → Prop) (Ed : KX), m as Qd Ed ∧
    (∀ ns ds ws dx' H', EvI (Sa as) x H H' → H' x = some (.ins (ga K (Str.ofString c)) dx' ((ns.map Str.ofString).zip ws)) → ws.length = ns.length → DrL K (plus A x) H' ws ds → Qd ns ds → Q .non H') ∧
    (∀ y c d H', EvI (Sa as) x H H' → RepX K A H' c d y → Ed y → X c d H')
def mInit (c : String) (N : Nat) (m : MS) : MFI := fun as Qd Ed => ∀ x, m (envOf N (Sl.self x c [] [] :: as)) ⟨fun ρ => match ρ[0]? with
  | some (some (Sl.self y c' ns ds)) => y = x ∧ c' = c ∧ Qd ns ds
  | _ => False, fun _ => False, fun _ => False, fun _ => False, Ed⟩
theorem spI_len {c : String} {n : Nat} {m : MFI} {vs : List V} {Q : VK} {X : XK} (z : spI K c n m vs H Q X) : vs.length = n + 1 := by
  obtain ⟨A, x, dx, us, as, rfl, l, _⟩ := z
  exact congrArg Nat.succ l
theorem rep_startI {N : List Str} {c : String} {x dx : Addr} {vs : List V} {as : List Sl} (hp : Pres K c) (hx : H x = some (.ins (ga K (Str.ofString c)) dx [])) (nx : ¬ A x) (r : ArgsR K (plus A x) H vs as) (l : vs.length + 1 ≤ N.length) (amb : ∀ a, A a → H a ≠ none) (sA : ∀ a, Sa as a → A a) (nd : (strms as).Nodup) :
    RepS K A ⟨H, Sa as, fun a => a = x⟩ (envOf N.length (.self x c [] [] :: as)) H (L2.start N (.ref x :: vs)) := by
  have sl : ∀ (i : Nat) s a, (envOf N.length (.self x c [] [] :: as))[i]? = some (some s) → s.addr = some a → (i = 0 ∧ s = .self x c [] [] ∧ a = x) ∨ (s = .strm a ∧ A a ∧ IsStrm H a ∧ (.self x c [] [] :: as)[i]? = some s ∧ Sa as a) := fun i s a hi ha => by
    have h1 := env_at hi
    cases i with
    | zero =>
      simp only [List.getElem?_cons_zero, Option.some.injEq] at h1
      subst h1
      cases ha
      exact .inl ⟨rfl, rfl, rfl⟩
    | succ i =>
      have h2 := h1
      simp only [List.getElem?_cons_succ] at h2
      obtain ⟨v, _, q⟩ := r.at_ h2
      cases s with
      | d x => cases ha
      | strm b => cases ha; exact .inr ⟨rfl, sA _ (List.mem_of_getElem? h2), q.2.1, h1, List.mem_of_getElem? h2⟩
      | own b x => exact q.elim
      | self b x y z => exact q.elim
      | exc b x y => exact q.elim
      | dct b x y => exact q.elim
  have mA : ∀ a, Mo A (envOf N.length (.self x c [] [] :: as)) a → plus A x a ∨ H a = none := fun a z => by
    rcases z with z | ⟨s, hs, ea⟩
    · exact .inl (.inl z)
    · obtain ⟨i, hi⟩ := mem_at hs
      rcases sl i s a hi ea with ⟨_, _, h⟩ | h
      · exact .inl (.inr h)
      · exact .inl (.inl h.2.1)
  refine ⟨?_, fun i s hi => ?_, fun i j s t a hi hj ea eb => ?_, amb, fun i s a hi ea ns z => ?_, ⟨fun _ _ _ _ e => e, fun a ha => ?_, fun a z => ?_, fun a ha => ?_, fun a z ha => ?_⟩, fun i s a hi ea => .inr ?_⟩
  · have := r.len
    unfold L2.start envOf
    rw [List.length_append, List.length_append, List.length_map, List.length_map, List.length_replicate, List.length_replicate, List.length_cons, List.length_cons]
    omega
  · have h1 := env_at hi
    cases i with
    | zero =>
      simp only [List.getElem?_cons_zero, Option.some.injEq] at h1
      subst h1
      exact ⟨.ref x, rfl, rfl, dx, [], hx, ⟨rfl, hp⟩, .nil⟩
    | succ i =>
      simp only [List.getElem?_cons_succ] at h1
      obtain ⟨v, hv, q⟩ := r.at_ h1
      have hlt : i < vs.length := (List.getElem?_eq_some_iff.mp hv).1
      refine ⟨v, ?_, ?_⟩
      · unfold L2.start
        rw [List.getElem?_append_left (by rw [List.length_map, List.length_cons]; omega), List.getElem?_map, List.getElem?_cons_succ, hv]
        rfl
      · cases s with
        | d x => exact Dr.grow q mA
        | strm b => exact ⟨q.1, q.2.1⟩
        | own b x => exact q.elim
        | self b x y z => exact q.elim
        | exc b x y => exact q.elim
        | dct b x y => exact q.elim
  · rcases sl i s a hi ea with ⟨rfl, _, rfl⟩ | ⟨rfl, ha, _, h1, _⟩
    · rcases sl j t a hj eb with ⟨rfl, _, _⟩ | ⟨_, hb, _⟩
      · rfl
      · exact absurd hb nx
    · rcases sl j t a hj eb with ⟨_, _, rfl⟩ | ⟨rfl, _, _, h2, _⟩
      · exact absurd ha nx
      · exact strms_apart (as := .self x c [] [] :: as) nd h1 h2
  · rcases sl i s a hi ea with ⟨_, _, rfl⟩ | ⟨rfl, _⟩
    · exact nx z
    · exact ns a rfl
  · obtain ⟨i, hi⟩ := List.mem_iff_getElem?.mp (show Sl.strm a ∈ as from ha)
    obtain ⟨v, _, q⟩ := r.at_ hi
    exact q.2.1
  · show H a ≠ none
    rw [show a = x from z, hx]
    simp
  · obtain ⟨i, hi⟩ := List.mem_iff_getElem?.mp (show Sl.strm a ∈ as from ha)
    obtain ⟨v, _, q⟩ := r.at_ hi
    exact q.2.1.some
  · have : a = x := z
    subst this
    exact nx (sA a ha)
  · rcases sl i s a hi ea with ⟨rfl, rfl, rfl⟩ | ⟨rfl, _, _, _, ha⟩
    · exact .inr ⟨fun b z => (by cases z), rfl⟩
    · exact .inl ⟨⟨a, rfl⟩, ha⟩
theorem bv_evI {as : List Sl} {x : Addr} (b : Bv ⟨H, Sa as, fun a => a = x⟩ H') : EvI (Sa as) x H H' := ⟨fun a o n ne e => b.keep a o n ne e, fun a s _ => b.strm a s⟩
theorem d_readI {N : List Str} {c : String} {n : Nat} {t : TS} {m : MS} {vs : List V} {Q : VK} {X : XK} (s : SS K X t m) (hn : n + 1 ≤ N.length) (z : spI K c n (mInit c N.length m) vs H Q X) : t { nx := fun _ H' => Q .non H', rt := Q } (L2.start N vs) H := by
  obtain ⟨A, x, dx, us, as, rfl, l, hp, hx, nx, r, amb, sA, nd, Qd, Ed, hm, k, kx⟩ := z
  have x0 : ∀ H', Bv ⟨H, Sa as, fun a => a = x⟩ H' → True := fun _ _ => trivial
  refine s A _ _ H _ (rep_startI hp hx nx r (by omega) amb sA nd) _ _ (hm x) ⟨fun ρ H' σ R h => ?_, fun r v H' b rr h => h.elim, fun _ _ _ _ h => h.elim, fun _ _ _ _ h => h.elim, fun y c d H' b rx h => kx y c d H' (bv_evI b) rx h⟩
  dsimp only at h
  split at h
  · rename_i a c' ns ds e
    obtain ⟨v, hv, rfl, dx', ws, q, lw, al⟩ := R.at_ 0 _ e
    obtain ⟨rfl, rfl, h⟩ := h
    exact k ns ds ws dx' H' (bv_evI R.bv) q lw.1 (al.grow fun b z => .inl (z.elim (fun y => .inl y) fun y => .inr ⟨_, at_mem e, by rw [y]; rfl⟩)) h
  · exact h.elim
end
end DL

set_option Elab.async false
set_option linter.all false
set_option maxRecDepth 100000
set_option maxHeartbeats 2000000
/-! objects made, methods, what is raised -/
namespace DL
open PySem L2 He
def okF (c : String) (ns : List String) : Bool := ns.all fun n => (fldsOf c).contains n
def fMake (c : String) (m : MFI) (dds : List D) (rs : List Rv) (Q : KD) (Ed : KX) : Prop := match argsOf rs with
  | some as => (strms as).Nodup ∧ m (as ++ dds.map .d) (fun ns ds => okF c ns = true ∧ Q (.d (.obj c ns ds))) Ed
  | none => False
section
variable {K : PySem.W.Frag} {A : AS} {B : Bd} {ρ : Env} {H H' H0 H1 : Hp} {σ : St} {E : XK} {m m1 m2 : ME} {t1 t2 : TE} {n : Nat} {w : TA} {ma : MA}
theorem argsR_d {M : AS} : ∀ {vs : List V} {ds : List D}, DrL K M H vs ds → ArgsR K M H vs (ds.map .d)
  | _, _, .nil => trivial
  | _, _, .cons h t => ⟨h, argsR_d t⟩
theorem ArgsR.app {M : AS} {us : List V} {bs : List Sl} : ∀ {vs : List V} {as : List Sl}, ArgsR K M H vs as → ArgsR K M H us bs → ArgsR K M H (vs ++ us) (as ++ bs)
  | [], [], _, d => d
  | _ :: _, _ :: _, ⟨a, b⟩, d => ⟨a, ArgsR.app b d⟩
theorem strms_d : ∀ (as : List Sl) (ds : List D), strms (as ++ ds.map .d) = strms as
  | [], [] => rfl
  | [], d :: ds => strms_d [] ds
  | .d x :: as, ds => strms_d as ds
  | .strm a :: as, ds => congrArg (a :: ·) (strms_d as ds)
  | .own _ _ :: as, ds => strms_d as ds
  | .self _ _ _ _ :: as, ds => strms_d as ds
  | .exc _ _ _ :: as, ds => strms_d as ds
  | .dct _ _ _ :: as, ds => strms_d as ds
theorem sa_d {as : List Sl} {ds : List D} {a : Addr} : Sa (as ++ ds.map .d) a ↔ Sa as a := by
  show Sl.strm a ∈ _ ↔ Sl.strm a ∈ _
  rw [← strms_mem, ← strms_mem, strms_d]
theorem ArgR.go {M M' : AS} {v : V} {s : Sl} (h : ArgR K M H v s) (sm : Same H H') (g : ∀ a, M' a → M a ∨ H a = none) (g' : ∀ a, M a → M' a) : ArgR K M' H' v s := by
  cases s with
  | d x => exact Dr.go (S := fun _ => False) (fun _ z => z.elim) (fun a o _ e => sm a o e) g h
  | strm a =>
    obtain ⟨e, ⟨p, q, r, e2⟩, ma⟩ := h
    exact ⟨e, ⟨p, q, r, sm _ _ e2⟩, g' _ ma⟩
  | _ => exact h.elim
theorem ArgsR.go {M M' : AS} (sm : Same H H') (g : ∀ a, M' a → M a ∨ H a = none) (g' : ∀ a, M a → M' a) : ∀ {vs : List V} {as : List Sl}, ArgsR K M H vs as → ArgsR K M' H' vs as
  | [], [], _ => trivial
  | _ :: _, _ :: _, ⟨a, b⟩ => ⟨a.go sm g g', ArgsR.go sm g g' b⟩
theorem made_same {C x dx : Addr} (nx : H x = none) (nd : H dx = none) : Same H (upd (upd H dx (.own x)) x (.ins C dx [])) := fun b o e => by
  rw [upd_ne (ne_of_none e nx), upd_ne (ne_of_none e nd)]
  exact e
/-- C(..) -/
theorem s_make {c : String} {mi : MFI} {dvs : List V} {dds : List D} {X : XK} {M S : AS} {vs : List V} {rs : List Rv} {Qd : KD} {Ed : KX} {Q : VK} (hp : Pres K c) (hd : ∀ M H, DrL K M H dvs dds) (hn : (vs ++ dvs).length = n) (wf : Wf M S H) (rr : RepRs K M S H0 H vs rs) (hf : fMake c mi dds rs Qd Ed)
    (k : ∀ z u H', Evo S H H' → RepR K M S H H' u z → Qd z → Q u H') (kx : ∀ x c d H', Evo S H H' → RepX K M H' c d x → Ed x → X c d H') :
    ∀ x dx, H x = none → H dx = none → dx ≠ x → spI K c n mi (.ref x :: (vs ++ dvs)) (upd (upd H dx (.own x)) x (.ins (ga K (Str.ofString c)) dx [])) (fun v H2 => v = .non ∧ Q (.ref x) H2) X := by
  intro x dx nx nd ne
  unfold fMake at hf
  split at hf
  · rename_i as e
    obtain ⟨ar, st⟩ := args_rep wf rr e
    have sm := made_same (C := ga K (Str.ofString c)) nx nd
    have ar2 : ArgsR K (plus M x) (upd (upd H dx (.own x)) x (.ins (ga K (Str.ofString c)) dx [])) (vs ++ dvs) (as ++ dds.map .d) :=
      (ar.app (argsR_d (hd M H))).go sm (fun a z => z.imp id fun y => by rw [y]; exact nx) fun a z => .inl z
    have nmx : ¬ M x := fun z => wf.mo x z nx
    have up : ∀ H', EvI (Sa (as ++ dds.map .d)) x (upd (upd H dx (.own x)) x (.ins (ga K (Str.ofString c)) dx [])) H' → Evo S H H' := fun H' e' => by
      have ee : ∀ a, Sa (as ++ dds.map .d) a → S a := fun a z => st a (sa_d.mp z)
      refine ⟨fun a o n q => e'.keep a o (fun z => n (ee a z)) (fun z => by rw [z, nx] at q; cases q) (sm a o q), fun a s q => ?_⟩
      obtain ⟨p1, p2, p3, q'⟩ := q
      by_cases z : Sa (as ++ dds.map .d) a
      · exact e'.strm a z ⟨p1, p2, p3, sm _ _ q'⟩
      · exact ⟨p1, p2, p3, e'.keep a _ z (fun y => by rw [y, nx] at q'; cases q') (sm _ _ q')⟩
    refine ⟨M, x, dx, vs ++ dvs, as ++ dds.map .d, rfl, hn, hp, upd_same, nmx, ar2, fun a z => ?_, fun a z => wf.sm a (st a (sa_d.mp z)), by rw [strms_d]; exact hf.1, _, Ed, hf.2, fun ns ds ws dx' H' e' q l al hq => ⟨rfl, ?_⟩, fun y c d H' e' => kx y c d H' (up H' e')⟩
    · have := wf.mo a z
      cases q : H a with
      | none => exact absurd q this
      | some o => rw [sm a o q]; simp
    · refine k (.d (.obj c ns ds)) _ H' (up H' e') (Dr.obj q nmx l ⟨hp, fun f hf => ?_⟩ (al.grow fun b z => .inl (.inl z))) hq.2
      have := List.all_eq_true.mp hq.1 f hf
      simpa using this
  · exact hf.elim
def eMake0 (c : String) (mi : MFI) (dds : List D) (ma : MA) : ME := fun ρ Q Ed => ma ρ (fun rs => fMake c mi dds rs Q fun _ => False) Ed
theorem l_make {c : String} {mi : MFI} {dvs : List V} {dds : List D} {j : Nat} (hp : Pres K c) (hd : ∀ M H, DrL K M H dvs dds) (s : SA K E n w ma) (hj : n + dvs.length = j) : SE K E (tMake (ga K (Str.ofString c)) (spI K c j mi) dvs E0 w) (eMake0 c mi dds ma) := fun A B ρ H σ R Qd Ed Q hm k kx => by
  refine s A B ρ H σ R _ Ed _ hm (fun rs vs H1 e1 r1 l hm1 => ?_) kx
  exact s_make hp hd (by rw [List.length_append, l]; exact hj) (R.wf.evo e1) r1 hm1 (fun z u H' e' rz => k z u H' (e1.trans e') (rz.up fun a z => e1.free R.strm z)) fun x c d H' e' _ h => h.elim
theorem l_makeX {c : String} {mi : MFI} {dvs : List V} {dds : List D} {j : Nat} (hp : Pres K c) (hd : ∀ M H, DrL K M H dvs dds) (s : SA K E n w ma) (hj : n + dvs.length = j) : SE K E (tMake (ga K (Str.ofString c)) (spI K c j mi) dvs E w) (eN (fMake c mi dds) ma) := fun A B ρ H σ R Qd Ed Q hm k kx => by
  refine s A B ρ H σ R _ Ed _ hm (fun rs vs H1 e1 r1 l hm1 => ?_) kx
  exact s_make hp hd (by rw [List.length_append, l]; exact hj) (R.wf.evo e1) r1 hm1 (fun z u H' e' rz => k z u H' (e1.trans e') (rz.up fun a z => e1.free R.strm z)) fun x c d H' e' => kx x c d H' (e1.trans e')
/-! ### self, within __init__ -/
def eFldS (i : Nat) (f : String) : ME := fun ρ Q _ => match ρ[i]? with
  | some (some (.self _ c ns ds)) => (match look f ns ds with
    | some x => (fldsOf c).contains f = true ∧ Q (.d x)
    | none => False)
  | _ => False
theorem l_fldS {i : Nat} {f : String} (T : Tx K) : SE K E (tFld K (tVar i) (Str.ofString f)) (eFldS i f) := fun A B ρ H σ R Qd Ed Q hm k kx => by
  unfold eFldS at hm
  split at hm
  · rename_i a c ns ds hi
    split at hm
    · rename_i x hx
      obtain ⟨v, hv, rfl, dx, vs, q, l, al⟩ := R.at_ i _ hi
      obtain ⟨u, hu, ru⟩ := look_at al hx
      exact ⟨_, hv, a, _, dx, _, u, rfl, q, T.cls c l.2, T.att c l.2 f (by simpa using hm.1), hu, k (.d x) _ _ (Evo.refl _ _) ru hm.2⟩
    · exact hm.elim
  · exact hm.elim
theorem putF_new {f : String} {y : V} : ∀ {ns : List String} {vs : List V}, vs.length = ns.length → f ∉ ns → putF (Str.ofString f) y ((ns.map Str.ofString).zip vs) = ((ns ++ [f]).map Str.ofString).zip (vs ++ [y])
  | [], [], _, _ => rfl
  | n :: ns, v :: vs, h, nf => by
    simp only [List.mem_cons, not_or] at nf
    show (if Str.ofString n = Str.ofString f then _ else _) = _
    rw [if_neg fun e => nf.1 (ofString_inj.mp e).symm]
    exact congrArg (List.cons (Str.ofString n, v)) (putF_new (Nat.succ.inj h) nf.2)
/-- self.f = e -/
def sFldD (i : Nat) (f : String) (m : ME) : MS := fun ρ M => m ρ (fun r => match r.data, ρ[i]? with
  | some x, some (some (.self a c ns ds)) => ns.contains f = false ∧ (fldsOf c).contains f = true ∧ ns.length < 900 ∧ M.nx (ρ.set i (some (.self a c (ns ++ [f]) (ds ++ [x]))))
  | _, _ => False) M.ex
theorem w_fld {i : Nat} {f : String} {t : TE} {m : ME} (T : Tx K) (s : SE K E t m) : SS K E (sFld K (tVar i) t (Str.ofString f)) (sFldD i f m) := fun A B ρ H σ R M Dn hm L => by
  refine s A B ρ H σ R _ _ _ hm (fun r u H1 e1 rr h => ?_) (L.exE R)
  split at h
  · rename_i x a c ns ds e2 hi
    have R1 := R.evo e1
    obtain ⟨v, hv, rfl, dx, vs, q, l, al⟩ := R1.at_ i _ hi
    have dx' := rr.dr e2
    obtain ⟨h1, h2, h3, h⟩ := h
    have nf : f ∉ ns := fun z => by
      rw [List.contains_iff_mem.mpr z] at h1
      cases h1
    refine ⟨_, hv, a, _, dx, _, rfl, q, T.cls c l.2, T.att c l.2 f (by simpa using h2), ?_, ?_⟩
    · rw [List.length_zip, List.length_map, l.1]
      omega
    · rw [putF_new l.1 nf]
      refine L.nx _ _ _ (R1.upd hi rfl (fun b z => by cases z) rfl (fun b z => by cases z) fun w hw => ?_) h
      obtain ⟨rfl, dx2, vs2, q2, l2, al2⟩ := hw
      rw [q] at q2
      have ma : Mo A ρ a := .inr ⟨_, at_mem hi, rfl⟩
      have kp : ∀ (o : HO) (b : Addr) (u' : HO), ¬ (b = a) → H1 b = some u' → L2.upd H1 a o b = some u' := fun o b u' n q => by rw [upd_ne n]; exact q
      exact ⟨rfl, dx, vs ++ [u], upd_same, ⟨by rw [List.length_append, List.length_append, l.1]; rfl, l.2⟩, DrL.append (al.go (S := fun b => b = a) (fun b z => by rw [z]; exact ma) (kp _) fun _ z => .inl z) (.cons (Dr.go (S := fun b => b = a) (fun b z => by rw [z]; exact ma) (kp _) (fun _ z => .inl z) dx') .nil)⟩
  · exact h.elim
/-! ### methods -/
def eMeth0 (c : String) (f : String) (m : MF) (mo : ME) (ma : MA) : ME := fun ρ Q Ed => mo ρ (fun r => match r with
  | .d (.obj c' ns ds) => c' = c ∧ (fldsOf c).contains f = false ∧ ma ρ (fun rs => fCall m (.d (.obj c' ns ds) :: rs) Q fun _ => False) Ed
  | _ => False) Ed
def eMethX (c : String) (f : String) (m : MF) (mo : ME) (ma : MA) : ME := fun ρ Q Ed => mo ρ (fun r => match r with
  | .d (.obj c' ns ds) => c' = c ∧ (fldsOf c).contains f = false ∧ ma ρ (fun rs => fCall m (.d (.obj c' ns ds) :: rs) Q Ed) Ed
  | _ => False) Ed
theorem not_fld {c f : String} {ns : List String} {vs : List V} (h : (fldsOf c).contains f = false) (s : ∀ n ∈ ns, n ∈ fldsOf c) : ((ns.map Str.ofString).zip vs).lookup (Str.ofString f) = none := by
  refine look_none fun z => ?_
  have := s f z
  rw [← List.contains_iff_mem, h] at this
  cases this
theorem l_meth {c f : String} {mf : MF} {j : Nat} (s1 : SE K E t1 m1) (s : SA K E n w ma) (hj : n + 1 = j) : SE K E (tMeth (ga K (Str.ofString c)) (Str.ofString f) (spD K j mf) [] E0 t1 w) (eMeth0 c f mf m1 ma) := fun A B ρ H σ R Qd Ed Q hm k kx => by
  refine s1 A B ρ H σ R _ Ed _ hm (fun r v H1 e1 r1 h => ?_) kx
  split at h
  · rename_i c' ns ds
    obtain ⟨rfl, nf, h⟩ := h
    have rr := r1
    cases r1 with
    | obj q na l p al =>
      refine ⟨_, _, _, rfl, q, not_fld nf p.2, ?_⟩
      refine s A B ρ H1 σ (R.evo e1) _ Ed _ h (fun rs vs H2 e2 r2 l2 h2 => ?_) fun x c d H' e' => kx x c d H' (e1.trans e')
      rw [List.append_nil]
      have w1 := R.wf.evo e1
      exact s_call (H0 := H1) (rs := .d (.obj c' ns ds) :: rs) (by rw [List.length_cons, l2]; exact hj) (w1.evo e2) ⟨rr.evo w1 e2, r2⟩ h2 (fun z u H' e' rz => k z u H' ((e1.trans e2).trans e') (rz.up fun a z => (e1.trans e2).free R.strm z)) fun x c d H' e' _ h => h.elim
  · exact h.elim
theorem l_methX {c f : String} {mf : MF} {j : Nat} (s1 : SE K E t1 m1) (s : SA K E n w ma) (hj : n + 1 = j) : SE K E (tMeth (ga K (Str.ofString c)) (Str.ofString f) (spD K j mf) [] E t1 w) (eMethX c f mf m1 ma) := fun A B ρ H σ R Qd Ed Q hm k kx => by
  refine s1 A B ρ H σ R _ Ed _ hm (fun r v H1 e1 r1 h => ?_) kx
  split at h
  · rename_i c' ns ds
    obtain ⟨rfl, nf, h⟩ := h
    have rr := r1
    cases r1 with
    | obj q na l p al =>
      refine ⟨_, _, _, rfl, q, not_fld nf p.2, ?_⟩
      refine s A B ρ H1 σ (R.evo e1) _ Ed _ h (fun rs vs H2 e2 r2 l2 h2 => ?_) fun x c d H' e' => kx x c d H' (e1.trans e')
      rw [List.append_nil]
      have w1 := R.wf.evo e1
      exact s_call (H0 := H1) (rs := .d (.obj c' ns ds) :: rs) (by rw [List.length_cons, l2]; exact hj) (w1.evo e2) ⟨rr.evo w1 e2, r2⟩ h2 (fun z u H' e' rz => k z u H' ((e1.trans e2).trans e') (rz.up fun a z => (e1.trans e2).free R.strm z)) fun x c d H' e' => kx x c d H' ((e1.trans e2).trans e')
  · exact h.elim
/-! ### what is raised -/
def sRaise0 (c : String) : MS := fun ρ M => M.ex ⟨c, [], []⟩
theorem w_raise0 {c : String} : SS K E (fun _ σ H => E (.ref (ga K (Str.ofString c))) none H) (sRaise0 c) := fun A B ρ H σ R M Dn hm L => L.ex _ _ _ H R.bv ⟨rfl, .inl ⟨rfl, rfl, rfl⟩⟩ hm
/-- an error class's __init__: the fields ns, as the parameters say -/
def spXI (C : Addr) (ns : List Str) : Sp := fun vs H Q _ => ∃ a us, vs = .ref a :: us ∧ us.length = ns.length ∧ H a = some (exo a C none) ∧ ∀ d, H d = none → d ≠ a → Q .non (upd (upd H d (exd d (ns.zip us).reverse)) a (exo a C (some d)))
def sRaise (c : String) (ns : List String) (ma : MA) : MS := fun ρ M => ma ρ (fun rs => match datas rs with
  | some ds => M.ex ⟨c, ns, ds⟩
  | none => False) M.ex
theorem w_raise {c : String} {ns : List String} (s : SA K E n w ma) (hn : n = ns.length) (hs : n ≤ 1000) : SS K E (fun _ σ H => tMkO (ga K (Str.ofString c)) (spXI (ga K (Str.ofString c)) (ns.map Str.ofString)) [] w σ H fun cls d H' => E cls d H') (sRaise c ns ma) := fun A B ρ H σ R M Dn hm L => by
  refine s A B ρ H σ R _ _ _ hm (fun rs vs H1 e1 rr l h => ?_) (L.exE R)
  split at h
  · rename_i ds e
    have dl := datas_dr rr e
    have R1 := R.evo e1
    refine ⟨by rw [l]; exact hs, fun a na => ?_⟩
    rw [List.append_nil]
    refine ⟨a, vs, rfl, by rw [List.length_map, l, hn], upd_same, fun d nd ne => ⟨rfl, d, ((ns.map Str.ofString).zip vs).reverse, upd_same, ?_, ?_, ?_⟩⟩
    · rw [upd_ne ne, upd_same]
    · rw [upd_ne ne] at nd
      exact nd
    · have nd' : H1 d = none := by rw [upd_ne ne] at nd; exact nd
      have sm : Same H1 (upd (del (upd (upd (upd H1 a (exo a (ga K (Str.ofString c)) none)) d (exd d ((ns.map Str.ofString).zip vs).reverse)) a (exo a (ga K (Str.ofString c)) (some d))) a) d (.xd ((ns.map Str.ofString).zip vs).reverse)) := fun b o q => by
        have n1 : b ≠ a := fun z => by rw [z, na] at q; cases q
        have n2 : b ≠ d := fun z => by rw [z, nd'] at q; cases q
        rw [upd_ne n2]
        unfold del
        rw [if_neg n1, upd_ne n1, upd_ne n2, upd_ne n1]
        exact q
      have e2 := Evo.of (S := Ss ρ) sm
      exact L.ex _ _ _ _ (R1.bvE e2) ⟨rfl, .inr ⟨d, vs, rfl, fun z => R1.mo d (.inl z) nd', upd_same, by rw [l, hn], (dl.evo (fun a z => ss_mo a z) e2).grow fun b z => .inl (.inl z)⟩⟩ h
  · exact h.elim
end
end DL

set_option Elab.async false
set_option linter.all false
set_option maxRecDepth 100000
set_option maxHeartbeats 2000000
/-! operators of a class of one's own, over the layer -/
namespace PySem.OwnOps
open PySem PySem.W PySem.Calls
section
variable {prog : Program} {w : World} {A : Around} {E : Value → Shared → Prop} {s : Shared} {K : Frag} {x C g q : Addr} {ox : Obj} {od : Option Obj}
/-- what an int's own binary method says of an instance: that it knows nothing of it -/
theorem int_knows_not {B : Builtin} {nm : String} {f : Int → Int → Sem Fin} {n : Int} {t : Tok} (hB : B = Builtin.Int.intBinary nm f) (ho : s.heap.get? x = some ox) (hp : ox.data = .plain) {Q : Fin → Shared → Prop}
    (h : Q (.done (.ret .notImplemented)) s) : wpAny (model prog w) A (B ⟨[.int n t, .ref x], []⟩) Q E s := by
  subst hB
  obtain ⟨hp', g, d, tk, os⟩ := s
  obtain ⟨oc, odd, dt, sl⟩ := ox
  dsimp only at hp
  subst hp
  unfold Builtin.Int.intBinary
  wp_walk using wpAny_load' ho
  exact h
/-- int op instance: the int's own method knows nothing of it, so the instance's reflected one is asked -/
theorem refl_int {op : Operator} {id : String} {B : Builtin} {nm : String} {f : Int → Int → Sem Fin} {n : Int} {t : Tok} {Q : Value → Shared → Prop} (X : K.In s.heap) (I : InstAt s.heap x ox C od) (hp : ox.data = .plain)
    (hc : selfFirst K C = true) (hs : findIn K (.ref C) (dunderR op.info.2) = some (some (.ref g))) (hf : isFn K (.ref g) = true)
    (hl : findIn K (.ref C) (PySem.dunder op.info.2) = some (some (.ref q)))
    (hfi : fillsNumberSlot (.type "int") op.info.2 = pure true) (slot : Slot "int" (PySem.dunder op.info.2) id) (entry : entryFor table id = some B) (args : ∀ b : Value, argsOk id ⟨[.int n t, b], []⟩)
    (hB : B = Builtin.Int.intBinary nm f)
    (hsub : subIn K (.ref C) (.type "int") = some false)
    (h : wpAny (model prog w) A (call (.ref g) [.ref x, .int n t]) (W.CmpBack Q) E s) : wpAny (model prog w) A (binaryOp op (.int n t) (.ref x)) Q E s := by
  obtain ⟨cd, rest, hcd, hm⟩ := ksp_first hc
  rcases hi : op.info with ⟨sym, nm'⟩
  rw [hi] at hs hl hfi slot
  dsimp only at hs hl hfi slot
  have one : wpAny (model prog w) A (tryMethod (.int n t) (PySem.dunder nm') (.ref x)) (fun r s' => r = none ∧ s' = s) E s := by
    unfold tryMethod
    refine wpAny_bind (wpAny_callSpecial?_slot (typeIs_int s n t) slot ?_)
    refine wpAny_call (codeAny_call_builtin slot.plain entry (slot.check _ _ _ _ _ _ _ _ (typeIs_int s n t) (args _) ?_))
    refine int_knows_not hB I.1 hp ?_
    exact wpAny_pure ⟨rfl, rfl⟩
  have two := ksp_try X I hs hf h
  obtain ⟨hh, g', d, tt, os⟩ := s
  have L1 : Looks (model prog w) hh (typeOf (.ref x)) (.ref C) := I.type
  have L2 : Looks (model prog w) hh (typeOf (.int n t)) (.type "int") := Looks.of_pure rfl
  have L3 : Looks (model prog w) hh (fillsNumberSlot (.ref C) nm') true := fills_K X hcd hm hl
  have L4 : Looks (model prog w) hh (fillsNumberSlot (.type "int") nm') true := Looks.of_pure hfi
  have L5 : Looks (model prog w) hh (isSubtype (.ref C) (.type "int")) false := looks_subIn X hsub
  have L7 : Looks (model prog w) hh (numberSlotInPython (.type "int") nm') false := Looks.of_pure rfl
  have hne : (Value.type "int" == Value.ref C) = false := Bool.eq_false_iff.mpr fun q => by cases beq_iff_eq.mp q
  simp only [binaryOp, hi]
  refine wpAny_holding (wpAny_bind ?_)
  unfold binaryOp1
  refine wpAny_bind (L2.at (wpAny_bind (L1.at (wpAny_bind (L4.at ?_)))))
  simp only [hne, Bool.false_eq_true, if_false]
  ksp_lk
  refine wpAny_mono one (fun r s' hr' => ?_) fun _ _ e => e
  obtain ⟨rfl, rfl⟩ := hr'
  ksp_lk
  refine wpAny_mono two (fun r s' hr' => ?_) fun _ _ e => e
  obtain ⟨v, rfl, hq⟩ := hr'
  ksp_lk
  exact hq
end
end PySem.OwnOps

set_option Elab.async false
set_option linter.all false
set_option maxRecDepth 100000
set_option maxHeartbeats 2000000
namespace L2
open PySem PySem.Spec PyProof.Rows
theorem backs {P : Value → Shared → Prop} {z : V} {v : Value} {s' : Shared} (r : RelV z v) (h : P v s') : PySem.W.CmpBack P v s' := by
  cases z <;> first
    | (obtain ⟨t, e⟩ := (show ∃ t, _ from r); subst e; exact h)
    | (have e := (show v = _ from r); subst e; exact h)
section
variable {X : Cx} {CX : CXT} {C g q : Addr} {fd : FuncData} {ps : List Str} {k : Nat} {sp : Sp} {E : XK}
/-- what of the class its operators ask -/
structure OwnC (K : PySem.W.Frag) (C : Addr) : Prop where
  first : PySem.W.selfFirst K C = true
  subI : PySem.W.subIn K (.type "int") (.ref C) = some false
  subC : PySem.W.subIn K (.ref C) (.type "int") = some false
/-- both are of the class -/
theorem op_same {op : Operator} (T : OwnC X.K C) (hs : PySem.W.findIn X.K (.ref C) (PySem.dunder op.info.2) = some (some (.ref g))) (hf : PySem.W.isFn X.K (.ref g) = true)
    (F : FnOk X.prog X.w X.K X.mg X.base CX k g fd ps sp) (hr : Room k X.A) (hb : Binds X.K fd ps []) (hx : Passes CX X E) :
    OpR X (binaryOp op) (fun x y H Q => ∃ a dx fs b dy gs, x = .ref a ∧ y = .ref b ∧ H a = some (.ins C dx fs) ∧ H b = some (.ins C dy gs) ∧ sp [x, y] H Q E) := by
  intro pins s σ H x y v u Q I rx ry h
  obtain ⟨a, dx, fs, b, dy, gs, rfl, rfl, ha, hb', z⟩ := h
  cases (show v = Value.ref a from rx)
  cases (show u = Value.ref b from ry)
  obtain ⟨mA, O, _⟩ := ins_get I.hok ha
  obtain ⟨od, J, _⟩ := O.look
  obtain ⟨mB, O', _⟩ := ins_get I.hok hb'
  obtain ⟨od', J', _⟩ := O'.look
  obtain ⟨m, hF⟩ := I.fr
  refine PySem.W.binop_K hF I.ok.mod.kin J J'.type T.first hs hf ?_
  refine wpAny_mono (run_fn (us := [.ref a, .ref b]) (vs := [.ref a, .ref b]) F hr hb .nil hx I (.cons rfl (.cons rfl .nil)) z) (fun w s' z => ?_) fun _ _ x => x
  obtain ⟨z', H', I', rz, qz⟩ := z
  exact backs rz ⟨z', H', I', rz, qz⟩
/-- an instance op an int -/
theorem op_instInt {op : Operator} {fo ro : Option Value} (T : OwnC X.K C) (hs : PySem.W.findIn X.K (.ref C) (PySem.dunder op.info.2) = some (some (.ref g))) (hf : PySem.W.isFn X.K (.ref g) = true)
    (hr' : PySem.W.findIn X.K (.ref C) (dunderR op.info.2) = some (some (.ref q)))
    (h1 : PySem.W.findIn X.K (.type "int") (PySem.dunder op.info.2) = some fo) (h2 : PySem.W.findIn X.K (.type "int") (dunderR op.info.2) = some ro)
    (F : FnOk X.prog X.w X.K X.mg X.base CX k g fd ps sp) (hr : Room k X.A) (hb : Binds X.K fd ps []) (hx : Passes CX X E) :
    OpR X (binaryOp op) (fun x y H Q => ∃ a dx fs n, x = .ref a ∧ y = .int n ∧ H a = some (.ins C dx fs) ∧ sp [x, y] H Q E) := by
  intro pins s σ H x y v u Q I rx ry h
  obtain ⟨a, dx, fs, n, rfl, rfl, ha, z⟩ := h
  cases (show v = Value.ref a from rx)
  obtain ⟨t, e⟩ := (show ∃ t, u = Value.int n t from ry)
  subst e
  obtain ⟨mA, O, _⟩ := ins_get I.hok ha
  obtain ⟨od, J, _⟩ := O.look
  obtain ⟨m, hF⟩ := I.fr
  refine PySem.W.ksp_binT hF I.ok.mod.kin J rfl T.first hs hf hr' (.inr ⟨_, rfl⟩) h1 h2 T.subI ?_
  refine wpAny_mono (run_fn (us := [.ref a, .int n t]) (vs := [.ref a, .int n]) F hr hb .nil hx I (.cons rfl (.cons ⟨t, rfl⟩ .nil)) z) (fun w s' z => ?_) fun _ _ x => x
  obtain ⟨z', H', I', rz, qz⟩ := z
  exact backs rz ⟨z', H', I', rz, qz⟩
/-- an int op an instance -/
theorem op_intInst {op : Operator} {id : String} {B : Builtin} {nm : String} {f : Int → Int → Sem Fin} (T : OwnC X.K C) (hs : PySem.W.findIn X.K (.ref C) (dunderR op.info.2) = some (some (.ref g))) (hf : PySem.W.isFn X.K (.ref g) = true)
    (hl : PySem.W.findIn X.K (.ref C) (PySem.dunder op.info.2) = some (some (.ref q)))
    (hfi : fillsNumberSlot (.type "int") op.info.2 = pure true) (slot : Slot "int" (PySem.dunder op.info.2) id) (entry : entryFor table id = some B) (args : ∀ a b : Value, argsOk id ⟨[a, b], []⟩)
    (hB : B = Builtin.Int.intBinary nm f)
    (F : FnOk X.prog X.w X.K X.mg X.base CX k g fd ps sp) (hr : Room k X.A) (hb : Binds X.K fd ps []) (hx : Passes CX X E) :
    OpR X (binaryOp op) (fun x y H Q => ∃ n a dx fs, x = .int n ∧ y = .ref a ∧ H a = some (.ins C dx fs) ∧ sp [y, x] H Q E) := by
  intro pins s σ H x y v u Q I rx ry h
  obtain ⟨n, a, dx, fs, rfl, rfl, ha, z⟩ := h
  cases (show u = Value.ref a from ry)
  obtain ⟨t, e⟩ := (show ∃ t, v = Value.int n t from rx)
  subst e
  obtain ⟨mA, O, _⟩ := ins_get I.hok ha
  obtain ⟨od, J, _⟩ := O.look
  refine PySem.OwnOps.refl_int I.kIn J rfl T.first hs hf hl hfi slot entry (args _) hB T.subC ?_
  refine wpAny_mono (run_fn (us := [.ref a, .int n t]) (vs := [.ref a, .int n]) F hr hb .nil hx I (.cons rfl (.cons ⟨t, rfl⟩ .nil)) z) (fun w s' z => ?_) fun _ _ x => x
  obtain ⟨z', H', I', rz, qz⟩ := z
  exact backs rz ⟨z', H', I', rz, qz⟩
theorem op_addRI (T : OwnC X.K C) (hs : PySem.W.findIn X.K (.ref C) "__radd__" = some (some (.ref g))) (hf : PySem.W.isFn X.K (.ref g) = true) (hl : PySem.W.findIn X.K (.ref C) "__add__" = some (some (.ref q)))
    (F : FnOk X.prog X.w X.K X.mg X.base CX k g fd ps sp) (hr : Room k X.A) (hb : Binds X.K fd ps []) (hx : Passes CX X E) :
    OpR X (binaryOp .Add) (fun x y H Q => ∃ n a dx fs, x = .int n ∧ y = .ref a ∧ H a = some (.ins C dx fs) ∧ sp [y, x] H Q E) :=
  op_intInst (op := .Add) T hs hf hl PySem.F.fills_int_add PySem.F.slot_int_add PySem.F.entry_int_add (fun a b => PySem.F.args_int_add_2 a b) rfl F hr hb hx
theorem op_subRI (T : OwnC X.K C) (hs : PySem.W.findIn X.K (.ref C) "__rsub__" = some (some (.ref g))) (hf : PySem.W.isFn X.K (.ref g) = true) (hl : PySem.W.findIn X.K (.ref C) "__sub__" = some (some (.ref q)))
    (F : FnOk X.prog X.w X.K X.mg X.base CX k g fd ps sp) (hr : Room k X.A) (hb : Binds X.K fd ps []) (hx : Passes CX X E) :
    OpR X (binaryOp .Sub) (fun x y H Q => ∃ n a dx fs, x = .int n ∧ y = .ref a ∧ H a = some (.ins C dx fs) ∧ sp [y, x] H Q E) :=
  op_intInst (op := .Sub) T hs hf hl PySem.F.fills_int_sub PySem.F.slot_int_sub PySem.F.entry_int_sub (fun a b => PySem.F.args_int_sub_2 a b) rfl F hr hb hx
theorem op_mulRI (T : OwnC X.K C) (hs : PySem.W.findIn X.K (.ref C) "__rmul__" = some (some (.ref g))) (hf : PySem.W.isFn X.K (.ref g) = true) (hl : PySem.W.findIn X.K (.ref C) "__mul__" = some (some (.ref q)))
    (F : FnOk X.prog X.w X.K X.mg X.base CX k g fd ps sp) (hr : Room k X.A) (hb : Binds X.K fd ps []) (hx : Passes CX X E) :
    OpR X (binaryOp .Mult) (fun x y H Q => ∃ n a dx fs, x = .int n ∧ y = .ref a ∧ H a = some (.ins C dx fs) ∧ sp [y, x] H Q E) :=
  op_intInst (op := .Mult) T hs hf hl PySem.F.fills_int_mul PySem.F.slot_int_mul PySem.F.entry_int_mul (fun a b => PySem.F.args_int_mul_2 a b) rfl F hr hb hx
/-- -x -/
theorem un_negO (hs : PySem.W.findIn X.K (.ref C) "__neg__" = some (some (.ref g))) (hf : PySem.W.isFn X.K (.ref g) = true)
    (F : FnOk X.prog X.w X.K X.mg X.base CX k g fd ps sp) (hr : Room k X.A) (hb : Binds X.K fd ps []) (hx : Passes CX X E) :
    UnR X (unaryOp .USub) (fun x H Q => ∃ a dx fs, x = .ref a ∧ H a = some (.ins C dx fs) ∧ sp [x] H Q E) := by
  intro pins s σ H x v Q I rx h
  obtain ⟨a, dx, fs, rfl, ha, z⟩ := h
  cases (show v = Value.ref a from rx)
  obtain ⟨mA, O, _⟩ := ins_get I.hok ha
  obtain ⟨od, J, _⟩ := O.look
  obtain ⟨m, hF⟩ := I.fr
  exact PySem.W.ksp_neg hF I.ok.mod.kin J hs hf (run_fn (us := [.ref a]) (vs := [.ref a]) F hr hb .nil hx I (.cons rfl .nil) z)
/-- abs(x) -/
theorem call_absO (hs : PySem.W.findIn X.K (.ref C) "__abs__" = some (some (.ref g))) (hf : PySem.W.isFn X.K (.ref g) = true)
    (F : FnOk X.prog X.w X.K X.mg X.base CX k g fd ps sp) (hr : Room (k + 1) X.A) (hb : Binds X.K fd ps []) (hx : Passes CX X E) :
    CallR X (.builtin "abs") (fun xs H Q => ∃ a dx fs, xs = [.ref a] ∧ H a = some (.ins C dx fs) ∧ sp xs H Q E) := by
  intro pins s σ H xs us Q I r h
  obtain ⟨a, dx, fs, rfl, ha, z⟩ := h
  obtain ⟨u, rfl, ru⟩ := vals1 r
  cases (show u = Value.ref a from ru)
  obtain ⟨mA, O, _⟩ := ins_get I.hok ha
  obtain ⟨od, J, _⟩ := O.look
  refine PySem.Calls.call_function_entry kind_abs plain_abs entry_abs (args_abs _) ?_
  unfold Builtin.«abs»
  refine wpAny_bind (m := oneArg "abs" _) (wpAny_pure ?_)
  refine wpAny_bind (m := callSpecial? (.ref a) (Str.ofString "__abs__")) (PySem.W.special_fn I.kIn J hs (beq_iff_eq.mp hf) ?_)
  have hr1 : Room k X.A.in1 := hr.in1
  have hl : ([Value.ref a] ++ []).length = ps.length := by
    have e := F.len _ _ _ _ z
    exact e
  have r1 : Vals [V.ref a] [Value.ref a] := .cons rfl .nil
  have bd : BindsTo s fd ⟨[Value.ref a], []⟩ (ps.zip [Value.ref a]) := by
    have b1 := hb s [Value.ref a] I.kIn hl
    rw [List.append_nil] at b1
    exact b1
  refine wpAny_call (codeAny_mono (F.run X.A.in1 X.stack s H _ _ _ Q E hr1 I.env0.in1 bd r1 z) fun r s' hq => ?_)
  cases r with
  | error e => exact hx pins σ H s e s' I hq
  | ok fl =>
    cases fl with
    | ret u => exact wpAny_pure ⟨_, rfl, I.after hq⟩
    | next => exact False.elim hq
    | brk => exact False.elim hq
    | cont => exact False.elim hq
/-- // by any divisor but 0 of less than 9000 bits -/
def CDivX (_ j : Int) : Prop := j ≠ 0 ∧ j.natAbs.log2 < 9000
theorem op_fdivX : OpR X (binaryOp .FloorDiv) (rI CDivX fun i j => .int (i.fdiv j)) := opI fun _ _ _ _ _ _ _ hc q => floordiv_int hc.1 q (.inl (PyProof.noPylong_of_log2 hc.2))
theorem op_modX : OpR X (binaryOp .Mod) (rI (fun _ j => j ≠ 0) fun i j => .int (i.fmod j)) := op_modN
end
end L2

set_option Elab.async false
set_option linter.all false
set_option maxRecDepth 100000
set_option maxHeartbeats 2000000
namespace PySem.OwnOps
open PySem PySem.W PySem.Calls
section
variable {prog : Program} {w : World} {A : Around} {E : Value → Shared → Prop} {s : Shared} {K : Frag} {x : Addr} {t c : Value}
/-- isinstance says yes by the classes alone -/
theorem isi_by_class {Q : Value → Shared → Prop} (X : K.In s.heap) (L0 : Looks (model prog w) s.heap (typeOf (.ref x)) t) (hne : (t == c) = false) (e : kitCls K t c = some true) (h : Q (.bool true) s) :
    wpAny (model prog w) A (call (.builtin "isinstance") [.ref x, c]) Q E s := by
  obtain ⟨h0, g, d, tt, os⟩ := s
  obtain ⟨L1, L2, L3⟩ := kit_cls (M := model prog w) X e
  have L4 : Looks (model prog w) h0 (isInstance (.ref x) c) true := L0.andThen L3
  refine PyProof.Rows.call_isinstance_of ?_ (fun z => nomatch z)
  unfold Builtin.«isinstance.nested»
  refine wpAny_bind (L0.at ?_)
  rw [hne, if_neg Bool.false_ne_true]
  refine wpAny_bind (L1.at ?_)
  rw [if_pos (by decide)]
  k_delta "plainIsInstance"
  refine wpAny_bind (wpAny_bind (L2.at ?_))
  simp only [Bool.not_true, Bool.false_eq_true, if_false]
  refine wpAny_bind (L4.at ?_)
  first
    | exact wpAny_pure (wpAny_pure h)
    | (simp only [if_true]; exact wpAny_pure (wpAny_pure h))
    | (simp only [if_true]; exact wpAny_bind (wpAny_pure (wpAny_pure h)))
    | (simp only [if_true]; exact wpAny_pure h)
end
end PySem.OwnOps
namespace L2
open PySem PySem.Spec PyProof.Rows
/-- isinstance(e, c), e the exception that the suite holds, c a class above its own -/
theorem call_isUp {X : Cx} {a D B : Addr} {cls : Value} {d : Option Addr} {oe : Obj} {pn : List (Addr × Obj)} (hz : Zc cls d oe) (hne : D ≠ B) (hk : PySem.W.kitCls X.K (.ref D) (.ref B) = some true) :
    CallR (X.suite a ((a, oe) :: pn)) (.builtin "isinstance") (fun xs H Q => cls = .ref D ∧ xs = [.ref a, .ref B] ∧ Q (.bl true) H) := by
  intro pins s σ H xs us Q I r h
  obtain ⟨rfl, rfl, q⟩ := h
  obtain ⟨u1, u2, rfl, r1, r2⟩ := vals2 r
  cases (show u1 = Value.ref a from r1)
  cases (show u2 = Value.ref B from r2)
  obtain ⟨hget, _⟩ := I.pin (a, oe) (List.mem_append.mpr (.inl List.mem_cons_self))
  have L0 : PySem.W.Looks (model X.prog X.w) s.heap (typeOf (.ref a)) (.ref D) := by
    intro A Q E s' k q'
    unfold typeOf
    refine wpAny_bind (wpAny_loadPart (k _ _ hget) ?_)
    rw [hz.1]
    exact wpAny_pure q'
  exact PySem.OwnOps.isi_by_class I.kIn L0 (Bool.eq_false_iff.mpr fun z => hne (Value.ref.inj (beq_iff_eq.mp z))) hk ⟨.bl true, H, I.kept (t' := s.toks) fun _ _ z => z, rfl, q⟩
end L2

set_option Elab.async false
set_option linter.all false
set_option maxRecDepth 100000
set_option maxHeartbeats 2000000
/-! comparisons of a class of one's own -/
namespace PySem.OwnOps
open PySem PySem.W PySem.Calls
section
variable {prog : Program} {w : World} {A : Around} {E : Value → Shared → Prop} {s : Shared} {K : Frag} {x C g q : Addr} {ox : Obj} {od : Option Obj}
theorem try_own {op : CmpOp} {name : Str} {b : Value} {Q : Value → Shared → Prop} (X : K.In s.heap) (I : InstAt s.heap x ox C od) (hs : findIn K (.ref C) name = some (some (.ref g))) (hf : isFn K (.ref g) = true)
    (h : wpAny (model prog w) A (call (.ref g) [.ref x, b]) (W.CmpBack Q) E s) : wpAny (model prog w) A (tryCompare (.ref x) name b) (fun r s' => ∃ v, r = some v ∧ Q v s') E s := by
  unfold tryCompare
  refine wpAny_bind (ifBound_K X I hs hf (wpAny_mono h (fun v s' hv => ?_) fun _ _ e => e))
  cases v <;> first | exact hv.elim | exact wpAny_pure ⟨_, rfl, hv⟩
/-- int cmp instance: the int's own method knows nothing of it, so the instance's reflected one is asked -/
theorem refl_cmp {op : CmpOp} {id : String} {B : Builtin} {nm : String} {f : Int → Int → Sem Fin} {n : Int} {t : Tok} {Q : Value → Shared → Prop} (hu : A.units < cLine) (X : K.In s.heap) (I : InstAt s.heap x ox C od) (hp : ox.data = .plain)
    (hs : findIn K (.ref C) (cmpInfo op).2.2 = some (some (.ref g))) (hf : isFn K (.ref g) = true)
    (slot : Slot "int" (cmpInfo op).2.1 id) (entry : entryFor table id = some B) (args : ∀ b : Value, argsOk id ⟨[.int n t, b], []⟩)
    (hB : B = Builtin.Int.intBinary nm f) (hsub : subIn K (.ref C) (.type "int") = some false)
    (h : wpAny (model prog w) A (call (.ref g) [.ref x, .int n t]) (W.CmpBack Q) E s) : wpAny (model prog w) A (richCompare op (.int n t) (.ref x)) Q E s := by
  have one : wpAny (model prog w) A (tryCompare (.int n t) (cmpInfo op).2.1 (.ref x)) (fun r s' => r = none ∧ s' = s) E s := by
    unfold tryCompare
    refine wpAny_bind (wpAny_callSpecialIfBound?_slot (typeIs_int s n t) slot ?_)
    refine wpAny_call (codeAny_call_builtin slot.plain entry (slot.check _ _ _ _ _ _ _ _ (typeIs_int s n t) (args _) ?_))
    refine int_knows_not hB I.1 hp ?_
    exact wpAny_pure ⟨rfl, rfl⟩
  have two := try_own (op := op) X I hs hf h
  have h1 : oneThing? op (.int n t) (.ref x) = none := by cases op <;> rfl
  rcases hi : cmpInfo op with ⟨sym, f', r⟩
  rw [hi] at one two
  dsimp only at one two
  have hne : (Value.type "int" != Value.ref C) = true := by
    show (!(Value.type "int" == Value.ref C)) = true
    rw [show (Value.type "int" == Value.ref C) = false from Bool.eq_false_iff.mpr fun q => by cases beq_iff_eq.mp q]
    rfl
  simp only [richCompare, hi, h1]
  refine wpAny_holding (wpAny_bind (wpAny_cRoomFor hu ?_))
  refine wpAny_bind (wpAny_typeOf (typeIs_int s n t) (wpAny_bind (I.type.here ?_)))
  simp only [hne, if_true]
  refine wpAny_bind ((looks_subIn X hsub).here ?_)
  simp only [Bool.false_eq_true, if_false]
  refine wpAny_bind (wpAny_mono one (fun r' s' z => ?_) fun _ _ e => e)
  obtain ⟨rfl, rfl⟩ := z
  simp only [Bool.not_false, if_true]
  refine wpAny_bind (wpAny_mono two (fun r' s' z => ?_) fun _ _ e => e)
  obtain ⟨v, rfl, hq⟩ := z
  exact wpAny_pure hq
/-- != of an instance whose class says == alone -/
theorem own_ne {b : Value} {tb : Value} {Q : Value → Shared → Prop} (hu : A.units + 1 < cLine) (X : K.In s.heap) (I : InstAt s.heap x ox C od) (hb : Looks (model prog w) s.heap (typeOf b) tb) (hn : notFirst K C tb = true)
    (hne : findIn K (.ref C) "__ne__" = some (some (.builtin "object.__ne__"))) (hob : mroIn K C (.type "object") = some true) (hs : findIn K (.ref C) "__eq__" = some (some (.ref g))) (hf : isFn K (.ref g) = true)
    (h : wpAny (model prog w) A.in1 (call (.ref g) [.ref x, b]) (fun v s' => ∃ k, v = .bool k ∧ Q (.bool (!k)) s') E s) : wpAny (model prog w) A (richCompare .NotEq (.ref x) b) Q E s := by
  have sub : Looks (model prog w) s.heap (isInstance (.ref x) (.type "object")) true := I.type.andThen (looks_mroIn X hob)
  have S := PySem.F.cmp_object.ne
  have one : wpAny (model prog w) A (tryCompare (.ref x) "__ne__" b) (fun r s' => ∃ v, r = some v ∧ Q v s') E s := by
    unfold tryCompare
    refine wpAny_bind ?_
    simp only [callSpecialIfBound?, bindSpecialIfBound?]
    refine wpAny_holding (wpAny_bind (wpAny_bind (wpAny_bind (I.type.here ((looks_findIn X hne).here ?_)))))
    simp only [S.bind]
    refine wpAny_bind (wpAny_askSetting (wpAny_ite ?_))
    have fin : ∀ R : Option Value → Shared → Prop, (∀ k s', Q (.bool k) s' → R (some (.bool k)) s') → wpAny (model prog w) A (call (.builtin "object.__ne__") ([.ref x] ++ [b]) >>= fun v => pure (some v)) R E s := fun R hR => by
      refine wpAny_bind (wpAny_call (codeAny_call_builtin S.plain PySem.F.cmpEntry_ne ?_))
      refine @check_slot (model prog w) _ _ s "object.__ne__" "object" "__ne__" (.ref x) [b] [] _ PySem.F.cmpKind_ne PySem.F.cmpSplit_ne sub (PySem.F.cmpArgs_ne _ _) ?_
      unfold Builtin.«object.__ne__»
      refine wpAny_bind (wpAny_of_eq (a := ((Value.ref x : Value), [b])) (by first | rfl | (simp only [slotArgs]; rfl)) ?_)
      refine wpAny_bind (wpAny_cRoomFor (by exact hu) ?_)
      refine wpAny_bind (m := callSpecialIfBound? (.ref x) (Str.ofString "__eq__") [b]) (ifBound_K X I hs hf (wpAny_mono h (fun v s' z => ?_) fun _ _ e => e))
      obtain ⟨k, rfl, hq⟩ := z
      refine wpAny_bind (m := truthy (.bool _)) (wpAny_truthy_bool ?_)
      exact wpAny_pure (wpAny_pure (hR _ _ hq))
    have end_ : ∀ k s', Q (.bool k) s' → wpAny (model prog w) A (match (some (.bool k) : Option Value) with
        | some .notImplemented | none => pure none
        | some v => pure (some v)) (fun r s' => ∃ v, r = some v ∧ Q v s') E s' := fun k s' hq => wpAny_pure ⟨_, rfl, hq⟩
    split
    · exact wpAny_bind (wpAny_pure (wpAny_pure (by exact fin _ end_)))
    · exact wpAny_tryCatch (wpAny_bind (wpAny_pure (wpAny_pure (by exact fin _ end_))))
  unfold richCompare
  simp only [oneThing_ref]
  refine wpAny_holding (wpAny_bind (wpAny_cRoomFor (Nat.lt_of_succ_lt hu) ?_))
  refine wpAny_bind (I.type.here (wpAny_bind (hb.here ?_)))
  have e : (tb == .ref C) = true ∨ subIn K tb (.ref C) = some false := by
    rcases Bool.or_eq_true_iff.mp hn with e | e
    · exact .inl e
    · exact .inr (beq_iff_eq.mp e)
  split
  · rename_i q
    have e' : subIn K tb (.ref C) = some false := by
      rcases e with e | e
      · rw [beq_iff_eq.mp e] at q
        simp at q
      · exact e
    refine wpAny_bind ((looks_subIn X e').here ?_)
    simp only [Bool.false_eq_true, if_false]
    refine wpAny_bind (wpAny_mono one (fun r s' z => ?_) fun _ _ e => e)
    obtain ⟨v, rfl, hq⟩ := z
    exact wpAny_pure hq
  · refine wpAny_bind (wpAny_pure ?_)
    simp only [Bool.false_eq_true, if_false]
    refine wpAny_bind (wpAny_mono one (fun r s' z => ?_) fun _ _ e => e)
    obtain ⟨v, rfl, hq⟩ := z
    exact wpAny_pure hq
end
end PySem.OwnOps

set_option Elab.async false
set_option linter.all false
set_option maxRecDepth 100000
set_option maxHeartbeats 2000000
namespace L2
open PySem PySem.Spec PyProof.Rows
section
variable {X : Cx} {CX : CXT} {C g q : Addr} {fd : FuncData} {ps : List Str} {k : Nat} {sp : Sp} {E : XK}
theorem ty_looks {pins : List (Addr × Obj)} {σ : St} {H : Hp} {s : Shared} {x : V} {u t : Value} (I : Inv X pins σ H s) (rx : RelV x u) (ty : TyX X.K H x t) : PySem.W.Looks (model X.prog X.w) s.heap (typeOf u) t := by
  obtain ⟨P, Z, p, _⟩ := kit_of I rx ty
  exact Z.ty _ _ I.kIn p
/-- x cmp y, x an instance of the class at C whose def for cmp is at g -/
def rCmp (K : PySem.W.Frag) (C : Addr) (sp : Sp) (E : XK) : R2 := fun x y H Q => ∃ a dx fs t, x = .ref a ∧ H a = some (.ins C dx fs) ∧ TyX K H y t ∧ PySem.W.notFirst K C t = true ∧ sp [x, y] H Q E
theorem op_cmp {op : CmpOp} (hop : ∀ a b, compareOp op a b = richCompare op a b) (hs : PySem.W.findIn X.K (.ref C) (cmpInfo op).2.1 = some (some (.ref g))) (hf : PySem.W.isFn X.K (.ref g) = true)
    (F : FnOk X.prog X.w X.K X.mg X.base CX k g fd ps sp) (hr : Room k X.A) (hb : Binds X.K fd ps []) (hx : Passes CX X E) : OpR X (compareOp op) (rCmp X.K C sp E) := by
  intro pins s σ H x y v u Q I rx ry h
  obtain ⟨a, dx, fs, t, rfl, ha, ty, hn, z⟩ := h
  cases (show v = Value.ref a from rx)
  obtain ⟨mA, O, _⟩ := ins_get I.hok ha
  obtain ⟨od, J, _⟩ := O.look
  obtain ⟨m, hF⟩ := I.fr
  rw [hop]
  refine PySem.W.cmp_K (op := op) hr.units0 hF I.ok.mod.kin J (ty_looks I ry ty) hn hs hf ?_
  refine wpAny_mono (run_fn (us := [.ref a, u]) (vs := [.ref a, y]) F hr hb .nil hx I (.cons rfl (.cons ry .nil)) z) (fun w s' z => ?_) fun _ _ x => x
  obtain ⟨z', H', I', rz, qz⟩ := z
  exact backs rz ⟨z', H', I', rz, qz⟩
/-- an int cmp an instance -/
theorem op_cmpI {op : CmpOp} {id : String} {B : Builtin} {nm : String} {f : Int → Int → Sem Fin} (hop : ∀ a b, compareOp op a b = richCompare op a b) (hs : PySem.W.findIn X.K (.ref C) (cmpInfo op).2.2 = some (some (.ref g))) (hf : PySem.W.isFn X.K (.ref g) = true)
    (slot : Slot "int" (cmpInfo op).2.1 id) (entry : entryFor table id = some B) (args : ∀ a b : Value, argsOk id ⟨[a, b], []⟩) (hB : B = Builtin.Int.intBinary nm f) (hsub : PySem.W.subIn X.K (.ref C) (.type "int") = some false)
    (F : FnOk X.prog X.w X.K X.mg X.base CX k g fd ps sp) (hr : Room k X.A) (hb : Binds X.K fd ps []) (hx : Passes CX X E) :
    OpR X (compareOp op) (fun x y H Q => ∃ n a dx fs, x = .int n ∧ y = .ref a ∧ H a = some (.ins C dx fs) ∧ sp [y, x] H Q E) := by
  intro pins s σ H x y v u Q I rx ry h
  obtain ⟨n, a, dx, fs, rfl, rfl, ha, z⟩ := h
  cases (show u = Value.ref a from ry)
  obtain ⟨t, e⟩ := (show ∃ t, v = Value.int n t from rx)
  subst e
  obtain ⟨mA, O, _⟩ := ins_get I.hok ha
  obtain ⟨od, J, _⟩ := O.look
  rw [hop]
  refine PySem.OwnOps.refl_cmp hr.units0 I.kIn J rfl hs hf slot entry (args _) hB hsub ?_
  refine wpAny_mono (run_fn (us := [.ref a, .int n t]) (vs := [.ref a, .int n]) F hr hb .nil hx I (.cons rfl (.cons ⟨t, rfl⟩ .nil)) z) (fun w s' z => ?_) fun _ _ x => x
  obtain ⟨z', H', I', rz, qz⟩ := z
  exact backs rz ⟨z', H', I', rz, qz⟩
theorem op_ltI (hs : PySem.W.findIn X.K (.ref C) "__gt__" = some (some (.ref g))) (hf : PySem.W.isFn X.K (.ref g) = true) (hsub : PySem.W.subIn X.K (.ref C) (.type "int") = some false)
    (F : FnOk X.prog X.w X.K X.mg X.base CX k g fd ps sp) (hr : Room k X.A) (hb : Binds X.K fd ps []) (hx : Passes CX X E) :
    OpR X (compareOp .Lt) (fun x y H Q => ∃ n a dx fs, x = .int n ∧ y = .ref a ∧ H a = some (.ins C dx fs) ∧ sp [y, x] H Q E) :=
  op_cmpI (op := .Lt) (fun _ _ => rfl) hs hf PySem.F.slot_int_lt PySem.F.entry_int_lt (fun a b => PySem.F.args_int_lt_2 a b) rfl hsub F hr hb hx
theorem op_eqI (hs : PySem.W.findIn X.K (.ref C) "__eq__" = some (some (.ref g))) (hf : PySem.W.isFn X.K (.ref g) = true) (hsub : PySem.W.subIn X.K (.ref C) (.type "int") = some false)
    (F : FnOk X.prog X.w X.K X.mg X.base CX k g fd ps sp) (hr : Room k X.A) (hb : Binds X.K fd ps []) (hx : Passes CX X E) :
    OpR X (compareOp .Eq) (fun x y H Q => ∃ n a dx fs, x = .int n ∧ y = .ref a ∧ H a = some (.ins C dx fs) ∧ sp [y, x] H Q E) :=
  op_cmpI (op := .Eq) (fun _ _ => rfl) hs hf PySem.F.slot_int_eq PySem.F.entry_int_eq (fun a b => PySem.F.args_int_eq_2 a b) rfl hsub F hr hb hx
/-- x != y by the class's == -/
theorem op_neOwn (hne : PySem.W.findIn X.K (.ref C) "__ne__" = some (some (.builtin "object.__ne__"))) (hob : PySem.W.mroIn X.K C (.type "object") = some true) (hs : PySem.W.findIn X.K (.ref C) "__eq__" = some (some (.ref g))) (hf : PySem.W.isFn X.K (.ref g) = true)
    (F : FnOk X.prog X.w X.K X.mg X.base CX k g fd ps sp) (hr : Room (k + 1) X.A) (hb : Binds X.K fd ps []) (hx : Passes CX X E) :
    OpR X (compareOp .NotEq) (fun x y H Q => ∃ a dx fs t, x = .ref a ∧ H a = some (.ins C dx fs) ∧ TyX X.K H y t ∧ PySem.W.notFirst X.K C t = true ∧ sp [x, y] H (fun z H' => ∃ r, z = .bl r ∧ Q (.bl (!r)) H') E) := by
  intro pins s σ H x y v u Q I rx ry h
  obtain ⟨a, dx, fs, t, rfl, ha, ty, hn, z⟩ := h
  cases (show v = Value.ref a from rx)
  obtain ⟨mA, O, _⟩ := ins_get I.hok ha
  obtain ⟨od, J, _⟩ := O.look
  have hr1 : Room k X.A.in1 := hr.in1
  have r1 : Vals [V.ref a, y] [Value.ref a, u] := .cons rfl (.cons ry .nil)
  have hl : ([Value.ref a, u] ++ []).length = ps.length := by
    have e := F.len _ _ _ _ z
    exact e
  have bd : BindsTo s fd ⟨[Value.ref a, u], []⟩ (ps.zip [Value.ref a, u]) := by
    have b1 := hb s [Value.ref a, u] I.kIn hl
    rw [List.append_nil] at b1
    exact b1
  show wpAny _ _ (richCompare .NotEq (.ref a) u) _ _ _
  refine PySem.OwnOps.own_ne (Nat.lt_of_le_of_lt (Nat.add_le_add_left (by decide : 1 ≤ 64) _) hr.units) I.kIn J (ty_looks I ry ty) hn hne hob hs hf ?_
  refine wpAny_call (codeAny_mono (F.run X.A.in1 X.stack s H _ _ _ _ E hr1 I.env0.in1 bd r1 z) fun r s' hq => ?_)
  match r, hq with
  | .error e, hq => exact hx pins σ H s e s' I hq
  | .ok (.ret w), hq =>
    obtain ⟨z', H', I', rz, r, rfl, qz⟩ := I.after hq
    cases rz
    exact ⟨r, rfl, .bl (!r), H', I', rfl, qz⟩
  | .ok .next, hq => exact hq.elim
  | .ok .brk, hq => exact hq.elim
  | .ok .cont, hq => exact hq.elim
end
end L2

set_option Elab.async false
set_option linter.all false
set_option maxRecDepth 100000
set_option maxHeartbeats 4000000
/-! == of two tuples whose things are instances of a class of one's own -/
namespace PySem.OwnOps
open PySem PySem.W PySem.Calls
theorem eq_tupleI {prog : Program} {w : World} {A : Around} {E : Value → Shared → Prop} {s : Shared} {J : Shared → Prop} {l b : Addr} {items items2 : Array Value} {e : Nat → Bool} {Q : Value → Shared → Prop} (J0 : J s)
    (hl : s.heap.IsTuple l items) (hb : s.heap.IsTuple b items2) (hu : A.units < cLine)
    (he : ∀ j (h1 : j < items.size) (h2 : j < items2.size) s, J s → wpAny (model prog w) A.in1 (eqBool items[j] items2[j]) (fun r s' => r = e j ∧ J s') E s)
    (h : ∀ s, J s → Q (.bool ((List.range (min items.size items2.size)).all e && items.size == items2.size)) s) : wpAny (model prog w) A (richCompare .Eq (.ref l) (.ref b)) Q E s := by
  obtain ⟨⟨cls, dd, data, sl⟩, ho, hc, n, hd⟩ := id hl
  obtain ⟨⟨cls2, dd2, data2, sl2⟩, ho2, hc2, n2, hd2⟩ := id hb
  simp only at hc hd hc2 hd2
  subst hc hd hc2 hd2
  refine wpAny_richCompare_same_room (op := .Eq) ⟨_, ho, rfl⟩ ⟨_, ho2, rfl⟩ F.slot_tuple_eq ?_ hu
  refine wpAny_call (codeAny_call_builtin F.slot_tuple_eq.plain F.entry_tuple_eq (F.slot_tuple_eq.check _ _ _ _ _ _ _ _ ⟨_, ho, rfl⟩ (F.args_tuple_eq_2 _ _) ?_))
  refine wpAny_mono (Q := fun fin s' => ∃ v, fin = .done (.ret v) ∧ v ≠ .notImplemented ∧ Q v s') ?_ (fun fin s' z => by obtain ⟨v, rfl, z⟩ := z; exact z) fun _ _ x => x
  have f2 := AutoSeq1.sub_tuple_tuple
  have hZ : (items.toList.zip items2.toList).length = min items.size items2.size := by simp
  obtain ⟨hp, g, d, tk, os⟩ := s
  wp_walk using AutoSeq1.wpAny_loadPart' ho, AutoSeq1.wpAny_loadPart' ho2, wpAny_forIn_list _ (fun rest b s' => b.1 = none ∧ J s' ∧ ∃ i, rest = (items.toList.zip items2.toList).drop i ∧
      ((List.range (min items.size items2.size)).all e) = ((List.range (min items.size items2.size)).drop i).all e) _
  case turn =>
    rintro ⟨y, x⟩ rest b s' ⟨hb', J1, i, hz, hR⟩
    have hlt : i < (items.toList.zip items2.toList).length := by
      rcases Nat.lt_or_ge i (items.toList.zip items2.toList).length with h' | h'
      · exact h'
      · rw [List.drop_of_length_le h'] at hz; cases hz
    have hm : i < min items.size items2.size := hZ ▸ hlt
    have h1 : i < items.size := Nat.lt_of_lt_of_le hm (Nat.min_le_left _ _)
    have h2 : i < items2.size := Nat.lt_of_lt_of_le hm (Nat.min_le_right _ _)
    rw [List.drop_eq_getElem_cons hlt] at hz
    injection hz with hyx hrest
    have hy : y = items[i] := by have := congrArg Prod.fst hyx; simpa using this
    have hx : x = items2[i] := by have := congrArg Prod.snd hyx; simpa using this
    subst hy hx
    have hd : (List.range (min items.size items2.size)).drop i = i :: (List.range (min items.size items2.size)).drop (i + 1) := by simp [List.drop_eq_getElem_cons, hm]
    rw [hd, List.all_cons] at hR
    refine wpAny_bind (wpAny_mono (he i h1 h2 s' J1) (fun r s2 z => ?_) fun _ _ x => x)
    obtain ⟨rfl, J2⟩ := z
    cases hy : e i with
    | true =>
      rw [hy] at hR
      wp_walk
      exact ⟨rfl, J2, i + 1, hrest, by simpa using hR⟩
    | false =>
      rw [hy] at hR
      have h' := h s2 J2
      rw [hR] at h'
      wp_walk
      exact ⟨_, rfl, by simp, by simpa using h'⟩
  case fin =>
    rintro ⟨b1, b2⟩ s' ⟨hb', J1, i, hz, hR⟩
    simp only at hb'
    subst hb'
    have hge : min items.size items2.size ≤ i := by
      rcases Nat.lt_or_ge i (items.toList.zip items2.toList).length with h' | h'
      · rw [List.drop_eq_getElem_cons h'] at hz; cases hz
      · exact hZ ▸ h'
    rw [List.drop_of_length_le (by simpa using hge)] at hR
    have h' := h s' J1
    rw [hR] at h'
    wp_walk
    exact ⟨_, rfl, by simp [Builtin.Tuple.tupleCompareSizes], by simpa [Builtin.Tuple.tupleCompareSizes] using h'⟩
  case h =>
    exact ⟨rfl, J0, 0, rfl, by simp⟩
end PySem.OwnOps
namespace L2
open PySem PySem.Spec PyProof.Rows
section
variable {X : Cx} {CX : CXT} {C g : Addr} {fd : FuncData} {ps : List Str} {k : Nat} {sp : Sp} {E : XK}
/-- (a, ..) == (b, ..), all of one class whose == changes nothing -/
theorem op_eqTup (hn : PySem.W.notFirst X.K C (.ref C) = true) (hs : PySem.W.findIn X.K (.ref C) "__eq__" = some (some (.ref g))) (hf : PySem.W.isFn X.K (.ref g) = true)
    (F : FnOk X.prog X.w X.K X.mg X.base CX k g fd ps sp) (hr : Room (k + 1) X.A) (hb : Binds X.K fd ps []) (hx : Passes CX X E) :
    OpR X (compareOp .Eq) (fun x y H Q => ∃ p q xs ys, ∃ e : Nat → Bool, x = .ref p ∧ y = .ref q ∧ SqT X.K H p xs ∧ SqT X.K H q ys ∧
      (∀ j u v, xs[j]? = some u → ys[j]? = some v → ∃ a dx fs b dy gs, u = .ref a ∧ v = .ref b ∧ H a = some (.ins C dx fs) ∧ H b = some (.ins C dy gs) ∧ (a = b → e j = true) ∧ sp [.ref a, .ref b] H (fun z H' => z = .bl (e j) ∧ H' = H) E) ∧
      Q (.bl ((List.range (min xs.length ys.length)).all e && (xs.length == ys.length))) H) := by
  intro pins s σ H x y v u Q I rx ry h
  obtain ⟨p, q, xs, ys, e, rfl, rfl, hp, hq, each, fin⟩ := h
  cases (show v = Value.ref p from rx)
  cases (show u = Value.ref q from ry)
  obtain ⟨its, rv, pl, _⟩ := I.tuple hp
  obtain ⟨its2, rv2, pl2, _⟩ := I.tuple hq
  have hr1 : Room k X.A.in1 := hr.in1
  have l1 : its.toArray.size = xs.length := by rw [List.size_toArray]; exact rv.length.symm
  have l2 : its2.toArray.size = ys.length := by rw [List.size_toArray]; exact rv2.length.symm
  show wpAny _ _ (richCompare .Eq (.ref p) (.ref q)) _ _ _
  refine PySem.OwnOps.eq_tupleI (J := fun s => Inv X pins σ H s) (e := e) I pl pl2 hr.units0 (fun j h1 h2 s1 I1 => ?_) (fun s1 I1 => ⟨.bl _, H, I1, rfl, ?_⟩)
  · have j1 : j < xs.length := by omega
    have j2 : j < ys.length := by omega
    obtain ⟨a, dx, fs, b, dy, gs, hu, hv, ha, hb', same, z⟩ := each j _ _ (List.getElem?_eq_getElem j1) (List.getElem?_eq_getElem j2)
    have r1 : RelV xs[j] its.toArray[j] := by
      obtain ⟨u, e1, r⟩ := rv.get (i := j) (List.getElem?_eq_getElem j1)
      obtain ⟨_, e2⟩ := List.getElem?_eq_some_iff.mp e1
      rw [List.getElem_toArray, e2]
      exact r
    have r2 : RelV ys[j] its2.toArray[j] := by
      obtain ⟨u, e1, r⟩ := rv2.get (i := j) (List.getElem?_eq_getElem j2)
      obtain ⟨_, e2⟩ := List.getElem?_eq_some_iff.mp e1
      rw [List.getElem_toArray, e2]
      exact r
    rw [hu] at r1
    rw [hv] at r2
    rw [show its.toArray[j] = Value.ref a from r1, show its2.toArray[j] = Value.ref b from r2]
    by_cases hab : a = b
    · subst hab
      exact PySem.SeqAt.EqAt.same (Value.ref a) _ _ _ _ ⟨(same rfl).symm, I1⟩
    · obtain ⟨mA, O, _⟩ := ins_get I1.hok ha
      obtain ⟨od, J, _⟩ := O.look
      obtain ⟨mB, O', _⟩ := ins_get I1.hok hb'
      obtain ⟨od', J', _⟩ := O'.look
      obtain ⟨m, hF⟩ := I1.fr
      unfold eqBool
      refine wpAny_holding ?_
      refine wpAny_ite_split (fun z => absurd (by have := eq_of_beq z; injection this) hab) (fun _ => ?_)
      refine wpAny_bind ?_
      refine PySem.W.cmp_K (op := .Eq) hr1.units0 hF I1.ok.mod.kin J J'.type hn hs hf ?_
      have hl : ([Value.ref a, .ref b] ++ []).length = ps.length := by
        have e := F.len _ _ _ _ z
        exact e
      have bd : BindsTo s1 fd ⟨[Value.ref a, .ref b], []⟩ (ps.zip [Value.ref a, .ref b]) := by
        have b1 := hb s1 [Value.ref a, .ref b] I1.kIn hl
        rw [List.append_nil] at b1
        exact b1
      have r3 : Vals [V.ref a, .ref b] [Value.ref a, .ref b] := .cons rfl (.cons rfl .nil)
      refine wpAny_call (codeAny_mono (F.run X.A.in1 X.stack s1 H _ _ _ _ E hr1 I1.env0.in1 bd r3 z) fun r s' hq => ?_)
      match r, hq with
      | .error e, hq => exact hx pins σ H s1 e s' I1 hq
      | .ok (.ret w), hq =>
        obtain ⟨z', H', I', rz, rfl, rfl⟩ := I1.after hq
        cases rz
        exact wpAny_truthy_bool ⟨rfl, I'⟩
      | .ok .next, hq => exact hq.elim
      | .ok .brk, hq => exact hq.elim
      | .ok .cont, hq => exact hq.elim
  · rw [l1, l2]
    exact fin
end
end L2

set_option Elab.async false
set_option linter.all false
set_option maxRecDepth 100000
set_option maxHeartbeats 2000000
/-! operators of one's own classes -/
namespace DL
open PySem L2 He
section
variable {K : PySem.W.Frag} {A : AS} {B : Bd} {ρ : Env} {H H' H0 H1 : Hp} {σ : St} {E : XK} {m m1 m2 : ME} {t1 t2 : TE}
/-- what raises nothing, within what may -/
theorem s2_0 {r : R2} {f : Rv → Rv → KD → KX → Prop} (h : S2 K E0 r f) : S2 K E r (fun x y Q _ => f x y Q fun _ => False) := fun M S H0 H v w x y wf rx ry Qd Ed Q hf k kx => h M S H0 H v w x y wf rx ry Qd _ Q hf k fun _ _ _ _ _ _ z => z.elim
theorem s1_0 {r : V → Hp → VK → Prop} {f : Rv → KD → KX → Prop} (h : S1 K E0 r f) : S1 K E r (fun x Q _ => f x Q fun _ => False) := fun M S H0 H v x wf rx Qd Ed Q hf k kx => h M S H0 H v x wf rx Qd _ Q hf k fun _ _ _ _ _ _ z => z.elim
/-- both of one class -/
def fOpS (c d : String) (m : MF) (x y : Rv) (Q : KD) (Ed : KX) : Prop := match x, y with
  | .d (.obj c1 n1 d1), .d (.obj c2 n2 d2) => c1 = c ∧ c2 = d ∧ m [.d (.obj c1 n1 d1), .d (.obj c2 n2 d2)] Q Ed
  | _, _ => False
theorem call2 {m : MF} {M S : AS} {v w : V} {x y : D} {Qd : KD} {Ed : KX} {Q : VK} (wf : Wf M S H) (rx : Dr K M H v x) (ry : Dr K M H w y) (hf : m [.d x, .d y] Qd Ed) (k : ∀ z u H', Evo S H H' → RepR K M S H H' u z → Qd z → Q u H') (kx : ∀ x c d H', Evo S H H' → RepX K M H' c d x → Ed x → E c d H') : spD K 2 m [v, w] H Q E :=
  s_call (H0 := H) (rs := [.d x, .d y]) (M := M) (S := S) rfl wf ⟨rx, ry, trivial⟩ (show fCall m [.d x, .d y] Qd Ed from ⟨List.nodup_nil, hf⟩) k kx
theorem call1 {m : MF} {M S : AS} {v : V} {x : D} {Qd : KD} {Ed : KX} {Q : VK} (wf : Wf M S H) (rx : Dr K M H v x) (hf : m [.d x] Qd Ed) (k : ∀ z u H', Evo S H H' → RepR K M S H H' u z → Qd z → Q u H') (kx : ∀ x c d H', Evo S H H' → RepX K M H' c d x → Ed x → E c d H') : spD K 1 m [v] H Q E :=
  s_call (H0 := H) (rs := [.d x]) (M := M) (S := S) rfl wf ⟨rx, trivial⟩ (show fCall m [.d x] Qd Ed from ⟨List.nodup_nil, hf⟩) k kx
theorem s_opS {c : String} {m : MF} : S2 K E (fun x y H Q => ∃ a dx fs b dy gs, x = .ref a ∧ y = .ref b ∧ H a = some (.ins (ga K (Str.ofString c)) dx fs) ∧ H b = some (.ins (ga K (Str.ofString c)) dy gs) ∧ spD K 2 m [x, y] H Q E) (fOpS c c m) := fun M S H0 H v w x y wf rx ry Qd Ed Q hf k kx => by
  unfold fOpS at hf
  split at hf
  · obtain ⟨rfl, rfl, hf⟩ := hf
    have r1 := rx
    have r2 := ry
    cases rx with
    | obj q1 n1 l1 p1 a1 => cases ry with
      | obj q2 n2 l2 p2 a2 => exact ⟨_, _, _, _, _, _, rfl, rfl, q1, q2, call2 wf r1 r2 hf k kx⟩
  · exact hf.elim
theorem s_opD {c d : String} {m : MF} : S2 K E (fun x y H Q => ∃ a dx fs b dy gs, x = .ref a ∧ y = .ref b ∧ H a = some (.ins (ga K (Str.ofString c)) dx fs) ∧ H b = some (.ins (ga K (Str.ofString d)) dy gs) ∧ spD K 2 m [x, y] H Q E) (fOpS c d m) := fun M S H0 H v w x y wf rx ry Qd Ed Q hf k kx => by
  unfold fOpS at hf
  split at hf
  · obtain ⟨rfl, rfl, hf⟩ := hf
    have r1 := rx
    have r2 := ry
    cases rx with
    | obj q1 n1 l1 p1 a1 => cases ry with
      | obj q2 n2 l2 p2 a2 => exact ⟨_, _, _, _, _, _, rfl, rfl, q1, q2, call2 wf r1 r2 hf k kx⟩
  · exact hf.elim
/-- an object and an int -/
def fOpI (c : String) (m : MF) (x y : Rv) (Q : KD) (Ed : KX) : Prop := match x, y with
  | .d (.obj c1 n1 d1), .d (.int i) => c1 = c ∧ m [.d (.obj c1 n1 d1), .d (.int i)] Q Ed
  | _, _ => False
theorem s_opI {c : String} {m : MF} : S2 K E (fun x y H Q => ∃ a dx fs n, x = .ref a ∧ y = .int n ∧ H a = some (.ins (ga K (Str.ofString c)) dx fs) ∧ spD K 2 m [x, y] H Q E) (fOpI c m) := fun M S H0 H v w x y wf rx ry Qd Ed Q hf k kx => by
  unfold fOpI at hf
  split at hf
  · obtain ⟨rfl, hf⟩ := hf
    have r1 := rx
    cases ry
    cases rx with
    | obj q1 n1 l1 p1 a1 => exact ⟨_, _, _, _, rfl, rfl, q1, call2 wf r1 (.int _) hf k kx⟩
  · exact hf.elim
/-- an int and an object: the reflected method -/
def fOpR (c : String) (m : MF) (x y : Rv) (Q : KD) (Ed : KX) : Prop := match x, y with
  | .d (.int i), .d (.obj c1 n1 d1) => c1 = c ∧ m [.d (.obj c1 n1 d1), .d (.int i)] Q Ed
  | _, _ => False
theorem s_opR {c : String} {m : MF} : S2 K E (fun x y H Q => ∃ n a dx fs, x = .int n ∧ y = .ref a ∧ H a = some (.ins (ga K (Str.ofString c)) dx fs) ∧ spD K 2 m [y, x] H Q E) (fOpR c m) := fun M S H0 H v w x y wf rx ry Qd Ed Q hf k kx => by
  unfold fOpR at hf
  split at hf
  · obtain ⟨rfl, hf⟩ := hf
    have r2 := ry
    cases rx
    cases ry with
    | obj q1 n1 l1 p1 a1 => exact ⟨_, _, _, _, rfl, rfl, q1, call2 wf r2 (.int _) hf k kx⟩
  · exact hf.elim
def fUnO (c : String) (m : MF) (x : Rv) (Q : KD) (Ed : KX) : Prop := match x with
  | .d (.obj c1 n1 d1) => c1 = c ∧ m [.d (.obj c1 n1 d1)] Q Ed
  | _ => False
theorem s_unO {c : String} {m : MF} : S1 K E (fun x H Q => ∃ a dx fs, x = .ref a ∧ H a = some (.ins (ga K (Str.ofString c)) dx fs) ∧ spD K 1 m [x] H Q E) (fUnO c m) := fun M S H0 H v x wf rx Qd Ed Q hf k kx => by
  unfold fUnO at hf
  split at hf
  · obtain ⟨rfl, hf⟩ := hf
    have r1 := rx
    cases rx with
    | obj q1 n1 l1 p1 a1 => exact ⟨_, _, _, rfl, q1, call1 wf r1 hf k kx⟩
  · exact hf.elim
/-- == by the class's own method -/
def fCmpO (c : String) (m : MF) (x y : Rv) (Q : KD) (Ed : KX) : Prop := match x, y.data with
  | .d (.obj c1 n1 d1), some d => c1 = c ∧ (∀ z, d ≠ .ty z) ∧ m [.d (.obj c1 n1 d1), .d d] Q Ed
  | _, _ => False
theorem nf_ok (T : Tx K) {M : AS} {v : V} {x : D} {c : String} (hp : Pres K c) (h : Dr K M H v x) (n : ∀ z, x ≠ .ty z) : PySem.W.notFirst K (ga K (Str.ofString c)) (tyD K x) = true := by
  unfold tyD
  cases o : isObjD x with
  | true =>
    rw [if_pos rfl]
    cases x <;> first | (simp [isObjD] at o; done) | skip
    cases h with
    | obj q _ _ p _ => exact T.nX _ _ hp p.1
  | false =>
    rw [if_neg (by simp)]
    exact T.nB _ hp _ (kd_mem x o n)
theorem s_cmpO {c : String} {m : MF} (T : Tx K) : S2 K E (rCmp K (ga K (Str.ofString c)) (spD K 2 m) E) (fCmpO c m) := fun M S H0 H v w x y wf rx ry Qd Ed Q hf k kx => by
  unfold fCmpO at hf
  split at hf
  · rename_i c1 n1 d1 d e
    obtain ⟨rfl, nt, hf⟩ := hf
    have r1 := rx
    have r2 := ry.dr e
    cases rx with
    | obj q1 n1 l1 p1 a1 => exact ⟨_, _, _, _, rfl, q1, dr_ty T r2 nt, nf_ok T p1.1 r2 nt, call2 wf r1 r2 hf k kx⟩
  · exact hf.elim
def notK (Q : KD) : KD := fun r => match r with
  | .d (.bl b) => Q (.d (.bl (!b)))
  | _ => False
/-- != by the class's own == -/
def fNeO (c : String) (m : MF) (x y : Rv) (Q : KD) (Ed : KX) : Prop := fCmpO c m x y (notK Q) Ed
theorem s_neO {c : String} {m : MF} (T : Tx K) : S2 K E (fun x y H Q => ∃ a dx fs t, x = .ref a ∧ H a = some (.ins (ga K (Str.ofString c)) dx fs) ∧ TyX K H y t ∧ PySem.W.notFirst K (ga K (Str.ofString c)) t = true ∧ spD K 2 m [x, y] H (fun z H' => ∃ r, z = .bl r ∧ Q (.bl (!r)) H') E) (fNeO c m) := fun M S H0 H v w x y wf rx ry Qd Ed Q hf k kx => by
  unfold fNeO fCmpO at hf
  split at hf
  · rename_i c1 n1 d1 d e
    obtain ⟨rfl, nt, hf⟩ := hf
    have r1 := rx
    have r2 := ry.dr e
    cases rx with
    | obj q1 n1 l1 p1 a1 =>
      refine ⟨_, _, _, _, rfl, q1, dr_ty T r2 nt, nf_ok T p1.1 r2 nt, call2 wf r1 r2 hf (fun z u H' e' rz hq => ?_) kx⟩
      unfold notK at hq
      split at hq
      · exact ⟨_, rz.bl, k (.d (.bl _)) _ _ e' (Dr.bl _) hq⟩
      · exact hq.elim
  · exact hf.elim
/-- tuples put together -/
def fCatA (x y : Rv) (Q : KD) (_ : KX) : Prop := match x, y with
  | .d (.tup l), .d (.tup m) => l.length + m.length ≤ sizeLine ∧ Q (.d (.tup (l ++ m)))
  | _, _ => False
theorem s_catA : S2 K E (rCatA K) fCatA := fun M S H0 H v w x y wf rx ry Qd Ed Q hf k kx => by
  unfold fCatA at hf
  split at hf
  · rename_i l m
    have r1 := rx
    have r2 := ry
    obtain ⟨a, us, rfl, q, al⟩ := Dr.sqt rx
    obtain ⟨b, ws, rfl, q', bl⟩ := Dr.sqt ry
    refine ⟨a, b, us, ws, rfl, rfl, q, q', by rw [al.length, bl.length]; exact hf.1, fun e => ?_, fun _ e => ?_, fun _ _ p hp => ?_⟩
    · have : l = [] := List.eq_nil_of_length_eq_zero (by rw [← al.length, e]; rfl)
      subst this
      exact k (.d (.tup _)) _ _ (Evo.refl _ _) r2 hf.2
    · have : m = [] := List.eq_nil_of_length_eq_zero (by rw [← bl.length, e]; rfl)
      subst this
      exact k (.d (.tup _)) _ _ (Evo.refl _ _) (by rw [List.append_nil]; exact r1) hf.2
    · have e2 : Evo S H (L2.upd H p (.tup (us ++ ws))) := Evo.of (new_same hp)
      exact k (.d (.tup _)) _ _ e2 (Dr.tup (.inl upd_same) (fun z => wf.mo _ z hp) ((al.append bl).evo wf.sm e2)) hf.2
  · exact hf.elim
def fAddS (x y : Rv) (Q : KD) (_ : KX) : Prop := match x, y with
  | .d (.str a), .d (.str b) => a.length + b.length ≤ sizeLine ∧ Q (.d (.str (a ++ b)))
  | _, _ => False
theorem s_addS : S2 K E (fun x y H Q => ∃ i j, x = .str i ∧ y = .str j ∧ i.length + j.length ≤ sizeLine ∧ Q (.str (i ++ j)) H) fAddS := fun M S H0 H v w x y wf rx ry Qd Ed Q hf k kx => by
  unfold fAddS at hf
  split at hf
  · cases rx
    cases ry
    exact ⟨_, _, rfl, rfl, hf.1, k (.d (.str _)) _ _ (Evo.refl _ _) (Dr.str _) hf.2⟩
  · exact hf.elim
/-! == of data -/
mutual
def D.py : D → Option PyData
  | .non => some .none | .bl b => some (.bool b) | .int i => some (.int i) | .str z => some (.str z)
  | .tup l => (pys l).map .tuple | .lst l => (pys l).map .list
  | _ => none
def pys : List D → Option (List PyData)
  | [] => some []
  | x :: l => match D.py x, pys l with
    | some y, some m => some (y :: m)
    | _, _ => none
end
mutual
theorem py_dp {M : AS} : ∀ {v : V} {x : D} {y : PyData}, Dr K M H v x → x.py = some y → Dp K H v y
  | _, _, _, .non, e => by cases e; exact .non
  | _, _, _, .bl b, e => by cases e; exact .bl b
  | _, _, _, .int b, e => by cases e; exact .int b
  | _, _, _, .str b, e => by cases e; exact .str b
  | _, _, _, .ty b, e => by cases e
  | _, _, _, .tup q n al, e => by
    obtain ⟨l, h, rfl⟩ := Option.map_eq_some_iff.mp (show (pys _).map _ = _ from e)
    exact .tup (.inl q) (pys_dp al h)
  | _, _, _, .tupW q al, e => by
    obtain ⟨l, h, rfl⟩ := Option.map_eq_some_iff.mp (show (pys _).map _ = _ from e)
    exact .tup (q H) (pys_dp al h)
  | _, _, _, .scr _ _, e => by cases e
  | _, _, _, .scrW _, e => by cases e
  | _, _, _, .lst q n al, e => by
    obtain ⟨l, h, rfl⟩ := Option.map_eq_some_iff.mp (show (pys _).map _ = _ from e)
    exact .lst (.inl (.inl q)) (pys_dp al h)
  | _, _, _, .obj _ _ _ _ _, e => by cases e
  | _, _, _, .dic _ _ _ _, e => by cases e
theorem pys_dp {M : AS} : ∀ {vs : List V} {l : List D} {ys : List PyData}, DrL K M H vs l → pys l = some ys → DpAll K H vs ys
  | _, _, _, .nil, e => by cases e; exact .nil
  | _, _, _, .cons h t, e => by
    unfold pys at e
    split at e
    · rename_i y m e1 e2
      cases e
      exact .cons (py_dp h e1) (pys_dp t e2)
    · cases e
end
def Rv.py : Rv → Option PyData
  | .d x => x.py | .new _ l => (pys l).map .list | .bor _ l => (pys l).map .list | .tp _ its => D.py (.tup (its.map itD)) | _ => none
theorem RepR.dp {M S : AS} {v : V} {r : Rv} {y : PyData} (h : RepR K M S H0 H v r) (e : r.py = some y) : Dp K H v y := by
  cases r with
  | d x => exact py_dp h e
  | strm a => cases e
  | new a l =>
    obtain ⟨rfl, _, _, vs, q, al⟩ := h
    obtain ⟨m, h, rfl⟩ := Option.map_eq_some_iff.mp (show (pys _).map _ = _ from e)
    exact .lst (.inl (.inl q)) (pys_dp al h)
  | tp a its => exact py_dp h.flat e
  | bor a l =>
    obtain ⟨rfl, _, _, vs, q, al⟩ := h
    obtain ⟨m, h, rfl⟩ := Option.map_eq_some_iff.mp (show (pys _).map _ = _ from e)
    exact .lst (.inl (.inl q)) (pys_dp al h)
def fEqD (neg : Bool) (x y : Rv) (Q : KD) (_ : KX) : Prop := match x.py, y.py with
  | some d, some e => SeqAt.shaped d = true ∧ SeqAt.shaped e = true ∧ Q (.d (.bl (neg ^^ PyData.eqv d e)))
  | _, _ => False
theorem s_eqD : S2 K E (rEqD K) (fEqD false) := fun M S H0 H v w x y wf rx ry Qd Ed Q hf k kx => by
  unfold fEqD at hf
  split at hf
  · rename_i d e e1 e2
    exact ⟨d, e, rx.dp e1, ry.dp e2, hf.1, hf.2.1, k (.d (.bl _)) _ _ (Evo.refl _ _) (by rw [Bool.false_xor]; exact Dr.bl _) hf.2.2⟩
  · exact hf.elim
theorem s_neD : S2 K E (rNeD K) (fEqD true) := fun M S H0 H v w x y wf rx ry Qd Ed Q hf k kx => by
  unfold fEqD at hf
  split at hf
  · rename_i d e e1 e2
    exact ⟨d, e, rx.dp e1, ry.dp e2, hf.1, hf.2.1, k (.d (.bl _)) _ _ (Evo.refl _ _) (by rw [Bool.true_xor]; exact Dr.bl _) hf.2.2⟩
  · exact hf.elim
end
end DL

set_option Elab.async false
set_option linter.all false
set_option maxRecDepth 100000
set_option maxHeartbeats 2000000
namespace L2
open PySem PySem.Spec PyProof.Rows
/-- C(e, ..) in a try: what is raised is wished for at the slots as they stand -/
def tMakeS (C : Addr) (sp : Sp) (dvs : List V) (E : St → XK) (t : TA) : TE := fun σ H Q => t σ H fun vs H1 => ∀ x dx, H1 x = none → H1 dx = none → dx ≠ x →
  sp (.ref x :: (vs ++ dvs)) (upd (upd H1 dx (.own x)) x (.ins C dx [])) (fun v H2 => v = .non ∧ Q (.ref x) H2) (E σ)
section
variable {X : Cx} {CX : CXT} {k : Nat} {g C : Addr} {fd : FuncData} {ps : List Str} {sp : Sp} {dvs : List V} {ds : List Value} {E : St → XK} {x : Str} {p pos : Pos} {e : Expr} {es : List Expr} {t : TA}
theorem pe_makeS (M : Mk X.K C g) (F : FnOk X.prog X.w X.K X.mg X.base CX k g fd ps sp) (hr : Room (k + 1) X.A) (hg : Gl X x) (hm : X.mg x = some (.ref C)) (hb : Binds X.K fd ps ds) (hd : Vals dvs ds) (hx : ∀ σ, PassesAt CX X σ (E σ))
    (ha : PA X (e :: es) t) (hdb : (x == ("__debug__" : Str)) = false := by decide) (he : starEach (e :: es) X.env = (false, eval e X.env) :: starEach es X.env := by rfl) (hpl : (backTo pos (starEach es X.env)).any (·.1) = false := by rfl) :
    PE X (.Call (.Name x p) (e :: es) [] pos) (tMakeS C sp dvs E t) := by
  constructor
  intro pins s σ H Q I0 h0
  refine wpAny_Call_Name_kw (ld_glob I0 hg hm ?_ hdb)
  refine PySem.W.callWith_K (h₀ := X.base) I0.ok.mod.kin M.kp (thn (ha.run pos pins s σ H _ I0 h0) fun us s1 hh => ?_) he hpl
  obtain ⟨vs, H1, I, r, h⟩ := hh
  refine ⟨I.kIn, ?_⟩
  have hq := h (s1.heap.objs.size + 1) s1.heap.objs.size (I.hok.fresh (Nat.le_succ _)) (I.hok.fresh (Nat.le_refl _)) (Nat.ne_of_lt (Nat.lt_succ_self _))
  have J := Inv.made (C := C) I
  have rr : Vals (V.ref (s1.heap.objs.size + 1) :: (vs ++ dvs)) (Value.ref (s1.heap.objs.size + 1) :: (us ++ ds)) := .cons rfl (r.append hd)
  have ll : (Value.ref (s1.heap.objs.size + 1) :: us ++ ds).length = ps.length := by
    have z := rr.length
    rw [F.len _ _ _ _ hq] at z
    exact z.symm
  have bd := hb { s1 with heap := (s1.heap.push PySem.W.emptyDict).push (PySem.W.instObj C s1.heap.objs.size) } (Value.ref (s1.heap.objs.size + 1) :: us) J.kIn ll
  show wpAny _ _ (call (.ref C) us) _ _ _
  refine wpAny_call (make_map (f := g) I.kIn M.makes M.init (beq_iff_eq.mp M.fn) (codeAny_mono (F.run _ X.stack _ _ _ _ _ _ (E σ) (hr.make C us []) (J.env0.make C us []) bd rr hq) fun res s' z => ?_))
  match res, z with
  | .error er, z => exact hx σ pins _ _ er s' J z
  | .ok (.ret u), z =>
    obtain ⟨v, H', I3, rv, ev, q3⟩ := J.after z
    subst ev
    exact ⟨rv, V.ref (s1.heap.objs.size + 1), H', I3, rfl, q3⟩
  | .ok .next, z => exact z.elim
  | .ok .brk, z => exact z.elim
  | .ok .cont, z => exact z.elim
end
end L2

set_option Elab.async false
set_option linter.all false
set_option maxRecDepth 100000
set_option maxHeartbeats 2000000
/-! a text beside a list, a tuple, a dict: == says no, whatever they hold -/
namespace PySem.OwnOps
open PySem PySem.W PySem.Calls
theorem dict_eq_declines_str (l : Addr) (es : Array DictEntry) (n : Nat) (dd : Option Addr) (sl : Array (Option Value)) (b : Str) (u : Tok) :
    Meets (Builtin.«dict.__eq__» ⟨[.ref l, .str b u], []⟩) (fun _ R s => s.heap.get? l = some { cls := .type "dict", dict := dd, data := .dict es n, slots := sl } ∧ R (.ok (.ret .notImplemented)) s) :=
  .of_wp fun prog w A R s h => by obtain ⟨hp, g, d, tk, os⟩ := s; obtain ⟨hl, h⟩ := h; have f1 := F.sub_str_dict; wp_walk using wpAny_loadPart' hl; exact ⟨_, rfl, h⟩
theorem str_eq_declines_dict (b : Str) (u : Tok) (l : Addr) (es : Array DictEntry) (n : Nat) (dd : Option Addr) (sl : Array (Option Value)) :
    Meets (Builtin.«str.__eq__» ⟨[.str b u, .ref l], []⟩) (fun _ R s => s.heap.get? l = some { cls := .type "dict", dict := dd, data := .dict es n, slots := sl } ∧ R (.ok (.ret .notImplemented)) s) :=
  .of_wp fun prog w A R s h => by obtain ⟨hp, g, d, tk, os⟩ := s; obtain ⟨hl, h⟩ := h; have f1 := F.sub_dict_str; wp_walk using wpAny_loadPart' hl, wpAny_load hl; exact ⟨_, rfl, h⟩
section
open PySem.SeqAt
variable {A : Around} {s : Shared}
theorem rc_str_dict {l : Addr} {es : Array DictEntry} {n : Nat} {dd : Option Addr} {sl : Array (Option Value)} (b : Str) (u : Tok) (ho : s.heap.get? l = some { cls := .type "dict", dict := dd, data := .dict es n, slots := sl }) (hu : A.units < cLine) : RcAt A s (.str b u) (.ref l) false := fun prog w E Q h =>
  rc_eq_decline_or (k := false) (typeIs_str s b u) ⟨_, ho, rfl⟩ (by decide) F.sub_dict_str F.slot_str_eq F.slot_dict_eq_refl
    (fun _ hq => call_meets F.slot_str_eq (typeIs_str s b u) F.entry_str_eq (F.args_str_eq_2 _ _) (str_eq_declines_dict b u l es n dd sl) ⟨ho, hq⟩)
    (fun _ hq => call_meets F.slot_dict_eq_refl ⟨_, ho, rfl⟩ F.entry_dict_eq (F.args_dict_eq_2 _ _) (dict_eq_declines_str l es n dd sl b u) ⟨ho, hq⟩)
    (fun _ hq => wpAny_of_eq (rfl : isSame (.str b u) (.ref l) = pure false) hq) (.inr hu) h
end
end PySem.OwnOps
namespace L2
open PySem PySem.Spec PyProof.Rows
/-- text == thing -/
def rEqS (K : PySem.W.Frag) : R2 := fun x y H Q => ∃ z, x = .str z ∧ (scal x y = true ∨ (∃ p ys, y = .ref p ∧ (SqL K H p ys ∨ SqT K H p ys)) ∨ (∃ p kvs, y = .ref p ∧ H p = some (.dK kvs))) ∧ Q (.bl (decide (x = y))) H
theorem op_eqS {X : Cx} (hu : X.A.units < cLine) : OpR X (compareOp .Eq) (rEqS X.K) := by
  intro pins s σ H x y v u Q I rx ry h
  obtain ⟨z, rfl, h, q⟩ := h
  rcases h with h | ⟨p, ys, rfl, h⟩ | ⟨p, kvs, rfl, h⟩
  · exact op_eq pins s σ H _ _ _ _ Q I rx ry ⟨h, q⟩
  · obtain ⟨t, rfl⟩ := rx
    cases (show u = Value.ref p from ry)
    rw [decide_eq_false (by simp)] at q
    rcases h with h | h
    · obtain ⟨its, rv, pl, _⟩ := I.list h
      exact PySem.SeqAt.RcAt.str_list z t pl.isList hu _ _ _ _ ⟨.bl false, H, I, rfl, q⟩
    · obtain ⟨its, rv, pl, _⟩ := I.tuple h
      exact PySem.SeqAt.RcAt.str_tuple z t pl hu _ _ _ _ ⟨.bl false, H, I, rfl, q⟩
  · obtain ⟨t, rfl⟩ := rx
    cases (show u = Value.ref p from ry)
    rw [decide_eq_false (by simp)] at q
    have o := I.hok p _ h
    obtain ⟨hz, hm, vs, hv, hd⟩ := o
    obtain ⟨⟨oc, od, oda, osl⟩, es, ep, ho, ⟨hc, _, _⟩, hda, _⟩ := hd
    dsimp only at hc hda
    subst hc hda
    exact PySem.OwnOps.rc_str_dict z t ho hu _ _ _ _ ⟨.bl false, H, I, rfl, q⟩
end L2

set_option Elab.async false
set_option linter.all false
set_option maxRecDepth 100000
set_option maxHeartbeats 2000000
/-! enumerate over a tuple -/
namespace PySem.OwnOps
open PySem PySem.AutoSeq1
/-- what a tuple's iterator draws -/
theorem draws_tuple {prog : Program} {w : World} {A : Around} (hh : A.handled = none) (it l : Addr) (ne : l ≠ it) (items : Array Value) :
    Draws prog w A it [it, l] items.size (fun i v => items[i]? = some v) (fun i h => h.IsTupleIter it l i ∧ h.IsTuple l items) := by
  constructor
  · rintro i h ⟨⟨o, ho, _⟩, _⟩
    exact ⟨o, ho⟩
  · rintro i h h' ⟨⟨o, ho, r⟩, ⟨o2, ho2, r2⟩⟩ k
    exact ⟨⟨o, k it List.mem_cons_self o ho, r⟩, ⟨o2, k l (List.mem_cons_of_mem _ List.mem_cons_self) o2 ho2, r2⟩⟩
  · rintro i s Q E hi ⟨a, b⟩ k
    have e : items[i]? = some items[i] := Array.getElem?_eq_getElem hi
    exact RZ.nextOf_tuple_item a b e fun h' a' sb => k _ h' s.toks e ⟨a', b.extBut sb.extBut ne⟩ sb
  · rintro s Q E ⟨a, b⟩ k
    exact RZ.nextOf_tuple_end hh a b (Array.getElem?_eq_none (Nat.le_refl _)) k
abbrev tIt (l : Addr) : Obj := { cls := .type "tuple_iterator", data := .fields #[.ref l, .int 0 0] }
abbrev tEn (h : Heap) : Obj := { cls := .type "enumerate", data := .fields #[.none, .bool false, .ref h.objs.size, rawInt 0, .none, .none] }
theorem meets_enumT (l : Addr) (items : Array Value) (n : Nat) (dct : Option Addr) (sl : Array (Option Value)) :
    Meets (Builtin.«enumerate.__new__» ⟨[.type "enumerate", .ref l], []⟩) (fun _ R s => s.heap.get? l = some { cls := .type "tuple", dict := dct, data := .seq items n, slots := sl } ∧
      R (.ok (.ret (.ref (s.heap.push (tIt l)).objs.size))) { s with heap := (s.heap.push (tIt l)).push (tEn s.heap) }) :=
  .of_wp fun prog w A R s h => by
    obtain ⟨hp, g, d, tk, os⟩ := s
    obtain ⟨hl, h⟩ := h
    have f1 := sub_enumerate
    have hT : Heap.IsTuple (Shared.heap ⟨hp, g, d, tk, os⟩) l items := ⟨_, hl, rfl, n, rfl⟩
    wp_walk using wpAny_loadPart' hl
    refine wpAny_stack_any fun st => wpAny_pure ?_
    split
    · rename_i c _ _ _ _ _
      cases (c == Value.type "enumerate") <;> (wp_walk using wpAny_loadPart' hl, wpAny_pyIter_tuple hT; exact ⟨_, rfl, h⟩)
    · wp_walk using wpAny_loadPart' hl, wpAny_pyIter_tuple hT
      exact ⟨_, rfl, h⟩
section
variable {prog : Program} {w : World} {A : Around} {E : Value → Shared → Prop} {s : Shared}
theorem call_enumT {l : Addr} {items : Array Value} {Q : Value → Shared → Prop} (hT : s.heap.IsTuple l items)
    (k : ∀ h', IsEnum h' (s.heap.objs.size + 1) s.heap.objs.size 0 .none → h'.IsTupleIter s.heap.objs.size l 0 → (∀ b o, s.heap.get? b = some o → h'.get? b = some o) → Q (.ref (s.heap.objs.size + 1)) { s with heap := h' }) :
    wpAny (model prog w) A (call (.type "enumerate") [.ref l]) Q E s := by
  obtain ⟨⟨oc, dct, od, sl⟩, ho, h1, n, h2⟩ := hT
  dsimp only at h1 h2
  subst h1 h2
  have z : (s.heap.push (tIt l)).objs.size = s.heap.objs.size + 1 := Heap.size_push ..
  have en : IsEnum ((s.heap.push (tIt l)).push (tEn s.heap)) (s.heap.objs.size + 1) s.heap.objs.size 0 .none := by
    have q := Heap.get?_push_size (s.heap.push (tIt l)) (o := tEn s.heap) rfl
    rw [z] at q
    exact q
  refine callType_new F.called_enumerate (by decide) (F.typeCall_enumerate_1 _) (F.newCall_enumerate_1 _) (fun obj => F.args_object_init_2 obj _) F.entry_enumerate_new (meets_enumT l items n dct sl) ⟨ho, ?_⟩
  rw [z]
  exact ⟨⟨_, en, rfl⟩, k _ en ⟨_, Heap.get?_push_of_some _ (Heap.get?_push_size _ rfl), rfl, rfl⟩ fun b o e => Heap.get?_push_of_some _ (Heap.get?_push_of_some _ e)⟩
end
end PySem.OwnOps
namespace L2
open PySem PySem.Spec PyProof.Rows
/-- the tuple at a, each item in a new pair -/
def IteT (K : PySem.W.Frag) (a : Addr) : It where
  go := fun i H => ∃ xs x, SqT K H a xs ∧ xs[i]? = some x
  yld := fun i H v H' => ∃ T x, v = .ref T ∧ H T = none ∧ H' = upd H T (.tup [.int (i : Nat), x]) ∧ ∀ xs, SqT K H a xs → xs[i]? = some x
  stop := fun i H => ∃ xs, SqT K H a xs ∧ xs.length = i
def TnT (a e it : Addr) (i : Nat) (h : Heap) : Prop := (∃ old, IsEnum h e it ((i : Nat) : Int) old) ∧ h.IsTupleIter it a i ∧ e ≠ it
theorem tn_apart {a e it : Addr} {i : Nat} {h : Heap} {its : Array Value} (t : TnT a e it i h) (p : IsTup h a its) : a ≠ it ∧ a ≠ e := by
  obtain ⟨⟨old, he⟩, ⟨o, ho, hc, _⟩, _⟩ := t
  obtain ⟨o2, ho2, hc2, _⟩ := p
  constructor
  · rintro rfl
    rw [ho] at ho2
    cases ho2
    rw [hc] at hc2
    exact absurd hc2 (by simp)
  · rintro rfl
    rw [he] at ho2
    cases ho2
    exact absurd hc2 (by simp)
theorem turn_enumT {P : Program} {w : World} {K : PySem.W.Frag} {elts : List Expr} {kk : Nat} {tpos : Pos} (a e it : Addr) : Turn P w K (.Tuple elts kk tpos) (IteT K a) [e, it] e (TnT a e it) := by
  constructor
  · exact List.mem_cons_self
  · rintro i h ⟨⟨old, he⟩, ⟨o, ho, hc, hd⟩, _⟩ b hb
    rcases List.mem_cons.mp hb with rfl | hb
    · exact ⟨_, he, fun v q => by cases q⟩
    · obtain rfl := List.mem_singleton.mp hb
      exact ⟨o, ho, fun v q => by rw [hd] at q; cases q⟩
  · rintro i h h' ⟨⟨old, he⟩, ⟨o, ho, r⟩, ne⟩ k
    exact ⟨⟨old, k e List.mem_cons_self _ he⟩, ⟨o, k it (List.mem_cons_of_mem _ List.mem_cons_self) o ho, r⟩, ne⟩
  · intro X hP hw hK hc i pins s σ H E I hf t hg
    subst hP hw hK
    obtain ⟨xs, x, hq, hx⟩ := hg
    obtain ⟨its, rv, p, _⟩ := I.tuple hq
    obtain ⟨u, hu, ru⟩ := rv.get hx
    obtain ⟨n1, n2⟩ := tn_apart t p
    have hi : i < its.toArray.size := by
      rw [List.size_toArray]
      exact (List.getElem?_eq_some_iff.mp hu).1
    obtain ⟨⟨old, he⟩, hit, hne⟩ := t
    have le : e < s.heap.objs.size := Heap.lt_size he
    have li : it < s.heap.objs.size := by obtain ⟨_, q, _⟩ := hit; exact Heap.lt_size q
    refine wpAny_pyNext_enum_itemD (PySem.OwnOps.draws_tuple (A := X.A.in1) (I.ok.hd hc) it a n1 its.toArray) he ⟨hit, p⟩ hi hne (by simp [hne, Ne.symm n2]) fun y h1 tk hy ho st hT hsz hk => ?_
    have hy' : some y = some u := hy.symm.trans (by simpa using hu)
    cases hy'
    refine ⟨_, rfl, wpAny_letOwnedTupleGo_enum (s := { s with heap := h1, toks := tk + 1 }) ho fun h2 he2 sb => ?_⟩
    have hT2 : h2.get? s.heap.objs.size = some { cls := .type "tuple", data := .seq #[.int i tk, u] } := (sb.2 _ (Nat.ne_of_gt le)).trans hT
    have ok : ObjOk X.prog X.w (upd H s.heap.objs.size (.tup [.int (i : Nat), x])) h2 s.heap.objs.size (.tup [.int (i : Nat), x]) := ⟨by show 2 ≤ sizeLine; decide, [.int i tk, u], .cons ⟨_, rfl⟩ (.cons ru .nil), ⟨_, hT2, rfl, _, rfl⟩⟩
    have keep : ∀ b o, b ∉ [e, it] → s.heap.get? b = some o → h2.get? b = some o := fun b o hb q => by
      have nb : b ≠ e ∧ b ≠ it := by simpa using hb
      exact (sb.2 b nb.1).trans (hk b o nb.1 nb.2 q)
    refine ⟨.ref s.heap.objs.size, _, I.turnedNew keep hf (Nat.le_refl _) ok, rfl, ⟨_, x, rfl, I.hok.fresh (Nat.le_refl _), rfl, fun ys hys => by rw [I.tuple_inj hys hq]; exact hx⟩, ⟨⟨u, ?_⟩, ?_, hne⟩, fun b hb => ?_⟩
    · rw [show ((i + 1 : Nat) : Int) = (i : Int) + 1 by omega]
      exact he2
    · obtain ⟨o, q, r⟩ := st.1
      exact ⟨o, (sb.2 it (Ne.symm hne)).trans q, r⟩
    · have lb : b < s.heap.objs.size := by
        rcases List.mem_cons.mp hb with rfl | hb
        · exact le
        · rw [List.mem_singleton.mp hb]
          exact li
      rw [upd_ne (Nat.ne_of_lt lb)]
      exact (hf b hb).1
  · intro X hP hw hK hc i pins s σ H E I hf t hg
    subst hP hw hK
    obtain ⟨xs, hq, hx⟩ := hg
    obtain ⟨its, rv, p, _⟩ := I.tuple hq
    obtain ⟨n1, n2⟩ := tn_apart t p
    obtain ⟨⟨old, he⟩, hit, hne⟩ := t
    have hl : i = its.toArray.size := by rw [List.size_toArray, ← rv.length, hx]
    obtain ⟨f0, f1, f2, f3, f4, f5⟩ := hf it (List.mem_cons_of_mem _ List.mem_cons_self)
    exact wpAny_pyNext_enum_endD (n := its.toArray.size) (PySem.OwnOps.draws_tuple (A := X.A.in1) (I.ok.hd hc) it a n1 its.toArray) he (by rw [← hl]; exact ⟨hit, p⟩) fun h' eb => ⟨rfl, I.turned (t' := s.toks) (fun b o hb q => eb b o hb q) f0 f1 f3 f4 f5⟩
  · rintro A i s Q E ⟨⟨_, he⟩, _⟩ k
    exact wpAny_pyIter_enum he k
def iEnumT (K : PySem.W.Frag) (ta : TA) : TI := fun σ H R => ta σ H fun vs H1 => ∃ a xs, vs = [.ref a] ∧ SqT K H1 a xs ∧ R (IteT K a) H1
theorem pi_enumT {X : Cx} {e : Expr} {ta : TA} {p pos tpos : Pos} {elts : List Expr} {kk : Nat} (hg : Gl X "enumerate") (hm : X.mg "enumerate" = none) (ha : PA X [e] ta) (hs : starEach [e] X.env = [(false, eval e X.env)] := by rfl) :
    PI X (.Tuple elts kk tpos) (.Call (.Name "enumerate" p) [e] [] pos) (iEnumT X.K ta) := by
  refine ⟨fun pins s σ H R I h => ?_⟩
  refine Call_ (ld_blt I hg hm boot_enumerate (PyProof.Rows.callWith_type1 (thn (ha.run pos pins s σ H _ I h) fun us s1 ⟨vs, H1, I1, r1, a, xs, ev, hq, q⟩ => ?_) hs rfl))
  subst ev
  cases r1 with
  | cons r rr =>
    cases rr
    cases r
    obtain ⟨its, rv, p', _⟩ := I1.tuple hq
    refine PySem.OwnOps.call_enumT p' fun h' en ti hk => wpAny_pyIter_enum en ?_
    refine ⟨s1.heap.objs.size + 1, [s1.heap.objs.size + 1, s1.heap.objs.size], TnT a (s1.heap.objs.size + 1) s1.heap.objs.size, IteT X.K a, H1, rfl, I1.kept (t' := s1.toks) hk, turn_enumT a _ _, ⟨⟨.none, en⟩, ti, Nat.succ_ne_self _⟩, fun b hb => ?_, q⟩
    have le : s1.heap.objs.size ≤ b := by
      rcases List.mem_cons.mp hb with rfl | hb
      · exact Nat.le_succ _
      · rw [List.mem_singleton.mp hb]
        exact Nat.le_refl _
    exact I1.fpOk le (I1.hok.fresh le)
theorem walk_enumT {K : PySem.W.Frag} {a : Addr} {xs : List V} : Walk (IteT K a) xs.length (fun H => SqT K H a xs) (YPair (fun i => some (.int (i : Nat))) (fun i => xs[i]?)) := by
  refine ⟨fun i _ hi q => ⟨xs, xs[i], q, by simp [hi]⟩, fun _ q => ⟨xs, q, rfl⟩, fun i H v H' _ q y => ?_⟩
  obtain ⟨T, x, h1, h2, h3, h4⟩ := y
  exact ⟨T, .int (i : Nat), x, h1, h2, h3, rfl, h4 xs q⟩
end L2

set_option Elab.async false
set_option linter.all false
set_option maxRecDepth 100000
/-! len(set(xs)), xs a list or a tuple of any texts -/
namespace TxS
open PySem PySem.Spec PyProof.Rows
/-- one text more among those that were met -/
def put (l : List Str) (x : Str) : List Str := if x ∈ l then l else l ++ [x]
def met (xs : List Str) : List Str := xs.foldl put []
theorem met_snoc (xs : List Str) (x : Str) : met (xs ++ [x]) = put (met xs) x := by
  unfold met
  rw [List.foldl_append]
  rfl
theorem mem_put {l : List Str} {x y : Str} : y ∈ put l x ↔ y ∈ l ∨ y = x := by
  unfold put
  split
  · rename_i h
    constructor
    · exact .inl
    · rintro (h' | rfl)
      · exact h'
      · exact h
  · rw [List.mem_append, List.mem_singleton]
theorem mem_met : ∀ (xs : List Str) (y : Str), y ∈ met xs ↔ y ∈ xs := by
  intro xs y
  have go : ∀ (r l : List Str), y ∈ r.foldl put l ↔ y ∈ l ∨ y ∈ r := by
    intro r
    induction r with
    | nil => intro l; simp
    | cons x r ih => intro l; rw [List.foldl_cons, ih, mem_put, List.mem_cons, or_assoc]
  rw [show met xs = xs.foldl put [] from rfl, go]
  simp
theorem put_len (l : List Str) (x : Str) : (put l x).length = if x ∈ l then l.length else l.length + 1 := by
  unfold put
  split
  · rfl
  · rw [List.length_append]
    rfl
/-- as many were met as there are texts: no text twice -/
theorem met_nodup (xs : List Str) : (met xs).length ≤ xs.length ∧ ((met xs).length = xs.length ↔ xs.Nodup) := by
  have go : ∀ (r l : List Str), l.Nodup → (r.foldl put l).length ≤ l.length + r.length ∧ ((r.foldl put l).length = l.length + r.length ↔ (l ++ r).Nodup) := by
    intro r
    induction r with
    | nil =>
      intro l h
      rw [List.append_nil]
      exact ⟨Nat.le_refl _, fun _ => h, fun _ => rfl⟩
    | cons x r ih =>
      intro l h
      rw [List.foldl_cons, List.length_cons]
      by_cases e : x ∈ l
      · have p : put l x = l := if_pos e
        obtain ⟨i1, i2⟩ := ih l h
        rw [p]
        refine ⟨by omega, fun z => by omega, fun z => ?_⟩
        have d := (List.nodup_append.mp z).2.2 x e x List.mem_cons_self
        exact absurd rfl d
      · have p : put l x = l ++ [x] := if_neg e
        have hn : (l ++ [x]).Nodup := by
          rw [List.nodup_append]
          refine ⟨h, by simp, fun a ha b hb => ?_⟩
          rw [List.mem_singleton.mp hb]
          exact fun z => e (by rw [← z]; exact ha)
        obtain ⟨i1, i2⟩ := ih (l ++ [x]) hn
        rw [p]
        rw [List.length_append, List.length_singleton] at i1 i2
        refine ⟨by omega, ?_⟩
        rw [show l ++ x :: r = (l ++ [x]) ++ r by rw [List.append_assoc]; rfl]
        rw [← i2]
        omega
  have z := go xs [] List.nodup_nil
  rw [List.length_nil, Nat.zero_add, List.nil_append] at z
  exact z
section
variable {prog : Program} {w : World}
/-- the texts of l stand in the set at a -/
def Has (prog : Program) (w : World) (h : Heap) (a : Addr) (l : List Str) : Prop := h.SetOf (PySem.strKind prog w) a (fun k => decide (k ∈ l)) l.length
theorem Has.keep {h h' : Heap} {a : Addr} {l : List Str} (x : Has prog w h a l) (k : ∀ o, h.get? a = some o → h'.get? a = some o) : Has prog w h' a l := by
  obtain ⟨o, es, ep, t, ho, more⟩ := x
  exact ⟨o, es, ep, t, k o ho, more⟩
theorem adds {A : Around} {E : Value → Shared → Prop} {s : Shared} {a : Addr} {l : List Str} {x : Str} {t : Tok} {Q : Bool → Shared → Prop} (hs : Has prog w s.heap a l) (room : l.length + 1 < scanBound)
    (h : ∀ h', Heap.SameBut a s.heap h' → Has prog w h' a (put l x) → ∀ b, Q b { s with heap := h', toks := s.toks + 1 }) : wpAny (model prog w) A (holding [Value.str x t] (setAdd a (.str x t))) Q E s := by
  refine wpAny_holding ?_
  unfold setAdd
  refine wpAny_holding (wpAny_bind ((PySem.strKind prog w).pyHash (k := x) (strKind_is _ _ _ _) ?_))
  refine wpAny_setAddHashed_of (knd := PySem.strKind prog w) (s := { s with toks := s.toks + 1 }) (strKind_is _ _ _ _) rfl hs room fun h' sb z => h h' sb ?_ _
  refine SetOf_congr z (fun k => ?_) ?_
  · rw [← Bool.decide_or]
    exact decide_eq_decide.mpr mem_put.symm
  · rw [put_len]
    by_cases e : x ∈ l
    · rw [if_pos e, if_pos (decide_eq_true e)]
    · rw [if_neg e, if_neg (by rw [decide_eq_false e]; exact Bool.false_ne_true)]
/-- the texts that a walk gives are added one by one -/
theorem each {A : Around} {R : Result → Shared → Prop} {it S : Addr} {fp wr : List Addr} {G : Array GenState → Array GenState → Prop} {n : Nat} {P : Nat → Value → Prop} {St : Nat → Shared → Prop} (W : WalksS prog w A.in1 it fp wr G n P St) (out : S ∉ fp) (xs : List Str) (len : xs.length = n)
    (room : n + 1 < scanBound) (txt : ∀ i v, P i v → ∃ x t, xs[i]? = some x ∧ v = .str x t) (d : Nat) : ∀ (i : Nat) (s : Shared), n - i = d → i ≤ n → St i s → Has prog w s.heap S (met (xs.take i)) →
      (∀ s2, Moved (S :: wr) G s s2 → Has prog w s2.heap S (met xs) → R (.ok (.ret .none)) s2) → codeAny (model prog w) A (.builtin "set.update.loop" ⟨[.ref S, .ref it], []⟩) R s := by
  have nw : S ∉ wr := fun z => out (W.sub _ z)
  have up : ∀ b ∈ wr, b ∈ S :: wr := fun b z => List.mem_cons_of_mem _ z
  induction d with
  | zero =>
    intro i s hd hi st hs fin
    obtain rfl : i = n := by omega
    refine codeAny_builtin PyProof.Rows.F.entry_set_update_loop ?_
    rw [Around.under_plainId PyProof.Rows.F.plain_set_update_loop _]
    show wpAny _ A.in1 (pyNext (.ref it) >>= _) _ _ s
    refine wpAny_bind (W.done s _ _ st fun s2 mv => ?_)
    refine wpAny_pure (fin s2 (mv.mono up) ?_)
    rw [List.take_of_length_le (by omega)] at hs
    exact hs.keep fun o e => mv.heap S o nw e
  | succ d ih =>
    intro i s hd hi st hs fin
    refine codeAny_builtin PyProof.Rows.F.entry_set_update_loop ?_
    rw [Around.under_plainId PyProof.Rows.F.plain_set_update_loop _]
    show wpAny _ A.in1 (pyNext (.ref it) >>= _) _ _ s
    refine wpAny_bind (W.item i s _ _ (by omega) st fun v s2 hp st2 mv => ?_)
    obtain ⟨x, t, hx, rfl⟩ := txt i v hp
    have nx : xs.take (i + 1) = xs.take i ++ [x] := by
      rw [List.take_add_one, hx]
      rfl
    have ln := (met_nodup (xs.take i)).1
    rw [List.length_take] at ln
    refine wpAny_bind (adds (hs.keep fun o e => mv.heap S o nw e) (by omega) fun h3 sb has b => ?_)
    rw [← met_snoc, ← nx] at has
    refine wpAny_pure ⟨plainId_quiet PyProof.Rows.F.plain_set_update_loop _, ih (i + 1) _ (by omega) (by omega) (W.frame _ s2 _ _ st2 (Nat.le_succ _) fun c hc o e => ?_) has fun s4 mv4 z => ?_⟩
    · rw [sb.2 c fun q => out (q ▸ hc)]
      exact e
    · refine fin s4 (Moved.trans W.gtrans ((mv.mono up).then_heap (Nat.le_succ _) fun c o hc e => ?_) mv4) z
      rw [sb.2 c fun q => hc (q ▸ List.mem_cons_self)]
      exact e
end
end TxS

set_option Elab.async false
set_option linter.all false
set_option maxRecDepth 100000
namespace TxS
open PySem PySem.Spec PyProof.Rows
/-- an empty set that was laid just now -/
abbrev bare (led : Bool) : Obj := { cls := .type "set", dict := none, data := .set #[] 0 (.fresh 0 0 led) }
section
variable {prog : Program} {w : World} {A : Around} {E : Value → Shared → Prop} {s : Shared}
set_option maxHeartbeats 3200000 in
theorem made {T : String} (hT : T = "list" ∨ T = "tuple") {l : Addr} {oc : Option Addr} {sl : Array (Option Value)} {items : Array Value} {nl : Nat} {xs : List Str} {Q : Value → Shared → Prop} (hh : A.handled = none) (at_ : s.heap.get? l = some { cls := .type T, dict := oc, data := .seq items nl, slots := sl })
    (txt : ∀ (i : Nat) (v : Value), items[i]? = some v → ∃ x t, xs[i]? = some x ∧ v = Value.str x t) (len : xs.length = items.size) (room : items.size + 1 < scanBound)
    (h : ∀ (h' : Heap) (tk : Nat), Has prog w h' s.heap.objs.size (met xs) → (∀ b o, b < s.heap.objs.size → s.heap.get? b = some o → h'.get? b = some o) → Q (.ref s.heap.objs.size) { s with heap := h', toks := tk }) : wpAny (model prog w) A (call (.type "set") [.ref l]) Q E s := by
  have lS : l < s.heap.objs.size := Heap.lt_size at_
  have m1 := PySem.F.called_set.mro
  obtain ⟨c, tl, m1⟩ := m1
  have m2 := PySem.F.called_set.made
  have m3 := PySem.F.called_set.sub
  have m4 := PySem.F.called_set.notType
  have m5 := PySem.F.called_set.canCreate
  have m6 := PySem.F.typeCall_set_1 (.ref l)
  refine wpAny_call (codeAny_of_tree ?_)
  show wpAny _ _ (callAny (.type "set") _) _ _ _
  refine wpAny_pure ⟨Code.quiet_builtin _ (by decide +kernel), codeAny_builtin PySem.F.entry_type_call ?_⟩
  rw [Around.under_plain (weight_type_call_type "set" [.ref l] []) rfl]
  repeat (any_goals (first | assumption | wp_step))
  refine codeAny_mono (code_set_new_1 (.ref l) (E := E) (Q₁ := fun u s1 => ∃ led, u = .ref s.heap.objs.size ∧ s1 = { s with heap := s.heap.push (bare led) }) fun led => ⟨led, rfl, rfl⟩) fun r s1 hr => ?_
  rcases r with e | f
  · exact hr
  rcases f with u | _ | _ | _
  rotate_left
  all_goals first | exact hr.elim | skip
  obtain ⟨led, rfl, rfl⟩ := hr
  have hS : (s.heap.push (bare led)).get? s.heap.objs.size = some (bare led) := Heap.get?_push_size _ rfl
  have tS : Shared.TypeIs { s with heap := s.heap.push (bare led) } (.ref s.heap.objs.size) "set" := ⟨_, hS, rfl⟩
  have i1 := PySem.F.called_set.init.lookup
  have i2 := PySem.F.called_set.init.bind (.ref s.heap.objs.size)
  repeat (any_goals (first | assumption | wp_step))
  refine codeAny_mono (codeAny_call_builtin (R := wants (fun u s2 => u = .none ∧ ∃ h' tk, s2 = { s with heap := h', toks := tk } ∧ Has prog w h' s.heap.objs.size (met xs) ∧ ∀ b o, b < s.heap.objs.size → s.heap.get? b = some o → h'.get? b = some o) E)
    PySem.F.called_set.init.plain PySem.F.entry_set_init (check_set_init_1 tS ?_)) fun r s2 hr => ?_
  · have at2 : (s.heap.push (bare led)).get? l = some { cls := .type T, dict := oc, data := .seq items nl, slots := sl } := Heap.get?_push_of_some _ at_
    have h3 : A.in1.in1.in1.handled = none := by simp [hh]
    have ne1 : l ≠ (s.heap.push (bare led)).objs.size := by
      rw [Heap.size_push]
      exact Nat.ne_of_lt (Nat.lt_succ_of_lt lS)
    have out : s.heap.objs.size ∉ [(s.heap.push (bare led)).objs.size, l] := by
      rw [Heap.size_push]
      simp only [List.mem_cons, List.not_mem_nil, or_false, not_or]
      exact ⟨Nat.ne_of_lt (Nat.lt_succ_self _), Nat.ne_of_gt lS⟩
    have last : ∀ (cls : String) (s2 : Shared), Moved [s.heap.objs.size, (s.heap.push (bare led)).objs.size] (fun a b => b = a) { s with heap := (s.heap.push (bare led)).push { cls := .type cls, data := .fields #[.ref l, .int 0 0] } } s2 → Has prog w s2.heap s.heap.objs.size (met xs) →
        wants (fun u s2 => u = .none ∧ ∃ h' tk, s2 = { s with heap := h', toks := tk } ∧ Has prog w h' s.heap.objs.size (met xs) ∧ ∀ b o, b < s.heap.objs.size → s.heap.get? b = some o → h'.get? b = some o) E (.ok (.ret .none)) s2 := fun cls s2 mv hs => by
      obtain ⟨h2, g2, d2, k2, os2⟩ := s2
      obtain rfl : g2 = s.gens := mv.gens
      obtain rfl : d2 = s.drawn := mv.drawn
      obtain rfl : os2 = s.os := mv.os
      refine ⟨rfl, h2, k2, rfl, hs, fun b o lt e => mv.heap b o ?_ (Heap.get?_push_of_some _ (Heap.get?_push_of_some _ e))⟩
      rw [Heap.size_push]
      simp only [List.mem_cons, List.not_mem_nil, or_false, not_or]
      exact ⟨Nat.ne_of_lt lt, Nat.ne_of_lt (Nat.lt_succ_of_lt lt)⟩
    have first : ∀ cls : String, Has prog w ((s.heap.push (bare led)).push { cls := .type cls, data := .fields #[.ref l, .int 0 0] }) s.heap.objs.size (met (xs.take 0)) := fun cls =>
      SetOf_congr ((setObjOf_fresh (knd := PySem.strKind prog w) led).setOf (Heap.get?_push_of_some _ hS) (by unfold scanBound; omega)) (fun _ => rfl) rfl
    rcases hT with rfl | rfl
    · have n1 : (Value.type "list" == Value.type "dict") = false := by decide
      have n2 := PySem.F.sub_list_set
      have n3 := PySem.F.sub_list_frozenset
      have il : (s.heap.push (bare led)).IsList l items := ⟨_, at2, rfl, nl, rfl⟩
      unfold Builtin.«set.__init__» noKeywords Builtin.Frozenset.updateFrom
      generalize hPI : pyIter = PI
      wp_walk
      subst hPI
      refine wpAny_pyIter_list il (wpAny_bind (wpAny_runValue ?_))
      refine each ((Walks.list h3 _ l ne1 items).toS) out xs len room txt (items.size - 0) 0 _ rfl (Nat.zero_le _) ⟨⟨_, Heap.get?_push_size _ rfl, rfl, rfl⟩, il.push _⟩ (first _) fun s2 mv hs => ?_
      exact wpAny_pure (wpAny_pure (last _ s2 mv hs))
    · have n1 : (Value.type "tuple" == Value.type "dict") = false := by decide
      have n2 := PySem.F.sub_tuple_set
      have n3 := PySem.F.sub_tuple_frozenset
      have il : (s.heap.push (bare led)).IsTuple l items := ⟨_, at2, rfl, nl, rfl⟩
      unfold Builtin.«set.__init__» noKeywords Builtin.Frozenset.updateFrom
      generalize hPI : pyIter = PI
      wp_walk
      subst hPI
      refine wpAny_pyIter_tuple il (wpAny_bind (wpAny_runValue ?_))
      refine each ((Walks.tuple h3 _ l ne1 items).toS) out xs len room txt (items.size - 0) 0 _ rfl (Nat.zero_le _) ⟨⟨_, Heap.get?_push_size _ rfl, rfl, rfl⟩, il.push _⟩ (first _) fun s2 mv hs => ?_
      exact wpAny_pure (wpAny_pure (last _ s2 mv hs))
  · rcases r with e | f
    · exact hr
    rcases f with u | _ | _ | _
    rotate_left
    all_goals first | exact hr.elim | skip
    obtain ⟨rfl, h2, tk, rfl, hs, kp⟩ := hr
    repeat (any_goals (first | assumption | wp_step))
    exact h _ _ hs kp
end
end TxS

set_option Elab.async false
set_option linter.all false
set_option maxRecDepth 100000
set_option maxHeartbeats 4000000
/-! t[::-1], t a tuple -/
namespace TupBack
open PySem PySem.Calls PySem.Spec PyProof.Rows HT
section
variable {prog : Program} {w : World} {A : Around} {E : Value → Shared → Prop} {s : Shared}
theorem adjust (n : Nat) : Builtin.Slice.sliceAdjust none none (-1) (n : Int) = ((n : Int) - 1, -1) := by
  unfold Builtin.Slice.sliceAdjust
  have h1 : ((-1 : Int) < 0) := by decide
  simp only [h1, if_true]
theorem places (n : Nat) : Builtin.Slice.slicePlaces ((n : Int) - 1) (-1) (-1) = n := by
  unfold Builtin.Slice.slicePlaces
  have h1 : ¬ ((-1 : Int) > 0) := by decide
  have h2 : (- (-1 : Int)) = 1 := by decide
  simp only [h1, if_false, h2, Int.ediv_one]
  split <;> omega
theorem applied {sl : Addr} {vl vu vs : Value} {n : Nat} {Q : Int × Int × Nat → Shared → Prop} (hs : s.heap.IsSliceOf sl vl vu vs) (pl : IsPart vl none) (pu : IsPart vu none) (ps : IsPart vs (some (-1)))
    (h : Q ((n : Int) - 1, -1, n) s) : wpAny (model prog w) A (Builtin.Slice.sliceApplied (.ref sl) (pure (n : Int))) Q E s := by
  obtain ⟨os, hos, hcs, hds⟩ := id hs
  unfold Builtin.Slice.sliceApplied Builtin.Slice.sliceFields
  refine wpAny_bind (wpAny_bind (wpAny_field hos hds (x := vl) rfl (wpAny_bind (wpAny_field hos hds (x := vu) rfl (wpAny_bind (wpAny_field hos hds (x := vs) rfl (wpAny_pure ?_)))))))
  refine wpAny_bind (HT.slicePart_ ps ?_)
  show wpAny _ _ (if ((-1 : Int) == 0) = true then _ else _) _ _ s
  rw [if_neg (by decide)]
  refine wpAny_bind (HT.slicePart_ pl (wpAny_bind (HT.slicePart_ pu (wpAny_bind (wpAny_pure ?_)))))
  show wpAny _ _ (match Builtin.Slice.sliceAdjust none none (-1) (n : Int) with | (lo, hi) => pure (lo, (-1 : Int), Builtin.Slice.slicePlaces lo hi (-1))) _ _ s
  rw [adjust]
  show wpAny _ _ (pure ((n : Int) - 1, (-1 : Int), Builtin.Slice.slicePlaces ((n : Int) - 1) (-1) (-1))) _ _ s
  rw [places]
  exact wpAny_pure h
theorem fm_congr {α β : Type} {f g : α → Option β} : ∀ {l : List α}, (∀ x ∈ l, f x = g x) → l.filterMap f = l.filterMap g
  | [], _ => rfl
  | a :: r, h => by
    rw [List.filterMap_cons, List.filterMap_cons, h a List.mem_cons_self, fm_congr fun x hx => h x (List.mem_cons_of_mem _ hx)]
theorem pick (xs : Array Value) : ((List.range xs.size).filterMap fun (k : Nat) => xs[(((xs.size : Int) - 1) + (k : Int) * (-1)).toNat]?).toArray = xs.toList.reverse.toArray := by
  have e : (List.range xs.size).filterMap (fun (k : Nat) => xs[(((xs.size : Int) - 1) + (k : Int) * (-1)).toNat]?) = ((List.range xs.size).map fun k => xs.size - 1 - k).filterMap (xs[·]?) := by
    rw [List.filterMap_map]
    refine fm_congr fun k hk => ?_
    have := List.mem_range.mp hk
    have e : (((xs.size : Int) - 1) + (k : Int) * (-1)).toNat = xs.size - 1 - k := by omega
    show xs[(((xs.size : Int) - 1) + (k : Int) * (-1)).toNat]? = xs[xs.size - 1 - k]?
    rw [e]
  rw [e, PySem.W.krv_range, List.filterMap_reverse, PySem.W.krv_all]
theorem getItem {t sl : Addr} {items : Array Value} {vl vu vs : Value} {Q : Value → Shared → Prop} (ht : IsTup s.heap t items) (hs : s.heap.IsSliceOf sl vl vu vs) (pl : IsPart vl none) (pu : IsPart vu none) (ps : IsPart vs (some (-1)))
    (h : Q (.ref s.heap.objs.size) { s with heap := s.heap.push { cls := .type "tuple", data := .seq items.toList.reverse.toArray } })
    (hsz : items.size ≤ sizeLine) : wpAny (model prog w) A (PySem.getItem (.ref t) (.ref sl)) Q E s := by
  have htake : sizeOk (.seq items.toList.reverse.toArray) := by
    show (items.toList.reverse.toArray).size ≤ sizeLine
    rw [List.size_toArray, List.length_reverse, Array.length_toList]
    exact hsz
  obtain ⟨os, hos, hcs, hds⟩ := id hs
  have hTs : s.TypeIs (.ref sl) "slice" := ⟨os, hos, hcs⟩
  unfold PySem.getItem
  try with_reducible refine wpAny_holding ?_
  first | refine wpAny_bind (wpAny_pure ?_) | skip
  refine wpAny_bind (wpAny_sequenceKey ht.typeIs (by decide) ?_)
  refine wpAny_bind (wpAny_callSpecial?_slot (name := Str.ofString "__getitem__") ht.typeIs PyProof.Rows.slot_tuple_getitem
    (wpAny_call_entry PyProof.Rows.slot_tuple_getitem ht.typeIs entry_tuple_getitem ?_ (args_tuple_getitem _ _)))
  show wpAny _ _ (Builtin.Tuple.tupleItemsOf (.ref t) >>= _) _ _ s
  refine wpAny_bind (tupleItemsOf_ ht ?_)
  refine wpAny_bind (wpAny_typeOf hTs ?_)
  rw [if_pos (by decide)]
  refine wpAny_bind (applied hs pl pu ps ?_)
  have hno : ¬ ((((items.size : Int) - 1) == 0 && (-1 : Int) == 1 && items.size == items.size) = true) := by
    intro q
    rw [Bool.and_eq_true, Bool.and_eq_true] at q
    exact absurd q.1.2 (by decide)
  show wpAny _ _ (if (((items.size : Int) - 1) == 0 && (-1 : Int) == 1 && items.size == items.size) = true then _ else _) _ _ s
  rw [if_neg hno, pick]
  first
    | exact wpAny_bind (m := Builtin.Tuple.tupleExact _) (wpAny_newObj_type (wpAny_pure ⟨_, rfl, wpAny_pure h⟩) htake)
    | exact wpAny_bind (m := Builtin.Tuple.tupleExact _) (wpAny_newObj_type (wpAny_bind (wpAny_pure (wpAny_pure ⟨_, rfl, wpAny_pure h⟩))) htake)
    | exact wpAny_bind (wpAny_bind (m := Builtin.Tuple.tupleExact _) (wpAny_newObj_type (wpAny_pure (wpAny_pure ⟨_, rfl, wpAny_pure h⟩)) htake))
    | exact wpAny_bind (wpAny_bind (m := Builtin.Tuple.tupleExact _) (wpAny_newObj_type (wpAny_pure ⟨_, rfl, wpAny_pure h⟩) htake))
end
end TupBack
namespace L2
open PySem PySem.Spec PyProof.Rows
def tRevT (K : PySem.W.Frag) (te : TE) : TE := fun σ H Q => te σ H fun x H1 => ∃ a xs, x = .ref a ∧ SqT K H1 a xs ∧ ∀ p, H1 p = none → Q (.ref p) (upd H1 p (.tup xs.reverse))
theorem pe_revT {X : Cx} {e : Expr} {te : TE} {k : Nat} {p1 p2 p3 pos : Pos} (he : PE X e te) : PE X (.Subscript e (.Slice none none (some (.UnaryOp .USub (.Constant (.int 1) k p1) p2)) p3) pos) (tRevT X.K te) := by
  refine ⟨fun pins s σ H Q I h => ?_⟩
  refine Subscript_ (thn (he.run pins s σ H _ I h) fun v s1 ⟨x, H1, I1, r1, q1⟩ => ?_)
  obtain ⟨a, xs, ex, hx, q⟩ := q1
  subst ex
  cases r1
  have hst : PO X (some (.UnaryOp .USub (.Constant (.int 1) k p1) p2)) (tPart (tUn (rU fun i => .int (-i)) (tC (.int 1)))) := po_some (pe_un un_neg pe_int)
  refine wpAny_Slice (thn (po_none.run pins s1 σ H1 (fun o H2 => o = none ∧ H2 = H1) I1 ⟨rfl, rfl⟩) fun vl s2 ⟨l, H2, I2, pl, el, e2⟩ => ?_)
  subst el e2
  refine thn (po_none.run pins s2 σ H2 (fun o H3 => o = none ∧ H3 = H2) I2 ⟨rfl, rfl⟩) fun vu s3 ⟨u, H3, I3, pu, eu, e3⟩ => ?_
  subst eu e3
  refine thn (hst.run pins s3 σ H3 (fun o H4 => o = some (-1) ∧ H4 = H3) I3 ⟨1, rfl, -1, rfl, rfl, rfl⟩) fun vs s4 ⟨o, H4, I4, ps, eo, e4⟩ => ?_
  subst eo e4
  have I5 : Inv X pins σ H4 { s4 with heap := s4.heap.push { cls := .type "slice", data := .fields #[vl, vu, vs] } } := I4.kept (t' := s4.toks) fun b ob q => Heap.get?_push_of_some _ q
  obtain ⟨its, r, ht, hz⟩ := I5.tuple hx
  have hlen := r.length
  show wpAny (model X.prog X.w) X.A (subscriptTail e (.Slice none none (some (.UnaryOp .USub (.Constant (.int 1) k p1) p2)) p3) (.ref a) (.ref s4.heap.objs.size)) (EP X pins σ Q) X.xe { s4 with heap := s4.heap.push { cls := .type "slice", data := .fields #[vl, vu, vs] } }
  refine tail_any (ops := [.ref a, .ref s4.heap.objs.size]) ht.typeIs (PyProof.Rows.slot_tuple_getitem.lookup) ?_ (by with_unfolding_all rfl)
  refine TupBack.getItem ht (Heap.IsSliceOf.new _ vl vu vs) pl pu ps ?_ (by rw [List.size_toArray]; omega)
  refine ⟨.ref _, _, I5.laid (t' := s4.toks) (o := .tup xs.reverse) (fun b ob q => Heap.get?_push_of_some _ q) (Nat.le_refl _) ?_, rfl, q _ (I5.hok.fresh (Nat.le_refl _))⟩
  exact ⟨by rw [List.length_reverse]; exact hz, _, r.reverse, IsTup.new _ _⟩
end L2

set_option Elab.async false
set_option linter.all false
set_option maxRecDepth 100000
set_option maxHeartbeats 2000000
/-! X(), an own exception without arguments, raised; lcm; things that stay -/
namespace L2
open PySem PySem.Spec PyProof.Rows
theorem pmk_own0 {X : Cx} {C : Addr} {bmB : List Value} {B newId initId : String} {x : Str} {p pos : Pos} (F : ExcBaseFacts B newId initId bmB) (q : PySem.W.excIn X.K C bmB newId = true) (gC : X.mg x = some (.ref C)) (kC : PySem.W.keepIn X.K (.ref C) = true) (r : Raises X (.ref C)) (hg : Gl X x)
    (hdb : (x == ("__debug__" : Str)) = false := by decide) : PMk X (.Call (.Name x p) [] [] pos) (fun _ H Q => Q (.ref C) none H) := fun pins s σ H Q I h => by
  refine wpAny_Call_Name_kw (ld_glob I hg gC (PySem.W.callWith_K0 I.kIn kC ?_) hdb)
  obtain ⟨bm, N, nm, qn, bs, hdct, sn, sub, ab, col, dd, k0, k1, k2, k3, k5, mN, hC, hN, hni, T⟩ := exc_obj I.kIn q
  exact wpAny_call_exc_subT F T hC hN hni (fun h' e hm => mk_of I hm r h (I.hok.gone hm.new)) (Nat.zero_le _)
theorem _root_.PySem.W.mg_lcm_wide {prog : Program} {w : World} {A : Around} {E : Value → Shared → Prop} {s : Shared} {Q : Value → Shared → Prop} {a b : Int} {t u : Tok} (ha : a.natAbs < 2 ^ 900) (hb : b.natAbs < 2 ^ 900) (hsz : ((((Nat.lcm 1 a.natAbs).lcm b.natAbs : Nat) : Int)).natAbs.log2 < bitsLine)
    (h : Q (.int (((Nat.lcm 1 a.natAbs).lcm b.natAbs : Nat) : Int) s.toks) { s with toks := s.toks + 1 }) : wpAny (model prog w) A (call (.builtin "math.lcm") [.int a t, .int b u]) Q E s := by
  have one : (1 : Nat) < 2 ^ 900 := by decide +kernel
  have h1 := PySem.Flt.log2_lt_of (n := max 1 a.natAbs) (by decide) (show max 1 a.natAbs < 2 ^ 900 from Nat.max_lt.mpr ⟨one, ha⟩)
  have h2 := PySem.Flt.log2_lt_of (n := max a.natAbs b.natAbs) (by decide) (show max a.natAbs b.natAbs < 2 ^ 900 from Nat.max_lt.mpr ⟨ha, hb⟩)
  exact call_function_meets PySem.W.MGF.kind_lcm PySem.W.MGF.plain_lcm PySem.W.MGF.entry_lcm (PySem.W.MGF.args_lcm _ _) (PySem.W.mg_run_lcm a t b u (by omega) (by omega) hsz).meets h
def rLcm : List V → Hp → VK → Prop := fun vs H Q => ∃ a b : Int, vs = [.int a, .int b] ∧ a.natAbs < 2 ^ 900 ∧ b.natAbs < 2 ^ 100 ∧ Q (.int ((Nat.lcm a.natAbs b.natAbs : Nat) : Int)) H
theorem cr_lcm {X : Cx} : CallR X (.builtin "math.lcm") rLcm := by
  intro pins s σ H vs us Q I r h
  obtain ⟨a, b, rfl, ha, hb, q⟩ := h
  obtain ⟨t, u, rfl⟩ := Vals.int2 r
  have e1 : Nat.lcm 1 a.natAbs = a.natAbs := by simp [Nat.lcm]
  have e2 : (((Nat.lcm 1 a.natAbs).lcm b.natAbs : Nat) : Int) = ((Nat.lcm a.natAbs b.natAbs : Nat) : Int) := by rw [e1]
  refine PySem.W.mg_lcm_wide ha (Nat.lt_trans hb (by decide +kernel)) ?_ (by rw [e2]; exact ⟨.int _, H, I.tok _, ⟨_, rfl⟩, q⟩)
  rw [e2]
  have h1 : Nat.lcm a.natAbs b.natAbs ≤ a.natAbs * b.natAbs := Nat.div_le_self _ _
  have h2 : a.natAbs * b.natAbs < 2 ^ 900 * 2 ^ 100 := Nat.mul_lt_mul'' ha hb
  have h3 : (((Nat.lcm a.natAbs b.natAbs : Nat) : Int)).natAbs < 2 ^ 1000 := by
    show Nat.lcm a.natAbs b.natAbs < 2 ^ 1000
    rw [show (2 : Nat) ^ 1000 = 2 ^ 900 * 2 ^ 100 from by rw [← Nat.pow_add]]
    exact Nat.lt_of_le_of_lt h1 h2
  exact Nat.lt_of_lt_of_le (PySem.Flt.log2_lt_of (by decide) h3) (by decide)
/-- what is no list stays -/
def NL (H H' : Hp) : Prop := ∀ a o, (∀ xs, o ≠ .lst xs) → H a = some o → H' a = some o
theorem NL.of {H H' : Hp} (s : Same H H') : NL H H' := fun a o _ e => s a o e
theorem NL.trans {H H1 H2 : Hp} (a : NL H H1) (b : NL H1 H2) : NL H H2 := fun c o n e => b c o n (a c o n e)
end L2

set_option Elab.async false
set_option linter.all false
set_option maxRecDepth 100000
set_option maxHeartbeats 2000000
/-! rules of other laws' texts -/
namespace DX
open PySem PySem.Spec PyProof.Rows L2
/-- a row, be it a list or a tuple, walked -/
def iRow (K : PySem.W.Frag) (t : TE) : TI := fun σ H R => t σ H fun x H1 => ∃ a, x = .ref a ∧ (((∃ xs, SqL K H1 a xs) ∧ R (Itl K a) H1) ∨ ((∃ xs, SqT K H1 a xs) ∧ R (Itt K a) H1))
theorem pi_row {X : Cx} {tg e : Expr} {t : TE} (he : PE X e t) : PI X tg e (iRow X.K t) := by
  constructor
  intro pins s σ H R I h
  refine thn (he.run pins s σ H _ I h) fun v s1 hh => ?_
  obtain ⟨x, H1, I1, r1, a, rfl, hh⟩ := hh
  cases r1
  have free : ∀ b ∈ [s1.heap.objs.size], FpOk X pins H1 b := fun b hb => by
    rw [List.mem_singleton.mp hb]
    exact I1.fpOk (Nat.le_refl _) (I1.hok.fresh (Nat.le_refl _))
  rcases hh with ⟨⟨xs, hq⟩, q⟩ | ⟨⟨xs, hq⟩, q⟩
  · obtain ⟨its, _, p, _⟩ := I1.list hq
    exact wpAny_pyIter_list p.isList ⟨_, [s1.heap.objs.size], _, _, H1, rfl, I1.kept (t' := s1.toks) fun b o z => Heap.get?_push_of_some _ z, turn_list a _, ⟨_, Heap.get?_push_size _ rfl, rfl, rfl⟩, free, q⟩
  · obtain ⟨its, _, p, _⟩ := I1.tuple hq
    exact wpAny_pyIter_tuple (items := its.toArray) p ⟨_, [s1.heap.objs.size], _, _, H1, rfl, I1.kept (t' := s1.toks) fun b o z => Heap.get?_push_of_some _ z, turn_tuple a _, ⟨_, Heap.get?_push_size _ rfl, rfl, rfl⟩, free, q⟩
def iEnumA (K : PySem.W.Frag) (ta : TA) : TI := fun σ H R => ta σ H fun vs H1 => ∃ a xs, vs = [.ref a] ∧ ((SqL K H1 a xs ∧ R (Ite K a) H1) ∨ (SqT K H1 a xs ∧ R (IteT K a) H1))
theorem pi_enumA {X : Cx} {e : Expr} {ta : TA} {p pos tpos : Pos} {elts : List Expr} {kk : Nat} (hg : Gl X "enumerate") (hm : X.mg "enumerate" = none) (ha : PA X [e] ta) (hs : starEach [e] X.env = [(false, eval e X.env)] := by rfl) :
    PI X (.Tuple elts kk tpos) (.Call (.Name "enumerate" p) [e] [] pos) (iEnumA X.K ta) := by
  refine ⟨fun pins s σ H R I h => ?_⟩
  refine Call_ (ld_blt I hg hm boot_enumerate (PyProof.Rows.callWith_type1 (thn (ha.run pos pins s σ H _ I h) fun us s1 ⟨vs, H1, I1, r1, a, xs, ev, z⟩ => ?_) hs rfl))
  subst ev
  cases r1 with
  | cons r rr =>
    cases rr
    cases r
    have free : ∀ b ∈ [s1.heap.objs.size + 1, s1.heap.objs.size], FpOk X pins H1 b := fun b hb => by
      have le : s1.heap.objs.size ≤ b := by
        rcases List.mem_cons.mp hb with rfl | hb
        · exact Nat.le_succ _
        · rw [List.mem_singleton.mp hb]
          exact Nat.le_refl _
      exact I1.fpOk le (I1.hok.fresh le)
    rcases z with ⟨hq, q⟩ | ⟨hq, q⟩
    · obtain ⟨its, rv, p', _⟩ := I1.list hq
      refine call_enumerate_list p'.isList fun h' en li _ hk => wpAny_pyIter_enum en ?_
      exact ⟨_, _, _, _, H1, rfl, I1.kept (t' := s1.toks) hk, turn_enum a (s1.heap.objs.size + 1) s1.heap.objs.size, ⟨⟨.none, en⟩, li, Nat.succ_ne_self _⟩, free, q⟩
    · obtain ⟨its, rv, p', _⟩ := I1.tuple hq
      refine PySem.OwnOps.call_enumT p' fun h' en ti hk => wpAny_pyIter_enum en ?_
      exact ⟨_, _, _, _, H1, rfl, I1.kept (t' := s1.toks) hk, turn_enumT a (s1.heap.objs.size + 1) s1.heap.objs.size, ⟨⟨.none, en⟩, ti, Nat.succ_ne_self _⟩, free, q⟩
end DX
namespace DX
open PySem PySem.Spec PyProof.Rows L2
theorem walk_zipT {K : PySem.W.Frag} {a b : Addr} {xs ys : List V} {n : Nat} (h1 : xs.length = n) (h2 : ys.length = n) : Walk (RZ.ItzT K a b) n (fun H => SqT K H a xs ∧ SqT K H b ys) (YPair (fun i => xs[i]?) (fun i => ys[i]?)) := by
  refine ⟨fun i _ hi q => ⟨xs, ys, xs[i], ys[i], q.1, q.2, by simp [h1, hi], by simp [h2, hi]⟩, fun _ q => ⟨xs, ys, q.1, q.2, .inl (Nat.le_of_eq h1)⟩, fun i H v H' _ q y => ?_⟩
  obtain ⟨T, x, z, e1, e2, e3, e4, e5⟩ := y
  exact ⟨T, x, z, e1, e2, e3, e4 xs q.1, e5 ys q.2⟩
end DX

set_option Elab.async false
set_option linter.all false
set_option maxRecDepth 100000
set_option maxHeartbeats 2000000
/-! what else is lifted -/
namespace DL
open PySem L2 He DX
def eTup (a : MA) : ME := fun ρ Q Ed => a ρ (fun rs => mTup rs Q Ed) Ed
def eLst (a : MA) : ME := fun ρ Q Ed => a ρ (fun rs => mLst rs Q Ed) Ed
def eChain (f g : Rv → Rv → KD → KX → Prop) (a b c : ME) : ME := fun ρ Q Ed => a ρ (fun x => b ρ (fun y => f x y (fun z => match z with
  | .d (.bl k) => if k = true then c ρ (fun u => g y u Q Ed) Ed else Q (.d (.bl false))
  | _ => False) Ed) Ed) Ed
def isNon : D → Bool
  | .non => true | _ => false
def eIsN (a : ME) : ME := fun ρ Q Ed => a ρ (fun r => match r.any with
  | some x => Q (.d (.bl (isNon x)))
  | none => False) Ed
def eNotN (a : ME) : ME := fun ρ Q Ed => a ρ (fun r => match r.any with
  | some x => Q (.d (.bl (!isNon x)))
  | none => False) Ed
def itQ (m : ME) : MI := fun ρ Kd Ed => m ρ (fun r => match r with
  | .d (.lst l) => Kd l
  | .new _ l => Kd l
  | .d (.tup l) => Kd l
  | _ => False) Ed
def signs (z : Str) : List D := z.cps.toList.map fun c => .str ⟨#[c]⟩
def itStr (m : ME) : MI := fun ρ Kd Ed => m ρ (fun r => match r with
  | .d (.str z) => Kd (signs z)
  | _ => False) Ed
def pairs (l m : List D) : List D := List.zipWith (fun x y => .tup [x, y]) l m
def nums (l : List D) : List D := pairs ((List.range l.length).map fun i => .int (i : Nat)) l
def itZip (m : MA) : MI := fun ρ Kd Ed => m ρ (fun rs => match rs with
  | [.d (.tup l), .d (.tup k)] => l.length = k.length ∧ Kd (pairs l k)
  | [.d (.lst l), .d (.lst k)] => Kd (pairs l k)
  | _ => False) Ed
def itEnumerate (m : MA) : MI := fun ρ Kd Ed => m ρ (fun rs => match rs with
  | [.d (.tup l)] => Kd (nums l)
  | [.d (.lst l)] => Kd (nums l)
  | _ => False) Ed
def sNever : MS := fun _ _ => False
def sRetN : MS := fun _ M => M.rt (.d .non)
def sAsg (e : ME) (tg : MG) : MS := fun ρ M => e ρ (fun r => match r.data with
  | some x => tg x ρ M.nx
  | none => False) M.ex
def sRev (i : Nat) : MS := fun ρ M => match ρ[i]? with
  | some (some (.own a l)) => M.nx (ρ.set i (some (.own a l.reverse)))
  | _ => False
/-- a sign in a text -/
def fInS (neg : Bool) (x y : Rv) (Q : KD) (_ : KX) : Prop := match x, y with
  | .d (.str w), .d (.str z) => (match w.cps.toList with
    | [c] => Q (.d (.bl (neg ^^ decide (c ∈ z.cps.toList))))
    | _ => False)
  | _, _ => False
abbrev fDivX := fI CDivX fun i j => .int (i.fdiv j)
abbrev fModX := fI (fun _ j => j ≠ 0) fun i j => .int (i.fmod j)
abbrev fPow := fI CPow fun i j => .int (i ^ j.toNat)
abbrev f_gcd := f2I fun a b => ((Nat.gcd a.natAbs b.natAbs : Nat) : Int)
def f_lcm (xs : List Rv) (Q : KD) (_ : KX) : Prop := match xs with
  | [.d (.int a), .d (.int b)] => a.natAbs < 2 ^ 900 ∧ b.natAbs < 2 ^ 100 ∧ Q (.d (.int ((Nat.lcm a.natAbs b.natAbs : Nat) : Int)))
  | _ => False
def fRep (x y : Rv) (Q : KD) (_ : KX) : Prop := match x.asL, y with
  | some l, .d (.int k) => -(2 ^ 63) ≤ k ∧ k < 2 ^ 63 ∧ l.length * k.toNat ≤ sizeLine ∧ ∀ a, Q (.new a (List.replicate k.toNat l).flatten)
  | _, _ => False
section
variable {K : PySem.W.Frag} {A : AS} {B : Bd} {ρ : Env} {H H' H0 H1 : Hp} {σ : St} {E : XK} {m m1 m2 m3 : ME} {t1 t2 t3 : TE} {n : Nat} {w : TA} {ma : MA}
theorem l_eTup (s : SA K E n w ma) (hn : n ≤ 1000) : SE K E (tTup w) (eTup ma) := l_tup s hn
theorem l_eLst (s : SA K E n w ma) (hn : n ≤ 1000) : SE K E (tLst w) (eLst ma) := l_lst s hn
theorem l_chain {r r' : R2} {f g : Rv → Rv → KD → KX → Prop} (hr : S2 K E r f) (hr' : S2 K E r' g) (s1 : SE K E t1 m1) (s2 : SE K E t2 m2) (s3 : SE K E t3 m3) : SE K E (tChain r r' t1 t2 t3) (eChain f g m1 m2 m3) := fun A B ρ H σ R Qd Ed Q hm k kx => by
  refine s1 A B ρ H σ R _ Ed _ hm (fun x v H1 e1 r1 hm1 => ?_) kx
  have w1 := R.wf.evo e1
  refine s2 A B ρ H1 σ (R.evo e1) _ Ed _ hm1 (fun y u H2 e2 r2 hm2 => ?_) fun x c d H' e' => kx x c d H' (e1.trans e')
  have w2 := w1.evo e2
  have e02 := e1.trans e2
  have r2' := r2.up (H0 := H) fun a z => e1.free R.strm z
  refine hr _ _ H H2 v u x y w2 (r1.evo w1 e2) r2' _ Ed _ hm2 (fun z u' H3 e3 rz hm3 => ?_) fun x c d H' e' => kx x c d H' (e02.trans e')
  have e03 := e02.trans e3
  split at hm3
  · rename_i b
    refine ⟨b, rz.bl, ?_⟩
    cases b with
    | false => exact iteF (k (.d (.bl false)) _ _ e03 (Dr.bl false) hm3)
    | true =>
      refine iteT (s3 A B ρ H3 σ (R.evo e03) _ Ed _ hm3 (fun c u3 H4 e4 r4 hm4 => ?_) fun x c d H' e' => kx x c d H' (e03.trans e'))
      have w3 := w2.evo e3
      exact hr' _ _ H H4 u u3 y c (w3.evo e4) ((r2'.evo w2 e3).evo w3 e4) (r4.up fun a z => e03.free R.strm z) Qd Ed Q hm4 (fun z u H' e' rz => k z u H' ((e03.trans e4).trans e') (rz.up fun a z => (e03.trans e4).free R.strm z)) fun x c d H' e' => kx x c d H' ((e03.trans e4).trans e')
  · exact hm3.elim
theorem rv_non {M S : AS} {v : V} {r : Rv} {x : D} (h : RepR K M S H0 H v r) (e : r.any = some x) : decide (v = .non) = isNon x := by
  cases r with
  | d y =>
    cases y <;> simp [Rv.any] at e <;> subst e <;> cases h <;> simp [isNon]
  | strm a => cases e; obtain ⟨rfl, _⟩ := h; simp [isNon]
  | new a l => cases e; obtain ⟨rfl, _⟩ := h; simp [isNon]
  | bor a l => cases e; obtain ⟨rfl, _⟩ := h; simp [isNon]
  | tp a l => cases e; obtain ⟨rfl, _⟩ := h; simp [isNon]
theorem l_isN (s : SE K E t1 m1) : SE K E (tIsN t1) (eIsN m1) := fun A B ρ H σ R Qd Ed Q hm k kx => by
  refine s A B ρ H σ R _ Ed _ hm (fun r v H1 e1 rr h => ?_) kx
  split at h
  · rename_i x e
    refine k (.d (.bl _)) _ _ e1 ?_ h
    rw [rv_non rr e]
    exact Dr.bl _
  · exact h.elim
theorem l_notN (s : SE K E t1 m1) : SE K E (tNotN t1) (eNotN m1) := fun A B ρ H σ R Qd Ed Q hm k kx => by
  refine s A B ρ H σ R _ Ed _ hm (fun r v H1 e1 rr h => ?_) kx
  split at h
  · rename_i x e
    refine k (.d (.bl _)) _ _ e1 ?_ h
    rw [rv_non rr e]
    exact Dr.bl _
  · exact h.elim
/-! what is walked -/
theorem i_row (s : SE K E t1 m1) : SI K E (iRow K t1) (itQ m1) := fun A B ρ H σ R Kd Ed Rk hm k kx => by
  refine s A B ρ H σ R _ Ed _ hm (fun r v H1 e1 rr h => ?_) kx
  split at h
  · rename_i l
    cases rr with
    | lst q n al => exact ⟨_, rfl, .inl ⟨⟨_, SqL.of q⟩, k l _ H1 e1 (yl_list q n al) h⟩⟩
  · rename_i a l
    obtain ⟨rfl, n, nm, vs, q, al⟩ := rr
    exact ⟨_, rfl, .inl ⟨⟨_, SqL.of q⟩, k l _ H1 e1 (yl_list q nm (al.grow fun b z => .inl (.inl z))) h⟩⟩
  · rename_i l
    obtain ⟨a, vs, rfl, q, al⟩ := Dr.sqt rr
    obtain ⟨y, z⟩ := yl_tup (vs := vs) rr
    exact ⟨_, rfl, .inr ⟨z, k l _ H1 e1 y h⟩⟩
  · exact h.elim
theorem yl_str {z : Str} {M : AS} : Yl K M (Its z) (signs z) H1 := by
  have ln : (signs z).length = z.cps.size := by unfold signs; rw [List.length_map, Array.length_toList]
  refine ⟨_, _, by rw [ln]; exact walk_str, fun _ _ => trivial, fun i H' v H'' hi kp y => ?_⟩
  obtain ⟨rfl, c, hc, rfl⟩ := y
  refine ⟨Same.refl _, .str ⟨#[c]⟩, ?_, fun M' _ _ => .str _⟩
  unfold signs
  rw [List.getElem?_map, Array.getElem?_toList, hc]
  rfl
theorem i_str (s : SE K E t1 m1) : SI K E (iStr t1) (itStr m1) := fun A B ρ H σ R Kd Ed Rk hm k kx => by
  refine s A B ρ H σ R _ Ed _ hm (fun r v H1 e1 rr h => ?_) kx
  split at h
  · cases rr
    exact ⟨_, rfl, k _ _ H1 e1 yl_str h⟩
  · exact h.elim
/-- pairs, made at each turn -/
theorem yl_pair {J : It} {l m : List D} {xs ys : List V} {M : AS} {G : Hp → Prop} (wk : Walk J (pairs l m).length G (YPair (fun i => xs[i]?) (fun i => ys[i]?))) (hG : ∀ H', Keep M H1 H' → G H') (al : DrL K M H1 xs l) (bl : DrL K M H1 ys m) : Yl K M J (pairs l m) H1 := by
  refine ⟨_, _, wk, hG, fun i H' v H'' hi kp y => ?_⟩
  obtain ⟨T, x, z, rfl, nT, rfl, hx, hz⟩ := y
  obtain ⟨dx, hdx, rx⟩ := al.get hx
  obtain ⟨dz, hdz, rz⟩ := bl.get hz
  refine ⟨new_same nT, .tup [dx, dz], ?_, fun M' g g' => ?_⟩
  · unfold pairs
    rw [List.getElem?_zipWith, hdx, hdz]
  · have kp' : Keep M H1 (upd H' T (.tup [x, z])) := fun a o n q => new_same nT a o (kp a o n q)
    exact Dr.tup (.inl upd_same) (fun q => g' T q nT) (.cons (keep_dr rx kp' g) (.cons (keep_dr rz kp' g) .nil))
theorem sqt_keep {a : Addr} {xs : List V} {M : AS} {l : List D} (h : Dr K M H1 (.ref a) (.tup l)) (q : SqT K H1 a xs) : True := trivial
theorem pairs_length (l m : List D) : (pairs l m).length = min l.length m.length := by unfold pairs; rw [List.length_zipWith]
/-- a tuple, as it stays -/
theorem tup_keep {v : V} {l : List D} {M : AS} (h : Dr K M H1 v (.tup l)) : ∃ a vs, v = .ref a ∧ SqT K H1 a vs ∧ DrL K M H1 vs l ∧ ∀ H', Keep M H1 H' → SqT K H' a vs := by
  cases h with
  | tup q n al =>
    refine ⟨_, _, rfl, .inl q, al, fun H' kp => ?_⟩
    rcases q with q | ⟨o, q⟩
    · exact .inl (.inl (kp _ _ n q))
    · exact .inl (.inr ⟨o, kp _ _ n q⟩)
  | tupW q al => exact ⟨_, _, rfl, q H1, al, fun H' _ => q H'⟩
theorem i_zip (s : SA K E n w ma) : SI K E (RZ.iZipA K w) (itZip ma) := fun A B ρ H σ R Kd Ed Rk hm k kx => by
  refine s A B ρ H σ R _ Ed _ hm (fun rs vs H1 e1 rr l h => ?_) kx
  split at h
  · rename_i l1 l2
    obtain ⟨v, u, rfl, r1, r2⟩ := RepRs.two rr
    obtain ⟨a, xs, rfl, q1, al, k1⟩ := tup_keep r1
    obtain ⟨b, ys, rfl, q2, bl, k2⟩ := tup_keep r2
    refine ⟨a, b, xs, ys, rfl, .inr ⟨q1, q2, k _ _ H1 e1 (yl_pair (wk := walk_zipT (by rw [pairs_length, al.length]; omega) (by rw [pairs_length, bl.length]; omega)) (fun H' kp => ⟨k1 H' kp, k2 H' kp⟩) al bl) h.2⟩⟩
  · rename_i l1 l2
    obtain ⟨v, u, rfl, r1, r2⟩ := RepRs.two rr
    cases r1 with
    | lst q1 n1 al => cases r2 with
      | lst q2 n2 bl =>
        exact ⟨_, _, _, _, rfl, .inl ⟨SqL.of q1, SqL.of q2, k _ _ H1 e1 (yl_pair (wk := walk_zip (by rw [pairs_length, al.length, bl.length])) (fun H' kp => ⟨SqL.of (kp _ _ n1 q1), SqL.of (kp _ _ n2 q2)⟩) al bl) h⟩⟩
  · exact h.elim
theorem nums_dr {M : AS} : ∀ (n : Nat), DrL K M H1 ((List.range n).map fun i => V.int (i : Nat)) ((List.range n).map fun i => D.int (i : Nat)) := fun n => by
  generalize List.range n = l
  induction l with
  | nil => exact .nil
  | cons x l ih => exact .cons (.int _) ih
theorem yl_num {J : It} {l : List D} {ys : List V} {M : AS} {G : Hp → Prop} (wk : Walk J ys.length G (YPair (fun i => some (.int (i : Nat))) (fun i => ys[i]?))) (hG : ∀ H', Keep M H1 H' → G H') (bl : DrL K M H1 ys l) : Yl K M J (nums l) H1 := by
  refine yl_pair (xs := (List.range l.length).map fun i => V.int (i : Nat)) (G := G) (ys := ys) ⟨fun i H hi g => wk.goes i H ?_ g, fun H g => ?_, fun i H x H' hi g y => ?_⟩ hG (nums_dr _) bl
  · have := pairs_length ((List.range l.length).map fun i => D.int (i : Nat)) l
    rw [List.length_map, List.length_range, Nat.min_self] at this
    rw [bl.length]
    omega
  · have := pairs_length ((List.range l.length).map fun i => D.int (i : Nat)) l
    rw [List.length_map, List.length_range, Nat.min_self] at this
    rw [this, ← bl.length]
    exact wk.stops H g
  · have := pairs_length ((List.range l.length).map fun i => D.int (i : Nat)) l
    rw [List.length_map, List.length_range, Nat.min_self] at this
    have hi' : i < l.length := by omega
    obtain ⟨T, a, b, e1, e2, e3, e4, e5⟩ := wk.yields i H x H' (by rw [bl.length]; exact hi') g y
    refine ⟨T, a, b, e1, e2, e3, ?_, e5⟩
    show ((List.range l.length).map fun i => V.int (i : Nat))[i]? = some a
    rw [List.getElem?_map, List.getElem?_range hi']
    exact e4
theorem i_enumerate (s : SA K E n w ma) : SI K E (iEnumA K w) (itEnumerate ma) := fun A B ρ H σ R Kd Ed Rk hm k kx => by
  refine s A B ρ H σ R _ Ed _ hm (fun rs vs H1 e1 rr l h => ?_) kx
  split at h
  · rename_i l1
    obtain ⟨v, rfl, r1⟩ := RepRs.one rr
    obtain ⟨a, xs, rfl, q1, al, k1⟩ := tup_keep r1
    exact ⟨a, xs, rfl, .inr ⟨q1, k _ _ H1 e1 (yl_num walk_enumT k1 al) h⟩⟩
  · rename_i l1
    obtain ⟨v, rfl, r1⟩ := RepRs.one rr
    cases r1 with
    | lst q1 n1 al => exact ⟨_, _, rfl, .inl ⟨SqL.of q1, k _ _ H1 e1 (yl_num walk_enum (fun H' kp => SqL.of (kp _ _ n1 q1)) al) h⟩⟩
  · exact h.elim
/-! statements -/
theorem w_never : SS K E tNever sNever := fun A B ρ H σ R M Dn hm L => hm.elim
theorem w_retN : SS K E tRetN sRetN := fun A B ρ H σ R M Dn hm L => L.rt (.d .non) _ H R.bv .non hm
theorem w_asg {ts : List Nat} {g : TG} {tg : MG} (s : SE K E t1 m1) (sg : SG K ts g tg) : SS K E (tAsg t1 g) (sAsg m1 tg) := fun A B ρ H σ R M Dn hm L => by
  refine s A B ρ H σ R _ _ _ hm (fun r v H1 e1 rr h => ?_) (L.exE R)
  split at h
  · rename_i x e
    exact sg A B ρ H1 σ (R.evo e1) v x (rr.dr e) _ _ h fun ρ' σ' R' _ _ _ h' => L.nx ρ' H1 σ' R' h'
  · exact h.elim
theorem DrL.reverse {M : AS} : ∀ {vs : List V} {l : List D}, DrL K M H vs l → DrL K M H vs.reverse l.reverse
  | _, _, .nil => .nil
  | _, _, .cons h t => by
    rw [List.reverse_cons, List.reverse_cons]
    exact DrL.append (DrL.reverse t) (.cons h .nil)
theorem w_rev {i : Nat} : SS K E (tDrop (tBM0 K "list" rReverse (tVar i))) (sRev i) := fun A B ρ H σ R M Dn hm L => by
  unfold sRev at hm
  split at hm
  · rename_i a l hi
    obtain ⟨v, hv, rfl, vs, q, al⟩ := R.at_ i _ hi
    refine ⟨_, hv, .inl ⟨rfl, _, SqL.of q⟩, a, vs, rfl, rfl, q, ?_⟩
    refine L.nx _ _ _ (R.upd hi rfl (fun b z => by cases z) rfl (fun b z => by cases z) fun w hw => ?_) hm
    obtain ⟨rfl, vs2, q2, al2⟩ := hw
    rw [q] at q2
    cases q2
    have ma : Mo A ρ a := .inr ⟨_, at_mem hi, rfl⟩
    have kp : ∀ (b : Addr) (u' : HO), ¬ (b = a) → H b = some u' → L2.upd H a (.lst vs.reverse) b = some u' := fun b u' n q => by rw [upd_ne n]; exact q
    exact ⟨rfl, _, upd_same, (al.reverse).go (S := fun b => b = a) (fun b z => by rw [z]; exact ma) kp fun _ z => .inl z⟩
  · exact hm.elim
theorem s_inS {neg : Bool} : S2 K E (fun x y H Q => ∃ (c : Nat) (z : Str), x = .str ⟨#[c]⟩ ∧ y = .str z ∧ Q (.bl (neg ^^ decide (c ∈ z.cps.toList))) H) (fInS neg) := fun M S H0 H v w x y wf rx ry Qd Ed Q hf k kx => by
  unfold fInS at hf
  split at hf
  · rename_i z1 z2
    split at hf
    · rename_i c e
      cases rx
      cases ry
      refine ⟨c, z2, ?_, rfl, k (.d (.bl _)) _ _ (Evo.refl _ _) (Dr.bl _) hf⟩
      obtain ⟨⟨l⟩⟩ := z1
      cases e
      rfl
    · exact hf.elim
  · exact hf.elim
theorem s_inS0 : S2 K E rInS (fInS false) := fun M S H0 H v w x y wf rx ry Qd Ed Q hf k kx => by
  obtain ⟨c, z, e1, e2, q⟩ := s_inS (neg := false) M S H0 H v w x y wf rx ry Qd Ed Q hf k kx
  rw [Bool.false_xor] at q
  exact ⟨c, z, e1, e2, q⟩
theorem s_inS1 : S2 K E rNotInS (fInS true) := fun M S H0 H v w x y wf rx ry Qd Ed Q hf k kx => by
  obtain ⟨c, z, e1, e2, q⟩ := s_inS (neg := true) M S H0 H v w x y wf rx ry Qd Ed Q hf k kx
  rw [Bool.true_xor] at q
  exact ⟨c, z, e1, e2, q⟩
theorem s_gcd : SN K E rGcd f_gcd := s_2I (g := fun a b => ((Nat.gcd a.natAbs b.natAbs : Nat) : Int))
theorem s_lcm : SN K E rLcm f_lcm := fun M S H0 H vs xs wf rs Qd Ed Q hf k kx => by
  unfold f_lcm at hf
  split at hf
  · obtain ⟨v, w, rfl, r, q⟩ := rs.two
    cases r
    cases q
    exact ⟨_, _, rfl, hf.1, hf.2.1, k (.d (.int _)) _ _ (Evo.refl _ _) (Dr.int _) hf.2.2⟩
  · exact hf.elim
theorem DrL.rep {M : AS} {vs : List V} {l : List D} (h : DrL K M H vs l) : ∀ n : Nat, DrL K M H (List.replicate n vs).flatten (List.replicate n l).flatten
  | 0 => .nil
  | n + 1 => by
    rw [List.replicate_succ, List.replicate_succ, List.flatten_cons, List.flatten_cons]
    exact h.append (DrL.rep h n)
theorem s_rep : S2 K E rRep fRep := fun M S H0 H v w x y wf rx ry Qd Ed Q hf k kx => by
  unfold fRep at hf
  split at hf
  · rename_i l i e
    obtain ⟨a, vs, rfl, q, al⟩ := rx.sl e
    cases ry
    refine ⟨a, i, vs, rfl, rfl, q, hf.1, hf.2.1, by rw [al.length]; exact hf.2.2.1, fun p hp => ?_⟩
    obtain ⟨e2, rp⟩ := new_list wf (al.rep i.toNat) hp
    exact k (.new p _) _ _ e2 rp (hf.2.2.2 p)
  · exact hf.elim
/-- l.index(x) of scalars -/
def idx (v : V) : List V → Option Nat
  | [] => none
  | u :: us => if eqV u v = true then some 0 else (idx v us).map (· + 1)
def eIndex (o : ME) (a : MA) : ME := fun ρ Q Ed => o ρ (fun r => match r.asL with
  | some l => a ρ (fun rs => match rs with
    | [y] => (match y.sc, scs l with
      | some v, some us => (match idx v us with
        | some j => Q (.d (.int (j : Nat)))
        | none => False)
      | _, _ => False)
    | _ => False) Ed
  | none => False) Ed
theorem idx_ok {v : V} : ∀ {us : List V} {j : Nat}, idx v us = some j → ∃ z, us[j]? = some z ∧ eqV z v = true ∧ ∀ (m : Nat) z', m < j → us[m]? = some z' → eqV z' v = false
  | [], j, h => by cases h
  | u :: us, j, h => by
    unfold idx at h
    by_cases c : eqV u v = true
    · rw [if_pos c] at h
      cases h
      exact ⟨u, rfl, c, fun m z' hm => absurd hm (Nat.not_lt_zero m)⟩
    · rw [if_neg c] at h
      obtain ⟨i, hi, rfl⟩ := Option.map_eq_some_iff.mp h
      obtain ⟨z, h1, h2, h3⟩ := idx_ok hi
      refine ⟨z, h1, h2, fun m z' hm hz => ?_⟩
      cases m with
      | zero => cases hz; exact Bool.eq_false_iff.mpr c
      | succ m => exact h3 m z' (by omega) hz
theorem l_index (s1 : SE K E t1 m1) (s : SA K E n w ma) : SE K E (tBM K "list" (rIndex K) t1 w) (eIndex m1 ma) := fun A B ρ H σ R Qd Ed Q hm k kx => by
  refine s1 A B ρ H σ R _ Ed _ hm (fun r v H1 e1 r1 h => ?_) kx
  split at h
  · rename_i l el
    obtain ⟨a, vs, rfl, q, al⟩ := r1.sl el
    refine ⟨.inl ⟨rfl, _, SqL.of q⟩, ?_⟩
    refine s A B ρ H1 σ (R.evo e1) _ Ed _ h (fun rs us H2 e2 r2 l2 h2 => ?_) fun x c d H' e' => kx x c d H' (e1.trans e')
    split at h2
    · rename_i y
      have w1 := R.wf.evo e1
      obtain ⟨b, vs2, eb, q2, al2⟩ := (r1.evo w1 e2).sl el
      cases eb
      obtain ⟨u, rfl, ry⟩ := RepRs.one r2
      split at h2
      · rename_i v us ey es
        split at h2
        · rename_i j ej
          have := scs_eq al2 es
          subst this
          rw [ry.sc ey]
          obtain ⟨z, h1, h2', h3⟩ := idx_ok ej
          have fx : flatV v = true := by
            cases y with
            | d x => exact sc_flat ey
            | _ => cases ey
          exact ⟨a, vs2, v, j, z, rfl, rfl, SqL.of q2, fx, scs_flat es, h1, h2', h3, k (.d (.int _)) _ _ (e1.trans e2) (Dr.int _) h2⟩
        · exact h2.elim
      · exact h2.elim
    · exact h2.elim
  · exact h.elim
end
end DL

set_option Elab.async false
set_option linter.all false
set_option maxRecDepth 100000
set_option maxHeartbeats 2000000
/-! what of a law's text is asked; errors made; streams drawn -/
namespace DL
open PySem L2 He DX
/-- names that the text does not bind -/
structure TT (mg : Str → Option Value) : Prop where
  isinst : mg "isinstance" = none
  int : mg "int" = none
  bool : mg "bool" = none
  str : mg "str" = none
  list : mg "list" = none
  tuple : mg "tuple" = none
  dict : mg "dict" = none
  set : mg "set" = none
  abs : mg "abs" = none
  len : mg "len" = none
  range : mg "range" = none
  min : mg "min" = none
  max : mg "max" = none
  all : mg "all" = none
  any : mg "any" = none
  sum : mg "sum" = none
  sorted : mg "sorted" = none
  enum : mg "enumerate" = none
  zip : mg "zip" = none
  repr : mg "repr" = none
/-- an error class without fields -/
structure EX0 (K : PySem.W.Frag) (N : Addr) : Prop where
  q : PySem.W.excIn K N [.type "ValueError", .type "Exception", .type "BaseException", .type "object"] "ValueError.__new__" = true
  kN : PySem.W.keepIn K (.ref N) = true
  ex : PySem.W.subIn K (.ref N) (.type "BaseException") = some true
  ty : PySem.W.typeIn K (.ref N) = some (.type "type")
/-- an error class with the fields ns -/
structure EXn (K : PySem.W.Frag) (N : Addr) (ns : List Str) : Prop where
  ox : OexC K N
  no : ∀ n ∈ ns, PySem.W.findIn K (.ref N) n = some none
abbrev FnP (K : PySem.W.Frag) (x q : Str) (st : Stmt) (dvs : List V) (f : Addr) (fd : FuncData) : Prop := FunD K x q (defArgs st) (defBody st) (defScope st) dvs [] f fd
def mgInt (mg : Str → Option Value) (x : Str) (i : Int) : Prop := ∃ t, mg x = some (.int i t)
/-- a text that the text binds -/
def mgStr (mg : Str → Option Value) (x z : Str) : Prop := ∃ t, mg x = some (.str z t)
section
variable (P : Program) (w : World) (K : PySem.W.Frag) (mg : Str → Option Value) (base : Heap)
def GloOk (CX : CXT) (k : Nat) (x : Str) (ps : List Str) (sp : Sp) : Prop := ∃ f fd, FnOk P w K mg base CX k f fd ps sp ∧ mg x = some (.ref f) ∧ PySem.W.keepIn K (.ref f) = true ∧ Binds K fd ps []
def MthOk (C : Addr) (CX : CXT) (k : Nat) (m : Str) (ps : List Str) (sp : Sp) : Prop := ∃ f fd, FnOk P w K mg base CX k f fd ps sp ∧ Meth K C m f ∧ Binds K fd ps []
def MkOk (C : Addr) (CX : CXT) (k : Nat) (ps : List Str) (sp : Sp) : Prop := ∃ f fd, FnOk P w K mg base CX k f fd ps sp ∧ Mk K C f ∧ Binds K fd ps []
def MkDOk (C : Addr) (CX : CXT) (k : Nat) (ps : List Str) (dvs : List V) (sp : Sp) : Prop := ∃ f fd, FnOk P w K mg base CX k f fd ps sp ∧ Mk K C f ∧ Binds K fd ps [] ∧ ∃ ds, Vals dvs ds ∧ Binds K fd ps ds
def ErrOk (E : Addr) (k : Nat) (ps : List Str) (sp : Sp) : Prop := ∃ f fd, FnOk P w K mg base CX0 k f fd ps sp ∧ PySem.W.findIn K (.ref E) "__init__" = some (some (.ref f)) ∧ PySem.W.typeIn K (.ref f) = some (.type "function") ∧ Binds K fd ps []
end
/-- the reading is the one that this lift reads -/
theorem pe_by (K : PySem.W.Frag) {X : Cx} {e : Expr} {t : TE} {E : XK} (m : ME) (s : SE K E t m) (d : PE X e t) : PE X e t := d
theorem pt_by (K : PySem.W.Frag) {X : Cx} {e : Expr} {q : L2.TT} {E : XK} (c : MT) (s : ST K E q c) (d : PT X e q) : PT X e q := d
def mDraw : MF := fun as Q _ => ∃ a m, as = [.strm a, .d (.int m)] ∧ 0 < m ∧ m.natAbs < 2 ^ 8000 ∧ ∀ d : Int, 0 ≤ d → d < m → Q (.d (.int d))
def mStream : MF := fun as Q _ => ∃ ns k, as = [.d (.scr ns), .d (.int (k : Nat))] ∧ k < 1000 ∧ ∀ a c f n, Q (.new a [.int c, .int f, .int n])
def cmB : Nat := 2 ^ 4900
def mCommon : MF := fun as Q _ => ∃ a b : Nat, as = [.d (.int (a : Int)), .d (.int (b : Int))] ∧ b < cmB ∧ Q (.d (.int ((Nat.gcd a b : Nat) : Int)))
section
variable {K : PySem.W.Frag} {H : Hp} {vs : List V} {Q : VK} {X : XK}
theorem sp_draw (z : spD K 2 mDraw vs H Q X) : ∃ (l : Addr) (m : Int), vs = [.ref l, .int m] ∧ IsStrm H l ∧ 0 < m ∧ m.natAbs < 2 ^ 8000 ∧ ∀ (d : Int) H', 0 ≤ d → d < m → (∀ b o, b ≠ l → H b = some o → H' b = some o) → IsStrm H' l → Q (.int d) H' := by
  obtain ⟨A, as, l, r, amb, nd, Qd, Ed, ⟨a, m, rfl, h1, h2, h3⟩, k, kx⟩ := z
  match vs, r with
  | [v, u], ⟨r1, r2, _⟩ =>
    obtain ⟨rfl, s, _⟩ := r1
    cases r2
    refine ⟨a, m, rfl, s, h1, h2, fun d H' p q b s' => k (.d (.int d)) _ H' ⟨fun c o n e => b c o (fun z => n (by rw [z]; exact List.mem_cons_self)) e, fun c hc _ => ?_⟩ (.int d) (h3 d p q)⟩
    have : c = a := by
      have hc' : Sl.strm c ∈ [Sl.strm a, Sl.d (.int m)] := hc
      simpa using hc'
    rw [this]; exact s'
theorem sp_stream (z : spD K 2 mStream vs H Q X) : ∃ (a : Addr) (ns : List Int) (k : Nat), vs = [.ref a, .int k] ∧ SqL K H a (ns.map V.int) ∧ k < 1000 ∧ ∀ p H', Same H H' → H p = none → IsStrm H' p → Q (.ref p) H' := by
  obtain ⟨A, as, l, r, amb, nd, Qd, Ed, ⟨ns, i, rfl, h1, h2⟩, k, kx⟩ := z
  match vs, r with
  | [v, u], ⟨r1, r2, _⟩ =>
    have r1' : Dr K A H v (.scr ns) := r1
    cases r2
    have go : ∀ a, SqL K H a (ns.map V.int) → ∃ (a' : Addr) (ns' : List Int) (j : Nat), [V.ref a, V.int (i : Nat)] = [.ref a', .int j] ∧ SqL K H a' (ns'.map V.int) ∧ j < 1000 ∧ ∀ p H', Same H H' → H p = none → IsStrm H' p → Q (.ref p) H' := fun a q =>
      ⟨a, ns, i, rfl, q, h1, fun p H' s n ⟨c, f, m, e⟩ => k (.new p [.int c, .int f, .int m]) _ H' (Evo.of s) ⟨rfl, .inl n, fun z => amb _ z n, _, e, .cons (.int _) (.cons (.int _) (.cons (.int _) .nil))⟩ (h2 p c f m)⟩
    cases r1' with
    | scr q n => exact go _ (.inl q)
    | scrW q => exact go _ (q H)
theorem sp_common (z : spD K 2 mCommon vs H Q X) : ∃ a b : Nat, vs = [.int (a : Int), .int (b : Int)] ∧ b < 2 ^ 4900 ∧ Q (.int ((Nat.gcd a b : Nat) : Int)) H := by
  obtain ⟨A, as, l, r, amb, nd, Qd, Ed, ⟨a, b, rfl, h1, h2⟩, k, kx⟩ := z
  match vs, r with
  | [v, u], ⟨r1, r2, _⟩ =>
    cases r1
    cases r2
    exact ⟨a, b, rfl, h1, k (.d (.int _)) _ H (Evo.refl _ _) (.int _) h2⟩
/-! errors made: their fields stored one by one -/
theorem upd_swap {H : Hp} {a d : Addr} {x y z : HO} (ne : d ≠ a) : upd (upd (upd H d x) a y) d z = upd (upd H d z) a y := by
  funext b
  unfold upd
  by_cases c : b = a
  · subst c
    have : b ≠ d := fun z => ne z.symm
    simp [this]
  · by_cases e : b = d
    · subst e; simp [c]
    · simp [c, e]
/-- two fields stored -/
theorem upd_two {H : Hp} {a d : Addr} {x y z : HO} (ne : d ≠ a) : upd (upd (upd H d x) a y) d z = upd (upd H d z) a y := upd_swap ne
end
end DL

set_option Elab.async false
set_option linter.all false
set_option maxRecDepth 100000
set_option maxHeartbeats 4000000
namespace L2
open PySem PySem.Spec PyProof.Rows
/-- len(set(row)), the row all texts -/
def tLenTx (K : PySem.W.Frag) (ta : TE) : TE := fun σ H Q => ta σ H fun x H1 => ∃ l, ∃ xs : List Str, x = .ref l ∧ (SqL K H1 l (xs.map V.str) ∨ SqT K H1 l (xs.map V.str)) ∧ xs.length ≤ 100 ∧ Q (.int ((TxS.met xs).length : Int)) H1
theorem strs_get {xs : List Str} {us : List Value} (r : Vals (xs.map V.str) us) (i : Nat) (v : Value) (h : us.toArray[i]? = some v) : ∃ x t, xs[i]? = some x ∧ v = Value.str x t := by
  rw [List.getElem?_toArray] at h
  obtain ⟨t, e⟩ := SS.strs_at (strsAre_of r) i v h
  have l := r.length
  rw [List.length_map] at l
  have hi : i < xs.length := by
    have := (List.getElem?_eq_some_iff.mp h).1
    omega
  refine ⟨xs[i], t, List.getElem?_eq_getElem hi, ?_⟩
  rw [e, List.getD_eq_getElem?_getD, List.getElem?_eq_getElem hi]
  rfl
section
variable {X : Cx}
theorem pe_lenTx {a : Expr} {ta : TE} {p p2 q pos : Pos} (hc : X.calm = true) (hg : Gl X "len") (hm : X.mg "len" = none) (hg2 : Gl X "set") (hm2 : X.mg "set" = none) (ha : PE X a ta) (na : starEach [a] X.env = (false, eval a X.env) :: starEach [] X.env := by rfl) :
    PE X (.Call (.Name "len" p) [.Call (.Name "set" p2) [a] [] q] [] pos) (tLenTx X.K ta) := by
  constructor
  intro pins s σ H Q I h
  refine Call_ (ld_blt I hg hm boot_len (PyProof.Rows.callWith_builtin1 (PyProof.Rows.args_cons ?_ rfl) rfl rfl))
  refine Call_ (ld_blt I hg2 hm2 boot_set (PyProof.Rows.callWith_type1 (PyProof.Rows.args_cons (thn (ha.run pins s σ H _ I h) fun v s1 hh => PyProof.Rows.args_nil ?_) na) na rfl))
  obtain ⟨x, H1, I1, r1, l, xs, rfl, hq, h1, q1⟩ := hh
  cases r1
  have fin : ∀ (h' : Heap) (tk : Nat), TxS.Has X.prog X.w h' s1.heap.objs.size (TxS.met xs) → (∀ b o, b < s1.heap.objs.size → s1.heap.get? b = some o → h'.get? b = some o) →
      wpAny (model X.prog X.w) X.A (spliced (backTo pos (starEach [] X.env))) (fun vs s2 => wpAny (model X.prog X.w) X.A (call (.builtin "len") (Value.ref s1.heap.objs.size :: vs)) (EP X pins σ Q) X.xe s2) X.xe { s1 with heap := h', toks := tk } := fun h' tk hs kp => by
    obtain ⟨o, es, ep, t, ho, hex, hd, _, _, _, hf, hn⟩ := hs
    have I2 : Inv X pins σ H1 { s1 with heap := h', toks := tk } := I1.kept fun b o e => kp b o (Heap.lt_size e) e
    have le := (TxS.met_nodup xs).1
    exact PyProof.Rows.args_nil (call_len_set ho hex hd hf (by rw [hn]; omega) ⟨.int _, H1, I2.tok _, ⟨_, by rw [hn]⟩, q1⟩)
  have room : 100 + 1 < scanBound := by unfold scanBound; omega
  rcases hq with hq | hq
  · obtain ⟨its, r, pl, hz⟩ := I1.list hq
    obtain ⟨⟨oc, od, odt, osl⟩, ho, hc', nl, hdl⟩ := pl.isList
    dsimp only at hc' hdl
    subst hc' hdl
    have ln := r.length
    rw [List.length_map] at ln
    exact TxS.made (.inl rfl) (I1.ok.hd hc) ho (strs_get r) (by rw [List.size_toArray, ← ln]) (by rw [List.size_toArray, ← ln]; omega) fun h' tk hs kp => fin h' tk hs kp
  · obtain ⟨its, r, pl, hz⟩ := I1.tuple hq
    obtain ⟨⟨oc, od, odt, osl⟩, ho, hc', nl, hdl⟩ := (show s1.heap.IsTuple l its.toArray from pl)
    dsimp only at hc' hdl
    subst hc' hdl
    have ln := r.length
    rw [List.length_map] at ln
    exact TxS.made (.inr rfl) (I1.ok.hd hc) ho (strs_get r) (by rw [List.size_toArray, ← ln]) (by rw [List.size_toArray, ← ln]; omega) fun h' tk hs kp => fin h' tk hs kp
end
end L2

set_option Elab.async false
set_option linter.all false
set_option maxRecDepth 100000
set_option maxHeartbeats 2000000
/-! slices, lengths of sets of texts, stars, rows that are constants -/
namespace DL
open PySem L2 He DX
def cutD (l : List D) (lo hi : Option Int) : List D := (l.drop (HT.sIx l.length 0 lo)).take (HT.sIx l.length l.length hi - HT.sIx l.length 0 lo)
abbrev MO := Env → (Option Int → Prop) → KX → Prop
def SO (K : PySem.W.Frag) (E : XK) (t : TO) (m : MO) : Prop := ∀ A B ρ H σ, RepS K A B ρ H σ → ∀ (Kd : Option Int → Prop) (Ed : KX) (Rk : Option Int → Hp → Prop), m ρ Kd Ed → (∀ x H', Evo (Ss ρ) H H' → Kd x → Rk x H') →
  (∀ x c d H', Evo (Ss ρ) H H' → RepX K (Mo A ρ) H' c d x → Ed x → E c d H') → t σ H Rk
def oNo : MO := fun _ Kd _ => Kd none
def oSo (m : ME) : MO := fun ρ Kd Ed => m ρ (fun r => match r with
  | .d (.int i) => Kd (some i)
  | _ => False) Ed
def SSl (K : PySem.W.Frag) (r : V → Option Int → Option Int → Hp → VK → Prop) (f : Rv → Option Int → Option Int → KD → Prop) : Prop :=
  ∀ M S H0 H v x lo hi, Wf M S H → RepR K M S H0 H v x → ∀ (Qd : KD) (Q : VK), f x lo hi Qd → (∀ z u H', Evo S H H' → RepR K M S H H' u z → Qd z → Q u H') → r v lo hi H Q
def eSl (f : Rv → Option Int → Option Int → KD → Prop) (m : ME) (lo hi : MO) : ME := fun ρ Q Ed => m ρ (fun x => lo ρ (fun l => hi ρ (fun u => f x l u Q) Ed) Ed) Ed
def fSlL (x : Rv) (lo hi : Option Int) (Q : KD) : Prop := match x.asL with
  | some l => ∀ a, Q (.new a (cutD l lo hi))
  | none => False
def fSlT (x : Rv) (lo hi : Option Int) (Q : KD) : Prop := match x.asT with
  | some l => ¬ (HT.sIx l.length 0 lo = 0 ∧ HT.sIx l.length l.length hi = l.length) ∧ Q (.d (.tup (cutD l lo hi)))
  | none => False

def fSlX (x : Rv) (lo hi : Option Int) (Q : KD) : Prop := match x with
  | .d (.str z) => z.length ≤ sizeLine ∧ Q (.d (.str (PySem.Txt.slice z lo hi)))
  | _ => False
def strsOf : List D → Option (List Str)
  | [] => some []
  | .str z :: l => (strsOf l).map (z :: ·)
  | _ :: _ => none
def eLenSet (m : ME) : ME := fun ρ Q Ed => m ρ (fun r => match r.asS.bind strsOf with
  | some xs => xs.length ≤ 100 ∧ Q (.d (.int ((TxS.met xs).length : Int)))
  | none => False) Ed
/-- (*a, b, ..) -/
def eStar (m : ME) (ma : MA) : ME := fun ρ Q Ed => m ρ (fun r => match r with
  | .d (.tup l) => ma ρ (fun rs => match datas rs with
    | some ds => l.length + ds.length ≤ 1000 ∧ Q (.d (.tup (l ++ ds)))
    | none => False) Ed
  | _ => False) Ed
section
variable {K : PySem.W.Frag} {A : AS} {B : Bd} {ρ : Env} {H H' H0 H1 : Hp} {σ : St} {E : XK} {m m1 m2 m3 : ME} {t1 t2 t3 : TE} {n : Nat} {w : TA} {ma : MA} {tl th : TO} {lo hi : MO}
theorem o_no : SO K E tNoPart oNo := fun A B ρ H σ R Kd Ed Rk hm k kx => k none H (Evo.refl _ _) hm
theorem o_so (s : SE K E t1 m1) : SO K E (tPart t1) (oSo m1) := fun A B ρ H σ R Kd Ed Rk hm k kx => by
  refine s A B ρ H σ R _ Ed _ hm (fun r v H1 e1 rr h => ?_) kx
  split at h
  · cases rr
    exact ⟨_, rfl, k _ H1 e1 h⟩
  · exact h.elim
theorem l_sl {r : V → Option Int → Option Int → Hp → VK → Prop} {f : Rv → Option Int → Option Int → KD → Prop} (hr : SSl K r f) (s1 : SE K E t1 m1) (s2 : SO K E tl lo) (s3 : SO K E th hi) : SE K E (tSl r t1 tl th) (eSl f m1 lo hi) := fun A B ρ H σ R Qd Ed Q hm k kx => by
  refine s1 A B ρ H σ R _ Ed _ hm (fun x v H1 e1 r1 hm1 => ?_) kx
  have w1 := R.wf.evo e1
  refine s2 A B ρ H1 σ (R.evo e1) _ Ed _ hm1 (fun l H2 e2 hm2 => ?_) fun x c d H' e' => kx x c d H' (e1.trans e')
  have w2 := w1.evo e2
  have e02 := e1.trans e2
  refine s3 A B ρ H2 σ (R.evo e02) _ Ed _ hm2 (fun u H3 e3 hm3 => ?_) fun x c d H' e' => kx x c d H' (e02.trans e')
  have e03 := e02.trans e3
  exact hr _ _ H H3 v x l u (w2.evo e3) ((r1.evo w1 e2).evo w2 e3) Qd Q hm3 fun z u' H' e' rz => k z u' H' (e03.trans e') (rz.up fun a z => e03.free R.strm z)
theorem DrL.drop {M : AS} : ∀ {vs : List V} {l : List D} (n : Nat), DrL K M H vs l → DrL K M H (vs.drop n) (l.drop n)
  | _, _, 0, h => h
  | _, _, _ + 1, .nil => .nil
  | _, _, n + 1, .cons _ t => DrL.drop n t
theorem DrL.take {M : AS} : ∀ {vs : List V} {l : List D} (n : Nat), DrL K M H vs l → DrL K M H (vs.take n) (l.take n)
  | _, _, 0, h => .nil
  | _, _, _ + 1, .nil => .nil
  | _, _, n + 1, .cons h t => .cons h (DrL.take n t)
theorem DrL.cut {M : AS} {vs : List V} {l : List D} {lo hi : Option Int} (h : DrL K M H vs l) : DrL K M H (cutV vs lo hi) (cutD l lo hi) := by
  unfold cutV cutD
  rw [h.length]
  exact (h.drop _).take _
theorem sl_L : SSl K (rSlL K) fSlL := fun M S H0 H v x lo hi wf rx Qd Q hf k => by
  unfold fSlL at hf
  split at hf
  · rename_i l e
    obtain ⟨a, vs, rfl, q, al⟩ := rx.sl e
    refine ⟨a, vs, rfl, SqL.of q, fun p hp => ?_⟩
    obtain ⟨e2, rp⟩ := new_list wf al.cut hp
    exact k (.new p _) _ _ e2 rp (hf p)
  · exact hf.elim
theorem sl_T : SSl K (rSlT K) fSlT := fun M S H0 H v x lo hi wf rx Qd Q hf k => by
  unfold fSlT at hf
  split at hf
  · rename_i l e
    cases x with
    | d y =>
      cases y with
      | tup l' =>
        cases e
        obtain ⟨a, vs, rfl, q, al⟩ := Dr.sqt rx
        refine ⟨a, vs, rfl, q, by rw [al.length]; exact hf.1, fun p hp => ?_⟩
        have e2 : Evo S H (upd H p (.tup (cutV vs lo hi))) := Evo.of (new_same hp)
        exact k (.d (.tup _)) _ _ e2 (Dr.tup (.inl upd_same) (fun z => wf.mo _ z hp) (al.cut.evo wf.sm e2)) hf.2
      | _ => cases e
    | tp b its =>
      cases e
      obtain ⟨a, vs, rfl, q, al⟩ := Dr.sqt rx.flat
      refine ⟨a, vs, rfl, q, by rw [al.length]; exact hf.1, fun p hp => ?_⟩
      have e2 : Evo S H (upd H p (.tup (cutV vs lo hi))) := Evo.of (new_same hp)
      exact k (.d (.tup _)) _ _ e2 (Dr.tup (.inl upd_same) (fun z => wf.mo _ z hp) (al.cut.evo wf.sm e2)) hf.2
    | _ => cases e
  · exact hf.elim
theorem sl_X : SSl K C8.rSlX fSlX := fun M S H0 H v x lo hi wf rx Qd Q hf k => by
  unfold fSlX at hf
  split at hf
  · cases rx
    unfold C8.rSlX
    exact ⟨_, rfl, hf.1, k (.d (.str _)) _ _ (Evo.refl _ _) (.str _) hf.2⟩
  · exact hf.elim
theorem strsOf_eq {M : AS} : ∀ {vs : List V} {l : List D} {xs : List Str}, DrL K M H vs l → strsOf l = some xs → vs = xs.map V.str
  | _, _, _, .nil, e => by cases e; rfl
  | _, .str z :: l, xs, .cons h t, e => by
    unfold strsOf at e
    obtain ⟨ys, ey, rfl⟩ := Option.map_eq_some_iff.mp e
    cases h
    rw [strsOf_eq t ey]
    rfl
  | _, .non :: _, _, _, e => by cases e
  | _, .bl _ :: _, _, _, e => by cases e
  | _, .int _ :: _, _, _, e => by cases e
  | _, .ty _ :: _, _, _, e => by cases e
  | _, .tup _ :: _, _, _, e => by cases e
  | _, .lst _ :: _, _, _, e => by cases e
  | _, .obj _ _ _ :: _, _, _, e => by cases e
  | _, .dic _ _ :: _, _, _, e => by cases e
  | _, .scr _ :: _, _, _, e => by cases e
theorem l_lenSet (s : SE K E t1 m1) : SE K E (tLenTx K t1) (eLenSet m1) := fun A B ρ H σ R Qd Ed Q hm k kx => by
  refine s A B ρ H σ R _ Ed _ hm (fun r v H1 e1 rr h => ?_) kx
  split at h
  · rename_i xs e
    obtain ⟨l, el, es⟩ := Option.bind_eq_some_iff.mp e
    have fin : ∀ {a : Addr} {vs : List V}, v = .ref a → DrL K (Mo A ρ) H1 vs l → (SqL K H1 a vs ∨ SqT K H1 a vs) → tLenTx K (fun σ H Q => Q v H1) σ H Q := fun {a vs} ev al q => by
      have := strsOf_eq al es
      subst this
      exact ⟨a, xs, ev, q, h.1, k (.d (.int _)) _ _ e1 (.int _) h.2⟩
    cases r with
    | d y =>
      cases y with
      | tup l' =>
        cases el
        obtain ⟨a, vs, rfl, q, al⟩ := Dr.sqt rr
        exact fin rfl al (.inr q)
      | lst l' =>
        cases el
        obtain ⟨a, vs, rfl, q, al⟩ := rr.sl rfl
        exact fin rfl al (.inl (SqL.of q))
      | scr ns =>
        cases el
        cases rr with
        | scr q n => exact fin rfl (drl_ints ns) (.inl (.inl q))
        | scrW q => exact fin rfl (drl_ints ns) (.inl (q H1))
      | _ => cases el
    | new a l' =>
      cases el
      obtain ⟨rfl, n, nm, vs, q, al⟩ := rr
      exact fin rfl (al.grow fun b z => .inl (.inl z)) (.inl (SqL.of q))
    | bor a l' =>
      cases el
      obtain ⟨rfl, n, nm, vs, q, al⟩ := rr
      exact fin rfl al (.inl (SqL.of q))
    | strm a => cases el
    | tp b its =>
      cases el
      obtain ⟨a, vs, rfl, q, al⟩ := Dr.sqt rr.flat
      exact fin rfl al (.inr q)
  · exact h.elim
theorem l_star (s : SE K E t1 m1) (s2 : SA K E n w ma) : SE K E (tTup (StX.tStar K t1 w)) (eStar m1 ma) := fun A B ρ H σ R Qd Ed Q hm k kx => by
  refine s A B ρ H σ R _ Ed _ hm (fun r v H1 e1 rr h => ?_) kx
  split at h
  · rename_i l
    obtain ⟨a, vs, rfl, q, al⟩ := Dr.sqt rr
    refine ⟨a, vs, rfl, .inl q, ?_⟩
    have w1 := R.wf.evo e1
    refine s2 A B ρ H1 σ (R.evo e1) _ Ed _ h (fun rs us H2 e2 r2 l2 h2 => ?_) fun x c d H' e' => kx x c d H' (e1.trans e')
    split at h2
    · rename_i ds e
      have al2 := datas_dr r2 e
      have al1 := al.evo w1.sm e2
      have w2 := w1.evo e2
      refine ⟨Nat.le_trans (by rw [List.length_append, al.length, al2.length]; exact h2.1) (by decide), fun p hp => ?_⟩
      have e3 : Evo (Ss ρ) H2 (upd H2 p (.tup (vs ++ us))) := Evo.of (new_same hp)
      exact k (.d (.tup _)) _ _ ((e1.trans e2).trans e3) (Dr.tup (.inl upd_same) (fun z => w2.mo _ z hp) ((al1.append al2).evo w2.sm e3)) h2.2
    · exact h2.elim
  · exact h.elim
/-- a row of texts that the text binds -/
def mgTup (K : PySem.W.Frag) (mg : Str → Option Value) (x : Str) (zs : List Str) : Prop := ∃ a, mg x = some (.ref a) ∧ ∀ H, SqT K H a (zs.map V.str)
theorem strs_dr {M : AS} : ∀ zs : List Str, DrL K M H (zs.map V.str) (zs.map D.str)
  | [] => .nil
  | z :: zs => .cons (.str z) (strs_dr zs)
theorem l_gt {mg : Str → Option Value} {x : Str} {zs : List Str} (h : mgTup K mg x zs) : SE K E (tC (.ref h.choose)) (eC (.tup (zs.map D.str))) := l_c fun M H => .tupW h.choose_spec.2 (strs_dr zs)
end
end DL

set_option Elab.async false
set_option linter.all false
set_option maxRecDepth 100000
set_option maxHeartbeats 4000000
/-! o.m(..) within a try -/
namespace L2
open PySem PySem.Spec PyProof.Rows
def tMethW (C : Addr) (m : Str) (sp : Sp) (E : St → XK) (ta : TE) (t : TA) : TE := fun σ H Q => ta σ H fun x H1 => ∃ a dx fs, x = .ref a ∧ H1 a = some (.ins C dx fs) ∧ fs.lookup m = none ∧ t σ H1 fun vs H2 => sp (x :: vs) H2 Q (E σ)
section
variable {X : Cx} {CX : CXT} {k : Nat} {f C : Addr} {fd : FuncData} {ps : List Str} {sp : Sp} {E : St → XK} {m : Str} {pos apos : Pos} {e o : Expr} {es : List Expr} {ta : TE} {t : TA}
theorem pe_methW {pl : Sem Bool} (he : PE X o ta) (c : Cls X.K C) (hm : Meth X.K C m f) (F : FnOk X.prog X.w X.K X.mg X.base CX k f fd ps sp) (hr : Room k X.A) (hb : Binds X.K fd ps []) (hx : ∀ σ, PassesAt CX X σ (E σ)) (ha : PA X (e :: es) t)
    (hst : starEach (e :: es) X.env = (false, eval e X.env) :: starEach es X.env := by rfl) (hpl : (backTo pos (starEach es X.env)).any (·.1) = false := by rfl)
    (ht : eval (.Call (.Attribute o m apos) (e :: es) [] pos) X.env = (do
      let ov ← eval o X.env
      standAt apos.atName
      let (f, first) ← holding [ov] (getMethod ov m pl)
      callWith pos f first (backTo pos (starEach (e :: es) X.env)) (backToKw pos (keywordEach [] X.env))) := by rfl) :
    PE X (.Call (.Attribute o m apos) (e :: es) [] pos) (tMethW C m sp E ta t) := by
  constructor
  intro pins s σ H Q I h
  refine PySem.W.methodCall_KW (pl := pl) (thn (he.run pins s σ H _ I h) fun u s1 hh => ?_) ht
  obtain ⟨x, H1, I1, rx, a, dx, fs, ex, ea, l, q⟩ := hh
  subst ex
  obtain rfl : u = Value.ref a := rx
  refine getmeth_ok I1 ea c hm l ?_
  refine PySem.W.callWith_K (first := [.ref a]) (h₀ := X.base) I.ok.mod.kin hm.kp (thn (ha.run pos pins s1 σ H1 _ I1 q) fun us s2 hh2 => ?_) hst hpl
  obtain ⟨vs, H2, I2, r, q2⟩ := hh2
  exact ⟨I2.kIn, run_fnS (us := .ref a :: us) (vs := .ref a :: vs) F hr hb (hx σ) I2 (.cons rfl r) q2⟩
end
end L2

set_option Elab.async false
set_option linter.all false
set_option maxRecDepth 100000
set_option maxHeartbeats 2000000
/-! try: one call, what it raises caught -/
namespace DL
open PySem L2 He DX
section
variable {K : PySem.W.Frag} {A : AS} {B : Bd} {ρ : Env} {H H' H0 H1 : Hp} {σ : St} {E : XK} {m m1 m2 m3 : ME} {t1 t2 t3 : TE} {n : Nat} {w : TA} {ma : MA}
/-! slots -/
theorem RepS.setX {i : Nat} {v : V} {a : Addr} {d : Option Addr} {x : Ex} (R : RepS K A B ρ H σ) (h : RepSl K (Mo A ρ) H v (.exc a d x)) : RepS K A B (ρ.set i (some (.exc a d x))) H (σ.set i (some v)) where
  len := by rw [List.length_set, List.length_set, R.len]
  at_ j s hj := by
    have sub : ∀ b, Mo A (ρ.set i (some (.exc a d x))) b → Mo A ρ b ∨ H b = none := fun b z => by
      rcases mo_set z with q | ⟨t, q, e⟩
      · exact .inl q
      · cases q; cases e
    rcases get_set hj with ⟨rfl, e⟩ | ⟨n, e⟩
    · cases e
      have : j < σ.length := by
        rw [R.len]
        have := (List.getElem?_eq_some_iff.mp hj).1
        rwa [List.length_set] at this
      exact ⟨v, by rw [List.getElem?_set_self this], h.go (S := fun _ => False) (fun _ z => z.elim) (fun _ _ _ z => z) (fun _ z => z.elim) sub (fun _ _ _ z => z)⟩
    · obtain ⟨u, hu, r⟩ := R.at_ j s e
      exact ⟨u, by rw [List.getElem?_set_ne (fun z => n z.symm)]; exact hu, r.go (S := fun _ => False) (fun _ z => z.elim) (fun _ _ _ z => z) (fun _ z => z.elim) sub (fun _ _ _ z => z)⟩
  apart j k s t a hj hk ea eb := by
    rcases get_set hj with ⟨rfl, e⟩ | ⟨_, e⟩
    · cases e; cases ea
    · rcases get_set hk with ⟨rfl, e'⟩ | ⟨_, e'⟩
      · cases e'; cases eb
      · exact R.apart j k s t a e e' ea eb
  amb := R.amb
  na j s a hj ea ns := by
    rcases get_set hj with ⟨rfl, e⟩ | ⟨_, e⟩
    · cases e; cases ea
    · exact R.na j s a e ea ns
  bv := R.bv
  fr j s a hj ea := by
    rcases get_set hj with ⟨rfl, e⟩ | ⟨_, e⟩
    · cases e; cases ea
    · exact R.fr j s a e ea
theorem get_clr {i j : Nat} {t : Sl} (h : (ρ.set i none)[j]? = some (some t)) : j ≠ i ∧ ρ[j]? = some (some t) := by
  rcases get_set h with ⟨_, e⟩ | q
  · cases e
  · exact q
theorem mo_clr {i : Nat} {a : Addr} (h : Mo A (ρ.set i none) a) : Mo A ρ a := by
  rcases mo_set h with q | ⟨t, q, _⟩
  · exact q
  · cases q
theorem RepS.clr {i : Nat} (R : RepS K A B ρ H σ) : RepS K A B (ρ.set i none) H (σ.set i none) where
  len := by rw [List.length_set, List.length_set, R.len]
  at_ j s hj := by
    obtain ⟨n, e⟩ := get_clr hj
    obtain ⟨u, hu, r⟩ := R.at_ j s e
    exact ⟨u, by rw [List.getElem?_set_ne (fun z => n z.symm)]; exact hu, r.go (S := fun _ => False) (fun _ z => z.elim) (fun _ _ _ z => z) (fun _ z => z.elim) (fun a z => .inl (mo_clr z)) (fun _ _ _ z => z)⟩
  apart j k s t a hj hk ea eb := R.apart j k s t a (get_clr hj).2 (get_clr hk).2 ea eb
  amb := R.amb
  na j s a hj ea ns := R.na j s a (get_clr hj).2 ea ns
  bv := R.bv
  fr j s a hj ea := R.fr j s a (get_clr hj).2 ea
/-! the call that is tried -/
def SEW (K : PySem.W.Frag) (tw : WX → TE) (m : ME) : Prop := ∀ A B ρ H σ, RepS K A B ρ H σ → ∀ (Qd : KD) (Ed : KX) (Q : VK) (W : WX), m ρ Qd Ed →
  (∀ r v H', Evo (Ss ρ) H H' → RepR K (Mo A ρ) (Ss ρ) H H' v r → Qd r → Q v H') → (∀ x c d H', Evo (Ss ρ) H H' → RepX K (Mo A ρ) H' c d x → Ed x → W c d σ H') → tw W σ H Q
def eCallS (m : MF) (ma : MA) : ME := fun ρ Q Ed => ma ρ (fun rs => fCall m rs Q Ed) (fun _ => False)
def eMakeS (c : String) (mi : MFI) (dds : List D) (ma : MA) : ME := fun ρ Q Ed => ma ρ (fun rs => fMake c mi dds rs Q Ed) (fun _ => False)
def eMethS (c : String) (f : String) (m : MF) (mo : ME) (ma : MA) : ME := fun ρ Q Ed => mo ρ (fun r => match r with
  | .d (.obj c' ns ds) => c' = c ∧ (fldsOf c).contains f = false ∧ ma ρ (fun rs => fCall m (.d (.obj c' ns ds) :: rs) Q Ed) (fun _ => False)
  | _ => False) (fun _ => False)
theorem lw_call {j : Nat} {m : MF} (s : SA K E0 n w ma) (hj : n = j := by rfl) : SEW K (fun W => tCallS (spD K j m) (WE W) w) (eCallS m ma) := fun A B ρ H σ R Qd Ed Q W hm k kx => by
  subst hj
  refine s A B ρ H σ R _ (fun _ => False) _ hm (fun rs vs H1 e1 r1 l hm1 => ?_) (fun _ _ _ _ _ _ z => z.elim)
  exact s_call l (R.wf.evo e1) r1 hm1 (fun z u H' e' rz => k z u H' (e1.trans e') (rz.up fun a z => e1.free R.strm z)) fun x c d H' e' => kx x c d H' (e1.trans e')
theorem lw_make {c : String} {mi : MFI} {dvs : List V} {dds : List D} {j : Nat} (hp : Pres K c) (hd : ∀ M H, DrL K M H dvs dds) (s : SA K E0 n w ma) (hj : n + dvs.length = j) : SEW K (fun W => tMakeS (ga K (Str.ofString c)) (spI K c j mi) dvs (WE W) w) (eMakeS c mi dds ma) := fun A B ρ H σ R Qd Ed Q W hm k kx => by
  refine s A B ρ H σ R _ (fun _ => False) _ hm (fun rs vs H1 e1 r1 l hm1 => ?_) (fun _ _ _ _ _ _ z => z.elim)
  exact s_make hp hd (by rw [List.length_append, l]; exact hj) (R.wf.evo e1) r1 hm1 (fun z u H' e' rz => k z u H' (e1.trans e') (rz.up fun a z => e1.free R.strm z)) fun x c d H' e' => kx x c d H' (e1.trans e')
theorem lw_meth {c f : String} {mf : MF} {j : Nat} (s1 : SE K E0 t1 m1) (s : SA K E0 n w ma) (hj : n + 1 = j) : SEW K (fun W => tMethW (ga K (Str.ofString c)) (Str.ofString f) (spD K j mf) (WE W) t1 w) (eMethS c f mf m1 ma) := fun A B ρ H σ R Qd Ed Q W hm k kx => by
  refine s1 A B ρ H σ R _ (fun _ => False) _ hm (fun r v H1 e1 r1 h => ?_) (fun _ _ _ _ _ _ z => z.elim)
  split at h
  · rename_i c' ns ds
    obtain ⟨rfl, nf, h⟩ := h
    have rr := r1
    cases r1 with
    | obj q na l p al =>
      refine ⟨_, _, _, rfl, q, not_fld nf p.2, ?_⟩
      refine s A B ρ H1 σ (R.evo e1) _ (fun _ => False) _ h (fun rs vs H2 e2 r2 l2 h2 => ?_) (fun _ _ _ _ _ _ z => z.elim)
      have w1 := R.wf.evo e1
      exact s_call (H0 := H1) (rs := .d (.obj c' ns ds) :: rs) (by rw [List.length_cons, l2]; exact hj) (w1.evo e2) ⟨rr.evo w1 e2, r2⟩ h2 (fun z u H' e' rz => k z u H' ((e1.trans e2).trans e') (rz.up fun a z => (e1.trans e2).free R.strm z)) fun x c d H' e' => kx x c d H' ((e1.trans e2).trans e')
  · exact h.elim
/-! the clauses -/
def exSub (x c : String) : Bool := x == c || c == "ToldError"
/-- what the text says of its error classes -/
def Ers (K : PySem.W.Frag) (l : List String) : Prop := ∀ x ∈ l, ∀ c ∈ l, PySem.W.exmOne K (.ref (ga K (Str.ofString x))) (.ref (ga K (Str.ofString c))) = some (exSub x c)
/-- an error class whose fields are read where it is caught -/
structure XFc (K : PySem.W.Frag) (c : String) (ns : List String) : Prop where
  xf : XfC K (ga K (Str.ofString c))
  no : ∀ n ∈ ns, PySem.W.findIn K (.ref (ga K (Str.ofString c))) (Str.ofString n) = some none
  ne : ga K (Str.ofString c) ≠ ga K "ToldError"
  up : PySem.W.kitCls K (.ref (ga K (Str.ofString c))) (.ref (ga K "ToldError")) = some true
abbrev MH := Ex → MS
/-- the class of what was caught by 'except c' -/
def ErC (K : PySem.W.Frag) (c : String) (cls : Value) : Prop := ∃ x, cls = .ref (ga K (Str.ofString x)) ∧ exSub x c = true
theorem ErC.eq {c : String} {cls : Value} (h : ErC K c cls) (n : (c == "ToldError") = false) : cls = .ref (ga K (Str.ofString c)) := by
  obtain ⟨x, rfl, e⟩ := h
  unfold exSub at e
  rw [n, Bool.or_false] at e
  rw [beq_iff_eq.mp e]
def HdW (K : PySem.W.Frag) (E : XK) (wd : Ends → WX) (hd : MH) : Prop := ∀ A B ρ H σ (M : ED) (D : Ends) (x : Ex) c d, RepS K A B ρ H σ → RepX K (Mo A ρ) H c d x → hd x ρ M → Rel K A B E M D → wd D c d σ H
def hdNo : MH := fun _ _ _ => False
theorem hd_no : HdW K E (fun _ _ _ _ _ => False) hdNo := fun A B ρ H σ M D x c d R rx hm L => hm
/-- except c as n -/
def hdAs (l : List String) (c : String) (i : Nat) (m : Addr → Option Addr → MS) (rest : MH) : MH := fun x ρ M => x.c ∈ l ∧ (exSub x.c c = true → ∀ a d, m a d (ρ.set i (some (.exc a d x))) ⟨fun ρ' => M.nx (ρ'.set i none), M.rt, fun ρ' => M.bk (ρ'.set i none), fun ρ' => M.ct (ρ'.set i none), M.ex⟩) ∧
  (exSub x.c c = false → rest x ρ M)
theorem hd_as {l : List String} {c : String} {i : Nat} {ts : Addr → Value → Option Addr → TS} {Wout : WX} {ms : Addr → Option Addr → MS} {rest : MH} (T : Ers K l) (hc : c ∈ l)
    (hs : ∀ a cls d, ErC K c cls → SS K E (ts a cls d) (ms a d)) (hr : HdW K E (fun _ => Wout) rest) : HdW K E (wAs K (.ref (ga K (Str.ofString c))) i ts Wout) (hdAs l c i ms rest) := fun A B ρ H σ M D x cc d R rx hm L => by
  obtain ⟨h1, h2, h3⟩ := hm
  obtain ⟨rfl, rxx⟩ := id rx
  refine ⟨_, T _ h1 _ hc, fun z a na => ?_, fun z => hr A B ρ H σ M D x _ d R rx (h3 z) L⟩
  refine hs a _ d ⟨_, rfl, z⟩ A B _ H _ (R.setX (v := .ref a) ⟨rfl, rx⟩) _ _ (h2 z a d) ⟨fun ρ' H' σ' R' q => L.nx _ _ _ R'.clr q, L.rt, fun ρ' H' σ' R' q => L.bk _ _ _ R'.clr q, fun ρ' H' σ' R' q => L.ct _ _ _ R'.clr q, L.ex⟩
/-- except c -/
def hdOnly (l : List String) (c : String) (m : MS) (rest : MH) : MH := fun x ρ M => x.c ∈ l ∧ (exSub x.c c = true → m ρ M) ∧ (exSub x.c c = false → rest x ρ M)
theorem hd_only {l : List String} {c : String} {ts : Addr → Value → Option Addr → TS} {Wout : WX} {ms : MS} {rest : MH} (T : Ers K l) (hc : c ∈ l)
    (hs : ∀ a cls d, ErC K c cls → SS K E (ts a cls d) ms) (hr : HdW K E (fun _ => Wout) rest) : HdW K E (wOnly K (.ref (ga K (Str.ofString c))) ts Wout) (hdOnly l c ms rest) := fun A B ρ H σ M D x cc d R rx hm L => by
  obtain ⟨h1, h2, h3⟩ := hm
  obtain ⟨rfl, rxx⟩ := id rx
  exact ⟨_, T _ h1 _ hc, fun z a na => hs a _ d ⟨_, rfl, z⟩ A B _ H _ R _ _ (h2 z) L, fun z => hr A B ρ H σ M D x _ d R rx (h3 z) L⟩
theorem hd_many0 {Wout : WX} {rest : MH} (hr : HdW K E (fun _ => Wout) rest) : HdW K E (fun D => wMany K Wout D []) rest := hr
theorem hd_many {l : List String} {c : String} {ts : Addr → Value → Option Addr → TS} {Wout : WX} {ms : MS} {rest : MH} {hs' : List (Value × (Addr → Value → Option Addr → TS))} (T : Ers K l) (hc : c ∈ l)
    (hs : ∀ a cls d, ErC K c cls → SS K E (ts a cls d) ms) (hr : HdW K E (fun D => wMany K Wout D hs') rest) : HdW K E (fun D => wMany K Wout D ((.ref (ga K (Str.ofString c)), ts) :: hs')) (hdOnly l c ms rest) := fun A B ρ H σ M D x cc d R rx hm L => by
  obtain ⟨h1, h2, h3⟩ := hm
  obtain ⟨rfl, rxx⟩ := id rx
  exact ⟨_, T _ h1 _ hc, fun z a na => hs a _ d ⟨_, rfl, z⟩ A B _ H _ R _ _ (h2 z) L, fun z => hr A B ρ H σ M D x _ d R rx (h3 z) L⟩
/-! the statement -/
def sTryD (j : Nat) (mb : ME) (hd : MH) : MS := fun ρ M => mb ρ (fun r => match r.data with
  | some x => M.nx (ρ.set j (some (.d x)))
  | none => False) (fun x => hd x ρ M)
def sTryO (j : Nat) (mb : ME) (hd : MH) : MS := fun ρ M => mb ρ (fun r => match r with
  | .new a l => M.nx (ρ.set j (some (.own a l)))
  | _ => False) (fun x => hd x ρ M)
def sTryE (mb : ME) (hd : MH) : MS := fun ρ M => mb ρ (fun _ => M.nx ρ) (fun x => hd x ρ M)
theorem w_tryD {tw : WX → TE} {mb : ME} {wd : Ends → WX} {hd : MH} {j : Nat} (s : SEW K tw mb) (h : HdW K E wd hd) : SS K E (fun D σ H => tAsg (tw (wd D)) (gName j) D σ H) (sTryD j mb hd) := fun A B ρ H σ R M D hm L => by
  refine s A B ρ H σ R _ _ _ _ hm (fun r v H1 e1 rr h1 => ?_) fun x c d H' e' rx hx => h A B ρ H' σ M D x c d (R.evo e') rx hx L
  split at h1
  · rename_i x e
    exact L.nx _ _ _ ((R.evo e1).setD (rr.dr e)) h1
  · exact h1.elim
theorem w_tryE {tw : WX → TE} {mb : ME} {wd : Ends → WX} {hd : MH} (s : SEW K tw mb) (h : HdW K E wd hd) : SS K E (fun D σ H => tDrop (tw (wd D)) D σ H) (sTryE mb hd) := fun A B ρ H σ R M D hm L => by
  refine s A B ρ H σ R _ _ _ _ hm (fun r v H1 e1 rr h1 => ?_) fun x c d H' e' rx hx => h A B ρ H' σ M D x c d (R.evo e') rx hx L
  exact L.nx _ _ _ (R.evo e1) h1
/-! what the suite reads of what was caught -/
def eXf (a : Addr) (d : Option Addr) (i : Nat) (c f : String) : ME := fun ρ Q _ => match ρ[i]? with
  | some (some (.exc a' d' x)) => a' = a ∧ d' = d ∧ x.c = c ∧ x.ns.Nodup ∧ (match look f x.ns x.ds with
    | some y => Q (.d y)
    | none => False)
  | _ => False
theorem lookup_app {k : Str} : ∀ (l r : List (Str × V)), (l ++ r).lookup k = match l.lookup k with
    | some v => some v
    | none => r.lookup k
  | [], r => rfl
  | (a, v) :: l, r => by
    have ih := lookup_app (k := k) l r
    rw [List.cons_append, List.lookup_cons, List.lookup_cons]
    cases k == a
    · exact ih
    · rfl
theorem lookup_rev {f : String} {ns : List String} {vs : List V} (nd : ns.Nodup) : (((ns.map Str.ofString).zip vs).reverse).lookup (Str.ofString f) = ((ns.map Str.ofString).zip vs).lookup (Str.ofString f) := by
  induction ns generalizing vs with
  | nil => rfl
  | cons n ns ih =>
    cases vs with
    | nil => rfl
    | cons v vs =>
      obtain ⟨h1, h2⟩ := List.nodup_cons.mp nd
      rw [List.map_cons, List.zip_cons_cons, List.reverse_cons, lookup_app, ih h2]
      by_cases c : n = f
      · subst c
        rw [look_none h1]
        unfold List.lookup
        rw [beq_self_eq_true]
      · have e : (Str.ofString f == Str.ofString n) = false := beq_eq_false_iff_ne.mpr fun e => c (ofString_inj.mp e).symm
        conv => rhs; unfold List.lookup
        rw [e]
        dsimp only
        cases hl : ((ns.map Str.ofString).zip vs).lookup (Str.ofString f) with
        | some u => rfl
        | none => unfold List.lookup; rw [e]; rfl
theorem l_xf {a : Addr} {cls : Value} {d : Option Addr} {i : Nat} {c f : String} (hy : cls = .ref (ga K (Str.ofString c))) : SE K E (tXf a cls d (ga K (Str.ofString c)) (Str.ofString f) (tVar i)) (eXf a d i c f) := fun A B ρ H σ R Qd Ed Q hm k kx => by
  subst hy
  unfold eXf at hm
  split at hm
  · rename_i a' d' x hi
    obtain ⟨rfl, rfl, h3, nd, h⟩ := hm
    obtain ⟨v, hv, rfl, ec, rx⟩ := R.at_ i _ hi
    split at h
    · rename_i z ez
      rcases rx with ⟨e1, e2, _⟩ | ⟨dd, vs, rfl, nm, q, l, al⟩
      · rw [e1] at ez
        simp [look] at ez
      · obtain ⟨u, hu, ru⟩ := look_at al ez
        exact ⟨_, hv, rfl, rfl, dd, _, u, rfl, q, by rw [lookup_rev nd]; exact hu, k (.d z) _ _ (Evo.refl _ _) ru h⟩
    · exact h.elim
  · exact hm.elim
/-- isinstance(e, an error class above) -/
def eXup (a : Addr) (i : Nat) : ME := fun ρ Q _ => match ρ[i]? with
  | some (some (.exc a' _ _)) => a' = a ∧ Q (.d (.bl true))
  | _ => False
theorem l_xup {a : Addr} {cls : Value} {i : Nat} {c : String} {U : Addr} (hy : cls = .ref (ga K (Str.ofString c))) : SE K E (tCB (fun xs H Q => cls = .ref (ga K (Str.ofString c)) ∧ xs = [.ref a, .ref U] ∧ Q (.bl true) H) (tCons (tVar i) (tCons (tC (.ref U)) tNil))) (eXup a i) := fun A B ρ H σ R Qd Ed Q hm k kx => by
  subst hy
  unfold eXup at hm
  split at hm
  · rename_i a' d' x hi
    obtain ⟨rfl, h⟩ := hm
    obtain ⟨v, hv, rfl, rx⟩ := R.at_ i _ hi
    exact ⟨_, hv, rfl, rfl, k (.d (.bl true)) _ _ (Evo.refl _ _) (Dr.bl true) h⟩
  · exact hm.elim
/-! try, as it is walked: the readings come from the lifts -/
end
section
variable {K : PySem.W.Frag} {E : XK} {X : Cx} {x n y : Str} {c : String} {i j : Nat} {body suite : List Stmt} {b₀ : Stmt} {np pos pos' : Pos} {tw : WX → TE} {ts : Addr → Value → Option Addr → TS} {Wout : WX}
theorem ps_tryAsD (l : List String) (mb : ME) (ms : Addr → Option Addr → MS) (s : SEW X.K tw mb) (sh : ∀ a cls d, ErC X.K c cls → SS X.K E (ts a cls d) (ms a d)) (hs : X.stack = X.env :: X.outer) (hf : X.env.frame = some X.env.locals) (hN : X.N.Nodup) (hi : X.N[i]? = some n) (hln : X.env.kindOf n = some .local)
    (hc : Names X x (.ref (ga X.K (Str.ofString c)))) (tk : Takes X Wout)
    (hb : ∀ (W : WX) (pn : List (Addr × Obj)) (xe : Value → Shared → Prop), Takes (X.tr pn xe) W → PassesOwn (model X.prog X.w) X.A X.env xe → PSs (X.tr pn xe) body (tAsg (tw W) (gName j)))
    (hsu : ∀ (a : Addr) (oe : Obj) (cls : Value) (d : Option Addr) (pn : List (Addr × Obj)), Zc cls d oe → (∃ vs, oe.data = .fields vs) → PSs (X.suite a ((a, oe) :: pn)) (b₀ :: suite) (ts a cls d)) :
    PS X (.Try body [.ExceptHandler (some (.Name x np)) (some n) (b₀ :: suite) pos'] [] [] pos) (fun D σ H => tAsg (tw (wAs X.K (.ref (ga X.K (Str.ofString c))) i ts Wout D)) (gName j) D σ H) :=
  ps_try_as (tb := fun W => tAsg (tw W) (gName j)) hs hf hN hi hln hc tk hb hsu
theorem ps_tryAsE (l : List String) (mb : ME) (ms : Addr → Option Addr → MS) (s : SEW X.K tw mb) (sh : ∀ a cls d, ErC X.K c cls → SS X.K E (ts a cls d) (ms a d)) (hs : X.stack = X.env :: X.outer) (hf : X.env.frame = some X.env.locals) (hN : X.N.Nodup) (hi : X.N[i]? = some n) (hln : X.env.kindOf n = some .local)
    (hc : Names X x (.ref (ga X.K (Str.ofString c)))) (tk : Takes X Wout)
    (hb : ∀ (W : WX) (pn : List (Addr × Obj)) (xe : Value → Shared → Prop), Takes (X.tr pn xe) W → PassesOwn (model X.prog X.w) X.A X.env xe → PSs (X.tr pn xe) body (tDrop (tw W)))
    (hsu : ∀ (a : Addr) (oe : Obj) (cls : Value) (d : Option Addr) (pn : List (Addr × Obj)), Zc cls d oe → (∃ vs, oe.data = .fields vs) → PSs (X.suite a ((a, oe) :: pn)) (b₀ :: suite) (ts a cls d)) :
    PS X (.Try body [.ExceptHandler (some (.Name x np)) (some n) (b₀ :: suite) pos'] [] [] pos) (fun D σ H => tDrop (tw (wAs X.K (.ref (ga X.K (Str.ofString c))) i ts Wout D)) D σ H) :=
  ps_try_as (tb := fun W => tDrop (tw W)) hs hf hN hi hln hc tk hb hsu
theorem ps_tryOnlyD (l : List String) (mb : ME) (ms : MS) (s : SEW X.K tw mb) (sh : ∀ a cls d, ErC X.K c cls → SS X.K E (ts a cls d) ms) (hs : X.stack = X.env :: X.outer) (hf : X.env.frame = some X.env.locals)
    (hc : Names X x (.ref (ga X.K (Str.ofString c)))) (tk : Takes X Wout)
    (hb : ∀ (W : WX) (pn : List (Addr × Obj)) (xe : Value → Shared → Prop), Takes (X.tr pn xe) W → PassesOwn (model X.prog X.w) X.A X.env xe → PSs (X.tr pn xe) body (tAsg (tw W) (gName j)))
    (hsu : ∀ (a : Addr) (oe : Obj) (cls : Value) (d : Option Addr) (pn : List (Addr × Obj)), Zc cls d oe → (∃ vs, oe.data = .fields vs) → PSs (X.suite a ((a, oe) :: pn)) (b₀ :: suite) (ts a cls d)) :
    PS X (.Try body [.ExceptHandler (some (.Name x np)) none (b₀ :: suite) pos'] [] [] pos) (fun D σ H => tAsg (tw (wOnly X.K (.ref (ga X.K (Str.ofString c))) ts Wout D)) (gName j) D σ H) :=
  ps_try_only (tb := fun W => tAsg (tw W) (gName j)) hs hf hc tk hb hsu
theorem ps_tryOnlyE (l : List String) (mb : ME) (ms : MS) (s : SEW X.K tw mb) (sh : ∀ a cls d, ErC X.K c cls → SS X.K E (ts a cls d) ms) (hs : X.stack = X.env :: X.outer) (hf : X.env.frame = some X.env.locals)
    (hc : Names X x (.ref (ga X.K (Str.ofString c)))) (tk : Takes X Wout)
    (hb : ∀ (W : WX) (pn : List (Addr × Obj)) (xe : Value → Shared → Prop), Takes (X.tr pn xe) W → PassesOwn (model X.prog X.w) X.A X.env xe → PSs (X.tr pn xe) body (tDrop (tw W)))
    (hsu : ∀ (a : Addr) (oe : Obj) (cls : Value) (d : Option Addr) (pn : List (Addr × Obj)), Zc cls d oe → (∃ vs, oe.data = .fields vs) → PSs (X.suite a ((a, oe) :: pn)) (b₀ :: suite) (ts a cls d)) :
    PS X (.Try body [.ExceptHandler (some (.Name x np)) none (b₀ :: suite) pos'] [] [] pos) (fun D σ H => tDrop (tw (wOnly X.K (.ref (ga X.K (Str.ofString c))) ts Wout D)) D σ H) :=
  ps_try_only (tb := fun W => tDrop (tw W)) hs hf hc tk hb hsu
end
end DL

set_option Elab.async false
set_option linter.all false
set_option maxRecDepth 100000
set_option maxHeartbeats 2000000
/-! comprehensions of two clauses; one operator for two kinds -/
namespace DL
open PySem L2 He DX
def lcD2 (tg : MG) (ct : MT) (it1 : MI) (tg1 : MG) (ct1 : MT) (me : ME) (vs1 : List Nat) (ρ : Env) (K : List D → Prop) : List D → List D → Prop
  | [], out => K out
  | x :: l, out => tg x ρ fun ρ1 => ct ρ1 (fun b => if b = true then it1 ρ1 (fun l1 => clean ρ1 vs1 ∧ lcD tg1 ct1 me (wipeD ρ1 vs1) (fun out => lcD2 tg ct it1 tg1 ct1 me vs1 ρ K l out) l1 out) (fun _ => False) else lcD2 tg ct it1 tg1 ct1 me vs1 ρ K l out) fun _ => False
def eLc2 (it : MI) (tg : MG) (ct : MT) (it1 : MI) (tg1 : MG) (ct1 : MT) (me : ME) (vs vs1 : List Nat) : ME := fun ρ Q Ed => it ρ (fun l => clean ρ vs ∧ ∀ a, lcD2 tg ct it1 tg1 ct1 me vs1 (wipeD ρ vs) (fun out => Q (.new a out)) l []) Ed
section
variable {K : PySem.W.Frag} {A : AS} {B : Bd} {ρ : Env} {H H' H0 H1 : Hp} {σ : St} {E : XK}
/-- a loop, whatever its step -/
theorem it_gen {J : It} {n : Nat} {G : Hp → Prop} {Y : Nat → Hp → V → Hp → Prop} (w : Walk J n G Y) {Hst : Hp} {Qd : Hp → Prop} (S : (Hp → Prop) → V → Hp → Prop) (Pv : Nat → Hp → Prop) (h0 : Pv 0 Hst) (hG : ∀ i H, i ≤ n → Pv i H → G H)
    (hs : ∀ i x H H', i < n → Pv i H → Y i H x H' → S (Pv (i + 1)) x H') (hd : ∀ H, Pv n H → Qd H) :
    ∃ W : Nat → Nat → Hp → Prop, (∃ m, W 0 m Hst) ∧ ∀ i m H, W i m H → (J.stop i H ∧ Qd H) ∨ (J.go i H ∧ ∃ Nx : Hp → Prop, (∀ H', Nx H' → ∃ m', m' < m ∧ W (i + 1) m' H') ∧ ∀ x H', J.yld i H x H' → S Nx x H') := by
  refine ⟨fun i m H => m = n - i ∧ i ≤ n ∧ Pv i H, ⟨n, by simp, Nat.zero_le _, h0⟩, ?_⟩
  rintro i m H ⟨rfl, hi, p⟩
  have q := hG i H hi p
  by_cases hlt : i < n
  · exact .inr ⟨w.goes i H hlt q, Pv (i + 1), fun H' p' => ⟨n - (i + 1), by omega, rfl, hlt, p'⟩, fun x H' y => hs i x H H' hlt p (w.yields i H x H' hlt q y)⟩
  · have e : i = n := by omega
    subst e
    exact .inl ⟨w.stops H q, hd H p⟩
/-- but for the list at D, and the streams, all is as it was -/
structure EvD (S : AS) (D : Addr) (H H' : Hp) : Prop where
  keep : ∀ a o, a ≠ D → ¬ S a → H a = some o → H' a = some o
  strm : ∀ a, S a → IsStrm H a → IsStrm H' a
theorem EvD.trans {S : AS} {D : Addr} {H1 H2 H3 : Hp} (a : EvD S D H1 H2) (b : EvD S D H2 H3) : EvD S D H1 H3 := ⟨fun x o n s e => b.keep x o n s (a.keep x o n s e), fun x s i => b.strm x s (a.strm x s i)⟩
theorem EvD.of {S : AS} {D : Addr} {H1 H2 : Hp} (a : Evo S H1 H2) : EvD S D H1 H2 := ⟨fun x o _ s e => a.keep x o s e, a.strm⟩
theorem EvD.put {S : AS} {D : Addr} {o : HO} (n : ¬ S D) : EvD S D H (upd H D o) := ⟨fun x o' n s e => by rw [upd_ne n]; exact e, fun x s ⟨c1, c2, c3, q⟩ => ⟨c1, c2, c3, by rw [upd_ne (fun z => n (by rw [← z]; exact s))]; exact q⟩⟩
theorem RepS.evD {D : Addr} (R : RepS K (plus A D) B ρ H σ) (nS : ¬ Ss ρ D) (e : EvD (Ss ρ) D H H') (bv : Bv B H') (t : H' D ≠ none) : RepS K (plus A D) B ρ H' σ := by
  have hs : ∀ a, (a = D ∨ Ss ρ a) → Mo (plus A D) ρ a := fun a z => z.elim (fun y => by rw [y]; exact .inl (.inr rfl)) (ss_mo a)
  have kp : ∀ a o, ¬ (a = D ∨ Ss ρ a) → H a = some o → H' a = some o := fun a o n q => e.keep a o (fun y => n (.inl y)) (fun y => n (.inr y)) q
  refine ⟨R.len, fun i s hi => ?_, R.apart, fun a h => ?_, R.na, bv, R.fr⟩
  · obtain ⟨v, hv, r⟩ := R.at_ i s hi
    have nb : ∀ a, s.addr = some a → (∀ b, s ≠ .strm b) → ¬ (a = D ∨ Ss ρ a) := fun a ha ns hS => by
      rcases hS with rfl | hS
      · exact R.na i s a hi ha ns (.inr rfl)
      · obtain ⟨j, hj⟩ := mem_at hS
        have := R.apart i j s _ a hi hj ha rfl
        subst this
        rw [hi] at hj
        cases hj
        exact ns a rfl
    refine ⟨v, hv, ?_⟩
    cases s with
    | d x => exact Dr.go (S := fun a => a = D ∨ Ss ρ a) hs kp (fun _ z => .inl z) r
    | strm a => exact ⟨r.1, e.strm a (at_mem hi) r.2⟩
    | own a l =>
      obtain ⟨rfl, vs, q, al⟩ := r
      exact ⟨rfl, vs, kp _ _ (nb a rfl (fun b z => by cases z)) q, al.go (S := fun a => a = D ∨ Ss ρ a) hs kp (fun _ z => .inl z)⟩
    | self a c ns ds =>
      obtain ⟨rfl, dx, vs, q, l, al⟩ := r
      exact ⟨rfl, dx, vs, kp _ _ (nb a rfl (fun b z => by cases z)) q, l, al.go (S := fun a => a = D ∨ Ss ρ a) hs kp (fun _ z => .inl z)⟩
    | exc a d x => exact ⟨r.1, r.2.go (S := fun a => a = D ∨ Ss ρ a) hs kp (fun _ z => .inl z)⟩
    | dct a ks ds =>
      obtain ⟨rfl, vs, q, l, al⟩ := r
      exact ⟨rfl, vs, kp _ _ (nb a rfl (fun b z => by cases z)) q, l, al.go (S := fun a => a = D ∨ Ss ρ a) hs kp (fun _ z => .inl z)⟩
  · by_cases c : a = D
    · rw [c]; exact t
    · by_cases c2 : Ss ρ a
      · exact (e.strm a c2 (R.strm a c2)).some
      · intro z
        cases q : H a with
        | none => exact R.amb a h q
        | some o => rw [e.keep a o c c2 q] at z; cases z
theorem l_lc2 {wi wi1 : TI} {it it1 : MI} {g g1 : TG} {ts ts1 vs vs1 : List Nat} {tg tg1 : MG} {tt tt1 : L2.TT} {ct ct1 : MT} {te : TE} {me : ME} (si : SI K E wi it) (sg : SG K ts g tg) (hts : ∀ i ∈ ts, i ∈ vs) (sc : ST K E0 tt ct)
    (si1 : SI K E0 wi1 it1) (sg1 : SG K ts1 g1 tg1) (hts1 : ∀ i ∈ ts1, i ∈ vs1) (sc1 : ST K E0 tt1 ct1) (se : SE K E0 te me) : SE K E (tLc2 wi g tt wi1 g1 tt1 te vs vs1) (eLc2 it tg ct it1 tg1 ct1 me vs vs1) := fun A B ρ H σ R Qd Ed Q hm k kx => by
  refine si A B ρ H σ R _ _ _ hm (fun l J H1 e1 yl h => ?_) kx
  obtain ⟨cl, h⟩ := h
  have R1 := R.evo e1
  obtain ⟨G, Y, wk, kG, kY⟩ := yl.ex
  intro D nD
  have nDH : H D = none := e1.free R.strm nD
  have nM : ¬ Mo A ρ D := fun z => R.mo _ z nDH
  have nS : ¬ Ss ρ D := fun z => nM (ss_mo _ z)
  -- what holds of the list that is made
  let Acc : Hp → List DL.D → Prop := fun H' out => Evo (Ss ρ) H1 H' ∧ ∃ us, H' D = some (.lst us) ∧ DrL K (plus (Mo A ρ) D) H' us out
  refine it_gen wk (fun Nx x H' => g x (L2.wipe σ vs) H' fun σ2 H2 => L2.wipe σ2 vs = L2.wipe σ vs ∧ tt σ2 H2 fun b H3 =>
    if b = true then wi1 σ2 H3 fun J1 H4 => ∃ W1 : Nat → Nat → Hp → Prop, (∃ m, W1 0 m H4) ∧ ∀ j k H, W1 j k H →
      (J1.stop j H ∧ Nx H) ∨ (J1.go j H ∧ ∃ Nx1 : Hp → Prop, (∀ H', Nx1 H' → ∃ k', k' < k ∧ W1 (j + 1) k' H') ∧ ∀ x H', J1.yld j H x H' → g1 x (L2.wipe σ2 vs1) H' fun σ3 H5 => L2.wipe σ3 vs1 = L2.wipe σ2 vs1 ∧ tt1 σ3 H5 fun b H6 =>
        if b = true then te σ3 H6 fun y H7 => ∃ acc, H7 D = some (.lst acc) ∧ acc.length < sizeLine ∧ Nx1 (upd H7 D (.lst (acc ++ [y]))) else Nx1 H6)
    else Nx H3) (fun j H' => ∃ out, Acc H' out ∧ lcD2 tg ct it1 tg1 ct1 me vs1 (wipeD ρ vs) (fun out => Qd (.new D out)) (l.drop j) out)
    ⟨[], ⟨Evo.of (new_same nD), [], upd_same, .nil⟩, by rw [List.drop_zero]; exact h D⟩ (fun j H' _ z => kG H' fun a o n q => by obtain ⟨out, za, _⟩ := z; exact za.1.keep a o (fun y => n (ss_mo a y)) q) ?_ ?_
  · rintro j v H2 H3 hj ⟨out, ⟨e2, us, qD, al⟩, hd⟩ y
    obtain ⟨sm, x, hx, dr⟩ := kY j H2 v H3 hj (fun a o n q => e2.keep a o (fun y => n (ss_mo a y)) q) y
    rw [List.drop_eq_getElem_cons hj] at hd
    have ex : l[j] = x := by rw [List.getElem?_eq_getElem hj] at hx; exact Option.some.inj hx
    rw [ex] at hd
    have R2 : RepS K (plus A D) B (wipeD ρ vs) H2 (L2.wipe σ vs) := (R1.comp nD e2 (by rw [qD]; simp)).wipe
    have R3 := R2.same sm
    have toM : ∀ a, Mo (plus A D) (wipeD ρ vs) a → Mo A ρ a ∨ H1 a = none := fun a z => (mo_plus.mp z).elim (fun y => .inl (mo_wipe y)) fun y => .inr (by rw [y]; exact nD)
    refine sg (plus A D) B _ H3 _ R3 v x (dr _ toM (fun a z => R2.mo a z)) _ _ hd fun ρ4 σ4 R4 hw hk hdt h4 => ⟨by rw [hw vs hts, wipe_wipe], ?_⟩
    have sS : ∀ a, Ss ρ4 a → Ss ρ a := fun a z => by
      obtain ⟨i, hi⟩ := mem_at z
      by_cases c : i ∈ ts
      · exact absurd (hdt i _ c hi) (by simp [Sl.addr])
      · rw [hk i c] at hi
        exact ss_wipe (at_mem hi)
    have e13 : Evo (Ss ρ) H1 H3 := e2.trans (Evo.of sm)
    have up : ∀ {X Y : Hp}, Evo (Ss ρ) H1 X → Evo (Ss ρ4) X Y → Evo (Ss ρ) X Y := fun {X Y} e1' e' => e'.mono sS fun a s => .inr (e1'.strm a s (R1.strm a s))
    have toM2 : ∀ a, plus (Mo A ρ) D a → Mo (plus A D) ρ4 a := fun a z => by
      rcases z with z | rfl
      · rcases mo_clean cl z with z | ⟨s, hs, ea⟩
        · exact .inl (.inl z)
        · obtain ⟨i, hi⟩ := mem_at hs
          have n : i ∉ ts := fun y => (wipe_get hi).2 (hts i y)
          exact .inr ⟨s, at_mem (i := i) (by rw [hk i n]; exact hi), ea⟩
      · exact .inl (.inr rfl)
    have nS4 : ¬ Ss ρ4 D := fun z => nS (sS D z)
    refine sc (plus A D) B ρ4 H3 σ4 R4 _ _ _ h4 (fun b H5 e5 h5 => ?_) (fun _ _ _ _ _ _ z => z.elim)
    have e35 := up e13 e5
    have e15 := e13.trans e35
    have e25 : Evo (Ss ρ) H2 H5 := (Evo.of sm).trans e35
    have qD5 := e25.keep _ _ nS qD
    have al5 : DrL K (plus (Mo A ρ) D) H5 us out := al.evo (fun a s => .inl (ss_mo a s)) e25
    cases b with
    | false => exact iteF ⟨out, ⟨e15, us, qD5, al5⟩, h5⟩
    | true =>
      have R5 := R4.evo e5
      refine iteT (si1 (plus A D) B ρ4 H5 σ4 R5 _ _ _ h5 (fun l1 J1 H6 e6 yl1 h6 => ?_) (fun _ _ _ _ _ _ z => z.elim))
      obtain ⟨cl1, h6⟩ := h6
      have R6 := R5.evo e6
      have e56 := up e15 e6
      have e16 := e15.trans e56
      obtain ⟨G1, Y1, wk1, kG1, kY1⟩ := yl1.ex
      have kpM : ∀ {H' : Hp}, EvD (Ss ρ4) D H6 H' → Keep (Mo (plus A D) ρ4) H6 H' := fun {H'} e a o n q => e.keep a o (fun z => n (by rw [z]; exact .inl (.inr rfl))) (fun z => n (ss_mo a z)) q
      refine it_gen wk1 (fun Nx1 x H' => g1 x (L2.wipe σ4 vs1) H' fun σ3 H5 => L2.wipe σ3 vs1 = L2.wipe σ4 vs1 ∧ tt1 σ3 H5 fun b H6 =>
        if b = true then te σ3 H6 fun y H7 => ∃ acc, H7 D = some (.lst acc) ∧ acc.length < sizeLine ∧ Nx1 (upd H7 D (.lst (acc ++ [y]))) else Nx1 H6)
        (fun i H' => EvD (Ss ρ4) D H6 H' ∧ ∃ out, Acc H' out ∧ lcD tg1 ct1 me (wipeD ρ4 vs1) (fun out => lcD2 tg ct it1 tg1 ct1 me vs1 (wipeD ρ vs) (fun out => Qd (.new D out)) (l.drop (j + 1)) out) (l1.drop i) out)
        ⟨EvD.of (Evo.refl _ _), out, ⟨e16, us, e56.keep _ _ nS qD5, al5.evo (fun a s => .inl (ss_mo a s)) e56⟩, by rw [List.drop_zero]; exact h6⟩ (fun i H' _ z => kG1 H' (kpM z.1)) ?_ ?_
      · rintro i v1 H7 H8 hi ⟨ed, out1, ⟨e17, us1, qD7, al7⟩, hd1⟩ y1
        obtain ⟨sm1, x1, hx1, dr1⟩ := kY1 i H7 v1 H8 hi (kpM ed) y1
        rw [List.drop_eq_getElem_cons hi] at hd1
        have ex1 : l1[i] = x1 := by rw [List.getElem?_eq_getElem hi] at hx1; exact Option.some.inj hx1
        rw [ex1] at hd1
        have R7 : RepS K (plus A D) B ρ4 H7 σ4 := R6.evD nS4 ed (R1.bvE e17) (by rw [qD7]; simp)
        have R8 : RepS K (plus A D) B (wipeD ρ4 vs1) H8 (L2.wipe σ4 vs1) := R7.wipe.same sm1
        refine sg1 (plus A D) B _ H8 _ R8 v1 x1 (dr1 _ (fun a z => .inl (mo_wipe z)) (fun a z => R7.wipe.mo a z)) _ _ hd1 fun ρ9 σ9 R9 hw9 hk9 hdt9 h9 => ⟨by rw [hw9 vs1 hts1, wipe_wipe], ?_⟩
        have sS9 : ∀ a, Ss ρ9 a → Ss ρ4 a := fun a z => by
          obtain ⟨q, hq⟩ := mem_at z
          by_cases c : q ∈ ts1
          · exact absurd (hdt9 q _ c hq) (by simp [Sl.addr])
          · rw [hk9 q c] at hq
            exact ss_wipe (at_mem hq)
        have toM9 : ∀ a, Mo (plus A D) ρ4 a → Mo (plus A D) ρ9 a := fun a z => by
          rcases mo_clean cl1 z with z | ⟨s, hs, ea⟩
          · exact .inl z
          · obtain ⟨q, hq⟩ := mem_at hs
            have n : q ∉ ts1 := fun y => (wipe_get hq).2 (hts1 q y)
            exact .inr ⟨s, at_mem (i := q) (by rw [hk9 q n]; exact hq), ea⟩
        have e18 : Evo (Ss ρ) H1 H8 := e17.trans (Evo.of sm1)
        have up9 : ∀ {X Y : Hp}, Evo (Ss ρ) H1 X → Evo (Ss ρ9) X Y → Evo (Ss ρ) X Y := fun {X Y} e1' e' => e'.mono (fun a z => sS a (sS9 a z)) fun a s => .inr (e1'.strm a s (R1.strm a s))
        have st4 : ∀ {X : Hp}, Evo (Ss ρ) H1 X → ∀ a, Ss ρ4 a → IsStrm X a := fun {X} e a s => e.strm a (sS a s) (R1.strm a (sS a s))
        have up4 : ∀ {X Y : Hp}, Evo (Ss ρ) H1 X → Evo (Ss ρ9) X Y → Evo (Ss ρ4) X Y := fun {X Y} e1' e' => e'.mono sS9 fun a s => .inr (st4 e1' a s)
        refine sc1 (plus A D) B ρ9 H8 σ9 R9 _ _ _ h9 (fun b H10 e10 h10 => ?_) (fun _ _ _ _ _ _ z => z.elim)
        have e810 := up9 e18 e10
        have e110 := e18.trans e810
        have ed10 : EvD (Ss ρ4) D H6 H10 := ed.trans (EvD.of ((Evo.of sm1).trans (up4 e18 e10)))
        have e710 : Evo (Ss ρ) H7 H10 := (Evo.of sm1).trans e810
        have qD10 := e710.keep _ _ nS qD7
        have al10 : DrL K (plus (Mo A ρ) D) H10 us1 out1 := al7.evo (fun a s => .inl (ss_mo a s)) e710
        cases b with
        | false => exact iteF ⟨ed10, out1, ⟨e110, us1, qD10, al10⟩, h10⟩
        | true =>
          refine iteT (se (plus A D) B ρ9 H10 σ9 (R9.evo e10) _ _ _ h10 (fun r u H11 e11 rr h11 => ?_) (fun _ _ _ _ _ _ z => z.elim))
          split at h11
          · rename_i z hz
            have e1011 := up9 e110 e11
            have qD11 := e1011.keep _ _ nS qD10
            have al11 : DrL K (plus (Mo A ρ) D) H11 us1 out1 := al10.evo (fun a s => .inl (ss_mo a s)) e1011
            have dz : Dr K (plus (Mo A ρ) D) H11 u z := Dr.grow (rr.dr hz) fun a z => .inl (toM9 a (toM2 a z))
            have kp : ∀ (o : HO) (a : Addr) (o' : HO), ¬ (a = D) → H11 a = some o' → upd H11 D o a = some o' := fun o a o' n q => by rw [upd_ne n]; exact q
            refine ⟨us1, qD11, ?_, (ed10.trans (EvD.of (up4 e110 e11))).trans (EvD.put nS4), out1 ++ [z], ⟨⟨fun a o n q => ?_, fun a s q => ?_⟩, us1 ++ [u], upd_same, ?_⟩, h11.2⟩
            · rw [al11.length]
              exact Nat.lt_of_lt_of_le h11.1 (by decide)
            · rw [upd_ne (fun z => by rw [z, nD] at q; cases q)]
              exact e1011.keep a o n (e110.keep a o n q)
            · obtain ⟨c1, c2, c3, q'⟩ := e1011.strm a s (e110.strm a s q)
              exact ⟨c1, c2, c3, by rw [upd_ne (fun z => nS (by rw [← z]; exact s))]; exact q'⟩
            · exact DrL.append (al11.go (S := fun a => a = D) (fun a z => .inr z) (kp _) fun _ z => .inl z) (.cons (Dr.go (S := fun a => a = D) (fun a z => .inr z) (kp _) (fun _ z => .inl z) dz) .nil)
          · exact h11.elim
      · rintro H7 ⟨ed, out1, ac, hd1⟩
        rw [List.drop_length] at hd1
        exact ⟨out1, ac, hd1⟩
  · rintro H2 ⟨out, ⟨e2, us, qD, al⟩, hd⟩
    rw [List.drop_length] at hd
    exact k (.new D out) _ H2 (e1.trans e2) ⟨rfl, nDH, nM, us, qD, al⟩ hd
theorem pi_by (K : PySem.W.Frag) {X : Cx} {tg e : Expr} {t : TI} {E : XK} (m : MI) (s : SI K E t m) (d : PI X tg e t) : PI X tg e t := d
/-! one operator, two readings -/
def fOr (f g : Rv → Rv → KD → KX → Prop) (x y : Rv) (Q : KD) (Ed : KX) : Prop := f x y Q Ed ∨ g x y Q Ed
theorem s_or {r r' : R2} {f g : Rv → Rv → KD → KX → Prop} (h : S2 K E r f) (h' : S2 K E r' g) : S2 K E (fun x y H Q => r x y H Q ∨ r' x y H Q) (fOr f g) := fun M S H0 H v w x y wf rx ry Qd Ed Q hf k kx =>
  hf.elim (fun z => .inl (h M S H0 H v w x y wf rx ry Qd Ed Q z k kx)) fun z => .inr (h' M S H0 H v w x y wf rx ry Qd Ed Q z k kx)
end
end DL

set_option Elab.async false
set_option linter.all false
set_option maxRecDepth 100000
set_option maxHeartbeats 2000000
/-! dicts by keys that are texts or numbers; targets within targets -/
namespace DL
open PySem L2 He DX
def dkey : Rv → Option Key
  | .d (.str z) => some (.inr z) | .d (.int i) => some (.inl i) | _ => none
def valD : List Key → List D → Key → Option D
  | k' :: ks, x :: ds, k => if k' = k then some x else valD ks ds k
  | _, _, _ => none
def hasK (ks : List Key) (k : Key) : Bool := ks.any fun k' => decide (k' = k)
def putKs (ks : List Key) (k : Key) : List Key := if hasK ks k = true then ks else ks ++ [k]
def putAt {α : Type} : List Key → List α → Key → α → List α
  | k' :: ks, x :: ds, k, y => (if k' = k then y else x) :: putAt ks ds k y
  | _, _, _, _ => []
def putDs {α : Type} (ks : List Key) (ds : List α) (k : Key) (y : α) : List α := if hasK ks k = true then putAt ks ds k y else ds ++ [y]
abbrev MD := Env → (List Key → List D → Prop) → KX → Prop
/-- an expression that is a dict -/
def SD (K : PySem.W.Frag) (E : XK) (t : TE) (md : MD) : Prop := ∀ A B ρ H σ, RepS K A B ρ H σ → ∀ (Kd : List Key → List D → Prop) (Ed : KX) (Q : VK), md ρ Kd Ed →
  (∀ a ks ds vs H', Evo (Ss ρ) H H' → H' a = some (.dK (ks.zip vs)) → ¬ Ss ρ a → vs.length = ks.length → DrL K (Mo A ρ) H' vs ds → Kd ks ds → Q (.ref a) H') →
  (∀ x c d H', Evo (Ss ρ) H H' → RepX K (Mo A ρ) H' c d x → Ed x → E c d H') → t σ H Q
def dVal (m : ME) : MD := fun ρ Kd Ed => m ρ (fun r => match r with
  | .d (.dic ks ds) => Kd ks ds
  | _ => False) Ed
def dOwn (i : Nat) : MD := fun ρ Kd _ => match ρ[i]? with
  | some (some (.dct _ ks ds)) => Kd ks ds
  | _ => False
/-- a new dict, as data -/
def eDNew : ME := fun _ Q _ => Q (.d (.dic [] []))
def eDIn (neg : Bool) (mk : ME) (md : MD) : ME := fun ρ Q Ed => mk ρ (fun r => match dkey r with
  | some k => md ρ (fun ks ds => Q (.d (.bl (neg ^^ (valD ks ds k).isSome)))) Ed
  | none => False) Ed
def eDGet (md : MD) (mk : ME) : ME := fun ρ Q Ed => md ρ (fun ks ds => mk ρ (fun r => match (dkey r).bind (valD ks ds) with
  | some x => Q (.d x)
  | none => False) Ed) Ed
def sDNew (i : Nat) : MS := fun ρ M => ∀ a, M.nx (ρ.set i (some (.dct a [] [])))
def sDPutD (i : Nat) (mk mv : ME) : MS := fun ρ M => match ρ[i]? with
  | some (some (.dct a ks ds)) => mv ρ (fun r => match r.data with
    | some x => mk ρ (fun kr => match dkey kr with
      | some k => ks.length < 1000000 ∧ M.nx (ρ.set i (some (.dct a (putKs ks k) (putDs ks ds k x))))
      | none => False) M.ex
    | none => False) M.ex
  | _ => False
def sRetDct (i : Nat) : MS := fun ρ M => match ρ[i]? with
  | some (some (.dct _ ks ds)) => M.rt (.d (.dic ks ds))
  | _ => False
section
variable {K : PySem.W.Frag} {A : AS} {B : Bd} {ρ : Env} {H H' H0 H1 : Hp} {σ : St} {E : XK} {m m1 m2 mk mv : ME} {t t1 t2 ty tv td : TE} {md : MD}
theorem dkey_v {M S : AS} {v : V} {r : Rv} {k : Key} (h : RepR K M S H0 H v r) (e : dkey r = some k) : v = kV k := by
  cases r with
  | d x =>
    cases x with
    | str z => cases e; cases h; rfl
    | int i => cases e; cases h; rfl
    | _ => cases e
  | _ => cases e
theorem valD_ok {M : AS} {k : Key} : ∀ {ks : List Key} {vs : List V} {ds : List D}, DrL K M H vs ds → vs.length = ks.length →
    (valV (ks.zip vs) k = none ∧ valD ks ds k = none) ∨ ∃ v x, valV (ks.zip vs) k = some v ∧ valD ks ds k = some x ∧ Dr K M H v x
  | [], [], _, .nil, _ => .inl ⟨rfl, rfl⟩
  | k' :: ks, v :: vs, x :: ds, .cons r t, l => by
    by_cases c : k' = k
    · refine .inr ⟨v, x, ?_, ?_, r⟩
      · unfold valV
        rw [List.zip_cons_cons, List.find?_cons_of_pos (by simpa using c)]
        rfl
      · unfold valD
        rw [if_pos c]
    · have e1 : valV ((k', v) :: ks.zip vs) k = valV (ks.zip vs) k := by
        unfold valV
        rw [List.find?_cons_of_neg (by simpa using c)]
      have e2 : valD (k' :: ks) (x :: ds) k = valD ks ds k := by
        conv => lhs; unfold valD
        rw [if_neg c]
      rw [List.zip_cons_cons, e1, e2]
      exact valD_ok t (Nat.succ.inj l)
  | [], _ :: _, _, _, l => by cases l
  | _ :: _, [], _, _, l => by cases l
theorem any_zip {k : Key} : ∀ {ks : List Key} {vs : List V}, vs.length = ks.length → ((ks.zip vs).any fun kv => decide (kv.1 = k)) = hasK ks k
  | [], [], _ => rfl
  | k' :: ks, v :: vs, l => by
    have ih := any_zip (k := k) (Nat.succ.inj l)
    unfold hasK at ih ⊢
    rw [List.zip_cons_cons, List.any_cons, List.any_cons, ih]
  | [], _ :: _, l => by cases l
  | _ :: _, [], l => by cases l
theorem map_zip {k : Key} {y : V} : ∀ {ks : List Key} {vs : List V}, vs.length = ks.length → ((ks.zip vs).map fun kv => if kv.1 = k then (kv.1, y) else kv) = ks.zip (putAt ks vs k y)
  | [], [], _ => rfl
  | k' :: ks, v :: vs, l => by
    have ih := map_zip (k := k) (y := y) (Nat.succ.inj l)
    show _ = (k' :: ks).zip ((if k' = k then y else v) :: putAt ks vs k y)
    rw [List.zip_cons_cons, List.map_cons, ih, List.zip_cons_cons]
    by_cases c : k' = k
    · rw [if_pos c, if_pos c]
    · rw [if_neg c, if_neg c]
  | [], _ :: _, l => by cases l
  | _ :: _, [], l => by cases l
theorem putAt_length {α : Type} {k : Key} {y : α} : ∀ {ks : List Key} {vs : List α}, vs.length = ks.length → (putAt ks vs k y).length = ks.length
  | [], [], _ => rfl
  | _ :: ks, _ :: vs, l => congrArg Nat.succ (putAt_length (Nat.succ.inj l))
  | [], _ :: _, l => by cases l
  | _ :: _, [], l => by cases l
theorem put_zip {k : Key} {y : V} {ks : List Key} {vs : List V} (l : vs.length = ks.length) : putK (ks.zip vs) k y = (putKs ks k).zip (putDs ks vs k y) ∧ (putDs ks vs k y).length = (putKs ks k).length := by
  unfold putK putKs putDs
  rw [any_zip l]
  by_cases c : hasK ks k = true
  · rw [if_pos c, if_pos c, if_pos c]
    exact ⟨map_zip l, putAt_length l⟩
  · rw [if_neg c, if_neg c, if_neg c]
    exact ⟨by rw [List.zip_append l.symm]; rfl, by rw [List.length_append, List.length_append, l]; rfl⟩
theorem putAt_dr {M : AS} {k : Key} {y : V} {x : D} (r : Dr K M H y x) : ∀ {ks : List Key} {vs : List V} {ds : List D}, DrL K M H vs ds → vs.length = ks.length → DrL K M H (putAt ks vs k y) (putAt ks ds k x)
  | [], [], _, .nil, _ => .nil
  | k' :: ks, v :: vs, d :: ds, .cons h t, l => by
    unfold putAt
    by_cases c : k' = k
    · rw [if_pos c, if_pos c]; exact .cons r (putAt_dr r t (Nat.succ.inj l))
    · rw [if_neg c, if_neg c]; exact .cons h (putAt_dr r t (Nat.succ.inj l))
  | [], _ :: _, _, _, l => by cases l
  | _ :: _, [], _, _, l => by cases l
theorem putDs_dr {M : AS} {k : Key} {y : V} {x : D} {ks : List Key} {vs : List V} {ds : List D} (r : Dr K M H y x) (t : DrL K M H vs ds) (l : vs.length = ks.length) : DrL K M H (putDs ks vs k y) (putDs ks ds k x) := by
  unfold putDs
  by_cases c : hasK ks k = true
  · rw [if_pos c, if_pos c]; exact putAt_dr r t l
  · rw [if_neg c, if_neg c]; exact t.append (.cons r .nil)
theorem l_dnew : SE K E tDNewK eDNew := fun A B ρ H σ R Qd Ed Q hm k kx p hp => by
  have e2 : Evo (Ss ρ) H (upd H p (.dK [])) := Evo.of (new_same hp)
  exact k (.d (.dic [] [])) _ _ e2 (Dr.dic (ks := []) (vs := []) upd_same (fun z => R.mo p z hp) rfl .nil) hm
theorem sd_val (s : SE K E t m) : SD K E t (dVal m) := fun A B ρ H σ R Kd Ed Q hm k kx => by
  refine s A B ρ H σ R _ Ed _ hm (fun r v H1 e1 rr h => ?_) kx
  split at h
  · rename_i ks ds
    cases rr with
    | dic q n l al => exact k _ ks ds _ H1 e1 q (fun z => n (ss_mo _ z)) l al h
  · exact h.elim
theorem sd_own {i : Nat} : SD K E (tVar i) (dOwn i) := fun A B ρ H σ R Kd Ed Q hm k kx => by
  unfold dOwn at hm
  split at hm
  · rename_i a ks ds hi
    obtain ⟨v, hv, rfl, vs, q, l, al⟩ := R.at_ i _ hi
    refine ⟨_, hv, k a ks ds vs H (Evo.refl _ _) q (fun z => ?_) l al hm⟩
    obtain ⟨j, hj⟩ := mem_at z
    have := R.apart i j _ _ a hi hj rfl rfl
    subst this
    rw [hi] at hj
    cases hj
  · exact hm.elim
theorem l_dget (s1 : SD K E td md) (s2 : SE K E ty mk) : SE K E (tDGet td ty) (eDGet md mk) := fun A B ρ H σ R Qd Ed Q hm k kx => by
  refine s1 A B ρ H σ R _ Ed _ hm (fun a ks ds vs H1 e1 q nS l al h => ?_) kx
  refine s2 A B ρ H1 σ (R.evo e1) _ Ed _ h (fun r v H2 e2 rr h2 => ?_) fun x c d H' e' => kx x c d H' (e1.trans e')
  split at h2
  · rename_i x e
    obtain ⟨key, ek, ex⟩ := Option.bind_eq_some_iff.mp e
    have := dkey_v rr ek
    subst this
    have al2 := al.evo (fun a z => ss_mo a z) e2
    rcases valD_ok (k := key) al2 l with ⟨_, z⟩ | ⟨u, y, h1, h3, ru⟩
    · rw [z] at ex; cases ex
    · rw [h3] at ex
      cases ex
      refine ⟨a, u, rfl, ?_, k (.d _) _ _ (e1.trans e2) ru h2⟩
      have := DGet.k (k := key) (e2.keep _ _ nS q)
      rw [h1] at this
      exact this
  · exact h2.elim
theorem din_ok {M : AS} {key : Key} {ks : List Key} {vs : List V} {ds : List D} (al : DrL K M H vs ds) (l : vs.length = ks.length) : (valV (ks.zip vs) key).isSome = (valD ks ds key).isSome := by
  rcases valD_ok (k := key) al l with ⟨h1, h2⟩ | ⟨u, y, h1, h2, _⟩ <;> rw [h1, h2] <;> rfl
theorem l_din (s1 : SE K E ty mk) (s2 : SD K E td md) : SE K E (tDIn ty td) (eDIn false mk md) := fun A B ρ H σ R Qd Ed Q hm k kx => by
  refine s1 A B ρ H σ R _ Ed _ hm (fun r v H1 e1 rr h => ?_) kx
  split at h
  · rename_i key ek
    have := dkey_v rr ek
    subst this
    refine s2 A B ρ H1 σ (R.evo e1) _ Ed _ h (fun a ks ds vs H2 e2 q nS l al h2 => ?_) fun x c d H' e' => kx x c d H' (e1.trans e')
    refine ⟨a, _, rfl, DGet.k q, k (.d (.bl _)) _ _ (e1.trans e2) (Dr.bl _) ?_⟩
    rw [Bool.false_xor] at h2
    rw [din_ok al l]
    exact h2
  · exact h.elim
theorem l_dnotin (s1 : SE K E ty mk) (s2 : SD K E td md) : SE K E (tDNotIn ty td) (eDIn true mk md) := fun A B ρ H σ R Qd Ed Q hm k kx => by
  refine s1 A B ρ H σ R _ Ed _ hm (fun r v H1 e1 rr h => ?_) kx
  split at h
  · rename_i key ek
    have := dkey_v rr ek
    subst this
    refine s2 A B ρ H1 σ (R.evo e1) _ Ed _ h (fun a ks ds vs H2 e2 q nS l al h2 => ?_) fun x c d H' e' => kx x c d H' (e1.trans e')
    refine ⟨a, _, rfl, DGet.k q, k (.d (.bl _)) _ _ (e1.trans e2) (Dr.bl _) ?_⟩
    rw [Bool.true_xor] at h2
    rw [din_ok al l]
    exact h2
  · exact h.elim
theorem w_dnew {i : Nat} : SS K E (tAsg tDNewK (gName i)) (sDNew i) := fun A B ρ H σ R M Dn hm L p hp => by
  have e2 : Evo (Ss ρ) H (upd H p (.dK [])) := Evo.of (new_same hp)
  exact L.nx _ _ _ (R.setN (s := .dct p [] []) e2 hp rfl ⟨rfl, [], upd_same, rfl, .nil⟩) (hm p)
theorem w_dput {i : Nat} (s2 : SE K E ty mk) (s1 : SE K E tv mv) : SS K E (sDPut (tVar i) ty tv) (sDPutD i mk mv) := fun A B ρ H σ R M Dn hm L => by
  unfold sDPutD at hm
  split at hm
  · rename_i a ks ds hi
    refine s1 A B ρ H σ R _ _ _ hm (fun r v H1 e1 rr h => ?_) (L.exE R)
    have R1 := R.evo e1
    split at h
    · rename_i x ex
      have dx := rr.dr ex
      obtain ⟨u, hu, rfl, _⟩ := R1.at_ i _ hi
      refine ⟨_, hu, ?_⟩
      refine s2 A B ρ H1 σ R1 _ _ _ h (fun kr w H2 e2 rk h2 => ?_) (fun x c d H' e' => L.exE R x c d H' (e1.trans e'))
      split at h2
      · rename_i key ek
        have := dkey_v rk ek
        subst this
        have R2 := R1.evo e2
        obtain ⟨v2, hv2, rfl, vs, q, l, al⟩ := R2.at_ i _ hi
        have dx2 : Dr K (Mo A ρ) H2 v x := Dr.evo dx (fun a z => ss_mo a z) e2
        obtain ⟨pz, pl⟩ := put_zip (k := key) (y := v) l
        refine ⟨a, _, rfl, DPut.k q (by rw [List.length_zip, l, Nat.min_self]; exact Nat.lt_of_lt_of_le h2.1 (by decide)), ?_⟩
        rw [pz]
        refine L.nx _ _ _ (R2.upd hi rfl (fun b z => by cases z) rfl (fun b z => by cases z) fun w hw => ?_) h2.2
        obtain ⟨rfl, vs3, q3, l3, al3⟩ := hw
        have ma : Mo A ρ a := .inr ⟨_, at_mem hi, rfl⟩
        have kp : ∀ (o : HO) (b : Addr) (u' : HO), ¬ (b = a) → H2 b = some u' → L2.upd H2 a o b = some u' := fun o b u' n q => by rw [upd_ne n]; exact q
        exact ⟨rfl, _, upd_same, pl, (putDs_dr dx2 al l).go (S := fun b => b = a) (fun b z => by rw [z]; exact ma) (kp _) fun _ z => .inl z⟩
      · exact h2.elim
    · exact h.elim
  · exact hm.elim
theorem w_retDct {i : Nat} : SS K E (tRet (tVar i)) (sRetDct i) := fun A B ρ H σ R M Dn hm L => by
  unfold sRetDct at hm
  split at hm
  · rename_i a ks ds hi
    obtain ⟨v, hv, rfl, vs, q, l, al⟩ := R.at_ i _ hi
    have nA : ¬ A a := R.na i _ a hi rfl fun b z => by cases z
    exact ⟨_, hv, L.rt (.d (.dic ks ds)) _ H R.bv (Dr.dic q nA l (al.grow fun b z => .inl (.inl z))) hm⟩
  · exact hm.elim
end
end DL
namespace DL
open PySem L2 He DX
/-! targets: in each other, of rows -/
def gMany : List MG → List D → Env → (Env → Prop) → Prop
  | [], [], ρ, Kd => Kd ρ
  | m :: ms, x :: l, ρ, Kd => m x ρ fun ρ' => gMany ms l ρ' Kd
  | _, _, _, _ => False
def gTupN (ms : List MG) : MG := fun x ρ Kd => match x with
  | .tup l => gMany ms l ρ Kd
  | _ => False
def gRow (ms : List MG) : MG := fun x ρ Kd => match x with
  | .tup l => gMany ms l ρ Kd
  | .lst l => gMany ms l ρ Kd
  | _ => False
section
variable {K : PySem.W.Frag} {A : AS} {B : Bd} {ρ : Env} {H H' H0 H1 : Hp} {σ : St} {E : XK}
def SGm (K : PySem.W.Frag) (is : List Nat) (g : TGs) (ms : List MG) : Prop :=
  ∀ A B ρ H σ, RepS K A B ρ H σ → ∀ vs l, DrL K (Mo A ρ) H vs l → ∀ (Kd : Env → Prop) (Q : St → Hp → Prop), gMany ms l ρ Kd →
    (∀ ρ' σ', RepS K A B ρ' H σ' → (∀ ws, (∀ i ∈ is, i ∈ ws) → wipe σ' ws = wipe σ ws) → (∀ (j : Nat), j ∉ is → ρ'[j]? = ρ[j]?) → (∀ (j : Nat) s, j ∈ is → ρ'[j]? = some (some s) → s.addr = none) → Kd ρ' → Q σ' H) → g vs σ H Q
theorem gm_nil : SGm K [] gNil [] := fun A B ρ H σ R vs l al Kd Q hk k => by
  cases al with
  | nil => exact ⟨rfl, k ρ σ R (fun _ _ => rfl) (fun _ _ => rfl) (fun j s hj => by cases hj) hk⟩
  | cons _ _ => exact hk.elim
theorem gm_cons {is js : List Nat} {t : TG} {g : TGs} {m : MG} {ms : List MG} (s1 : SG K is t m) (s : SGm K js g ms) : SGm K (is ++ js) (gCons t g) (m :: ms) := fun A B ρ H σ R vs l al Kd Q hk k => by
  cases al with
  | nil => exact hk.elim
  | cons h t =>
    rename_i v x vs l
    refine ⟨v, vs, rfl, ?_⟩
    refine s1 A B ρ H σ R v x h _ _ hk fun ρ1 σ1 R1 w1 f1 d1 h1 => ?_
    have sub : ∀ a, Mo A ρ1 a → Mo A ρ a := fun a z => by
      rcases z with z | ⟨s, hs, ea⟩
      · exact .inl z
      · obtain ⟨j, hj⟩ := mem_at hs
        by_cases c : j ∈ is
        · rw [d1 j s c hj] at ea; cases ea
        · rw [f1 j c] at hj
          exact .inr ⟨s, at_mem hj, ea⟩
    refine s A B ρ1 H σ1 R1 vs l (t.grow fun a z => .inl (sub a z)) Kd Q h1 fun ρ' σ' R' w f fd h => k ρ' σ' R' (fun ws hw => ?_) (fun j hj => ?_) (fun j s hj hs => ?_) h
    · rw [w ws fun j hj => hw j (List.mem_append_right _ hj), w1 ws fun j hj => hw j (List.mem_append_left _ hj)]
    · rw [f j fun z => hj (List.mem_append_right _ z), f1 j fun z => hj (List.mem_append_left _ z)]
    · by_cases c : j ∈ js
      · exact fd j s c hs
      · rw [f j c] at hs
        exact d1 j s ((List.mem_append.mp hj).resolve_right c) hs
/-- as many as there are -/
theorem g_tupN {is : List Nat} {g : TGs} {ms : List MG} {n : Nat} (s : SGm K is g ms) (hn : ∀ l ρ Kd, gMany ms l ρ Kd → l.length = n) : SG K is (gTup K n g) (gTupN ms) := fun A B ρ H σ R v x h Kd Q hk k => by
  cases x with
  | tup l =>
    obtain ⟨a, vs, rfl, q, al⟩ := Dr.sqt h
    exact ⟨a, vs, rfl, q, by rw [al.length, hn _ _ _ hk], s A B ρ H σ R vs l al Kd Q hk k⟩
  | _ => exact hk.elim
theorem g_row {is : List Nat} {g : TGs} {ms : List MG} {n : Nat} (s : SGm K is g ms) (hn : ∀ l ρ Kd, gMany ms l ρ Kd → l.length = n) : SG K is (fun v σ H Q => gTup K n g v σ H Q ∨ gLst K n g v σ H Q) (gRow ms) := fun A B ρ H σ R v x h Kd Q hk k => by
  cases x with
  | tup l =>
    obtain ⟨a, vs, rfl, q, al⟩ := Dr.sqt h
    exact .inl ⟨a, vs, rfl, q, by rw [al.length, hn _ _ _ hk], s A B ρ H σ R vs l al Kd Q hk k⟩
  | lst l =>
    cases h with
    | lst q nm al => exact .inr ⟨_, _, rfl, SqL.of q, by rw [al.length, hn _ _ _ hk], s A B ρ H σ R _ l al Kd Q hk k⟩
  | _ => exact hk.elim
/-- a target that goes on wherever it goes on -/
def Mono (m : MG) : Prop := ∀ x ρ (P Q : Env → Prop), (∀ ρ', P ρ' → Q ρ') → m x ρ P → m x ρ Q
def Strict (m : MG) : Prop := ∀ x ρ, ¬ m x ρ fun _ => False
theorem gm_size {ms : List MG} (hs : ∀ m ∈ ms, Mono m ∧ Strict m) : ∀ (l : List D) (ρ : Env) (Kd : Env → Prop), gMany ms l ρ Kd → l.length = ms.length := by
  induction ms with
  | nil => intro l ρ Kd h; cases l with
    | nil => rfl
    | cons _ _ => exact h.elim
  | cons m ms ih => intro l ρ Kd h; cases l with
    | nil => exact h.elim
    | cons x l =>
      refine congrArg Nat.succ ?_
      by_cases c : l.length = ms.length
      · exact c
      · obtain ⟨mo, st⟩ := hs m List.mem_cons_self
        exact absurd (mo x ρ _ _ (fun ρ' z => absurd (ih (fun m' h' => hs m' (List.mem_cons_of_mem _ h')) l ρ' Kd z) c) h) (st x ρ)
def AllMS (ms : List MG) : Prop := ∀ m ∈ ms, Mono m ∧ Strict m
theorem am_nil : AllMS [] := fun _ h => by cases h
theorem am_cons {m : MG} {ms : List MG} (h : Mono m ∧ Strict m) (t : AllMS ms) : AllMS (m :: ms) := fun x hx => by
  rcases List.mem_cons.mp hx with rfl | hx
  · exact h
  · exact t x hx
theorem hu_of {k : Nat} {A : Around} (hr : Room k A) : A.units + 1 < cLine := by have := hr.un; omega
theorem ms_name {i : Nat} : Mono (gSet i) ∧ Strict (gSet i) := ⟨fun x ρ P Q h z => h _ z, fun x ρ z => z⟩
theorem ms_tup {ms : List MG} (hs : ∀ m ∈ ms, Mono m ∧ Strict m) : Mono (gTupN ms) ∧ Strict (gTupN ms) := by
  have mo : ∀ (ms : List MG), (∀ m ∈ ms, Mono m ∧ Strict m) → ∀ l ρ P Q, (∀ ρ', P ρ' → Q ρ') → gMany ms l ρ P → gMany ms l ρ Q := by
    intro ms
    induction ms with
    | nil => intro _ l ρ P Q h z; cases l with
      | nil => exact h _ z
      | cons _ _ => exact z.elim
    | cons m ms ih => intro hs l ρ P Q h z; cases l with
      | nil => exact z.elim
      | cons x l => exact (hs m List.mem_cons_self).1 x ρ _ _ (fun ρ' y => ih (fun m' h' => hs m' (List.mem_cons_of_mem _ h')) l ρ' P Q h y) z
  have st : ∀ (ms : List MG), (∀ m ∈ ms, Mono m ∧ Strict m) → ∀ l ρ, ¬ gMany ms l ρ fun _ => False := by
    intro ms
    induction ms with
    | nil => intro _ l ρ z; cases l with
      | nil => exact z
      | cons _ _ => exact z.elim
    | cons m ms ih => intro hs l ρ z; cases l with
      | nil => exact z.elim
      | cons x l => exact (hs m List.mem_cons_self).2 x ρ ((hs m List.mem_cons_self).1 x ρ _ _ (fun ρ' y => ih (fun m' h' => hs m' (List.mem_cons_of_mem _ h')) l ρ' y) z)
  refine ⟨fun x ρ P Q h z => ?_, fun x ρ z => ?_⟩
  · cases x with
    | tup l => exact mo ms hs l ρ P Q h z
    | _ => exact z.elim
  · cases x with
    | tup l => exact st ms hs l ρ z
    | _ => exact z.elim
end
end DL
namespace DX
open PySem PySem.Spec PyProof.Rows L2
theorem pg_orr {X : Cx} {tg : Expr} {g g' : TG} (h : PG X tg g) (h' : PG X tg g') : PG X tg (fun v σ H Q => g v σ H Q ∨ g' v σ H Q) := ⟨fun pins s σ H v u Q I r hw => hw.elim (fun z => h.run pins s σ H v u Q I r z) fun z => h'.run pins s σ H v u Q I r z⟩
end DX

set_option Elab.async false
set_option linter.all false
set_option maxRecDepth 100000
set_option maxHeartbeats 2000000
/-! several clauses, some of them with a name -/
namespace DX
open PySem PySem.Spec PyProof.Rows L2
abbrev Cla := Value × Option Nat × (Addr → Value → Option Addr → TS)
/-- how a clause goes on: the name is gone behind it -/
def gone (o : Option Nat) (D : Ends) : Ends := match o with
  | some i => { nx := fun σ' H' => D.nx (σ'.set i none) H', rt := D.rt, bk := fun σ' H' => D.bk (σ'.set i none) H', ct := fun σ' H' => D.ct (σ'.set i none) H' }
  | none => D
def named (o : Option Nat) (a : Addr) (σ : L2.St) : L2.St := match o with
  | some i => σ.set i (some (.ref a))
  | none => σ
def wMix (K : PySem.W.Frag) (Wout : WX) (D : Ends) : List Cla → WX
  | [] => Wout
  | (c, o, ts) :: r => fun cls d σ H => ∃ b, PySem.W.exmOne K cls c = some b ∧ (b = true → ∀ a, H a = none → ts a cls d (gone o D) (named o a σ) H) ∧ (b = false → wMix K Wout D r cls d σ H)
inductive HdMix (X : Cx) : List ExceptHandler → List Cla → Prop
  | nil : HdMix X [] []
  | cons {x : Str} {c : Value} {ts : Addr → Value → Option Addr → TS} {b₀ : Stmt} {suite : List Stmt} {np pos' : Pos} {hds : List ExceptHandler} {l : List Cla} (hc : Names X x c)
      (hsu : ∀ (a : Addr) (oe : Obj) (cls : Value) (d : Option Addr) (pn : List (Addr × Obj)), Zc cls d oe → (∃ vs, oe.data = .fields vs) → PSs (X.suite a ((a, oe) :: pn)) (b₀ :: suite) (ts a cls d)) (r : HdMix X hds l) :
      HdMix X (.ExceptHandler (some (.Name x np)) none (b₀ :: suite) pos' :: hds) ((c, none, ts) :: l)
  | as {x n : Str} {i : Nat} {c : Value} {ts : Addr → Value → Option Addr → TS} {b₀ : Stmt} {suite : List Stmt} {np pos' : Pos} {hds : List ExceptHandler} {l : List Cla} (hi : X.N[i]? = some n) (hln : X.env.kindOf n = some .local) (hc : Names X x c)
      (hsu : ∀ (a : Addr) (oe : Obj) (cls : Value) (d : Option Addr) (pn : List (Addr × Obj)), Zc cls d oe → (∃ vs, oe.data = .fields vs) → PSs (X.suite a ((a, oe) :: pn)) (b₀ :: suite) (ts a cls d)) (r : HdMix X hds l) :
      HdMix X (.ExceptHandler (some (.Name x np)) (some n) (b₀ :: suite) pos' :: hds) ((c, some i, ts) :: l)
section
variable {X : Cx} {body : List Stmt} {h₀ : ExceptHandler} {hds : List ExceptHandler} {l : List Cla} {pos : Pos} {tb : WX → TS} {Wout : WX}
theorem ps_try_mix (hs : X.stack = X.env :: X.outer) (hf : X.env.frame = some X.env.locals) (hN : X.N.Nodup) (tk : Takes X Wout)
    (hb : ∀ (W : WX) (pn : List (Addr × Obj)) (xe : Value → Shared → Prop), Takes (X.tr pn xe) W → PassesOwn (model X.prog X.w) X.A X.env xe → PSs (X.tr pn xe) body (tb W))
    (hh : HdMix X (h₀ :: hds) l) : PS X (.Try body (h₀ :: hds) [] [] pos) (fun D σ H => tb (wMix X.K Wout D l) D σ H) := by
  refine ⟨fun pins s σ H D I h => ?_⟩
  have ok := I.ok
  have hfr : X.A.frames = some (X.env :: X.outer) := by rw [ok.frames, hs]
  refine wpAny_Try_except ?_
  refine wpAny_mono ((hb (wMix X.K Wout D l) (X.pn ++ pins) (fun e s₁ => wpAny (model X.prog X.w) X.A (noteFrame e X.env) (fun _ s₂ => wpAny (model X.prog X.w) X.A (setFlight e none) (fun _ s₃ =>
    wpAny (model X.prog X.w) X.A (handleBy e X.env (h₀ :: hds)) (SP X pins D) X.xe s₃) X.xe s₂) X.xe s₁) (fun u s' xx => ?_) PassesOwn.looking).run [] s σ H D (I.toTry _) h) (fun f s1 hsp => ?_) (fun e s1 he => he)
  · obtain ⟨a, B, sI, pins', σ', H', cls, d, rfl, J', nb, up, sky, na, os, ag, w⟩ := xx
    have J : Inv X pins σ' H' sI := J'.ofTry ok
    have sky' : Sky B (X.env :: X.outer) a (Zc cls d) X.env.locals s'.heap := by rw [← hs]; exact sky
    show wpAny (model X.prog X.w) X.A (noteFrame (.ref a) X.env) _ _ _
    refine Sky.land Zc.steady hfr hf sky' fun h3 fl3 up3 => ?_
    have J3 : Inv X pins σ' H' { s' with heap := h3 } := J.landed nb fl3.1 (up.trans up3) os ag
    obtain ⟨oe3, vs3, he3, hz3, hd3⟩ := fl3.there
    have notFr : ∀ {h : Heap} {o : Obj} {vs : Array Value}, h.FunFrames B (X.env :: X.outer) → h.get? a = some o → o.data = .fields vs → a ∉ frs (X.env :: X.outer) := fun {h o vs} ff e dd hm => by
      obtain ⟨_, o', e', hnf⟩ := ff.mem hm
      rw [e] at e'; cases e'
      exact hnf _ dd
    have nfr := notFr fl3.2.2.1 he3 hd3
    have nL : a ≠ X.env.locals := fun z => nfr (List.mem_filterMap.mpr ⟨X.env, List.mem_cons_self, by rw [hf, z]⟩)
    have nF : a ∉ X.fs := fun hm => by
      obtain ⟨e, he, q⟩ := List.mem_filterMap.mp hm
      exact nfr (List.mem_filterMap.mpr ⟨e, List.mem_cons_of_mem _ he, q⟩)
    have S3 := J3.suite he3 hd3 na nL nF
    have LT : PySem.W.Looks (model X.prog X.w) h3 (typeOf (.ref a)) cls := fun A Q E s k q => wpAny_typeOf_ref (k _ _ he3) (by rw [hz3.1]; exact q)
    have test : ∀ {x : Str} {np : Pos} {c : Value} {Q : Value → Shared → Prop} {E : Value → Shared → Prop}, Names X x c → Q c { s' with heap := h3 } → wpAny (model X.prog X.w) (X.A.mark (some (.ref a))) (eval (.Name x np) X.env) Q E { s' with heap := h3 } := fun {x np c Q E} hc q => by
      obtain ⟨hg, hdbg, hm | ⟨hm, hv, hnn⟩⟩ := hc
      · exact ld_glob (X := X.suite a ((a, oe3) :: (X.pn ++ pins))) S3 hg hm q hdbg
      · exact ld_blt (X := X.suite a ((a, oe3) :: (X.pn ++ pins))) S3 hg hm hv q hnn hdbg
    have go : ∀ {hds' : List ExceptHandler} {l' : List Cla}, HdMix X hds' l' → wMix X.K Wout D l' cls d σ' H' →
        wpAny (model X.prog X.w) X.A (handleBy (.ref a) X.env hds') (SP X pins D) X.xe { s' with heap := h3 } := by
      intro hds' l' hk
      induction hk with
      | nil =>
        intro w
        refine wpAny_handleBy_nil ?_
        obtain ⟨k1, k2, k3, oe, vs, T, oT, ts', he, hz, hd, h1, hr⟩ := id fl3
        unfold PySem.passOn
        refine wpAny_bind (wpAny_field he hd h1 ?_)
        rw [if_neg (show ¬ ((Value.ref T == Value.none) = true) from by simp)]
        have fin : wpAny (model X.prog X.w) X.A (setFlight (.ref a) X.env.frame) (fun _ s4 => wpAny (model X.prog X.w) X.A (throw (.ref a) : Sem Flow) (SP X pins D) X.xe s4) X.xe { s' with heap := h3 } := by
          rw [hf]
          refine HandSPX.setFlight_upZ fl3 fun h4 hh4 up4 => wpAny_throw (tk _ _ ?_)
          exact ⟨a, B, sI, pins, σ', H', cls, d, rfl, J, nb, (up.trans up3).trans up4, .inr (.inr (by rw [hs]; exact hh4)), na, os, ag, w⟩
        first
          | exact wpAny_bind (wpAny_pure (wpAny_bind fin))
          | exact wpAny_bind fin
      | @cons x c ts b₀ suite np pos' hds2 l2 hc hsu r ih =>
        intro w
        obtain ⟨b, hb1, hyes, hno⟩ := w
        refine wpAny_handleBy_cons (codeAny_handlers_test ?_) (by intro q; cases q)
        have LM := PySem.W.exm_one (M := model X.prog X.w) (J3.kIn) LT hb1
        refine test hc (LM.here ?_)
        cases b with
        | true =>
          refine codeAny_handlers_suite ?_
          refine HandSPX.lands_againZ fl3 fun h4 fl4 up4 => ?_
          have J4 : Inv X pins σ' H' { s' with heap := h4 } := J.landed nb fl4.1 ((up.trans up3).trans up4) os ag
          obtain ⟨oe4, vs4, he4, hz4, hd4⟩ := fl4.there
          have S4 := J4.suite he4 hd4 na nL nF
          refine wpAny_mono ((hsu a oe4 cls d (X.pn ++ pins) hz4 ⟨_, hd4⟩).run [] _ _ H' _ S4 (hyes rfl a na)) (fun f s6 hsp => ?_) (fun _ _ z => False.elim z)
          cases f with
          | next => obtain ⟨σ6, H6, S6, q6⟩ := hsp; exact ⟨_, _, S6.unsuite ok, q6⟩
          | brk => obtain ⟨σ6, H6, S6, q6⟩ := hsp; exact ⟨_, _, S6.unsuite ok, q6⟩
          | cont => obtain ⟨σ6, H6, S6, q6⟩ := hsp; exact ⟨_, _, S6.unsuite ok, q6⟩
          | ret u => obtain ⟨v6, σ6, H6, S6, r6, q6⟩ := hsp; exact ⟨_, _, _, S6.unsuite ok, r6, q6⟩
        | false =>
          show wpAny _ X.A (handleBy (.ref a) X.env hds2) _ _ _
          exact ih (hno rfl)
      | @as x n i c ts b₀ suite np pos' hds2 l2 hi hln hc hsu r ih =>
        intro w
        obtain ⟨b, hb1, hyes, hno⟩ := w
        refine wpAny_handleBy_cons (codeAny_handlers_test ?_) (by intro q; cases q)
        have LM := PySem.W.exm_one (M := model X.prog X.w) (J3.kIn) LT hb1
        refine test hc (LM.here ?_)
        cases b with
        | true =>
          refine codeAny_handlers_suite_as ?_
          refine HandSPX.lands_againZ fl3 fun h4 fl4 up4 => ?_
          have J4 : Inv X pins σ' H' { s' with heap := h4 } := J.landed nb fl4.1 ((up.trans up3).trans up4) os ag
          obtain ⟨oe4, vs4, he4, hz4, hd4⟩ := fl4.there
          have S4 := J4.suite he4 hd4 na nL nF
          refine store_ok (X := X.suite a ((a, oe4) :: (X.pn ++ pins))) (v := .ref a) S4 hN hi (.inl hln) rfl (fun s5 S5 => ?_) (.inr hln)
          refine wpAny_mono ((hsu a oe4 cls d (X.pn ++ pins) hz4 ⟨_, hd4⟩).run [] s5 _ H' _ S5 (hyes rfl a na)) (fun f s6 hsp => ?_) (fun _ _ z => False.elim z)
          have end_ : ∀ {σ6 : L2.St} {H6 : Hp} {Q : Shared → Prop}, Inv (X.suite a ((a, oe4) :: (X.pn ++ pins))) [] σ6 H6 s6 → (∀ s7, Inv X pins (σ6.set i none) H6 s7 → Q s7) →
              wpAny (model X.prog X.w) X.A (do bindName X.env n .none; unbindBehindTheSuite X.env n pos') (fun _ s7 => Q s7) X.xe s6 := fun {σ6 H6 Q} S6 hq => gone_ok (S6.unsuite ok) hN hi hln hq
          cases f with
          | next => obtain ⟨σ6, H6, S6, q6⟩ := hsp; exact end_ S6 fun s7 J7 => ⟨_, _, J7, q6⟩
          | brk => obtain ⟨σ6, H6, S6, q6⟩ := hsp; exact end_ S6 fun s7 J7 => ⟨_, _, J7, q6⟩
          | cont => obtain ⟨σ6, H6, S6, q6⟩ := hsp; exact end_ S6 fun s7 J7 => ⟨_, _, J7, q6⟩
          | ret u => obtain ⟨v6, σ6, H6, S6, r6, q6⟩ := hsp; exact end_ S6 fun s7 J7 => ⟨_, _, _, J7, r6, q6⟩
        | false =>
          show wpAny _ X.A (handleBy (.ref a) X.env hds2) _ _ _
          exact ih (hno rfl)
    exact go hh w
  · cases f with
    | next => obtain ⟨σ', H', J', q⟩ := hsp; exact wpAny_execs_nil ⟨σ', H', J'.ofTry ok, q⟩
    | brk => obtain ⟨σ', H', J', q⟩ := hsp; exact ⟨σ', H', J'.ofTry ok, q⟩
    | cont => obtain ⟨σ', H', J', q⟩ := hsp; exact ⟨σ', H', J'.ofTry ok, q⟩
    | ret u => obtain ⟨v, σ', H', J', r, q⟩ := hsp; exact ⟨v, σ', H', J'.ofTry ok, r, q⟩
end
end DX
namespace DL
open PySem L2 He DX
section
variable {K : PySem.W.Frag} {E : XK} {X : Cx} {j : Nat} {body : List Stmt} {h₀ : ExceptHandler} {hds : List ExceptHandler} {l : List Cla} {pos : Pos} {tw : WX → TE} {Wout : WX} {rest hd : MH}
theorem hm_nil (hr : HdW K E (fun _ => Wout) rest) : HdW K E (fun D => wMix K Wout D []) rest := hr
theorem hm_only {n : List String} {c : String} {ts : Addr → Value → Option Addr → TS} {ms : MS} (T : Ers K n) (hc : c ∈ n) (hs : ∀ a cls d, ErC K c cls → SS K E (ts a cls d) ms) (hr : HdW K E (fun D => wMix K Wout D l) rest) :
    HdW K E (fun D => wMix K Wout D ((.ref (ga K (Str.ofString c)), none, ts) :: l)) (hdOnly n c ms rest) := fun A B ρ H σ M D x cc d R rx hm L => by
  obtain ⟨h1, h2, h3⟩ := hm
  obtain ⟨rfl, rxx⟩ := id rx
  exact ⟨_, T _ h1 _ hc, fun z a na => hs a _ d ⟨_, rfl, z⟩ A B _ H _ R _ _ (h2 z) L, fun z => hr A B ρ H σ M D x _ d R rx (h3 z) L⟩
theorem hm_as {n : List String} {c : String} {i : Nat} {ts : Addr → Value → Option Addr → TS} {ms : Addr → Option Addr → MS} (T : Ers K n) (hc : c ∈ n) (hs : ∀ a cls d, ErC K c cls → SS K E (ts a cls d) (ms a d)) (hr : HdW K E (fun D => wMix K Wout D l) rest) :
    HdW K E (fun D => wMix K Wout D ((.ref (ga K (Str.ofString c)), some i, ts) :: l)) (hdAs n c i ms rest) := fun A B ρ H σ M D x cc d R rx hm L => by
  obtain ⟨h1, h2, h3⟩ := hm
  obtain ⟨rfl, rxx⟩ := id rx
  refine ⟨_, T _ h1 _ hc, fun z a na => ?_, fun z => hr A B ρ H σ M D x _ d R rx (h3 z) L⟩
  refine hs a _ d ⟨_, rfl, z⟩ A B _ H _ (R.setX (v := .ref a) ⟨rfl, rx⟩) _ _ (h2 z a d) ⟨fun ρ' H' σ' R' q => L.nx _ _ _ R'.clr q, L.rt, fun ρ' H' σ' R' q => L.bk _ _ _ R'.clr q, fun ρ' H' σ' R' q => L.ct _ _ _ R'.clr q, L.ex⟩
theorem ps_tryMixD (mb : ME) (s : SEW X.K tw mb) (hm : HdW X.K E (fun D => wMix X.K Wout D l) hd) (hs : X.stack = X.env :: X.outer) (hf : X.env.frame = some X.env.locals) (hN : X.N.Nodup) (tk : Takes X Wout)
    (hb : ∀ (W : WX) (pn : List (Addr × Obj)) (xe : Value → Shared → Prop), Takes (X.tr pn xe) W → PassesOwn (model X.prog X.w) X.A X.env xe → PSs (X.tr pn xe) body (tAsg (tw W) (gName j)))
    (hh : HdMix X (h₀ :: hds) l) : PS X (.Try body (h₀ :: hds) [] [] pos) (fun D σ H => tAsg (tw (wMix X.K Wout D l)) (gName j) D σ H) := ps_try_mix (tb := fun W => tAsg (tw W) (gName j)) hs hf hN tk hb hh
theorem ps_tryMixE (mb : ME) (s : SEW X.K tw mb) (hm : HdW X.K E (fun D => wMix X.K Wout D l) hd) (hs : X.stack = X.env :: X.outer) (hf : X.env.frame = some X.env.locals) (hN : X.N.Nodup) (tk : Takes X Wout)
    (hb : ∀ (W : WX) (pn : List (Addr × Obj)) (xe : Value → Shared → Prop), Takes (X.tr pn xe) W → PassesOwn (model X.prog X.w) X.A X.env xe → PSs (X.tr pn xe) body (tDrop (tw W)))
    (hh : HdMix X (h₀ :: hds) l) : PS X (.Try body (h₀ :: hds) [] [] pos) (fun D σ H => tDrop (tw (wMix X.K Wout D l)) D σ H) := ps_try_mix (tb := fun W => tDrop (tw W)) hs hf hN tk hb hh
end
end DL

set_option Elab.async false
set_option linter.all false
set_option maxRecDepth 100000
set_option maxHeartbeats 2000000
/-! items of own lists stored; texts of numbers -/
namespace DL
open PySem L2 He DX
def sSetI (i : Nat) (mk mv : ME) : MS := fun ρ M => match ρ[i]? with
  | some (some (.own a l)) => mv ρ (fun r => match r.data with
    | some x => mk ρ (fun kr => match kr with
      | .d (.int k) => (match ixN l.length k with
        | some j => M.nx (ρ.set i (some (.own a (l.set j x))))
        | none => False)
      | _ => False) M.ex
    | none => False) M.ex
  | _ => False
def fStrI (xs : List Rv) (Q : KD) (_ : KX) : Prop := match xs with
  | [.d (.int i)] => i.natAbs.log2 < 1920 ∧ Q (.d (.str (toString i)))
  | _ => False
def fStrS (xs : List Rv) (Q : KD) (_ : KX) : Prop := match xs with
  | [.d (.str z)] => Q (.d (.str z))
  | _ => False
abbrev rStrI : List V → Hp → VK → Prop := fun xs H Q => ∃ i : Int, xs = [.int i] ∧ i.natAbs.log2 < 1920 ∧ Q (.str (toString i)) H
abbrev rStrS : List V → Hp → VK → Prop := fun xs H Q => ∃ a, xs = [.str a] ∧ Q (.str a) H
section
variable {K : PySem.W.Frag} {A : AS} {B : Bd} {ρ : Env} {H H' H0 H1 : Hp} {σ : St} {E : XK} {mk mv : ME} {ty tv : TE}
theorem s_strI : SN K E rStrI fStrI := fun M S H0 H vs xs wf rs Qd Ed Q hf k kx => by
  unfold fStrI at hf
  split at hf
  · obtain ⟨v, rfl, r⟩ := rs.one
    cases r
    exact ⟨_, rfl, hf.1, k (.d (.str _)) _ _ (Evo.refl _ _) (.str _) hf.2⟩
  · exact hf.elim
theorem s_strS : SN K E rStrS fStrS := fun M S H0 H vs xs wf rs Qd Ed Q hf k kx => by
  unfold fStrS at hf
  split at hf
  · obtain ⟨v, rfl, r⟩ := rs.one
    cases r
    exact ⟨_, rfl, k (.d (.str _)) _ _ (Evo.refl _ _) (.str _) hf⟩
  · exact hf.elim
theorem DrL.set {M : AS} {v : V} {x : D} (r : Dr K M H v x) : ∀ {vs : List V} {l : List D} (j : Nat), DrL K M H vs l → DrL K M H (vs.set j v) (l.set j x)
  | _, _, _, .nil => .nil
  | _, _, 0, .cons _ t => .cons r t
  | _, _, j + 1, .cons h t => .cons h (DrL.set r j t)
theorem w_setI {i : Nat} (s2 : SE K E ty mk) (s1 : SE K E tv mv) : SS K E (tAsg tv (gSub (tVar i) ty rSetL)) (sSetI i mk mv) := fun A B ρ H σ R M Dn hm L => by
  unfold sSetI at hm
  split at hm
  · rename_i a l hi
    refine s1 A B ρ H σ R _ _ _ hm (fun r v H1 e1 rr h => ?_) (L.exE R)
    have R1 := R.evo e1
    split at h
    · rename_i x ex
      have dx := rr.dr ex
      obtain ⟨u, hu, rfl, _⟩ := R1.at_ i _ hi
      refine ⟨_, hu, ?_⟩
      refine s2 A B ρ H1 σ R1 _ _ _ h (fun kr w H2 e2 rk h2 => ?_) (fun x c d H' e' => L.exE R x c d H' (e1.trans e'))
      split at h2
      · rename_i k
        split at h2
        · rename_i j ej
          cases rk
          have R2 := R1.evo e2
          obtain ⟨v2, hv2, rfl, vs, q, al⟩ := R2.at_ i _ hi
          have dx2 : Dr K (Mo A ρ) H2 v x := Dr.evo dx (fun a z => ss_mo a z) e2
          refine ⟨a, vs, k, j, rfl, rfl, q, by rw [al.length]; exact ej, ?_⟩
          refine L.nx _ _ _ (R2.upd hi rfl (fun b z => by cases z) rfl (fun b z => by cases z) fun w hw => ?_) h2
          obtain ⟨rfl, vs3, q3, al3⟩ := hw
          have ma : Mo A ρ a := .inr ⟨_, at_mem hi, rfl⟩
          have kp : ∀ (o : HO) (b : Addr) (u' : HO), ¬ (b = a) → H2 b = some u' → L2.upd H2 a o b = some u' := fun o b u' n q => by rw [upd_ne n]; exact q
          exact ⟨rfl, _, upd_same, (al.set dx2 j).go (S := fun b => b = a) (fun b z => by rw [z]; exact ma) (kp _) fun _ z => .inl z⟩
        · exact h2.elim
      · exact h2.elim
    · exact h.elim
  · exact hm.elim
end
end DL

set_option Elab.async false
set_option linter.all false
set_option maxRecDepth 100000
set_option maxHeartbeats 2000000
/-! tuples that hold new lists: handed back, taken apart -/
namespace DL
open PySem L2 He DX
def itOf : Rv → Option Itm
  | .bor a l => some (.inr (a, l))
  | r => r.data.map .inl
def itsOf : List Rv → Option (List Itm)
  | [] => some []
  | r :: rs => match itOf r, itsOf rs with
    | some x, some l => some (x :: l)
    | _, _ => none
/-- return (.., own, ..) -/
def sRetT (ma : MA) : MS := fun ρ M => ma ρ (fun rs => match itsOf rs with
  | some its => (∀ b l, Sum.inr (b, l) ∈ its → some (Sl.own b l) ∈ ρ) ∧ (newsI its).Nodup ∧ ∀ a, M.rt (.tp a its)
  | none => False) M.ex
def setIts : List Nat → List Itm → Env → (Env → Prop) → Prop
  | [], [], ρ, k => k ρ
  | i :: is, .inl d :: its, ρ, k => setIts is its (ρ.set i (some (.d d))) k
  | i :: is, .inr (b, l) :: its, ρ, k => setIts is its (ρ.set i (some (.own b l))) k
  | _, _, _, _ => False
def sAsgT (m : ME) (is : List Nat) : MS := fun ρ M => m ρ (fun r => match r with
  | .tp _ its => setIts is its ρ M.nx
  | _ => False) M.ex
section
variable {K : PySem.W.Frag} {A : AS} {B : Bd} {ρ : Env} {H H' H0 H1 : Hp} {σ : St} {E : XK} {m : ME} {t : TE} {n : Nat} {w : TA} {ma : MA}
theorem mem_news {b : Addr} : ∀ {its : List Itm}, b ∈ newsI its → ∃ l, Sum.inr (b, l) ∈ its
  | .inl _ :: is, h => by
    obtain ⟨l, hl⟩ := mem_news (its := is) h
    exact ⟨l, List.mem_cons_of_mem _ hl⟩
  | .inr (c, l) :: is, h => by
    rcases List.mem_cons.mp (show b ∈ c :: newsI is from h) with rfl | h
    · exact ⟨l, List.mem_cons_self⟩
    · obtain ⟨l, hl⟩ := mem_news h
      exact ⟨l, List.mem_cons_of_mem _ hl⟩
theorem its_rep {M S : AS} : ∀ {vs : List V} {rs : List Rv} {its : List Itm}, RepRs K M S H0 H vs rs → itsOf rs = some its → RepIs K M H vs its
  | [], [], _, _, e => by cases e; trivial
  | v :: vs, r :: rs, its, ⟨a, b⟩, e => by
    unfold itsOf at e
    split at e
    · rename_i x l e1 e2
      cases e
      have ih := its_rep b e2
      cases r with
      | bor c k =>
        cases e1
        obtain ⟨rfl, _, _, us, q, al⟩ := a
        exact ⟨⟨rfl, us, q, al⟩, ih⟩
      | d y => cases e1; exact ⟨a, ih⟩
      | strm c => cases e1
      | new c k => cases e1; exact ⟨a.dr rfl, ih⟩
      | tp c k => cases e1; exact ⟨a.dr rfl, ih⟩
    · cases e
theorem w_retT (s : SA K E n w ma) (hn : n ≤ 1000) : SS K E (tRet (tTup w)) (sRetT ma) := fun A B ρ H σ R M Dn hm L => by
  refine s A B ρ H σ R _ _ _ hm (fun rs vs H1 e1 r1 l h => ?_) (L.exE R)
  split at h
  · rename_i its ei
    obtain ⟨h1, nd, h⟩ := h
    have R1 := R.evo e1
    refine ⟨Nat.le_trans (by rw [l]; exact hn) (by decide), fun p hp => ?_⟩
    have e2 : Evo (Ss ρ) H1 (upd H1 p (.tup vs)) := Evo.of (new_same hp)
    have own : ∀ b ∈ newsI its, ∃ (i : Nat) (k : List D), ρ[i]? = some (some (.own b k)) := fun b hb => by
      obtain ⟨k, hk⟩ := mem_news hb
      obtain ⟨i, hi⟩ := mem_at (h1 b k hk)
      exact ⟨i, k, hi⟩
    have nS : ∀ b ∈ newsI its, ¬ Ss ρ b := fun b hb z => by
      obtain ⟨i, k, hi⟩ := own b hb
      obtain ⟨j, hj⟩ := mem_at z
      have := R.apart i j _ _ b hi hj rfl rfl
      subst this
      rw [hi] at hj
      cases hj
    have rp := RepIs.evo (fun a z => ss_mo a z) e2 nS (its_rep r1 ei)
    refine L.rt (.tp p its) _ _ (R1.bvE e2) ⟨rfl, fun z => R1.amb p z hp, fun b hb => ?_, nd, vs, upd_same, rp.grow fun b z => ?_⟩ (h p)
    · obtain ⟨i, k, hi⟩ := own b hb
      refine ⟨?_, R.na i _ b hi rfl fun c z => by cases z⟩
      rcases R.fr i _ b hi rfl with q | ⟨⟨c, q⟩, _⟩ | ⟨_, q⟩
      · exact .inl q
      · cases q
      · exact .inr q
    · rcases z with z | z
      · exact .inl z
      · obtain ⟨i, k, hi⟩ := own b z
        exact .inr ⟨_, at_mem hi, rfl⟩
  · exact h.elim
/-- less is asked of what is around -/
theorem RepS.around {A' : AS} (R : RepS K A B ρ H σ) (g : ∀ a, A' a → A a) : RepS K A' B ρ H σ := by
  have gm : ∀ a, Mo A' ρ a → Mo A ρ a := fun a z => z.imp (g a) id
  refine ⟨R.len, fun i s hi => ?_, R.apart, fun a h => R.amb a (g a h), fun i s a hi ea ns z => R.na i s a hi ea ns (g a z), R.bv, R.fr⟩
  obtain ⟨v, hv, r⟩ := R.at_ i s hi
  exact ⟨v, hv, r.go (S := fun _ => False) (fun _ z => z.elim) (fun _ _ _ z => z) (fun _ z => z.elim) (fun a z => .inl (gm a z)) (fun _ _ _ z => z)⟩
/-- new things are around -/
theorem RepS.ambs {N : List Addr} (R : RepS K A B ρ H σ) (e : Evo (Ss ρ) H H1) (n : ∀ b ∈ N, H b = none) (al : ∀ b ∈ N, H1 b ≠ none) : RepS K (fun a => A a ∨ a ∈ N) B ρ H1 σ := by
  have R' := R.evo e
  refine ⟨R.len, fun i s hi => ?_, R.apart, fun a h => h.elim (R'.amb a) (al a), fun i s a hi ea ns h => h.elim (R.na i s a hi ea ns) fun z => R.mo a (.inr ⟨s, at_mem hi, ea⟩) (n a z), R'.bv, R.fr⟩
  obtain ⟨v, hv, r⟩ := R.at_ i s hi
  refine ⟨v, hv, r.go ss_mo e.keep e.strm (fun a z => ?_) fun a ha ns hS => ?_⟩
  · rcases z with (z | z) | z
    · exact .inl (.inl z)
    · exact .inr (n a z)
    · exact .inl (.inr z)
  · obtain ⟨j, hj⟩ := mem_at hS
    have := R.apart i j s _ a hi hj ha rfl
    subst this
    rw [hi] at hj
    cases hj
    exact ns a rfl
/-- one of them becomes a name's own -/
theorem RepS.take {i : Nat} {b : Addr} {l : List D} {ws : List V} {N : List Addr} (R : RepS K (fun a => A a ∨ a ∈ b :: N) B ρ H σ) (nA : ¬ A b) (nN : b ∉ N) (no : ∀ (i : Nat) s, ρ[i]? = some (some s) → s.addr ≠ some b) (hs : B.Hs b = none)
    (q : H b = some (.lst ws)) (al : DrL K (Mo (fun a => A a ∨ a ∈ b :: N) ρ) H ws l) : RepS K (fun a => A a ∨ a ∈ N) B (ρ.set i (some (.own b l))) H (σ.set i (some (.ref b))) := by
  have sub : ∀ a, Mo (fun a => A a ∨ a ∈ N) (ρ.set i (some (.own b l))) a → Mo (fun a => A a ∨ a ∈ b :: N) ρ a := fun a z => by
    rcases mo_set z with q | ⟨t, q, e⟩
    · exact q.imp (fun y => y.imp id (List.mem_cons_of_mem _)) id
    · cases q
      cases e
      exact .inl (.inr List.mem_cons_self)
  refine ⟨by rw [List.length_set, List.length_set, R.len], fun j t hj => ?_, fun j k s t a hj hk ea eb => ?_, fun a h => R.amb a (h.imp id (List.mem_cons_of_mem _)), fun j s a hj ea ns h => ?_, R.bv, fun j s a hj ea => ?_⟩
  · rcases get_set hj with ⟨rfl, e⟩ | ⟨m, e⟩
    · cases e
      have : j < σ.length := by
        rw [R.len]
        have := (List.getElem?_eq_some_iff.mp hj).1
        rwa [List.length_set] at this
      exact ⟨.ref b, by rw [List.getElem?_set_self this], rfl, ws, q, al.grow fun a z => .inl (sub a z)⟩
    · obtain ⟨u, hu, r⟩ := R.at_ j t e
      exact ⟨u, by rw [List.getElem?_set_ne (fun z => m z.symm)]; exact hu, r.go (S := fun _ => False) (fun _ z => z.elim) (fun _ _ _ z => z) (fun _ z => z.elim) (fun a z => .inl (sub a z)) (fun _ _ _ z => z)⟩
  · rcases get_set hj with ⟨rfl, e⟩ | ⟨m, e⟩
    · cases e
      cases ea
      rcases get_set hk with ⟨rfl, e'⟩ | ⟨_, e'⟩
      · rfl
      · exact absurd eb (no k t e')
    · rcases get_set hk with ⟨rfl, e'⟩ | ⟨_, e'⟩
      · cases e'
        cases eb
        exact absurd ea (no j s e)
      · exact R.apart j k s t a e e' ea eb
  · rcases get_set hj with ⟨rfl, e⟩ | ⟨m, e⟩
    · cases e
      cases ea
      exact h.elim nA nN
    · exact R.na j s a e ea ns (h.imp id (List.mem_cons_of_mem _))
  · rcases get_set hj with ⟨rfl, e⟩ | ⟨m, e⟩
    · cases e
      cases ea
      exact .inl hs
    · exact R.fr j s a e ea
/-- names that take a tuple's things -/
def SGT (K : PySem.W.Frag) (is : List Nat) (g : TGs) : Prop := ∀ (A : AS) B ρ H σ (NN : AS) vs its, RepS K (fun a => A a ∨ a ∈ newsI its) B ρ H σ → (newsI its).Nodup → (∀ b ∈ newsI its, ¬ A b ∧ B.Hs b = none ∧ ∀ (i : Nat) s, ρ[i]? = some (some s) → s.addr ≠ some b) →
  (∀ a, Mo (fun a => A a ∨ a ∈ newsI its) ρ a → NN a) → RepIs K NN H vs its → ∀ (Kd : Env → Prop) (Q : St → Hp → Prop), setIts is its ρ Kd → (∀ ρ' σ', RepS K A B ρ' H σ' → Kd ρ' → Q σ' H) → g vs σ H Q
theorem gt_nil : SGT K [] gNil := fun A B ρ H σ NN vs its R nd nw gN rp Kd Q hk k => by
  cases its with
  | nil => cases vs with
    | nil => exact ⟨rfl, k ρ σ (R.around fun a z => .inl z) hk⟩
    | cons _ _ => exact rp.elim
  | cons x _ => cases x <;> exact hk.elim
theorem gt_cons {i : Nat} {is : List Nat} {g : TGs} (s : SGT K is g) : SGT K (i :: is) (gCons (gName i) g) := fun A B ρ H σ NN vs its R nd nw gN rp Kd Q hk k => by
  cases its with
  | nil => exact hk.elim
  | cons x its =>
    cases vs with
    | nil => exact rp.elim
    | cons v vs =>
      cases x with
      | inl d =>
        refine ⟨v, vs, rfl, ?_⟩
        have R1 := R.setD (i := i) (Dr.grow rp.1 fun a z => .inl (gN a z))
        have sub : ∀ a, Mo (fun a => A a ∨ a ∈ newsI its) (ρ.set i (some (.d d))) a → Mo (fun a => A a ∨ a ∈ newsI its) ρ a := fun a z => by
          rcases mo_set z with q | ⟨t, q, e⟩
          · exact q
          · cases q; cases e
        refine s A B _ H _ NN vs its R1 nd (fun b hb => ⟨(nw b hb).1, (nw b hb).2.1, fun j t hj => ?_⟩) (fun a z => gN a (sub a z)) rp.2 Kd Q hk k
        rcases get_set hj with ⟨_, q⟩ | ⟨_, q⟩
        · cases q; intro z; cases z
        · exact (nw b hb).2.2 j t q
      | inr bl =>
        obtain ⟨b, l⟩ := bl
        obtain ⟨⟨rfl, ws, q, al⟩, rp⟩ := rp
        refine ⟨_, vs, rfl, ?_⟩
        obtain ⟨n1, n2⟩ := List.nodup_cons.mp (show (b :: newsI its).Nodup from nd)
        have hb := nw b List.mem_cons_self
        have R1 := RepS.take (i := i) (l := l) (N := newsI its) R hb.1 n1 hb.2.2 hb.2.1 q (al.grow fun a z => .inl (gN a z))
        refine s A B _ H _ NN vs its R1 n2 (fun c hc => ?_) (fun a z => ?_) rp Kd Q hk k
        · have hc' := nw c (List.mem_cons_of_mem _ hc)
          refine ⟨hc'.1, hc'.2.1, fun j t hj => ?_⟩
          rcases get_set hj with ⟨_, q⟩ | ⟨_, q⟩
          · cases q
            intro z
            cases z
            exact n1 hc
          · exact hc'.2.2 j t q
        · rcases mo_set z with y | ⟨t, y, e⟩
          · exact gN a (y.imp (fun y => y.imp id (List.mem_cons_of_mem _)) id)
          · cases y
            cases e
            exact gN b (.inl (.inr List.mem_cons_self))
theorem its_len {N : AS} : ∀ {vs : List V} {its : List Itm} {is : List Nat} {ρ : Env} {Kd : Env → Prop}, RepIs K N H vs its → setIts is its ρ Kd → vs.length = is.length
  | [], [], [], _, _, _, _ => rfl
  | [], [], _ :: _, _, _, _, h => h.elim
  | v :: vs, .inl d :: its, i :: is, _, _, r, h => congrArg Nat.succ (its_len r.2 h)
  | v :: vs, .inr (b, l) :: its, i :: is, _, _, r, h => congrArg Nat.succ (its_len r.2 h)
  | v :: vs, .inl d :: its, [], _, _, r, h => h.elim
  | v :: vs, .inr (b, l) :: its, [], _, _, r, h => h.elim
  | [], _ :: _, _, _, _, r, _ => r.elim
  | _ :: _, [], _, _, _, r, _ => r.elim
theorem its_live {N : AS} {b : Addr} : ∀ {vs : List V} {its : List Itm}, RepIs K N H vs its → b ∈ newsI its → H b ≠ none
  | v :: vs, .inl d :: its, r, h => its_live r.2 h
  | v :: vs, .inr (c, l) :: its, r, h => by
    obtain ⟨⟨rfl, ws, q, al⟩, r⟩ := r
    rcases List.mem_cons.mp (show b ∈ c :: newsI its from h) with rfl | h
    · rw [q]; simp
    · exact its_live r h
  | [], _ :: _, r, _ => r.elim
  | _ :: _, [], r, _ => r.elim
theorem w_asgT {is : List Nat} {g : TGs} (s : SE K E t m) (sg : SGT K is g) (hn : is.length = n) : SS K E (tAsg t (gTup K n g)) (sAsgT m is) := fun A B ρ H σ R M Dn hm L => by
  refine s A B ρ H σ R _ _ _ hm (fun r v H1 e1 rr h => ?_) (L.exE R)
  split at h
  · rename_i a its
    obtain ⟨rfl, na, nw, nd, vs, q, rp⟩ := rr
    refine ⟨a, vs, rfl, SqT.of q, by rw [its_len rp h, hn], ?_⟩
    refine sg A B ρ H1 σ (fun b => Mo A ρ b ∨ b ∈ newsI its) vs its (R.ambs e1 (fun b hb => (nw b hb).1) fun b hb => its_live rp hb) nd (fun b hb => ⟨fun z => (nw b hb).2 (.inl z), untracked R.bv (nw b hb).1, fun i s hi ea => (nw b hb).2 (.inr ⟨s, at_mem hi, ea⟩)⟩)
      (fun c z => ?_) rp _ _ h fun ρ' σ' R' h' => L.nx ρ' H1 σ' R' h'
    rcases z with (z | z) | z
    · exact .inl (.inl z)
    · exact .inr z
    · exact .inl (.inr z)
  · exact h.elim
theorem w_tryO {tw : WX → TE} {mb : ME} {wd : Ends → WX} {hd : MH} {j : Nat} (s : SEW K tw mb) (h : HdW K E wd hd) : SS K E (fun Dn σ H => tAsg (tw (wd Dn)) (gName j) Dn σ H) (sTryO j mb hd) := fun A B ρ H σ R M Dn hm L => by
  refine s A B ρ H σ R _ _ _ _ hm (fun r v H1 e1 rr h1 => ?_) fun x c d H' e' rx hx => h A B ρ H' σ M Dn x c d (R.evo e') rx hx L
  split at h1
  · rename_i a l
    obtain ⟨rfl, n, nm, vs, q, al⟩ := rr
    exact L.nx _ _ _ (R.setN (s := .own a l) e1 n rfl ⟨rfl, vs, q, al⟩) h1
  · exact h1.elim
end
end DL

set_option Elab.async false
set_option linter.all false
set_option maxRecDepth 100000
set_option maxHeartbeats 2000000
/-! a text equal to anything; data of any depth in a list -/
namespace DL
open PySem L2 He DX
def isStrD (z : Str) : D → Bool
  | .str y => decide (z = y) | _ => false
/-- no object, no type -/
def plainD : D → Bool
  | .obj _ _ _ => false | .ty _ => false | _ => true
def fEqS (neg : Bool) (x y : Rv) (Q : KD) (_ : KX) : Prop := match x, y.any with
  | .d (.str z), some d => plainD d = true ∧ Q (.d (.bl (neg ^^ isStrD z d)))
  | _, _ => False
def fInD (neg : Bool) (x y : Rv) (Q : KD) (_ : KX) : Prop := match x.py, y.py with
  | some d, some (.list ds) => SeqAt.shaped d = true ∧ SeqAt.shaped (.list ds) = true ∧ Q (.d (.bl (neg ^^ ds.any fun z => PyData.eqv z d)))
  | _, _ => False
theorem hus_of {k : Nat} {A : Around} (hr : Room k A) : A.units < cLine := by have := hr.un; omega
theorem hud_of {k : Nat} {A : Around} (hr : Room k A) : A.units + 65 < cLine := by have := hr.un; omega
section
variable {K : PySem.W.Frag} {E : XK}
theorem s_inD : S2 K E (rInD K) (fInD false) := fun M S H0 H v w x y wf rx ry Qd Ed Q hf k kx => by
  unfold fInD at hf
  split at hf
  · rename_i d ds e1 e2
    rw [Bool.false_xor] at hf
    exact ⟨d, ds, rx.dp e1, ry.dp e2, hf.1, hf.2.1, k (.d (.bl _)) _ _ (Evo.refl _ _) (Dr.bl _) hf.2.2⟩
  · exact hf.elim
theorem s_notInD : S2 K E (rNotInD K) (fInD true) := fun M S H0 H v w x y wf rx ry Qd Ed Q hf k kx => by
  unfold fInD at hf
  split at hf
  · rename_i d ds e1 e2
    rw [Bool.true_xor] at hf
    exact ⟨d, ds, rx.dp e1, ry.dp e2, hf.1, hf.2.1, k (.d (.bl _)) _ _ (Evo.refl _ _) (Dr.bl _) hf.2.2⟩
  · exact hf.elim
theorem s_eqS : S2 K E (rEqS K) (fEqS false) := fun M S H0 H v w x y wf rx ry Qd Ed Q hf k kx => by
  unfold fEqS at hf
  split at hf
  · rename_i z d e
    obtain ⟨hp, hf⟩ := hf
    rw [Bool.false_xor] at hf
    cases rx
    have fin : ∀ {b : Bool}, b = isStrD z d → Q (.bl b) H := fun {b} eb => k (.d (.bl b)) _ _ (Evo.refl _ _) (Dr.bl b) (by rw [eb]; exact hf)
    have row : ∀ {p : Addr}, isStrD z d = false → w = .ref p → Q (.bl (decide (V.str z = w))) H := fun {p} q ew => fin (by rw [q, ew]; exact decide_eq_false (fun h => by cases h))
    cases y with
    | d u =>
      have hu : u = d := by cases u <;> simp [Rv.any] at e <;> exact e
      subst hu
      cases ry with
      | non => exact ⟨z, rfl, .inl rfl, fin (by simp [isStrD])⟩
      | bl b => exact ⟨z, rfl, .inl rfl, fin (by simp [isStrD])⟩
      | int i => exact ⟨z, rfl, .inl rfl, fin (by simp [isStrD])⟩
      | str y => exact ⟨z, rfl, .inl rfl, fin (by simp [isStrD])⟩
      | ty n => cases hp
      | tup q n al => exact ⟨z, rfl, .inr (.inl ⟨_, _, rfl, .inr (.inl q)⟩), row rfl rfl⟩
      | tupW q al => exact ⟨z, rfl, .inr (.inl ⟨_, _, rfl, .inr (q H)⟩), row rfl rfl⟩
      | scr q n => exact ⟨z, rfl, .inr (.inl ⟨_, _, rfl, .inl (.inl q)⟩), row rfl rfl⟩
      | scrW q => exact ⟨z, rfl, .inr (.inl ⟨_, _, rfl, .inl (q H)⟩), row rfl rfl⟩
      | lst q n al => exact ⟨z, rfl, .inr (.inl ⟨_, _, rfl, .inl (SqL.of q)⟩), row rfl rfl⟩
      | obj q n l p al => cases hp
      | dic q n l al => exact ⟨z, rfl, .inr (.inr ⟨_, _, rfl, q⟩), row rfl rfl⟩
    | strm a =>
      cases e
      obtain ⟨rfl, _, c, f, n, q⟩ := ry
      exact ⟨z, rfl, .inr (.inl ⟨_, _, rfl, .inl (SqL.of q)⟩), row rfl rfl⟩
    | new a l =>
      cases e
      obtain ⟨rfl, _, _, vs, q, _⟩ := ry
      exact ⟨z, rfl, .inr (.inl ⟨_, _, rfl, .inl (SqL.of q)⟩), row rfl rfl⟩
    | bor a l =>
      cases e
      obtain ⟨rfl, _, _, vs, q, _⟩ := ry
      exact ⟨z, rfl, .inr (.inl ⟨_, _, rfl, .inl (SqL.of q)⟩), row rfl rfl⟩
    | tp a its =>
      cases e
      obtain ⟨a, vs, rfl, q, al⟩ := Dr.sqt ry.flat
      exact ⟨z, rfl, .inr (.inl ⟨_, _, rfl, .inr q⟩), row rfl rfl⟩
  · exact hf.elim
end
end DL

set_option Elab.async false
set_option linter.all false
set_option maxRecDepth 100000
set_option maxHeartbeats 2000000
/-! anything in a list of texts; tuples of objects that are equal by the class's own method -/
namespace L2
open PySem PySem.Spec PyProof.Rows
/-- what may be asked for in a row of texts -/
def Askd (K : PySem.W.Frag) (H : Hp) (x : V) : Prop := flatV x = true ∨ (∃ q ys, x = .ref q ∧ (SqL K H q ys ∨ SqT K H q ys)) ∨ ∃ q kvs, x = .ref q ∧ H q = some (.dK kvs)
def rInT (K : PySem.W.Frag) (neg : Bool) : R2 := fun x y H Q => ∃ (p : Addr) (zs : List Str), y = .ref p ∧ (SqL K H p (zs.map V.str) ∨ SqT K H p (zs.map V.str)) ∧ Askd K H x ∧ Q (.bl (neg ^^ zs.any fun z => decide (V.str z = x))) H
def eSt (x : V) (u : Value) : Bool := match u with
  | .str z _ => decide (V.str z = x)
  | _ => false
section
variable {X : Cx}
theorem eqV_str (z : Str) (x : V) : eqV (.str z) x = decide (V.str z = x) := by
  cases x <;> simp [eqV]
  rw [Bool.eq_iff_iff, beq_iff_eq, decide_eq_true_iff]
theorem eqAt_st {pins : List (Addr × Obj)} {s : Shared} {σ : St} {H : Hp} {A : Around} {x : V} {v : Value} (hu : A.units < cLine) (I : Inv X pins σ H s) (rx : RelV x v) (h : Askd X.K H x) (z : Str) (t : Tok) : SeqAt.EqAt A s (.str z t) v (decide (V.str z = x)) := by
  rcases h with h | ⟨p, ys, rfl, h⟩ | ⟨p, kvs, rfl, h⟩
  · rw [← eqV_str]
    exact eqAt_V (show RelV (.str z) (.str z t) from ⟨t, rfl⟩) rx rfl h
  · cases (show v = Value.ref p from rx)
    rw [decide_eq_false (by simp)]
    rcases h with h | h
    · obtain ⟨its, rv, pl, _⟩ := I.list h
      exact PySem.SeqAt.EqAt.str_list z t pl.isList hu
    · obtain ⟨its, rv, pl, _⟩ := I.tuple h
      exact PySem.SeqAt.EqAt.str_tuple z t pl hu
  · cases (show v = Value.ref p from rx)
    rw [decide_eq_false (by simp)]
    have o := I.hok p _ h
    obtain ⟨hz, hm, vs, hv, hd⟩ := o
    obtain ⟨⟨oc, od, oda, osl⟩, es, ep, ho, ⟨hc, _, _⟩, hda, _⟩ := hd
    dsimp only at hc hda
    subst hc hda
    intro prog w E Q hq
    unfold eqBool
    refine wpAny_holding ?_
    refine wpAny_ite_split (fun hab => absurd (eq_of_beq hab) (fun z => by cases z)) (fun _ => ?_)
    exact wpAny_bind (PySem.OwnOps.rc_str_dict z t ho hu prog w E _ (wpAny_truthy_bool hq))
theorem any_st {x : V} : ∀ {zs : List Str} {us : List Value}, Vals (zs.map V.str) us → us.any (eSt x) = zs.any fun z => decide (V.str z = x)
  | [], _, .nil => rfl
  | z :: zs, _, .cons r t => by
    obtain ⟨u, rfl⟩ := r
    rw [List.any_cons, List.any_cons, any_st t]
    rfl
theorem mem_st {pins : List (Addr × Obj)} {s : Shared} {σ : St} {H : Hp} {A : Around} {x : V} {v : Value} (hu : A.units < cLine) (I : Inv X pins σ H s) (rx : RelV x v) (h : Askd X.K H x) : ∀ {zs : List Str} {us : List Value}, Vals (zs.map V.str) us → ∀ u ∈ us, SeqAt.EqAt A s u v (eSt x u)
  | [], _, .nil => fun u hu => by cases hu
  | z :: zs, _, .cons r t => fun u' hu' => by
    obtain ⟨u, rfl⟩ := r
    rcases List.mem_cons.mp hu' with rfl | hu'
    · exact eqAt_st hu I rx h z u
    · exact mem_st hu I rx h t u' hu'
theorem op_inT {k : Nat} (hr : Room k X.A) (hk : 1 ≤ k) : OpR X (compareOp .In) (rInT X.K false) := by
  intro pins s σ H x y v u Q I rx ry h
  obtain ⟨p, zs, rfl, hq, ha, q⟩ := h
  cases ry
  have hu : X.A.in1.units < cLine := (hr.mono hk).in1.units0
  rw [Bool.false_xor] at q
  rcases hq with hq | hq
  · obtain ⟨its, r, pl, hz⟩ := I.list hq
    refine SeqAt.in_listAt (eSt x) pl.isList (fun w hw => mem_st hu I rx ha r w (by simpa using hw)) ⟨.bl _, H, I, rfl, ?_⟩
    rw [show its.toArray.any (eSt x) = its.any (eSt x) by simp, any_st r]
    exact q
  · obtain ⟨its, r, pl, hz⟩ := I.tuple hq
    refine SeqAt.in_tupleAt (eSt x) pl (fun w hw => mem_st hu I rx ha r w (by simpa using hw)) ⟨.bl _, H, I, rfl, ?_⟩
    rw [show its.toArray.any (eSt x) = its.any (eSt x) by simp, any_st r]
    exact q
theorem op_notInT {k : Nat} (hr : Room k X.A) (hk : 1 ≤ k) : OpR X (compareOp .NotIn) (rInT X.K true) := by
  intro pins s σ H x y v u Q I rx ry h
  obtain ⟨p, zs, rfl, hq, ha, q⟩ := h
  cases ry
  have hu : X.A.in1.units < cLine := (hr.mono hk).in1.units0
  rw [Bool.true_xor] at q
  rcases hq with hq | hq
  · obtain ⟨its, r, pl, hz⟩ := I.list hq
    refine SeqAt.notIn_listAt (eSt x) pl.isList (fun w hw => mem_st hu I rx ha r w (by simpa using hw)) ⟨.bl _, H, I, rfl, ?_⟩
    rw [show its.toArray.any (eSt x) = its.any (eSt x) by simp, any_st r]
    exact q
  · obtain ⟨its, r, pl, hz⟩ := I.tuple hq
    refine SeqAt.notIn_tupleAt (eSt x) pl (fun w hw => mem_st hu I rx ha r w (by simpa using hw)) ⟨.bl _, H, I, rfl, ?_⟩
    rw [show its.toArray.any (eSt x) = its.any (eSt x) by simp, any_st r]
    exact q
/-- a tuple is read in one way only, and is no object -/
structure SqU (K : PySem.W.Frag) (H : Hp) : Prop where
  one : ∀ a xs ys, SqT K H a xs → SqT K H a ys → xs = ys
  no : ∀ a xs C dx fs, SqT K H a xs → H a ≠ some (.ins C dx fs)
theorem vals_one : ∀ {xs ys : List V} {us : List Value}, Vals xs us → Vals ys us → xs = ys
  | _, _, _, .nil, .nil => rfl
  | _, _, _, .cons r t, .cons q u => by
    rw [vals_one t u]
    have := r.abs.symm.trans q.abs
    cases this
    rfl
theorem Inv.sqU {pins : List (Addr × Obj)} {σ : St} {H : Hp} {s : Shared} (I : Inv X pins σ H s) : SqU X.K H := by
  refine ⟨fun a xs ys h k => ?_, fun a xs C dx fs h e => ?_⟩
  · obtain ⟨its, r, ⟨⟨c1, d1, da1, s1⟩, ho, hc, n, hd⟩, _⟩ := I.tuple h
    obtain ⟨its2, r2, ⟨⟨c2, d2, da2, s2⟩, ho2, hc2, n2, hd2⟩, _⟩ := I.tuple k
    rw [ho] at ho2
    cases ho2
    dsimp only at hd hd2
    rw [hd] at hd2
    have e : its.toArray = its2.toArray := by injection hd2
    have e' : its = its2 := by simpa using congrArg Array.toList e
    subst e'
    exact vals_one r r2
  · obtain ⟨its, r, ⟨⟨c1, d1, da1, s1⟩, ho, hc, n, hd⟩, _⟩ := I.tuple h
    obtain ⟨mA, O, _⟩ := ins_get I.hok e
    obtain ⟨od, J, _⟩ := O.look
    have g := J.at_
    have q := J.cls
    rw [ho] at g
    have g' := Option.some.inj g
    rw [← g'] at q
    dsimp only at hc q
    rw [hc] at q
    cases q
end
section
variable {X : Cx} {CX : CXT} {C g : Addr} {fd : FuncData} {ps : List Str} {k : Nat} {sp : Sp} {E : XK}
/-- (a, ..) == (b, ..), all of one class whose == keeps what is there -/
theorem op_eqTupG (hn : PySem.W.notFirst X.K C (.ref C) = true) (hs : PySem.W.findIn X.K (.ref C) "__eq__" = some (some (.ref g))) (hf : PySem.W.isFn X.K (.ref g) = true)
    (F : FnOk X.prog X.w X.K X.mg X.base CX k g fd ps sp) (hr : Room (k + 1) X.A) (hb : Binds X.K fd ps []) (hx : Passes CX X E) :
    OpR X (compareOp .Eq) (fun x y H Q => ∃ p q xs ys, ∃ e : Nat → Bool, x = .ref p ∧ y = .ref q ∧ SqT X.K H p xs ∧ SqT X.K H q ys ∧
      (∀ j u v, xs[j]? = some u → ys[j]? = some v → ∃ a dx fs b dy gs, u = .ref a ∧ v = .ref b ∧ H a = some (.ins C dx fs) ∧ H b = some (.ins C dy gs) ∧ (SqU X.K H → a = b → e j = true) ∧ ∀ H1, Same H H1 → sp [.ref a, .ref b] H1 (fun z H' => z = .bl (e j) ∧ Same H1 H') E) ∧
      ∀ H1, Same H H1 → Q (.bl ((List.range (min xs.length ys.length)).all e && (xs.length == ys.length))) H1) := by
  intro pins s σ H x y v u Q I rx ry h
  obtain ⟨p, q, xs, ys, e, rfl, rfl, hp, hq, each, fin⟩ := h
  cases (show v = Value.ref p from rx)
  cases (show u = Value.ref q from ry)
  obtain ⟨its, rv, pl, _⟩ := I.tuple hp
  obtain ⟨its2, rv2, pl2, _⟩ := I.tuple hq
  have hr1 : Room k X.A.in1 := hr.in1
  have l1 : its.toArray.size = xs.length := by rw [List.size_toArray]; exact rv.length.symm
  have l2 : its2.toArray.size = ys.length := by rw [List.size_toArray]; exact rv2.length.symm
  have hU := I.sqU
  show wpAny _ _ (richCompare .Eq (.ref p) (.ref q)) _ _ _
  refine PySem.OwnOps.eq_tupleI (J := fun s => ∃ H1, Same H H1 ∧ Inv X pins σ H1 s) (e := e) ⟨H, Same.refl H, I⟩ pl pl2 hr.units0 (fun j h1 h2 s1 I1 => ?_) (fun s1 I1 => ?_)
  · obtain ⟨H1, sm, I1⟩ := I1
    have j1 : j < xs.length := by omega
    have j2 : j < ys.length := by omega
    obtain ⟨a, dx, fs, b, dy, gs, hu, hv, ha, hb', same, z⟩ := each j _ _ (List.getElem?_eq_getElem j1) (List.getElem?_eq_getElem j2)
    have r1 : RelV xs[j] its.toArray[j] := by
      obtain ⟨u, e1, r⟩ := rv.get (i := j) (List.getElem?_eq_getElem j1)
      obtain ⟨_, e2⟩ := List.getElem?_eq_some_iff.mp e1
      rw [List.getElem_toArray, e2]
      exact r
    have r2 : RelV ys[j] its2.toArray[j] := by
      obtain ⟨u, e1, r⟩ := rv2.get (i := j) (List.getElem?_eq_getElem j2)
      obtain ⟨_, e2⟩ := List.getElem?_eq_some_iff.mp e1
      rw [List.getElem_toArray, e2]
      exact r
    rw [hu] at r1
    rw [hv] at r2
    rw [show its.toArray[j] = Value.ref a from r1, show its2.toArray[j] = Value.ref b from r2]
    by_cases hab : a = b
    · have q := same hU hab
      subst hab
      exact PySem.SeqAt.EqAt.same (Value.ref a) _ _ _ _ ⟨q.symm, H1, sm, I1⟩
    · obtain ⟨mA, O, _⟩ := ins_get I1.hok (sm _ _ ha)
      obtain ⟨od, J, _⟩ := O.look
      obtain ⟨mB, O', _⟩ := ins_get I1.hok (sm _ _ hb')
      obtain ⟨od', J', _⟩ := O'.look
      obtain ⟨m, hF⟩ := I1.fr
      have z := z H1 sm
      unfold eqBool
      refine wpAny_holding ?_
      refine wpAny_ite_split (fun z => absurd (by have := eq_of_beq z; injection this) hab) (fun _ => ?_)
      refine wpAny_bind ?_
      refine PySem.W.cmp_K (op := .Eq) hr1.units0 hF I1.ok.mod.kin J J'.type hn hs hf ?_
      have hl : ([Value.ref a, .ref b] ++ []).length = ps.length := by
        have e := F.len _ _ _ _ z
        exact e
      have bd : BindsTo s1 fd ⟨[Value.ref a, .ref b], []⟩ (ps.zip [Value.ref a, .ref b]) := by
        have b1 := hb s1 [Value.ref a, .ref b] I1.kIn hl
        rw [List.append_nil] at b1
        exact b1
      have r3 : Vals [V.ref a, .ref b] [Value.ref a, .ref b] := .cons rfl (.cons rfl .nil)
      refine wpAny_call (codeAny_mono (F.run X.A.in1 X.stack s1 H1 _ _ _ _ E hr1 I1.env0.in1 bd r3 z) fun r s' hq => ?_)
      match r, hq with
      | .error e, hq => exact hx pins σ H1 s1 e s' I1 hq
      | .ok (.ret w), hq =>
        obtain ⟨z', H', I', rz, rfl, sm'⟩ := I1.after hq
        cases rz
        exact wpAny_truthy_bool ⟨rfl, H', sm.trans sm', I'⟩
      | .ok .next, hq => exact hq.elim
      | .ok .brk, hq => exact hq.elim
      | .ok .cont, hq => exact hq.elim
  · obtain ⟨H1, sm, I1⟩ := I1
    refine ⟨.bl _, H1, I1, rfl, ?_⟩
    rw [l1, l2]
    exact fin H1 sm
end
end L2
namespace DL
open PySem L2 He DX
/-- data of numbers, texts, tuples and objects alone -/
def D.ns : D → Bool
  | .lst _ => false | .dic _ _ => false | .scr _ => false
  | .tup l => nss l | .obj _ _ ds => nss ds
  | _ => true
where nss : List D → Bool
  | [] => true
  | x :: l => D.ns x && nss l
theorem map_inj {α β : Type} {f : α → β} (h : ∀ a b, f a = f b → a = b) : ∀ {l m : List α}, l.map f = m.map f → l = m
  | [], [], _ => rfl
  | [], _ :: _, e => by simp at e
  | _ :: _, [], e => by simp at e
  | a :: l, b :: m, e => by
    simp only [List.map_cons, List.cons.injEq] at e
    rw [h _ _ e.1, map_inj h e.2]
theorem zip_one {α β : Type} : ∀ {ns ms : List α} {vs ws : List β}, vs.length = ns.length → ws.length = ms.length → ns.zip vs = ms.zip ws → ns = ms ∧ vs = ws
  | [], [], [], [], _, _, _ => ⟨rfl, rfl⟩
  | n :: ns, m :: ms, v :: vs, w :: ws, h, k, e => by
    simp only [List.zip_cons_cons, List.cons.injEq, Prod.mk.injEq] at e
    obtain ⟨a, b⟩ := zip_one (by simpa using h) (by simpa using k) e.2
    exact ⟨by rw [e.1.1, a], by rw [e.1.2, b]⟩
  | [], m :: ms, [], w :: ws, _, _, e => by simp at e
  | n :: ns, [], v :: vs, [], _, _, e => by simp at e
  | n :: ns, _, [], _, h, _, _ => by simp at h
  | [], _, v :: vs, _, h, _, _ => by simp at h
  | _, m :: ms, _, [], _, k, _ => by simp at k
  | _, [], _, w :: ws, _, k, _ => by simp at k
theorem Tx.cls_one {K : PySem.W.Frag} (T : Tx K) {c d : String} (p : Pres K c) (q : Pres K d) (e : ga K (Str.ofString c) = ga K (Str.ofString d)) : c = d := by
  have h1 := T.kX c d p q
  rw [e, T.kX d d q q] at h1
  have h2 : (d == d) = (c == d) := Option.some.inj h1
  rw [beq_self_eq_true] at h2
  exact eq_of_beq h2.symm
mutual
theorem Dr.uniq {K : PySem.W.Frag} (T : Tx K) {M N : AS} {H : Hp} (U : SqU K H) : ∀ {v : V} {d e : D}, Dr K M H v d → Dr K N H v e → d.ns = true → e.ns = true → d = e
  | _, _, _, .non, h, _, _ => by cases h; rfl
  | _, _, _, .bl _, h, _, _ => by cases h; rfl
  | _, _, _, .int _, h, _, _ => by cases h; rfl
  | _, _, _, .str _, h, _, _ => by cases h; rfl
  | _, _, _, .ty _, h, _, _ => by cases h; rfl
  | _, _, _, .tup r n al, h, nd, ne => by
    have rs : SqT K H _ _ := .inl r
    cases h with
    | tup r' n' al' =>
      cases U.one _ _ _ rs (.inl r')
      exact congrArg D.tup (DrL.uniq T U al al' (by simpa [D.ns] using nd) (by simpa [D.ns] using ne))
    | tupW r' al' =>
      cases U.one _ _ _ rs (r' H)
      exact congrArg D.tup (DrL.uniq T U al al' (by simpa [D.ns] using nd) (by simpa [D.ns] using ne))
    | obj q _ _ _ _ => exact absurd q (U.no _ _ _ _ _ rs)
    | scr _ _ => simp [D.ns] at ne
    | scrW _ => simp [D.ns] at ne
    | lst _ _ _ => simp [D.ns] at ne
    | dic _ _ _ _ => simp [D.ns] at ne
  | _, _, _, .tupW r al, h, nd, ne => by
    have rs : SqT K H _ _ := r H
    cases h with
    | tup r' n' al' =>
      cases U.one _ _ _ rs (.inl r')
      exact congrArg D.tup (DrL.uniq T U al al' (by simpa [D.ns] using nd) (by simpa [D.ns] using ne))
    | tupW r' al' =>
      cases U.one _ _ _ rs (r' H)
      exact congrArg D.tup (DrL.uniq T U al al' (by simpa [D.ns] using nd) (by simpa [D.ns] using ne))
    | obj q _ _ _ _ => exact absurd q (U.no _ _ _ _ _ rs)
    | scr _ _ => simp [D.ns] at ne
    | scrW _ => simp [D.ns] at ne
    | lst _ _ _ => simp [D.ns] at ne
    | dic _ _ _ _ => simp [D.ns] at ne
  | _, _, _, .scr _ _, _, nd, _ => by simp [D.ns] at nd
  | _, _, _, .scrW _, _, nd, _ => by simp [D.ns] at nd
  | _, _, _, .lst _ _ _, _, nd, _ => by simp [D.ns] at nd
  | _, _, _, .dic _ _ _ _, _, nd, _ => by simp [D.ns] at nd
  | _, _, _, .obj q n l p al, h, nd, ne => by
    cases h with
    | tup r' n' al' => exact absurd q (U.no _ _ _ _ _ (.inl r'))
    | tupW r' al' => exact absurd q (U.no _ _ _ _ _ (r' H))
    | obj q' n' l' p' al' =>
      rw [q] at q'
      injection q' with q'
      injection q' with e1 e2 e3
      have ec := T.cls_one p.1 p'.1 e1
      subst ec
      obtain ⟨e4, e5⟩ := zip_one (by rw [l, List.length_map]) (by rw [l', List.length_map]) e3
      have e6 := map_inj (fun _ _ h => ofString_inj.mp h) e4
      subst e6 e5
      rw [DrL.uniq T U al al' (by simpa [D.ns] using nd) (by simpa [D.ns] using ne)]
    | scr _ _ => simp [D.ns] at ne
    | scrW _ => simp [D.ns] at ne
    | lst _ _ _ => simp [D.ns] at ne
    | dic _ _ _ _ => simp [D.ns] at ne
theorem DrL.uniq {K : PySem.W.Frag} (T : Tx K) {M N : AS} {H : Hp} (U : SqU K H) : ∀ {vs : List V} {ds es : List D}, DrL K M H vs ds → DrL K N H vs es → D.ns.nss ds = true → D.ns.nss es = true → ds = es
  | _, _, _, .nil, h, _, _ => by cases h; rfl
  | _, _, _, .cons a t, h, nd, ne => by
    cases h with
    | cons b u =>
      rw [D.ns.nss, Bool.and_eq_true] at nd ne
      rw [Dr.uniq T U a b nd.1 ne.1, DrL.uniq T U t u nd.2 ne.2]
end
/-- what may be asked for in a row of texts -/
def askD : D → Bool
  | .obj _ _ _ => false | .ty _ => false | _ => true
def isTx (z : Str) : D → Bool
  | .str y => decide (z = y) | _ => false
def fInT (neg : Bool) (x y : Rv) (Q : KD) (_ : KX) : Prop := match x.any, y.asS.bind strsOf with
  | some d, some zs => askD d = true ∧ Q (.d (.bl (neg ^^ zs.any fun z => isTx z d)))
  | _, _ => False
section
variable {K : PySem.W.Frag} {E : XK}
theorem s_inT {neg : Bool} : S2 K E (rInT K neg) (fInT neg) := fun M S H0 H v w x y wf rx ry Qd Ed Q hf k kx => by
  unfold fInT at hf
  split at hf
  · rename_i d zs e1 e2
    obtain ⟨hp, hf⟩ := hf
    obtain ⟨l, e3, e4⟩ := Option.bind_eq_some_iff.mp e2
    obtain ⟨a, vs, rfl, q, al⟩ := ry.ss e3
    have e5 := strsOf_eq al e4
    subst e5
    have fin : Askd K H v → (∀ z, decide (V.str z = v) = isTx z d) → rInT K neg v (.ref a) H Q := fun h1 h2 => by
      refine ⟨a, zs, rfl, q, h1, k (.d (.bl _)) _ _ (Evo.refl _ _) (Dr.bl _) ?_⟩
      rw [show (zs.any fun z => decide (V.str z = v)) = zs.any fun z => isTx z d from congrArg zs.any (funext h2)]
      exact hf
    have row : ∀ {p : Addr} {ys : List V}, v = .ref p → (SqL K H p ys ∨ SqT K H p ys) → (∀ z, isTx z d = false) → rInT K neg v (.ref a) H Q := fun {p ys} ev h1 h2 => by
      refine fin (.inr (.inl ⟨p, ys, ev, h1⟩)) fun z => ?_
      rw [h2 z, ev]
      exact decide_eq_false (fun h => by cases h)
    cases x with
    | d u =>
      have hu : u = d := by cases u <;> simp [Rv.any] at e1 <;> exact e1
      subst hu
      cases rx with
      | non => exact fin (.inl rfl) fun z => by simp [isTx]
      | bl b => exact fin (.inl rfl) fun z => by simp [isTx]
      | int i => exact fin (.inl rfl) fun z => by simp [isTx]
      | str y => exact fin (.inl rfl) fun z => by simp [isTx]
      | ty n => cases hp
      | tup q n al => exact row rfl (.inr (.inl q)) fun _ => rfl
      | tupW q al => exact row rfl (.inr (q H)) fun _ => rfl
      | scr q n => exact row rfl (.inl (.inl q)) fun _ => rfl
      | scrW q => exact row rfl (.inl (q H)) fun _ => rfl
      | lst q n al => exact row rfl (.inl (SqL.of q)) fun _ => rfl
      | obj q n l p al => cases hp
      | dic q n l al => exact fin (.inr (.inr ⟨_, _, rfl, q⟩)) fun z => by simp [isTx]
    | strm b =>
      cases e1
      obtain ⟨rfl, _, c, f, n, q⟩ := rx
      exact row rfl (.inl (SqL.of q)) fun _ => rfl
    | new b l =>
      cases e1
      obtain ⟨rfl, _, _, vs, q, _⟩ := rx
      exact row rfl (.inl (SqL.of q)) fun _ => rfl
    | bor b l =>
      cases e1
      obtain ⟨rfl, _, _, vs, q, _⟩ := rx
      exact row rfl (.inl (SqL.of q)) fun _ => rfl
    | tp b its =>
      cases e1
      obtain ⟨b, vs, rfl, q, al⟩ := Dr.sqt rx.flat
      exact row rfl (.inr q) fun _ => rfl
  · exact hf.elim
/-- tuples of objects of one class, by its own == -/
def fEqTup (c : String) (m : MF) (x y : Rv) (Q : KD) (_ : KX) : Prop := match x.asT, y.asT with
  | some l, some k => ∃ e : Nat → Bool, (∀ (j : Nat) a b, l[j]? = some a → k[j]? = some b → isC c a = true ∧ isC c b = true ∧ a.ns = true ∧ b.ns = true ∧ (a = b → e j = true) ∧ ∀ (Qd : KD), Qd (.d (.bl (e j))) → m [.d a, .d b] Qd fun _ => False) ∧
      Q (.d (.bl ((List.range (min l.length k.length)).all e && (l.length == k.length))))
  | _, _ => False
theorem rv_sqt {M S : AS} {H0 H : Hp} {v : V} {x : Rv} {l : List D} (h : RepR K M S H0 H v x) (e : x.asT = some l) : ∃ a vs, v = .ref a ∧ SqT K H a vs ∧ DrL K M H vs l := by
  cases x with
  | d y =>
    cases y with
    | tup l' => cases e; exact Dr.sqt h
    | _ => cases e
  | tp a its => cases e; exact Dr.sqt h.flat
  | _ => cases e
theorem s_eqTup {c : String} {m : MF} (T : Tx K) : S2 K E (fun x y H Q => ∃ p q xs ys, ∃ e : Nat → Bool, x = .ref p ∧ y = .ref q ∧ SqT K H p xs ∧ SqT K H q ys ∧
      (∀ j u v, xs[j]? = some u → ys[j]? = some v → ∃ a dx fs b dy gs, u = .ref a ∧ v = .ref b ∧ H a = some (.ins (ga K (Str.ofString c)) dx fs) ∧ H b = some (.ins (ga K (Str.ofString c)) dy gs) ∧ (SqU K H → a = b → e j = true) ∧ ∀ H1, Same H H1 → spD K 2 m [.ref a, .ref b] H1 (fun z H' => z = .bl (e j) ∧ Same H1 H') E) ∧
      ∀ H1, Same H H1 → Q (.bl ((List.range (min xs.length ys.length)).all e && (xs.length == ys.length))) H1) (fEqTup c m) := fun M S H0 H v w x y wf rx ry Qd Ed Q hf k kx => by
  unfold fEqTup at hf
  split at hf
  · rename_i l k' e1 e2
    obtain ⟨e, each, fin⟩ := hf
    obtain ⟨a, vs, rfl, q, al⟩ := rv_sqt rx e1
    obtain ⟨b, ws, rfl, q', bl⟩ := rv_sqt ry e2
    refine ⟨a, b, vs, ws, e, rfl, rfl, q, q', fun j u v hu hv => ?_, fun H1 sm => ?_⟩
    · obtain ⟨d1, h1, r1⟩ := al.get hu
      obtain ⟨d2, h2, r2⟩ := bl.get hv
      obtain ⟨c1, c2, n1, n2, same, run⟩ := each j d1 d2 h1 h2
      have r1' := r1
      have r2' := r2
      cases r1 with
      | obj g1 m1 l1 p1 a1 =>
        cases r2 with
        | obj g2 m2 l2 p2 a2 =>
          simp only [isC, isObjD, D.kd, Bool.true_and, beq_iff_eq] at c1 c2
          subst c1 c2
          refine ⟨_, _, _, _, _, _, rfl, rfl, g1, g2, fun U hab => ?_, fun H1 sm => ?_⟩
          · subst hab
            exact same (Dr.uniq T U r1' r2' n1 n2)
          · refine call2 (S := fun _ => False) (M := M) (Qd := fun z => z = .d (.bl (e j))) (Ed := fun _ => False) ⟨fun a ha => ?_, fun _ z => z.elim, fun _ z => z.elim⟩ (r1'.evo (S := fun _ => False) (fun _ z => z.elim) (Evo.of sm)) (r2'.evo (S := fun _ => False) (fun _ z => z.elim) (Evo.of sm)) (run _ rfl) (fun z u H' ev rz hz => ?_) (fun _ _ _ _ _ _ z => z.elim)
            · cases hq : H a with
              | none => exact absurd hq (wf.mo a ha)
              | some o => rw [sm a o hq]; simp
            · subst hz
              cases rz
              exact ⟨rfl, fun a o h => ev.keep a o (fun z => z) h⟩
        | _ => simp [isC, isObjD] at c2
      | _ => simp [isC, isObjD] at c1
    · refine k (.d (.bl _)) _ _ (Evo.of sm) (Dr.bl _) ?_
      rw [al.length, bl.length]
      exact fin
  · exact hf.elim
end
end DL

/-! plain mathematics of fractions in lowest terms -/
namespace Rt
/-- the divisor that takes the sign of the bottom -/
def shr (p q : Int) : Int := if 0 < q then (Nat.gcd p.natAbs q.natAbs : Nat) else -((Nat.gcd p.natAbs q.natAbs : Nat) : Int)
def nrmT (p q : Int) : Int := p.fdiv (shr p q)
def nrmB (p q : Int) : Int := q.fdiv (shr p q)
/-- lowest terms -/
structure Low (t b : Int) : Prop where
  pos : 0 < b
  cop : Nat.gcd t.natAbs b.natAbs = 1
theorem gcd_pos {p q : Int} (h : q ≠ 0) : 0 < Nat.gcd p.natAbs q.natAbs := Nat.gcd_pos_of_pos_right _ (by omega)
theorem shr_ne {p q : Int} (h : q ≠ 0) : shr p q ≠ 0 := by
  have := gcd_pos (p := p) h
  unfold shr
  split <;> omega
theorem shr_abs (p q : Int) : (shr p q).natAbs = Nat.gcd p.natAbs q.natAbs := by
  unfold shr
  split <;> omega
theorem shr_dvd_l (p q : Int) : shr p q ∣ p := by
  rw [← Int.natAbs_dvd_natAbs, shr_abs]
  exact Nat.gcd_dvd_left _ _
theorem shr_dvd_r (p q : Int) : shr p q ∣ q := by
  rw [← Int.natAbs_dvd_natAbs, shr_abs]
  exact Nat.gcd_dvd_right _ _
theorem fdiv_mul {s p : Int} (hs : s ≠ 0) (h : s ∣ p) : s * p.fdiv s = p := by
  obtain ⟨c, rfl⟩ := h
  rw [Int.mul_fdiv_cancel_left _ hs]
theorem nrm_low {p q : Int} (h : q ≠ 0) : Low (nrmT p q) (nrmB p q) := by
  have hs := shr_ne (p := p) h
  have e1 : shr p q * nrmT p q = p := fdiv_mul hs (shr_dvd_l p q)
  have e2 : shr p q * nrmB p q = q := fdiv_mul hs (shr_dvd_r p q)
  have hg := gcd_pos (p := p) h
  refine ⟨?_, ?_⟩
  · by_cases c : 0 < q
    · have sp : 0 < shr p q := by unfold shr; rw [if_pos c]; omega
      have : 0 < shr p q * nrmB p q := by rw [e2]; exact c
      exact Int.pos_of_mul_pos_right this sp |> fun z => z
    · have sn : shr p q < 0 := by unfold shr; rw [if_neg c]; omega
      have hq : q < 0 := by omega
      by_cases z : 0 < nrmB p q
      · exact z
      · exfalso
        have z1 : nrmB p q ≤ 0 := by omega
        have : 0 ≤ shr p q * nrmB p q := Int.mul_nonneg_of_nonpos_of_nonpos (Int.le_of_lt sn) z1
        omega
  · have g1 : Nat.gcd p.natAbs q.natAbs = (shr p q).natAbs * Nat.gcd (nrmT p q).natAbs (nrmB p q).natAbs := by
      have a1 : p.natAbs = (shr p q).natAbs * (nrmT p q).natAbs := by rw [← Int.natAbs_mul, e1]
      have a2 : q.natAbs = (shr p q).natAbs * (nrmB p q).natAbs := by rw [← Int.natAbs_mul, e2]
      rw [a1, a2, Nat.gcd_mul_left]
    rw [shr_abs] at g1
    have g2 : Nat.gcd p.natAbs q.natAbs * 1 = Nat.gcd p.natAbs q.natAbs * Nat.gcd (nrmT p q).natAbs (nrmB p q).natAbs := by omega
    exact (Nat.eq_of_mul_eq_mul_left hg g2).symm
theorem nrm_of_low {t b : Int} (h : Low t b) : nrmT t b = t ∧ nrmB t b = b := by
  have e : shr t b = 1 := by
    unfold shr
    rw [if_pos h.pos, h.cop]
    rfl
  unfold nrmT nrmB
  rw [e]
  exact ⟨Int.fdiv_one _, Int.fdiv_one _⟩
theorem Low.neg {t b : Int} (h : Low t b) : Low (-t) b := ⟨h.pos, by rw [Int.natAbs_neg]; exact h.cop⟩
theorem Low.abs {t b : Int} (h : Low t b) : Low (if t < 0 then -t else t) b := by
  split
  · exact h.neg
  · exact h
theorem nrm_le {p q : Int} (h : q ≠ 0) : (nrmT p q).natAbs ≤ p.natAbs ∧ (nrmB p q).natAbs ≤ q.natAbs := by
  have hs := shr_ne (p := p) h
  have e1 : shr p q * nrmT p q = p := fdiv_mul hs (shr_dvd_l p q)
  have e2 : shr p q * nrmB p q = q := fdiv_mul hs (shr_dvd_r p q)
  have k : 1 ≤ (shr p q).natAbs := by omega
  refine ⟨?_, ?_⟩
  · conv => rhs; rw [← e1, Int.natAbs_mul]
    exact Nat.le_mul_of_pos_left _ k
  · conv => rhs; rw [← e2, Int.natAbs_mul]
    exact Nat.le_mul_of_pos_left _ k
/-! Euclid's steps, counted -/
/-- behind i turns -/
structure Eu (g n i : Nat) (a b : Nat) : Prop where
  gcd : Nat.gcd a b = g
  step : b = 0 ∨ (i = 0 ∧ b < 2 ^ n) ∨ (b < a ∧ a * b * 2 ^ i < 2 ^ (2 * n + 1))
theorem Eu.start {a b n : Nat} (h : b < 2 ^ n) : Eu (Nat.gcd a b) n 0 a b := ⟨rfl, .inr (.inl ⟨rfl, h⟩)⟩
theorem Eu.turn {g n i a b : Nat} (h : Eu g n i a b) (hb : b ≠ 0) : Eu g n (i + 1) b (a % b) := by
  have hlt : a % b < b := Nat.mod_lt _ (by omega)
  refine ⟨?_, ?_⟩
  · rw [← h.gcd, Nat.gcd_comm a b, Nat.gcd_rec b a, Nat.gcd_comm]
  · rcases h.step with z | ⟨rfl, z⟩ | ⟨z, y⟩
    · exact absurd z hb
    · right; right
      refine ⟨hlt, ?_⟩
      have h1 : b * (a % b) < 2 ^ n * 2 ^ n := by
        have : b * (a % b) ≤ b * b := Nat.mul_le_mul_left _ (Nat.le_of_lt hlt)
        exact Nat.lt_of_le_of_lt this (Nat.mul_lt_mul'' z z)
      rw [show 2 * n + 1 = n + n + 1 by omega, Nat.pow_succ 2 (n + n), Nat.pow_add 2 n n]
      show b * (a % b) * 2 ^ 1 < _
      omega
    · right; right
      refine ⟨hlt, ?_⟩
      have hd := Nat.div_add_mod a b
      have hq : 1 ≤ a / b := Nat.div_pos (Nat.le_of_lt z) (by omega)
      have h2 : b ≤ b * (a / b) := Nat.le_mul_of_pos_right _ hq
      have h3 : 2 * (a % b) ≤ a := by omega
      have h4 : b * (a % b) * 2 ≤ a * b := by
        have : b * (2 * (a % b)) ≤ b * a := Nat.mul_le_mul_left _ h3
        rw [Nat.mul_comm a b, Nat.mul_assoc, Nat.mul_comm (a % b) 2]
        exact this
      refine Nat.lt_of_le_of_lt ?_ y
      rw [Nat.pow_succ, Nat.mul_comm (2 ^ i) 2, ← Nat.mul_assoc]
      exact Nat.mul_le_mul_right _ h4
theorem Eu.last {g n i a b : Nat} (h : Eu g n i a b) (hi : 2 * n + 1 ≤ i) : b = 0 := by
  rcases h.step with z | ⟨z, _⟩ | ⟨z, y⟩
  · exact z
  · omega
  · by_cases c : b = 0
    · exact c
    · exfalso
      have h1 : 1 ≤ a * b := Nat.mul_pos (by omega) (by omega)
      have h2 : 2 ^ (2 * n + 1) ≤ 2 ^ i := Nat.pow_le_pow_right (by omega) hi
      have h3 : 1 * 2 ^ i ≤ a * b * 2 ^ i := Nat.mul_le_mul_right _ h1
      omega
theorem Eu.done {g n i a b : Nat} (h : Eu g n i a b) (hb : b = 0) : a = g := by
  rw [← h.gcd, hb, Nat.gcd_zero_right]
end Rt

set_option Elab.async false
set_option linter.all false
set_option maxRecDepth 100000
set_option maxHeartbeats 4000000
/-! the program's text; streams, draws, the greatest common divisor -/
namespace DW
open PySem L2 DL Rt
theorem itF {c : Bool} {A B : Prop} (h : c = false) (k : B) : if c = true then A else B := by
  subst h
  exact iteF k
theorem itT {c : Bool} {A B : Prop} (h : c = true) (k : A) : if c = true then A else B := by
  subst h
  exact iteT k
theorem at_of {xs : List V} {j : Nat} {v : V} {d : Int} (e : d = (j : Int)) (h : xs[j]? = some v) : atI xs d = some v := by
  subst e
  exact atI_nat h
def top (i : Nat) : Stmt := PySem.Challenge.pw_toldwithin_k08_whole_sums_over_regions.main.body.getD i (.Pass ⟨0, 0, 0, 0⟩)
abbrev sStream : Stmt := top 56
abbrev sDraw : Stmt := top 57
abbrev sCommon : Stmt := top 58
def Sz (n : Nat) (z : Int) : Prop := z.natAbs < 2 ^ n
def But (l : Addr) (H H' : Hp) : Prop := ∀ b o, b ≠ l → H b = some o → H' b = some o
def spStream (K : PySem.W.Frag) : Sp := fun vs H Q _ => ∃ (a : Addr) (ns : List Int) (k : Nat), vs = [.ref a, .int k] ∧ SqL K H a (ns.map V.int) ∧ k < 1000 ∧ ∀ p H', Same H H' → H p = none → IsStrm H' p → Q (.ref p) H'
def spDraw : Sp := fun vs H Q _ => ∃ (l : Addr) (m : Int), vs = [.ref l, .int m] ∧ IsStrm H l ∧ 0 < m ∧ Sz 8000 m ∧ ∀ (d : Int) H', 0 ≤ d → d < m → But l H H' → IsStrm H' l → Q (.int d) H'
def spCommon : Sp := fun vs H Q _ => ∃ a b : Nat, vs = [.int (a : Int), .int (b : Int)] ∧ b < 2 ^ 4900 ∧ Q (.int ((Nat.gcd a b : Nat) : Int)) H
theorem abs_nat (i : Int) : (if i < 0 then -i else i) = ((i.natAbs : Nat) : Int) := by
  split <;> omega
section
variable {P : Program} {w : World} {K : PySem.W.Frag} {mg : Str → Option Value} {base : Heap} {C E B f g h : Addr} {fd gd hd : FuncData}
theorem scStream : FnScope ["script", "k", "cell"] ["script", "k"] (defScope sStream) := ⟨rfl, rfl, rfl, by decide +kernel, rfl, by decide +kernel, by decide +kernel⟩
theorem ok_stream (F : FnP K "_law_stream" "_law_stream" sStream [] f fd) (T : TT mg) : FnOk P w K mg base CX0 1 f fd ["script", "k"] (spStream K) := by
  refine F.ok scStream (fun vs H Q X z => ?_) (fun cdv A outer s H vs Q X hr z => ?_)
  · obtain ⟨a, ns, k, rfl, _⟩ := z
    rfl
  · obtain ⟨a, ns, k, rfl, hS, hk, q⟩ := z
    refine ⟨_, PSs.nox (pss_cons (ps_set (i := 2) scStream.nd rfl (Or.inl rfl) pe_int)
      (pss_cons (ps_if (pt_cmpR op_lt (pv 1) (pe_callB call_len_seq (by rfl) T.len PySem.boot_len (pa_cons (pv 0) pa_nil)) (nomark _))
        (pss_one (ps_set (i := 2) scStream.nd rfl (Or.inl rfl) (pe_callB call_abs (by rfl) T.abs (by decide +kernel) (pa_cons (pe_ix ix_list (pv 0) (pv 1) (fun _ _ => rfl)) pa_nil)))) pss_nil)
      (pss_one (ps_ret (pe_lst (pa_cons (pv 2) (pa_cons (pe_callTy call_int1 (by rfl) T.int (by decide +kernel) (pa_cons (pe_cmpR op_ge (pv 2) (pe_op op_pow pe_int pe_int) (nomark _)) pa_nil)) (pa_cons (pe_op op_mul pe_int (pv 1)) pa_nil)))))))), ?_⟩
    -- what comes behind, whatever the cell
    have tail : ∀ c : Int, ∃ v, ([some (V.ref a), some (V.int (k : Int)), some (V.int c)] : St)[2]? = some (some v) ∧ ∃ y, ([some (V.ref a), some (V.int (k : Int)), some (V.int c)] : St)[2]? = some (some y) ∧
        ∃ i j, V.int 10 = V.int i ∧ V.int 18 = V.int j ∧ CPow i j ∧ ∃ i' j', y = V.int i' ∧ V.int (i ^ j.toNat) = V.int j' ∧
          ((∃ i, [V.bl (decide (j' ≤ i'))] = [V.int i] ∧ False) ∨ ∃ kk, [V.bl (decide (j' ≤ i'))] = [V.bl kk] ∧ ∃ z, ([some (V.ref a), some (V.int (k : Int)), some (V.int c)] : St)[1]? = some (some z) ∧ ∃ i j, V.int 1000 = V.int i ∧ z = V.int j ∧ CMul i j ∧
            ([v, V.int (if kk then 1 else 0), V.int (i * j)] : List V).length ≤ sizeLine ∧ ∀ p, H p = none → Q (.ref p) (upd H p (.lst [v, V.int (if kk then 1 else 0), V.int (i * j)]))) := fun c =>
      ⟨_, rfl, _, rfl, _, _, rfl, rfl, ⟨by decide, by decide, by decide⟩, _, _, rfl, rfl, .inr ⟨_, rfl, _, rfl, _, _, rfl, rfl, .inl ⟨by decide, by decide⟩, (by show 3 ≤ sizeLine; decide), fun p hp => q p _ (fun b o e => by rw [upd_ne (ne_of_none e hp)]; exact e) hp ⟨_, _, _, upd_same⟩⟩⟩
    have hlen : (ns.map V.int).length = ns.length := List.length_map ..
    refine ⟨_, rfl, _, rfl, a, _, rfl, .inl hS, _, _, rfl, rfl, _, rfl, ?_⟩
    by_cases c : (k : Int) < ((ns.map V.int).length : Int)
    · refine itT (decide_eq_true c) ?_
      have hk2 : k < ns.length := by rw [hlen] at c; omega
      refine ⟨_, rfl, _, rfl, a, _, (k : Int), V.int ns[k], rfl, rfl, hS, atI_nat (by rw [List.getElem?_map, List.getElem?_eq_getElem hk2]; rfl), _, rfl, ?_⟩
      obtain ⟨v, h1, y, h2, i, j, h3, h4, h5, i', j', h6, h7, h8⟩ := tail (if ns[k] < 0 then -ns[k] else ns[k])
      refine ⟨v, h1, y, h2, i, j, h3, h4, h5, i', j', h6, h7, ?_⟩
      rcases h8 with ⟨_, _, z⟩ | z
      · exact z.elim
      · exact .inr z
    · refine itF (decide_eq_false c) ?_
      obtain ⟨v, h1, y, h2, i, j, h3, h4, h5, i', j', h6, h7, h8⟩ := tail 0
      refine ⟨v, h1, y, h2, i, j, h3, h4, h5, i', j', h6, h7, ?_⟩
      rcases h8 with ⟨_, _, z⟩ | z
      · exact z.elim
      · exact .inr z
theorem mod_in {x m : Int} (h : 0 < m) : 0 ≤ x % m ∧ x % m < m := ⟨Int.emod_nonneg _ (by omega), Int.emod_lt_of_pos _ h⟩
theorem scDraw : FnScope ["stream", "many", "digit", "mixed"] ["stream", "many"] (defScope sDraw) := ⟨rfl, rfl, rfl, by decide +kernel, rfl, by decide +kernel, by decide +kernel⟩
theorem ok_draw (F : FnP K "_law_draw" "_law_draw" sDraw [] f fd) (T : TT mg) : FnOk P w K mg base CX0 1 f fd ["stream", "many"] spDraw := by
  refine F.ok scDraw (fun vs H Q X z => ?_) (fun cdv A outer s H vs Q X hr z => ?_)
  · obtain ⟨l, m, rfl, _⟩ := z
    rfl
  · obtain ⟨l, m, rfl, ⟨c, e, n, hl⟩, hm, hs, q⟩ := z
    refine ⟨_, PSs.nox (pss_cons (ps_asg (pe_op op_add (pe_ix ix_list (pv 0) pe_int (fun _ _ => rfl)) pe_int) (pg_sub (pv 0) pe_int set_list))
      (pss_cons (ps_if (PW.pt (pw_and (pt_cmpR op_eq (pe_ix ix_list (pv 0) pe_int (fun _ _ => rfl)) pe_int (nomark _)) (pw_and1 (pt_cmpR op_gt (pe_ix ix_list (pv 0) pe_int (fun _ _ => rfl)) pe_int (nomark _)))))
        (pss_cons (ps_set (i := 2) scDraw.nd rfl (Or.inl rfl) (pe_op op_mod (pe_callTy call_int1 (by rfl) T.int (by decide +kernel) (pa_cons (pe_ix ix_list (pv 0) pe_int (fun _ _ => rfl)) pa_nil)) (pv 1)))
        (pss_cons (ps_asg (pe_op op_fdivW (pe_callTy call_int1 (by rfl) T.int (by decide +kernel) (pa_cons (pe_ix ix_list (pv 0) pe_int (fun _ _ => rfl)) pa_nil)) (pv 1)) (pg_sub (pv 0) pe_int set_list))
        (pss_one (ps_ret (pv 2))))) pss_nil)
      (pss_cons (ps_set (i := 3) scDraw.nd rfl (Or.inl rfl) (pe_op op_mod (pe_callTy call_int1 (by rfl) T.int (by decide +kernel) (pa_cons (pe_op op_mul (pe_op op_add (pe_op op_add (pe_ix ix_list (pv 0) pe_int (fun _ _ => rfl)) (pe_op op_mul pe_int (pe_ix ix_list (pv 0) pe_int (fun _ _ => rfl)))) pe_int) pe_int) pa_nil)) pe_int))
      (pss_cons (ps_set (i := 3) scDraw.nd rfl (Or.inl rfl) (pe_op op_mod (pe_callTy call_int1 (by rfl) T.int (by decide +kernel) (pa_cons (pe_op op_mul (pv 3) (pe_op op_add (pe_op op_fdiv (pv 3) pe_int) pe_int)) pa_nil)) pe_int))
      (pss_cons (ps_set (i := 3) scDraw.nd rfl (Or.inl rfl) (pe_op op_mod (pe_callTy call_int1 (by rfl) T.int (by decide +kernel) (pa_cons (pe_op op_mul (pv 3) (pe_op op_add (pe_op op_fdiv (pv 3) pe_int) pe_int)) pa_nil)) pe_int))
      (pss_one (ps_ret (pe_op op_mod (pe_callTy call_int1 (by rfl) T.int (by decide +kernel) (pa_cons (pe_op op_fdiv (pv 3) pe_int) pa_nil)) (pv 1))))))))), ?_⟩
    -- stream[2] = stream[2] + 1
    refine ⟨_, rfl, l, _, _, V.int n, rfl, rfl, SqL.of hl, at_of (j := 2) rfl rfl, _, _, rfl, rfl, _, rfl, l, _, _, 2, rfl, rfl, hl, rfl, ?_⟩
    have h1 : (upd H l (.lst [V.int c, V.int e, V.int (n + 1)])) l = some (.lst [V.int c, V.int e, V.int (n + 1)]) := upd_same
    -- the test
    refine ⟨_, rfl, l, _, _, V.int e, rfl, rfl, SqL.of h1, at_of (j := 1) rfl rfl, rfl, _, rfl, ?_⟩
    rcases Decidable.em (V.int e = V.int 1) with c1 | c1
    · refine itT (decide_eq_true c1) ?_
      refine ⟨_, rfl, l, _, _, V.int c, rfl, rfl, SqL.of h1, at_of (j := 0) rfl rfl, _, _, rfl, rfl, _, rfl, ?_⟩
      rcases Decidable.em ((0 : Int) < c) with c2 | c2
      · refine itT (decide_eq_true c2) ?_
        have hs' := PySem.Flt.log2_lt_of (by decide) hs
        refine ⟨_, rfl, l, _, _, V.int c, rfl, rfl, SqL.of h1, at_of (j := 0) rfl rfl, .inl ⟨_, rfl, _, rfl, _, _, rfl, rfl, hm, ?_⟩⟩
        refine ⟨_, rfl, l, _, _, V.int c, rfl, rfl, SqL.of h1, at_of (j := 0) rfl rfl, .inl ⟨_, rfl, _, rfl, _, _, rfl, rfl, ⟨hm, by omega⟩, _, rfl, l, _, _, 0, rfl, rfl, h1, rfl, ?_⟩⟩
        refine ⟨_, rfl, ?_⟩
        exact q _ _ (mod_in hm).1 (mod_in hm).2 (fun b o ne e => by rw [upd_ne ne, upd_ne ne]; exact e) ⟨_, _, _, upd_same⟩
      · refine itF (decide_eq_false c2) ?_
        -- the mixed one
        refine ⟨_, rfl, l, _, _, V.int c, rfl, rfl, SqL.of h1, at_of (j := 0) rfl rfl, _, rfl, l, _, _, V.int (n + 1), rfl, rfl, SqL.of h1, at_of (j := 2) rfl rfl, _, _, rfl, rfl, .inl ⟨by decide, by decide⟩, _, _, rfl, rfl, _, _, rfl, rfl, _, _, rfl, rfl, .inr ⟨by decide, by decide⟩, .inl ⟨_, rfl, _, _, rfl, rfl, (by show (0 : Int) < 2147483647; decide), ?_⟩⟩
        obtain ⟨a0, a1⟩ := mod_in (x := (c + 7919 * (n + 1) + 1) * 48271) (m := 2147483647) (by decide)
        refine ⟨_, rfl, _, rfl, _, _, rfl, rfl, ⟨by decide, by decide⟩, _, _, rfl, rfl, _, _, rfl, rfl, .inl ⟨by omega, by omega⟩, .inl ⟨_, rfl, _, _, rfl, rfl, (by show (0 : Int) < 2147483647; decide), ?_⟩⟩
        refine ⟨_, rfl, _, rfl, _, _, rfl, rfl, ⟨by decide, by decide⟩, _, _, rfl, rfl, _, _, rfl, rfl, .inl ⟨?_, ?_⟩, .inl ⟨_, rfl, _, _, rfl, rfl, (by show (0 : Int) < 2147483399; decide), ?_⟩⟩
        · exact Int.lt_of_lt_of_le (by decide) (mod_in (by decide)).1
        · exact Int.lt_trans (mod_in (by decide)).2 (by decide)
        refine ⟨_, rfl, _, _, rfl, rfl, ⟨by decide, by decide⟩, .inl ⟨_, rfl, _, rfl, _, _, rfl, rfl, hm, ?_⟩⟩
        exact q _ _ (mod_in hm).1 (mod_in hm).2 (fun b o ne e => by rw [upd_ne ne]; exact e) ⟨_, _, _, upd_same⟩
    · refine itF (decide_eq_false c1) (iteF ?_)
      -- the mixed one
      refine ⟨_, rfl, l, _, _, V.int c, rfl, rfl, SqL.of h1, at_of (j := 0) rfl rfl, _, rfl, l, _, _, V.int (n + 1), rfl, rfl, SqL.of h1, at_of (j := 2) rfl rfl, _, _, rfl, rfl, .inl ⟨by decide, by decide⟩, _, _, rfl, rfl, _, _, rfl, rfl, _, _, rfl, rfl, .inr ⟨by decide, by decide⟩, .inl ⟨_, rfl, _, _, rfl, rfl, (by show (0 : Int) < 2147483647; decide), ?_⟩⟩
      obtain ⟨a0, a1⟩ := mod_in (x := (c + 7919 * (n + 1) + 1) * 48271) (m := 2147483647) (by decide)
      refine ⟨_, rfl, _, rfl, _, _, rfl, rfl, ⟨by decide, by decide⟩, _, _, rfl, rfl, _, _, rfl, rfl, .inl ⟨by omega, by omega⟩, .inl ⟨_, rfl, _, _, rfl, rfl, (by show (0 : Int) < 2147483647; decide), ?_⟩⟩
      refine ⟨_, rfl, _, rfl, _, _, rfl, rfl, ⟨by decide, by decide⟩, _, _, rfl, rfl, _, _, rfl, rfl, .inl ⟨?_, ?_⟩, .inl ⟨_, rfl, _, _, rfl, rfl, (by show (0 : Int) < 2147483399; decide), ?_⟩⟩
      · exact Int.lt_of_lt_of_le (by decide) (mod_in (by decide)).1
      · exact Int.lt_trans (mod_in (by decide)).2 (by decide)
      refine ⟨_, rfl, _, _, rfl, rfl, ⟨by decide, by decide⟩, .inl ⟨_, rfl, _, rfl, _, _, rfl, rfl, hm, ?_⟩⟩
      exact q _ _ (mod_in hm).1 (mod_in hm).2 (fun b o ne e => by rw [upd_ne ne]; exact e) ⟨_, _, _, upd_same⟩
theorem scCommon : FnScope ["one", "rest", "k", "after"] ["one", "rest"] (defScope sCommon) := ⟨rfl, rfl, rfl, by decide +kernel, rfl, by decide +kernel, by decide +kernel⟩
theorem ok_common (F : FnP K "_law_common" "_law_common" sCommon [] f fd) (T : TT mg) : FnOk P w K mg base CX0 1 f fd ["one", "rest"] spCommon := by
  refine F.ok scCommon (fun vs H Q X z => ?_) (fun cdv A outer s H vs Q X hr z => ?_)
  · obtain ⟨a, b, rfl, _⟩ := z
    rfl
  · obtain ⟨a, b, rfl, hb, q⟩ := z
    refine ⟨_, PSs.nox (pss_cons (ps_for PassesOwn.never rfl (pi_range1 rfl T.range (pa_cons (pe_op op_pow pe_int pe_int) pa_nil)) (pg_name (i := 2) scCommon.nd rfl (Or.inl rfl))
      (pss_cons (ps_if (pt_cmpR op_eq (pv 1) pe_int (nomark _)) (pss_one (ps_ret (pv 0))) pss_nil)
      (pss_cons (ps_set (i := 3) scCommon.nd rfl (Or.inl rfl) (pe_op op_mod (pe_callTy call_int1 (by rfl) T.int (by decide +kernel) (pa_cons (pv 0) pa_nil)) (pv 1)))
      (pss_cons (ps_set (i := 0) scCommon.nd rfl (Or.inl rfl) (pv 1))
      (pss_one (ps_set (i := 1) scCommon.nd rfl (Or.inl rfl) (pv 3)))))))
      (pss_one (ps_ret (pv 0)))), ?_⟩
    refine ⟨_, _, rfl, rfl, ⟨by decide, by decide, by decide⟩, _, rfl, by decide, by decide, ?_⟩
    have e4 : ((10 : Int) ^ (4 : Int).toNat).toNat = 10000 := by decide
    rw [e4]
    refine for_range (lo := 0) (n := 10000) (fun i σ H1 => H1 = H ∧ ∃ (x y : Nat) (u v : Option V), σ = [some (.int (x : Int)), some (.int (y : Int)), u, v] ∧ Eu (Nat.gcd a b) 4900 i x y)
      ⟨rfl, a, b, none, none, rfl, Eu.start hb⟩ ?_ ?_
    · rintro i σ H1 hi ⟨rfl, x, y, u, v, rfl, eu⟩
      refine ⟨_, rfl, rfl, _, rfl, ?_⟩
      rcases Decidable.em (V.int (y : Int) = V.int 0) with c | c
      · refine itT (decide_eq_true c) ⟨_, rfl, ?_⟩
        have hy : y = 0 := by
          have := V.int.inj c
          omega
        rw [eu.done hy]
        exact q
      · refine itF (decide_eq_false c) ?_
        have hy : y ≠ 0 := fun z => c (by rw [z]; rfl)
        refine ⟨_, rfl, .inl ⟨_, rfl, _, rfl, _, _, rfl, rfl, (by show (0 : Int) < (y : Int); omega), ?_⟩⟩
        refine ⟨_, rfl, _, rfl, rfl, y, x % y, some (.int (0 + (i : Int))), some (.int ((x : Int) % (y : Int))), ?_, eu.turn hy⟩
        rw [Int.natCast_emod]
        rfl
    · rintro σ H1 ⟨rfl, x, y, u, v, rfl, eu⟩
      refine ⟨_, rfl, ?_⟩
      rw [eu.done (eu.last (by decide))]
      exact q
theorem d_stream (F : FnP K "_law_stream" "_law_stream" sStream [] f fd) (T : TT mg) : FnOk P w K mg base CX0 1 f fd ["script", "k"] (spD K 2 mStream) := (ok_stream F T).imp fun _ _ _ _ z => sp_stream z
theorem d_draw (F : FnP K "_law_draw" "_law_draw" sDraw [] f fd) (T : TT mg) : FnOk P w K mg base CX0 1 f fd ["stream", "many"] (spD K 2 mDraw) := (ok_draw F T).imp fun _ _ _ _ z => sp_draw z
theorem d_common (F : FnP K "_law_common" "_law_common" sCommon [] f fd) (T : TT mg) : FnOk P w K mg base CX0 1 f fd ["one", "rest"] (spD K 2 mCommon) := (ok_common F T).imp fun _ _ _ _ z => sp_common z
end
end DW

set_option Elab.async false
set_option linter.all false
set_option maxRecDepth 100000
set_option maxHeartbeats 1000000
namespace DL
open PySem L2 He DX DW
section
variable {P : Program} {w : World} {K : PySem.W.Frag} {mg : Str → Option Value} {base : Heap} {f : Addr} {fd : FuncData}
abbrev errNames : List String := ["ToldError", "NoRatio", "NoGrid", "NoWish", "NoAxis", "NoQuestion", "NoAmounts", "OtherGrid"]
abbrev s_NoRatio_x___init__ : Stmt := inClass (DW.top 4) 0
abbrev s_NoGrid_x___init__ : Stmt := inClass (DW.top 5) 0
abbrev s_NoQuestion_x___init__ : Stmt := inClass (DW.top 8) 0
abbrev s_NoWish_x___init__ : Stmt := inClass (DW.top 6) 0
abbrev s_is_integer : Stmt := DW.top 17
def m_is_integer : MS :=
      (sRet (eAnd (eUn (fIsB ["int"]) (eVar 0)) (eNot (eUn (fIsB ["bool"]) (eVar 0)))))
def f_is_integer : MF := mDef0 1 m_is_integer
abbrev s_is_sequence : Stmt := DW.top 18
def m_is_sequence : MS :=
      (sRet (eUn (fIsB ["list", "tuple"]) (eVar 0)))
def f_is_sequence : MF := mDef0 1 m_is_sequence
abbrev s_is_pair : Stmt := DW.top 19
def m_is_pair : MS :=
      (sRet (eAnd (eCall0 f_is_sequence (aCons (eVar 0) aNil)) (eOp (fEq false) (eN fLen (aCons (eVar 0) aNil)) (eC (.int 2)))))
def f_is_pair : MF := mDef0 1 m_is_pair
abbrev s_is_word : Stmt := DW.top 20
def m_is_word : MS :=
      (sSeq (sIf (tNotD (tBl (eChain fLe fLe (eC (.int 1)) (eN fLenS (aCons (eVar 0) aNil)) (eC (.int 8))))) 
        (sRet (eC (.bl false))) sNext) 
      (sRet (eAnd (eOp (fInS false) (eOp fIxS (eVar 0) (eC (.int 0))) (eC (.str "abcdefghijklmnopqrstuvwxyz"))) (eN fAll (aCons (eLc (itStr (eVar 0)) (gSet 1) tYesD (eOr (eOp (fInS false) (eVar 1) (eC (.str "abcdefghijklmnopqrstuvwxyz"))) (eOp (fInS false) (eVar 1) (eC (.str "0123456789")))) [1]) aNil)))))
def f_is_word : MF := mDef0 2 m_is_word
abbrev s_is_name : Stmt := DW.top 21
def m_is_name : MS :=
      (sRet (eAnd (eUn (fIsB ["str"]) (eVar 0)) (eAnd (eCall0 f_is_word (aCons (eVar 0) aNil)) (eOp (fInT true) (eVar 0) (eC (.tup ((["sum", "each"] : List Str).map D.str)))))))
def f_is_name : MF := mDef0 1 m_is_name
abbrev s_are_names : Stmt := DW.top 22
def m_are_names : MS :=
      (sRet (eAnd (eCall0 f_is_sequence (aCons (eVar 0) aNil)) (eAnd (eOp fGt (eN fLen (aCons (eVar 0) aNil)) (eC (.int 0))) (eN fAll (aCons (eLc (itQ (eVar 0)) (gSet 1) tYesD (eCall0 f_is_name (aCons (eVar 1) aNil)) [1]) aNil)))))
def f_are_names : MF := mDef0 2 m_are_names
abbrev s_are_unlike_names : Stmt := DW.top 23
def m_are_unlike_names : MS :=
      (sRet (eAnd (eCall0 f_are_names (aCons (eVar 0) aNil)) (eOp (fEq false) (eLenSet (eVar 0)) (eN fLen (aCons (eVar 0) aNil)))))
def f_are_unlike_names : MF := mDef0 1 m_are_unlike_names
abbrev s_is_figure : Stmt := DW.top 24
def m_is_figure : MS :=
      (sSeq (sIf (tNotD (tBl (eChain fLe fLe (eC (.int 1)) (eN fLenS (aCons (eVar 0) aNil)) (eC (.int 60))))) 
        (sRet (eC (.bl false))) sNext) 
      (sRet (eAnd (eN fAll (aCons (eLc (itStr (eVar 0)) (gSet 1) tYesD (eOp (fInS false) (eVar 1) (eC (.str "0123456789"))) [1]) aNil)) (eOr (eOp (fEq false) (eVar 0) (eC (.str "0"))) (eOp (fEq true) (eOp fIxS (eVar 0) (eC (.int 0))) (eC (.str "0")))))))
def f_is_figure : MF := mDef0 2 m_is_figure
abbrev s_are_pairs_of_axes : Stmt := DW.top 30
def m_are_pairs_of_axes : MS :=
      (sRet (eAnd (eCall0 f_is_sequence (aCons (eVar 0) aNil)) (eAnd (eChain fLe fLe (eC (.int 1)) (eN fLen (aCons (eVar 0) aNil)) (eC (.int 3))) (eN fAll (aCons (eLc (itQ (eVar 0)) (gSet 1) tYesD (eCall0 f_is_pair (aCons (eVar 1) aNil)) [1]) aNil)))))
def f_are_pairs_of_axes : MF := mDef0 2 m_are_pairs_of_axes
abbrev s_are_members : Stmt := DW.top 31
def m_are_members : MS :=
      (sRet (eAnd (eCall0 f_are_unlike_names (aCons (eVar 0) aNil)) (eOp fLe (eN fLen (aCons (eVar 0) aNil)) (eC (.int 4)))))
def f_are_members : MF := mDef0 1 m_are_members
abbrev s_place_of_axis : Stmt := DW.top 33
def m_place_of_axis : MS :=
      (sSeq (sFor (itEnumerate (aCons (eUn (mFld "axes") (eVar 0)) aNil)) (gSets [2, 3]) 
        (sIf (tBl (eOp (fEqS false) (eOp (fIx Rv.asT) (eVar 3) (eC (.int 0))) (eVar 1))) 
          (sRet (eVar 2)) sNext)) 
      (sRet (eC .non)))
def f_place_of_axis : MF := mDef0 4 m_place_of_axis
abbrev s_are_members_among : Stmt := DW.top 36
def m_are_members_among : MS :=
      (sRet (eAnd (eCall0 f_are_names (aCons (eVar 0) aNil)) (eN fAll (aCons (eLc (itQ (eVar 0)) (gSet 2) tYesD (eOp (fInT false) (eVar 2) (eVar 1)) [2]) aNil))))
def f_are_members_among : MF := mDef0 3 m_are_members_among
abbrev s_Ratio_x___init__ : Stmt := inClass (DW.top 39) 0
def m_Ratio_x___init__ : MS :=
      (sSeq (sIf (tNotD (tBl (eCall0 f_is_integer (aCons (eVar 1) aNil)))) 
        (sRaise "NoRatio" ["word"] (aCons (eC (.str "top")) aNil)) sNext) 
      (sSeq (sIf (tNotD (tBl (eCall0 f_is_integer (aCons (eVar 2) aNil)))) 
        (sRaise "NoRatio" ["word"] (aCons (eC (.str "bottom")) aNil)) sNext) 
      (sSeq (sIf (tBl (eOp (fEq false) (eVar 2) (eC (.int 0)))) 
        (sRaise "NoRatio" ["word"] (aCons (eC (.str "zero")) aNil)) sNext) 
      (sSeq (sSetD 3 (eIf (tBl (eOp fGt (eVar 2) (eC (.int 0)))) (eN f_gcd (aCons (eVar 1) (aCons (eVar 2) aNil))) (eUn fNeg (eN f_gcd (aCons (eVar 1) (aCons (eVar 2) aNil)))))) 
      (sSeq (sFldD 0 "top" (eOp fDivX (eVar 1) (eVar 3))) 
      (sFldD 0 "bottom" (eOp fDivX (eVar 2) (eVar 3))))))))
def f_Ratio_x___init__ : MFI := mInit "Ratio" 4 m_Ratio_x___init__
abbrev s_is_number : Stmt := DW.top 40
def m_is_number : MS :=
      (sRet (eOr (eUn (fIsC "Ratio") (eVar 0)) (eCall0 f_is_integer (aCons (eVar 0) aNil))))
def f_is_number : MF := mDef0 1 m_is_number
abbrev s_as_ratio : Stmt := DW.top 41
def m_as_ratio : MS :=
      (sRet (eIf (tBl (eUn (fIsC "Ratio") (eVar 0))) (eVar 0) (eN (fMake "Ratio" f_Ratio_x___init__ [.int 1]) (aCons (eVar 0) aNil))))
def f_as_ratio : MF := mDef 1 m_as_ratio
abbrev s_sign_of_difference : Stmt := DW.top 42
def m_sign_of_difference : MS :=
      (sSeq (sSetD 2 (eN (fCall f_as_ratio) (aCons (eVar 0) aNil))) 
      (sSeq (sSetD 3 (eN (fCall f_as_ratio) (aCons (eVar 1) aNil))) 
      (sRet (eOp fSub (eOp fMul (eUn (mFld "top") (eVar 2)) (eUn (mFld "bottom") (eVar 3))) (eOp fMul (eUn (mFld "top") (eVar 3)) (eUn (mFld "bottom") (eVar 2)))))))
def f_sign_of_difference : MF := mDef 4 m_sign_of_difference
abbrev s_Ratio_x___neg__ : Stmt := inClass (DW.top 39) 7
def m_Ratio_x___neg__ : MS :=
      (sRet (eN (fMake "Ratio" f_Ratio_x___init__ []) (aCons (eUn fNeg (eUn (mFld "top") (eVar 0))) (aCons (eUn (mFld "bottom") (eVar 0)) aNil))))
def f_Ratio_x___neg__ : MF := mDef 1 m_Ratio_x___neg__
abbrev s_Ratio_x___abs__ : Stmt := inClass (DW.top 39) 8
def m_Ratio_x___abs__ : MS :=
      (sRet (eN (fMake "Ratio" f_Ratio_x___init__ []) (aCons (eN fAbs (aCons (eUn (mFld "top") (eVar 0)) aNil)) (aCons (eUn (mFld "bottom") (eVar 0)) aNil))))
def f_Ratio_x___abs__ : MF := mDef 1 m_Ratio_x___abs__
abbrev s_Ratio_x_over : Stmt := inClass (DW.top 39) 9
def m_Ratio_x_over : MS :=
      (sSeq (sSetD 2 (eN (fCall f_as_ratio) (aCons (eVar 1) aNil))) 
      (sRet (eN (fMake "Ratio" f_Ratio_x___init__ []) (aCons (eOp fMul (eUn (mFld "top") (eVar 0)) (eUn (mFld "bottom") (eVar 2))) (aCons (eOp fMul (eUn (mFld "bottom") (eVar 0)) (eUn (mFld "top") (eVar 2))) aNil)))))
def f_Ratio_x_over : MF := mDef 3 m_Ratio_x_over
abbrev s_Ratio_x___eq__ : Stmt := inClass (DW.top 39) 10
def m_Ratio_x___eq__ : MS :=
      (sSeq (sIf (tBl (eUn (fIsC "Ratio") (eVar 1))) 
        (sRet (eAnd (eOp (fEq false) (eUn (mFld "top") (eVar 0)) (eUn (mFld "top") (eVar 1))) (eOp (fEq false) (eUn (mFld "bottom") (eVar 0)) (eUn (mFld "bottom") (eVar 1))))) sNext) 
      (sRet (eAnd (eCall0 f_is_integer (aCons (eVar 1) aNil)) (eAnd (eOp (fEq false) (eUn (mFld "bottom") (eVar 0)) (eC (.int 1))) (eOp (fEq false) (eUn (mFld "top") (eVar 0)) (eVar 1))))))
def f_Ratio_x___eq__ : MF := mDef0 2 m_Ratio_x___eq__
abbrev s_over_one : Stmt := DW.top 44
def m_over_one : MS :=
      (sSeq (sSetD 1 (eC (.int 1))) 
      (sSeq (sFor (itQ (eVar 0)) (gSet 2) 
        (sSetD 1 (eN f_lcm (aCons (eVar 1) (aCons (eUn (mFld "bottom") (eVar 2)) aNil))))) 
      (sRet (eTup (aCons (eLc (itQ (eVar 0)) (gSet 2) tYesD (eOp fMul (eUn (mFld "top") (eVar 2)) (eOp fDivX (eVar 1) (eUn (mFld "bottom") (eVar 2)))) [2]) (aCons (eVar 1) aNil))))))
def f_over_one : MF := mDef0 3 m_over_one
abbrev s_dot : Stmt := DW.top 45
def m_dot : MS :=
      (sRet (eN fSum (aCons (eLc (itZip (aCons (eVar 0) (aCons (eVar 1) aNil))) (gSets [2, 3]) tYesD (eOp fMul (eVar 2) (eVar 3)) [2, 3]) aNil)))
def f_dot : MF := mDef0 4 m_dot
abbrev s_sum_of_products : Stmt := DW.top 46
def m_sum_of_products : MS :=
      (sSeq (sAsg (eCall0 f_over_one (aCons (eVar 0) aNil)) (gSets [2, 3])) 
      (sSeq (sAsg (eCall0 f_over_one (aCons (eVar 1) aNil)) (gSets [4, 5])) 
      (sRet (eN (fMake "Ratio" f_Ratio_x___init__ []) (aCons (eCall0 f_dot (aCons (eVar 2) (aCons (eVar 4) aNil))) (aCons (eOp fMul (eVar 3) (eVar 5)) aNil))))))
def f_sum_of_products : MF := mDef 6 m_sum_of_products
abbrev s_are_amounts : Stmt := DW.top 49
def m_are_amounts : MS :=
      (sSeq (sIf (tOrD (tNotD (tBl (eCall0 f_is_sequence (aCons (eVar 1) aNil)))) (tBl (eOp (fEq true) (eN fLen (aCons (eVar 1) aNil)) (eUn (mFld "size") (eVar 0))))) 
        (sRet (eC (.bl false))) sNext) 
      (sRet (eN fAll (aCons (eLc (itQ (eVar 1)) (gSet 2) tYesD (eCall0 f_is_number (aCons (eVar 2) aNil)) [2]) aNil))))
def f_are_amounts : MF := mDef0 3 m_are_amounts
abbrev s_Grid_x___eq__ : Stmt := inClass (DW.top 29) 1
def m_Grid_x___eq__ : MS :=
      (sRet (eAnd (eUn (fIsC "Grid") (eVar 1)) (eOp (fEqD false) (eUn (mFld "axes") (eVar 0)) (eUn (mFld "axes") (eVar 1)))))
def f_Grid_x___eq__ : MF := mDef0 2 m_Grid_x___eq__
abbrev s_cells_of : Stmt := DW.top 32
def m_cells_of : MS :=
      (sSeq (sSetO 1 (eLst (aCons (eTup aNil) aNil))) 
      (sSeq (sFor (itT (eVar 0)) (gSets [2, 3]) 
        (sFree 1 (sSetD 1 (eLc2 (itS (eVar 1)) (gSet 4) tYesD (itT (eVar 3)) (gSet 5) tYesD (eStar (eVar 4) (aCons (eVar 5) aNil)) [4, 5] [5])))) 
      (sRet (eN fTuple (aCons (eVar 1) aNil)))))
def f_cells_of : MF := mDef0 6 m_cells_of
abbrev s_wanted_members : Stmt := DW.top 35
def m_wanted_members : MS :=
      (sSeq (sIf (tNotD (tBl (eCall0 f_is_sequence (aCons (eVar 1) aNil)))) 
        (sRaise "NoWish" ["place", "word"] (aCons (eUn fNeg (eC (.int 1))) (aCons (eC (.str "wish")) aNil))) sNext) 
      (sSeq (sDNew 3) 
      (sSeq (sFor (itEnumerate (aCons (eVar 1) aNil)) (gSets [4, 5]) 
        (sSeq (sIf (tNotD (tBl (eCall0 f_is_pair (aCons (eVar 5) aNil)))) 
          (sRaise "NoWish" ["place", "word"] (aCons (eVar 4) (aCons (eC (.str "pair")) aNil))) sNext) 
        (sSeq (sAsg (eVar 5) (gRow [(gSet 6), (gSet 7)])) 
        (sSeq (sSetD 8 (eCall0 f_place_of_axis (aCons (eVar 0) (aCons (eVar 6) aNil)))) 
        (sSeq (sIf (tOrD (tBl (eIsN (eVar 8))) (tOrD (tBl (eOp (fInT false) (eVar 6) (eVar 2))) (tBl (eDIn false (eVar 6) (dOwn 3))))) 
          (sRaise "NoWish" ["place", "word"] (aCons (eVar 4) (aCons (eC (.str "axis")) aNil))) sNext) 
        (sSeq (sIf (tNotD (tBl (eCall0 f_are_members_among (aCons (eVar 7) (aCons (eOp (fIx Rv.asT) (eOp (fIx Rv.asT) (eUn (mFld "axes") (eVar 0)) (eVar 8)) (eC (.int 1))) aNil))))) 
          (sRaise "NoWish" ["place", "word"] (aCons (eVar 4) (aCons (eC (.str "members")) aNil))) sNext) 
        (sDPutD 3 (eVar 6) (eN fTuple (aCons (eVar 7) aNil))))))))) 
      (sRetDct 3))))
def f_wanted_members : MF := mDef 9 m_wanted_members
abbrev s_is_wanted : Stmt := DW.top 37
def m_is_wanted : MS :=
      (sSeq (sFor (itZip (aCons (eUn (mFld "axes") (eVar 0)) (aCons (eVar 1) aNil))) (gTupN [(gTupN [(gSet 3), (gSet 4)]), (gSet 5)]) 
        (sIf (tAndD (tBl (eDIn false (eVar 3) (dVal (eVar 2)))) (tBl (eOp (fIn true) (eVar 5) (eDGet (dVal (eVar 2)) (eVar 3))))) 
          (sRet (eC (.bl false))) sNext)) 
      (sRet (eC (.bl true))))
def f_is_wanted : MF := mDef0 6 m_is_wanted
abbrev s_Ratio_x___add__ : Stmt := inClass (DW.top 39) 1
def m_Ratio_x___add__ : MS :=
      (sSeq (sIf (tNotD (tBl (eCall0 f_is_number (aCons (eVar 1) aNil)))) sNever sNext) 
      (sSeq (sSetD 2 (eN (fCall f_as_ratio) (aCons (eVar 1) aNil))) 
      (sRet (eN (fMake "Ratio" f_Ratio_x___init__ []) (aCons (eOp fAdd (eOp fMul (eUn (mFld "top") (eVar 0)) (eUn (mFld "bottom") (eVar 2))) (eOp fMul (eUn (mFld "top") (eVar 2)) (eUn (mFld "bottom") (eVar 0)))) (aCons (eOp fMul (eUn (mFld "bottom") (eVar 0)) (eUn (mFld "bottom") (eVar 2))) aNil))))))
def f_Ratio_x___add__ : MF := mDef 3 m_Ratio_x___add__
abbrev s_Ratio_x___sub__ : Stmt := inClass (DW.top 39) 3
def m_Ratio_x___sub__ : MS :=
      (sSeq (sIf (tNotD (tBl (eCall0 f_is_number (aCons (eVar 1) aNil)))) sNever sNext) 
      (sSeq (sSetD 2 (eN (fCall f_as_ratio) (aCons (eVar 1) aNil))) 
      (sRet (eN (fMake "Ratio" f_Ratio_x___init__ []) (aCons (eOp fSub (eOp fMul (eUn (mFld "top") (eVar 0)) (eUn (mFld "bottom") (eVar 2))) (eOp fMul (eUn (mFld "top") (eVar 2)) (eUn (mFld "bottom") (eVar 0)))) (aCons (eOp fMul (eUn (mFld "bottom") (eVar 0)) (eUn (mFld "bottom") (eVar 2))) aNil))))))
def f_Ratio_x___sub__ : MF := mDef 3 m_Ratio_x___sub__
abbrev s_Ratio_x___mul__ : Stmt := inClass (DW.top 39) 5
def m_Ratio_x___mul__ : MS :=
      (sSeq (sIf (tNotD (tBl (eCall0 f_is_number (aCons (eVar 1) aNil)))) sNever sNext) 
      (sSeq (sSetD 2 (eN (fCall f_as_ratio) (aCons (eVar 1) aNil))) 
      (sRet (eN (fMake "Ratio" f_Ratio_x___init__ []) (aCons (eOp fMul (eUn (mFld "top") (eVar 0)) (eUn (mFld "top") (eVar 2))) (aCons (eOp fMul (eUn (mFld "bottom") (eVar 0)) (eUn (mFld "bottom") (eVar 2))) aNil))))))
def f_Ratio_x___mul__ : MF := mDef 3 m_Ratio_x___mul__
abbrev s_Question_x___eq__ : Stmt := inClass (DW.top 48) 1
def m_Question_x___eq__ : MS :=
      (sRet (eAnd (eUn (fIsC "Question") (eVar 1)) (eAnd (eOp (fun x y Q _ => fCmpO "Grid" f_Grid_x___eq__ x y Q fun _ => False) (eUn (mFld "grid") (eVar 0)) (eUn (mFld "grid") (eVar 1))) (eOp (fEqTup "Ratio" f_Ratio_x___eq__) (eUn (mFld "weights") (eVar 0)) (eUn (mFld "weights") (eVar 1))))))
def f_Question_x___eq__ : MF := mDef0 2 m_Question_x___eq__
abbrev s_Question_x___init__ : Stmt := inClass (DW.top 48) 0
def m_Question_x___init__ : MS :=
      (sSeq (sIf (tNotD (tBl (eUn (fIsC "Grid") (eVar 1)))) 
        (sRaise "NoQuestion" ["word"] (aCons (eC (.str "grid")) aNil)) sNext) 
      (sSeq (sIf (tNotD (tBl (eCall0 f_are_amounts (aCons (eVar 1) (aCons (eVar 2) aNil))))) 
        (sRaise "NoQuestion" ["word"] (aCons (eC (.str "weights")) aNil)) sNext) 
      (sSeq (sFldD 0 "grid" (eVar 1)) 
      (sFldD 0 "weights" (eN fTuple (aCons (eLc (itQ (eVar 2)) (gSet 3) tYesD (eCall0 f_as_ratio (aCons (eVar 3) aNil)) [3]) aNil))))))
def f_Question_x___init__ : MFI := mInit "Question" 4 m_Question_x___init__
abbrev s_Question_x___neg__ : Stmt := inClass (DW.top 48) 4
def m_Question_x___neg__ : MS :=
      (sRet (eN (fMake "Question" f_Question_x___init__ []) (aCons (eUn (mFld "grid") (eVar 0)) (aCons (eLc (itT (eUn (mFld "weights") (eVar 0))) (gSet 1) tYesD (eUn (fun x Q _ => fUnO "Ratio" f_Ratio_x___neg__ x Q fun _ => False) (eVar 1)) [1]) aNil))))
def f_Question_x___neg__ : MF := mDef 2 m_Question_x___neg__
abbrev s_Question_x_at : Stmt := inClass (DW.top 48) 8
def m_Question_x_at : MS :=
      (sSeq (sIf (tNotD (tBl (eCall0 f_are_amounts (aCons (eUn (mFld "grid") (eVar 0)) (aCons (eVar 1) aNil))))) 
        (sRaise0 "NoAmounts") sNext) 
      (sRet (eN (fCall f_sum_of_products) (aCons (eUn (mFld "weights") (eVar 0)) (aCons (eLc (itQ (eVar 1)) (gSet 2) tYesD (eCall0 f_as_ratio (aCons (eVar 2) aNil)) [2]) aNil)))))
def f_Question_x_at : MF := mDef 3 m_Question_x_at
abbrev s_Question_x_is_nothing : Stmt := inClass (DW.top 48) 9
def m_Question_x_is_nothing : MS :=
      (sRet (eN fAll (aCons (eLc (itT (eUn (mFld "weights") (eVar 0))) (gSet 1) tYesD (eOp (fun x y Q _ => fCmpO "Ratio" f_Ratio_x___eq__ x y Q fun _ => False) (eVar 1) (eC (.int 0))) [1]) aNil)))
def f_Question_x_is_nothing : MF := mDef0 2 m_Question_x_is_nothing
abbrev s_sum_over : Stmt := DW.top 53
def m_sum_over : MS :=
      (sRet (eN (fMake "Question" f_Question_x___init__ []) (aCons (eVar 0) (aCons (eLc (itR1 (aCons (eUn (mFld "size") (eVar 0)) aNil)) (gSet 2) tYesD (eIf (tBl (eOp (fIn false) (eVar 2) (eVar 1))) (eC (.int 1)) (eC (.int 0))) [2]) aNil))))
def f_sum_over : MF := mDef 3 m_sum_over
abbrev s__law_is_integer : Stmt := DW.top 55
def m__law_is_integer : MS :=
      (sRet (eAnd (eUn (fIsB ["int"]) (eVar 0)) (eNot (eUn (fIsB ["bool"]) (eVar 0)))))
def f__law_is_integer : MF := mDef0 1 m__law_is_integer
abbrev s__law_frac : Stmt := DW.top 59
def m__law_frac : MS :=
      (sSeq (sSetD 2 (eCall0 mCommon (aCons (eN fAbs (aCons (eVar 0) aNil)) (aCons (eN fAbs (aCons (eVar 1) aNil)) aNil)))) 
      (sSeq (sIf (tBl (eOp fLt (eVar 1) (eC (.int 0)))) 
        (sSetD 2 (eUn fNeg (eVar 2))) sNext) 
      (sRet (eTup (aCons (eOp fDivX (eVar 0) (eVar 2)) (aCons (eOp fDivX (eVar 1) (eVar 2)) aNil))))))
def f__law_frac : MF := mDef0 3 m__law_frac
abbrev s__law_plus : Stmt := DW.top 60
def m__law_plus : MS :=
      (sRet (eCall0 f__law_frac (aCons (eOp fAdd (eOp fMul (eOp (fIx Rv.asT) (eVar 0) (eC (.int 0))) (eOp (fIx Rv.asT) (eVar 1) (eC (.int 1)))) (eOp fMul (eOp (fIx Rv.asT) (eVar 1) (eC (.int 0))) (eOp (fIx Rv.asT) (eVar 0) (eC (.int 1))))) (aCons (eOp fMul (eOp (fIx Rv.asT) (eVar 0) (eC (.int 1))) (eOp (fIx Rv.asT) (eVar 1) (eC (.int 1)))) aNil))))
def f__law_plus : MF := mDef0 2 m__law_plus
abbrev s__law_by : Stmt := DW.top 61
def m__law_by : MS :=
      (sRet (eCall0 f__law_frac (aCons (eOp fMul (eOp (fIx Rv.asT) (eVar 0) (eC (.int 0))) (eOp (fIx Rv.asT) (eVar 1) (eC (.int 0)))) (aCons (eOp fMul (eOp (fIx Rv.asT) (eVar 0) (eC (.int 1))) (eOp (fIx Rv.asT) (eVar 1) (eC (.int 1)))) aNil))))
def f__law_by : MF := mDef0 2 m__law_by
abbrev s__law_is : Stmt := DW.top 62
def m__law_is : MS :=
      (sSeq (sIf (tOrD (tNotD (tBl (eUn (fIsC "Ratio") (eVar 0)))) (tOrD (tNotD (tBl (eCall0 f__law_is_integer (aCons (eUn (mFld "top") (eVar 0)) aNil)))) (tNotD (tBl (eCall0 f__law_is_integer (aCons (eUn (mFld "bottom") (eVar 0)) aNil)))))) 
        (sRet (eC (.bl false))) sNext) 
      (sRet (eAnd (eOp (fEq false) (eUn (mFld "top") (eVar 0)) (eOp (fIx Rv.asT) (eVar 1) (eC (.int 0)))) (eOp (fEq false) (eUn (mFld "bottom") (eVar 0)) (eOp (fIx Rv.asT) (eVar 1) (eC (.int 1)))))))
def f__law_is : MF := mDef0 2 m__law_is
abbrev s__law_number : Stmt := DW.top 63
def m__law_number : MS :=
      (sSeq (sSetD 1 (eOp (fIx Rv.asL) (eLst (aCons (eC (.int 5)) (aCons (eC (.int 5)) (aCons (eC (.int 5)) (aCons (eC (.int 30)) (aCons (eOp fPow (eC (.int 10)) (eC (.int 12))) aNil)))))) (eCall0 mDraw (aCons (eVar 0) (aCons (eC (.int 5)) aNil))))) 
      (sSeq (sSetD 2 (eOp fSub (eCall0 mDraw (aCons (eVar 0) (aCons (eOp fAdd (eOp fMul (eC (.int 2)) (eVar 1)) (eC (.int 1))) aNil))) (eVar 1))) 
      (sSeq (sSetD 3 (eOp fAdd (eC (.int 1)) (eCall0 mDraw (aCons (eVar 0) (aCons (eOp (fIx Rv.asL) (eLst (aCons (eC (.int 1)) (aCons (eC (.int 1)) (aCons (eC (.int 4)) (aCons (eC (.int 12)) aNil))))) (eCall0 mDraw (aCons (eVar 0) (aCons (eC (.int 4)) aNil)))) aNil))))) 
      (sRet (eCall0 f__law_frac (aCons (eVar 2) (aCons (eVar 3) aNil)))))))
def f__law_number : MF := mDef0 4 m__law_number
abbrev s__law_names : Stmt := DW.top 64
def m__law_names : MS :=
      (sSeq (sSetD 2 (eC (.str "abcdefghijklmnopqrstuvwxyz"))) 
      (sSeq (sSetO 3 (eLst aNil)) 
      (sSeq (sFor (itR1 (aCons (eVar 1) aNil)) (gSet 4) 
        (sSeq (sSetD 5 (eOp fIxS (eVar 2) (eCall0 mDraw (aCons (eVar 0) (aCons (eC (.int 26)) aNil))))) 
        (sSeq (sFor (itR1 (aCons (eCall0 mDraw (aCons (eVar 0) (aCons (eOp (fIx Rv.asL) (eLst (aCons (eC (.int 1)) (aCons (eC (.int 3)) (aCons (eC (.int 8)) aNil)))) (eCall0 mDraw (aCons (eVar 0) (aCons (eC (.int 3)) aNil)))) aNil))) aNil)) (gSet 6) 
          (sSetD 5 (eOp fAddS (eVar 5) (eOp fIxS (eOp fAddS (eVar 2) (eC (.str "0123456789"))) (eCall0 mDraw (aCons (eVar 0) (aCons (eC (.int 36)) aNil))))))) 
        (sSeq (sFor (itStr (eVar 2)) (gSet 7) 
          (sIf (tAndD (tOrD (tBl (eOp (fIn false) (eVar 5) (eVar 3))) (tBl (eOp (fIn false) (eVar 5) (eLst (aCons (eC (.str "sum")) (aCons (eC (.str "each")) aNil)))))) (tBl (eOp (fIn true) (eVar 7) (eVar 3)))) 
            (sSetD 5 (eVar 7)) sNext)) 
        (sApp 3 (eVar 5)))))) 
      (sRetO 3))))
def f__law_names : MF := mDef0 8 m__law_names
abbrev s__law_axes : Stmt := DW.top 65
def m__law_axes : MS :=
      (sSeq (sSetD 1 (eOp fAdd (eC (.int 1)) (eCall0 mDraw (aCons (eVar 0) (aCons (eC (.int 3)) aNil))))) 
      (sSeq (sSetD 2 (eC (.int 8))) 
      (sSeq (sSetO 3 (eLst aNil)) 
      (sSeq (sFor (itS (eCall0 f__law_names (aCons (eVar 0) (aCons (eVar 1) aNil)))) (gSet 4) 
        (sSeq (sSetD 5 (eOp fAdd (eC (.int 1)) (eCall0 mDraw (aCons (eVar 0) (aCons (eN fMin (aCons (eC (.int 4)) (aCons (eVar 2) aNil))) aNil))))) 
        (sSeq (sSetD 2 (eOp fDivX (eVar 2) (eVar 5))) 
        (sApp 3 (eTup (aCons (eVar 4) (aCons (eN fTuple (aCons (eCall0 f__law_names (aCons (eVar 0) (aCons (eVar 5) aNil))) aNil)) aNil))))))) 
      (sRet (eN fTuple (aCons (eVar 3) aNil)))))))
def f__law_axes : MF := mDef0 6 m__law_axes
abbrev s__law_cells : Stmt := DW.top 66
def m__law_cells : MS :=
      (sSeq (sSetO 1 (eLst (aCons (eTup aNil) aNil))) 
      (sSeq (sFor (itT (eVar 0)) (gSet 2) 
        (sSeq (sSetO 3 (eLst aNil)) 
        (sSeq (sFor (itS (eN fList (aCons (eVar 1) aNil))) (gSet 4) 
          (sFor (itT (eOp (fIx Rv.asT) (eVar 2) (eC (.int 1)))) (gSet 5) 
            (sApp 3 (eOp fCatA (eVar 4) (eTup (aCons (eVar 5) aNil)))))) 
        (sSetO 1 (eN fList (aCons (eVar 3) aNil)))))) 
      (sRetO 1)))
def f__law_cells : MF := mDef0 6 m__law_cells
abbrev s__law_wish : Stmt := DW.top 67
def m__law_wish : MS :=
      (sSeq (sSetO 2 (eLst aNil)) 
      (sSeq (sSetO 3 (eN fList (aCons (eVar 1) aNil))) 
      (sSeq (sIf (tBl (eOp (fEq false) (eCall0 mDraw (aCons (eVar 0) (aCons (eC (.int 2)) aNil))) (eC (.int 0)))) 
        (sRev 3) sNext) (sFree 3 
      (sSeq (sFor (itS (eVar 3)) (gSets [4, 5]) 
        (sIf (tBl (eOp (fEq false) (eCall0 mDraw (aCons (eVar 0) (aCons (eC (.int 2)) aNil))) (eC (.int 0)))) 
          (sSeq (sSetO 6 (eLc (itT (eVar 5)) (gSet 7) (tBl (eOp (fEq false) (eCall0 mDraw (aCons (eVar 0) (aCons (eC (.int 2)) aNil))) (eC (.int 0)))) (eVar 7) [7])) 
          (sSeq (sIf (tBl (eOp (fEqD false) (eVar 6) (eLst aNil))) 
            (sSetO 6 (eOp fRep (eLst (aCons (eOp (fIx Rv.asT) (eVar 5) (eCall0 mDraw (aCons (eVar 0) (aCons (eN fLen (aCons (eVar 5) aNil)) aNil)))) aNil)) (eOp fAdd (eC (.int 1)) (eCall0 mDraw (aCons (eVar 0) (aCons (eC (.int 2)) aNil)))))) sNext) 
          (sSeq (sIf (tBl (eOp (fEq false) (eCall0 mDraw (aCons (eVar 0) (aCons (eC (.int 2)) aNil))) (eC (.int 0)))) 
            (sRev 6) sNext) 
          (sApp 2 (eTup (aCons (eVar 4) (aCons (eN fTuple (aCons (eVar 6) aNil)) aNil))))))) sNext)) 
      (sRet (eN fTuple (aCons (eVar 2) aNil))))))))
def f__law_wish : MF := mDef0 8 m__law_wish
abbrev s__law_region : Stmt := DW.top 68
def m__law_region : MS :=
      (sSeq (sSetO 2 (eCall0 f__law_cells (aCons (eVar 0) aNil))) 
      (sSeq (sSetO 3 (eLc (itT (eVar 0)) (gSet 9) tYesD (eOp (fIx Rv.asT) (eVar 9) (eC (.int 0))) [9])) 
      (sSeq (sSetO 4 (eLst aNil)) 
      (sSeq (sFor (itR1 (aCons (eN fLen (aCons (eVar 2) aNil)) aNil)) (gSet 5) 
        (sSeq (sSetD 6 (eC (.bl true))) 
        (sSeq (sFor (itT (eVar 1)) (gSets [7, 8]) 
          (sIf (tBl (eOp (fIn true) (eOp (fIx Rv.asT) (eOp (fIx Rv.asL) (eVar 2) (eVar 5)) (eIndex (eVar 3) (aCons (eVar 7) aNil))) (eVar 8))) 
            (sSetD 6 (eC (.bl false))) sNext)) 
        (sIf (tBl (eVar 6)) 
          (sApp 4 (eVar 5)) sNext)))) 
      (sRetO 4)))))
def f__law_region : MF := mDef0 10 m__law_region
abbrev s__law_weights : Stmt := DW.top 69
def m__law_weights : MS :=
      (sRet (eLc (itR1 (aCons (eVar 1) aNil)) (gSet 2) tYesD (eCall0 f__law_number (aCons (eVar 0) aNil)) [2]))
def f__law_weights : MF := mDef0 3 m__law_weights
abbrev s__law_at : Stmt := DW.top 70
def m__law_at : MS :=
      (sSeq (sSetD 2 (eTup (aCons (eC (.int 0)) (aCons (eC (.int 1)) aNil)))) 
      (sSeq (sFor (itR1 (aCons (eN fLen (aCons (eVar 0) aNil)) aNil)) (gSet 3) 
        (sSetD 2 (eCall0 f__law_plus (aCons (eVar 2) (aCons (eCall0 f__law_by (aCons (eOp (fIx Rv.asL) (eVar 0) (eVar 3)) (aCons (eOp (fIx Rv.asL) (eVar 1) (eVar 3)) aNil))) aNil))))) 
      (sRet (eVar 2))))
def f__law_at : MF := mDef0 4 m__law_at
abbrev s__law_given : Stmt := DW.top 71
def m__law_given : MS :=
      (sRet (eLc (itS (eVar 0)) (gSet 1) tYesD (eMake0 "Ratio" f_Ratio_x___init__ [] (aCons (eOp (fIx Rv.asT) (eVar 1) (eC (.int 0))) (aCons (eOp (fIx Rv.asT) (eVar 1) (eC (.int 1))) aNil))) [1]))
def f__law_given : MF := mDef0 2 m__law_given
abbrev s__law_asks : Stmt := DW.top 72
def m__law_asks : MS :=
      (sSeq (sIf (tOrD (tNotD (tBl (eUn (fIsC "Question") (eVar 0)))) (tOrD (tBl (eOp (fun x y Q _ => fNeO "Grid" f_Grid_x___eq__ x y Q fun _ => False) (eUn (mFld "grid") (eVar 0)) (eVar 1))) (tNotD (tBl (eUn (fIsB ["tuple"]) (eUn (mFld "weights") (eVar 0))))))) 
        (sRet (eC (.bl false))) sNext) 
      (sSeq (sIf (tBl (eOp (fEq true) (eN fLen (aCons (eUn (mFld "weights") (eVar 0)) aNil)) (eN fLen (aCons (eVar 2) aNil)))) 
        (sRet (eC (.bl false))) sNext) 
      (sRet (eN fAll (aCons (eLc (itR1 (aCons (eN fLen (aCons (eVar 2) aNil)) aNil)) (gSet 3) tYesD (eCall0 f__law_is (aCons (eOp (fIx Rv.asT) (eUn (mFld "weights") (eVar 0)) (eVar 3)) (aCons (eOp (fIx Rv.asL) (eVar 2) (eVar 3)) aNil))) [3]) aNil)))))
def f__law_asks : MF := mDef0 4 m__law_asks
abbrev s__law_ones : Stmt := DW.top 73
def m__law_ones : MS :=
      (sRet (eLc (itR1 (aCons (eVar 0) aNil)) (gSet 2) tYesD (eTup (aCons (eN fInt (aCons (eOp (fIn false) (eVar 2) (eVar 1)) aNil)) (aCons (eC (.int 1)) aNil))) [2]))
def f__law_ones : MF := mDef0 3 m__law_ones
abbrev s_Grid_x___init__ : Stmt := inClass (DW.top 29) 0
def m_Grid_x___init__ : MS :=
      (sSeq (sIf (tNotD (tBl (eCall0 f_are_pairs_of_axes (aCons (eVar 1) aNil)))) 
        (sRaise "NoGrid" ["word"] (aCons (eC (.str "axes")) aNil)) sNext) 
      (sSeq (sIf (tNotD (tBl (eCall0 f_are_unlike_names (aCons (eLc (itQ (eVar 1)) (gSet 4) tYesD (eOp (fIx Rv.asT) (eVar 4) (eC (.int 0))) [4]) aNil)))) 
        (sRaise "NoGrid" ["word"] (aCons (eC (.str "name")) aNil)) sNext) 
      (sSeq (sIf (tNotD (tBl (eN fAll (aCons (eLc (itQ (eVar 1)) (gSet 4) tYesD (eCall0 f_are_members (aCons (eOp (fIx Rv.asT) (eVar 4) (eC (.int 1))) aNil)) [4]) aNil)))) 
        (sRaise "NoGrid" ["word"] (aCons (eC (.str "members")) aNil)) sNext) 
      (sSeq (sFldD 0 "axes" (eN fTuple (aCons (eLc (itQ (eVar 1)) (gRow [(gSet 2), (gSet 3)]) tYesD (eTup (aCons (eVar 2) (aCons (eN fTuple (aCons (eVar 3) aNil)) aNil))) [2, 3]) aNil))) 
      (sSeq (sFldD 0 "cells" (eCall0 f_cells_of (aCons (eFldS 0 "axes") aNil))) 
      (sSeq (sFldD 0 "size" (eN fLen (aCons (eFldS 0 "cells") aNil))) 
      (sIf (tBl (eOp fGt (eFldS 0 "size") (eC (.int 8)))) 
        (sRaise "NoGrid" ["word"] (aCons (eC (.str "cells")) aNil)) sNext)))))))
def f_Grid_x___init__ : MFI := mInit "Grid" 5 m_Grid_x___init__
abbrev s_region_beside : Stmt := DW.top 34
def m_region_beside : MS :=
      (sSeq (sSetD 3 (eN (fCall f_wanted_members) (aCons (eVar 0) (aCons (eVar 1) (aCons (eVar 2) aNil))))) 
      (sRet (eN fTuple (aCons (eLc (itEnumerate (aCons (eUn (mFld "cells") (eVar 0)) aNil)) (gSets [4, 5]) (tBl (eCall0 f_is_wanted (aCons (eVar 0) (aCons (eVar 5) (aCons (eVar 3) aNil))))) (eVar 4) [4, 5]) aNil))))
def f_region_beside : MF := mDef 6 m_region_beside
abbrev s_Grid_x_region : Stmt := inClass (DW.top 29) 3
def m_Grid_x_region : MS :=
      (sRet (eN (fCall f_region_beside) (aCons (eVar 0) (aCons (eVar 1) (aCons (eTup aNil) aNil)))))
def f_Grid_x_region : MF := mDef 2 m_Grid_x_region
abbrev s_Question_x___add__ : Stmt := inClass (DW.top 48) 2
def m_Question_x___add__ : MS :=
      (sSeq (sIf (tNotD (tBl (eUn (fIsC "Question") (eVar 1)))) sNever sNext) 
      (sSeq (sIf (tBl (eOp (fun x y Q _ => fNeO "Grid" f_Grid_x___eq__ x y Q fun _ => False) (eUn (mFld "grid") (eVar 0)) (eUn (mFld "grid") (eVar 1)))) 
        (sRaise0 "OtherGrid") sNext) 
      (sRet (eN (fMake "Question" f_Question_x___init__ []) (aCons (eUn (mFld "grid") (eVar 0)) (aCons (eLc (itZip (aCons (eUn (mFld "weights") (eVar 0)) (aCons (eUn (mFld "weights") (eVar 1)) aNil))) (gSets [2, 3]) tYesD (eOp (fun x y Q _ => fOpS "Ratio" "Ratio" f_Ratio_x___add__ x y Q fun _ => False) (eVar 2) (eVar 3)) [2, 3]) aNil))))))
def f_Question_x___add__ : MF := mDef 4 m_Question_x___add__
abbrev s_Question_x___sub__ : Stmt := inClass (DW.top 48) 3
def m_Question_x___sub__ : MS :=
      (sSeq (sIf (tNotD (tBl (eUn (fIsC "Question") (eVar 1)))) sNever sNext) 
      (sRet (eOp (fOpS "Question" "Question" f_Question_x___add__) (eVar 0) (eUn (fUnO "Question" f_Question_x___neg__) (eVar 1)))))
def f_Question_x___sub__ : MF := mDef 2 m_Question_x___sub__
abbrev s_Question_x_over : Stmt := inClass (DW.top 48) 7
def m_Question_x_over : MS :=
      (sRet (eN (fMake "Question" f_Question_x___init__ []) (aCons (eUn (mFld "grid") (eVar 0)) (aCons (eLc (itT (eUn (mFld "weights") (eVar 0))) (gSet 2) tYesD (eMeth0 "Ratio" "over" f_Ratio_x_over (eVar 2) (aCons (eVar 1) aNil)) [2]) aNil))))
def f_Question_x_over : MF := mDef 3 m_Question_x_over
abbrev s_each_of : Stmt := DW.top 52
def m_each_of : MS :=
      (sSeq (sSetD 3 (eCall0 f_place_of_axis (aCons (eVar 0) (aCons (eVar 1) aNil)))) 
      (sSeq (sIf (tBl (eIsN (eVar 3))) 
        (sRaise0 "NoAxis") sNext) 
      (sSeq (sSetD 4 (eN (fCall f_region_beside) (aCons (eVar 0) (aCons (eVar 2) (aCons (eTup (aCons (eVar 1) aNil)) aNil))))) 
      (sRet (eLc (itT (eOp (fIx Rv.asT) (eOp (fIx Rv.asT) (eUn (mFld "axes") (eVar 0)) (eVar 3)) (eC (.int 1)))) (gSet 5) tYesD (eCall0 f_sum_over (aCons (eVar 0) (aCons (eLc (itT (eVar 4)) (gSet 6) (tBl (eOp (fEq false) (eOp (fIx Rv.asT) (eOp (fIx Rv.asT) (eUn (mFld "cells") (eVar 0)) (eVar 6)) (eVar 3)) (eVar 5))) (eVar 6) [6]) aNil))) [5])))))
def f_each_of : MF := mDef 7 m_each_of
abbrev s_sum_of : Stmt := DW.top 50
def m_sum_of : MS :=
      (sRet (eN (fCall f_sum_over) (aCons (eVar 0) (aCons (eMethX "Grid" "region" f_Grid_x_region (eVar 0) (aCons (eVar 1) aNil)) aNil))))
def f_sum_of : MF := mDef 2 m_sum_of
abbrev s_nothing_of : Stmt := DW.top 51
def m_nothing_of : MS :=
      (sRet (eN (fCall f_sum_over) (aCons (eVar 0) (aCons (eTup aNil) aNil))))
def f_nothing_of : MF := mDef 1 m_nothing_of
abbrev s__law_parted : Stmt := DW.top 74
def m__law_parted : MS :=
      (sSeq (sSetD 3 (eC .non)) 
      (sSeq (sSetD 4 (eC .non)) 
      (sSeq (sSetD 5 (eC (.bl true))) 
      (sSeq (sTryO 3 (eCallS f_each_of (aCons (eVar 0) (aCons (eVar 1) (aCons (eVar 2) aNil)))) (hdAs errNames "NoAxis" 6 (fun a d => 
        (sSeq (sSetD 4 (eC (.str "axis"))) 
        (sSetD 5 (eXup a 6)))) (hdAs errNames "NoWish" 6 (fun a d => 
        (sSeq (sSetD 4 (eTup (aCons (eXf a d 6 "NoWish" "place") (aCons (eXf a d 6 "NoWish" "word") aNil)))) 
        (sSetD 5 (eXup a 6)))) hdNo))) 
      (sRetT (aCons (eVar 3) (aCons (eVar 4) (aCons (eVar 5) aNil))))))))
def f__law_parted : MF := mDef0 7 m__law_parted
abbrev s__law_summed : Stmt := DW.top 75
def m__law_summed : MS :=
      (sSeq (sSetD 2 (eC .non)) 
      (sSeq (sTryE (eCallS f_sum_of (aCons (eVar 0) (aCons (eVar 1) aNil))) (hdAs errNames "NoWish" 3 (fun a d => 
        (sSetD 2 (eTup (aCons (eXf a d 3 "NoWish" "place") (aCons (eXf a d 3 "NoWish" "word") aNil))))) hdNo)) 
      (sRet (eVar 2))))
def f__law_summed : MF := mDef0 4 m__law_summed
abbrev s__law_right : Stmt := DW.top 76
def m__law_right : MS :=
      (sSeq (sSetD 5 (eCall0 f__law_region (aCons (eVar 1) (aCons (eVar 2) aNil)))) 
      (sSeq (sIf (tNotD (tBl (eCall0 f__law_asks (aCons (eCall0 f_sum_of (aCons (eVar 0) (aCons (eVar 2) aNil))) (aCons (eVar 0) (aCons (eCall0 f__law_ones (aCons (eUn (mFld "size") (eVar 0)) (aCons (eVar 5) aNil))) aNil)))))) 
        (sRet (eC (.bl false))) sNext) 
      (sSeq (sAsgT (eCall0 f__law_parted (aCons (eVar 0) (aCons (eOp (fIx Rv.asT) (eVar 3) (eC (.int 0))) (aCons (eVar 2) aNil)))) [6, 7, 8]) 
      (sSeq (sIf (tBl (eOp (fIn false) (eOp (fIx Rv.asT) (eVar 3) (eC (.int 0))) (eLc (itT (eVar 2)) (gSet 12) tYesD (eOp (fIx Rv.asT) (eVar 12) (eC (.int 0))) [12]))) 
        (sRet (eAnd (eOp (fEqD false) (eVar 7) (eTup (aCons (eIndex (eLc (itT (eVar 2)) (gSet 12) tYesD (eOp (fIx Rv.asT) (eVar 12) (eC (.int 0))) [12]) (aCons (eOp (fIx Rv.asT) (eVar 3) (eC (.int 0))) aNil)) (aCons (eC (.str "axis")) aNil)))) (eVar 8))) sNext) 
      (sSeq (sIf (tOrD (tBl (eNotN (eVar 7))) (tOrD (tNotD (tBl (eUn (fIsB ["list"]) (eVar 6)))) (tBl (eOp (fEq true) (eN fLen (aCons (eVar 6) aNil)) (eN fLen (aCons (eOp (fIx Rv.asT) (eVar 3) (eC (.int 1))) aNil)))))) 
        (sRet (eC (.bl false))) sNext) 
      (sSeq (sSetD 9 (eCall0 f_nothing_of (aCons (eVar 0) aNil))) 
      (sSeq (sFor (itR1 (aCons (eN fLen (aCons (eOp (fIx Rv.asT) (eVar 3) (eC (.int 1))) aNil)) aNil)) (gSet 10) 
        (sSeq (sSetD 11 (eLc (itS (eCall0 f__law_region (aCons (eVar 1) (aCons (eTup (aCons (eTup (aCons (eOp (fIx Rv.asT) (eVar 3) (eC (.int 0))) (aCons (eTup (aCons (eOp (fIx Rv.asT) (eOp (fIx Rv.asT) (eVar 3) (eC (.int 1))) (eVar 10)) aNil)) aNil))) aNil)) aNil)))) (gSet 13) (tBl (eOp (fIn false) (eVar 13) (eVar 5))) (eVar 13) [13])) 
        (sSeq (sIf (tNotD (tBl (eCall0 f__law_asks (aCons (eOp (fIx Rv.asL) (eVar 6) (eVar 10)) (aCons (eVar 0) (aCons (eCall0 f__law_ones (aCons (eUn (mFld "size") (eVar 0)) (aCons (eVar 11) aNil))) aNil)))))) 
          (sRet (eC (.bl false))) sNext) 
        (sSeq (sIf (tNotD (tBl (eCall0 f__law_is (aCons (eMeth0 "Question" "at" f_Question_x_at (eOp (fIx Rv.asL) (eVar 6) (eVar 10)) (aCons (eCall0 f__law_given (aCons (eVar 4) aNil)) aNil)) (aCons (eCall0 f__law_at (aCons (eCall0 f__law_ones (aCons (eUn (mFld "size") (eVar 0)) (aCons (eVar 11) aNil))) (aCons (eVar 4) aNil))) aNil))))) 
          (sRet (eC (.bl false))) sNext) 
        (sSetD 9 (eOp (fun x y Q _ => fOpS "Question" "Question" f_Question_x___add__ x y Q fun _ => False) (eVar 9) (eOp (fIx Rv.asL) (eVar 6) (eVar 10)))))))) 
      (sSeq (sApp 6 (eC .non)) 
      (sRet (eAnd (eOp (fun x y Q _ => fCmpO "Question" f_Question_x___eq__ x y Q fun _ => False) (eVar 9) (eCall0 f_sum_of (aCons (eVar 0) (aCons (eVar 2) aNil)))) (eOp (fEq false) (eN fLen (aCons (eCall0 f_each_of (aCons (eVar 0) (aCons (eOp (fIx Rv.asT) (eVar 3) (eC (.int 0))) (aCons (eVar 2) aNil)))) aNil)) (eN fLen (aCons (eOp (fIx Rv.asT) (eVar 3) (eC (.int 1))) aNil)))))))))))))
def f__law_right : MF := mDef0 14 m__law_right
abbrev s__law_left_out : Stmt := DW.top 77
def m__law_left_out : MS :=
      (sSeq (sSetD 3 (eCall0 f_sum_of (aCons (eVar 0) (aCons (eLst aNil) aNil)))) 
      (sSeq (sSetO 4 (eLst aNil)) 
      (sSeq (sFor (itT (eVar 2)) (gSets [5, 6]) 
        (sSeq (sFor (itT (eVar 1)) (gSets [7, 8]) 
          (sSeq (sSetD 9 (eLc (itT (eVar 8)) (gSet 10) (tBl (eOp (fIn true) (eVar 10) (eVar 6))) (eVar 10) [10])) 
          (sIf (tAndD (tBl (eOp (fEq false) (eVar 7) (eVar 5))) (tBl (eOp (fEqD true) (eVar 9) (eLst aNil)))) 
            (sSetD 3 (eOp (fun x y Q _ => fOpS "Question" "Question" f_Question_x___sub__ x y Q fun _ => False) (eVar 3) (eCall0 f_sum_of (aCons (eVar 0) (aCons (eOp fCat (eVar 4) (eLst (aCons (eTup (aCons (eVar 5) (aCons (eVar 9) aNil))) aNil))) aNil))))) sNext))) 
        (sApp 4 (eTup (aCons (eVar 5) (aCons (eVar 6) aNil)))))) 
      (sRet (eOp (fun x y Q _ => fCmpO "Question" f_Question_x___eq__ x y Q fun _ => False) (eVar 3) (eCall0 f_sum_of (aCons (eVar 0) (aCons (eVar 2) aNil))))))))
def f__law_left_out : MF := mDef0 11 m__law_left_out
abbrev s_law : Stmt := DW.top 78
def m_law : MS :=
      (sSeq (sSetS 1 (eCall0 mStream (aCons (eVar 0) (aCons (eC (.int 0)) aNil)))) 
      (sSeq (sSetD 2 (eCall0 f__law_axes (aCons (eVar 1) aNil))) 
      (sSeq (sSetD 3 (eMake0 "Grid" f_Grid_x___init__ [] (aCons (eVar 2) aNil))) 
      (sSeq (sIf (tOrD (tNotD (tBl (eCall0 f__law_asks (aCons (eCall0 f_nothing_of (aCons (eVar 3) aNil)) (aCons (eVar 3) (aCons (eCall0 f__law_ones (aCons (eUn (mFld "size") (eVar 3)) (aCons (eLst aNil) aNil))) aNil)))))) (tNotD (tBl (eMeth0 "Question" "is_nothing" f_Question_x_is_nothing (eCall0 f_nothing_of (aCons (eVar 3) aNil)) aNil)))) 
        (sRet (eC (.bl false))) sNext) 
      (sSeq (sFor (itR2 (aCons (eC (.int 1)) (aCons (eN fMax (aCons (eC (.int 2)) (aCons (eN fMin (aCons (eN fLen (aCons (eVar 0) aNil)) (aCons (eC (.int 9)) aNil))) aNil))) aNil))) (gSet 4) 
        (sSeq (sSetS 1 (eCall0 mStream (aCons (eVar 0) (aCons (eVar 4) aNil)))) 
        (sSeq (sSetD 5 (eCall0 f__law_wish (aCons (eVar 1) (aCons (eVar 2) aNil)))) 
        (sSeq (sSetD 6 (eOp (fIx Rv.asT) (eVar 2) (eCall0 mDraw (aCons (eVar 1) (aCons (eN fLen (aCons (eVar 2) aNil)) aNil))))) 
        (sSeq (sIf (tOrD (tNotD (tBl (eCall0 f__law_right (aCons (eVar 3) (aCons (eVar 2) (aCons (eVar 5) (aCons (eVar 6) (aCons (eCall0 f__law_weights (aCons (eVar 1) (aCons (eUn (mFld "size") (eVar 3)) aNil))) aNil)))))))) (tNotD (tBl (eCall0 f__law_left_out (aCons (eVar 3) (aCons (eVar 2) (aCons (eVar 5) aNil))))))) 
          (sRet (eC (.bl false))) sNext) 
        (sSeq (sSetD 7 (eOp fCatA (eVar 5) (eTup (aCons (eTup (aCons (eOp (fIx Rv.asT) (eVar 6) (eC (.int 0))) (aCons (eTup (aCons (eC (.str "zzzzzzzz")) (aCons (eC (.str "zz")) aNil))) aNil))) aNil)))) 
        (sSeq (sSetD 8 (eTup (aCons (eN fLen (aCons (eVar 5) aNil)) (aCons (eOp (fIx Rv.asL) (eLst (aCons (eC (.str "members")) (aCons (eC (.str "axis")) aNil))) (eN fInt (aCons (eOp (fIn false) (eOp (fIx Rv.asT) (eVar 6) (eC (.int 0))) (eLc (itT (eVar 5)) (gSet 12) tYesD (eOp (fIx Rv.asT) (eVar 12) (eC (.int 0))) [12])) aNil))) aNil)))) 
        (sSeq (sIf (tAndD (tOrD (tBl (eOp (fIn true) (eC (.str "zzzzzzzz")) (eOp (fIx Rv.asT) (eVar 6) (eC (.int 1))))) (tBl (eOp (fIn true) (eC (.str "zz")) (eOp (fIx Rv.asT) (eVar 6) (eC (.int 1)))))) (tBl (eOp (fEqD true) (eCall0 f__law_summed (aCons (eVar 3) (aCons (eVar 7) aNil))) (eVar 8)))) 
          (sRet (eC (.bl false))) sNext) 
        (sSeq (sSetD 9 (eOp (fIx Rv.asL) (eLst (aCons (eC .non) (aCons (eC (.str "")) (aCons (eC (.str "sum")) (aCons (eC (.int 3)) (aCons (eVar 6) (aCons (eLst (aCons (eOp (fIx Rv.asT) (eVar 6) (eC (.int 0))) aNil)) (aCons eDNew (aCons (eC (.str "zzzzzzzz")) aNil))))))))) (eCall0 mDraw (aCons (eVar 1) (aCons (eC (.int 8)) aNil))))) 
        (sSeq (sIf (tAndD (tBl (eOp (fInT true) (eVar 9) (eLc (itT (eVar 2)) (gSets [10, 11]) tYesD (eVar 10) [10, 11]))) (tBl (eOp (fEqD true) (eOp (fIx Rv.asT) (eCall0 f__law_parted (aCons (eVar 3) (aCons (eVar 9) (aCons (eVar 7) aNil)))) (eC (.int 1))) (eC (.str "axis"))))) 
          (sRet (eC (.bl false))) sNext) 
        (sIf (tOrD (tBl (eOp (fEqD true) (eCall0 f__law_summed (aCons (eVar 3) (aCons (eC .non) aNil))) (eTup (aCons (eUn fNeg (eC (.int 1))) (aCons (eC (.str "wish")) aNil))))) (tBl (eOp (fEqD true) (eOp (fIx Rv.asT) (eCall0 f__law_parted (aCons (eVar 3) (aCons (eOp (fIx Rv.asT) (eVar 6) (eC (.int 0))) (aCons (eC (.int 5)) aNil)))) (eC (.int 1))) (eTup (aCons (eUn fNeg (eC (.int 1))) (aCons (eC (.str "wish")) aNil)))))) 
          (sRet (eC (.bl false))) sNext))))))))))) 
      (sRet (eC (.bl true))))))))
def f_law : MF := mDef0 13 m_law
end
end DL

set_option Elab.async false
set_option linter.all false
set_option maxRecDepth 100000
set_option maxHeartbeats 4000000
/-! what the top has left, for the data layer -/
namespace DL
open PySem L2 He DX DW
abbrev Lk (K : PySem.W.Frag) (f : Addr) (o : Obj) : Prop := K.lookup f = some o
/-- a def without defaults stands at f -/
theorem fnp {K : PySem.W.Frag} {x q : Str} {st : Stmt} {f : Addr} {oc : Value} {od an : Option Addr} {osl : Array (Option Value)} {kV doc pm cdv ct : Value}
    (l : K.lookup f = some ⟨oc, od, .func (PySem.W.fnOf x q (defArgs st) (defBody st) (defScope st) .none kV doc pm an cdv ct), osl⟩) (c : PySem.W.codeIn K cdv q = true) (k : PySem.W.keepIn K (.ref f) = true) : ∃ fd, FnP K x q st [] f fd :=
  ⟨_, ⟨oc, od, .none, kV, doc, pm, an, cdv, ct, osl, rfl, l, c, .inl ⟨rfl, rfl⟩, .inl rfl⟩, k⟩
/-- a global def -/
def GF (K : PySem.W.Frag) (x : Str) (st : Stmt) : Prop := ∃ f, PySem.W.nsIn K mainGlobals x = some (some (.ref f)) ∧ ∃ fd, FnP K x x st [] f fd
/-- a method of C -/
def MTF (K : PySem.W.Frag) (C : Addr) (x q : Str) (st : Stmt) : Prop := ∃ f, PySem.W.findIn K (.ref C) x = some (some (.ref f)) ∧ PySem.W.isFn K (.ref f) = true ∧ ∃ fd, FnP K x q st [] f fd
section
variable {P : Program} {w : World} {K : PySem.W.Frag} {mg : Str → Option Value} {base h : Heap} {CX : CXT} {k : Nat} {x q : Str} {ps : List Str} {st : Stmt} {sp : Sp} {C : Addr}
theorem GF.ok (g : GF K x st) (X : K.In h) (G : h.Ns mainGlobals mg) (ok : ∀ f fd, FnP K x x st [] f fd → FnOk P w K mg base CX k f fd ps sp)
    (b : ∀ (kV doc pm : Value) (an : Option Addr) (cdv ct : Value) (us : List Value), us.length = ps.length → bindArgs (PySem.W.fnOf x x (defArgs st) (defBody st) (defScope st) .none kV doc pm an cdv ct) ⟨us, []⟩ = pure (ps.zip us)) : GloOk P w K mg base CX k x ps sp := by
  obtain ⟨f, a, fd, F⟩ := g
  exact ⟨f, fd, ok f fd F, PySem.W.mg_of X G a, F.kp, F.bindsN b⟩
theorem MTF.ok (g : MTF K C x q st) (ok : ∀ f fd, FnP K x q st [] f fd → FnOk P w K mg base CX k f fd ps sp)
    (b : ∀ (kV doc pm : Value) (an : Option Addr) (cdv ct : Value) (us : List Value), us.length = ps.length → bindArgs (PySem.W.fnOf x q (defArgs st) (defBody st) (defScope st) .none kV doc pm an cdv ct) ⟨us, []⟩ = pure (ps.zip us)) : MthOk P w K mg base C CX k x ps sp := by
  obtain ⟨f, a, i, fd, F⟩ := g
  exact ⟨f, fd, ok f fd F, ⟨a, i, F.kp⟩, F.bindsN b⟩
theorem MTF.meth (g : MTF K C x q st) : ∃ f, Meth K C x f := by
  obtain ⟨f, a, i, fd, F⟩ := g
  exact ⟨f, a, i, F.kp⟩
end
theorem kit_sub {K : PySem.W.Frag} {C : Addr} {n : String} {b : Bool} (h : PySem.W.subIn K (.ref C) (.type n) = some b) (hm : PySem.W.kitMeta n = true) : PySem.W.kitOne K (.ref C) (.type n) = some b := by
  unfold PySem.W.kitOne
  rw [if_neg (by simp)]
  show (if PySem.W.kitMeta n = true then PySem.W.subIn K (.ref C) (.type n) else none) = some b
  rw [if_pos hm]
  exact h
theorem kit_cl {K : PySem.W.Frag} {C : Addr} {t : Value} {b : Bool} (hc : PySem.W.isClsIn K C = true) (ht : PySem.W.typeIn K (.ref C) = some (.type "type")) (h : PySem.W.subIn K t (.ref C) = some b) : PySem.W.kitCls K t (.ref C) = some b := by
  have e : ((PySem.W.clsIn K C).isSome && PySem.W.typeIn K (.ref C) == some (.type "type")) = true := by
    rw [show (PySem.W.clsIn K C).isSome = true from hc, ht] <;> rfl
  show (if ((PySem.W.clsIn K C).isSome && PySem.W.typeIn K (.ref C) == some (.type "type")) = true then PySem.W.subIn K t (.ref C) else none) = some b
  rw [if_pos e]
  exact h
theorem kit_tyc {K : PySem.W.Frag} {C : Addr} {n : String} {b : Bool} (hc : PySem.W.isClsIn K C = true) (ht : PySem.W.typeIn K (.ref C) = some (.type "type")) (h : PySem.W.subIn K (.type n) (.ref C) = some b) : PySem.W.kitOne K (.type n) (.ref C) = some b := by
  unfold PySem.W.kitOne
  rw [if_neg (by simp)]
  exact kit_cl hc ht h
theorem exm_own {K : PySem.W.Frag} {S : Addr} (h1 : PySem.W.subIn K (.ref S) (.type "BaseException") = some true) (h2 : PySem.W.isClsIn K S = true) (h3 : PySem.W.typeIn K (.ref S) = some (.type "type")) (h4 : PySem.W.subIn K (.ref S) (.ref S) = some true) :
    PySem.W.exmOne K (.ref S) (.ref S) = some true := by
  have e1 : (PySem.W.subIn K (.ref S) (.type "BaseException") == some true) = true := by rw [h1] <;> rfl
  have e2 : ((PySem.W.clsIn K S).isSome && PySem.W.typeIn K (.ref S) == some (.type "type")) = true := by
    rw [show (PySem.W.clsIn K S).isSome = true from h2, h3] <;> rfl
  show (if (PySem.W.subIn K (.ref S) (.type "BaseException") == some true) = true then (if ((PySem.W.clsIn K S).isSome && PySem.W.typeIn K (.ref S) == some (.type "type")) = true then PySem.W.subIn K (.ref S) (.ref S) else none) else none) = some true
  rw [if_pos e1, if_pos e2]
  exact h4
theorem fnp1 {K : PySem.W.Frag} {x q : Str} {st : Stmt} {f T : Addr} {oc oc' : Value} {od an od' : Option Addr} {osl osl' : Array (Option Value)} {kV doc pm cdv ct : Value} {i : Int} {t : Tok} {n : Nat}
    (l : K.lookup f = some ⟨oc, od, .func (PySem.W.fnOf x q (defArgs st) (defBody st) (defScope st) (.ref T) kV doc pm an cdv ct), osl⟩) (c : PySem.W.codeIn K cdv q = true) (k : PySem.W.keepIn K (.ref f) = true)
    (lT : K.lookup T = some ⟨oc', od', .seq #[.int i t] n, osl'⟩) : ∃ fd, FnP K x q st [.int i] f fd :=
  ⟨_, ⟨oc, od, .ref T, kV, doc, pm, an, cdv, ct, osl, rfl, l, c, .inr ⟨List.cons_ne_nil _ _, T, _, [.int i t], n, rfl, lT, rfl, .cons ⟨t, rfl⟩ .nil⟩, .inl rfl⟩, k⟩

theorem kit_rr {K : PySem.W.Frag} {C D : Addr} {b : Bool} (n : D ≠ C) (hc : PySem.W.isClsIn K C = true) (ht : PySem.W.typeIn K (.ref C) = some (.type "type")) (h : PySem.W.subIn K (.ref D) (.ref C) = some b) : PySem.W.kitOne K (.ref D) (.ref C) = some b := by
  unfold PySem.W.kitOne
  rw [if_neg (fun z => n (by have := eq_of_beq z; injection this))]
  exact kit_cl hc ht h
/-- a class of one's own -/
structure CF (K : PySem.W.Frag) (C : Addr) : Prop where
  pg : PySem.W.plainGet K C Str.empty = true
  hd : PySem.W.hasDictIn K C = true
  po : PySem.W.plainOver K C = true
  sa : PySem.W.findIn K (.ref C) "__setattr__" = some (some (.builtin "object.__setattr__"))
  mks : PySem.W.makesIn K C = true
  kc : PySem.W.keepIn K (.ref C) = true
  ca : PySem.W.findIn K (.ref C) "__class__" = some (some (.builtin "object.__class__"))
  cm : PySem.W.mroIn K C (.type "object") = some true
  ic : PySem.W.isClsIn K C = true
  ty : PySem.W.typeIn K (.ref C) = some (.type "type")
  ne : PySem.W.findIn K (.ref C) "__ne__" = some (some (.builtin "object.__ne__"))
  oL : PySem.W.subIn K (.ref C) (.type "list") = some false
  oT : PySem.W.subIn K (.ref C) (.type "tuple") = some false
  oI : PySem.W.subIn K (.ref C) (.type "int") = some false
  oB : PySem.W.subIn K (.ref C) (.type "bool") = some false
  iN : PySem.W.subIn K (.type "NoneType") (.ref C) = some false
  iB : PySem.W.subIn K (.type "bool") (.ref C) = some false
  iI : PySem.W.subIn K (.type "int") (.ref C) = some false
  iS : PySem.W.subIn K (.type "str") (.ref C) = some false
  iD : PySem.W.subIn K (.type "dict") (.ref C) = some false
  iL : PySem.W.subIn K (.type "list") (.ref C) = some false
  iT : PySem.W.subIn K (.type "tuple") (.ref C) = some false

theorem glo_gf {K : PySem.W.Frag} {x : Str} {st : Stmt} (c : (Fa.glo x).ok K = true) (F : ∃ fd, FnP K x x st [] (ga K x) fd) : GF K x st := ⟨_, eqO_ok c, F⟩
theorem meth_mf {K : PySem.W.Frag} {c x q : Str} {st : Stmt} (m : Meth K (ga K c) x (ma K (ga K c) x)) (F : ∃ fd, FnP K x q st [] (ma K (ga K c) x) fd) : MTF K (ga K c) x q st := ⟨_, m.at_, m.fn, F⟩
theorem cf_ok {K : PySem.W.Frag} {C : Addr} (h : KF.cfB K C = true) : CF K C := by
  unfold KF.cfB at h
  simp only [List.all_cons, List.all_nil, Bool.and_eq_true, decide_eq_true_eq, id_eq, and_true] at h
  obtain ⟨h0, h1, h2, h3, h4, h5, h6, h7, h8, h9, h10, h11, h12, h13, h14, h15, h16, h17, h18, h19, h20, h21⟩ := h
  exact ⟨h0, h1, h2, h3, h4, h5, h6, h7, h8, h9, h10, h11, h12, h13, h14, h15, h16, h17, h18, h19, h20, h21⟩
def clsNames : List String := ["Ratio", "Grid", "Question", "Listed", "Expression", "Reading", "Planned", "Exact", "Rough", "Book", "History", "Promise", "Doubt", "End", "Conflict", "Offer", "Goal", "Refuter", "Bounded", "Outcome", "Combination", "Span", "Frame", "Search", "Row", "Held", "Sketch", "Branch", "State", "Kept", "Page"]
theorem flds_mem {c : String} (h : fldsOf c ≠ []) : c ∈ clsNames := by
  unfold fldsOf at h
  split at h <;> first | (simp [clsNames]; done) | exact absurd rfl h
theorem tx_ok {K : PySem.W.Frag} {l : List (String × List String)} {ps : List (String × String)} (h : KF.txB K l ps = true) (hf : ∀ p ∈ l, p.2 = fldsOf p.1) (hp : ∀ c ∈ l.map (·.1), ∀ d ∈ l.map (·.1), c ≠ d → (c, d) ∈ ps) (ab : ∀ c, Pres K c → c ∈ l.map (·.1)) : Tx K := by
  unfold KF.txB at h
  simp only [List.all_cons, List.all_nil, Bool.and_eq_true, decide_eq_true_eq, id_eq, and_true, List.all_eq_true] at h
  obtain ⟨h1, h2, h3, h4⟩ := h
  have get : ∀ c, Pres K c → CF K (ga K (Str.ofString c)) ∧ PySem.W.subIn K (.ref (ga K (Str.ofString c))) (.type "str") = some false ∧ PySem.W.subIn K (.ref (ga K (Str.ofString c))) (.type "dict") = some false ∧ ∀ f ∈ fldsOf c, PySem.W.findIn K (.ref (ga K (Str.ofString c))) (Str.ofString f) = some none := fun c hc => by
    obtain ⟨p, hp, rfl⟩ := List.mem_map.mp (ab c hc)
    obtain ⟨a, b, d, e⟩ := h3 p hp
    rw [hf p hp] at e
    exact ⟨cf_ok a, b, d, e⟩
  have two : ∀ c d, Pres K c → Pres K d → c ≠ d → ga K (Str.ofString c) ≠ ga K (Str.ofString d) ∧ PySem.W.subIn K (.ref (ga K (Str.ofString c))) (.ref (ga K (Str.ofString d))) = some false := fun c d hc hd ne => h4 _ (hp c (ab c hc) d (ab d hd) ne)
  refine ⟨fun c hc => ?_, fun c hc => (get c hc).2.2.2, fun c hc H a dx fs e => ?_, fun c hc t ht => ?_, fun c hc t ht => ?_, fun c d hc hd => ?_, fun c hc t ht => ?_, fun c d hc hd => ?_⟩
  · have g := (get c hc).1
    exact ⟨g.pg, g.hd, g.po, g.sa⟩
  · have g := (get c hc).1
    exact .base (.ins e ⟨g.pg, g.hd, g.po, g.sa⟩ g.ca h1 h2 g.cm)
  · obtain ⟨g, s1, s2, _⟩ := get c hc
    simp only [List.mem_cons, List.not_mem_nil, or_false] at ht
    rcases ht with rfl | rfl | rfl | rfl | rfl | rfl
    · exact kit_sub g.oL (by decide +kernel)
    · exact kit_sub g.oT (by decide +kernel)
    · exact kit_sub g.oI (by decide +kernel)
    · exact kit_sub g.oB (by decide +kernel)
    · exact kit_sub s1 (by decide +kernel)
    · exact kit_sub s2 (by decide +kernel)
  · obtain ⟨g, s1, s2, _⟩ := get c hc
    simp only [List.mem_cons, List.not_mem_nil, or_false] at ht
    rcases ht with rfl | rfl | rfl | rfl | rfl | rfl | rfl
    · exact kit_tyc g.ic g.ty g.iN
    · exact kit_tyc g.ic g.ty g.iB
    · exact kit_tyc g.ic g.ty g.iI
    · exact kit_tyc g.ic g.ty g.iS
    · exact kit_tyc g.ic g.ty g.iD
    · exact kit_tyc g.ic g.ty g.iL
    · exact kit_tyc g.ic g.ty g.iT
  · by_cases e : c = d
    · subst e
      unfold PySem.W.kitOne
      rw [if_pos (beq_self_eq_true _), beq_self_eq_true]
    · obtain ⟨n, s⟩ := two c d hc hd e
      have g := (get d hd).1
      rw [beq_false_of_ne e]
      exact kit_rr n g.ic g.ty s
  · obtain ⟨g, s1, s2, _⟩ := get c hc
    have go : ∀ t : String, PySem.W.subIn K (.type t) (.ref (ga K (Str.ofString c))) = some false → PySem.W.notFirst K (ga K (Str.ofString c)) (.type t) = true := fun t h => by
      unfold PySem.W.notFirst
      rw [h]
      simp
    simp only [List.mem_cons, List.not_mem_nil, or_false] at ht
    rcases ht with rfl | rfl | rfl | rfl | rfl | rfl | rfl
    · exact go _ g.iN
    · exact go _ g.iB
    · exact go _ g.iI
    · exact go _ g.iS
    · exact go _ g.iD
    · exact go _ g.iL
    · exact go _ g.iT
  · unfold PySem.W.notFirst
    by_cases e : c = d
    · subst e
      simp
    · rw [(two d c hd hc (fun z => e z.symm)).2]
      simp
theorem ers_ok {K : PySem.W.Frag} {l : List String} {ps : List (String × String × Bool)} (h : KF.ersB K l ps = true) (hp : ∀ x ∈ l, ∀ c ∈ l, (x, c, exSub x c) ∈ ps) : Ers K l := by
  unfold KF.ersB at h
  simp only [List.all_cons, List.all_nil, Bool.and_eq_true, decide_eq_true_eq, id_eq, and_true, List.all_eq_true] at h
  obtain ⟨h1, h2⟩ := h
  intro x hx c hc
  obtain ⟨e1, e2, e3⟩ := h1 c hc
  unfold PySem.W.exmOne
  rw [if_pos (by rw [e1]; rfl)]
  exact kit_cl e2 e3 (h2 _ (hp x hx c hc))
theorem xfc_ok {K : PySem.W.Frag} {c : String} {ns : List String} (h : KF.xfcB K c ns = true) : XFc K c ns := by
  unfold KF.xfcB at h
  simp only [List.all_cons, List.all_nil, Bool.and_eq_true, decide_eq_true_eq, id_eq, and_true, List.all_eq_true] at h
  obtain ⟨h1, h2, h3, h4, h5, h6, h7, h8, h9⟩ := h
  exact ⟨⟨h1, h2, h3, h4⟩, h5, h6, kit_cl h7 h8 h9⟩
theorem exn_ok {K : PySem.W.Frag} {c : String} {ns : List String} (h : KF.exnB K c ns = true) : EXn K (ga K (Str.ofString c)) (ns.map Str.ofString) := by
  unfold KF.exnB at h
  simp only [List.all_cons, List.all_nil, Bool.and_eq_true, decide_eq_true_eq, id_eq, and_true, List.all_eq_true] at h
  obtain ⟨h1, h2, h3, h4, h5, h6⟩ := h
  obtain ⟨nm, q, N, bs, sn, sub, ab, col, dd, m0, m1, m2, m3, m5, e⟩ := KF.clsB_ok h1
  refine ⟨⟨⟨nm, q, N, bs, _, sn, sub, ab, col, dd, m0, m1, m2, m3, m5, e, rfl⟩, h2, h3, h4, h5⟩, fun n hn => ?_⟩
  obtain ⟨m, hm, rfl⟩ := List.mem_map.mp hn
  exact h6 m hm
theorem ex0_ok {K : PySem.W.Frag} {C : Addr} (h : KF.nfB K C = true) : EX0 K C := by
  unfold KF.nfB at h
  simp only [List.all_cons, List.all_nil, Bool.and_eq_true, decide_eq_true_eq, id_eq, and_true] at h
  obtain ⟨h1, h2, h3, h4, _⟩ := h
  exact ⟨h1, h2, h3, h4⟩
/-- a promise of data for the law itself -/
theorem law_sp {K : PySem.W.Frag} {m : MF} {H : Hp} {a : Addr} {ns : List Int} (hS : SqL K H a (ns.map V.int)) (h : ∀ (Q : KD) (Ed : KX), Q (.d (.bl true)) → m [.d (.scr ns)] Q Ed) : spD K 1 m [.ref a] H (fun v _ => v = .bl true) fun _ _ _ => False := by
  have r : Dr K (fun _ => False) H (.ref a) (.scr ns) := by
    rcases hS with q | q
    · exact .scr q fun h => h
    · exact .scrW fun _ => .inr q
  refine ⟨fun _ => False, [.d (.scr ns)], rfl, ⟨r, trivial⟩, fun _ h => h.elim, List.nodup_nil, fun r => r = .d (.bl true), fun _ => False, h _ _ rfl, fun r v H' _ hr e => ?_, fun _ _ _ _ _ _ h => h.elim⟩
  subst e
  cases (show Dr K _ H' v (.bl true) from hr)
  rfl
end DL

set_option Elab.async false
set_option linter.all false
set_option maxRecDepth 100000
set_option maxHeartbeats 1000000
namespace DL
open PySem L2 He DX DW
section
variable {P : Program} {w : World} {K : PySem.W.Frag} {mg : Str → Option Value} {base : Heap} {f : Addr} {fd : FuncData}
theorem sc_NoRatio_x___init__ : FnScope ["self", "word"] ["self", "word"] (defScope s_NoRatio_x___init__) := ⟨rfl, rfl, rfl, by decide +kernel, rfl, by decide +kernel, by decide +kernel⟩
theorem ok_NoRatio_x___init__ {C : Addr} (F : FnP K "__init__" "NoRatio.__init__" s_NoRatio_x___init__ [] f fd) (T : EXn K C ["word"]) : FnOk P w K mg base CX0 1 f fd ["self", "word"] (spXI C ["word"]) := by
  refine F.ok sc_NoRatio_x___init__ (fun vs H Q X z => by obtain ⟨a, us, rfl, l, _⟩ := z; exact congrArg Nat.succ l) (fun cdv A outer s H vs Q X hr z => ?_)
  obtain ⟨a, us, rfl, l, ha, k⟩ := z
  match us, l with
  | [v], _ =>
    refine ⟨_, PSs.nox (pss_one (ps_ost (pv 0) (pv 1))), ?_⟩
    exact ⟨_, rfl, _, rfl, a, C, rfl, T.ox, T.no _ (by simp), .inl ⟨ha, fun d hd ne => k d hd ne⟩⟩
end
end DL

set_option Elab.async false
set_option linter.all false
set_option maxRecDepth 100000
set_option maxHeartbeats 1000000
namespace DL
open PySem L2 He DX DW
section
variable {P : Program} {w : World} {K : PySem.W.Frag} {mg : Str → Option Value} {base : Heap} {f : Addr} {fd : FuncData}
theorem sc_NoGrid_x___init__ : FnScope ["self", "word"] ["self", "word"] (defScope s_NoGrid_x___init__) := ⟨rfl, rfl, rfl, by decide +kernel, rfl, by decide +kernel, by decide +kernel⟩
theorem ok_NoGrid_x___init__ {C : Addr} (F : FnP K "__init__" "NoGrid.__init__" s_NoGrid_x___init__ [] f fd) (T : EXn K C ["word"]) : FnOk P w K mg base CX0 1 f fd ["self", "word"] (spXI C ["word"]) := by
  refine F.ok sc_NoGrid_x___init__ (fun vs H Q X z => by obtain ⟨a, us, rfl, l, _⟩ := z; exact congrArg Nat.succ l) (fun cdv A outer s H vs Q X hr z => ?_)
  obtain ⟨a, us, rfl, l, ha, k⟩ := z
  match us, l with
  | [v], _ =>
    refine ⟨_, PSs.nox (pss_one (ps_ost (pv 0) (pv 1))), ?_⟩
    exact ⟨_, rfl, _, rfl, a, C, rfl, T.ox, T.no _ (by simp), .inl ⟨ha, fun d hd ne => k d hd ne⟩⟩
end
end DL

set_option Elab.async false
set_option linter.all false
set_option maxRecDepth 100000
set_option maxHeartbeats 1000000
namespace DL
open PySem L2 He DX DW
section
variable {P : Program} {w : World} {K : PySem.W.Frag} {mg : Str → Option Value} {base : Heap} {f : Addr} {fd : FuncData}
theorem sc_NoQuestion_x___init__ : FnScope ["self", "word"] ["self", "word"] (defScope s_NoQuestion_x___init__) := ⟨rfl, rfl, rfl, by decide +kernel, rfl, by decide +kernel, by decide +kernel⟩
theorem ok_NoQuestion_x___init__ {C : Addr} (F : FnP K "__init__" "NoQuestion.__init__" s_NoQuestion_x___init__ [] f fd) (T : EXn K C ["word"]) : FnOk P w K mg base CX0 1 f fd ["self", "word"] (spXI C ["word"]) := by
  refine F.ok sc_NoQuestion_x___init__ (fun vs H Q X z => by obtain ⟨a, us, rfl, l, _⟩ := z; exact congrArg Nat.succ l) (fun cdv A outer s H vs Q X hr z => ?_)
  obtain ⟨a, us, rfl, l, ha, k⟩ := z
  match us, l with
  | [v], _ =>
    refine ⟨_, PSs.nox (pss_one (ps_ost (pv 0) (pv 1))), ?_⟩
    exact ⟨_, rfl, _, rfl, a, C, rfl, T.ox, T.no _ (by simp), .inl ⟨ha, fun d hd ne => k d hd ne⟩⟩
end
end DL

set_option Elab.async false
set_option linter.all false
set_option maxRecDepth 100000
set_option maxHeartbeats 1000000
namespace DL
open PySem L2 He DX DW
section
variable {P : Program} {w : World} {K : PySem.W.Frag} {mg : Str → Option Value} {base : Heap} {f : Addr} {fd : FuncData}
theorem sc_NoWish_x___init__ : FnScope ["self", "place", "word"] ["self", "place", "word"] (defScope s_NoWish_x___init__) := ⟨rfl, rfl, rfl, by decide +kernel, rfl, by decide +kernel, by decide +kernel⟩
theorem ok_NoWish_x___init__ {C : Addr} (F : FnP K "__init__" "NoWish.__init__" s_NoWish_x___init__ [] f fd) (T : EXn K C ["place", "word"]) : FnOk P w K mg base CX0 1 f fd ["self", "place", "word"] (spXI C ["place", "word"]) := by
  refine F.ok sc_NoWish_x___init__ (fun vs H Q X z => by obtain ⟨a, us, rfl, l, _⟩ := z; exact congrArg Nat.succ l) (fun cdv A outer s H vs Q X hr z => ?_)
  obtain ⟨a, us, rfl, l, ha, k⟩ := z
  match us, l with
  | [v, u], _ =>
    refine ⟨_, PSs.nox (pss_cons (ps_ost (pv 0) (pv 1)) (pss_one (ps_ost (pv 0) (pv 2)))), ?_⟩
    refine ⟨_, rfl, _, rfl, a, C, rfl, T.ox, T.no _ (by simp), .inl ⟨ha, fun d hd ne => ?_⟩⟩
    refine ⟨_, rfl, _, rfl, a, C, rfl, T.ox, T.no _ (by simp), .inr ⟨d, _, upd_same, by rw [upd_ne ne, upd_same], (by show 1 ≤ 900; decide), ?_⟩⟩
    have := k d hd ne
    rw [← upd_two ne] at this
    exact this
end
end DL

set_option Elab.async false
set_option linter.all false
set_option maxRecDepth 100000
set_option maxHeartbeats 1000000
namespace DL
open PySem L2 He DX DW
section
variable {P : Program} {w : World} {K : PySem.W.Frag} {mg : Str → Option Value} {base : Heap} {f : Addr} {fd : FuncData}
theorem sc_is_integer : FnScope ["found"] ["found"] (defScope s_is_integer) := ⟨rfl, rfl, rfl, by decide +kernel, rfl, by decide +kernel, by decide +kernel⟩
theorem ok_is_integer (F : FnP K "is_integer" "is_integer" s_is_integer [] f fd) (TX : Tx K) (T : TT mg) : FnOk P w K mg base CX0 1 f fd ["found"] (spD K 1 f_is_integer) := by
  refine F.ok sc_is_integer (fun vs H Q X z => sp_len z) (fun cdv A outer s H vs Q X hr z => ?_)
  refine ⟨_, PSs.nox (
      (pss_one (ps_ret (pe_and (pe_callB call_isi (by rfl) T.isinst (by decide +kernel) (pa_cons (pv 0) (pa_cons (pe_bltn (v := .ty "int") (by rfl) T.int (by decide +kernel) rfl) pa_nil))) (pe_one (pe_not (pe_callB call_isi (by rfl) T.isinst (by decide +kernel) (pa_cons (pv 0) (pa_cons (pe_bltn (v := .ty "bool") (by rfl) T.bool (by decide +kernel) rfl) pa_nil))))))))), ?_⟩
  exact d_read0 (n := 1) (N := ["found"]) (w_ret (l_andV (l_isB TX (by decide) l_var) (l_notV (l_isB TX (by decide) l_var)))) (by decide) z
end
end DL

set_option Elab.async false
set_option linter.all false
set_option maxRecDepth 100000
set_option maxHeartbeats 1000000
namespace DL
open PySem L2 He DX DW
section
variable {P : Program} {w : World} {K : PySem.W.Frag} {mg : Str → Option Value} {base : Heap} {f : Addr} {fd : FuncData}
theorem sc_is_sequence : FnScope ["found"] ["found"] (defScope s_is_sequence) := ⟨rfl, rfl, rfl, by decide +kernel, rfl, by decide +kernel, by decide +kernel⟩
theorem ok_is_sequence (F : FnP K "is_sequence" "is_sequence" s_is_sequence [] f fd) (TX : Tx K) (T : TT mg) : FnOk P w K mg base CX0 1 f fd ["found"] (spD K 1 f_is_sequence) := by
  refine F.ok sc_is_sequence (fun vs H Q X z => sp_len z) (fun cdv A outer s H vs Q X hr z => ?_)
  refine ⟨_, PSs.nox (
      (pss_one (ps_ret (pe_callB call_isiT (by rfl) T.isinst (by decide +kernel) (pa_cons (pv 0) (pa_cons (pe_tup (pa_cons (pe_bltn (v := .ty "list") (by rfl) T.list (by decide +kernel) rfl) (pa_cons (pe_bltn (v := .ty "tuple") (by rfl) T.tuple (by decide +kernel) rfl) pa_nil))) pa_nil)))))), ?_⟩
  exact d_read0 (n := 1) (N := ["found"]) (w_ret (l_isLT TX l_var)) (by decide) z
end
end DL

set_option Elab.async false
set_option linter.all false
set_option maxRecDepth 100000
set_option maxHeartbeats 1000000
namespace DL
open PySem L2 He DX DW
section
variable {P : Program} {w : World} {K : PySem.W.Frag} {mg : Str → Option Value} {base : Heap} {f : Addr} {fd : FuncData}
theorem sc_is_pair : FnScope ["found"] ["found"] (defScope s_is_pair) := ⟨rfl, rfl, rfl, by decide +kernel, rfl, by decide +kernel, by decide +kernel⟩
theorem ok_is_pair (F : FnP K "is_pair" "is_pair" s_is_pair [] f fd) (TX : Tx K) (T : TT mg)
    (Gis_sequence : GloOk P w K mg base CX0 1 "is_sequence" ["found"] (spD K 1 f_is_sequence)) : FnOk P w K mg base CX0 2 f fd ["found"] (spD K 1 f_is_pair) := by
  obtain ⟨fis_sequence, fdis_sequence, Gis_sequence, mis_sequence, kis_sequence, bis_sequence⟩ := Gis_sequence
  refine F.ok sc_is_pair (fun vs H Q X z => sp_len z) (fun cdv A outer s H vs Q X hr z => ?_)
  refine ⟨_, PSs.nox (
      (pss_one (ps_ret (pe_and (pe_call Gis_sequence (hr.mono (by decide)) rfl mis_sequence kis_sequence bis_sequence .nil pass0 (pa_cons (pv 0) pa_nil)) (pe_one (pe_cmpR op_eq (pe_callB call_len_seq (by rfl) T.len PySem.boot_len (pa_cons (pv 0) pa_nil)) pe_int (nomark _))))))), ?_⟩
  exact d_read0 (n := 1) (N := ["found"]) (w_ret (l_andV (l_call (l_cons l_var l_nil)) (l_op s_eq (l_N s_len (l_cons l_var l_nil)) l_int))) (by decide) z
end
end DL

set_option Elab.async false
set_option linter.all false
set_option maxRecDepth 100000
set_option maxHeartbeats 1000000
namespace DL
open PySem L2 He DX DW
section
variable {P : Program} {w : World} {K : PySem.W.Frag} {mg : Str → Option Value} {base : Heap} {f : Addr} {fd : FuncData}
theorem sc_is_word : FnScope ["found", "sign"] ["found"] (defScope s_is_word) := ⟨rfl, rfl, rfl, by decide +kernel, rfl, by decide +kernel, by decide +kernel⟩
theorem ok_is_word (F : FnP K "is_word" "is_word" s_is_word [] f fd) (TX : Tx K) (T : TT mg)
    (hKDIGITS : mgStr mg "DIGITS" "0123456789")
    (hKLETTERS : mgStr mg "LETTERS" "abcdefghijklmnopqrstuvwxyz")
    (hKMOST_NAME_LENGTH : mgInt mg "MOST_NAME_LENGTH" 8) : FnOk P w K mg base CX0 1 f fd ["found"] (spD K 1 f_is_word) := by
  refine F.ok sc_is_word (fun vs H Q X z => sp_len z) (fun cdv A outer s H vs Q X hr z => ?_)
  refine ⟨_, PSs.nox (
      (pss_cons (ps_if (pt_not (pt_chain op_le op_le pe_int (pe_callB call_len_str (by rfl) T.len PySem.boot_len (pa_cons (pv 0) pa_nil)) (pe_glob (v := .int 8) (by rfl) hKMOST_NAME_LENGTH.choose_spec ⟨_, rfl⟩))) 
        (pss_one (ps_ret pe_bl)) pss_nil) 
      (pss_one (ps_ret (pe_and (pe_cmpR (r := rInS) op_inS (pe_ix ix_str (pv 0) pe_int (fun _ _ => rfl)) (pe_glob (v := .str "abcdefghijklmnopqrstuvwxyz") (by rfl) hKLETTERS.choose_spec ⟨_, rfl⟩) (by rfl)) (pe_one (pe_callB (cr_all rfl) (by rfl) T.all (by decide +kernel) (pa_cons (pe_lc (own := [("sign", 1)]) (g := gName 1) (tt := tYes) (by rfl) sc_is_word.nd (pi_str (pv 0)) (blkOk_by (own := [("sign", 1)]) (N := ["found", "sign"]) (sc := defScope s_is_word) (by decide +kernel)) (fun _ _ _ _ _ => (pg_name (i := 1) sc_is_word.nd rfl (Or.inl rfl))) (fun _ _ _ _ _ => pts_nil)
          (fun _ _ _ _ _ => (pe_by (E := E0) K (eOr (eOp (fInS false) (eVar 1) (eC (.str "abcdefghijklmnopqrstuvwxyz"))) (eOp (fInS false) (eVar 1) (eC (.str "0123456789")))) (l_orV (l_op s_inS0 l_var l_str) (l_op s_inS0 l_var l_str)) (pe_or (pe_cmpR (r := rInS) op_inS (pv 1) (pe_glob (v := .str "abcdefghijklmnopqrstuvwxyz") (by rfl) hKLETTERS.choose_spec ⟨_, rfl⟩) (by rfl)) (pe_one (pe_cmpR (r := rInS) op_inS (pv 1) (pe_glob (v := .str "0123456789") (by rfl) hKDIGITS.choose_spec ⟨_, rfl⟩) (by rfl))))))) pa_nil)))))))), ?_⟩
  exact d_read0 (n := 1) (N := ["found", "sign"]) (w_seq (w_if (l_not (l_Test (l_chain s_bool s_bool l_int (l_N s_lenS (l_cons l_var l_nil)) l_int))) (w_ret l_bl) w_next) (w_ret (l_andV (l_op s_inS0 (l_op s_ixS l_var l_int) l_str) (l_N s_bs (l_cons (l_lc (i_str l_var) g_name (by decide) l_yes (l_orV (l_op s_inS0 l_var l_str) (l_op s_inS0 l_var l_str))) l_nil))))) (by decide) z
end
end DL

set_option Elab.async false
set_option linter.all false
set_option maxRecDepth 100000
set_option maxHeartbeats 1000000
namespace DL
open PySem L2 He DX DW
section
variable {P : Program} {w : World} {K : PySem.W.Frag} {mg : Str → Option Value} {base : Heap} {f : Addr} {fd : FuncData}
theorem sc_is_name : FnScope ["found"] ["found"] (defScope s_is_name) := ⟨rfl, rfl, rfl, by decide +kernel, rfl, by decide +kernel, by decide +kernel⟩
theorem ok_is_name (F : FnP K "is_name" "is_name" s_is_name [] f fd) (TX : Tx K) (T : TT mg)
    (hKRESERVED : mgTup K mg "RESERVED" ["sum", "each"])
    (Gis_word : GloOk P w K mg base CX0 1 "is_word" ["found"] (spD K 1 f_is_word)) : FnOk P w K mg base CX0 2 f fd ["found"] (spD K 1 f_is_name) := by
  obtain ⟨fis_word, fdis_word, Gis_word, mis_word, kis_word, bis_word⟩ := Gis_word
  refine F.ok sc_is_name (fun vs H Q X z => sp_len z) (fun cdv A outer s H vs Q X hr z => ?_)
  refine ⟨_, PSs.nox (
      (pss_one (ps_ret (pe_and (pe_callB call_isi (by rfl) T.isinst (by decide +kernel) (pa_cons (pv 0) (pa_cons (pe_bltn (v := .ty "str") (by rfl) T.str (by decide +kernel) rfl) pa_nil))) (pe_and (pe_call Gis_word (hr.mono (by decide)) rfl mis_word kis_word bis_word .nil pass0 (pa_cons (pv 0) pa_nil)) (pe_one (pe_cmpR (op_notInT hr (by decide)) (pv 0) (pe_glob (v := .ref hKRESERVED.choose) (by rfl) hKRESERVED.choose_spec.1 rfl) (by rfl)))))))), ?_⟩
  exact d_read0 (n := 1) (N := ["found"]) (w_ret (l_andV (l_isB TX (by decide) l_var) (l_andV (l_call (l_cons l_var l_nil)) (l_op s_inT l_var (l_gt hKRESERVED))))) (by decide) z
end
end DL

set_option Elab.async false
set_option linter.all false
set_option maxRecDepth 100000
set_option maxHeartbeats 1000000
namespace DL
open PySem L2 He DX DW
section
variable {P : Program} {w : World} {K : PySem.W.Frag} {mg : Str → Option Value} {base : Heap} {f : Addr} {fd : FuncData}
theorem sc_are_names : FnScope ["found", "name"] ["found"] (defScope s_are_names) := ⟨rfl, rfl, rfl, by decide +kernel, rfl, by decide +kernel, by decide +kernel⟩
theorem ok_are_names (F : FnP K "are_names" "are_names" s_are_names [] f fd) (TX : Tx K) (T : TT mg)
    (Gis_name : GloOk P w K mg base CX0 2 "is_name" ["found"] (spD K 1 f_is_name))
    (Gis_sequence : GloOk P w K mg base CX0 1 "is_sequence" ["found"] (spD K 1 f_is_sequence)) : FnOk P w K mg base CX0 3 f fd ["found"] (spD K 1 f_are_names) := by
  obtain ⟨fis_name, fdis_name, Gis_name, mis_name, kis_name, bis_name⟩ := Gis_name
  obtain ⟨fis_sequence, fdis_sequence, Gis_sequence, mis_sequence, kis_sequence, bis_sequence⟩ := Gis_sequence
  refine F.ok sc_are_names (fun vs H Q X z => sp_len z) (fun cdv A outer s H vs Q X hr z => ?_)
  refine ⟨_, PSs.nox (
      (pss_one (ps_ret (pe_and (pe_call Gis_sequence (hr.mono (by decide)) rfl mis_sequence kis_sequence bis_sequence .nil pass0 (pa_cons (pv 0) pa_nil)) (pe_and (pe_cmpR op_gt (pe_callB call_len_seq (by rfl) T.len PySem.boot_len (pa_cons (pv 0) pa_nil)) pe_int (nomark _)) (pe_one (pe_callB (cr_all rfl) (by rfl) T.all (by decide +kernel) (pa_cons (pe_lc (own := [("name", 1)]) (g := gName 1) (tt := tYes) (by rfl) sc_are_names.nd (DX.pi_row (pv 0)) (blkOk_by (own := [("name", 1)]) (N := ["found", "name"]) (sc := defScope s_are_names) (by decide +kernel)) (fun _ _ _ _ _ => (pg_name (i := 1) sc_are_names.nd rfl (Or.inl rfl))) (fun _ _ _ _ _ => pts_nil)
          (fun _ _ _ _ _ => (pe_by (E := E0) K (eCall0 f_is_name (aCons (eVar 1) aNil)) (l_call (l_cons l_var l_nil)) (pe_call Gis_name (hr.mono (by decide)) rfl mis_name kis_name bis_name .nil pass0 (pa_cons (pv 1) pa_nil))))) pa_nil)))))))), ?_⟩
  exact d_read0 (n := 1) (N := ["found", "name"]) (w_ret (l_andV (l_call (l_cons l_var l_nil)) (l_andV (l_op s_bool (l_N s_len (l_cons l_var l_nil)) l_int) (l_N s_bs (l_cons (l_lc (i_row l_var) g_name (by decide) l_yes (l_call (l_cons l_var l_nil))) l_nil))))) (by decide) z
end
end DL

set_option Elab.async false
set_option linter.all false
set_option maxRecDepth 100000
set_option maxHeartbeats 1000000
namespace DL
open PySem L2 He DX DW
section
variable {P : Program} {w : World} {K : PySem.W.Frag} {mg : Str → Option Value} {base : Heap} {f : Addr} {fd : FuncData}
theorem sc_are_unlike_names : FnScope ["found"] ["found"] (defScope s_are_unlike_names) := ⟨rfl, rfl, rfl, by decide +kernel, rfl, by decide +kernel, by decide +kernel⟩
theorem ok_are_unlike_names (F : FnP K "are_unlike_names" "are_unlike_names" s_are_unlike_names [] f fd) (TX : Tx K) (T : TT mg)
    (Gare_names : GloOk P w K mg base CX0 3 "are_names" ["found"] (spD K 1 f_are_names)) : FnOk P w K mg base CX0 4 f fd ["found"] (spD K 1 f_are_unlike_names) := by
  obtain ⟨fare_names, fdare_names, Gare_names, mare_names, kare_names, bare_names⟩ := Gare_names
  refine F.ok sc_are_unlike_names (fun vs H Q X z => sp_len z) (fun cdv A outer s H vs Q X hr z => ?_)
  refine ⟨_, PSs.nox (
      (pss_one (ps_ret (pe_and (pe_call Gare_names (hr.mono (by decide)) rfl mare_names kare_names bare_names .nil pass0 (pa_cons (pv 0) pa_nil)) (pe_one (pe_cmpR op_eq (pe_lenTx (by rfl) (by rfl) T.len (by rfl) T.set (pv 0)) (pe_callB call_len_seq (by rfl) T.len PySem.boot_len (pa_cons (pv 0) pa_nil)) (nomark _))))))), ?_⟩
  exact d_read0 (n := 1) (N := ["found"]) (w_ret (l_andV (l_call (l_cons l_var l_nil)) (l_op s_eq (l_lenSet l_var) (l_N s_len (l_cons l_var l_nil))))) (by decide) z
end
end DL

set_option Elab.async false
set_option linter.all false
set_option maxRecDepth 100000
set_option maxHeartbeats 1000000
namespace DL
open PySem L2 He DX DW
section
variable {P : Program} {w : World} {K : PySem.W.Frag} {mg : Str → Option Value} {base : Heap} {f : Addr} {fd : FuncData}
theorem sc_is_figure : FnScope ["text", "sign"] ["text"] (defScope s_is_figure) := ⟨rfl, rfl, rfl, by decide +kernel, rfl, by decide +kernel, by decide +kernel⟩
theorem ok_is_figure (F : FnP K "is_figure" "is_figure" s_is_figure [] f fd) (TX : Tx K) (T : TT mg)
    (hKDIGITS : mgStr mg "DIGITS" "0123456789")
    (hKMOST_DIGITS : mgInt mg "MOST_DIGITS" 60) : FnOk P w K mg base CX0 1 f fd ["text"] (spD K 1 f_is_figure) := by
  refine F.ok sc_is_figure (fun vs H Q X z => sp_len z) (fun cdv A outer s H vs Q X hr z => ?_)
  refine ⟨_, PSs.nox (
      (pss_cons (ps_if (pt_not (pt_chain op_le op_le pe_int (pe_callB call_len_str (by rfl) T.len PySem.boot_len (pa_cons (pv 0) pa_nil)) (pe_glob (v := .int 60) (by rfl) hKMOST_DIGITS.choose_spec ⟨_, rfl⟩))) 
        (pss_one (ps_ret pe_bl)) pss_nil) 
      (pss_one (ps_ret (pe_and (pe_callB (cr_all rfl) (by rfl) T.all (by decide +kernel) (pa_cons (pe_lc (own := [("sign", 1)]) (g := gName 1) (tt := tYes) (by rfl) sc_is_figure.nd (pi_str (pv 0)) (blkOk_by (own := [("sign", 1)]) (N := ["text", "sign"]) (sc := defScope s_is_figure) (by decide +kernel)) (fun _ _ _ _ _ => (pg_name (i := 1) sc_is_figure.nd rfl (Or.inl rfl))) (fun _ _ _ _ _ => pts_nil)
          (fun _ _ _ _ _ => (pe_by (E := E0) K (eOp (fInS false) (eVar 1) (eC (.str "0123456789"))) (l_op s_inS0 l_var l_str) (pe_cmpR (r := rInS) op_inS (pv 1) (pe_glob (v := .str "0123456789") (by rfl) hKDIGITS.choose_spec ⟨_, rfl⟩) (by rfl))))) pa_nil)) (pe_one (pe_or (pe_cmpR op_eq (pv 0) pe_str (nomark _)) (pe_one (pe_cmpR op_ne (pe_ix ix_str (pv 0) pe_int (fun _ _ => rfl)) pe_str (nomark _)))))))))), ?_⟩
  exact d_read0 (n := 1) (N := ["text", "sign"]) (w_seq (w_if (l_not (l_Test (l_chain s_bool s_bool l_int (l_N s_lenS (l_cons l_var l_nil)) l_int))) (w_ret l_bl) w_next) (w_ret (l_andV (l_N s_bs (l_cons (l_lc (i_str l_var) g_name (by decide) l_yes (l_op s_inS0 l_var l_str)) l_nil)) (l_orV (l_op s_eq l_var l_str) (l_op s_ne (l_op s_ixS l_var l_int) l_str))))) (by decide) z
end
end DL

set_option Elab.async false
set_option linter.all false
set_option maxRecDepth 100000
set_option maxHeartbeats 1000000
namespace DL
open PySem L2 He DX DW
section
variable {P : Program} {w : World} {K : PySem.W.Frag} {mg : Str → Option Value} {base : Heap} {f : Addr} {fd : FuncData}
theorem sc_are_pairs_of_axes : FnScope ["axes", "axis"] ["axes"] (defScope s_are_pairs_of_axes) := ⟨rfl, rfl, rfl, by decide +kernel, rfl, by decide +kernel, by decide +kernel⟩
theorem ok_are_pairs_of_axes (F : FnP K "are_pairs_of_axes" "are_pairs_of_axes" s_are_pairs_of_axes [] f fd) (TX : Tx K) (T : TT mg)
    (hKMOST_AXES : mgInt mg "MOST_AXES" 3)
    (Gis_pair : GloOk P w K mg base CX0 2 "is_pair" ["found"] (spD K 1 f_is_pair))
    (Gis_sequence : GloOk P w K mg base CX0 1 "is_sequence" ["found"] (spD K 1 f_is_sequence)) : FnOk P w K mg base CX0 3 f fd ["axes"] (spD K 1 f_are_pairs_of_axes) := by
  obtain ⟨fis_pair, fdis_pair, Gis_pair, mis_pair, kis_pair, bis_pair⟩ := Gis_pair
  obtain ⟨fis_sequence, fdis_sequence, Gis_sequence, mis_sequence, kis_sequence, bis_sequence⟩ := Gis_sequence
  refine F.ok sc_are_pairs_of_axes (fun vs H Q X z => sp_len z) (fun cdv A outer s H vs Q X hr z => ?_)
  refine ⟨_, PSs.nox (
      (pss_one (ps_ret (pe_and (pe_call Gis_sequence (hr.mono (by decide)) rfl mis_sequence kis_sequence bis_sequence .nil pass0 (pa_cons (pv 0) pa_nil)) (pe_and (pe_chain op_le op_le pe_int (pe_callB call_len_seq (by rfl) T.len PySem.boot_len (pa_cons (pv 0) pa_nil)) (pe_glob (v := .int 3) (by rfl) hKMOST_AXES.choose_spec ⟨_, rfl⟩)) (pe_one (pe_callB (cr_all rfl) (by rfl) T.all (by decide +kernel) (pa_cons (pe_lc (own := [("axis", 1)]) (g := gName 1) (tt := tYes) (by rfl) sc_are_pairs_of_axes.nd (DX.pi_row (pv 0)) (blkOk_by (own := [("axis", 1)]) (N := ["axes", "axis"]) (sc := defScope s_are_pairs_of_axes) (by decide +kernel)) (fun _ _ _ _ _ => (pg_name (i := 1) sc_are_pairs_of_axes.nd rfl (Or.inl rfl))) (fun _ _ _ _ _ => pts_nil)
          (fun _ _ _ _ _ => (pe_by (E := E0) K (eCall0 f_is_pair (aCons (eVar 1) aNil)) (l_call (l_cons l_var l_nil)) (pe_call Gis_pair (hr.mono (by decide)) rfl mis_pair kis_pair bis_pair .nil pass0 (pa_cons (pv 1) pa_nil))))) pa_nil)))))))), ?_⟩
  exact d_read0 (n := 1) (N := ["axes", "axis"]) (w_ret (l_andV (l_call (l_cons l_var l_nil)) (l_andV (l_chain s_bool s_bool l_int (l_N s_len (l_cons l_var l_nil)) l_int) (l_N s_bs (l_cons (l_lc (i_row l_var) g_name (by decide) l_yes (l_call (l_cons l_var l_nil))) l_nil))))) (by decide) z
end
end DL

set_option Elab.async false
set_option linter.all false
set_option maxRecDepth 100000
set_option maxHeartbeats 1000000
namespace DL
open PySem L2 He DX DW
section
variable {P : Program} {w : World} {K : PySem.W.Frag} {mg : Str → Option Value} {base : Heap} {f : Addr} {fd : FuncData}
theorem sc_are_members : FnScope ["found"] ["found"] (defScope s_are_members) := ⟨rfl, rfl, rfl, by decide +kernel, rfl, by decide +kernel, by decide +kernel⟩
theorem ok_are_members (F : FnP K "are_members" "are_members" s_are_members [] f fd) (TX : Tx K) (T : TT mg)
    (hKMOST_MEMBERS : mgInt mg "MOST_MEMBERS" 4)
    (Gare_unlike_names : GloOk P w K mg base CX0 4 "are_unlike_names" ["found"] (spD K 1 f_are_unlike_names)) : FnOk P w K mg base CX0 5 f fd ["found"] (spD K 1 f_are_members) := by
  obtain ⟨fare_unlike_names, fdare_unlike_names, Gare_unlike_names, mare_unlike_names, kare_unlike_names, bare_unlike_names⟩ := Gare_unlike_names
  refine F.ok sc_are_members (fun vs H Q X z => sp_len z) (fun cdv A outer s H vs Q X hr z => ?_)
  refine ⟨_, PSs.nox (
      (pss_one (ps_ret (pe_and (pe_call Gare_unlike_names (hr.mono (by decide)) rfl mare_unlike_names kare_unlike_names bare_unlike_names .nil pass0 (pa_cons (pv 0) pa_nil)) (pe_one (pe_cmpR op_le (pe_callB call_len_seq (by rfl) T.len PySem.boot_len (pa_cons (pv 0) pa_nil)) (pe_glob (v := .int 4) (by rfl) hKMOST_MEMBERS.choose_spec ⟨_, rfl⟩) (nomark _))))))), ?_⟩
  exact d_read0 (n := 1) (N := ["found"]) (w_ret (l_andV (l_call (l_cons l_var l_nil)) (l_op s_bool (l_N s_len (l_cons l_var l_nil)) l_int))) (by decide) z
end
end DL

set_option Elab.async false
set_option linter.all false
set_option maxRecDepth 100000
set_option maxHeartbeats 1000000
namespace DL
open PySem L2 He DX DW
section
variable {P : Program} {w : World} {K : PySem.W.Frag} {mg : Str → Option Value} {base : Heap} {f : Addr} {fd : FuncData}
theorem sc_place_of_axis : FnScope ["grid", "name", "place", "axis"] ["grid", "name"] (defScope s_place_of_axis) := ⟨rfl, rfl, rfl, by decide +kernel, rfl, by decide +kernel, by decide +kernel⟩
theorem ok_place_of_axis (F : FnP K "place_of_axis" "place_of_axis" s_place_of_axis [] f fd) (TX : Tx K) (T : TT mg) : FnOk P w K mg base CX0 1 f fd ["grid", "name"] (spD K 2 f_place_of_axis) := by
  refine F.ok sc_place_of_axis (fun vs H Q X z => sp_len z) (fun cdv A outer s H vs Q X hr z => ?_)
  refine ⟨_, PSs.nox (
      (pss_cons (ps_for PassesOwn.never rfl (DX.pi_enumA rfl T.enum (pa_cons (pe_fld (pv 0) rfl) pa_nil)) (pg_tup (by rfl) (pgs_cons (pg_name (i := 2) sc_place_of_axis.nd rfl (Or.inl rfl)) (pgs_cons (pg_name (i := 3) sc_place_of_axis.nd rfl (Or.inl rfl)) pgs_nil))) 
        (pss_one (ps_if (pt_cmpR (op_eqS (hus_of hr)) (pe_ix ix_tup (pv 3) pe_int (fun _ _ => rfl)) (pv 1) (nomark _)) 
          (pss_one (ps_ret (pv 2))) pss_nil))) 
      (pss_one (ps_ret pe_non)))), ?_⟩
  exact d_read0 (n := 2) (N := ["grid", "name", "place", "axis"]) (w_seq (w_for (i_enumerate (l_cons (l_fld TX l_var) l_nil)) (g_tup (gs_cons (gs_cons gs_nil)) rfl) (w_if (l_Test (l_op s_eqS (l_op s_ixT l_var l_int) l_var)) (w_ret l_var) w_next)) (w_ret l_non)) (by decide) z
end
end DL

set_option Elab.async false
set_option linter.all false
set_option maxRecDepth 100000
set_option maxHeartbeats 1000000
namespace DL
open PySem L2 He DX DW
section
variable {P : Program} {w : World} {K : PySem.W.Frag} {mg : Str → Option Value} {base : Heap} {f : Addr} {fd : FuncData}
theorem sc_are_members_among : FnScope ["found", "members", "name"] ["found", "members"] (defScope s_are_members_among) := ⟨rfl, rfl, rfl, by decide +kernel, rfl, by decide +kernel, by decide +kernel⟩
theorem ok_are_members_among (F : FnP K "are_members_among" "are_members_among" s_are_members_among [] f fd) (TX : Tx K) (T : TT mg)
    (Gare_names : GloOk P w K mg base CX0 3 "are_names" ["found"] (spD K 1 f_are_names)) : FnOk P w K mg base CX0 4 f fd ["found", "members"] (spD K 2 f_are_members_among) := by
  obtain ⟨fare_names, fdare_names, Gare_names, mare_names, kare_names, bare_names⟩ := Gare_names
  refine F.ok sc_are_members_among (fun vs H Q X z => sp_len z) (fun cdv A outer s H vs Q X hr z => ?_)
  refine ⟨_, PSs.nox (
      (pss_one (ps_ret (pe_and (pe_call Gare_names (hr.mono (by decide)) rfl mare_names kare_names bare_names .nil pass0 (pa_cons (pv 0) pa_nil)) (pe_one (pe_callB (cr_all rfl) (by rfl) T.all (by decide +kernel) (pa_cons (pe_lc (own := [("name", 2)]) (g := gName 2) (tt := tYes) (by rfl) sc_are_members_among.nd (DX.pi_row (pv 0)) (blkOk_by (own := [("name", 2)]) (N := ["found", "members", "name"]) (sc := defScope s_are_members_among) (by decide +kernel)) (fun _ _ _ _ _ => (pg_name (i := 2) sc_are_members_among.nd rfl (Or.inl rfl))) (fun _ _ _ _ _ => pts_nil)
          (fun _ _ _ _ _ => (pe_by (E := E0) K (eOp (fInT false) (eVar 2) (eVar 1)) (l_op s_inT l_var l_var) (pe_cmpR (op_inT hr (by decide)) (pv 2) (pv 1) (by rfl))))) pa_nil))))))), ?_⟩
  exact d_read0 (n := 2) (N := ["found", "members", "name"]) (w_ret (l_andV (l_call (l_cons l_var l_nil)) (l_N s_bs (l_cons (l_lc (i_row l_var) g_name (by decide) l_yes (l_op s_inT l_var l_var)) l_nil)))) (by decide) z
end
end DL

set_option Elab.async false
set_option linter.all false
set_option maxRecDepth 100000
set_option maxHeartbeats 1000000
namespace DL
open PySem L2 He DX DW
section
variable {P : Program} {w : World} {K : PySem.W.Frag} {mg : Str → Option Value} {base : Heap} {f : Addr} {fd : FuncData}
theorem sc_Ratio_x___init__ : FnScope ["self", "top", "bottom", "shared"] ["self", "top", "bottom"] (defScope s_Ratio_x___init__) := ⟨rfl, rfl, rfl, by decide +kernel, rfl, by decide +kernel, by decide +kernel⟩
theorem ok_Ratio_x___init__ (F : FnP K "__init__" "Ratio.__init__" s_Ratio_x___init__ [.int 1] f fd) (TX : Tx K) (T : TT mg)
    (mgc_NoRatio : mg "NoRatio" = some (.ref (He.ga K "NoRatio")))
    (XNoRatio : EXn K (He.ga K "NoRatio") ["word"])
    (hgcd : mg "gcd" = some (.builtin "math.gcd"))
    (Gis_integer : GloOk P w K mg base CX0 1 "is_integer" ["found"] (spD K 1 f_is_integer))
    (GNoRatio_x___init__ : ErrOk P w K mg base (He.ga K "NoRatio") 1 ["self", "word"] (spXI (He.ga K "NoRatio") ["word"])) : FnOk P w K mg base (L2.CX P w) 3 f fd ["self", "top", "bottom"] (spI K "Ratio" 2 f_Ratio_x___init__) := by
  obtain ⟨fis_integer, fdis_integer, Gis_integer, mis_integer, kis_integer, bis_integer⟩ := Gis_integer
  obtain ⟨fNoRatio_x___init__, fdNoRatio_x___init__, GNoRatio_x___init__, iNoRatio_x___init__, tNoRatio_x___init__, bNoRatio_x___init__⟩ := GNoRatio_x___init__
  refine F.ok sc_Ratio_x___init__ (fun vs H Q X z => spI_len z) (fun cdv A outer s H vs Q X hr z => ?_)
  refine ⟨_, 
      (pss_cons (ps_if (pt_not (pt_val (pe_call Gis_integer (hr.mono (by decide)) rfl mis_integer kis_integer bis_integer .nil pass0 (pa_cons (pv 1) pa_nil)))) 
        (pss_one (ps_raise rfl (takes_of rfl rfl rfl rfl) (pmk_oex XNoRatio.ox iNoRatio_x___init__ tNoRatio_x___init__ GNoRatio_x___init__ (hr.mono (by decide)) bNoRatio_x___init__ .nil pass0 rfl mgc_NoRatio (pa_cons pe_str pa_nil)))) pss_nil) 
      (pss_cons (ps_if (pt_not (pt_val (pe_call Gis_integer (hr.mono (by decide)) rfl mis_integer kis_integer bis_integer .nil pass0 (pa_cons (pv 2) pa_nil)))) 
        (pss_one (ps_raise rfl (takes_of rfl rfl rfl rfl) (pmk_oex XNoRatio.ox iNoRatio_x___init__ tNoRatio_x___init__ GNoRatio_x___init__ (hr.mono (by decide)) bNoRatio_x___init__ .nil pass0 rfl mgc_NoRatio (pa_cons pe_str pa_nil)))) pss_nil) 
      (pss_cons (ps_if (pt_cmpR op_eq (pv 2) pe_int (nomark _)) 
        (pss_one (ps_raise rfl (takes_of rfl rfl rfl rfl) (pmk_oex XNoRatio.ox iNoRatio_x___init__ tNoRatio_x___init__ GNoRatio_x___init__ (hr.mono (by decide)) bNoRatio_x___init__ .nil pass0 rfl mgc_NoRatio (pa_cons pe_str pa_nil)))) pss_nil) 
      (pss_cons (ps_set (i := 3) sc_Ratio_x___init__.nd rfl (Or.inl rfl) (pe_ifExp (pt_cmpR op_gt (pv 2) pe_int (nomark _)) (pe_callBfun cr_gcd (by rfl) hgcd (pa_cons (pv 1) (pa_cons (pv 2) pa_nil))) (pe_un un_neg (pe_callBfun cr_gcd (by rfl) hgcd (pa_cons (pv 1) (pa_cons (pv 2) pa_nil)))))) 
      (pss_cons (ps_fld (pv 0) (pe_op op_fdivX (pv 1) (pv 3)) rfl) 
      (pss_one (ps_fld (pv 0) (pe_op op_fdivX (pv 2) (pv 3)) rfl))))))), ?_⟩
  exact d_readI (n := 2) (c := "Ratio") (N := ["self", "top", "bottom", "shared"]) (w_seq (w_if (l_not (l_B (l_call (l_cons l_var l_nil)))) (w_raise (l_cons l_str l_nil) rfl (by decide)) w_next) (w_seq (w_if (l_not (l_B (l_call (l_cons l_var l_nil)))) (w_raise (l_cons l_str l_nil) rfl (by decide)) w_next) (w_seq (w_if (l_Test (l_op s_eq l_var l_int)) (w_raise (l_cons l_str l_nil) rfl (by decide)) w_next) (w_seq (w_setD (l_if (l_Test (l_op s_bool l_var l_int)) (l_N s_gcd (l_cons l_var (l_cons l_var l_nil))) (l_un s_neg (l_N s_gcd (l_cons l_var (l_cons l_var l_nil)))))) (w_seq (w_fld TX (l_op s_intC l_var l_var)) (w_fld TX (l_op s_intC l_var l_var))))))) (by decide) z
end
end DL

set_option Elab.async false
set_option linter.all false
set_option maxRecDepth 100000
set_option maxHeartbeats 1000000
namespace DL
open PySem L2 He DX DW
section
variable {P : Program} {w : World} {K : PySem.W.Frag} {mg : Str → Option Value} {base : Heap} {f : Addr} {fd : FuncData}
theorem sc_is_number : FnScope ["found"] ["found"] (defScope s_is_number) := ⟨rfl, rfl, rfl, by decide +kernel, rfl, by decide +kernel, by decide +kernel⟩
theorem ok_is_number (F : FnP K "is_number" "is_number" s_is_number [] f fd) (TX : Tx K) (T : TT mg)
    (pRatio : Pres K "Ratio")
    (mgc_Ratio : mg "Ratio" = some (.ref (He.ga K "Ratio")))
    (Gis_integer : GloOk P w K mg base CX0 1 "is_integer" ["found"] (spD K 1 f_is_integer)) : FnOk P w K mg base CX0 2 f fd ["found"] (spD K 1 f_is_number) := by
  obtain ⟨fis_integer, fdis_integer, Gis_integer, mis_integer, kis_integer, bis_integer⟩ := Gis_integer
  refine F.ok sc_is_number (fun vs H Q X z => sp_len z) (fun cdv A outer s H vs Q X hr z => ?_)
  refine ⟨_, PSs.nox (
      (pss_one (ps_ret (pe_or (pe_callB call_isi (by rfl) T.isinst (by decide +kernel) (pa_cons (pv 0) (pa_cons (pe_glob (v := .ref (He.ga K "Ratio")) (by rfl) mgc_Ratio rfl) pa_nil))) (pe_one (pe_call Gis_integer (hr.mono (by decide)) rfl mis_integer kis_integer bis_integer .nil pass0 (pa_cons (pv 0) pa_nil))))))), ?_⟩
  exact d_read0 (n := 1) (N := ["found"]) (w_ret (l_orV (l_isC TX pRatio l_var) (l_call (l_cons l_var l_nil)))) (by decide) z
end
end DL

set_option Elab.async false
set_option linter.all false
set_option maxRecDepth 100000
set_option maxHeartbeats 1000000
namespace DL
open PySem L2 He DX DW
section
variable {P : Program} {w : World} {K : PySem.W.Frag} {mg : Str → Option Value} {base : Heap} {f : Addr} {fd : FuncData}
theorem sc_as_ratio : FnScope ["number"] ["number"] (defScope s_as_ratio) := ⟨rfl, rfl, rfl, by decide +kernel, rfl, by decide +kernel, by decide +kernel⟩
theorem ok_as_ratio (F : FnP K "as_ratio" "as_ratio" s_as_ratio [] f fd) (TX : Tx K) (T : TT mg)
    (pRatio : Pres K "Ratio")
    (mgc_Ratio : mg "Ratio" = some (.ref (He.ga K "Ratio")))
    (GRatio_x___init__ : MkDOk P w K mg base (He.ga K "Ratio") (L2.CX P w) 3 ["self", "top", "bottom"] [.int 1] (spI K "Ratio" 2 f_Ratio_x___init__)) : FnOk P w K mg base (L2.CX P w) 5 f fd ["number"] (spD K 1 f_as_ratio) := by
  obtain ⟨fRatio_x___init__, fdRatio_x___init__, GRatio_x___init__, MRatio_x___init__, bRatio_x___init__, dRatio_x___init__, vRatio_x___init__, bDRatio_x___init__⟩ := GRatio_x___init__
  refine F.ok sc_as_ratio (fun vs H Q X z => sp_len z) (fun cdv A outer s H vs Q X hr z => ?_)
  refine ⟨_, 
      (pss_one (ps_ret (pe_ifExp (pt_val (pe_callB call_isi (by rfl) T.isinst (by decide +kernel) (pa_cons (pv 0) (pa_cons (pe_glob (v := .ref (He.ga K "Ratio")) (by rfl) mgc_Ratio rfl) pa_nil)))) (pv 0) (pe_make MRatio_x___init__ GRatio_x___init__ (hr.mono (by decide)) rfl mgc_Ratio bDRatio_x___init__ vRatio_x___init__ (passes_call (takes_of rfl rfl rfl rfl) (fun _ _ _ _ h => h)) (pa_cons (pv 0) pa_nil))))), ?_⟩
  exact d_read (n := 1) (N := ["number"]) (w_ret (l_if (l_B (l_isC TX pRatio l_var)) l_var (l_makeX pRatio (fun _ _ => .cons (.int _) .nil) (l_cons l_var l_nil) rfl))) (by decide) z
end
end DL

set_option Elab.async false
set_option linter.all false
set_option maxRecDepth 100000
set_option maxHeartbeats 1000000
namespace DL
open PySem L2 He DX DW
section
variable {P : Program} {w : World} {K : PySem.W.Frag} {mg : Str → Option Value} {base : Heap} {f : Addr} {fd : FuncData}
theorem sc_sign_of_difference : FnScope ["one", "other", "left", "right"] ["one", "other"] (defScope s_sign_of_difference) := ⟨rfl, rfl, rfl, by decide +kernel, rfl, by decide +kernel, by decide +kernel⟩
theorem ok_sign_of_difference (F : FnP K "sign_of_difference" "sign_of_difference" s_sign_of_difference [] f fd) (TX : Tx K) (T : TT mg)
    (Gas_ratio : GloOk P w K mg base (L2.CX P w) 5 "as_ratio" ["number"] (spD K 1 f_as_ratio)) : FnOk P w K mg base (L2.CX P w) 6 f fd ["one", "other"] (spD K 2 f_sign_of_difference) := by
  obtain ⟨fas_ratio, fdas_ratio, Gas_ratio, mas_ratio, kas_ratio, bas_ratio⟩ := Gas_ratio
  refine F.ok sc_sign_of_difference (fun vs H Q X z => sp_len z) (fun cdv A outer s H vs Q X hr z => ?_)
  refine ⟨_, 
      (pss_cons (ps_set (i := 2) sc_sign_of_difference.nd rfl (Or.inl rfl) (pe_call Gas_ratio (hr.mono (by decide)) rfl mas_ratio kas_ratio bas_ratio .nil (passes_call (takes_of rfl rfl rfl rfl) (fun _ _ _ _ h => h)) (pa_cons (pv 0) pa_nil))) 
      (pss_cons (ps_set (i := 3) sc_sign_of_difference.nd rfl (Or.inl rfl) (pe_call Gas_ratio (hr.mono (by decide)) rfl mas_ratio kas_ratio bas_ratio .nil (passes_call (takes_of rfl rfl rfl rfl) (fun _ _ _ _ h => h)) (pa_cons (pv 1) pa_nil))) 
      (pss_one (ps_ret (pe_op op_sub (pe_op op_mulW (pe_fld (pv 2) rfl) (pe_fld (pv 3) rfl)) (pe_op op_mulW (pe_fld (pv 3) rfl) (pe_fld (pv 2) rfl))))))), ?_⟩
  exact d_read (n := 2) (N := ["one", "other", "left", "right"]) (w_seq (w_setD (l_callX (l_cons l_var l_nil))) (w_seq (w_setD (l_callX (l_cons l_var l_nil))) (w_ret (l_op s_int (l_op s_intC (l_fld TX l_var) (l_fld TX l_var)) (l_op s_intC (l_fld TX l_var) (l_fld TX l_var)))))) (by decide) z
end
end DL

set_option Elab.async false
set_option linter.all false
set_option maxRecDepth 100000
set_option maxHeartbeats 1000000
namespace DL
open PySem L2 He DX DW
section
variable {P : Program} {w : World} {K : PySem.W.Frag} {mg : Str → Option Value} {base : Heap} {f : Addr} {fd : FuncData}
theorem sc_Ratio_x___neg__ : FnScope ["self"] ["self"] (defScope s_Ratio_x___neg__) := ⟨rfl, rfl, rfl, by decide +kernel, rfl, by decide +kernel, by decide +kernel⟩
theorem ok_Ratio_x___neg__ (F : FnP K "__neg__" "Ratio.__neg__" s_Ratio_x___neg__ [] f fd) (TX : Tx K) (T : TT mg)
    (pRatio : Pres K "Ratio")
    (mgc_Ratio : mg "Ratio" = some (.ref (He.ga K "Ratio")))
    (GRatio_x___init__ : MkDOk P w K mg base (He.ga K "Ratio") (L2.CX P w) 3 ["self", "top", "bottom"] [.int 1] (spI K "Ratio" 2 f_Ratio_x___init__)) : FnOk P w K mg base (L2.CX P w) 5 f fd ["self"] (spD K 1 f_Ratio_x___neg__) := by
  obtain ⟨fRatio_x___init__, fdRatio_x___init__, GRatio_x___init__, MRatio_x___init__, bRatio_x___init__, dRatio_x___init__, vRatio_x___init__, bDRatio_x___init__⟩ := GRatio_x___init__
  refine F.ok sc_Ratio_x___neg__ (fun vs H Q X z => sp_len z) (fun cdv A outer s H vs Q X hr z => ?_)
  refine ⟨_, 
      (pss_one (ps_ret (pe_make MRatio_x___init__ GRatio_x___init__ (hr.mono (by decide)) rfl mgc_Ratio bRatio_x___init__ .nil (passes_call (takes_of rfl rfl rfl rfl) (fun _ _ _ _ h => h)) (pa_cons (pe_un un_neg (pe_fld (pv 0) rfl)) (pa_cons (pe_fld (pv 0) rfl) pa_nil))))), ?_⟩
  exact d_read (n := 1) (N := ["self"]) (w_ret (l_makeX pRatio (fun _ _ => .nil) (l_cons (l_un s_neg (l_fld TX l_var)) (l_cons (l_fld TX l_var) l_nil)) rfl)) (by decide) z
end
end DL

set_option Elab.async false
set_option linter.all false
set_option maxRecDepth 100000
set_option maxHeartbeats 1000000
namespace DL
open PySem L2 He DX DW
section
variable {P : Program} {w : World} {K : PySem.W.Frag} {mg : Str → Option Value} {base : Heap} {f : Addr} {fd : FuncData}
theorem sc_Ratio_x___abs__ : FnScope ["self"] ["self"] (defScope s_Ratio_x___abs__) := ⟨rfl, rfl, rfl, by decide +kernel, rfl, by decide +kernel, by decide +kernel⟩
theorem ok_Ratio_x___abs__ (F : FnP K "__abs__" "Ratio.__abs__" s_Ratio_x___abs__ [] f fd) (TX : Tx K) (T : TT mg)
    (pRatio : Pres K "Ratio")
    (mgc_Ratio : mg "Ratio" = some (.ref (He.ga K "Ratio")))
    (GRatio_x___init__ : MkDOk P w K mg base (He.ga K "Ratio") (L2.CX P w) 3 ["self", "top", "bottom"] [.int 1] (spI K "Ratio" 2 f_Ratio_x___init__)) : FnOk P w K mg base (L2.CX P w) 5 f fd ["self"] (spD K 1 f_Ratio_x___abs__) := by
  obtain ⟨fRatio_x___init__, fdRatio_x___init__, GRatio_x___init__, MRatio_x___init__, bRatio_x___init__, dRatio_x___init__, vRatio_x___init__, bDRatio_x___init__⟩ := GRatio_x___init__
  refine F.ok sc_Ratio_x___abs__ (fun vs H Q X z => sp_len z) (fun cdv A outer s H vs Q X hr z => ?_)
  refine ⟨_, 
      (pss_one (ps_ret (pe_make MRatio_x___init__ GRatio_x___init__ (hr.mono (by decide)) rfl mgc_Ratio bRatio_x___init__ .nil (passes_call (takes_of rfl rfl rfl rfl) (fun _ _ _ _ h => h)) (pa_cons (pe_callB call_abs (by rfl) T.abs (by decide +kernel) (pa_cons (pe_fld (pv 0) rfl) pa_nil)) (pa_cons (pe_fld (pv 0) rfl) pa_nil))))), ?_⟩
  exact d_read (n := 1) (N := ["self"]) (w_ret (l_makeX pRatio (fun _ _ => .nil) (l_cons (l_N s_1I (l_cons (l_fld TX l_var) l_nil)) (l_cons (l_fld TX l_var) l_nil)) rfl)) (by decide) z
end
end DL

set_option Elab.async false
set_option linter.all false
set_option maxRecDepth 100000
set_option maxHeartbeats 1000000
namespace DL
open PySem L2 He DX DW
section
variable {P : Program} {w : World} {K : PySem.W.Frag} {mg : Str → Option Value} {base : Heap} {f : Addr} {fd : FuncData}
theorem sc_Ratio_x_over : FnScope ["self", "number", "right"] ["self", "number"] (defScope s_Ratio_x_over) := ⟨rfl, rfl, rfl, by decide +kernel, rfl, by decide +kernel, by decide +kernel⟩
theorem ok_Ratio_x_over (F : FnP K "over" "Ratio.over" s_Ratio_x_over [] f fd) (TX : Tx K) (T : TT mg)
    (pRatio : Pres K "Ratio")
    (mgc_Ratio : mg "Ratio" = some (.ref (He.ga K "Ratio")))
    (Gas_ratio : GloOk P w K mg base (L2.CX P w) 5 "as_ratio" ["number"] (spD K 1 f_as_ratio))
    (GRatio_x___init__ : MkDOk P w K mg base (He.ga K "Ratio") (L2.CX P w) 3 ["self", "top", "bottom"] [.int 1] (spI K "Ratio" 2 f_Ratio_x___init__)) : FnOk P w K mg base (L2.CX P w) 6 f fd ["self", "number"] (spD K 2 f_Ratio_x_over) := by
  obtain ⟨fas_ratio, fdas_ratio, Gas_ratio, mas_ratio, kas_ratio, bas_ratio⟩ := Gas_ratio
  obtain ⟨fRatio_x___init__, fdRatio_x___init__, GRatio_x___init__, MRatio_x___init__, bRatio_x___init__, dRatio_x___init__, vRatio_x___init__, bDRatio_x___init__⟩ := GRatio_x___init__
  refine F.ok sc_Ratio_x_over (fun vs H Q X z => sp_len z) (fun cdv A outer s H vs Q X hr z => ?_)
  refine ⟨_, 
      (pss_cons (ps_set (i := 2) sc_Ratio_x_over.nd rfl (Or.inl rfl) (pe_call Gas_ratio (hr.mono (by decide)) rfl mas_ratio kas_ratio bas_ratio .nil (passes_call (takes_of rfl rfl rfl rfl) (fun _ _ _ _ h => h)) (pa_cons (pv 1) pa_nil))) 
      (pss_one (ps_ret (pe_make MRatio_x___init__ GRatio_x___init__ (hr.mono (by decide)) rfl mgc_Ratio bRatio_x___init__ .nil (passes_call (takes_of rfl rfl rfl rfl) (fun _ _ _ _ h => h)) (pa_cons (pe_op op_mulW (pe_fld (pv 0) rfl) (pe_fld (pv 2) rfl)) (pa_cons (pe_op op_mulW (pe_fld (pv 0) rfl) (pe_fld (pv 2) rfl)) pa_nil)))))), ?_⟩
  exact d_read (n := 2) (N := ["self", "number", "right"]) (w_seq (w_setD (l_callX (l_cons l_var l_nil))) (w_ret (l_makeX pRatio (fun _ _ => .nil) (l_cons (l_op s_intC (l_fld TX l_var) (l_fld TX l_var)) (l_cons (l_op s_intC (l_fld TX l_var) (l_fld TX l_var)) l_nil)) rfl))) (by decide) z
end
end DL

set_option Elab.async false
set_option linter.all false
set_option maxRecDepth 100000
set_option maxHeartbeats 1000000
namespace DL
open PySem L2 He DX DW
section
variable {P : Program} {w : World} {K : PySem.W.Frag} {mg : Str → Option Value} {base : Heap} {f : Addr} {fd : FuncData}
theorem sc_Ratio_x___eq__ : FnScope ["self", "other"] ["self", "other"] (defScope s_Ratio_x___eq__) := ⟨rfl, rfl, rfl, by decide +kernel, rfl, by decide +kernel, by decide +kernel⟩
theorem ok_Ratio_x___eq__ (F : FnP K "__eq__" "Ratio.__eq__" s_Ratio_x___eq__ [] f fd) (TX : Tx K) (T : TT mg)
    (pRatio : Pres K "Ratio")
    (mgc_Ratio : mg "Ratio" = some (.ref (He.ga K "Ratio")))
    (Gis_integer : GloOk P w K mg base CX0 1 "is_integer" ["found"] (spD K 1 f_is_integer)) : FnOk P w K mg base CX0 2 f fd ["self", "other"] (spD K 2 f_Ratio_x___eq__) := by
  obtain ⟨fis_integer, fdis_integer, Gis_integer, mis_integer, kis_integer, bis_integer⟩ := Gis_integer
  refine F.ok sc_Ratio_x___eq__ (fun vs H Q X z => sp_len z) (fun cdv A outer s H vs Q X hr z => ?_)
  refine ⟨_, PSs.nox (
      (pss_cons (ps_if (pt_val (pe_callB call_isi (by rfl) T.isinst (by decide +kernel) (pa_cons (pv 1) (pa_cons (pe_glob (v := .ref (He.ga K "Ratio")) (by rfl) mgc_Ratio rfl) pa_nil)))) 
        (pss_one (ps_ret (pe_and (pe_cmpR op_eq (pe_fld (pv 0) rfl) (pe_fld (pv 1) rfl) (nomark _)) (pe_one (pe_cmpR op_eq (pe_fld (pv 0) rfl) (pe_fld (pv 1) rfl) (nomark _)))))) pss_nil) 
      (pss_one (ps_ret (pe_and (pe_call Gis_integer (hr.mono (by decide)) rfl mis_integer kis_integer bis_integer .nil pass0 (pa_cons (pv 1) pa_nil)) (pe_and (pe_cmpR op_eq (pe_fld (pv 0) rfl) pe_int (nomark _)) (pe_one (pe_cmpR op_eq (pe_fld (pv 0) rfl) (pv 1) (nomark _))))))))), ?_⟩
  exact d_read0 (n := 2) (N := ["self", "other"]) (w_seq (w_if (l_B (l_isC TX pRatio l_var)) (w_ret (l_andV (l_op s_eq (l_fld TX l_var) (l_fld TX l_var)) (l_op s_eq (l_fld TX l_var) (l_fld TX l_var)))) w_next) (w_ret (l_andV (l_call (l_cons l_var l_nil)) (l_andV (l_op s_eq (l_fld TX l_var) l_int) (l_op s_eq (l_fld TX l_var) l_var))))) (by decide) z
end
end DL

set_option Elab.async false
set_option linter.all false
set_option maxRecDepth 100000
set_option maxHeartbeats 1000000
namespace DL
open PySem L2 He DX DW
section
variable {P : Program} {w : World} {K : PySem.W.Frag} {mg : Str → Option Value} {base : Heap} {f : Addr} {fd : FuncData}
theorem sc_over_one : FnScope ["numbers", "bottom", "number"] ["numbers"] (defScope s_over_one) := ⟨rfl, rfl, rfl, by decide +kernel, rfl, by decide +kernel, by decide +kernel⟩
theorem ok_over_one (F : FnP K "over_one" "over_one" s_over_one [] f fd) (TX : Tx K) (T : TT mg)
    (hlcm : mg "lcm" = some (.builtin "math.lcm")) : FnOk P w K mg base CX0 1 f fd ["numbers"] (spD K 1 f_over_one) := by
  refine F.ok sc_over_one (fun vs H Q X z => sp_len z) (fun cdv A outer s H vs Q X hr z => ?_)
  refine ⟨_, PSs.nox (
      (pss_cons (ps_set (i := 1) sc_over_one.nd rfl (Or.inr rfl) pe_int) 
      (pss_cons (ps_for PassesOwn.never rfl (DX.pi_row (pv 0)) (pg_name (i := 2) sc_over_one.nd rfl (Or.inl rfl)) 
        (pss_one (ps_set (i := 1) sc_over_one.nd rfl (Or.inr rfl) (pe_callBfun cr_lcm (by rfl) hlcm (pa_cons (pv 1) (pa_cons (pe_fld (pv 2) rfl) pa_nil)))))) 
      (pss_one (ps_ret (pe_tup (pa_cons (pe_lc (own := [("number", 2)]) (g := gName 2) (tt := tYes) (by rfl) sc_over_one.nd (DX.pi_row (pv 0)) (blkOk_by (own := [("number", 2)]) (N := ["numbers", "bottom", "number"]) (sc := defScope s_over_one) (by decide +kernel)) (fun _ _ _ _ _ => (pg_name (i := 2) sc_over_one.nd rfl (Or.inl rfl))) (fun _ _ _ _ _ => pts_nil)
          (fun _ _ _ _ _ => (pe_by (E := E0) K (eOp fMul (eUn (mFld "top") (eVar 2)) (eOp fDivX (eVar 1) (eUn (mFld "bottom") (eVar 2)))) (l_op s_intC (l_fld TX l_var) (l_op s_intC l_var (l_fld TX l_var))) (pe_op op_mulW (pe_fld (pv 2) rfl) (pe_op op_fdivX (pv 1) (pe_fld (pv 2) rfl)))))) (pa_cons (pv 1) pa_nil)))))))), ?_⟩
  exact d_read0 (n := 1) (N := ["numbers", "bottom", "number"]) (w_seq (w_setD l_int) (w_seq (w_for (i_row l_var) g_name (w_setD (l_N s_lcm (l_cons l_var (l_cons (l_fld TX l_var) l_nil))))) (w_ret (l_eTup (l_cons (l_lc (i_row l_var) g_name (by decide) l_yes (l_op s_intC (l_fld TX l_var) (l_op s_intC l_var (l_fld TX l_var)))) (l_cons l_var l_nil)) (by decide))))) (by decide) z
end
end DL

set_option Elab.async false
set_option linter.all false
set_option maxRecDepth 100000
set_option maxHeartbeats 1000000
namespace DL
open PySem L2 He DX DW
section
variable {P : Program} {w : World} {K : PySem.W.Frag} {mg : Str → Option Value} {base : Heap} {f : Addr} {fd : FuncData}
theorem sc_dot : FnScope ["ones", "others", "one", "other"] ["ones", "others"] (defScope s_dot) := ⟨rfl, rfl, rfl, by decide +kernel, rfl, by decide +kernel, by decide +kernel⟩
theorem ok_dot (F : FnP K "dot" "dot" s_dot [] f fd) (TX : Tx K) (T : TT mg) : FnOk P w K mg base CX0 1 f fd ["ones", "others"] (spD K 2 f_dot) := by
  refine F.ok sc_dot (fun vs H Q X z => sp_len z) (fun cdv A outer s H vs Q X hr z => ?_)
  refine ⟨_, PSs.nox (
      (pss_one (ps_ret (pe_callB (cr_sum rfl) (by rfl) T.sum (by decide +kernel) (pa_cons (pe_lc (own := [("one", 2), ("other", 3)]) (g := gTup K 2 (gCons (gName 2) (gCons (gName 3) (gNil)))) (tt := tYes) (by rfl) sc_dot.nd (RZ.pi_zipA rfl T.zip (pa_cons (pv 0) (pa_cons (pv 1) pa_nil))) (blkOk_by (own := [("one", 2), ("other", 3)]) (N := ["ones", "others", "one", "other"]) (sc := defScope s_dot) (by decide +kernel)) (fun _ _ _ _ _ => (pg_tup (by rfl) (pgs_cons (pg_name (i := 2) sc_dot.nd rfl (Or.inl rfl)) (pgs_cons (pg_name (i := 3) sc_dot.nd rfl (Or.inl rfl)) pgs_nil)))) (fun _ _ _ _ _ => pts_nil)
          (fun _ _ _ _ _ => (pe_by (E := E0) K (eOp fMul (eVar 2) (eVar 3)) (l_op s_intC l_var l_var) (pe_op op_mulW (pv 2) (pv 3))))) pa_nil))))), ?_⟩
  exact d_read0 (n := 2) (N := ["ones", "others", "one", "other"]) (w_ret (l_N s_is (l_cons (l_lc (i_zip (l_cons l_var (l_cons l_var l_nil))) (g_tup (gs_cons (gs_cons gs_nil)) rfl) (by decide) l_yes (l_op s_intC l_var l_var)) l_nil))) (by decide) z
end
end DL

set_option Elab.async false
set_option linter.all false
set_option maxRecDepth 100000
set_option maxHeartbeats 1000000
namespace DL
open PySem L2 He DX DW
section
variable {P : Program} {w : World} {K : PySem.W.Frag} {mg : Str → Option Value} {base : Heap} {f : Addr} {fd : FuncData}
theorem sc_sum_of_products : FnScope ["ones", "others", "tops", "bottom", "other_tops", "other_bottom"] ["ones", "others"] (defScope s_sum_of_products) := ⟨rfl, rfl, rfl, by decide +kernel, rfl, by decide +kernel, by decide +kernel⟩
theorem ok_sum_of_products (F : FnP K "sum_of_products" "sum_of_products" s_sum_of_products [] f fd) (TX : Tx K) (T : TT mg)
    (pRatio : Pres K "Ratio")
    (mgc_Ratio : mg "Ratio" = some (.ref (He.ga K "Ratio")))
    (Gover_one : GloOk P w K mg base CX0 1 "over_one" ["numbers"] (spD K 1 f_over_one))
    (GRatio_x___init__ : MkDOk P w K mg base (He.ga K "Ratio") (L2.CX P w) 3 ["self", "top", "bottom"] [.int 1] (spI K "Ratio" 2 f_Ratio_x___init__))
    (Gdot : GloOk P w K mg base CX0 1 "dot" ["ones", "others"] (spD K 2 f_dot)) : FnOk P w K mg base (L2.CX P w) 5 f fd ["ones", "others"] (spD K 2 f_sum_of_products) := by
  obtain ⟨fover_one, fdover_one, Gover_one, mover_one, kover_one, bover_one⟩ := Gover_one
  obtain ⟨fRatio_x___init__, fdRatio_x___init__, GRatio_x___init__, MRatio_x___init__, bRatio_x___init__, dRatio_x___init__, vRatio_x___init__, bDRatio_x___init__⟩ := GRatio_x___init__
  obtain ⟨fdot, fddot, Gdot, mdot, kdot, bdot⟩ := Gdot
  refine F.ok sc_sum_of_products (fun vs H Q X z => sp_len z) (fun cdv A outer s H vs Q X hr z => ?_)
  refine ⟨_, 
      (pss_cons (ps_asg (pe_call Gover_one (hr.mono (by decide)) rfl mover_one kover_one bover_one .nil pass0 (pa_cons (pv 0) pa_nil)) (pg_tup (by rfl) (pgs_cons (pg_name (i := 2) sc_sum_of_products.nd rfl (Or.inl rfl)) (pgs_cons (pg_name (i := 3) sc_sum_of_products.nd rfl (Or.inl rfl)) pgs_nil)))) 
      (pss_cons (ps_asg (pe_call Gover_one (hr.mono (by decide)) rfl mover_one kover_one bover_one .nil pass0 (pa_cons (pv 1) pa_nil)) (pg_tup (by rfl) (pgs_cons (pg_name (i := 4) sc_sum_of_products.nd rfl (Or.inl rfl)) (pgs_cons (pg_name (i := 5) sc_sum_of_products.nd rfl (Or.inl rfl)) pgs_nil)))) 
      (pss_one (ps_ret (pe_make MRatio_x___init__ GRatio_x___init__ (hr.mono (by decide)) rfl mgc_Ratio bRatio_x___init__ .nil (passes_call (takes_of rfl rfl rfl rfl) (fun _ _ _ _ h => h)) (pa_cons (pe_call Gdot (hr.mono (by decide)) rfl mdot kdot bdot .nil pass0 (pa_cons (pv 2) (pa_cons (pv 4) pa_nil))) (pa_cons (pe_op op_mulW (pv 3) (pv 5)) pa_nil))))))), ?_⟩
  exact d_read (n := 2) (N := ["ones", "others", "tops", "bottom", "other_tops", "other_bottom"]) (w_seq (w_asg (l_call (l_cons l_var l_nil)) (g_tup (gs_cons (gs_cons gs_nil)) rfl)) (w_seq (w_asg (l_call (l_cons l_var l_nil)) (g_tup (gs_cons (gs_cons gs_nil)) rfl)) (w_ret (l_makeX pRatio (fun _ _ => .nil) (l_cons (l_call (l_cons l_var (l_cons l_var l_nil))) (l_cons (l_op s_intC l_var l_var) l_nil)) rfl)))) (by decide) z
end
end DL

set_option Elab.async false
set_option linter.all false
set_option maxRecDepth 100000
set_option maxHeartbeats 1000000
namespace DL
open PySem L2 He DX DW
section
variable {P : Program} {w : World} {K : PySem.W.Frag} {mg : Str → Option Value} {base : Heap} {f : Addr} {fd : FuncData}
theorem sc_are_amounts : FnScope ["grid", "found", "amount"] ["grid", "found"] (defScope s_are_amounts) := ⟨rfl, rfl, rfl, by decide +kernel, rfl, by decide +kernel, by decide +kernel⟩
theorem ok_are_amounts (F : FnP K "are_amounts" "are_amounts" s_are_amounts [] f fd) (TX : Tx K) (T : TT mg)
    (Gis_sequence : GloOk P w K mg base CX0 1 "is_sequence" ["found"] (spD K 1 f_is_sequence))
    (Gis_number : GloOk P w K mg base CX0 2 "is_number" ["found"] (spD K 1 f_is_number)) : FnOk P w K mg base CX0 3 f fd ["grid", "found"] (spD K 2 f_are_amounts) := by
  obtain ⟨fis_sequence, fdis_sequence, Gis_sequence, mis_sequence, kis_sequence, bis_sequence⟩ := Gis_sequence
  obtain ⟨fis_number, fdis_number, Gis_number, mis_number, kis_number, bis_number⟩ := Gis_number
  refine F.ok sc_are_amounts (fun vs H Q X z => sp_len z) (fun cdv A outer s H vs Q X hr z => ?_)
  refine ⟨_, PSs.nox (
      (pss_cons (ps_if (PW.pt (pw_or (pt_not (pt_val (pe_call Gis_sequence (hr.mono (by decide)) rfl mis_sequence kis_sequence bis_sequence .nil pass0 (pa_cons (pv 1) pa_nil)))) (pw_or1 (pt_cmpR op_ne (pe_callB call_len_seq (by rfl) T.len PySem.boot_len (pa_cons (pv 1) pa_nil)) (pe_fld (pv 0) rfl) (nomark _))))) 
        (pss_one (ps_ret pe_bl)) pss_nil) 
      (pss_one (ps_ret (pe_callB (cr_all rfl) (by rfl) T.all (by decide +kernel) (pa_cons (pe_lc (own := [("amount", 2)]) (g := gName 2) (tt := tYes) (by rfl) sc_are_amounts.nd (DX.pi_row (pv 1)) (blkOk_by (own := [("amount", 2)]) (N := ["grid", "found", "amount"]) (sc := defScope s_are_amounts) (by decide +kernel)) (fun _ _ _ _ _ => (pg_name (i := 2) sc_are_amounts.nd rfl (Or.inl rfl))) (fun _ _ _ _ _ => pts_nil)
          (fun _ _ _ _ _ => (pe_by (E := E0) K (eCall0 f_is_number (aCons (eVar 2) aNil)) (l_call (l_cons l_var l_nil)) (pe_call Gis_number (hr.mono (by decide)) rfl mis_number kis_number bis_number .nil pass0 (pa_cons (pv 2) pa_nil))))) pa_nil)))))), ?_⟩
  exact d_read0 (n := 2) (N := ["grid", "found", "amount"]) (w_seq (w_if (l_or (l_not (l_B (l_call (l_cons l_var l_nil)))) (l_Test (l_op s_ne (l_N s_len (l_cons l_var l_nil)) (l_fld TX l_var)))) (w_ret l_bl) w_next) (w_ret (l_N s_bs (l_cons (l_lc (i_row l_var) g_name (by decide) l_yes (l_call (l_cons l_var l_nil))) l_nil)))) (by decide) z
end
end DL

set_option Elab.async false
set_option linter.all false
set_option maxRecDepth 100000
set_option maxHeartbeats 1000000
namespace DL
open PySem L2 He DX DW
section
variable {P : Program} {w : World} {K : PySem.W.Frag} {mg : Str → Option Value} {base : Heap} {f : Addr} {fd : FuncData}
theorem sc_Grid_x___eq__ : FnScope ["self", "other"] ["self", "other"] (defScope s_Grid_x___eq__) := ⟨rfl, rfl, rfl, by decide +kernel, rfl, by decide +kernel, by decide +kernel⟩
theorem ok_Grid_x___eq__ (F : FnP K "__eq__" "Grid.__eq__" s_Grid_x___eq__ [] f fd) (TX : Tx K) (T : TT mg)
    (pGrid : Pres K "Grid")
    (mgc_Grid : mg "Grid" = some (.ref (He.ga K "Grid"))) : FnOk P w K mg base CX0 1 f fd ["self", "other"] (spD K 2 f_Grid_x___eq__) := by
  refine F.ok sc_Grid_x___eq__ (fun vs H Q X z => sp_len z) (fun cdv A outer s H vs Q X hr z => ?_)
  refine ⟨_, PSs.nox (
      (pss_one (ps_ret (pe_and (pe_callB call_isi (by rfl) T.isinst (by decide +kernel) (pa_cons (pv 1) (pa_cons (pe_glob (v := .ref (He.ga K "Grid")) (by rfl) mgc_Grid rfl) pa_nil))) (pe_one (pe_cmpR (op_eqD hr.units) (pe_fld (pv 0) rfl) (pe_fld (pv 1) rfl) (nomark _))))))), ?_⟩
  exact d_read0 (n := 2) (N := ["self", "other"]) (w_ret (l_andV (l_isC TX pGrid l_var) (l_op s_eqD (l_fld TX l_var) (l_fld TX l_var)))) (by decide) z
end
end DL

set_option Elab.async false
set_option linter.all false
set_option maxRecDepth 100000
set_option maxHeartbeats 1000000
namespace DL
open PySem L2 He DX DW
section
variable {P : Program} {w : World} {K : PySem.W.Frag} {mg : Str → Option Value} {base : Heap} {f : Addr} {fd : FuncData}
theorem sc_cells_of : FnScope ["axes", "cells", "_", "members", "cell", "member"] ["axes"] (defScope s_cells_of) := ⟨rfl, rfl, rfl, by decide +kernel, rfl, by decide +kernel, by decide +kernel⟩
theorem ok_cells_of (F : FnP K "cells_of" "cells_of" s_cells_of [] f fd) (TX : Tx K) (T : TT mg) : FnOk P w K mg base CX0 1 f fd ["axes"] (spD K 1 f_cells_of) := by
  refine F.ok sc_cells_of (fun vs H Q X z => sp_len z) (fun cdv A outer s H vs Q X hr z => ?_)
  refine ⟨_, PSs.nox (
      (pss_cons (ps_set (i := 1) sc_cells_of.nd rfl (Or.inl rfl) (pe_lst (pa_cons (pe_tup pa_nil) pa_nil))) 
      (pss_cons (ps_for PassesOwn.never rfl (pi_tup (pv 0)) (pg_tup (by rfl) (pgs_cons (pg_name (i := 2) sc_cells_of.nd rfl (Or.inl rfl)) (pgs_cons (pg_name (i := 3) sc_cells_of.nd rfl (Or.inr rfl)) pgs_nil))) 
        (pss_one (ps_setLc2 (i := 1) (own := [("cell", 4), ("member", 5)]) (vs1 := [5]) (g := gName 4) (g1 := gName 5) (tt := tYes) (tt1 := tYes) (by rfl) sc_cells_of.nd rfl (by rfl) (by rfl) (pi_list (pv 1)) (blkOk_by (own := [("cell", 4), ("member", 5)]) (N := ["axes", "cells", "_", "members", "cell", "member"]) (sc := defScope s_cells_of) (by decide +kernel)) (by decide) (fun _ _ _ _ _ => (pg_name (i := 4) sc_cells_of.nd rfl (Or.inl rfl))) (fun _ _ _ _ _ => pts_nil)
          (fun _ _ _ _ _ => (pi_by (E := E0) K (itT (eVar 3)) (i_tup l_var) (pi_tup (pv 3)))) (fun _ _ _ _ _ => (pg_name (i := 5) sc_cells_of.nd rfl (Or.inl rfl))) (fun _ _ _ _ _ => pts_nil)
          (fun _ _ _ _ _ => (pe_by (E := E0) K (eStar (eVar 4) (aCons (eVar 5) aNil)) (l_star l_var (l_cons l_var l_nil)) (pe_tup (StX.pa_star (pv 4) (pa_cons (pv 5) pa_nil)))))))) 
      (pss_one (ps_ret (pe_callTy (show CallR _ (.type "tuple") (rTup' K) from call_tuple_of) (by rfl) T.tuple (by decide +kernel) (pa_cons (pv 1) pa_nil))))))), ?_⟩
  exact d_read0 (n := 1) (N := ["axes", "cells", "_", "members", "cell", "member"]) (w_seq (w_setO (l_eLst (l_cons (l_eTup l_nil (by decide)) l_nil) (by decide))) (w_seq (w_for (i_tup l_var) (g_tup (gs_cons (gs_cons gs_nil)) rfl) (w_free (w_setD (l_lc2 (i_list l_var) g_name (by decide) l_yes (i_tup l_var) g_name (by decide) l_yes (l_star l_var (l_cons l_var l_nil)))))) (w_ret (l_N s_tuple (l_cons l_var l_nil))))) (by decide) z
end
end DL

set_option Elab.async false
set_option linter.all false
set_option maxRecDepth 100000
set_option maxHeartbeats 1000000
namespace DL
open PySem L2 He DX DW
section
variable {P : Program} {w : World} {K : PySem.W.Frag} {mg : Str → Option Value} {base : Heap} {f : Addr} {fd : FuncData}
theorem sc_wanted_members : FnScope ["grid", "wish", "taken", "wanted", "place", "pair", "name", "members", "at"] ["grid", "wish", "taken"] (defScope s_wanted_members) := ⟨rfl, rfl, rfl, by decide +kernel, rfl, by decide +kernel, by decide +kernel⟩
theorem ok_wanted_members (F : FnP K "wanted_members" "wanted_members" s_wanted_members [] f fd) (TX : Tx K) (T : TT mg)
    (mgc_NoWish : mg "NoWish" = some (.ref (He.ga K "NoWish")))
    (XNoWish : EXn K (He.ga K "NoWish") ["place", "word"])
    (Gis_sequence : GloOk P w K mg base CX0 1 "is_sequence" ["found"] (spD K 1 f_is_sequence))
    (GNoWish_x___init__ : ErrOk P w K mg base (He.ga K "NoWish") 1 ["self", "place", "word"] (spXI (He.ga K "NoWish") ["place", "word"]))
    (Gis_pair : GloOk P w K mg base CX0 2 "is_pair" ["found"] (spD K 1 f_is_pair))
    (Gplace_of_axis : GloOk P w K mg base CX0 1 "place_of_axis" ["grid", "name"] (spD K 2 f_place_of_axis))
    (Gare_members_among : GloOk P w K mg base CX0 4 "are_members_among" ["found", "members"] (spD K 2 f_are_members_among)) : FnOk P w K mg base (L2.CX P w) 5 f fd ["grid", "wish", "taken"] (spD K 3 f_wanted_members) := by
  obtain ⟨fis_sequence, fdis_sequence, Gis_sequence, mis_sequence, kis_sequence, bis_sequence⟩ := Gis_sequence
  obtain ⟨fNoWish_x___init__, fdNoWish_x___init__, GNoWish_x___init__, iNoWish_x___init__, tNoWish_x___init__, bNoWish_x___init__⟩ := GNoWish_x___init__
  obtain ⟨fis_pair, fdis_pair, Gis_pair, mis_pair, kis_pair, bis_pair⟩ := Gis_pair
  obtain ⟨fplace_of_axis, fdplace_of_axis, Gplace_of_axis, mplace_of_axis, kplace_of_axis, bplace_of_axis⟩ := Gplace_of_axis
  obtain ⟨fare_members_among, fdare_members_among, Gare_members_among, mare_members_among, kare_members_among, bare_members_among⟩ := Gare_members_among
  refine F.ok sc_wanted_members (fun vs H Q X z => sp_len z) (fun cdv A outer s H vs Q X hr z => ?_)
  refine ⟨_, 
      (pss_cons (ps_if (pt_not (pt_val (pe_call Gis_sequence (hr.mono (by decide)) rfl mis_sequence kis_sequence bis_sequence .nil pass0 (pa_cons (pv 1) pa_nil)))) 
        (pss_one (ps_raise rfl (takes_of rfl rfl rfl rfl) (pmk_oex XNoWish.ox iNoWish_x___init__ tNoWish_x___init__ GNoWish_x___init__ (hr.mono (by decide)) bNoWish_x___init__ .nil pass0 rfl mgc_NoWish (pa_cons (pe_un un_neg pe_int) (pa_cons pe_str pa_nil))))) pss_nil) 
      (pss_cons (ps_set (i := 3) sc_wanted_members.nd rfl (Or.inl rfl) pe_dnewK) 
      (pss_cons (ps_for (passes_of rfl) rfl (DX.pi_enumA rfl T.enum (pa_cons (pv 1) pa_nil)) (pg_tup (by rfl) (pgs_cons (pg_name (i := 4) sc_wanted_members.nd rfl (Or.inl rfl)) (pgs_cons (pg_name (i := 5) sc_wanted_members.nd rfl (Or.inl rfl)) pgs_nil))) 
        (pss_cons (ps_if (pt_not (pt_val (pe_call Gis_pair (hr.mono (by decide)) rfl mis_pair kis_pair bis_pair .nil pass0 (pa_cons (pv 5) pa_nil)))) 
          (pss_one (ps_raise rfl (takes_of rfl rfl rfl rfl) (pmk_oex XNoWish.ox iNoWish_x___init__ tNoWish_x___init__ GNoWish_x___init__ (hr.mono (by decide)) bNoWish_x___init__ .nil pass0 rfl mgc_NoWish (pa_cons (pv 4) (pa_cons pe_str pa_nil))))) pss_nil) 
        (pss_cons (ps_asg (pv 5) (DX.pg_orr (pg_tup (by rfl) (pgs_cons (pg_name (i := 6) sc_wanted_members.nd rfl (Or.inl rfl)) (pgs_cons (pg_name (i := 7) sc_wanted_members.nd rfl (Or.inl rfl)) pgs_nil))) (pg_lst (by rfl) (pgs_cons (pg_name (i := 6) sc_wanted_members.nd rfl (Or.inl rfl)) (pgs_cons (pg_name (i := 7) sc_wanted_members.nd rfl (Or.inl rfl)) pgs_nil))))) 
        (pss_cons (ps_set (i := 8) sc_wanted_members.nd rfl (Or.inl rfl) (pe_call Gplace_of_axis (hr.mono (by decide)) rfl mplace_of_axis kplace_of_axis bplace_of_axis .nil pass0 (pa_cons (pv 0) (pa_cons (pv 6) pa_nil)))) 
        (pss_cons (ps_if (PW.pt (pw_or (pt_cmp (pc_isN (pv 8))) (pw_or (pt_cmpR (op_inT hr (by decide)) (pv 6) (pv 2) (by rfl)) (pw_or1 (pt_cmp (pc_din (hu_of hr) (pv 6) (pv 3))))))) 
          (pss_one (ps_raise rfl (takes_of rfl rfl rfl rfl) (pmk_oex XNoWish.ox iNoWish_x___init__ tNoWish_x___init__ GNoWish_x___init__ (hr.mono (by decide)) bNoWish_x___init__ .nil pass0 rfl mgc_NoWish (pa_cons (pv 4) (pa_cons pe_str pa_nil))))) pss_nil) 
        (pss_cons (ps_if (pt_not (pt_val (pe_call Gare_members_among (hr.mono (by decide)) rfl mare_members_among kare_members_among bare_members_among .nil pass0 (pa_cons (pv 7) (pa_cons (pe_ix ix_tup (pe_ix ix_tup (pe_fld (pv 0) rfl) (pv 8) (fun _ _ => rfl)) pe_int (fun _ _ => rfl)) pa_nil))))) 
          (pss_one (ps_raise rfl (takes_of rfl rfl rfl rfl) (pmk_oex XNoWish.ox iNoWish_x___init__ tNoWish_x___init__ GNoWish_x___init__ (hr.mono (by decide)) bNoWish_x___init__ .nil pass0 rfl mgc_NoWish (pa_cons (pv 4) (pa_cons pe_str pa_nil))))) pss_nil) 
        (pss_one (ps_dput (hu_of hr) (pv 3) (pv 6) (pe_callTy (show CallR _ (.type "tuple") (rTup' K) from call_tuple_of) (by rfl) T.tuple (by decide +kernel) (pa_cons (pv 7) pa_nil)) (by rfl))))))))) 
      (pss_one (ps_ret (pv 3)))))), ?_⟩
  exact d_read (n := 3) (N := ["grid", "wish", "taken", "wanted", "place", "pair", "name", "members", "at"]) (w_seq (w_if (l_not (l_B (l_call (l_cons l_var l_nil)))) (w_raise (l_cons (l_un s_neg l_int) (l_cons l_str l_nil)) rfl (by decide)) w_next) (w_seq w_dnew (w_seq (w_for (i_enumerate (l_cons l_var l_nil)) (g_tup (gs_cons (gs_cons gs_nil)) rfl) (w_seq (w_if (l_not (l_B (l_call (l_cons l_var l_nil)))) (w_raise (l_cons l_var (l_cons l_str l_nil)) rfl (by decide)) w_next) (w_seq (w_asg l_var (g_row (ms := [(gSet 6), (gSet 7)]) (gm_cons g_name (gm_cons g_name gm_nil)) (gm_size (am_cons ms_name (am_cons ms_name am_nil))))) (w_seq (w_setD (l_call (l_cons l_var (l_cons l_var l_nil)))) (w_seq (w_if (l_or (l_B (l_isN l_var)) (l_or (l_Test (l_op s_inT l_var l_var)) (l_B (l_din l_var sd_own)))) (w_raise (l_cons l_var (l_cons l_str l_nil)) rfl (by decide)) w_next) (w_seq (w_if (l_not (l_B (l_call (l_cons l_var (l_cons (l_op s_ixT (l_op s_ixT (l_fld TX l_var) l_var) l_int) l_nil))))) (w_raise (l_cons l_var (l_cons l_str l_nil)) rfl (by decide)) w_next) (w_dput l_var (l_N s_tuple (l_cons l_var l_nil))))))))) w_retDct))) (by decide) z
end
end DL

set_option Elab.async false
set_option linter.all false
set_option maxRecDepth 100000
set_option maxHeartbeats 1000000
namespace DL
open PySem L2 He DX DW
section
variable {P : Program} {w : World} {K : PySem.W.Frag} {mg : Str → Option Value} {base : Heap} {f : Addr} {fd : FuncData}
theorem sc_is_wanted : FnScope ["grid", "cell", "wanted", "name", "_", "member"] ["grid", "cell", "wanted"] (defScope s_is_wanted) := ⟨rfl, rfl, rfl, by decide +kernel, rfl, by decide +kernel, by decide +kernel⟩
theorem ok_is_wanted (F : FnP K "is_wanted" "is_wanted" s_is_wanted [] f fd) (TX : Tx K) (T : TT mg) : FnOk P w K mg base CX0 1 f fd ["grid", "cell", "wanted"] (spD K 3 f_is_wanted) := by
  refine F.ok sc_is_wanted (fun vs H Q X z => sp_len z) (fun cdv A outer s H vs Q X hr z => ?_)
  refine ⟨_, PSs.nox (
      (pss_cons (ps_for PassesOwn.never rfl (RZ.pi_zipA rfl T.zip (pa_cons (pe_fld (pv 0) rfl) (pa_cons (pv 1) pa_nil))) (pg_tup (by rfl) (pgs_cons (pg_tup (by rfl) (pgs_cons (pg_name (i := 3) sc_is_wanted.nd rfl (Or.inl rfl)) (pgs_cons (pg_name (i := 4) sc_is_wanted.nd rfl (Or.inl rfl)) pgs_nil))) (pgs_cons (pg_name (i := 5) sc_is_wanted.nd rfl (Or.inl rfl)) pgs_nil))) 
        (pss_one (ps_if (PW.pt (pw_and (pt_cmp (pc_din (hu_of hr) (pv 3) (pv 2))) (pw_and1 (pt_cmpR op_notIn_seq (pv 5) (pe_dget (hu_of hr) (pv 2) (pv 3) (fun _ _ => rfl)) (by rfl))))) 
          (pss_one (ps_ret pe_bl)) pss_nil))) 
      (pss_one (ps_ret pe_bl)))), ?_⟩
  exact d_read0 (n := 3) (N := ["grid", "cell", "wanted", "name", "_", "member"]) (w_seq (w_for (i_zip (l_cons (l_fld TX l_var) (l_cons l_var l_nil))) (g_tupN (ms := [(gTupN [(gSet 3), (gSet 4)]), (gSet 5)]) (gm_cons (g_tupN (ms := [(gSet 3), (gSet 4)]) (gm_cons g_name (gm_cons g_name gm_nil)) (gm_size (am_cons ms_name (am_cons ms_name am_nil)))) (gm_cons g_name gm_nil)) (gm_size (am_cons (ms_tup (am_cons ms_name (am_cons ms_name am_nil))) (am_cons ms_name am_nil)))) (w_if (l_and (l_B (l_din l_var (sd_val l_var))) (l_Test (l_op s_in l_var (l_dget (sd_val l_var) l_var)))) (w_ret l_bl) w_next)) (w_ret l_bl)) (by decide) z
end
end DL

set_option Elab.async false
set_option linter.all false
set_option maxRecDepth 100000
set_option maxHeartbeats 1000000
namespace DL
open PySem L2 He DX DW
section
variable {P : Program} {w : World} {K : PySem.W.Frag} {mg : Str → Option Value} {base : Heap} {f : Addr} {fd : FuncData}
theorem sc_Ratio_x___add__ : FnScope ["self", "other", "right"] ["self", "other"] (defScope s_Ratio_x___add__) := ⟨rfl, rfl, rfl, by decide +kernel, rfl, by decide +kernel, by decide +kernel⟩
theorem ok_Ratio_x___add__ (F : FnP K "__add__" "Ratio.__add__" s_Ratio_x___add__ [] f fd) (TX : Tx K) (T : TT mg)
    (pRatio : Pres K "Ratio")
    (mgc_Ratio : mg "Ratio" = some (.ref (He.ga K "Ratio")))
    (Gis_number : GloOk P w K mg base CX0 2 "is_number" ["found"] (spD K 1 f_is_number))
    (Gas_ratio : GloOk P w K mg base (L2.CX P w) 5 "as_ratio" ["number"] (spD K 1 f_as_ratio))
    (GRatio_x___init__ : MkDOk P w K mg base (He.ga K "Ratio") (L2.CX P w) 3 ["self", "top", "bottom"] [.int 1] (spI K "Ratio" 2 f_Ratio_x___init__)) : FnOk P w K mg base (L2.CX P w) 6 f fd ["self", "other"] (spD K 2 f_Ratio_x___add__) := by
  obtain ⟨fis_number, fdis_number, Gis_number, mis_number, kis_number, bis_number⟩ := Gis_number
  obtain ⟨fas_ratio, fdas_ratio, Gas_ratio, mas_ratio, kas_ratio, bas_ratio⟩ := Gas_ratio
  obtain ⟨fRatio_x___init__, fdRatio_x___init__, GRatio_x___init__, MRatio_x___init__, bRatio_x___init__, dRatio_x___init__, vRatio_x___init__, bDRatio_x___init__⟩ := GRatio_x___init__
  refine F.ok sc_Ratio_x___add__ (fun vs H Q X z => sp_len z) (fun cdv A outer s H vs Q X hr z => ?_)
  refine ⟨_, 
      (pss_cons (ps_if (pt_not (pt_val (pe_call Gis_number (hr.mono (by decide)) rfl mis_number kis_number bis_number .nil pass0 (pa_cons (pv 1) pa_nil)))) pss_never pss_nil) 
      (pss_cons (ps_set (i := 2) sc_Ratio_x___add__.nd rfl (Or.inl rfl) (pe_call Gas_ratio (hr.mono (by decide)) rfl mas_ratio kas_ratio bas_ratio .nil (passes_call (takes_of rfl rfl rfl rfl) (fun _ _ _ _ h => h)) (pa_cons (pv 1) pa_nil))) 
      (pss_one (ps_ret (pe_make MRatio_x___init__ GRatio_x___init__ (hr.mono (by decide)) rfl mgc_Ratio bRatio_x___init__ .nil (passes_call (takes_of rfl rfl rfl rfl) (fun _ _ _ _ h => h)) (pa_cons (pe_op op_add (pe_op op_mulW (pe_fld (pv 0) rfl) (pe_fld (pv 2) rfl)) (pe_op op_mulW (pe_fld (pv 2) rfl) (pe_fld (pv 0) rfl))) (pa_cons (pe_op op_mulW (pe_fld (pv 0) rfl) (pe_fld (pv 2) rfl)) pa_nil))))))), ?_⟩
  exact d_read (n := 2) (N := ["self", "other", "right"]) (w_seq (w_if (l_not (l_B (l_call (l_cons l_var l_nil)))) w_never w_next) (w_seq (w_setD (l_callX (l_cons l_var l_nil))) (w_ret (l_makeX pRatio (fun _ _ => .nil) (l_cons (l_op s_int (l_op s_intC (l_fld TX l_var) (l_fld TX l_var)) (l_op s_intC (l_fld TX l_var) (l_fld TX l_var))) (l_cons (l_op s_intC (l_fld TX l_var) (l_fld TX l_var)) l_nil)) rfl)))) (by decide) z
end
end DL

set_option Elab.async false
set_option linter.all false
set_option maxRecDepth 100000
set_option maxHeartbeats 1000000
namespace DL
open PySem L2 He DX DW
section
variable {P : Program} {w : World} {K : PySem.W.Frag} {mg : Str → Option Value} {base : Heap} {f : Addr} {fd : FuncData}
theorem sc_Ratio_x___sub__ : FnScope ["self", "other", "right"] ["self", "other"] (defScope s_Ratio_x___sub__) := ⟨rfl, rfl, rfl, by decide +kernel, rfl, by decide +kernel, by decide +kernel⟩
theorem ok_Ratio_x___sub__ (F : FnP K "__sub__" "Ratio.__sub__" s_Ratio_x___sub__ [] f fd) (TX : Tx K) (T : TT mg)
    (pRatio : Pres K "Ratio")
    (mgc_Ratio : mg "Ratio" = some (.ref (He.ga K "Ratio")))
    (Gis_number : GloOk P w K mg base CX0 2 "is_number" ["found"] (spD K 1 f_is_number))
    (Gas_ratio : GloOk P w K mg base (L2.CX P w) 5 "as_ratio" ["number"] (spD K 1 f_as_ratio))
    (GRatio_x___init__ : MkDOk P w K mg base (He.ga K "Ratio") (L2.CX P w) 3 ["self", "top", "bottom"] [.int 1] (spI K "Ratio" 2 f_Ratio_x___init__)) : FnOk P w K mg base (L2.CX P w) 6 f fd ["self", "other"] (spD K 2 f_Ratio_x___sub__) := by
  obtain ⟨fis_number, fdis_number, Gis_number, mis_number, kis_number, bis_number⟩ := Gis_number
  obtain ⟨fas_ratio, fdas_ratio, Gas_ratio, mas_ratio, kas_ratio, bas_ratio⟩ := Gas_ratio
  obtain ⟨fRatio_x___init__, fdRatio_x___init__, GRatio_x___init__, MRatio_x___init__, bRatio_x___init__, dRatio_x___init__, vRatio_x___init__, bDRatio_x___init__⟩ := GRatio_x___init__
  refine F.ok sc_Ratio_x___sub__ (fun vs H Q X z => sp_len z) (fun cdv A outer s H vs Q X hr z => ?_)
  refine ⟨_, 
      (pss_cons (ps_if (pt_not (pt_val (pe_call Gis_number (hr.mono (by decide)) rfl mis_number kis_number bis_number .nil pass0 (pa_cons (pv 1) pa_nil)))) pss_never pss_nil) 
      (pss_cons (ps_set (i := 2) sc_Ratio_x___sub__.nd rfl (Or.inl rfl) (pe_call Gas_ratio (hr.mono (by decide)) rfl mas_ratio kas_ratio bas_ratio .nil (passes_call (takes_of rfl rfl rfl rfl) (fun _ _ _ _ h => h)) (pa_cons (pv 1) pa_nil))) 
      (pss_one (ps_ret (pe_make MRatio_x___init__ GRatio_x___init__ (hr.mono (by decide)) rfl mgc_Ratio bRatio_x___init__ .nil (passes_call (takes_of rfl rfl rfl rfl) (fun _ _ _ _ h => h)) (pa_cons (pe_op op_sub (pe_op op_mulW (pe_fld (pv 0) rfl) (pe_fld (pv 2) rfl)) (pe_op op_mulW (pe_fld (pv 2) rfl) (pe_fld (pv 0) rfl))) (pa_cons (pe_op op_mulW (pe_fld (pv 0) rfl) (pe_fld (pv 2) rfl)) pa_nil))))))), ?_⟩
  exact d_read (n := 2) (N := ["self", "other", "right"]) (w_seq (w_if (l_not (l_B (l_call (l_cons l_var l_nil)))) w_never w_next) (w_seq (w_setD (l_callX (l_cons l_var l_nil))) (w_ret (l_makeX pRatio (fun _ _ => .nil) (l_cons (l_op s_int (l_op s_intC (l_fld TX l_var) (l_fld TX l_var)) (l_op s_intC (l_fld TX l_var) (l_fld TX l_var))) (l_cons (l_op s_intC (l_fld TX l_var) (l_fld TX l_var)) l_nil)) rfl)))) (by decide) z
end
end DL

set_option Elab.async false
set_option linter.all false
set_option maxRecDepth 100000
set_option maxHeartbeats 1000000
namespace DL
open PySem L2 He DX DW
section
variable {P : Program} {w : World} {K : PySem.W.Frag} {mg : Str → Option Value} {base : Heap} {f : Addr} {fd : FuncData}
theorem sc_Ratio_x___mul__ : FnScope ["self", "other", "right"] ["self", "other"] (defScope s_Ratio_x___mul__) := ⟨rfl, rfl, rfl, by decide +kernel, rfl, by decide +kernel, by decide +kernel⟩
theorem ok_Ratio_x___mul__ (F : FnP K "__mul__" "Ratio.__mul__" s_Ratio_x___mul__ [] f fd) (TX : Tx K) (T : TT mg)
    (pRatio : Pres K "Ratio")
    (mgc_Ratio : mg "Ratio" = some (.ref (He.ga K "Ratio")))
    (Gis_number : GloOk P w K mg base CX0 2 "is_number" ["found"] (spD K 1 f_is_number))
    (Gas_ratio : GloOk P w K mg base (L2.CX P w) 5 "as_ratio" ["number"] (spD K 1 f_as_ratio))
    (GRatio_x___init__ : MkDOk P w K mg base (He.ga K "Ratio") (L2.CX P w) 3 ["self", "top", "bottom"] [.int 1] (spI K "Ratio" 2 f_Ratio_x___init__)) : FnOk P w K mg base (L2.CX P w) 6 f fd ["self", "other"] (spD K 2 f_Ratio_x___mul__) := by
  obtain ⟨fis_number, fdis_number, Gis_number, mis_number, kis_number, bis_number⟩ := Gis_number
  obtain ⟨fas_ratio, fdas_ratio, Gas_ratio, mas_ratio, kas_ratio, bas_ratio⟩ := Gas_ratio
  obtain ⟨fRatio_x___init__, fdRatio_x___init__, GRatio_x___init__, MRatio_x___init__, bRatio_x___init__, dRatio_x___init__, vRatio_x___init__, bDRatio_x___init__⟩ := GRatio_x___init__
  refine F.ok sc_Ratio_x___mul__ (fun vs H Q X z => sp_len z) (fun cdv A outer s H vs Q X hr z => ?_)
  refine ⟨_, 
      (pss_cons (ps_if (pt_not (pt_val (pe_call Gis_number (hr.mono (by decide)) rfl mis_number kis_number bis_number .nil pass0 (pa_cons (pv 1) pa_nil)))) pss_never pss_nil) 
      (pss_cons (ps_set (i := 2) sc_Ratio_x___mul__.nd rfl (Or.inl rfl) (pe_call Gas_ratio (hr.mono (by decide)) rfl mas_ratio kas_ratio bas_ratio .nil (passes_call (takes_of rfl rfl rfl rfl) (fun _ _ _ _ h => h)) (pa_cons (pv 1) pa_nil))) 
      (pss_one (ps_ret (pe_make MRatio_x___init__ GRatio_x___init__ (hr.mono (by decide)) rfl mgc_Ratio bRatio_x___init__ .nil (passes_call (takes_of rfl rfl rfl rfl) (fun _ _ _ _ h => h)) (pa_cons (pe_op op_mulW (pe_fld (pv 0) rfl) (pe_fld (pv 2) rfl)) (pa_cons (pe_op op_mulW (pe_fld (pv 0) rfl) (pe_fld (pv 2) rfl)) pa_nil))))))), ?_⟩
  exact d_read (n := 2) (N := ["self", "other", "right"]) (w_seq (w_if (l_not (l_B (l_call (l_cons l_var l_nil)))) w_never w_next) (w_seq (w_setD (l_callX (l_cons l_var l_nil))) (w_ret (l_makeX pRatio (fun _ _ => .nil) (l_cons (l_op s_intC (l_fld TX l_var) (l_fld TX l_var)) (l_cons (l_op s_intC (l_fld TX l_var) (l_fld TX l_var)) l_nil)) rfl)))) (by decide) z
end
end DL

set_option Elab.async false
set_option linter.all false
set_option maxRecDepth 100000
set_option maxHeartbeats 1000000
namespace DL
open PySem L2 He DX DW
section
variable {P : Program} {w : World} {K : PySem.W.Frag} {mg : Str → Option Value} {base : Heap} {f : Addr} {fd : FuncData}
theorem sc_Question_x___eq__ : FnScope ["self", "other"] ["self", "other"] (defScope s_Question_x___eq__) := ⟨rfl, rfl, rfl, by decide +kernel, rfl, by decide +kernel, by decide +kernel⟩
theorem ok_Question_x___eq__ (F : FnP K "__eq__" "Question.__eq__" s_Question_x___eq__ [] f fd) (TX : Tx K) (T : TT mg)
    (pQuestion : Pres K "Question")
    (pRatio : Pres K "Ratio")
    (mgc_Question : mg "Question" = some (.ref (He.ga K "Question")))
    (GRatio_x___eq__ : MthOk P w K mg base (He.ga K "Ratio") CX0 2 "__eq__" ["self", "other"] (spD K 2 f_Ratio_x___eq__))
    (GGrid_x___eq__ : MthOk P w K mg base (He.ga K "Grid") CX0 1 "__eq__" ["self", "other"] (spD K 2 f_Grid_x___eq__)) : FnOk P w K mg base CX0 4 f fd ["self", "other"] (spD K 2 f_Question_x___eq__) := by
  obtain ⟨fRatio_x___eq__, fdRatio_x___eq__, GRatio_x___eq__, MRatio_x___eq__, bRatio_x___eq__⟩ := GRatio_x___eq__
  obtain ⟨fGrid_x___eq__, fdGrid_x___eq__, GGrid_x___eq__, MGrid_x___eq__, bGrid_x___eq__⟩ := GGrid_x___eq__
  refine F.ok sc_Question_x___eq__ (fun vs H Q X z => sp_len z) (fun cdv A outer s H vs Q X hr z => ?_)
  refine ⟨_, PSs.nox (
      (pss_one (ps_ret (pe_and (pe_callB call_isi (by rfl) T.isinst (by decide +kernel) (pa_cons (pv 1) (pa_cons (pe_glob (v := .ref (He.ga K "Question")) (by rfl) mgc_Question rfl) pa_nil))) (pe_and (pe_cmpR (op_cmp (op := .Eq) (fun _ _ => rfl) MGrid_x___eq__.at_ MGrid_x___eq__.fn GGrid_x___eq__ (hr.mono (by decide)) bGrid_x___eq__ pass0) (pe_fld (pv 0) rfl) (pe_fld (pv 1) rfl) (nomark _)) (pe_one (pe_cmpR (op_eqTupG (TX.nX _ _ pRatio pRatio) MRatio_x___eq__.at_ MRatio_x___eq__.fn GRatio_x___eq__ (hr.mono (by decide)) bRatio_x___eq__ pass0) (pe_fld (pv 0) rfl) (pe_fld (pv 1) rfl) (nomark _)))))))), ?_⟩
  exact d_read0 (n := 2) (N := ["self", "other"]) (w_ret (l_andV (l_isC TX pQuestion l_var) (l_andV (l_op (s2_0 (s_cmpO TX)) (l_fld TX l_var) (l_fld TX l_var)) (l_op (s_eqTup (c := "Ratio") TX) (l_fld TX l_var) (l_fld TX l_var))))) (by decide) z
end
end DL

set_option Elab.async false
set_option linter.all false
set_option maxRecDepth 100000
set_option maxHeartbeats 1000000
namespace DL
open PySem L2 He DX DW
section
variable {P : Program} {w : World} {K : PySem.W.Frag} {mg : Str → Option Value} {base : Heap} {f : Addr} {fd : FuncData}
theorem sc_Question_x___init__ : FnScope ["self", "grid", "weights", "weight"] ["self", "grid", "weights"] (defScope s_Question_x___init__) := ⟨rfl, rfl, rfl, by decide +kernel, rfl, by decide +kernel, by decide +kernel⟩
theorem ok_Question_x___init__ (F : FnP K "__init__" "Question.__init__" s_Question_x___init__ [] f fd) (TX : Tx K) (T : TT mg)
    (pGrid : Pres K "Grid")
    (mgc_Grid : mg "Grid" = some (.ref (He.ga K "Grid")))
    (mgc_NoQuestion : mg "NoQuestion" = some (.ref (He.ga K "NoQuestion")))
    (XNoQuestion : EXn K (He.ga K "NoQuestion") ["word"])
    (GNoQuestion_x___init__ : ErrOk P w K mg base (He.ga K "NoQuestion") 1 ["self", "word"] (spXI (He.ga K "NoQuestion") ["word"]))
    (Gare_amounts : GloOk P w K mg base CX0 3 "are_amounts" ["grid", "found"] (spD K 2 f_are_amounts))
    (Gas_ratio : GloOk P w K mg base (L2.CX P w) 5 "as_ratio" ["number"] (spD K 1 f_as_ratio)) : FnOk P w K mg base (L2.CX P w) 6 f fd ["self", "grid", "weights"] (spI K "Question" 2 f_Question_x___init__) := by
  obtain ⟨fNoQuestion_x___init__, fdNoQuestion_x___init__, GNoQuestion_x___init__, iNoQuestion_x___init__, tNoQuestion_x___init__, bNoQuestion_x___init__⟩ := GNoQuestion_x___init__
  obtain ⟨fare_amounts, fdare_amounts, Gare_amounts, mare_amounts, kare_amounts, bare_amounts⟩ := Gare_amounts
  obtain ⟨fas_ratio, fdas_ratio, Gas_ratio, mas_ratio, kas_ratio, bas_ratio⟩ := Gas_ratio
  refine F.ok sc_Question_x___init__ (fun vs H Q X z => spI_len z) (fun cdv A outer s H vs Q X hr z => ?_)
  refine ⟨_, 
      (pss_cons (ps_if (pt_not (pt_val (pe_callB call_isi (by rfl) T.isinst (by decide +kernel) (pa_cons (pv 1) (pa_cons (pe_glob (v := .ref (He.ga K "Grid")) (by rfl) mgc_Grid rfl) pa_nil))))) 
        (pss_one (ps_raise rfl (takes_of rfl rfl rfl rfl) (pmk_oex XNoQuestion.ox iNoQuestion_x___init__ tNoQuestion_x___init__ GNoQuestion_x___init__ (hr.mono (by decide)) bNoQuestion_x___init__ .nil pass0 rfl mgc_NoQuestion (pa_cons pe_str pa_nil)))) pss_nil) 
      (pss_cons (ps_if (pt_not (pt_val (pe_call Gare_amounts (hr.mono (by decide)) rfl mare_amounts kare_amounts bare_amounts .nil pass0 (pa_cons (pv 1) (pa_cons (pv 2) pa_nil))))) 
        (pss_one (ps_raise rfl (takes_of rfl rfl rfl rfl) (pmk_oex XNoQuestion.ox iNoQuestion_x___init__ tNoQuestion_x___init__ GNoQuestion_x___init__ (hr.mono (by decide)) bNoQuestion_x___init__ .nil pass0 rfl mgc_NoQuestion (pa_cons pe_str pa_nil)))) pss_nil) 
      (pss_cons (ps_fld (pv 0) (pv 1) rfl) 
      (pss_one (ps_fld (pv 0) (pe_callTy (show CallR _ (.type "tuple") (rTup' K) from call_tuple_of) (by rfl) T.tuple (by decide +kernel) (pa_cons (pe_lc (own := [("weight", 3)]) (g := gName 3) (tt := tYes) (by rfl) sc_Question_x___init__.nd (DX.pi_row (pv 2)) (blkOk_by (own := [("weight", 3)]) (N := ["self", "grid", "weights", "weight"]) (sc := defScope s_Question_x___init__) (by decide +kernel)) (fun _ _ _ _ _ => (pg_name (i := 3) sc_Question_x___init__.nd rfl (Or.inl rfl))) (fun _ _ _ _ _ => pts_nil)
          (fun _ _ _ _ _ => (pe_by (E := E0) K (eCall0 f_as_ratio (aCons (eVar 3) aNil)) (l_call (l_cons l_var l_nil)) (pe_call Gas_ratio (hr.mono (by decide)) rfl mas_ratio kas_ratio bas_ratio .nil passL (pa_cons (pv 3) pa_nil))))) pa_nil)) rfl))))), ?_⟩
  exact d_readI (n := 2) (c := "Question") (N := ["self", "grid", "weights", "weight"]) (w_seq (w_if (l_not (l_B (l_isC TX pGrid l_var))) (w_raise (l_cons l_str l_nil) rfl (by decide)) w_next) (w_seq (w_if (l_not (l_B (l_call (l_cons l_var (l_cons l_var l_nil))))) (w_raise (l_cons l_str l_nil) rfl (by decide)) w_next) (w_seq (w_fld TX l_var) (w_fld TX (l_N s_tuple (l_cons (l_lc (i_row l_var) g_name (by decide) l_yes (l_call (l_cons l_var l_nil))) l_nil)))))) (by decide) z
end
end DL

set_option Elab.async false
set_option linter.all false
set_option maxRecDepth 100000
set_option maxHeartbeats 1000000
namespace DL
open PySem L2 He DX DW
section
variable {P : Program} {w : World} {K : PySem.W.Frag} {mg : Str → Option Value} {base : Heap} {f : Addr} {fd : FuncData}
theorem sc_Question_x___neg__ : FnScope ["self", "weight"] ["self"] (defScope s_Question_x___neg__) := ⟨rfl, rfl, rfl, by decide +kernel, rfl, by decide +kernel, by decide +kernel⟩
theorem ok_Question_x___neg__ (F : FnP K "__neg__" "Question.__neg__" s_Question_x___neg__ [] f fd) (TX : Tx K) (T : TT mg)
    (pQuestion : Pres K "Question")
    (mgc_Question : mg "Question" = some (.ref (He.ga K "Question")))
    (GQuestion_x___init__ : MkOk P w K mg base (He.ga K "Question") (L2.CX P w) 6 ["self", "grid", "weights"] (spI K "Question" 2 f_Question_x___init__))
    (GRatio_x___neg__ : MthOk P w K mg base (He.ga K "Ratio") (L2.CX P w) 5 "__neg__" ["self"] (spD K 1 f_Ratio_x___neg__)) : FnOk P w K mg base (L2.CX P w) 8 f fd ["self"] (spD K 1 f_Question_x___neg__) := by
  obtain ⟨fQuestion_x___init__, fdQuestion_x___init__, GQuestion_x___init__, MQuestion_x___init__, bQuestion_x___init__⟩ := GQuestion_x___init__
  obtain ⟨fRatio_x___neg__, fdRatio_x___neg__, GRatio_x___neg__, MRatio_x___neg__, bRatio_x___neg__⟩ := GRatio_x___neg__
  refine F.ok sc_Question_x___neg__ (fun vs H Q X z => sp_len z) (fun cdv A outer s H vs Q X hr z => ?_)
  refine ⟨_, 
      (pss_one (ps_ret (pe_make MQuestion_x___init__ GQuestion_x___init__ (hr.mono (by decide)) rfl mgc_Question bQuestion_x___init__ .nil (passes_call (takes_of rfl rfl rfl rfl) (fun _ _ _ _ h => h)) (pa_cons (pe_fld (pv 0) rfl) (pa_cons (pe_lc (own := [("weight", 1)]) (g := gName 1) (tt := tYes) (by rfl) sc_Question_x___neg__.nd (pi_tup (pe_fld (pv 0) rfl)) (blkOk_by (own := [("weight", 1)]) (N := ["self", "weight"]) (sc := defScope s_Question_x___neg__) (by decide +kernel)) (fun _ _ _ _ _ => (pg_name (i := 1) sc_Question_x___neg__.nd rfl (Or.inl rfl))) (fun _ _ _ _ _ => pts_nil)
          (fun _ _ _ _ _ => (pe_by (E := E0) K (eUn (fun x Q _ => fUnO "Ratio" f_Ratio_x___neg__ x Q fun _ => False) (eVar 1)) (l_un (s1_0 s_unO) l_var) (pe_un (un_negO MRatio_x___neg__.at_ MRatio_x___neg__.fn GRatio_x___neg__ (hr.mono (by decide)) bRatio_x___neg__ passL) (pv 1))))) pa_nil))))), ?_⟩
  exact d_read (n := 1) (N := ["self", "weight"]) (w_ret (l_makeX pQuestion (fun _ _ => .nil) (l_cons (l_fld TX l_var) (l_cons (l_lc (i_tup (l_fld TX l_var)) g_name (by decide) l_yes (l_un (s1_0 s_unO) l_var)) l_nil)) rfl)) (by decide) z
end
end DL

set_option Elab.async false
set_option linter.all false
set_option maxRecDepth 100000
set_option maxHeartbeats 1000000
namespace DL
open PySem L2 He DX DW
section
variable {P : Program} {w : World} {K : PySem.W.Frag} {mg : Str → Option Value} {base : Heap} {f : Addr} {fd : FuncData}
theorem sc_Question_x_at : FnScope ["self", "amounts", "amount"] ["self", "amounts"] (defScope s_Question_x_at) := ⟨rfl, rfl, rfl, by decide +kernel, rfl, by decide +kernel, by decide +kernel⟩
theorem ok_Question_x_at (F : FnP K "at" "Question.at" s_Question_x_at [] f fd) (TX : Tx K) (T : TT mg)
    (mgc_NoAmounts : mg "NoAmounts" = some (.ref (He.ga K "NoAmounts")))
    (XNoAmounts : EX0 K (He.ga K "NoAmounts"))
    (Gare_amounts : GloOk P w K mg base CX0 3 "are_amounts" ["grid", "found"] (spD K 2 f_are_amounts))
    (Gsum_of_products : GloOk P w K mg base (L2.CX P w) 5 "sum_of_products" ["ones", "others"] (spD K 2 f_sum_of_products))
    (Gas_ratio : GloOk P w K mg base (L2.CX P w) 5 "as_ratio" ["number"] (spD K 1 f_as_ratio)) : FnOk P w K mg base (L2.CX P w) 6 f fd ["self", "amounts"] (spD K 2 f_Question_x_at) := by
  obtain ⟨fare_amounts, fdare_amounts, Gare_amounts, mare_amounts, kare_amounts, bare_amounts⟩ := Gare_amounts
  obtain ⟨fsum_of_products, fdsum_of_products, Gsum_of_products, msum_of_products, ksum_of_products, bsum_of_products⟩ := Gsum_of_products
  obtain ⟨fas_ratio, fdas_ratio, Gas_ratio, mas_ratio, kas_ratio, bas_ratio⟩ := Gas_ratio
  refine F.ok sc_Question_x_at (fun vs H Q X z => sp_len z) (fun cdv A outer s H vs Q X hr z => ?_)
  refine ⟨_, 
      (pss_cons (ps_if (pt_not (pt_val (pe_call Gare_amounts (hr.mono (by decide)) rfl mare_amounts kare_amounts bare_amounts .nil pass0 (pa_cons (pe_fld (pv 0) rfl) (pa_cons (pv 1) pa_nil))))) 
        (pss_one (ps_raise rfl (takes_of rfl rfl rfl rfl) (pmk_own0 PySem.F.excBase_ValueError XNoAmounts.q mgc_NoAmounts XNoAmounts.kN (raises_own XNoAmounts.ex XNoAmounts.ty) (by rfl)))) pss_nil) 
      (pss_one (ps_ret (pe_call Gsum_of_products (hr.mono (by decide)) rfl msum_of_products ksum_of_products bsum_of_products .nil (passes_call (takes_of rfl rfl rfl rfl) (fun _ _ _ _ h => h)) (pa_cons (pe_fld (pv 0) rfl) (pa_cons (pe_lc (own := [("amount", 2)]) (g := gName 2) (tt := tYes) (by rfl) sc_Question_x_at.nd (DX.pi_row (pv 1)) (blkOk_by (own := [("amount", 2)]) (N := ["self", "amounts", "amount"]) (sc := defScope s_Question_x_at) (by decide +kernel)) (fun _ _ _ _ _ => (pg_name (i := 2) sc_Question_x_at.nd rfl (Or.inl rfl))) (fun _ _ _ _ _ => pts_nil)
          (fun _ _ _ _ _ => (pe_by (E := E0) K (eCall0 f_as_ratio (aCons (eVar 2) aNil)) (l_call (l_cons l_var l_nil)) (pe_call Gas_ratio (hr.mono (by decide)) rfl mas_ratio kas_ratio bas_ratio .nil passL (pa_cons (pv 2) pa_nil))))) pa_nil)))))), ?_⟩
  exact d_read (n := 2) (N := ["self", "amounts", "amount"]) (w_seq (w_if (l_not (l_B (l_call (l_cons (l_fld TX l_var) (l_cons l_var l_nil))))) w_raise0 w_next) (w_ret (l_callX (l_cons (l_fld TX l_var) (l_cons (l_lc (i_row l_var) g_name (by decide) l_yes (l_call (l_cons l_var l_nil))) l_nil))))) (by decide) z
end
end DL

set_option Elab.async false
set_option linter.all false
set_option maxRecDepth 100000
set_option maxHeartbeats 1000000
namespace DL
open PySem L2 He DX DW
section
variable {P : Program} {w : World} {K : PySem.W.Frag} {mg : Str → Option Value} {base : Heap} {f : Addr} {fd : FuncData}
theorem sc_Question_x_is_nothing : FnScope ["self", "weight"] ["self"] (defScope s_Question_x_is_nothing) := ⟨rfl, rfl, rfl, by decide +kernel, rfl, by decide +kernel, by decide +kernel⟩
theorem ok_Question_x_is_nothing (F : FnP K "is_nothing" "Question.is_nothing" s_Question_x_is_nothing [] f fd) (TX : Tx K) (T : TT mg)
    (GRatio_x___eq__ : MthOk P w K mg base (He.ga K "Ratio") CX0 2 "__eq__" ["self", "other"] (spD K 2 f_Ratio_x___eq__)) : FnOk P w K mg base CX0 3 f fd ["self"] (spD K 1 f_Question_x_is_nothing) := by
  obtain ⟨fRatio_x___eq__, fdRatio_x___eq__, GRatio_x___eq__, MRatio_x___eq__, bRatio_x___eq__⟩ := GRatio_x___eq__
  refine F.ok sc_Question_x_is_nothing (fun vs H Q X z => sp_len z) (fun cdv A outer s H vs Q X hr z => ?_)
  refine ⟨_, PSs.nox (
      (pss_one (ps_ret (pe_callB (cr_all rfl) (by rfl) T.all (by decide +kernel) (pa_cons (pe_lc (own := [("weight", 1)]) (g := gName 1) (tt := tYes) (by rfl) sc_Question_x_is_nothing.nd (pi_tup (pe_fld (pv 0) rfl)) (blkOk_by (own := [("weight", 1)]) (N := ["self", "weight"]) (sc := defScope s_Question_x_is_nothing) (by decide +kernel)) (fun _ _ _ _ _ => (pg_name (i := 1) sc_Question_x_is_nothing.nd rfl (Or.inl rfl))) (fun _ _ _ _ _ => pts_nil)
          (fun _ _ _ _ _ => (pe_by (E := E0) K (eOp (fun x y Q _ => fCmpO "Ratio" f_Ratio_x___eq__ x y Q fun _ => False) (eVar 1) (eC (.int 0))) (l_op (s2_0 (s_cmpO TX)) l_var l_int) (pe_cmpR (op_cmp (op := .Eq) (fun _ _ => rfl) MRatio_x___eq__.at_ MRatio_x___eq__.fn GRatio_x___eq__ (hr.mono (by decide)) bRatio_x___eq__ pass0) (pv 1) pe_int (nomark _))))) pa_nil))))), ?_⟩
  exact d_read0 (n := 1) (N := ["self", "weight"]) (w_ret (l_N s_bs (l_cons (l_lc (i_tup (l_fld TX l_var)) g_name (by decide) l_yes (l_op (s2_0 (s_cmpO TX)) l_var l_int)) l_nil))) (by decide) z
end
end DL

set_option Elab.async false
set_option linter.all false
set_option maxRecDepth 100000
set_option maxHeartbeats 1000000
namespace DL
open PySem L2 He DX DW
section
variable {P : Program} {w : World} {K : PySem.W.Frag} {mg : Str → Option Value} {base : Heap} {f : Addr} {fd : FuncData}
theorem sc_sum_over : FnScope ["grid", "places", "place"] ["grid", "places"] (defScope s_sum_over) := ⟨rfl, rfl, rfl, by decide +kernel, rfl, by decide +kernel, by decide +kernel⟩
theorem ok_sum_over (F : FnP K "sum_over" "sum_over" s_sum_over [] f fd) (TX : Tx K) (T : TT mg)
    (pQuestion : Pres K "Question")
    (mgc_Question : mg "Question" = some (.ref (He.ga K "Question")))
    (GQuestion_x___init__ : MkOk P w K mg base (He.ga K "Question") (L2.CX P w) 6 ["self", "grid", "weights"] (spI K "Question" 2 f_Question_x___init__)) : FnOk P w K mg base (L2.CX P w) 8 f fd ["grid", "places"] (spD K 2 f_sum_over) := by
  obtain ⟨fQuestion_x___init__, fdQuestion_x___init__, GQuestion_x___init__, MQuestion_x___init__, bQuestion_x___init__⟩ := GQuestion_x___init__
  refine F.ok sc_sum_over (fun vs H Q X z => sp_len z) (fun cdv A outer s H vs Q X hr z => ?_)
  refine ⟨_, 
      (pss_one (ps_ret (pe_make MQuestion_x___init__ GQuestion_x___init__ (hr.mono (by decide)) rfl mgc_Question bQuestion_x___init__ .nil (passes_call (takes_of rfl rfl rfl rfl) (fun _ _ _ _ h => h)) (pa_cons (pv 0) (pa_cons (pe_lc (own := [("place", 2)]) (g := gName 2) (tt := tYes) (by rfl) sc_sum_over.nd (pi_range1 (by rfl) T.range (pa_cons (pe_fld (pv 0) rfl) pa_nil)) (blkOk_by (own := [("place", 2)]) (N := ["grid", "places", "place"]) (sc := defScope s_sum_over) (by decide +kernel)) (fun _ _ _ _ _ => (pg_name (i := 2) sc_sum_over.nd rfl (Or.inl rfl))) (fun _ _ _ _ _ => pts_nil)
          (fun _ _ _ _ _ => (pe_by (E := E0) K (eIf (tBl (eOp (fIn false) (eVar 2) (eVar 1))) (eC (.int 1)) (eC (.int 0))) (l_if (l_Test (l_op s_in l_var l_var)) l_int l_int) (pe_ifExp (pt_cmpR op_in_seq (pv 2) (pv 1) (by rfl)) pe_int pe_int)))) pa_nil))))), ?_⟩
  exact d_read (n := 2) (N := ["grid", "places", "place"]) (w_ret (l_makeX pQuestion (fun _ _ => .nil) (l_cons l_var (l_cons (l_lc (i_rng1 (l_cons (l_fld TX l_var) l_nil)) g_name (by decide) l_yes (l_if (l_Test (l_op s_in l_var l_var)) l_int l_int)) l_nil)) rfl)) (by decide) z
end
end DL

set_option Elab.async false
set_option linter.all false
set_option maxRecDepth 100000
set_option maxHeartbeats 1000000
namespace DL
open PySem L2 He DX DW
section
variable {P : Program} {w : World} {K : PySem.W.Frag} {mg : Str → Option Value} {base : Heap} {f : Addr} {fd : FuncData}
theorem sc__law_is_integer : FnScope ["thing"] ["thing"] (defScope s__law_is_integer) := ⟨rfl, rfl, rfl, by decide +kernel, rfl, by decide +kernel, by decide +kernel⟩
theorem ok__law_is_integer (F : FnP K "_law_is_integer" "_law_is_integer" s__law_is_integer [] f fd) (TX : Tx K) (T : TT mg) : FnOk P w K mg base CX0 1 f fd ["thing"] (spD K 1 f__law_is_integer) := by
  refine F.ok sc__law_is_integer (fun vs H Q X z => sp_len z) (fun cdv A outer s H vs Q X hr z => ?_)
  refine ⟨_, PSs.nox (
      (pss_one (ps_ret (pe_and (pe_callB call_isi (by rfl) T.isinst (by decide +kernel) (pa_cons (pv 0) (pa_cons (pe_bltn (v := .ty "int") (by rfl) T.int (by decide +kernel) rfl) pa_nil))) (pe_one (pe_not (pe_callB call_isi (by rfl) T.isinst (by decide +kernel) (pa_cons (pv 0) (pa_cons (pe_bltn (v := .ty "bool") (by rfl) T.bool (by decide +kernel) rfl) pa_nil))))))))), ?_⟩
  exact d_read0 (n := 1) (N := ["thing"]) (w_ret (l_andV (l_isB TX (by decide) l_var) (l_notV (l_isB TX (by decide) l_var)))) (by decide) z
end
end DL

set_option Elab.async false
set_option linter.all false
set_option maxRecDepth 100000
set_option maxHeartbeats 1000000
namespace DL
open PySem L2 He DX DW
section
variable {P : Program} {w : World} {K : PySem.W.Frag} {mg : Str → Option Value} {base : Heap} {f : Addr} {fd : FuncData}
theorem sc__law_frac : FnScope ["top", "bottom", "part"] ["top", "bottom"] (defScope s__law_frac) := ⟨rfl, rfl, rfl, by decide +kernel, rfl, by decide +kernel, by decide +kernel⟩
theorem ok__law_frac (F : FnP K "_law_frac" "_law_frac" s__law_frac [] f fd) (TX : Tx K) (T : TT mg)
    (G_law_common : GloOk P w K mg base CX0 1 "_law_common" ["one", "rest"] (spD K 2 mCommon)) : FnOk P w K mg base CX0 2 f fd ["top", "bottom"] (spD K 2 f__law_frac) := by
  obtain ⟨f_law_common, fd_law_common, G_law_common, m_law_common, k_law_common, b_law_common⟩ := G_law_common
  refine F.ok sc__law_frac (fun vs H Q X z => sp_len z) (fun cdv A outer s H vs Q X hr z => ?_)
  refine ⟨_, PSs.nox (
      (pss_cons (ps_set (i := 2) sc__law_frac.nd rfl (Or.inl rfl) (pe_call G_law_common (hr.mono (by decide)) rfl m_law_common k_law_common b_law_common .nil pass0 (pa_cons (pe_callB call_abs (by rfl) T.abs (by decide +kernel) (pa_cons (pv 0) pa_nil)) (pa_cons (pe_callB call_abs (by rfl) T.abs (by decide +kernel) (pa_cons (pv 1) pa_nil)) pa_nil)))) 
      (pss_cons (ps_if (pt_cmpR op_lt (pv 1) pe_int (nomark _)) 
        (pss_one (ps_set (i := 2) sc__law_frac.nd rfl (Or.inl rfl) (pe_un un_neg (pv 2)))) pss_nil) 
      (pss_one (ps_ret (pe_tup (pa_cons (pe_op op_fdivX (pv 0) (pv 2)) (pa_cons (pe_op op_fdivX (pv 1) (pv 2)) pa_nil)))))))), ?_⟩
  exact d_read0 (n := 2) (N := ["top", "bottom", "part"]) (w_seq (w_setD (l_call (l_cons (l_N s_1I (l_cons l_var l_nil)) (l_cons (l_N s_1I (l_cons l_var l_nil)) l_nil)))) (w_seq (w_if (l_Test (l_op s_bool l_var l_int)) (w_setD (l_un s_neg l_var)) w_next) (w_ret (l_eTup (l_cons (l_op s_intC l_var l_var) (l_cons (l_op s_intC l_var l_var) l_nil)) (by decide))))) (by decide) z
end
end DL

set_option Elab.async false
set_option linter.all false
set_option maxRecDepth 100000
set_option maxHeartbeats 1000000
namespace DL
open PySem L2 He DX DW
section
variable {P : Program} {w : World} {K : PySem.W.Frag} {mg : Str → Option Value} {base : Heap} {f : Addr} {fd : FuncData}
theorem sc__law_plus : FnScope ["one", "other"] ["one", "other"] (defScope s__law_plus) := ⟨rfl, rfl, rfl, by decide +kernel, rfl, by decide +kernel, by decide +kernel⟩
theorem ok__law_plus (F : FnP K "_law_plus" "_law_plus" s__law_plus [] f fd) (TX : Tx K) (T : TT mg)
    (G_law_frac : GloOk P w K mg base CX0 2 "_law_frac" ["top", "bottom"] (spD K 2 f__law_frac)) : FnOk P w K mg base CX0 3 f fd ["one", "other"] (spD K 2 f__law_plus) := by
  obtain ⟨f_law_frac, fd_law_frac, G_law_frac, m_law_frac, k_law_frac, b_law_frac⟩ := G_law_frac
  refine F.ok sc__law_plus (fun vs H Q X z => sp_len z) (fun cdv A outer s H vs Q X hr z => ?_)
  refine ⟨_, PSs.nox (
      (pss_one (ps_ret (pe_call G_law_frac (hr.mono (by decide)) rfl m_law_frac k_law_frac b_law_frac .nil pass0 (pa_cons (pe_op op_add (pe_op op_mulW (pe_ix ix_tup (pv 0) pe_int (fun _ _ => rfl)) (pe_ix ix_tup (pv 1) pe_int (fun _ _ => rfl))) (pe_op op_mulW (pe_ix ix_tup (pv 1) pe_int (fun _ _ => rfl)) (pe_ix ix_tup (pv 0) pe_int (fun _ _ => rfl)))) (pa_cons (pe_op op_mulW (pe_ix ix_tup (pv 0) pe_int (fun _ _ => rfl)) (pe_ix ix_tup (pv 1) pe_int (fun _ _ => rfl))) pa_nil)))))), ?_⟩
  exact d_read0 (n := 2) (N := ["one", "other"]) (w_ret (l_call (l_cons (l_op s_int (l_op s_intC (l_op s_ixT l_var l_int) (l_op s_ixT l_var l_int)) (l_op s_intC (l_op s_ixT l_var l_int) (l_op s_ixT l_var l_int))) (l_cons (l_op s_intC (l_op s_ixT l_var l_int) (l_op s_ixT l_var l_int)) l_nil)))) (by decide) z
end
end DL

set_option Elab.async false
set_option linter.all false
set_option maxRecDepth 100000
set_option maxHeartbeats 1000000
namespace DL
open PySem L2 He DX DW
section
variable {P : Program} {w : World} {K : PySem.W.Frag} {mg : Str → Option Value} {base : Heap} {f : Addr} {fd : FuncData}
theorem sc__law_by : FnScope ["one", "other"] ["one", "other"] (defScope s__law_by) := ⟨rfl, rfl, rfl, by decide +kernel, rfl, by decide +kernel, by decide +kernel⟩
theorem ok__law_by (F : FnP K "_law_by" "_law_by" s__law_by [] f fd) (TX : Tx K) (T : TT mg)
    (G_law_frac : GloOk P w K mg base CX0 2 "_law_frac" ["top", "bottom"] (spD K 2 f__law_frac)) : FnOk P w K mg base CX0 3 f fd ["one", "other"] (spD K 2 f__law_by) := by
  obtain ⟨f_law_frac, fd_law_frac, G_law_frac, m_law_frac, k_law_frac, b_law_frac⟩ := G_law_frac
  refine F.ok sc__law_by (fun vs H Q X z => sp_len z) (fun cdv A outer s H vs Q X hr z => ?_)
  refine ⟨_, PSs.nox (
      (pss_one (ps_ret (pe_call G_law_frac (hr.mono (by decide)) rfl m_law_frac k_law_frac b_law_frac .nil pass0 (pa_cons (pe_op op_mulW (pe_ix ix_tup (pv 0) pe_int (fun _ _ => rfl)) (pe_ix ix_tup (pv 1) pe_int (fun _ _ => rfl))) (pa_cons (pe_op op_mulW (pe_ix ix_tup (pv 0) pe_int (fun _ _ => rfl)) (pe_ix ix_tup (pv 1) pe_int (fun _ _ => rfl))) pa_nil)))))), ?_⟩
  exact d_read0 (n := 2) (N := ["one", "other"]) (w_ret (l_call (l_cons (l_op s_intC (l_op s_ixT l_var l_int) (l_op s_ixT l_var l_int)) (l_cons (l_op s_intC (l_op s_ixT l_var l_int) (l_op s_ixT l_var l_int)) l_nil)))) (by decide) z
end
end DL

set_option Elab.async false
set_option linter.all false
set_option maxRecDepth 100000
set_option maxHeartbeats 1000000
namespace DL
open PySem L2 He DX DW
section
variable {P : Program} {w : World} {K : PySem.W.Frag} {mg : Str → Option Value} {base : Heap} {f : Addr} {fd : FuncData}
theorem sc__law_is : FnScope ["told", "due"] ["told", "due"] (defScope s__law_is) := ⟨rfl, rfl, rfl, by decide +kernel, rfl, by decide +kernel, by decide +kernel⟩
theorem ok__law_is (F : FnP K "_law_is" "_law_is" s__law_is [] f fd) (TX : Tx K) (T : TT mg)
    (pRatio : Pres K "Ratio")
    (mgc_Ratio : mg "Ratio" = some (.ref (He.ga K "Ratio")))
    (G_law_is_integer : GloOk P w K mg base CX0 1 "_law_is_integer" ["thing"] (spD K 1 f__law_is_integer)) : FnOk P w K mg base CX0 2 f fd ["told", "due"] (spD K 2 f__law_is) := by
  obtain ⟨f_law_is_integer, fd_law_is_integer, G_law_is_integer, m_law_is_integer, k_law_is_integer, b_law_is_integer⟩ := G_law_is_integer
  refine F.ok sc__law_is (fun vs H Q X z => sp_len z) (fun cdv A outer s H vs Q X hr z => ?_)
  refine ⟨_, PSs.nox (
      (pss_cons (ps_if (PW.pt (pw_or (pt_not (pt_val (pe_callB call_isi (by rfl) T.isinst (by decide +kernel) (pa_cons (pv 0) (pa_cons (pe_glob (v := .ref (He.ga K "Ratio")) (by rfl) mgc_Ratio rfl) pa_nil))))) (pw_or (pt_not (pt_val (pe_call G_law_is_integer (hr.mono (by decide)) rfl m_law_is_integer k_law_is_integer b_law_is_integer .nil pass0 (pa_cons (pe_fld (pv 0) rfl) pa_nil)))) (pw_or1 (pt_not (pt_val (pe_call G_law_is_integer (hr.mono (by decide)) rfl m_law_is_integer k_law_is_integer b_law_is_integer .nil pass0 (pa_cons (pe_fld (pv 0) rfl) pa_nil)))))))) 
        (pss_one (ps_ret pe_bl)) pss_nil) 
      (pss_one (ps_ret (pe_and (pe_cmpR op_eq (pe_fld (pv 0) rfl) (pe_ix ix_tup (pv 1) pe_int (fun _ _ => rfl)) (nomark _)) (pe_one (pe_cmpR op_eq (pe_fld (pv 0) rfl) (pe_ix ix_tup (pv 1) pe_int (fun _ _ => rfl)) (nomark _)))))))), ?_⟩
  exact d_read0 (n := 2) (N := ["told", "due"]) (w_seq (w_if (l_or (l_not (l_B (l_isC TX pRatio l_var))) (l_or (l_not (l_B (l_call (l_cons (l_fld TX l_var) l_nil)))) (l_not (l_B (l_call (l_cons (l_fld TX l_var) l_nil)))))) (w_ret l_bl) w_next) (w_ret (l_andV (l_op s_eq (l_fld TX l_var) (l_op s_ixT l_var l_int)) (l_op s_eq (l_fld TX l_var) (l_op s_ixT l_var l_int))))) (by decide) z
end
end DL

set_option Elab.async false
set_option linter.all false
set_option maxRecDepth 100000
set_option maxHeartbeats 1000000
namespace DL
open PySem L2 He DX DW
section
variable {P : Program} {w : World} {K : PySem.W.Frag} {mg : Str → Option Value} {base : Heap} {f : Addr} {fd : FuncData}
theorem sc__law_number : FnScope ["stream", "size", "top", "bottom"] ["stream"] (defScope s__law_number) := ⟨rfl, rfl, rfl, by decide +kernel, rfl, by decide +kernel, by decide +kernel⟩
theorem ok__law_number (F : FnP K "_law_number" "_law_number" s__law_number [] f fd) (TX : Tx K) (T : TT mg)
    (G_law_draw : GloOk P w K mg base CX0 1 "_law_draw" ["stream", "many"] (spD K 2 mDraw))
    (G_law_frac : GloOk P w K mg base CX0 2 "_law_frac" ["top", "bottom"] (spD K 2 f__law_frac)) : FnOk P w K mg base CX0 3 f fd ["stream"] (spD K 1 f__law_number) := by
  obtain ⟨f_law_draw, fd_law_draw, G_law_draw, m_law_draw, k_law_draw, b_law_draw⟩ := G_law_draw
  obtain ⟨f_law_frac, fd_law_frac, G_law_frac, m_law_frac, k_law_frac, b_law_frac⟩ := G_law_frac
  refine F.ok sc__law_number (fun vs H Q X z => sp_len z) (fun cdv A outer s H vs Q X hr z => ?_)
  refine ⟨_, PSs.nox (
      (pss_cons (ps_set (i := 1) sc__law_number.nd rfl (Or.inl rfl) (pe_ix ix_list (pe_lst (pa_cons pe_int (pa_cons pe_int (pa_cons pe_int (pa_cons pe_int (pa_cons (pe_op op_pow pe_int pe_int) pa_nil)))))) (pe_call G_law_draw (hr.mono (by decide)) rfl m_law_draw k_law_draw b_law_draw .nil pass0 (pa_cons (pv 0) (pa_cons pe_int pa_nil))) (fun _ _ => rfl))) 
      (pss_cons (ps_set (i := 2) sc__law_number.nd rfl (Or.inl rfl) (pe_op op_sub (pe_call G_law_draw (hr.mono (by decide)) rfl m_law_draw k_law_draw b_law_draw .nil pass0 (pa_cons (pv 0) (pa_cons (pe_op op_add (pe_op op_mulW pe_int (pv 1)) pe_int) pa_nil))) (pv 1))) 
      (pss_cons (ps_set (i := 3) sc__law_number.nd rfl (Or.inl rfl) (pe_op op_add pe_int (pe_call G_law_draw (hr.mono (by decide)) rfl m_law_draw k_law_draw b_law_draw .nil pass0 (pa_cons (pv 0) (pa_cons (pe_ix ix_list (pe_lst (pa_cons pe_int (pa_cons pe_int (pa_cons pe_int (pa_cons pe_int pa_nil))))) (pe_call G_law_draw (hr.mono (by decide)) rfl m_law_draw k_law_draw b_law_draw .nil pass0 (pa_cons (pv 0) (pa_cons pe_int pa_nil))) (fun _ _ => rfl)) pa_nil))))) 
      (pss_one (ps_ret (pe_call G_law_frac (hr.mono (by decide)) rfl m_law_frac k_law_frac b_law_frac .nil pass0 (pa_cons (pv 2) (pa_cons (pv 3) pa_nil))))))))), ?_⟩
  exact d_read0 (n := 1) (N := ["stream", "size", "top", "bottom"]) (w_seq (w_setD (l_op s_ixL (l_eLst (l_cons l_int (l_cons l_int (l_cons l_int (l_cons l_int (l_cons (l_op s_intC l_int l_int) l_nil))))) (by decide)) (l_call (l_cons l_var (l_cons l_int l_nil))))) (w_seq (w_setD (l_op s_int (l_call (l_cons l_var (l_cons (l_op s_int (l_op s_intC l_int l_var) l_int) l_nil))) l_var)) (w_seq (w_setD (l_op s_int l_int (l_call (l_cons l_var (l_cons (l_op s_ixL (l_eLst (l_cons l_int (l_cons l_int (l_cons l_int (l_cons l_int l_nil)))) (by decide)) (l_call (l_cons l_var (l_cons l_int l_nil)))) l_nil))))) (w_ret (l_call (l_cons l_var (l_cons l_var l_nil))))))) (by decide) z
end
end DL

set_option Elab.async false
set_option linter.all false
set_option maxRecDepth 100000
set_option maxHeartbeats 1000000
namespace DL
open PySem L2 He DX DW
section
variable {P : Program} {w : World} {K : PySem.W.Frag} {mg : Str → Option Value} {base : Heap} {f : Addr} {fd : FuncData}
theorem sc__law_names : FnScope ["stream", "many", "letters", "found", "k", "name", "turn", "letter"] ["stream", "many"] (defScope s__law_names) := ⟨rfl, rfl, rfl, by decide +kernel, rfl, by decide +kernel, by decide +kernel⟩
theorem ok__law_names (F : FnP K "_law_names" "_law_names" s__law_names [] f fd) (TX : Tx K) (T : TT mg)
    (G_law_draw : GloOk P w K mg base CX0 1 "_law_draw" ["stream", "many"] (spD K 2 mDraw)) : FnOk P w K mg base CX0 2 f fd ["stream", "many"] (spD K 2 f__law_names) := by
  obtain ⟨f_law_draw, fd_law_draw, G_law_draw, m_law_draw, k_law_draw, b_law_draw⟩ := G_law_draw
  refine F.ok sc__law_names (fun vs H Q X z => sp_len z) (fun cdv A outer s H vs Q X hr z => ?_)
  refine ⟨_, PSs.nox (
      (pss_cons (ps_set (i := 2) sc__law_names.nd rfl (Or.inl rfl) pe_str) 
      (pss_cons (ps_set (i := 3) sc__law_names.nd rfl (Or.inl rfl) (pe_lst pa_nil)) 
      (pss_cons (ps_for PassesOwn.never rfl (pi_range1 (by rfl) T.range (pa_cons (pv 1) pa_nil)) (pg_name (i := 4) sc__law_names.nd rfl (Or.inl rfl)) 
        (pss_cons (ps_set (i := 5) sc__law_names.nd rfl (Or.inl rfl) (pe_ix ix_str (pv 2) (pe_call G_law_draw (hr.mono (by decide)) rfl m_law_draw k_law_draw b_law_draw .nil pass0 (pa_cons (pv 0) (pa_cons pe_int pa_nil))) (fun _ _ => rfl))) 
        (pss_cons (ps_for PassesOwn.never rfl (pi_range1 (by rfl) T.range (pa_cons (pe_call G_law_draw (hr.mono (by decide)) rfl m_law_draw k_law_draw b_law_draw .nil pass0 (pa_cons (pv 0) (pa_cons (pe_ix ix_list (pe_lst (pa_cons pe_int (pa_cons pe_int (pa_cons pe_int pa_nil)))) (pe_call G_law_draw (hr.mono (by decide)) rfl m_law_draw k_law_draw b_law_draw .nil pass0 (pa_cons (pv 0) (pa_cons pe_int pa_nil))) (fun _ _ => rfl)) pa_nil))) pa_nil)) (pg_name (i := 6) sc__law_names.nd rfl (Or.inl rfl)) 
          (pss_one (ps_set (i := 5) sc__law_names.nd rfl (Or.inl rfl) (pe_op op_add_str (pv 5) (pe_ix ix_str (pe_op op_add_str (pv 2) pe_str) (pe_call G_law_draw (hr.mono (by decide)) rfl m_law_draw k_law_draw b_law_draw .nil pass0 (pa_cons (pv 0) (pa_cons pe_int pa_nil))) (fun _ _ => rfl)))))) 
        (pss_cons (ps_for PassesOwn.never rfl (pi_str (pv 2)) (pg_name (i := 7) sc__law_names.nd rfl (Or.inl rfl)) 
          (pss_one (ps_if (PW.pt (pw_and (PW.pt (pw_or (pt_cmpR op_in_seq (pv 5) (pv 3) (by rfl)) (pw_or1 (pt_cmpR op_in_seq (pv 5) (pe_lst (pa_cons pe_str (pa_cons pe_str pa_nil))) (by rfl))))) (pw_and1 (pt_cmpR op_notIn_seq (pv 7) (pv 3) (by rfl))))) 
            (pss_one (ps_set (i := 5) sc__law_names.nd rfl (Or.inl rfl) (pv 7))) pss_nil))) 
        (pss_one (ps_expr (pe_bm PySem.F.plainAttrs_list PySem.F.slot_list_append PySem.F.type_list_append mt_append (pv 3) (pa_cons (pv 5) pa_nil)))))))) 
      (pss_one (ps_ret (pv 3))))))), ?_⟩
  exact d_read0 (n := 2) (N := ["stream", "many", "letters", "found", "k", "name", "turn", "letter"]) (w_seq (w_setD l_str) (w_seq (w_setO (l_eLst l_nil (by decide))) (w_seq (w_for (i_rng1 (l_cons l_var l_nil)) g_name (w_seq (w_setD (l_op s_ixS l_var (l_call (l_cons l_var (l_cons l_int l_nil))))) (w_seq (w_for (i_rng1 (l_cons (l_call (l_cons l_var (l_cons (l_op s_ixL (l_eLst (l_cons l_int (l_cons l_int (l_cons l_int l_nil))) (by decide)) (l_call (l_cons l_var (l_cons l_int l_nil)))) l_nil))) l_nil)) g_name (w_setD (l_op s_addS l_var (l_op s_ixS (l_op s_addS l_var l_str) (l_call (l_cons l_var (l_cons l_int l_nil))))))) (w_seq (w_for (i_str l_var) g_name (w_if (l_and (l_or (l_Test (l_op s_in l_var l_var)) (l_Test (l_op s_in l_var (l_eLst (l_cons l_str (l_cons l_str l_nil)) (by decide))))) (l_Test (l_op s_in l_var l_var))) (w_setD l_var) w_next)) (w_app l_var))))) w_retO))) (by decide) z
end
end DL

set_option Elab.async false
set_option linter.all false
set_option maxRecDepth 100000
set_option maxHeartbeats 1000000
namespace DL
open PySem L2 He DX DW
section
variable {P : Program} {w : World} {K : PySem.W.Frag} {mg : Str → Option Value} {base : Heap} {f : Addr} {fd : FuncData}
theorem sc__law_axes : FnScope ["stream", "many", "room", "axes", "name", "size"] ["stream"] (defScope s__law_axes) := ⟨rfl, rfl, rfl, by decide +kernel, rfl, by decide +kernel, by decide +kernel⟩
theorem ok__law_axes (F : FnP K "_law_axes" "_law_axes" s__law_axes [] f fd) (TX : Tx K) (T : TT mg)
    (G_law_draw : GloOk P w K mg base CX0 1 "_law_draw" ["stream", "many"] (spD K 2 mDraw))
    (G_law_names : GloOk P w K mg base CX0 2 "_law_names" ["stream", "many"] (spD K 2 f__law_names)) : FnOk P w K mg base CX0 3 f fd ["stream"] (spD K 1 f__law_axes) := by
  obtain ⟨f_law_draw, fd_law_draw, G_law_draw, m_law_draw, k_law_draw, b_law_draw⟩ := G_law_draw
  obtain ⟨f_law_names, fd_law_names, G_law_names, m_law_names, k_law_names, b_law_names⟩ := G_law_names
  refine F.ok sc__law_axes (fun vs H Q X z => sp_len z) (fun cdv A outer s H vs Q X hr z => ?_)
  refine ⟨_, PSs.nox (
      (pss_cons (ps_set (i := 1) sc__law_axes.nd rfl (Or.inl rfl) (pe_op op_add pe_int (pe_call G_law_draw (hr.mono (by decide)) rfl m_law_draw k_law_draw b_law_draw .nil pass0 (pa_cons (pv 0) (pa_cons pe_int pa_nil))))) 
      (pss_cons (ps_set (i := 2) sc__law_axes.nd rfl (Or.inl rfl) pe_int) 
      (pss_cons (ps_set (i := 3) sc__law_axes.nd rfl (Or.inl rfl) (pe_lst pa_nil)) 
      (pss_cons (ps_for PassesOwn.never rfl (pi_list (pe_call G_law_names (hr.mono (by decide)) rfl m_law_names k_law_names b_law_names .nil pass0 (pa_cons (pv 0) (pa_cons (pv 1) pa_nil)))) (pg_name (i := 4) sc__law_axes.nd rfl (Or.inl rfl)) 
        (pss_cons (ps_set (i := 5) sc__law_axes.nd rfl (Or.inl rfl) (pe_op op_add pe_int (pe_call G_law_draw (hr.mono (by decide)) rfl m_law_draw k_law_draw b_law_draw .nil pass0 (pa_cons (pv 0) (pa_cons (pe_callB (call_min2 rfl) (by rfl) T.min (by decide +kernel) (pa_cons pe_int (pa_cons (pv 2) pa_nil))) pa_nil))))) 
        (pss_cons (ps_set (i := 2) sc__law_axes.nd rfl (Or.inl rfl) (pe_op op_fdivX (pv 2) (pv 5))) 
        (pss_one (ps_expr (pe_bm PySem.F.plainAttrs_list PySem.F.slot_list_append PySem.F.type_list_append mt_append (pv 3) (pa_cons (pe_tup (pa_cons (pv 4) (pa_cons (pe_callTy (show CallR _ (.type "tuple") (rTup' K) from call_tuple_of) (by rfl) T.tuple (by decide +kernel) (pa_cons (pe_call G_law_names (hr.mono (by decide)) rfl m_law_names k_law_names b_law_names .nil pass0 (pa_cons (pv 0) (pa_cons (pv 5) pa_nil))) pa_nil)) pa_nil))) pa_nil))))))) 
      (pss_one (ps_ret (pe_callTy (show CallR _ (.type "tuple") (rTup' K) from call_tuple_of) (by rfl) T.tuple (by decide +kernel) (pa_cons (pv 3) pa_nil))))))))), ?_⟩
  exact d_read0 (n := 1) (N := ["stream", "many", "room", "axes", "name", "size"]) (w_seq (w_setD (l_op s_int l_int (l_call (l_cons l_var (l_cons l_int l_nil))))) (w_seq (w_setD l_int) (w_seq (w_setO (l_eLst l_nil (by decide))) (w_seq (w_for (i_list (l_call (l_cons l_var (l_cons l_var l_nil)))) g_name (w_seq (w_setD (l_op s_int l_int (l_call (l_cons l_var (l_cons (l_N s_2I (l_cons l_int (l_cons l_var l_nil))) l_nil))))) (w_seq (w_setD (l_op s_intC l_var l_var)) (w_app (l_eTup (l_cons l_var (l_cons (l_N s_tuple (l_cons (l_call (l_cons l_var (l_cons l_var l_nil))) l_nil)) l_nil)) (by decide)))))) (w_ret (l_N s_tuple (l_cons l_var l_nil))))))) (by decide) z
end
end DL

set_option Elab.async false
set_option linter.all false
set_option maxRecDepth 100000
set_option maxHeartbeats 1000000
namespace DL
open PySem L2 He DX DW
section
variable {P : Program} {w : World} {K : PySem.W.Frag} {mg : Str → Option Value} {base : Heap} {f : Addr} {fd : FuncData}
theorem sc__law_cells : FnScope ["axes", "cells", "axis", "longer", "cell", "member"] ["axes"] (defScope s__law_cells) := ⟨rfl, rfl, rfl, by decide +kernel, rfl, by decide +kernel, by decide +kernel⟩
theorem ok__law_cells (F : FnP K "_law_cells" "_law_cells" s__law_cells [] f fd) (TX : Tx K) (T : TT mg) : FnOk P w K mg base CX0 1 f fd ["axes"] (spD K 1 f__law_cells) := by
  refine F.ok sc__law_cells (fun vs H Q X z => sp_len z) (fun cdv A outer s H vs Q X hr z => ?_)
  refine ⟨_, PSs.nox (
      (pss_cons (ps_set (i := 1) sc__law_cells.nd rfl (Or.inl rfl) (pe_lst (pa_cons (pe_tup pa_nil) pa_nil))) 
      (pss_cons (ps_for PassesOwn.never rfl (pi_tup (pv 0)) (pg_name (i := 2) sc__law_cells.nd rfl (Or.inl rfl)) 
        (pss_cons (ps_set (i := 3) sc__law_cells.nd rfl (Or.inl rfl) (pe_lst pa_nil)) 
        (pss_cons (ps_for PassesOwn.never rfl (pi_list (pe_callTy (show CallR _ (.type "list") (rList' K) from call_list_of) (by rfl) T.list (by decide +kernel) (pa_cons (pv 1) pa_nil))) (pg_name (i := 4) sc__law_cells.nd rfl (Or.inl rfl)) 
          (pss_one (ps_for PassesOwn.never rfl (pi_tup (pe_ix ix_tup (pv 2) pe_int (fun _ _ => rfl))) (pg_name (i := 5) sc__law_cells.nd rfl (Or.inl rfl)) 
            (pss_one (ps_expr (pe_bm PySem.F.plainAttrs_list PySem.F.slot_list_append PySem.F.type_list_append mt_append (pv 3) (pa_cons (pe_op op_catA (pv 4) (pe_tup (pa_cons (pv 5) pa_nil))) pa_nil))))))) 
        (pss_one (ps_set (i := 1) sc__law_cells.nd rfl (Or.inl rfl) (pe_callTy (show CallR _ (.type "list") (rList' K) from call_list_of) (by rfl) T.list (by decide +kernel) (pa_cons (pv 3) pa_nil))))))) 
      (pss_one (ps_ret (pv 1)))))), ?_⟩
  exact d_read0 (n := 1) (N := ["axes", "cells", "axis", "longer", "cell", "member"]) (w_seq (w_setO (l_eLst (l_cons (l_eTup l_nil (by decide)) l_nil) (by decide))) (w_seq (w_for (i_tup l_var) g_name (w_seq (w_setO (l_eLst l_nil (by decide))) (w_seq (w_for (i_list (l_N s_list (l_cons l_var l_nil))) g_name (w_for (i_tup (l_op s_ixT l_var l_int)) g_name (w_app (l_op s_catA l_var (l_eTup (l_cons l_var l_nil) (by decide)))))) (w_setO (l_N s_list (l_cons l_var l_nil)))))) w_retO)) (by decide) z
end
end DL

set_option Elab.async false
set_option linter.all false
set_option maxRecDepth 100000
set_option maxHeartbeats 1000000
namespace DL
open PySem L2 He DX DW
section
variable {P : Program} {w : World} {K : PySem.W.Frag} {mg : Str → Option Value} {base : Heap} {f : Addr} {fd : FuncData}
theorem sc__law_wish : FnScope ["stream", "axes", "wish", "order", "name", "members", "some", "member"] ["stream", "axes"] (defScope s__law_wish) := ⟨rfl, rfl, rfl, by decide +kernel, rfl, by decide +kernel, by decide +kernel⟩
theorem ok__law_wish (F : FnP K "_law_wish" "_law_wish" s__law_wish [] f fd) (TX : Tx K) (T : TT mg)
    (G_law_draw : GloOk P w K mg base CX0 1 "_law_draw" ["stream", "many"] (spD K 2 mDraw)) : FnOk P w K mg base CX0 2 f fd ["stream", "axes"] (spD K 2 f__law_wish) := by
  obtain ⟨f_law_draw, fd_law_draw, G_law_draw, m_law_draw, k_law_draw, b_law_draw⟩ := G_law_draw
  refine F.ok sc__law_wish (fun vs H Q X z => sp_len z) (fun cdv A outer s H vs Q X hr z => ?_)
  refine ⟨_, PSs.nox (
      (pss_cons (ps_set (i := 2) sc__law_wish.nd rfl (Or.inl rfl) (pe_lst pa_nil)) 
      (pss_cons (ps_set (i := 3) sc__law_wish.nd rfl (Or.inl rfl) (pe_callTy (show CallR _ (.type "list") (rList' K) from call_list_of) (by rfl) T.list (by decide +kernel) (pa_cons (pv 1) pa_nil))) 
      (pss_cons (ps_if (pt_cmpR op_eq (pe_call G_law_draw (hr.mono (by decide)) rfl m_law_draw k_law_draw b_law_draw .nil pass0 (pa_cons (pv 0) (pa_cons pe_int pa_nil))) pe_int (nomark _)) 
        (pss_one (ps_expr (pe_bm0 PySem.F.plainAttrs_list PySem.F.slot_list_reverse PySem.F.type_list_reverse mt_reverse (pv 3)))) pss_nil) 
      (pss_cons (ps_for PassesOwn.never rfl (pi_list (pv 3)) (pg_tup (by rfl) (pgs_cons (pg_name (i := 4) sc__law_wish.nd rfl (Or.inl rfl)) (pgs_cons (pg_name (i := 5) sc__law_wish.nd rfl (Or.inl rfl)) pgs_nil))) 
        (pss_one (ps_if (pt_cmpR op_eq (pe_call G_law_draw (hr.mono (by decide)) rfl m_law_draw k_law_draw b_law_draw .nil pass0 (pa_cons (pv 0) (pa_cons pe_int pa_nil))) pe_int (nomark _)) 
          (pss_cons (ps_setLc (i := 6) (own := [("member", 7)]) (g := gName 7) (by rfl) sc__law_wish.nd rfl (by rfl) (by rfl) (pi_tup (pv 5)) (blkOk_by (own := [("member", 7)]) (N := ["stream", "axes", "wish", "order", "name", "members", "some", "member"]) (sc := defScope s__law_wish) (by decide +kernel)) (fun _ _ _ _ _ => (pg_name (i := 7) sc__law_wish.nd rfl (Or.inl rfl))) (fun _ _ _ _ _ => (pts_one (pt_by (E := E0) K (tBl (eOp (fEq false) (eCall0 mDraw (aCons (eVar 0) (aCons (eC (.int 2)) aNil))) (eC (.int 0)))) (l_Test (l_op s_eq (l_call (l_cons l_var (l_cons l_int l_nil))) l_int)) (pt_cmpR op_eq (pe_call G_law_draw (hr.mono (by decide)) rfl m_law_draw k_law_draw b_law_draw .nil pass0 (pa_cons (pv 0) (pa_cons pe_int pa_nil))) pe_int (nomark _)))))
          (fun _ _ _ _ _ => (pe_by (E := E0) K (eVar 7) l_var (pv 7)))) 
          (pss_cons (ps_if (pt_cmpR (op_eqD hr.units) (pv 6) (pe_lst pa_nil) (nomark _)) 
            (pss_one (ps_set (i := 6) sc__law_wish.nd rfl (Or.inl rfl) (pe_op op_rep (pe_lst (pa_cons (pe_ix ix_tup (pv 5) (pe_call G_law_draw (hr.mono (by decide)) rfl m_law_draw k_law_draw b_law_draw .nil pass0 (pa_cons (pv 0) (pa_cons (pe_callB call_len_seq (by rfl) T.len PySem.boot_len (pa_cons (pv 5) pa_nil)) pa_nil))) (fun _ _ => rfl)) pa_nil)) (pe_op op_add pe_int (pe_call G_law_draw (hr.mono (by decide)) rfl m_law_draw k_law_draw b_law_draw .nil pass0 (pa_cons (pv 0) (pa_cons pe_int pa_nil))))))) pss_nil) 
          (pss_cons (ps_if (pt_cmpR op_eq (pe_call G_law_draw (hr.mono (by decide)) rfl m_law_draw k_law_draw b_law_draw .nil pass0 (pa_cons (pv 0) (pa_cons pe_int pa_nil))) pe_int (nomark _)) 
            (pss_one (ps_expr (pe_bm0 PySem.F.plainAttrs_list PySem.F.slot_list_reverse PySem.F.type_list_reverse mt_reverse (pv 6)))) pss_nil) 
          (pss_one (ps_expr (pe_bm PySem.F.plainAttrs_list PySem.F.slot_list_append PySem.F.type_list_append mt_append (pv 2) (pa_cons (pe_tup (pa_cons (pv 4) (pa_cons (pe_callTy (show CallR _ (.type "tuple") (rTup' K) from call_tuple_of) (by rfl) T.tuple (by decide +kernel) (pa_cons (pv 6) pa_nil)) pa_nil))) pa_nil))))))) pss_nil))) 
      (pss_one (ps_ret (pe_callTy (show CallR _ (.type "tuple") (rTup' K) from call_tuple_of) (by rfl) T.tuple (by decide +kernel) (pa_cons (pv 2) pa_nil))))))))), ?_⟩
  exact d_read0 (n := 2) (N := ["stream", "axes", "wish", "order", "name", "members", "some", "member"]) (w_seq (w_setO (l_eLst l_nil (by decide))) (w_seq (w_setO (l_N s_list (l_cons l_var l_nil))) (w_seq (w_if (l_Test (l_op s_eq (l_call (l_cons l_var (l_cons l_int l_nil))) l_int)) w_rev w_next) (w_free (w_seq (w_for (i_list l_var) (g_tup (gs_cons (gs_cons gs_nil)) rfl) (w_if (l_Test (l_op s_eq (l_call (l_cons l_var (l_cons l_int l_nil))) l_int)) (w_seq (w_setO (l_lc (i_tup l_var) g_name (by decide) (l_Test (l_op s_eq (l_call (l_cons l_var (l_cons l_int l_nil))) l_int)) l_var)) (w_seq (w_if (l_Test (l_op s_eqD l_var (l_eLst l_nil (by decide)))) (w_setO (l_op s_rep (l_eLst (l_cons (l_op s_ixT l_var (l_call (l_cons l_var (l_cons (l_N s_len (l_cons l_var l_nil)) l_nil)))) l_nil) (by decide)) (l_op s_int l_int (l_call (l_cons l_var (l_cons l_int l_nil)))))) w_next) (w_seq (w_if (l_Test (l_op s_eq (l_call (l_cons l_var (l_cons l_int l_nil))) l_int)) w_rev w_next) (w_app (l_eTup (l_cons l_var (l_cons (l_N s_tuple (l_cons l_var l_nil)) l_nil)) (by decide)))))) w_next)) (w_ret (l_N s_tuple (l_cons l_var l_nil)))))))) (by decide) z
end
end DL

set_option Elab.async false
set_option linter.all false
set_option maxRecDepth 100000
set_option maxHeartbeats 1000000
namespace DL
open PySem L2 He DX DW
section
variable {P : Program} {w : World} {K : PySem.W.Frag} {mg : Str → Option Value} {base : Heap} {f : Addr} {fd : FuncData}
theorem sc__law_region : FnScope ["axes", "wish", "cells", "names", "found", "place", "fits", "name", "members", "axis"] ["axes", "wish"] (defScope s__law_region) := ⟨rfl, rfl, rfl, by decide +kernel, rfl, by decide +kernel, by decide +kernel⟩
theorem ok__law_region (F : FnP K "_law_region" "_law_region" s__law_region [] f fd) (TX : Tx K) (T : TT mg)
    (G_law_cells : GloOk P w K mg base CX0 1 "_law_cells" ["axes"] (spD K 1 f__law_cells)) : FnOk P w K mg base CX0 2 f fd ["axes", "wish"] (spD K 2 f__law_region) := by
  obtain ⟨f_law_cells, fd_law_cells, G_law_cells, m_law_cells, k_law_cells, b_law_cells⟩ := G_law_cells
  refine F.ok sc__law_region (fun vs H Q X z => sp_len z) (fun cdv A outer s H vs Q X hr z => ?_)
  refine ⟨_, PSs.nox (
      (pss_cons (ps_set (i := 2) sc__law_region.nd rfl (Or.inl rfl) (pe_call G_law_cells (hr.mono (by decide)) rfl m_law_cells k_law_cells b_law_cells .nil pass0 (pa_cons (pv 0) pa_nil))) 
      (pss_cons (ps_setLc (i := 3) (own := [("axis", 9)]) (g := gName 9) (tt := tYes) (by rfl) sc__law_region.nd rfl (by rfl) (by rfl) (pi_tup (pv 0)) (blkOk_by (own := [("axis", 9)]) (N := ["axes", "wish", "cells", "names", "found", "place", "fits", "name", "members", "axis"]) (sc := defScope s__law_region) (by decide +kernel)) (fun _ _ _ _ _ => (pg_name (i := 9) sc__law_region.nd rfl (Or.inl rfl))) (fun _ _ _ _ _ => pts_nil)
          (fun _ _ _ _ _ => (pe_by (E := E0) K (eOp (fIx Rv.asT) (eVar 9) (eC (.int 0))) (l_op s_ixT l_var l_int) (pe_ix ix_tup (pv 9) pe_int (fun _ _ => rfl))))) 
      (pss_cons (ps_set (i := 4) sc__law_region.nd rfl (Or.inl rfl) (pe_lst pa_nil)) 
      (pss_cons (ps_for PassesOwn.never rfl (pi_range1 (by rfl) T.range (pa_cons (pe_callB call_len_seq (by rfl) T.len PySem.boot_len (pa_cons (pv 2) pa_nil)) pa_nil)) (pg_name (i := 5) sc__law_region.nd rfl (Or.inl rfl)) 
        (pss_cons (ps_set (i := 6) sc__law_region.nd rfl (Or.inl rfl) pe_bl) 
        (pss_cons (ps_for PassesOwn.never rfl (pi_tup (pv 1)) (pg_tup (by rfl) (pgs_cons (pg_name (i := 7) sc__law_region.nd rfl (Or.inl rfl)) (pgs_cons (pg_name (i := 8) sc__law_region.nd rfl (Or.inl rfl)) pgs_nil))) 
          (pss_one (ps_if (pt_cmpR op_notIn_seq (pe_ix ix_tup (pe_ix ix_list (pv 2) (pv 5) (fun _ _ => rfl)) (pe_bm PySem.F.plainAttrs_list PySem.F.slot_list_index PySem.F.type_list_index mt_index (pv 3) (pa_cons (pv 7) pa_nil)) (fun _ _ => rfl)) (pv 8) (by rfl)) 
            (pss_one (ps_set (i := 6) sc__law_region.nd rfl (Or.inl rfl) pe_bl)) pss_nil))) 
        (pss_one (ps_if (pt_val (pv 6)) 
          (pss_one (ps_expr (pe_bm PySem.F.plainAttrs_list PySem.F.slot_list_append PySem.F.type_list_append mt_append (pv 4) (pa_cons (pv 5) pa_nil)))) pss_nil))))) 
      (pss_one (ps_ret (pv 4)))))))), ?_⟩
  exact d_read0 (n := 2) (N := ["axes", "wish", "cells", "names", "found", "place", "fits", "name", "members", "axis"]) (w_seq (w_setO (l_call (l_cons l_var l_nil))) (w_seq (w_setO (l_lc (i_tup l_var) g_name (by decide) l_yes (l_op s_ixT l_var l_int))) (w_seq (w_setO (l_eLst l_nil (by decide))) (w_seq (w_for (i_rng1 (l_cons (l_N s_len (l_cons l_var l_nil)) l_nil)) g_name (w_seq (w_setD l_bl) (w_seq (w_for (i_tup l_var) (g_tup (gs_cons (gs_cons gs_nil)) rfl) (w_if (l_Test (l_op s_in (l_op s_ixT (l_op s_ixL l_var l_var) (l_index l_var (l_cons l_var l_nil))) l_var)) (w_setD l_bl) w_next)) (w_if (l_B l_var) (w_app l_var) w_next)))) w_retO)))) (by decide) z
end
end DL

set_option Elab.async false
set_option linter.all false
set_option maxRecDepth 100000
set_option maxHeartbeats 1000000
namespace DL
open PySem L2 He DX DW
section
variable {P : Program} {w : World} {K : PySem.W.Frag} {mg : Str → Option Value} {base : Heap} {f : Addr} {fd : FuncData}
theorem sc__law_weights : FnScope ["stream", "size", "k"] ["stream", "size"] (defScope s__law_weights) := ⟨rfl, rfl, rfl, by decide +kernel, rfl, by decide +kernel, by decide +kernel⟩
theorem ok__law_weights (F : FnP K "_law_weights" "_law_weights" s__law_weights [] f fd) (TX : Tx K) (T : TT mg)
    (G_law_number : GloOk P w K mg base CX0 3 "_law_number" ["stream"] (spD K 1 f__law_number)) : FnOk P w K mg base CX0 4 f fd ["stream", "size"] (spD K 2 f__law_weights) := by
  obtain ⟨f_law_number, fd_law_number, G_law_number, m_law_number, k_law_number, b_law_number⟩ := G_law_number
  refine F.ok sc__law_weights (fun vs H Q X z => sp_len z) (fun cdv A outer s H vs Q X hr z => ?_)
  refine ⟨_, PSs.nox (
      (pss_one (ps_ret (pe_lc (own := [("k", 2)]) (g := gName 2) (tt := tYes) (by rfl) sc__law_weights.nd (pi_range1 (by rfl) T.range (pa_cons (pv 1) pa_nil)) (blkOk_by (own := [("k", 2)]) (N := ["stream", "size", "k"]) (sc := defScope s__law_weights) (by decide +kernel)) (fun _ _ _ _ _ => (pg_name (i := 2) sc__law_weights.nd rfl (Or.inl rfl))) (fun _ _ _ _ _ => pts_nil)
          (fun _ _ _ _ _ => (pe_by (E := E0) K (eCall0 f__law_number (aCons (eVar 0) aNil)) (l_call (l_cons l_var l_nil)) (pe_call G_law_number (hr.mono (by decide)) rfl m_law_number k_law_number b_law_number .nil pass0 (pa_cons (pv 0) pa_nil)))))))), ?_⟩
  exact d_read0 (n := 2) (N := ["stream", "size", "k"]) (w_ret (l_lc (i_rng1 (l_cons l_var l_nil)) g_name (by decide) l_yes (l_call (l_cons l_var l_nil)))) (by decide) z
end
end DL

set_option Elab.async false
set_option linter.all false
set_option maxRecDepth 100000
set_option maxHeartbeats 1000000
namespace DL
open PySem L2 He DX DW
section
variable {P : Program} {w : World} {K : PySem.W.Frag} {mg : Str → Option Value} {base : Heap} {f : Addr} {fd : FuncData}
theorem sc__law_at : FnScope ["weights", "amounts", "total", "k"] ["weights", "amounts"] (defScope s__law_at) := ⟨rfl, rfl, rfl, by decide +kernel, rfl, by decide +kernel, by decide +kernel⟩
theorem ok__law_at (F : FnP K "_law_at" "_law_at" s__law_at [] f fd) (TX : Tx K) (T : TT mg)
    (G_law_plus : GloOk P w K mg base CX0 3 "_law_plus" ["one", "other"] (spD K 2 f__law_plus))
    (G_law_by : GloOk P w K mg base CX0 3 "_law_by" ["one", "other"] (spD K 2 f__law_by)) : FnOk P w K mg base CX0 4 f fd ["weights", "amounts"] (spD K 2 f__law_at) := by
  obtain ⟨f_law_plus, fd_law_plus, G_law_plus, m_law_plus, k_law_plus, b_law_plus⟩ := G_law_plus
  obtain ⟨f_law_by, fd_law_by, G_law_by, m_law_by, k_law_by, b_law_by⟩ := G_law_by
  refine F.ok sc__law_at (fun vs H Q X z => sp_len z) (fun cdv A outer s H vs Q X hr z => ?_)
  refine ⟨_, PSs.nox (
      (pss_cons (ps_set (i := 2) sc__law_at.nd rfl (Or.inl rfl) (pe_tup (pa_cons pe_int (pa_cons pe_int pa_nil)))) 
      (pss_cons (ps_for PassesOwn.never rfl (pi_range1 (by rfl) T.range (pa_cons (pe_callB call_len_seq (by rfl) T.len PySem.boot_len (pa_cons (pv 0) pa_nil)) pa_nil)) (pg_name (i := 3) sc__law_at.nd rfl (Or.inl rfl)) 
        (pss_one (ps_set (i := 2) sc__law_at.nd rfl (Or.inl rfl) (pe_call G_law_plus (hr.mono (by decide)) rfl m_law_plus k_law_plus b_law_plus .nil pass0 (pa_cons (pv 2) (pa_cons (pe_call G_law_by (hr.mono (by decide)) rfl m_law_by k_law_by b_law_by .nil pass0 (pa_cons (pe_ix ix_list (pv 0) (pv 3) (fun _ _ => rfl)) (pa_cons (pe_ix ix_list (pv 1) (pv 3) (fun _ _ => rfl)) pa_nil))) pa_nil)))))) 
      (pss_one (ps_ret (pv 2)))))), ?_⟩
  exact d_read0 (n := 2) (N := ["weights", "amounts", "total", "k"]) (w_seq (w_setD (l_eTup (l_cons l_int (l_cons l_int l_nil)) (by decide))) (w_seq (w_for (i_rng1 (l_cons (l_N s_len (l_cons l_var l_nil)) l_nil)) g_name (w_setD (l_call (l_cons l_var (l_cons (l_call (l_cons (l_op s_ixL l_var l_var) (l_cons (l_op s_ixL l_var l_var) l_nil))) l_nil))))) (w_ret l_var))) (by decide) z
end
end DL

set_option Elab.async false
set_option linter.all false
set_option maxRecDepth 100000
set_option maxHeartbeats 1000000
namespace DL
open PySem L2 He DX DW
section
variable {P : Program} {w : World} {K : PySem.W.Frag} {mg : Str → Option Value} {base : Heap} {f : Addr} {fd : FuncData}
theorem sc__law_given : FnScope ["fracs", "frac"] ["fracs"] (defScope s__law_given) := ⟨rfl, rfl, rfl, by decide +kernel, rfl, by decide +kernel, by decide +kernel⟩
theorem ok__law_given (F : FnP K "_law_given" "_law_given" s__law_given [] f fd) (TX : Tx K) (T : TT mg)
    (pRatio : Pres K "Ratio")
    (mgc_Ratio : mg "Ratio" = some (.ref (He.ga K "Ratio")))
    (GRatio_x___init__ : MkDOk P w K mg base (He.ga K "Ratio") (L2.CX P w) 3 ["self", "top", "bottom"] [.int 1] (spI K "Ratio" 2 f_Ratio_x___init__)) : FnOk P w K mg base CX0 5 f fd ["fracs"] (spD K 1 f__law_given) := by
  obtain ⟨fRatio_x___init__, fdRatio_x___init__, GRatio_x___init__, MRatio_x___init__, bRatio_x___init__, dRatio_x___init__, vRatio_x___init__, bDRatio_x___init__⟩ := GRatio_x___init__
  refine F.ok sc__law_given (fun vs H Q X z => sp_len z) (fun cdv A outer s H vs Q X hr z => ?_)
  refine ⟨_, PSs.nox (
      (pss_one (ps_ret (pe_lc (own := [("frac", 1)]) (g := gName 1) (tt := tYes) (by rfl) sc__law_given.nd (pi_list (pv 0)) (blkOk_by (own := [("frac", 1)]) (N := ["fracs", "frac"]) (sc := defScope s__law_given) (by decide +kernel)) (fun _ _ _ _ _ => (pg_name (i := 1) sc__law_given.nd rfl (Or.inl rfl))) (fun _ _ _ _ _ => pts_nil)
          (fun _ _ _ _ _ => (pe_by (E := E0) K (eMake0 "Ratio" f_Ratio_x___init__ [] (aCons (eOp (fIx Rv.asT) (eVar 1) (eC (.int 0))) (aCons (eOp (fIx Rv.asT) (eVar 1) (eC (.int 1))) aNil))) (l_make pRatio (fun _ _ => .nil) (l_cons (l_op s_ixT l_var l_int) (l_cons (l_op s_ixT l_var l_int) l_nil)) rfl) (pe_make MRatio_x___init__ GRatio_x___init__ (hr.mono (by decide)) rfl mgc_Ratio bRatio_x___init__ .nil passL (pa_cons (pe_ix ix_tup (pv 1) pe_int (fun _ _ => rfl)) (pa_cons (pe_ix ix_tup (pv 1) pe_int (fun _ _ => rfl)) pa_nil))))))))), ?_⟩
  exact d_read0 (n := 1) (N := ["fracs", "frac"]) (w_ret (l_lc (i_list l_var) g_name (by decide) l_yes (l_make pRatio (fun _ _ => .nil) (l_cons (l_op s_ixT l_var l_int) (l_cons (l_op s_ixT l_var l_int) l_nil)) rfl))) (by decide) z
end
end DL

set_option Elab.async false
set_option linter.all false
set_option maxRecDepth 100000
set_option maxHeartbeats 1000000
namespace DL
open PySem L2 He DX DW
section
variable {P : Program} {w : World} {K : PySem.W.Frag} {mg : Str → Option Value} {base : Heap} {f : Addr} {fd : FuncData}
theorem sc__law_asks : FnScope ["told", "grid", "weights", "k"] ["told", "grid", "weights"] (defScope s__law_asks) := ⟨rfl, rfl, rfl, by decide +kernel, rfl, by decide +kernel, by decide +kernel⟩
theorem ok__law_asks (F : FnP K "_law_asks" "_law_asks" s__law_asks [] f fd) (TX : Tx K) (T : TT mg)
    (pQuestion : Pres K "Question")
    (mgc_Question : mg "Question" = some (.ref (He.ga K "Question")))
    (NGrid : PySem.W.findIn K (.ref (He.ga K "Grid")) "__ne__" = some (some (.builtin "object.__ne__"))) (BGrid : PySem.W.mroIn K (He.ga K "Grid") (.type "object") = some true)
    (GGrid_x___eq__ : MthOk P w K mg base (He.ga K "Grid") CX0 1 "__eq__" ["self", "other"] (spD K 2 f_Grid_x___eq__))
    (G_law_is : GloOk P w K mg base CX0 2 "_law_is" ["told", "due"] (spD K 2 f__law_is)) : FnOk P w K mg base CX0 3 f fd ["told", "grid", "weights"] (spD K 3 f__law_asks) := by
  obtain ⟨fGrid_x___eq__, fdGrid_x___eq__, GGrid_x___eq__, MGrid_x___eq__, bGrid_x___eq__⟩ := GGrid_x___eq__
  obtain ⟨f_law_is, fd_law_is, G_law_is, m_law_is, k_law_is, b_law_is⟩ := G_law_is
  refine F.ok sc__law_asks (fun vs H Q X z => sp_len z) (fun cdv A outer s H vs Q X hr z => ?_)
  refine ⟨_, PSs.nox (
      (pss_cons (ps_if (PW.pt (pw_or (pt_not (pt_val (pe_callB call_isi (by rfl) T.isinst (by decide +kernel) (pa_cons (pv 0) (pa_cons (pe_glob (v := .ref (He.ga K "Question")) (by rfl) mgc_Question rfl) pa_nil))))) (pw_or (pt_cmpR (op_neOwn NGrid BGrid MGrid_x___eq__.at_ MGrid_x___eq__.fn GGrid_x___eq__ (hr.mono (by decide)) bGrid_x___eq__ pass0) (pe_fld (pv 0) rfl) (pv 1) (nomark _)) (pw_or1 (pt_not (pt_val (pe_callB call_isi (by rfl) T.isinst (by decide +kernel) (pa_cons (pe_fld (pv 0) rfl) (pa_cons (pe_bltn (v := .ty "tuple") (by rfl) T.tuple (by decide +kernel) rfl) pa_nil))))))))) 
        (pss_one (ps_ret pe_bl)) pss_nil) 
      (pss_cons (ps_if (pt_cmpR op_ne (pe_callB call_len_seq (by rfl) T.len PySem.boot_len (pa_cons (pe_fld (pv 0) rfl) pa_nil)) (pe_callB call_len_seq (by rfl) T.len PySem.boot_len (pa_cons (pv 2) pa_nil)) (nomark _)) 
        (pss_one (ps_ret pe_bl)) pss_nil) 
      (pss_one (ps_ret (pe_callB (cr_all rfl) (by rfl) T.all (by decide +kernel) (pa_cons (pe_lc (own := [("k", 3)]) (g := gName 3) (tt := tYes) (by rfl) sc__law_asks.nd (pi_range1 (by rfl) T.range (pa_cons (pe_callB call_len_seq (by rfl) T.len PySem.boot_len (pa_cons (pv 2) pa_nil)) pa_nil)) (blkOk_by (own := [("k", 3)]) (N := ["told", "grid", "weights", "k"]) (sc := defScope s__law_asks) (by decide +kernel)) (fun _ _ _ _ _ => (pg_name (i := 3) sc__law_asks.nd rfl (Or.inl rfl))) (fun _ _ _ _ _ => pts_nil)
          (fun _ _ _ _ _ => (pe_by (E := E0) K (eCall0 f__law_is (aCons (eOp (fIx Rv.asT) (eUn (mFld "weights") (eVar 0)) (eVar 3)) (aCons (eOp (fIx Rv.asL) (eVar 2) (eVar 3)) aNil))) (l_call (l_cons (l_op s_ixT (l_fld TX l_var) l_var) (l_cons (l_op s_ixL l_var l_var) l_nil))) (pe_call G_law_is (hr.mono (by decide)) rfl m_law_is k_law_is b_law_is .nil pass0 (pa_cons (pe_ix ix_tup (pe_fld (pv 0) rfl) (pv 3) (fun _ _ => rfl)) (pa_cons (pe_ix ix_list (pv 2) (pv 3) (fun _ _ => rfl)) pa_nil)))))) pa_nil))))))), ?_⟩
  exact d_read0 (n := 3) (N := ["told", "grid", "weights", "k"]) (w_seq (w_if (l_or (l_not (l_B (l_isC TX pQuestion l_var))) (l_or (l_Test (l_op (s2_0 (s_neO TX)) (l_fld TX l_var) l_var)) (l_not (l_B (l_isB TX (by decide) (l_fld TX l_var)))))) (w_ret l_bl) w_next) (w_seq (w_if (l_Test (l_op s_ne (l_N s_len (l_cons (l_fld TX l_var) l_nil)) (l_N s_len (l_cons l_var l_nil)))) (w_ret l_bl) w_next) (w_ret (l_N s_bs (l_cons (l_lc (i_rng1 (l_cons (l_N s_len (l_cons l_var l_nil)) l_nil)) g_name (by decide) l_yes (l_call (l_cons (l_op s_ixT (l_fld TX l_var) l_var) (l_cons (l_op s_ixL l_var l_var) l_nil)))) l_nil))))) (by decide) z
end
end DL

set_option Elab.async false
set_option linter.all false
set_option maxRecDepth 100000
set_option maxHeartbeats 1000000
namespace DL
open PySem L2 He DX DW
section
variable {P : Program} {w : World} {K : PySem.W.Frag} {mg : Str → Option Value} {base : Heap} {f : Addr} {fd : FuncData}
theorem sc__law_ones : FnScope ["size", "places", "place"] ["size", "places"] (defScope s__law_ones) := ⟨rfl, rfl, rfl, by decide +kernel, rfl, by decide +kernel, by decide +kernel⟩
theorem ok__law_ones (F : FnP K "_law_ones" "_law_ones" s__law_ones [] f fd) (TX : Tx K) (T : TT mg) : FnOk P w K mg base CX0 1 f fd ["size", "places"] (spD K 2 f__law_ones) := by
  refine F.ok sc__law_ones (fun vs H Q X z => sp_len z) (fun cdv A outer s H vs Q X hr z => ?_)
  refine ⟨_, PSs.nox (
      (pss_one (ps_ret (pe_lc (own := [("place", 2)]) (g := gName 2) (tt := tYes) (by rfl) sc__law_ones.nd (pi_range1 (by rfl) T.range (pa_cons (pv 0) pa_nil)) (blkOk_by (own := [("place", 2)]) (N := ["size", "places", "place"]) (sc := defScope s__law_ones) (by decide +kernel)) (fun _ _ _ _ _ => (pg_name (i := 2) sc__law_ones.nd rfl (Or.inl rfl))) (fun _ _ _ _ _ => pts_nil)
          (fun _ _ _ _ _ => (pe_by (E := E0) K (eTup (aCons (eN fInt (aCons (eOp (fIn false) (eVar 2) (eVar 1)) aNil)) (aCons (eC (.int 1)) aNil))) (l_eTup (l_cons (l_N s_int1 (l_cons (l_op s_in l_var l_var) l_nil)) (l_cons l_int l_nil)) (by decide)) (pe_tup (pa_cons (pe_callTy (show CallR _ (.type "int") rInt' from call_int1) (by rfl) T.int (by decide +kernel) (pa_cons (pe_cmpR op_in_seq (pv 2) (pv 1) (by rfl)) pa_nil)) (pa_cons pe_int pa_nil))))))))), ?_⟩
  exact d_read0 (n := 2) (N := ["size", "places", "place"]) (w_ret (l_lc (i_rng1 (l_cons l_var l_nil)) g_name (by decide) l_yes (l_eTup (l_cons (l_N s_int1 (l_cons (l_op s_in l_var l_var) l_nil)) (l_cons l_int l_nil)) (by decide)))) (by decide) z
end
end DL

set_option Elab.async false
set_option linter.all false
set_option maxRecDepth 100000
set_option maxHeartbeats 1000000
namespace DL
open PySem L2 He DX DW
section
variable {P : Program} {w : World} {K : PySem.W.Frag} {mg : Str → Option Value} {base : Heap} {f : Addr} {fd : FuncData}
theorem sc_Grid_x___init__ : FnScope ["self", "axes", "name", "members", "axis"] ["self", "axes"] (defScope s_Grid_x___init__) := ⟨rfl, rfl, rfl, by decide +kernel, rfl, by decide +kernel, by decide +kernel⟩
theorem ok_Grid_x___init__ (F : FnP K "__init__" "Grid.__init__" s_Grid_x___init__ [] f fd) (TX : Tx K) (T : TT mg)
    (mgc_NoGrid : mg "NoGrid" = some (.ref (He.ga K "NoGrid")))
    (XNoGrid : EXn K (He.ga K "NoGrid") ["word"])
    (hKMOST_CELLS : mgInt mg "MOST_CELLS" 8)
    (Gare_pairs_of_axes : GloOk P w K mg base CX0 3 "are_pairs_of_axes" ["axes"] (spD K 1 f_are_pairs_of_axes))
    (GNoGrid_x___init__ : ErrOk P w K mg base (He.ga K "NoGrid") 1 ["self", "word"] (spXI (He.ga K "NoGrid") ["word"]))
    (Gare_unlike_names : GloOk P w K mg base CX0 4 "are_unlike_names" ["found"] (spD K 1 f_are_unlike_names))
    (Gare_members : GloOk P w K mg base CX0 5 "are_members" ["found"] (spD K 1 f_are_members))
    (Gcells_of : GloOk P w K mg base CX0 1 "cells_of" ["axes"] (spD K 1 f_cells_of)) : FnOk P w K mg base (L2.CX P w) 6 f fd ["self", "axes"] (spI K "Grid" 1 f_Grid_x___init__) := by
  obtain ⟨fare_pairs_of_axes, fdare_pairs_of_axes, Gare_pairs_of_axes, mare_pairs_of_axes, kare_pairs_of_axes, bare_pairs_of_axes⟩ := Gare_pairs_of_axes
  obtain ⟨fNoGrid_x___init__, fdNoGrid_x___init__, GNoGrid_x___init__, iNoGrid_x___init__, tNoGrid_x___init__, bNoGrid_x___init__⟩ := GNoGrid_x___init__
  obtain ⟨fare_unlike_names, fdare_unlike_names, Gare_unlike_names, mare_unlike_names, kare_unlike_names, bare_unlike_names⟩ := Gare_unlike_names
  obtain ⟨fare_members, fdare_members, Gare_members, mare_members, kare_members, bare_members⟩ := Gare_members
  obtain ⟨fcells_of, fdcells_of, Gcells_of, mcells_of, kcells_of, bcells_of⟩ := Gcells_of
  refine F.ok sc_Grid_x___init__ (fun vs H Q X z => spI_len z) (fun cdv A outer s H vs Q X hr z => ?_)
  refine ⟨_, 
      (pss_cons (ps_if (pt_not (pt_val (pe_call Gare_pairs_of_axes (hr.mono (by decide)) rfl mare_pairs_of_axes kare_pairs_of_axes bare_pairs_of_axes .nil pass0 (pa_cons (pv 1) pa_nil)))) 
        (pss_one (ps_raise rfl (takes_of rfl rfl rfl rfl) (pmk_oex XNoGrid.ox iNoGrid_x___init__ tNoGrid_x___init__ GNoGrid_x___init__ (hr.mono (by decide)) bNoGrid_x___init__ .nil pass0 rfl mgc_NoGrid (pa_cons pe_str pa_nil)))) pss_nil) 
      (pss_cons (ps_if (pt_not (pt_val (pe_call Gare_unlike_names (hr.mono (by decide)) rfl mare_unlike_names kare_unlike_names bare_unlike_names .nil pass0 (pa_cons (pe_lc (own := [("axis", 4)]) (g := gName 4) (tt := tYes) (by rfl) sc_Grid_x___init__.nd (DX.pi_row (pv 1)) (blkOk_by (own := [("axis", 4)]) (N := ["self", "axes", "name", "members", "axis"]) (sc := defScope s_Grid_x___init__) (by decide +kernel)) (fun _ _ _ _ _ => (pg_name (i := 4) sc_Grid_x___init__.nd rfl (Or.inl rfl))) (fun _ _ _ _ _ => pts_nil)
          (fun _ _ _ _ _ => (pe_by (E := E0) K (eOp (fIx Rv.asT) (eVar 4) (eC (.int 0))) (l_op s_ixT l_var l_int) (pe_ix ix_tup (pv 4) pe_int (fun _ _ => rfl))))) pa_nil)))) 
        (pss_one (ps_raise rfl (takes_of rfl rfl rfl rfl) (pmk_oex XNoGrid.ox iNoGrid_x___init__ tNoGrid_x___init__ GNoGrid_x___init__ (hr.mono (by decide)) bNoGrid_x___init__ .nil pass0 rfl mgc_NoGrid (pa_cons pe_str pa_nil)))) pss_nil) 
      (pss_cons (ps_if (pt_not (pt_val (pe_callB (cr_all rfl) (by rfl) T.all (by decide +kernel) (pa_cons (pe_lc (own := [("axis", 4)]) (g := gName 4) (tt := tYes) (by rfl) sc_Grid_x___init__.nd (DX.pi_row (pv 1)) (blkOk_by (own := [("axis", 4)]) (N := ["self", "axes", "name", "members", "axis"]) (sc := defScope s_Grid_x___init__) (by decide +kernel)) (fun _ _ _ _ _ => (pg_name (i := 4) sc_Grid_x___init__.nd rfl (Or.inl rfl))) (fun _ _ _ _ _ => pts_nil)
          (fun _ _ _ _ _ => (pe_by (E := E0) K (eCall0 f_are_members (aCons (eOp (fIx Rv.asT) (eVar 4) (eC (.int 1))) aNil)) (l_call (l_cons (l_op s_ixT l_var l_int) l_nil)) (pe_call Gare_members (hr.mono (by decide)) rfl mare_members kare_members bare_members .nil pass0 (pa_cons (pe_ix ix_tup (pv 4) pe_int (fun _ _ => rfl)) pa_nil))))) pa_nil)))) 
        (pss_one (ps_raise rfl (takes_of rfl rfl rfl rfl) (pmk_oex XNoGrid.ox iNoGrid_x___init__ tNoGrid_x___init__ GNoGrid_x___init__ (hr.mono (by decide)) bNoGrid_x___init__ .nil pass0 rfl mgc_NoGrid (pa_cons pe_str pa_nil)))) pss_nil) 
      (pss_cons (ps_fld (pv 0) (pe_callTy (show CallR _ (.type "tuple") (rTup' K) from call_tuple_of) (by rfl) T.tuple (by decide +kernel) (pa_cons (pe_lc (own := [("name", 2), ("members", 3)]) (g := fun v σ H Q => gTup K 2 (gCons (gName 2) (gCons (gName 3) (gNil))) v σ H Q ∨ gLst K 2 (gCons (gName 2) (gCons (gName 3) (gNil))) v σ H Q) (tt := tYes) (by rfl) sc_Grid_x___init__.nd (DX.pi_row (pv 1)) (blkOk_by (own := [("name", 2), ("members", 3)]) (N := ["self", "axes", "name", "members", "axis"]) (sc := defScope s_Grid_x___init__) (by decide +kernel)) (fun _ _ _ _ _ => (DX.pg_orr (pg_tup (by rfl) (pgs_cons (pg_name (i := 2) sc_Grid_x___init__.nd rfl (Or.inl rfl)) (pgs_cons (pg_name (i := 3) sc_Grid_x___init__.nd rfl (Or.inl rfl)) pgs_nil))) (pg_lst (by rfl) (pgs_cons (pg_name (i := 2) sc_Grid_x___init__.nd rfl (Or.inl rfl)) (pgs_cons (pg_name (i := 3) sc_Grid_x___init__.nd rfl (Or.inl rfl)) pgs_nil))))) (fun _ _ _ _ _ => pts_nil)
          (fun _ _ _ _ _ => (pe_by (E := E0) K (eTup (aCons (eVar 2) (aCons (eN fTuple (aCons (eVar 3) aNil)) aNil))) (l_eTup (l_cons l_var (l_cons (l_N s_tuple (l_cons l_var l_nil)) l_nil)) (by decide)) (pe_tup (pa_cons (pv 2) (pa_cons (pe_callTy (show CallR _ (.type "tuple") (rTup' K) from call_tuple_of) (by rfl) T.tuple (by decide +kernel) (pa_cons (pv 3) pa_nil)) pa_nil)))))) pa_nil)) rfl) 
      (pss_cons (ps_fld (pv 0) (pe_call Gcells_of (hr.mono (by decide)) rfl mcells_of kcells_of bcells_of .nil pass0 (pa_cons (pe_fld (pv 0) rfl) pa_nil)) rfl) 
      (pss_cons (ps_fld (pv 0) (pe_callB call_len_seq (by rfl) T.len PySem.boot_len (pa_cons (pe_fld (pv 0) rfl) pa_nil)) rfl) 
      (pss_one (ps_if (pt_cmpR op_gt (pe_fld (pv 0) rfl) (pe_glob (v := .int 8) (by rfl) hKMOST_CELLS.choose_spec ⟨_, rfl⟩) (nomark _)) 
        (pss_one (ps_raise rfl (takes_of rfl rfl rfl rfl) (pmk_oex XNoGrid.ox iNoGrid_x___init__ tNoGrid_x___init__ GNoGrid_x___init__ (hr.mono (by decide)) bNoGrid_x___init__ .nil pass0 rfl mgc_NoGrid (pa_cons pe_str pa_nil)))) pss_nil)))))))), ?_⟩
  exact d_readI (n := 1) (c := "Grid") (N := ["self", "axes", "name", "members", "axis"]) (w_seq (w_if (l_not (l_B (l_call (l_cons l_var l_nil)))) (w_raise (l_cons l_str l_nil) rfl (by decide)) w_next) (w_seq (w_if (l_not (l_B (l_call (l_cons (l_lc (i_row l_var) g_name (by decide) l_yes (l_op s_ixT l_var l_int)) l_nil)))) (w_raise (l_cons l_str l_nil) rfl (by decide)) w_next) (w_seq (w_if (l_not (l_B (l_N s_bs (l_cons (l_lc (i_row l_var) g_name (by decide) l_yes (l_call (l_cons (l_op s_ixT l_var l_int) l_nil))) l_nil)))) (w_raise (l_cons l_str l_nil) rfl (by decide)) w_next) (w_seq (w_fld TX (l_N s_tuple (l_cons (l_lc (i_row l_var) (g_row (ms := [(gSet 2), (gSet 3)]) (gm_cons g_name (gm_cons g_name gm_nil)) (gm_size (am_cons ms_name (am_cons ms_name am_nil)))) (by decide) l_yes (l_eTup (l_cons l_var (l_cons (l_N s_tuple (l_cons l_var l_nil)) l_nil)) (by decide))) l_nil))) (w_seq (w_fld TX (l_call (l_cons (l_fldS TX) l_nil))) (w_seq (w_fld TX (l_N s_len (l_cons (l_fldS TX) l_nil))) (w_if (l_Test (l_op s_bool (l_fldS TX) l_int)) (w_raise (l_cons l_str l_nil) rfl (by decide)) w_next))))))) (by decide) z
end
end DL

set_option Elab.async false
set_option linter.all false
set_option maxRecDepth 100000
set_option maxHeartbeats 1000000
namespace DL
open PySem L2 He DX DW
section
variable {P : Program} {w : World} {K : PySem.W.Frag} {mg : Str → Option Value} {base : Heap} {f : Addr} {fd : FuncData}
theorem sc_region_beside : FnScope ["grid", "wish", "taken", "wanted", "place", "cell"] ["grid", "wish", "taken"] (defScope s_region_beside) := ⟨rfl, rfl, rfl, by decide +kernel, rfl, by decide +kernel, by decide +kernel⟩
theorem ok_region_beside (F : FnP K "region_beside" "region_beside" s_region_beside [] f fd) (TX : Tx K) (T : TT mg)
    (Gwanted_members : GloOk P w K mg base (L2.CX P w) 5 "wanted_members" ["grid", "wish", "taken"] (spD K 3 f_wanted_members))
    (Gis_wanted : GloOk P w K mg base CX0 1 "is_wanted" ["grid", "cell", "wanted"] (spD K 3 f_is_wanted)) : FnOk P w K mg base (L2.CX P w) 6 f fd ["grid", "wish", "taken"] (spD K 3 f_region_beside) := by
  obtain ⟨fwanted_members, fdwanted_members, Gwanted_members, mwanted_members, kwanted_members, bwanted_members⟩ := Gwanted_members
  obtain ⟨fis_wanted, fdis_wanted, Gis_wanted, mis_wanted, kis_wanted, bis_wanted⟩ := Gis_wanted
  refine F.ok sc_region_beside (fun vs H Q X z => sp_len z) (fun cdv A outer s H vs Q X hr z => ?_)
  refine ⟨_, 
      (pss_cons (ps_set (i := 3) sc_region_beside.nd rfl (Or.inr rfl) (pe_call Gwanted_members (hr.mono (by decide)) rfl mwanted_members kwanted_members bwanted_members .nil (passes_call (takes_of rfl rfl rfl rfl) (fun _ _ _ _ h => h)) (pa_cons (pv 0) (pa_cons (pv 1) (pa_cons (pv 2) pa_nil))))) 
      (pss_one (ps_ret (pe_callTy (show CallR _ (.type "tuple") (rTup' K) from call_tuple_of) (by rfl) T.tuple (by decide +kernel) (pa_cons (pe_lc (own := [("place", 4), ("cell", 5)]) (g := gTup K 2 (gCons (gName 4) (gCons (gName 5) (gNil)))) (by rfl) sc_region_beside.nd (DX.pi_enumA rfl T.enum (pa_cons (pe_fld (pv 0) rfl) pa_nil)) (blkOk_by (own := [("place", 4), ("cell", 5)]) (N := ["grid", "wish", "taken", "wanted", "place", "cell"]) (sc := defScope s_region_beside) (by decide +kernel)) (fun _ _ _ _ _ => (pg_tup (by rfl) (pgs_cons (pg_name (i := 4) sc_region_beside.nd rfl (Or.inl rfl)) (pgs_cons (pg_name (i := 5) sc_region_beside.nd rfl (Or.inl rfl)) pgs_nil)))) (fun _ _ _ _ _ => (pts_one (pt_by (E := E0) K (tBl (eCall0 f_is_wanted (aCons (eVar 0) (aCons (eVar 5) (aCons (eVar 3) aNil))))) (l_B (l_call (l_cons l_var (l_cons l_var (l_cons l_var l_nil))))) (pt_val (pe_call Gis_wanted (hr.mono (by decide)) rfl mis_wanted kis_wanted bis_wanted .nil pass0 (pa_cons (pv 0) (pa_cons (pv 5) (pa_cons (pv 3) pa_nil))))))))
          (fun _ _ _ _ _ => (pe_by (E := E0) K (eVar 4) l_var (pv 4)))) pa_nil))))), ?_⟩
  exact d_read (n := 3) (N := ["grid", "wish", "taken", "wanted", "place", "cell"]) (w_seq (w_setD (l_callX (l_cons l_var (l_cons l_var (l_cons l_var l_nil))))) (w_ret (l_N s_tuple (l_cons (l_lc (i_enumerate (l_cons (l_fld TX l_var) l_nil)) (g_tup (gs_cons (gs_cons gs_nil)) rfl) (by decide) (l_B (l_call (l_cons l_var (l_cons l_var (l_cons l_var l_nil))))) l_var) l_nil)))) (by decide) z
end
end DL

set_option Elab.async false
set_option linter.all false
set_option maxRecDepth 100000
set_option maxHeartbeats 1000000
namespace DL
open PySem L2 He DX DW
section
variable {P : Program} {w : World} {K : PySem.W.Frag} {mg : Str → Option Value} {base : Heap} {f : Addr} {fd : FuncData}
theorem sc_Grid_x_region : FnScope ["self", "wish"] ["self", "wish"] (defScope s_Grid_x_region) := ⟨rfl, rfl, rfl, by decide +kernel, rfl, by decide +kernel, by decide +kernel⟩
theorem ok_Grid_x_region (F : FnP K "region" "Grid.region" s_Grid_x_region [] f fd) (TX : Tx K) (T : TT mg)
    (Gregion_beside : GloOk P w K mg base (L2.CX P w) 6 "region_beside" ["grid", "wish", "taken"] (spD K 3 f_region_beside)) : FnOk P w K mg base (L2.CX P w) 7 f fd ["self", "wish"] (spD K 2 f_Grid_x_region) := by
  obtain ⟨fregion_beside, fdregion_beside, Gregion_beside, mregion_beside, kregion_beside, bregion_beside⟩ := Gregion_beside
  refine F.ok sc_Grid_x_region (fun vs H Q X z => sp_len z) (fun cdv A outer s H vs Q X hr z => ?_)
  refine ⟨_, 
      (pss_one (ps_ret (pe_call Gregion_beside (hr.mono (by decide)) rfl mregion_beside kregion_beside bregion_beside .nil (passes_call (takes_of rfl rfl rfl rfl) (fun _ _ _ _ h => h)) (pa_cons (pv 0) (pa_cons (pv 1) (pa_cons (pe_tup pa_nil) pa_nil)))))), ?_⟩
  exact d_read (n := 2) (N := ["self", "wish"]) (w_ret (l_callX (l_cons l_var (l_cons l_var (l_cons (l_eTup l_nil (by decide)) l_nil))))) (by decide) z
end
end DL

set_option Elab.async false
set_option linter.all false
set_option maxRecDepth 100000
set_option maxHeartbeats 1000000
namespace DL
open PySem L2 He DX DW
section
variable {P : Program} {w : World} {K : PySem.W.Frag} {mg : Str → Option Value} {base : Heap} {f : Addr} {fd : FuncData}
theorem sc_Question_x___add__ : FnScope ["self", "other", "one", "two"] ["self", "other"] (defScope s_Question_x___add__) := ⟨rfl, rfl, rfl, by decide +kernel, rfl, by decide +kernel, by decide +kernel⟩
theorem ok_Question_x___add__ (F : FnP K "__add__" "Question.__add__" s_Question_x___add__ [] f fd) (TX : Tx K) (T : TT mg)
    (pQuestion : Pres K "Question")
    (mgc_OtherGrid : mg "OtherGrid" = some (.ref (He.ga K "OtherGrid")))
    (mgc_Question : mg "Question" = some (.ref (He.ga K "Question")))
    (XOtherGrid : EX0 K (He.ga K "OtherGrid"))
    (ORatio : OwnC K (He.ga K "Ratio"))
    (NGrid : PySem.W.findIn K (.ref (He.ga K "Grid")) "__ne__" = some (some (.builtin "object.__ne__"))) (BGrid : PySem.W.mroIn K (He.ga K "Grid") (.type "object") = some true)
    (GGrid_x___eq__ : MthOk P w K mg base (He.ga K "Grid") CX0 1 "__eq__" ["self", "other"] (spD K 2 f_Grid_x___eq__))
    (GQuestion_x___init__ : MkOk P w K mg base (He.ga K "Question") (L2.CX P w) 6 ["self", "grid", "weights"] (spI K "Question" 2 f_Question_x___init__))
    (GRatio_x___add__ : MthOk P w K mg base (He.ga K "Ratio") (L2.CX P w) 6 "__add__" ["self", "other"] (spD K 2 f_Ratio_x___add__)) : FnOk P w K mg base (L2.CX P w) 8 f fd ["self", "other"] (spD K 2 f_Question_x___add__) := by
  obtain ⟨fGrid_x___eq__, fdGrid_x___eq__, GGrid_x___eq__, MGrid_x___eq__, bGrid_x___eq__⟩ := GGrid_x___eq__
  obtain ⟨fQuestion_x___init__, fdQuestion_x___init__, GQuestion_x___init__, MQuestion_x___init__, bQuestion_x___init__⟩ := GQuestion_x___init__
  obtain ⟨fRatio_x___add__, fdRatio_x___add__, GRatio_x___add__, MRatio_x___add__, bRatio_x___add__⟩ := GRatio_x___add__
  refine F.ok sc_Question_x___add__ (fun vs H Q X z => sp_len z) (fun cdv A outer s H vs Q X hr z => ?_)
  refine ⟨_, 
      (pss_cons (ps_if (pt_not (pt_val (pe_callB call_isi (by rfl) T.isinst (by decide +kernel) (pa_cons (pv 1) (pa_cons (pe_glob (v := .ref (He.ga K "Question")) (by rfl) mgc_Question rfl) pa_nil))))) pss_never pss_nil) 
      (pss_cons (ps_if (pt_cmpR (op_neOwn NGrid BGrid MGrid_x___eq__.at_ MGrid_x___eq__.fn GGrid_x___eq__ (hr.mono (by decide)) bGrid_x___eq__ pass0) (pe_fld (pv 0) rfl) (pe_fld (pv 1) rfl) (nomark _)) 
        (pss_one (ps_raise rfl (takes_of rfl rfl rfl rfl) (pmk_own0 PySem.F.excBase_ValueError XOtherGrid.q mgc_OtherGrid XOtherGrid.kN (raises_own XOtherGrid.ex XOtherGrid.ty) (by rfl)))) pss_nil) 
      (pss_one (ps_ret (pe_make MQuestion_x___init__ GQuestion_x___init__ (hr.mono (by decide)) rfl mgc_Question bQuestion_x___init__ .nil (passes_call (takes_of rfl rfl rfl rfl) (fun _ _ _ _ h => h)) (pa_cons (pe_fld (pv 0) rfl) (pa_cons (pe_lc (own := [("one", 2), ("two", 3)]) (g := gTup K 2 (gCons (gName 2) (gCons (gName 3) (gNil)))) (tt := tYes) (by rfl) sc_Question_x___add__.nd (RZ.pi_zipA rfl T.zip (pa_cons (pe_fld (pv 0) rfl) (pa_cons (pe_fld (pv 1) rfl) pa_nil))) (blkOk_by (own := [("one", 2), ("two", 3)]) (N := ["self", "other", "one", "two"]) (sc := defScope s_Question_x___add__) (by decide +kernel)) (fun _ _ _ _ _ => (pg_tup (by rfl) (pgs_cons (pg_name (i := 2) sc_Question_x___add__.nd rfl (Or.inl rfl)) (pgs_cons (pg_name (i := 3) sc_Question_x___add__.nd rfl (Or.inl rfl)) pgs_nil)))) (fun _ _ _ _ _ => pts_nil)
          (fun _ _ _ _ _ => (pe_by (E := E0) K (eOp (fun x y Q _ => fOpS "Ratio" "Ratio" f_Ratio_x___add__ x y Q fun _ => False) (eVar 2) (eVar 3)) (l_op (s2_0 s_opS) l_var l_var) (pe_op (op_same ORatio MRatio_x___add__.at_ MRatio_x___add__.fn GRatio_x___add__ (hr.mono (by decide)) bRatio_x___add__ passL) (pv 2) (pv 3))))) pa_nil))))))), ?_⟩
  exact d_read (n := 2) (N := ["self", "other", "one", "two"]) (w_seq (w_if (l_not (l_B (l_isC TX pQuestion l_var))) w_never w_next) (w_seq (w_if (l_Test (l_op (s2_0 (s_neO TX)) (l_fld TX l_var) (l_fld TX l_var))) w_raise0 w_next) (w_ret (l_makeX pQuestion (fun _ _ => .nil) (l_cons (l_fld TX l_var) (l_cons (l_lc (i_zip (l_cons (l_fld TX l_var) (l_cons (l_fld TX l_var) l_nil))) (g_tup (gs_cons (gs_cons gs_nil)) rfl) (by decide) l_yes (l_op (s2_0 s_opS) l_var l_var)) l_nil)) rfl)))) (by decide) z
end
end DL

set_option Elab.async false
set_option linter.all false
set_option maxRecDepth 100000
set_option maxHeartbeats 1000000
namespace DL
open PySem L2 He DX DW
section
variable {P : Program} {w : World} {K : PySem.W.Frag} {mg : Str → Option Value} {base : Heap} {f : Addr} {fd : FuncData}
theorem sc_Question_x___sub__ : FnScope ["self", "other"] ["self", "other"] (defScope s_Question_x___sub__) := ⟨rfl, rfl, rfl, by decide +kernel, rfl, by decide +kernel, by decide +kernel⟩
theorem ok_Question_x___sub__ (F : FnP K "__sub__" "Question.__sub__" s_Question_x___sub__ [] f fd) (TX : Tx K) (T : TT mg)
    (pQuestion : Pres K "Question")
    (mgc_Question : mg "Question" = some (.ref (He.ga K "Question")))
    (OQuestion : OwnC K (He.ga K "Question"))
    (GQuestion_x___neg__ : MthOk P w K mg base (He.ga K "Question") (L2.CX P w) 8 "__neg__" ["self"] (spD K 1 f_Question_x___neg__))
    (GQuestion_x___add__ : MthOk P w K mg base (He.ga K "Question") (L2.CX P w) 8 "__add__" ["self", "other"] (spD K 2 f_Question_x___add__)) : FnOk P w K mg base (L2.CX P w) 9 f fd ["self", "other"] (spD K 2 f_Question_x___sub__) := by
  obtain ⟨fQuestion_x___neg__, fdQuestion_x___neg__, GQuestion_x___neg__, MQuestion_x___neg__, bQuestion_x___neg__⟩ := GQuestion_x___neg__
  obtain ⟨fQuestion_x___add__, fdQuestion_x___add__, GQuestion_x___add__, MQuestion_x___add__, bQuestion_x___add__⟩ := GQuestion_x___add__
  refine F.ok sc_Question_x___sub__ (fun vs H Q X z => sp_len z) (fun cdv A outer s H vs Q X hr z => ?_)
  refine ⟨_, 
      (pss_cons (ps_if (pt_not (pt_val (pe_callB call_isi (by rfl) T.isinst (by decide +kernel) (pa_cons (pv 1) (pa_cons (pe_glob (v := .ref (He.ga K "Question")) (by rfl) mgc_Question rfl) pa_nil))))) pss_never pss_nil) 
      (pss_one (ps_ret (pe_op (op_same OQuestion MQuestion_x___add__.at_ MQuestion_x___add__.fn GQuestion_x___add__ (hr.mono (by decide)) bQuestion_x___add__ (passes_call (takes_of rfl rfl rfl rfl) (fun _ _ _ _ h => h))) (pv 0) (pe_un (un_negO MQuestion_x___neg__.at_ MQuestion_x___neg__.fn GQuestion_x___neg__ (hr.mono (by decide)) bQuestion_x___neg__ (passes_call (takes_of rfl rfl rfl rfl) (fun _ _ _ _ h => h))) (pv 1)))))), ?_⟩
  exact d_read (n := 2) (N := ["self", "other"]) (w_seq (w_if (l_not (l_B (l_isC TX pQuestion l_var))) w_never w_next) (w_ret (l_op s_opS l_var (l_un s_unO l_var)))) (by decide) z
end
end DL

set_option Elab.async false
set_option linter.all false
set_option maxRecDepth 100000
set_option maxHeartbeats 1000000
namespace DL
open PySem L2 He DX DW
section
variable {P : Program} {w : World} {K : PySem.W.Frag} {mg : Str → Option Value} {base : Heap} {f : Addr} {fd : FuncData}
theorem sc_Question_x_over : FnScope ["self", "number", "weight"] ["self", "number"] (defScope s_Question_x_over) := ⟨rfl, rfl, rfl, by decide +kernel, rfl, by decide +kernel, by decide +kernel⟩
theorem ok_Question_x_over (F : FnP K "over" "Question.over" s_Question_x_over [] f fd) (TX : Tx K) (T : TT mg)
    (pQuestion : Pres K "Question")
    (pRatio : Pres K "Ratio")
    (mgc_Question : mg "Question" = some (.ref (He.ga K "Question")))
    (GQuestion_x___init__ : MkOk P w K mg base (He.ga K "Question") (L2.CX P w) 6 ["self", "grid", "weights"] (spI K "Question" 2 f_Question_x___init__))
    (GRatio_x_over : MthOk P w K mg base (He.ga K "Ratio") (L2.CX P w) 6 "over" ["self", "number"] (spD K 2 f_Ratio_x_over)) : FnOk P w K mg base (L2.CX P w) 8 f fd ["self", "number"] (spD K 2 f_Question_x_over) := by
  have CRatio := TX.cls _ pRatio
  obtain ⟨fQuestion_x___init__, fdQuestion_x___init__, GQuestion_x___init__, MQuestion_x___init__, bQuestion_x___init__⟩ := GQuestion_x___init__
  obtain ⟨fRatio_x_over, fdRatio_x_over, GRatio_x_over, MRatio_x_over, bRatio_x_over⟩ := GRatio_x_over
  refine F.ok sc_Question_x_over (fun vs H Q X z => sp_len z) (fun cdv A outer s H vs Q X hr z => ?_)
  refine ⟨_, 
      (pss_one (ps_ret (pe_make MQuestion_x___init__ GQuestion_x___init__ (hr.mono (by decide)) rfl mgc_Question bQuestion_x___init__ .nil (passes_call (takes_of rfl rfl rfl rfl) (fun _ _ _ _ h => h)) (pa_cons (pe_fld (pv 0) rfl) (pa_cons (pe_lc (own := [("weight", 2)]) (g := gName 2) (tt := tYes) (by rfl) sc_Question_x_over.nd (pi_tup (pe_fld (pv 0) rfl)) (blkOk_by (own := [("weight", 2)]) (N := ["self", "number", "weight"]) (sc := defScope s_Question_x_over) (by decide +kernel)) (fun _ _ _ _ _ => (pg_name (i := 2) sc_Question_x_over.nd rfl (Or.inl rfl))) (fun _ _ _ _ _ => pts_nil)
          (fun _ _ _ _ _ => (pe_by (E := E0) K (eMeth0 "Ratio" "over" f_Ratio_x_over (eVar 2) (aCons (eVar 1) aNil)) (l_meth l_var (l_cons l_var l_nil) rfl) (pe_meth (pv 2) CRatio MRatio_x_over GRatio_x_over (hr.mono (by decide)) bRatio_x_over .nil passL (pa_cons (pv 1) pa_nil))))) pa_nil))))), ?_⟩
  exact d_read (n := 2) (N := ["self", "number", "weight"]) (w_ret (l_makeX pQuestion (fun _ _ => .nil) (l_cons (l_fld TX l_var) (l_cons (l_lc (i_tup (l_fld TX l_var)) g_name (by decide) l_yes (l_meth l_var (l_cons l_var l_nil) rfl)) l_nil)) rfl)) (by decide) z
end
end DL

set_option Elab.async false
set_option linter.all false
set_option maxRecDepth 100000
set_option maxHeartbeats 1000000
namespace DL
open PySem L2 He DX DW
section
variable {P : Program} {w : World} {K : PySem.W.Frag} {mg : Str → Option Value} {base : Heap} {f : Addr} {fd : FuncData}
theorem sc_each_of : FnScope ["grid", "axis", "wish", "at", "region", "member", "place"] ["grid", "axis", "wish"] (defScope s_each_of) := ⟨rfl, rfl, rfl, by decide +kernel, rfl, by decide +kernel, by decide +kernel⟩
theorem ok_each_of (F : FnP K "each_of" "each_of" s_each_of [] f fd) (TX : Tx K) (T : TT mg)
    (mgc_NoAxis : mg "NoAxis" = some (.ref (He.ga K "NoAxis")))
    (XNoAxis : EX0 K (He.ga K "NoAxis"))
    (Gplace_of_axis : GloOk P w K mg base CX0 1 "place_of_axis" ["grid", "name"] (spD K 2 f_place_of_axis))
    (Gregion_beside : GloOk P w K mg base (L2.CX P w) 6 "region_beside" ["grid", "wish", "taken"] (spD K 3 f_region_beside))
    (Gsum_over : GloOk P w K mg base (L2.CX P w) 8 "sum_over" ["grid", "places"] (spD K 2 f_sum_over)) : FnOk P w K mg base (L2.CX P w) 9 f fd ["grid", "axis", "wish"] (spD K 3 f_each_of) := by
  obtain ⟨fplace_of_axis, fdplace_of_axis, Gplace_of_axis, mplace_of_axis, kplace_of_axis, bplace_of_axis⟩ := Gplace_of_axis
  obtain ⟨fregion_beside, fdregion_beside, Gregion_beside, mregion_beside, kregion_beside, bregion_beside⟩ := Gregion_beside
  obtain ⟨fsum_over, fdsum_over, Gsum_over, msum_over, ksum_over, bsum_over⟩ := Gsum_over
  refine F.ok sc_each_of (fun vs H Q X z => sp_len z) (fun cdv A outer s H vs Q X hr z => ?_)
  refine ⟨_, 
      (pss_cons (ps_set (i := 3) sc_each_of.nd rfl (Or.inr rfl) (pe_call Gplace_of_axis (hr.mono (by decide)) rfl mplace_of_axis kplace_of_axis bplace_of_axis .nil pass0 (pa_cons (pv 0) (pa_cons (pv 1) pa_nil)))) 
      (pss_cons (ps_if (pt_cmp (pc_isN (pv 3))) 
        (pss_one (ps_raise rfl (takes_of rfl rfl rfl rfl) (pmk_own0 PySem.F.excBase_ValueError XNoAxis.q mgc_NoAxis XNoAxis.kN (raises_own XNoAxis.ex XNoAxis.ty) (by rfl)))) pss_nil) 
      (pss_cons (ps_set (i := 4) sc_each_of.nd rfl (Or.inr rfl) (pe_call Gregion_beside (hr.mono (by decide)) rfl mregion_beside kregion_beside bregion_beside .nil (passes_call (takes_of rfl rfl rfl rfl) (fun _ _ _ _ h => h)) (pa_cons (pv 0) (pa_cons (pv 2) (pa_cons (pe_tup (pa_cons (pv 1) pa_nil)) pa_nil))))) 
      (pss_one (ps_ret (pe_lc (own := [("member", 5)]) (g := gName 5) (tt := tYes) (by rfl) sc_each_of.nd (pi_tup (pe_ix ix_tup (pe_ix ix_tup (pe_fld (pv 0) rfl) (pv 3) (fun _ _ => rfl)) pe_int (fun _ _ => rfl))) (blkOk_by (own := [("member", 5)]) (N := ["grid", "axis", "wish", "at", "region", "member", "place"]) (sc := defScope s_each_of) (by decide +kernel)) (fun _ _ _ _ _ => (pg_name (i := 5) sc_each_of.nd rfl (Or.inr rfl))) (fun _ _ _ _ _ => pts_nil)
          (fun _ _ _ _ _ => (pe_by (E := E0) K (eCall0 f_sum_over (aCons (eVar 0) (aCons (eLc (itT (eVar 4)) (gSet 6) (tBl (eOp (fEq false) (eOp (fIx Rv.asT) (eOp (fIx Rv.asT) (eUn (mFld "cells") (eVar 0)) (eVar 6)) (eVar 3)) (eVar 5))) (eVar 6) [6]) aNil))) (l_call (l_cons l_var (l_cons (l_lc (i_tup l_var) g_name (by decide) (l_Test (l_op s_eq (l_op s_ixT (l_op s_ixT (l_fld TX l_var) l_var) l_var) l_var)) l_var) l_nil))) (pe_call Gsum_over (hr.mono (by decide)) rfl msum_over ksum_over bsum_over .nil passL (pa_cons (pv 0) (pa_cons (pe_lc (own := [("place", 6)]) (g := gName 6) (by rfl) sc_each_of.nd (pi_tup (pv 4)) (show BlkOk _ (relS _ (defScope s_each_of)) _ _ from blkOk_by (own := [("place", 6)]) (N := ["grid", "axis", "wish", "at", "region", "member", "place"]) (by decide +kernel)) (fun _ _ _ _ _ => (pg_name (i := 6) sc_each_of.nd rfl (Or.inl rfl))) (fun _ _ _ _ _ => (pts_one (pt_by (E := E0) K (tBl (eOp (fEq false) (eOp (fIx Rv.asT) (eOp (fIx Rv.asT) (eUn (mFld "cells") (eVar 0)) (eVar 6)) (eVar 3)) (eVar 5))) (l_Test (l_op s_eq (l_op s_ixT (l_op s_ixT (l_fld TX l_var) l_var) l_var) l_var)) (pt_cmpR op_eq (pe_ix ix_tup (pe_ix ix_tup (pe_fld (pv 0) rfl) (pv 6) (fun _ _ => rfl)) (pv 3) (fun _ _ => rfl)) (pv 5) (nomark _)))))
          (fun _ _ _ _ _ => (pe_by (E := E0) K (eVar 6) l_var (pv 6)))) pa_nil))))))))))), ?_⟩
  exact d_read (n := 3) (N := ["grid", "axis", "wish", "at", "region", "member", "place"]) (w_seq (w_setD (l_call (l_cons l_var (l_cons l_var l_nil)))) (w_seq (w_if (l_B (l_isN l_var)) w_raise0 w_next) (w_seq (w_setD (l_callX (l_cons l_var (l_cons l_var (l_cons (l_eTup (l_cons l_var l_nil) (by decide)) l_nil))))) (w_ret (l_lc (i_tup (l_op s_ixT (l_op s_ixT (l_fld TX l_var) l_var) l_int)) g_name (by decide) l_yes (l_call (l_cons l_var (l_cons (l_lc (i_tup l_var) g_name (by decide) (l_Test (l_op s_eq (l_op s_ixT (l_op s_ixT (l_fld TX l_var) l_var) l_var) l_var)) l_var) l_nil)))))))) (by decide) z
end
end DL

set_option Elab.async false
set_option linter.all false
set_option maxRecDepth 100000
set_option maxHeartbeats 1000000
namespace DL
open PySem L2 He DX DW
section
variable {P : Program} {w : World} {K : PySem.W.Frag} {mg : Str → Option Value} {base : Heap} {f : Addr} {fd : FuncData}
theorem sc_sum_of : FnScope ["grid", "wish"] ["grid", "wish"] (defScope s_sum_of) := ⟨rfl, rfl, rfl, by decide +kernel, rfl, by decide +kernel, by decide +kernel⟩
theorem ok_sum_of (F : FnP K "sum_of" "sum_of" s_sum_of [] f fd) (TX : Tx K) (T : TT mg)
    (pGrid : Pres K "Grid")
    (Gsum_over : GloOk P w K mg base (L2.CX P w) 8 "sum_over" ["grid", "places"] (spD K 2 f_sum_over))
    (GGrid_x_region : MthOk P w K mg base (He.ga K "Grid") (L2.CX P w) 7 "region" ["self", "wish"] (spD K 2 f_Grid_x_region)) : FnOk P w K mg base (L2.CX P w) 9 f fd ["grid", "wish"] (spD K 2 f_sum_of) := by
  have CGrid := TX.cls _ pGrid
  obtain ⟨fsum_over, fdsum_over, Gsum_over, msum_over, ksum_over, bsum_over⟩ := Gsum_over
  obtain ⟨fGrid_x_region, fdGrid_x_region, GGrid_x_region, MGrid_x_region, bGrid_x_region⟩ := GGrid_x_region
  refine F.ok sc_sum_of (fun vs H Q X z => sp_len z) (fun cdv A outer s H vs Q X hr z => ?_)
  refine ⟨_, 
      (pss_one (ps_ret (pe_call Gsum_over (hr.mono (by decide)) rfl msum_over ksum_over bsum_over .nil (passes_call (takes_of rfl rfl rfl rfl) (fun _ _ _ _ h => h)) (pa_cons (pv 0) (pa_cons (pe_meth (pv 0) CGrid MGrid_x_region GGrid_x_region (hr.mono (by decide)) bGrid_x_region .nil (passes_call (takes_of rfl rfl rfl rfl) (fun _ _ _ _ h => h)) (pa_cons (pv 1) pa_nil)) pa_nil))))), ?_⟩
  exact d_read (n := 2) (N := ["grid", "wish"]) (w_ret (l_callX (l_cons l_var (l_cons (l_methX l_var (l_cons l_var l_nil) rfl) l_nil)))) (by decide) z
end
end DL

set_option Elab.async false
set_option linter.all false
set_option maxRecDepth 100000
set_option maxHeartbeats 1000000
namespace DL
open PySem L2 He DX DW
section
variable {P : Program} {w : World} {K : PySem.W.Frag} {mg : Str → Option Value} {base : Heap} {f : Addr} {fd : FuncData}
theorem sc_nothing_of : FnScope ["grid"] ["grid"] (defScope s_nothing_of) := ⟨rfl, rfl, rfl, by decide +kernel, rfl, by decide +kernel, by decide +kernel⟩
theorem ok_nothing_of (F : FnP K "nothing_of" "nothing_of" s_nothing_of [] f fd) (TX : Tx K) (T : TT mg)
    (Gsum_over : GloOk P w K mg base (L2.CX P w) 8 "sum_over" ["grid", "places"] (spD K 2 f_sum_over)) : FnOk P w K mg base (L2.CX P w) 9 f fd ["grid"] (spD K 1 f_nothing_of) := by
  obtain ⟨fsum_over, fdsum_over, Gsum_over, msum_over, ksum_over, bsum_over⟩ := Gsum_over
  refine F.ok sc_nothing_of (fun vs H Q X z => sp_len z) (fun cdv A outer s H vs Q X hr z => ?_)
  refine ⟨_, 
      (pss_one (ps_ret (pe_call Gsum_over (hr.mono (by decide)) rfl msum_over ksum_over bsum_over .nil (passes_call (takes_of rfl rfl rfl rfl) (fun _ _ _ _ h => h)) (pa_cons (pv 0) (pa_cons (pe_tup pa_nil) pa_nil))))), ?_⟩
  exact d_read (n := 1) (N := ["grid"]) (w_ret (l_callX (l_cons l_var (l_cons (l_eTup l_nil (by decide)) l_nil)))) (by decide) z
end
end DL

set_option Elab.async false
set_option linter.all false
set_option maxRecDepth 100000
set_option maxHeartbeats 1000000
namespace DL
open PySem L2 He DX DW
section
variable {P : Program} {w : World} {K : PySem.W.Frag} {mg : Str → Option Value} {base : Heap} {f : Addr} {fd : FuncData}
theorem sc__law_parted : FnScope ["grid", "axis", "wish", "told", "refused", "below", "e"] ["grid", "axis", "wish"] (defScope s__law_parted) := ⟨rfl, rfl, rfl, by decide +kernel, rfl, by decide +kernel, by decide +kernel⟩
theorem ok__law_parted (F : FnP K "_law_parted" "_law_parted" s__law_parted [] f fd) (TX : Tx K) (T : TT mg)
    (mgc_NoAxis : mg "NoAxis" = some (.ref (He.ga K "NoAxis")))
    (mgc_NoWish : mg "NoWish" = some (.ref (He.ga K "NoWish")))
    (mgc_ToldError : mg "ToldError" = some (.ref (He.ga K "ToldError")))
    (ER : Ers K errNames)
    (FNoAxis : XFc K "NoAxis" [])
    (FNoWish : XFc K "NoWish" ["place", "word"])
    (Geach_of : GloOk P w K mg base (L2.CX P w) 9 "each_of" ["grid", "axis", "wish"] (spD K 3 f_each_of)) : FnOk P w K mg base CX0 10 f fd ["grid", "axis", "wish"] (spD K 3 f__law_parted) := by
  obtain ⟨feach_of, fdeach_of, Geach_of, meach_of, keach_of, beach_of⟩ := Geach_of
  refine F.ok sc__law_parted (fun vs H Q X z => sp_len z) (fun cdv A outer s H vs Q X hr z => ?_)
  refine ⟨_, PSs.nox (
      (pss_cons (ps_set (i := 3) sc__law_parted.nd rfl (Or.inl rfl) pe_non) 
      (pss_cons (ps_set (i := 4) sc__law_parted.nd rfl (Or.inl rfl) pe_non) 
      (pss_cons (ps_set (i := 5) sc__law_parted.nd rfl (Or.inl rfl) pe_bl) 
      (pss_cons (ps_tryMixD (E := E0) (j := 3) (Wout := fun _ _ _ _ => False) (eCallS f_each_of (aCons (eVar 0) (aCons (eVar 1) (aCons (eVar 2) aNil)))) (lw_call (l_cons l_var (l_cons l_var (l_cons l_var l_nil)))) (hm_as (i := 6) (c := "NoAxis") (ms := fun a d => 
        (sSeq (sSetD 4 (eC (.str "axis"))) 
        (sSetD 5 (eXup a 6)))) ER (by simp [errNames]) (fun a cls d hc => (w_seq (w_setD l_str) (w_setD (l_xup (hc.eq rfl))))) (hm_as (i := 6) (c := "NoWish") (ms := fun a d => 
        (sSeq (sSetD 4 (eTup (aCons (eXf a d 6 "NoWish" "place") (aCons (eXf a d 6 "NoWish" "word") aNil)))) 
        (sSetD 5 (eXup a 6)))) ER (by simp [errNames]) (fun a cls d hc => (w_seq (w_setD (l_eTup (l_cons (l_xf (hc.eq rfl)) (l_cons (l_xf (hc.eq rfl)) l_nil)) (by decide))) (w_setD (l_xup (hc.eq rfl))))) (hm_nil hd_no))) rfl rfl sc__law_parted.nd takes0 (fun W pn xe tk _ => pss_one (ps_set (i := 3) sc__law_parted.nd rfl (Or.inl rfl) (by exact (pe_callS Geach_of (hr.mono (by decide)) rfl meach_of keach_of beach_of (fun σ => passAt tk σ) (pa_cons (pv 0) (pa_cons (pv 1) (pa_cons (pv 2) pa_nil))))))) (HdMix.as (i := 6) rfl rfl ⟨rfl, by decide, Or.inl mgc_NoAxis⟩ (fun a oe cls d pn hz hf => 
        (pss_cons (ps_set (i := 4) sc__law_parted.nd rfl (Or.inl rfl) pe_str) 
        (pss_one (ps_set (i := 5) sc__law_parted.nd rfl (Or.inl rfl) (pe_callB (call_isUp hz FNoAxis.ne FNoAxis.up) (by rfl) T.isinst (by decide +kernel) (pa_cons (pv 6) (pa_cons (pe_glob (v := .ref (He.ga K "ToldError")) (by rfl) mgc_ToldError rfl) pa_nil))))))) (HdMix.as (i := 6) rfl rfl ⟨rfl, by decide, Or.inl mgc_NoWish⟩ (fun a oe cls d pn hz hf => 
        (pss_cons (ps_set (i := 4) sc__law_parted.nd rfl (Or.inl rfl) (pe_tup (pa_cons (pe_xf FNoWish.xf (FNoWish.no "place" (by simp)) hz hf (pv 6)) (pa_cons (pe_xf FNoWish.xf (FNoWish.no "word" (by simp)) hz hf (pv 6)) pa_nil)))) 
        (pss_one (ps_set (i := 5) sc__law_parted.nd rfl (Or.inl rfl) (pe_callB (call_isUp hz FNoWish.ne FNoWish.up) (by rfl) T.isinst (by decide +kernel) (pa_cons (pv 6) (pa_cons (pe_glob (v := .ref (He.ga K "ToldError")) (by rfl) mgc_ToldError rfl) pa_nil))))))) HdMix.nil))) 
      (pss_one (ps_ret (pe_tup (pa_cons (pv 3) (pa_cons (pv 4) (pa_cons (pv 5) pa_nil))))))))))), ?_⟩
  exact d_read0 (n := 3) (N := ["grid", "axis", "wish", "told", "refused", "below", "e"]) (w_seq (w_setD l_non) (w_seq (w_setD l_non) (w_seq (w_setD l_bl) (w_seq (w_tryO (lw_call (l_cons l_var (l_cons l_var (l_cons l_var l_nil)))) (hm_as (i := 6) (c := "NoAxis") (ms := fun a d => 
        (sSeq (sSetD 4 (eC (.str "axis"))) 
        (sSetD 5 (eXup a 6)))) ER (by simp [errNames]) (fun a cls d hc => (w_seq (w_setD l_str) (w_setD (l_xup (hc.eq rfl))))) (hm_as (i := 6) (c := "NoWish") (ms := fun a d => 
        (sSeq (sSetD 4 (eTup (aCons (eXf a d 6 "NoWish" "place") (aCons (eXf a d 6 "NoWish" "word") aNil)))) 
        (sSetD 5 (eXup a 6)))) ER (by simp [errNames]) (fun a cls d hc => (w_seq (w_setD (l_eTup (l_cons (l_xf (hc.eq rfl)) (l_cons (l_xf (hc.eq rfl)) l_nil)) (by decide))) (w_setD (l_xup (hc.eq rfl))))) (hm_nil hd_no)))) (w_retT (l_cons l_var (l_cons l_var (l_cons l_var l_nil))) (by decide)))))) (by decide) z
end
end DL

set_option Elab.async false
set_option linter.all false
set_option maxRecDepth 100000
set_option maxHeartbeats 1000000
namespace DL
open PySem L2 He DX DW
section
variable {P : Program} {w : World} {K : PySem.W.Frag} {mg : Str → Option Value} {base : Heap} {f : Addr} {fd : FuncData}
theorem sc__law_summed : FnScope ["grid", "wish", "refused", "e"] ["grid", "wish"] (defScope s__law_summed) := ⟨rfl, rfl, rfl, by decide +kernel, rfl, by decide +kernel, by decide +kernel⟩
theorem ok__law_summed (F : FnP K "_law_summed" "_law_summed" s__law_summed [] f fd) (TX : Tx K) (T : TT mg)
    (mgc_NoWish : mg "NoWish" = some (.ref (He.ga K "NoWish")))
    (ER : Ers K errNames)
    (FNoWish : XFc K "NoWish" ["place", "word"])
    (Gsum_of : GloOk P w K mg base (L2.CX P w) 9 "sum_of" ["grid", "wish"] (spD K 2 f_sum_of)) : FnOk P w K mg base CX0 10 f fd ["grid", "wish"] (spD K 2 f__law_summed) := by
  obtain ⟨fsum_of, fdsum_of, Gsum_of, msum_of, ksum_of, bsum_of⟩ := Gsum_of
  refine F.ok sc__law_summed (fun vs H Q X z => sp_len z) (fun cdv A outer s H vs Q X hr z => ?_)
  refine ⟨_, PSs.nox (
      (pss_cons (ps_set (i := 2) sc__law_summed.nd rfl (Or.inl rfl) pe_non) 
      (pss_cons (ps_tryMixE (E := E0) (Wout := fun _ _ _ _ => False) (eCallS f_sum_of (aCons (eVar 0) (aCons (eVar 1) aNil))) (lw_call (l_cons l_var (l_cons l_var l_nil))) (hm_as (i := 3) (c := "NoWish") (ms := fun a d => 
        (sSetD 2 (eTup (aCons (eXf a d 3 "NoWish" "place") (aCons (eXf a d 3 "NoWish" "word") aNil))))) ER (by simp [errNames]) (fun a cls d hc => (w_setD (l_eTup (l_cons (l_xf (hc.eq rfl)) (l_cons (l_xf (hc.eq rfl)) l_nil)) (by decide)))) (hm_nil hd_no)) rfl rfl sc__law_summed.nd takes0 (fun W pn xe tk _ => pss_one (ps_expr (by exact (pe_callS Gsum_of (hr.mono (by decide)) rfl msum_of ksum_of bsum_of (fun σ => passAt tk σ) (pa_cons (pv 0) (pa_cons (pv 1) pa_nil)))))) (HdMix.as (i := 3) rfl rfl ⟨rfl, by decide, Or.inl mgc_NoWish⟩ (fun a oe cls d pn hz hf => 
        (pss_one (ps_set (i := 2) sc__law_summed.nd rfl (Or.inl rfl) (pe_tup (pa_cons (pe_xf FNoWish.xf (FNoWish.no "place" (by simp)) hz hf (pv 3)) (pa_cons (pe_xf FNoWish.xf (FNoWish.no "word" (by simp)) hz hf (pv 3)) pa_nil)))))) HdMix.nil)) 
      (pss_one (ps_ret (pv 2)))))), ?_⟩
  exact d_read0 (n := 2) (N := ["grid", "wish", "refused", "e"]) (w_seq (w_setD l_non) (w_seq (w_tryE (lw_call (l_cons l_var (l_cons l_var l_nil))) (hm_as (i := 3) (c := "NoWish") (ms := fun a d => 
        (sSetD 2 (eTup (aCons (eXf a d 3 "NoWish" "place") (aCons (eXf a d 3 "NoWish" "word") aNil))))) ER (by simp [errNames]) (fun a cls d hc => (w_setD (l_eTup (l_cons (l_xf (hc.eq rfl)) (l_cons (l_xf (hc.eq rfl)) l_nil)) (by decide)))) (hm_nil hd_no))) (w_ret l_var))) (by decide) z
end
end DL

set_option Elab.async false
set_option linter.all false
set_option maxRecDepth 100000
set_option maxHeartbeats 1000000
namespace DL
open PySem L2 He DX DW
section
variable {P : Program} {w : World} {K : PySem.W.Frag} {mg : Str → Option Value} {base : Heap} {f : Addr} {fd : FuncData}
theorem sc__law_right : FnScope ["grid", "axes", "wish", "axis", "amounts", "region", "told", "refused", "below", "total", "k", "places", "pair", "place"] ["grid", "axes", "wish", "axis", "amounts"] (defScope s__law_right) := ⟨rfl, rfl, rfl, by decide +kernel, rfl, by decide +kernel, by decide +kernel⟩
theorem ok__law_right (F : FnP K "_law_right" "_law_right" s__law_right [] f fd) (TX : Tx K) (T : TT mg)
    (pQuestion : Pres K "Question")
    (OQuestion : OwnC K (He.ga K "Question"))
    (G_law_region : GloOk P w K mg base CX0 2 "_law_region" ["axes", "wish"] (spD K 2 f__law_region))
    (G_law_asks : GloOk P w K mg base CX0 3 "_law_asks" ["told", "grid", "weights"] (spD K 3 f__law_asks))
    (G_law_ones : GloOk P w K mg base CX0 1 "_law_ones" ["size", "places"] (spD K 2 f__law_ones))
    (Gsum_of : GloOk P w K mg base (L2.CX P w) 9 "sum_of" ["grid", "wish"] (spD K 2 f_sum_of))
    (G_law_parted : GloOk P w K mg base CX0 10 "_law_parted" ["grid", "axis", "wish"] (spD K 3 f__law_parted))
    (Gnothing_of : GloOk P w K mg base (L2.CX P w) 9 "nothing_of" ["grid"] (spD K 1 f_nothing_of))
    (G_law_is : GloOk P w K mg base CX0 2 "_law_is" ["told", "due"] (spD K 2 f__law_is))
    (G_law_at : GloOk P w K mg base CX0 4 "_law_at" ["weights", "amounts"] (spD K 2 f__law_at))
    (GQuestion_x_at : MthOk P w K mg base (He.ga K "Question") (L2.CX P w) 6 "at" ["self", "amounts"] (spD K 2 f_Question_x_at))
    (G_law_given : GloOk P w K mg base CX0 5 "_law_given" ["fracs"] (spD K 1 f__law_given))
    (GQuestion_x___add__ : MthOk P w K mg base (He.ga K "Question") (L2.CX P w) 8 "__add__" ["self", "other"] (spD K 2 f_Question_x___add__))
    (Geach_of : GloOk P w K mg base (L2.CX P w) 9 "each_of" ["grid", "axis", "wish"] (spD K 3 f_each_of))
    (GQuestion_x___eq__ : MthOk P w K mg base (He.ga K "Question") CX0 4 "__eq__" ["self", "other"] (spD K 2 f_Question_x___eq__)) : FnOk P w K mg base CX0 11 f fd ["grid", "axes", "wish", "axis", "amounts"] (spD K 5 f__law_right) := by
  have CQuestion := TX.cls _ pQuestion
  obtain ⟨f_law_region, fd_law_region, G_law_region, m_law_region, k_law_region, b_law_region⟩ := G_law_region
  obtain ⟨f_law_asks, fd_law_asks, G_law_asks, m_law_asks, k_law_asks, b_law_asks⟩ := G_law_asks
  obtain ⟨f_law_ones, fd_law_ones, G_law_ones, m_law_ones, k_law_ones, b_law_ones⟩ := G_law_ones
  obtain ⟨fsum_of, fdsum_of, Gsum_of, msum_of, ksum_of, bsum_of⟩ := Gsum_of
  obtain ⟨f_law_parted, fd_law_parted, G_law_parted, m_law_parted, k_law_parted, b_law_parted⟩ := G_law_parted
  obtain ⟨fnothing_of, fdnothing_of, Gnothing_of, mnothing_of, knothing_of, bnothing_of⟩ := Gnothing_of
  obtain ⟨f_law_is, fd_law_is, G_law_is, m_law_is, k_law_is, b_law_is⟩ := G_law_is
  obtain ⟨f_law_at, fd_law_at, G_law_at, m_law_at, k_law_at, b_law_at⟩ := G_law_at
  obtain ⟨fQuestion_x_at, fdQuestion_x_at, GQuestion_x_at, MQuestion_x_at, bQuestion_x_at⟩ := GQuestion_x_at
  obtain ⟨f_law_given, fd_law_given, G_law_given, m_law_given, k_law_given, b_law_given⟩ := G_law_given
  obtain ⟨fQuestion_x___add__, fdQuestion_x___add__, GQuestion_x___add__, MQuestion_x___add__, bQuestion_x___add__⟩ := GQuestion_x___add__
  obtain ⟨feach_of, fdeach_of, Geach_of, meach_of, keach_of, beach_of⟩ := Geach_of
  obtain ⟨fQuestion_x___eq__, fdQuestion_x___eq__, GQuestion_x___eq__, MQuestion_x___eq__, bQuestion_x___eq__⟩ := GQuestion_x___eq__
  refine F.ok sc__law_right (fun vs H Q X z => sp_len z) (fun cdv A outer s H vs Q X hr z => ?_)
  refine ⟨_, PSs.nox (
      (pss_cons (ps_set (i := 5) sc__law_right.nd rfl (Or.inr rfl) (pe_call G_law_region (hr.mono (by decide)) rfl m_law_region k_law_region b_law_region .nil pass0 (pa_cons (pv 1) (pa_cons (pv 2) pa_nil)))) 
      (pss_cons (ps_if (pt_not (pt_val (pe_call G_law_asks (hr.mono (by decide)) rfl m_law_asks k_law_asks b_law_asks .nil pass0 (pa_cons (pe_call Gsum_of (hr.mono (by decide)) rfl msum_of ksum_of bsum_of .nil passL (pa_cons (pv 0) (pa_cons (pv 2) pa_nil))) (pa_cons (pv 0) (pa_cons (pe_call G_law_ones (hr.mono (by decide)) rfl m_law_ones k_law_ones b_law_ones .nil pass0 (pa_cons (pe_fld (pv 0) rfl) (pa_cons (pv 5) pa_nil))) pa_nil)))))) 
        (pss_one (ps_ret pe_bl)) pss_nil) 
      (pss_cons (ps_asg (pe_call G_law_parted (hr.mono (by decide)) rfl m_law_parted k_law_parted b_law_parted .nil pass0 (pa_cons (pv 0) (pa_cons (pe_ix ix_tup (pv 3) pe_int (fun _ _ => rfl)) (pa_cons (pv 2) pa_nil)))) (pg_tup (by rfl) (pgs_cons (pg_name (i := 6) sc__law_right.nd rfl (Or.inl rfl)) (pgs_cons (pg_name (i := 7) sc__law_right.nd rfl (Or.inl rfl)) (pgs_cons (pg_name (i := 8) sc__law_right.nd rfl (Or.inl rfl)) pgs_nil))))) 
      (pss_cons (ps_if (pt_cmpR op_in_seq (pe_ix ix_tup (pv 3) pe_int (fun _ _ => rfl)) (pe_lc (own := [("pair", 12)]) (g := gName 12) (tt := tYes) (by rfl) sc__law_right.nd (pi_tup (pv 2)) (blkOk_by (own := [("pair", 12)]) (N := ["grid", "axes", "wish", "axis", "amounts", "region", "told", "refused", "below", "total", "k", "places", "pair", "place"]) (sc := defScope s__law_right) (by decide +kernel)) (fun _ _ _ _ _ => (pg_name (i := 12) sc__law_right.nd rfl (Or.inl rfl))) (fun _ _ _ _ _ => pts_nil)
          (fun _ _ _ _ _ => (pe_by (E := E0) K (eOp (fIx Rv.asT) (eVar 12) (eC (.int 0))) (l_op s_ixT l_var l_int) (pe_ix ix_tup (pv 12) pe_int (fun _ _ => rfl))))) (by rfl)) 
        (pss_one (ps_ret (pe_and (pe_cmpR (op_eqD hr.units) (pv 7) (pe_tup (pa_cons (pe_bm PySem.F.plainAttrs_list PySem.F.slot_list_index PySem.F.type_list_index mt_index (pe_lc (own := [("pair", 12)]) (g := gName 12) (tt := tYes) (by rfl) sc__law_right.nd (pi_tup (pv 2)) (blkOk_by (own := [("pair", 12)]) (N := ["grid", "axes", "wish", "axis", "amounts", "region", "told", "refused", "below", "total", "k", "places", "pair", "place"]) (sc := defScope s__law_right) (by decide +kernel)) (fun _ _ _ _ _ => (pg_name (i := 12) sc__law_right.nd rfl (Or.inl rfl))) (fun _ _ _ _ _ => pts_nil)
          (fun _ _ _ _ _ => (pe_by (E := E0) K (eOp (fIx Rv.asT) (eVar 12) (eC (.int 0))) (l_op s_ixT l_var l_int) (pe_ix ix_tup (pv 12) pe_int (fun _ _ => rfl))))) (pa_cons (pe_ix ix_tup (pv 3) pe_int (fun _ _ => rfl)) pa_nil)) (pa_cons pe_str pa_nil))) (nomark _)) (pe_one (pv 8))))) pss_nil) 
      (pss_cons (ps_if (PW.pt (pw_or (pt_cmp (pc_notN (pv 7))) (pw_or (pt_not (pt_val (pe_callB call_isi (by rfl) T.isinst (by decide +kernel) (pa_cons (pv 6) (pa_cons (pe_bltn (v := .ty "list") (by rfl) T.list (by decide +kernel) rfl) pa_nil))))) (pw_or1 (pt_cmpR op_ne (pe_callB call_len_seq (by rfl) T.len PySem.boot_len (pa_cons (pv 6) pa_nil)) (pe_callB call_len_seq (by rfl) T.len PySem.boot_len (pa_cons (pe_ix ix_tup (pv 3) pe_int (fun _ _ => rfl)) pa_nil)) (nomark _)))))) 
        (pss_one (ps_ret pe_bl)) pss_nil) 
      (pss_cons (ps_set (i := 9) sc__law_right.nd rfl (Or.inl rfl) (pe_call Gnothing_of (hr.mono (by decide)) rfl mnothing_of knothing_of bnothing_of .nil passL (pa_cons (pv 0) pa_nil))) 
      (pss_cons (ps_for PassesOwn.never rfl (pi_range1 (by rfl) T.range (pa_cons (pe_callB call_len_seq (by rfl) T.len PySem.boot_len (pa_cons (pe_ix ix_tup (pv 3) pe_int (fun _ _ => rfl)) pa_nil)) pa_nil)) (pg_name (i := 10) sc__law_right.nd rfl (Or.inl rfl)) 
        (pss_cons (ps_setLc (i := 11) (own := [("place", 13)]) (g := gName 13) (by rfl) sc__law_right.nd rfl (by rfl) (by rfl) (pi_list (pe_call G_law_region (hr.mono (by decide)) rfl m_law_region k_law_region b_law_region .nil pass0 (pa_cons (pv 1) (pa_cons (pe_tup (pa_cons (pe_tup (pa_cons (pe_ix ix_tup (pv 3) pe_int (fun _ _ => rfl)) (pa_cons (pe_tup (pa_cons (pe_ix ix_tup (pe_ix ix_tup (pv 3) pe_int (fun _ _ => rfl)) (pv 10) (fun _ _ => rfl)) pa_nil)) pa_nil))) pa_nil)) pa_nil)))) (blkOk_by (own := [("place", 13)]) (N := ["grid", "axes", "wish", "axis", "amounts", "region", "told", "refused", "below", "total", "k", "places", "pair", "place"]) (sc := defScope s__law_right) (by decide +kernel)) (fun _ _ _ _ _ => (pg_name (i := 13) sc__law_right.nd rfl (Or.inl rfl))) (fun _ _ _ _ _ => (pts_one (pt_by (E := E0) K (tBl (eOp (fIn false) (eVar 13) (eVar 5))) (l_Test (l_op s_in l_var l_var)) (pt_cmpR op_in_seq (pv 13) (pv 5) (by rfl)))))
          (fun _ _ _ _ _ => (pe_by (E := E0) K (eVar 13) l_var (pv 13)))) 
        (pss_cons (ps_if (pt_not (pt_val (pe_call G_law_asks (hr.mono (by decide)) rfl m_law_asks k_law_asks b_law_asks .nil pass0 (pa_cons (pe_ix ix_list (pv 6) (pv 10) (fun _ _ => rfl)) (pa_cons (pv 0) (pa_cons (pe_call G_law_ones (hr.mono (by decide)) rfl m_law_ones k_law_ones b_law_ones .nil pass0 (pa_cons (pe_fld (pv 0) rfl) (pa_cons (pv 11) pa_nil))) pa_nil)))))) 
          (pss_one (ps_ret pe_bl)) pss_nil) 
        (pss_cons (ps_if (pt_not (pt_val (pe_call G_law_is (hr.mono (by decide)) rfl m_law_is k_law_is b_law_is .nil pass0 (pa_cons (pe_meth (pe_ix ix_list (pv 6) (pv 10) (fun _ _ => rfl)) CQuestion MQuestion_x_at GQuestion_x_at (hr.mono (by decide)) bQuestion_x_at .nil passL (pa_cons (pe_call G_law_given (hr.mono (by decide)) rfl m_law_given k_law_given b_law_given .nil pass0 (pa_cons (pv 4) pa_nil)) pa_nil)) (pa_cons (pe_call G_law_at (hr.mono (by decide)) rfl m_law_at k_law_at b_law_at .nil pass0 (pa_cons (pe_call G_law_ones (hr.mono (by decide)) rfl m_law_ones k_law_ones b_law_ones .nil pass0 (pa_cons (pe_fld (pv 0) rfl) (pa_cons (pv 11) pa_nil))) (pa_cons (pv 4) pa_nil))) pa_nil))))) 
          (pss_one (ps_ret pe_bl)) pss_nil) 
        (pss_one (ps_set (i := 9) sc__law_right.nd rfl (Or.inl rfl) (pe_op (op_same OQuestion MQuestion_x___add__.at_ MQuestion_x___add__.fn GQuestion_x___add__ (hr.mono (by decide)) bQuestion_x___add__ passL) (pv 9) (pe_ix ix_list (pv 6) (pv 10) (fun _ _ => rfl))))))))) 
      (pss_cons (ps_expr (pe_bm PySem.F.plainAttrs_list PySem.F.slot_list_append PySem.F.type_list_append mt_append (pv 6) (pa_cons pe_non pa_nil))) 
      (pss_one (ps_ret (pe_and (pe_cmpR (op_cmp (op := .Eq) (fun _ _ => rfl) MQuestion_x___eq__.at_ MQuestion_x___eq__.fn GQuestion_x___eq__ (hr.mono (by decide)) bQuestion_x___eq__ pass0) (pv 9) (pe_call Gsum_of (hr.mono (by decide)) rfl msum_of ksum_of bsum_of .nil passL (pa_cons (pv 0) (pa_cons (pv 2) pa_nil))) (nomark _)) (pe_one (pe_cmpR op_eq (pe_callB call_len_seq (by rfl) T.len PySem.boot_len (pa_cons (pe_call Geach_of (hr.mono (by decide)) rfl meach_of keach_of beach_of .nil passL (pa_cons (pv 0) (pa_cons (pe_ix ix_tup (pv 3) pe_int (fun _ _ => rfl)) (pa_cons (pv 2) pa_nil)))) pa_nil)) (pe_callB call_len_seq (by rfl) T.len PySem.boot_len (pa_cons (pe_ix ix_tup (pv 3) pe_int (fun _ _ => rfl)) pa_nil)) (nomark _))))))))))))))), ?_⟩
  exact d_read0 (n := 5) (N := ["grid", "axes", "wish", "axis", "amounts", "region", "told", "refused", "below", "total", "k", "places", "pair", "place"]) (w_seq (w_setD (l_call (l_cons l_var (l_cons l_var l_nil)))) (w_seq (w_if (l_not (l_B (l_call (l_cons (l_call (l_cons l_var (l_cons l_var l_nil))) (l_cons l_var (l_cons (l_call (l_cons (l_fld TX l_var) (l_cons l_var l_nil))) l_nil)))))) (w_ret l_bl) w_next) (w_seq (w_asgT (l_call (l_cons l_var (l_cons (l_op s_ixT l_var l_int) (l_cons l_var l_nil)))) (gt_cons (gt_cons (gt_cons gt_nil))) rfl) (w_seq (w_if (l_Test (l_op s_in (l_op s_ixT l_var l_int) (l_lc (i_tup l_var) g_name (by decide) l_yes (l_op s_ixT l_var l_int)))) (w_ret (l_andV (l_op s_eqD l_var (l_eTup (l_cons (l_index (l_lc (i_tup l_var) g_name (by decide) l_yes (l_op s_ixT l_var l_int)) (l_cons (l_op s_ixT l_var l_int) l_nil)) (l_cons l_str l_nil)) (by decide))) l_var)) w_next) (w_seq (w_if (l_or (l_B (l_notN l_var)) (l_or (l_not (l_B (l_isB TX (by decide) l_var))) (l_Test (l_op s_ne (l_N s_len (l_cons l_var l_nil)) (l_N s_len (l_cons (l_op s_ixT l_var l_int) l_nil)))))) (w_ret l_bl) w_next) (w_seq (w_setD (l_call (l_cons l_var l_nil))) (w_seq (w_for (i_rng1 (l_cons (l_N s_len (l_cons (l_op s_ixT l_var l_int) l_nil)) l_nil)) g_name (w_seq (w_setD (l_lc (i_list (l_call (l_cons l_var (l_cons (l_eTup (l_cons (l_eTup (l_cons (l_op s_ixT l_var l_int) (l_cons (l_eTup (l_cons (l_op s_ixT (l_op s_ixT l_var l_int) l_var) l_nil) (by decide)) l_nil)) (by decide)) l_nil) (by decide)) l_nil)))) g_name (by decide) (l_Test (l_op s_in l_var l_var)) l_var)) (w_seq (w_if (l_not (l_B (l_call (l_cons (l_op s_ixL l_var l_var) (l_cons l_var (l_cons (l_call (l_cons (l_fld TX l_var) (l_cons l_var l_nil))) l_nil)))))) (w_ret l_bl) w_next) (w_seq (w_if (l_not (l_B (l_call (l_cons (l_meth (l_op s_ixL l_var l_var) (l_cons (l_call (l_cons l_var l_nil)) l_nil) rfl) (l_cons (l_call (l_cons (l_call (l_cons (l_fld TX l_var) (l_cons l_var l_nil))) (l_cons l_var l_nil))) l_nil))))) (w_ret l_bl) w_next) (w_setD (l_op (s2_0 s_opS) l_var (l_op s_ixL l_var l_var))))))) (w_seq (w_app l_non) (w_ret (l_andV (l_op (s2_0 (s_cmpO TX)) l_var (l_call (l_cons l_var (l_cons l_var l_nil)))) (l_op s_eq (l_N s_len (l_cons (l_call (l_cons l_var (l_cons (l_op s_ixT l_var l_int) (l_cons l_var l_nil)))) l_nil)) (l_N s_len (l_cons (l_op s_ixT l_var l_int) l_nil))))))))))))) (by decide) z
end
end DL

set_option Elab.async false
set_option linter.all false
set_option maxRecDepth 100000
set_option maxHeartbeats 1000000
namespace DL
open PySem L2 He DX DW
section
variable {P : Program} {w : World} {K : PySem.W.Frag} {mg : Str → Option Value} {base : Heap} {f : Addr} {fd : FuncData}
theorem sc__law_left_out : FnScope ["grid", "axes", "wish", "rest", "ahead", "name", "members", "axis", "known", "others", "member"] ["grid", "axes", "wish"] (defScope s__law_left_out) := ⟨rfl, rfl, rfl, by decide +kernel, rfl, by decide +kernel, by decide +kernel⟩
theorem ok__law_left_out (F : FnP K "_law_left_out" "_law_left_out" s__law_left_out [] f fd) (TX : Tx K) (T : TT mg)
    (OQuestion : OwnC K (He.ga K "Question"))
    (Gsum_of : GloOk P w K mg base (L2.CX P w) 9 "sum_of" ["grid", "wish"] (spD K 2 f_sum_of))
    (GQuestion_x___sub__ : MthOk P w K mg base (He.ga K "Question") (L2.CX P w) 9 "__sub__" ["self", "other"] (spD K 2 f_Question_x___sub__))
    (GQuestion_x___eq__ : MthOk P w K mg base (He.ga K "Question") CX0 4 "__eq__" ["self", "other"] (spD K 2 f_Question_x___eq__)) : FnOk P w K mg base CX0 10 f fd ["grid", "axes", "wish"] (spD K 3 f__law_left_out) := by
  obtain ⟨fsum_of, fdsum_of, Gsum_of, msum_of, ksum_of, bsum_of⟩ := Gsum_of
  obtain ⟨fQuestion_x___sub__, fdQuestion_x___sub__, GQuestion_x___sub__, MQuestion_x___sub__, bQuestion_x___sub__⟩ := GQuestion_x___sub__
  obtain ⟨fQuestion_x___eq__, fdQuestion_x___eq__, GQuestion_x___eq__, MQuestion_x___eq__, bQuestion_x___eq__⟩ := GQuestion_x___eq__
  refine F.ok sc__law_left_out (fun vs H Q X z => sp_len z) (fun cdv A outer s H vs Q X hr z => ?_)
  refine ⟨_, PSs.nox (
      (pss_cons (ps_set (i := 3) sc__law_left_out.nd rfl (Or.inl rfl) (pe_call Gsum_of (hr.mono (by decide)) rfl msum_of ksum_of bsum_of .nil passL (pa_cons (pv 0) (pa_cons (pe_lst pa_nil) pa_nil)))) 
      (pss_cons (ps_set (i := 4) sc__law_left_out.nd rfl (Or.inl rfl) (pe_lst pa_nil)) 
      (pss_cons (ps_for PassesOwn.never rfl (pi_tup (pv 2)) (pg_tup (by rfl) (pgs_cons (pg_name (i := 5) sc__law_left_out.nd rfl (Or.inl rfl)) (pgs_cons (pg_name (i := 6) sc__law_left_out.nd rfl (Or.inr rfl)) pgs_nil))) 
        (pss_cons (ps_for PassesOwn.never rfl (pi_tup (pv 1)) (pg_tup (by rfl) (pgs_cons (pg_name (i := 7) sc__law_left_out.nd rfl (Or.inl rfl)) (pgs_cons (pg_name (i := 8) sc__law_left_out.nd rfl (Or.inl rfl)) pgs_nil))) 
          (pss_cons (ps_setLc (i := 9) (own := [("member", 10)]) (g := gName 10) (by rfl) sc__law_left_out.nd rfl (by rfl) (by rfl) (pi_tup (pv 8)) (blkOk_by (own := [("member", 10)]) (N := ["grid", "axes", "wish", "rest", "ahead", "name", "members", "axis", "known", "others", "member"]) (sc := defScope s__law_left_out) (by decide +kernel)) (fun _ _ _ _ _ => (pg_name (i := 10) sc__law_left_out.nd rfl (Or.inl rfl))) (fun _ _ _ _ _ => (pts_one (pt_by (E := E0) K (tBl (eOp (fIn true) (eVar 10) (eVar 6))) (l_Test (l_op s_in l_var l_var)) (pt_cmpR op_notIn_seq (pv 10) (pv 6) (by rfl)))))
          (fun _ _ _ _ _ => (pe_by (E := E0) K (eVar 10) l_var (pv 10)))) 
          (pss_one (ps_if (PW.pt (pw_and (pt_cmpR op_eq (pv 7) (pv 5) (nomark _)) (pw_and1 (pt_cmpR (op_neD hr.units) (pv 9) (pe_lst pa_nil) (nomark _))))) 
            (pss_one (ps_set (i := 3) sc__law_left_out.nd rfl (Or.inl rfl) (pe_op (op_same OQuestion MQuestion_x___sub__.at_ MQuestion_x___sub__.fn GQuestion_x___sub__ (hr.mono (by decide)) bQuestion_x___sub__ passL) (pv 3) (pe_call Gsum_of (hr.mono (by decide)) rfl msum_of ksum_of bsum_of .nil passL (pa_cons (pv 0) (pa_cons (pe_op op_cat (pv 4) (pe_lst (pa_cons (pe_tup (pa_cons (pv 5) (pa_cons (pv 9) pa_nil))) pa_nil))) pa_nil)))))) pss_nil)))) 
        (pss_one (ps_expr (pe_bm PySem.F.plainAttrs_list PySem.F.slot_list_append PySem.F.type_list_append mt_append (pv 4) (pa_cons (pe_tup (pa_cons (pv 5) (pa_cons (pv 6) pa_nil))) pa_nil)))))) 
      (pss_one (ps_ret (pe_cmpR (op_cmp (op := .Eq) (fun _ _ => rfl) MQuestion_x___eq__.at_ MQuestion_x___eq__.fn GQuestion_x___eq__ (hr.mono (by decide)) bQuestion_x___eq__ pass0) (pv 3) (pe_call Gsum_of (hr.mono (by decide)) rfl msum_of ksum_of bsum_of .nil passL (pa_cons (pv 0) (pa_cons (pv 2) pa_nil))) (nomark _)))))))), ?_⟩
  exact d_read0 (n := 3) (N := ["grid", "axes", "wish", "rest", "ahead", "name", "members", "axis", "known", "others", "member"]) (w_seq (w_setD (l_call (l_cons l_var (l_cons (l_eLst l_nil (by decide)) l_nil)))) (w_seq (w_setO (l_eLst l_nil (by decide))) (w_seq (w_for (i_tup l_var) (g_tup (gs_cons (gs_cons gs_nil)) rfl) (w_seq (w_for (i_tup l_var) (g_tup (gs_cons (gs_cons gs_nil)) rfl) (w_seq (w_setD (l_lc (i_tup l_var) g_name (by decide) (l_Test (l_op s_in l_var l_var)) l_var)) (w_if (l_and (l_Test (l_op s_eq l_var l_var)) (l_Test (l_op s_neD l_var (l_eLst l_nil (by decide))))) (w_setD (l_op (s2_0 s_opS) l_var (l_call (l_cons l_var (l_cons (l_op s_cat l_var (l_eLst (l_cons (l_eTup (l_cons l_var (l_cons l_var l_nil)) (by decide)) l_nil) (by decide))) l_nil))))) w_next))) (w_app (l_eTup (l_cons l_var (l_cons l_var l_nil)) (by decide))))) (w_ret (l_op (s2_0 (s_cmpO TX)) l_var (l_call (l_cons l_var (l_cons l_var l_nil)))))))) (by decide) z
end
end DL

set_option Elab.async false
set_option linter.all false
set_option maxRecDepth 100000
set_option maxHeartbeats 1000000
namespace DL
open PySem L2 He DX DW
section
variable {P : Program} {w : World} {K : PySem.W.Frag} {mg : Str → Option Value} {base : Heap} {f : Addr} {fd : FuncData}
theorem sc_law : FnScope ["script", "stream", "axes", "grid", "at", "wish", "axis", "wrong", "due", "odd", "name", "members", "pair"] ["script"] (defScope s_law) := ⟨rfl, rfl, rfl, by decide +kernel, rfl, by decide +kernel, by decide +kernel⟩
theorem ok_law (F : FnP K "law" "law" s_law [] f fd) (TX : Tx K) (T : TT mg)
    (pGrid : Pres K "Grid")
    (pQuestion : Pres K "Question")
    (mgc_Grid : mg "Grid" = some (.ref (He.ga K "Grid")))
    (G_law_stream : GloOk P w K mg base CX0 1 "_law_stream" ["script", "k"] (spD K 2 mStream))
    (G_law_axes : GloOk P w K mg base CX0 3 "_law_axes" ["stream"] (spD K 1 f__law_axes))
    (GGrid_x___init__ : MkOk P w K mg base (He.ga K "Grid") (L2.CX P w) 6 ["self", "axes"] (spI K "Grid" 1 f_Grid_x___init__))
    (GQuestion_x_is_nothing : MthOk P w K mg base (He.ga K "Question") CX0 3 "is_nothing" ["self"] (spD K 1 f_Question_x_is_nothing))
    (Gnothing_of : GloOk P w K mg base (L2.CX P w) 9 "nothing_of" ["grid"] (spD K 1 f_nothing_of))
    (G_law_asks : GloOk P w K mg base CX0 3 "_law_asks" ["told", "grid", "weights"] (spD K 3 f__law_asks))
    (G_law_ones : GloOk P w K mg base CX0 1 "_law_ones" ["size", "places"] (spD K 2 f__law_ones))
    (G_law_wish : GloOk P w K mg base CX0 2 "_law_wish" ["stream", "axes"] (spD K 2 f__law_wish))
    (G_law_draw : GloOk P w K mg base CX0 1 "_law_draw" ["stream", "many"] (spD K 2 mDraw))
    (G_law_left_out : GloOk P w K mg base CX0 10 "_law_left_out" ["grid", "axes", "wish"] (spD K 3 f__law_left_out))
    (G_law_right : GloOk P w K mg base CX0 11 "_law_right" ["grid", "axes", "wish", "axis", "amounts"] (spD K 5 f__law_right))
    (G_law_weights : GloOk P w K mg base CX0 4 "_law_weights" ["stream", "size"] (spD K 2 f__law_weights))
    (G_law_summed : GloOk P w K mg base CX0 10 "_law_summed" ["grid", "wish"] (spD K 2 f__law_summed))
    (G_law_parted : GloOk P w K mg base CX0 10 "_law_parted" ["grid", "axis", "wish"] (spD K 3 f__law_parted)) : FnOk P w K mg base CX0 12 f fd ["script"] (spD K 1 f_law) := by
  have CQuestion := TX.cls _ pQuestion
  obtain ⟨f_law_stream, fd_law_stream, G_law_stream, m_law_stream, k_law_stream, b_law_stream⟩ := G_law_stream
  obtain ⟨f_law_axes, fd_law_axes, G_law_axes, m_law_axes, k_law_axes, b_law_axes⟩ := G_law_axes
  obtain ⟨fGrid_x___init__, fdGrid_x___init__, GGrid_x___init__, MGrid_x___init__, bGrid_x___init__⟩ := GGrid_x___init__
  obtain ⟨fQuestion_x_is_nothing, fdQuestion_x_is_nothing, GQuestion_x_is_nothing, MQuestion_x_is_nothing, bQuestion_x_is_nothing⟩ := GQuestion_x_is_nothing
  obtain ⟨fnothing_of, fdnothing_of, Gnothing_of, mnothing_of, knothing_of, bnothing_of⟩ := Gnothing_of
  obtain ⟨f_law_asks, fd_law_asks, G_law_asks, m_law_asks, k_law_asks, b_law_asks⟩ := G_law_asks
  obtain ⟨f_law_ones, fd_law_ones, G_law_ones, m_law_ones, k_law_ones, b_law_ones⟩ := G_law_ones
  obtain ⟨f_law_wish, fd_law_wish, G_law_wish, m_law_wish, k_law_wish, b_law_wish⟩ := G_law_wish
  obtain ⟨f_law_draw, fd_law_draw, G_law_draw, m_law_draw, k_law_draw, b_law_draw⟩ := G_law_draw
  obtain ⟨f_law_left_out, fd_law_left_out, G_law_left_out, m_law_left_out, k_law_left_out, b_law_left_out⟩ := G_law_left_out
  obtain ⟨f_law_right, fd_law_right, G_law_right, m_law_right, k_law_right, b_law_right⟩ := G_law_right
  obtain ⟨f_law_weights, fd_law_weights, G_law_weights, m_law_weights, k_law_weights, b_law_weights⟩ := G_law_weights
  obtain ⟨f_law_summed, fd_law_summed, G_law_summed, m_law_summed, k_law_summed, b_law_summed⟩ := G_law_summed
  obtain ⟨f_law_parted, fd_law_parted, G_law_parted, m_law_parted, k_law_parted, b_law_parted⟩ := G_law_parted
  refine F.ok sc_law (fun vs H Q X z => sp_len z) (fun cdv A outer s H vs Q X hr z => ?_)
  refine ⟨_, PSs.nox (
      (pss_cons (ps_set (i := 1) sc_law.nd rfl (Or.inl rfl) (pe_call G_law_stream (hr.mono (by decide)) rfl m_law_stream k_law_stream b_law_stream .nil pass0 (pa_cons (pv 0) (pa_cons pe_int pa_nil)))) 
      (pss_cons (ps_set (i := 2) sc_law.nd rfl (Or.inl rfl) (pe_call G_law_axes (hr.mono (by decide)) rfl m_law_axes k_law_axes b_law_axes .nil pass0 (pa_cons (pv 1) pa_nil))) 
      (pss_cons (ps_set (i := 3) sc_law.nd rfl (Or.inl rfl) (pe_make MGrid_x___init__ GGrid_x___init__ (hr.mono (by decide)) rfl mgc_Grid bGrid_x___init__ .nil passL (pa_cons (pv 2) pa_nil))) 
      (pss_cons (ps_if (PW.pt (pw_or (pt_not (pt_val (pe_call G_law_asks (hr.mono (by decide)) rfl m_law_asks k_law_asks b_law_asks .nil pass0 (pa_cons (pe_call Gnothing_of (hr.mono (by decide)) rfl mnothing_of knothing_of bnothing_of .nil passL (pa_cons (pv 3) pa_nil)) (pa_cons (pv 3) (pa_cons (pe_call G_law_ones (hr.mono (by decide)) rfl m_law_ones k_law_ones b_law_ones .nil pass0 (pa_cons (pe_fld (pv 3) rfl) (pa_cons (pe_lst pa_nil) pa_nil))) pa_nil)))))) (pw_or1 (pt_not (pt_val (pe_meth0 (pe_call Gnothing_of (hr.mono (by decide)) rfl mnothing_of knothing_of bnothing_of .nil passL (pa_cons (pv 3) pa_nil)) CQuestion MQuestion_x_is_nothing GQuestion_x_is_nothing (hr.mono (by decide)) bQuestion_x_is_nothing .nil pass0)))))) 
        (pss_one (ps_ret pe_bl)) pss_nil) 
      (pss_cons (ps_for PassesOwn.never rfl (pi_range2 (by rfl) T.range (pa_cons pe_int (pa_cons (pe_callB (call_max2 rfl) (by rfl) T.max (by decide +kernel) (pa_cons pe_int (pa_cons (pe_callB (call_min2 rfl) (by rfl) T.min (by decide +kernel) (pa_cons (pe_callB call_len_seq (by rfl) T.len PySem.boot_len (pa_cons (pv 0) pa_nil)) (pa_cons pe_int pa_nil))) pa_nil))) pa_nil))) (pg_name (i := 4) sc_law.nd rfl (Or.inl rfl)) 
        (pss_cons (ps_set (i := 1) sc_law.nd rfl (Or.inl rfl) (pe_call G_law_stream (hr.mono (by decide)) rfl m_law_stream k_law_stream b_law_stream .nil pass0 (pa_cons (pv 0) (pa_cons (pv 4) pa_nil)))) 
        (pss_cons (ps_set (i := 5) sc_law.nd rfl (Or.inl rfl) (pe_call G_law_wish (hr.mono (by decide)) rfl m_law_wish k_law_wish b_law_wish .nil pass0 (pa_cons (pv 1) (pa_cons (pv 2) pa_nil)))) 
        (pss_cons (ps_set (i := 6) sc_law.nd rfl (Or.inl rfl) (pe_ix ix_tup (pv 2) (pe_call G_law_draw (hr.mono (by decide)) rfl m_law_draw k_law_draw b_law_draw .nil pass0 (pa_cons (pv 1) (pa_cons (pe_callB call_len_seq (by rfl) T.len PySem.boot_len (pa_cons (pv 2) pa_nil)) pa_nil))) (fun _ _ => rfl))) 
        (pss_cons (ps_if (PW.pt (pw_or (pt_not (pt_val (pe_call G_law_right (hr.mono (by decide)) rfl m_law_right k_law_right b_law_right .nil pass0 (pa_cons (pv 3) (pa_cons (pv 2) (pa_cons (pv 5) (pa_cons (pv 6) (pa_cons (pe_call G_law_weights (hr.mono (by decide)) rfl m_law_weights k_law_weights b_law_weights .nil pass0 (pa_cons (pv 1) (pa_cons (pe_fld (pv 3) rfl) pa_nil))) pa_nil)))))))) (pw_or1 (pt_not (pt_val (pe_call G_law_left_out (hr.mono (by decide)) rfl m_law_left_out k_law_left_out b_law_left_out .nil pass0 (pa_cons (pv 3) (pa_cons (pv 2) (pa_cons (pv 5) pa_nil))))))))) 
          (pss_one (ps_ret pe_bl)) pss_nil) 
        (pss_cons (ps_set (i := 7) sc_law.nd rfl (Or.inl rfl) (pe_op op_catA (pv 5) (pe_tup (pa_cons (pe_tup (pa_cons (pe_ix ix_tup (pv 6) pe_int (fun _ _ => rfl)) (pa_cons (pe_tup (pa_cons pe_str (pa_cons pe_str pa_nil))) pa_nil))) pa_nil)))) 
        (pss_cons (ps_set (i := 8) sc_law.nd rfl (Or.inl rfl) (pe_tup (pa_cons (pe_callB call_len_seq (by rfl) T.len PySem.boot_len (pa_cons (pv 5) pa_nil)) (pa_cons (pe_ix ix_list (pe_lst (pa_cons pe_str (pa_cons pe_str pa_nil))) (pe_callTy (show CallR _ (.type "int") rInt' from call_int1) (by rfl) T.int (by decide +kernel) (pa_cons (pe_cmpR op_in_seq (pe_ix ix_tup (pv 6) pe_int (fun _ _ => rfl)) (pe_lc (own := [("pair", 12)]) (g := gName 12) (tt := tYes) (by rfl) sc_law.nd (pi_tup (pv 5)) (blkOk_by (own := [("pair", 12)]) (N := ["script", "stream", "axes", "grid", "at", "wish", "axis", "wrong", "due", "odd", "name", "members", "pair"]) (sc := defScope s_law) (by decide +kernel)) (fun _ _ _ _ _ => (pg_name (i := 12) sc_law.nd rfl (Or.inl rfl))) (fun _ _ _ _ _ => pts_nil)
          (fun _ _ _ _ _ => (pe_by (E := E0) K (eOp (fIx Rv.asT) (eVar 12) (eC (.int 0))) (l_op s_ixT l_var l_int) (pe_ix ix_tup (pv 12) pe_int (fun _ _ => rfl))))) (by rfl)) pa_nil)) (fun _ _ => rfl)) pa_nil)))) 
        (pss_cons (ps_if (PW.pt (pw_and (PW.pt (pw_or (pt_cmpR op_notIn_seq pe_str (pe_ix ix_tup (pv 6) pe_int (fun _ _ => rfl)) (by rfl)) (pw_or1 (pt_cmpR op_notIn_seq pe_str (pe_ix ix_tup (pv 6) pe_int (fun _ _ => rfl)) (by rfl))))) (pw_and1 (pt_cmpR (op_neD hr.units) (pe_call G_law_summed (hr.mono (by decide)) rfl m_law_summed k_law_summed b_law_summed .nil pass0 (pa_cons (pv 3) (pa_cons (pv 7) pa_nil))) (pv 8) (nomark _))))) 
          (pss_one (ps_ret pe_bl)) pss_nil) 
        (pss_cons (ps_set (i := 9) sc_law.nd rfl (Or.inl rfl) (pe_ix ix_list (pe_lst (pa_cons pe_non (pa_cons pe_str (pa_cons pe_str (pa_cons pe_int (pa_cons (pv 6) (pa_cons (pe_lst (pa_cons (pe_ix ix_tup (pv 6) pe_int (fun _ _ => rfl)) pa_nil)) (pa_cons pe_dnewK (pa_cons pe_str pa_nil))))))))) (pe_call G_law_draw (hr.mono (by decide)) rfl m_law_draw k_law_draw b_law_draw .nil pass0 (pa_cons (pv 1) (pa_cons pe_int pa_nil))) (fun _ _ => rfl))) 
        (pss_cons (ps_if (PW.pt (pw_and (pt_cmpR (op_notInT hr (by decide)) (pv 9) (pe_lc (own := [("name", 10), ("members", 11)]) (g := gTup K 2 (gCons (gName 10) (gCons (gName 11) (gNil)))) (tt := tYes) (by rfl) sc_law.nd (pi_tup (pv 2)) (blkOk_by (own := [("name", 10), ("members", 11)]) (N := ["script", "stream", "axes", "grid", "at", "wish", "axis", "wrong", "due", "odd", "name", "members", "pair"]) (sc := defScope s_law) (by decide +kernel)) (fun _ _ _ _ _ => (pg_tup (by rfl) (pgs_cons (pg_name (i := 10) sc_law.nd rfl (Or.inl rfl)) (pgs_cons (pg_name (i := 11) sc_law.nd rfl (Or.inl rfl)) pgs_nil)))) (fun _ _ _ _ _ => pts_nil)
          (fun _ _ _ _ _ => (pe_by (E := E0) K (eVar 10) l_var (pv 10)))) (by rfl)) (pw_and1 (pt_cmpR (op_neD hr.units) (pe_ix ix_tup (pe_call G_law_parted (hr.mono (by decide)) rfl m_law_parted k_law_parted b_law_parted .nil pass0 (pa_cons (pv 3) (pa_cons (pv 9) (pa_cons (pv 7) pa_nil)))) pe_int (fun _ _ => rfl)) pe_str (nomark _))))) 
          (pss_one (ps_ret pe_bl)) pss_nil) 
        (pss_one (ps_if (PW.pt (pw_or (pt_cmpR (op_neD hr.units) (pe_call G_law_summed (hr.mono (by decide)) rfl m_law_summed k_law_summed b_law_summed .nil pass0 (pa_cons (pv 3) (pa_cons pe_non pa_nil))) (pe_tup (pa_cons (pe_un un_neg pe_int) (pa_cons pe_str pa_nil))) (nomark _)) (pw_or1 (pt_cmpR (op_neD hr.units) (pe_ix ix_tup (pe_call G_law_parted (hr.mono (by decide)) rfl m_law_parted k_law_parted b_law_parted .nil pass0 (pa_cons (pv 3) (pa_cons (pe_ix ix_tup (pv 6) pe_int (fun _ _ => rfl)) (pa_cons pe_int pa_nil)))) pe_int (fun _ _ => rfl)) (pe_tup (pa_cons (pe_un un_neg pe_int) (pa_cons pe_str pa_nil))) (nomark _))))) 
          (pss_one (ps_ret pe_bl)) pss_nil)))))))))))) 
      (pss_one (ps_ret pe_bl)))))))), ?_⟩
  exact d_read0 (n := 1) (N := ["script", "stream", "axes", "grid", "at", "wish", "axis", "wrong", "due", "odd", "name", "members", "pair"]) (w_seq (w_setS (l_call (l_cons l_var (l_cons l_int l_nil)))) (w_seq (w_setD (l_call (l_cons l_var l_nil))) (w_seq (w_setD (l_make pGrid (fun _ _ => .nil) (l_cons l_var l_nil) rfl)) (w_seq (w_if (l_or (l_not (l_B (l_call (l_cons (l_call (l_cons l_var l_nil)) (l_cons l_var (l_cons (l_call (l_cons (l_fld TX l_var) (l_cons (l_eLst l_nil (by decide)) l_nil))) l_nil)))))) (l_not (l_B (l_meth (l_call (l_cons l_var l_nil)) l_nil rfl)))) (w_ret l_bl) w_next) (w_seq (w_for (i_rng2 (l_cons l_int (l_cons (l_N s_2I (l_cons l_int (l_cons (l_N s_2I (l_cons (l_N s_len (l_cons l_var l_nil)) (l_cons l_int l_nil))) l_nil))) l_nil))) g_name (w_seq (w_setS (l_call (l_cons l_var (l_cons l_var l_nil)))) (w_seq (w_setD (l_call (l_cons l_var (l_cons l_var l_nil)))) (w_seq (w_setD (l_op s_ixT l_var (l_call (l_cons l_var (l_cons (l_N s_len (l_cons l_var l_nil)) l_nil))))) (w_seq (w_if (l_or (l_not (l_B (l_call (l_cons l_var (l_cons l_var (l_cons l_var (l_cons l_var (l_cons (l_call (l_cons l_var (l_cons (l_fld TX l_var) l_nil))) l_nil)))))))) (l_not (l_B (l_call (l_cons l_var (l_cons l_var (l_cons l_var l_nil))))))) (w_ret l_bl) w_next) (w_seq (w_setD (l_op s_catA l_var (l_eTup (l_cons (l_eTup (l_cons (l_op s_ixT l_var l_int) (l_cons (l_eTup (l_cons l_str (l_cons l_str l_nil)) (by decide)) l_nil)) (by decide)) l_nil) (by decide)))) (w_seq (w_setD (l_eTup (l_cons (l_N s_len (l_cons l_var l_nil)) (l_cons (l_op s_ixL (l_eLst (l_cons l_str (l_cons l_str l_nil)) (by decide)) (l_N s_int1 (l_cons (l_op s_in (l_op s_ixT l_var l_int) (l_lc (i_tup l_var) g_name (by decide) l_yes (l_op s_ixT l_var l_int))) l_nil))) l_nil)) (by decide))) (w_seq (w_if (l_and (l_or (l_Test (l_op s_in l_str (l_op s_ixT l_var l_int))) (l_Test (l_op s_in l_str (l_op s_ixT l_var l_int)))) (l_Test (l_op s_neD (l_call (l_cons l_var (l_cons l_var l_nil))) l_var))) (w_ret l_bl) w_next) (w_seq (w_setD (l_op s_ixL (l_eLst (l_cons l_non (l_cons l_str (l_cons l_str (l_cons l_int (l_cons l_var (l_cons (l_eLst (l_cons (l_op s_ixT l_var l_int) l_nil) (by decide)) (l_cons l_dnew (l_cons l_str l_nil)))))))) (by decide)) (l_call (l_cons l_var (l_cons l_int l_nil))))) (w_seq (w_if (l_and (l_Test (l_op s_inT l_var (l_lc (i_tup l_var) (g_tup (gs_cons (gs_cons gs_nil)) rfl) (by decide) l_yes l_var))) (l_Test (l_op s_neD (l_op s_ixT (l_call (l_cons l_var (l_cons l_var (l_cons l_var l_nil)))) l_int) l_str))) (w_ret l_bl) w_next) (w_if (l_or (l_Test (l_op s_neD (l_call (l_cons l_var (l_cons l_non l_nil))) (l_eTup (l_cons (l_un s_neg l_int) (l_cons l_str l_nil)) (by decide)))) (l_Test (l_op s_neD (l_op s_ixT (l_call (l_cons l_var (l_cons (l_op s_ixT l_var l_int) (l_cons l_int l_nil)))) l_int) (l_eTup (l_cons (l_un s_neg l_int) (l_cons l_str l_nil)) (by decide))))) (w_ret l_bl) w_next))))))))))) (w_ret l_bl)))))) (by decide) z
end
end DL

set_option linter.all false
set_option maxRecDepth 100000
set_option maxHeartbeats 1000000
/-! the mathematics of mirrors: the smallest defs -/
namespace DL
open PySem L2 He DX DW
/-- the mirrors' words opened -/
macro "mir" : tactic => `(tactic| simp only [sSeq, sSetD, sSetO, sSetS, sIf, sNext, sRet, sRetO, sDrop, sNever, sRetN, eCall0, eN, aCons, aNil, eVar, envOf, fCall, argsOf, Rv.arg, tBl, tNotD, tAndD, tOrD, eAnd, eOr, eNot, eIf, eOp, eC, eUn, eTup, eLst, mTup, mLst, retK, datas, Rv.data, Rv.any, Rv.asT, Rv.asL, Rv.asS, strms,
  fI, fI0, fU, f1I, f2I, fAdd, fSub, fMul, fDiv, fMod, fNeg, fLt, fLe, fGt, fGe, fAbs, fMin, fMax, fDivX, fModX, fPow, fEq, fIsB, fIsC, fLen, fLenS, fInt, mFld, D.sc, Rv.sc, List.map_cons, List.map_nil, List.length_cons, List.length_nil, List.replicate, List.cons_append, List.nil_append, List.getElem?_cons_zero, List.getElem?_cons_succ, List.set_cons_zero, List.set_cons_succ, Nat.reduceAdd, Nat.reduceSub, Nat.sub_zero, Nat.zero_add, Nat.sub_self])
def isInt : D → Bool
  | .int _ => true | _ => false
def NoTy (x : D) : Prop := ∀ z, x ≠ .ty z
theorem w_is_integer {x : D} {Q : KD} {Ed : KX} (n : NoTy x) (h : Q (.d (.bl (isInt x)))) : f_is_integer [.d x] Q Ed := by
  unfold f_is_integer mDef0 m_is_integer
  cases x <;> first | exact absurd rfl (n _) | (simp [sRet, eAnd, eUn, fIsB, eVar, eNot, envOf, retK, Rv.any, isB, D.kd, isObjD, isInt] at h ⊢ <;> exact h)
theorem w_law_is_integer {x : D} {Q : KD} {Ed : KX} (n : NoTy x) (h : Q (.d (.bl (isInt x)))) : f__law_is_integer [.d x] Q Ed := by
  unfold f__law_is_integer mDef0 m__law_is_integer
  cases x <;> first | exact absurd rfl (n _) | (simp [sRet, eAnd, eUn, fIsB, eVar, eNot, envOf, retK, Rv.any, isB, D.kd, isObjD, isInt] at h ⊢ <;> exact h)
theorem gcd_divX {t b : Int} (hb : b ≠ 0) (h : b.natAbs < 2 ^ 8000) : CDivX t ((Nat.gcd t.natAbs b.natAbs : Nat) : Int) ∧ CDivX t (-((Nat.gcd t.natAbs b.natAbs : Nat) : Int)) := by
  have h1 := Rt.gcd_pos (p := t) hb
  have h2 : Nat.gcd t.natAbs b.natAbs ≤ b.natAbs := Nat.gcd_le_right _ (by omega)
  have h3 : (((Nat.gcd t.natAbs b.natAbs : Nat) : Int)).natAbs < 2 ^ 8000 := Nat.lt_of_le_of_lt (by omega) h
  have h4 := PySem.Flt.log2_lt_of (by decide) h3
  refine ⟨⟨by omega, by omega⟩, ⟨by omega, ?_⟩⟩
  rw [Int.natAbs_neg]
  omega
theorem cm_le : cmB ≤ 2 ^ 8000 := Nat.pow_le_pow_right (by decide) (by decide)
def frD (p q : Int) : D := .tup [.int (Rt.nrmT p q), .int (Rt.nrmB p q)]
theorem w_frac {a b : Int} {Q : KD} {Ed : KX} (hb : b ≠ 0) (sz : b.natAbs < cmB) (h : Q (.d (frD a b))) : f__law_frac [.d (.int a), .d (.int b)] Q Ed := by
  unfold f__law_frac mDef0 m__law_frac
  mir
  have ab : ∀ i : Int, (if i < 0 then -i else i) = ((i.natAbs : Nat) : Int) := fun i => by split <;> omega
  obtain ⟨d0, d2⟩ := gcd_divX (t := a) hb (Nat.lt_of_lt_of_le sz cm_le)
  have d1 : CDivX b ((Nat.gcd a.natAbs b.natAbs : Nat) : Int) ∧ CDivX b (-((Nat.gcd a.natAbs b.natAbs : Nat) : Int)) := ⟨d0, d2⟩
  refine ⟨by simp [strms], a.natAbs, b.natAbs, by rw [ab, ab], sz, ?_⟩
  unfold frD Rt.nrmT Rt.nrmB Rt.shr at h
  by_cases c : b < 0
  · have c' : ¬ 0 < b := by omega
    rw [if_neg c'] at h
    dsimp only
    rw [if_pos (decide_eq_true c)]
    exact ⟨d2, d1.2, h⟩
  · have c' : 0 < b := by omega
    rw [if_pos c'] at h
    dsimp only
    rw [if_neg (by simpa using c)]
    exact ⟨d0, d1.1, h⟩
/-- numbers of so many bits -/
def Sb (n : Nat) (x : Int) : Prop := x.natAbs < 2 ^ n
theorem Sb.mul {a b : Nat} {x y : Int} (h : Sb a x) (k : Sb b y) : Sb (a + b) (x * y) := by
  unfold Sb at *
  rw [Int.natAbs_mul, Nat.pow_add]
  exact Nat.mul_lt_mul'' h k
theorem Sb.log {a : Nat} {x : Int} (h : Sb a x) : x.natAbs.log2 ≤ a := by
  by_cases c : x.natAbs = 0
  · rw [c]; simp
  · exact Nat.le_of_lt ((Nat.log2_lt c).mpr h)
theorem Sb.mulW {a b : Nat} {x y : Int} (h : Sb a x) (k : Sb b y) (l : a + b < 1000000) : CMulW x y := by
  have := h.log
  have := k.log
  unfold CMulW
  omega
theorem Sb.cm {a : Nat} {x : Int} (h : Sb a x) (l : a ≤ 4900) : x.natAbs < cmB := Nat.lt_of_lt_of_le h (Nat.pow_le_pow_right (by decide) l)
/-- fractions added, multiplied, as data -/
theorem w_plus {a b c d : Int} {n m : Nat} {Q : KD} {Ed : KX} (hb : b ≠ 0) (hd : d ≠ 0) (sa : Sb n a) (sb : Sb n b) (sc : Sb m c) (sd : Sb m d) (l : n + m ≤ 4900) (h : Q (.d (frD (a * d + c * b) (b * d)))) :
    f__law_plus [.d (.tup [.int a, .int b]), .d (.tup [.int c, .int d])] Q Ed := by
  unfold f__law_plus mDef0 m__law_plus
  mir
  have e : ∀ (x y : D) (i : Nat), i < 2 → True := fun _ _ _ _ => trivial
  simp [fIx, Rv.asT, atI, ixN, strms]
  have bd : b * d ≠ 0 := Int.mul_ne_zero hb hd
  refine ⟨sa.mulW sd (by omega), sc.mulW sb (by omega), sb.mulW sd (by omega), ?_⟩
  exact w_frac bd ((sb.mul sd).cm l) h
theorem w_by {a b c d : Int} {n m : Nat} {Q : KD} {Ed : KX} (hb : b ≠ 0) (hd : d ≠ 0) (sa : Sb n a) (sb : Sb n b) (sc : Sb m c) (sd : Sb m d) (l : n + m ≤ 4900) (h : Q (.d (frD (a * c) (b * d)))) :
    f__law_by [.d (.tup [.int a, .int b]), .d (.tup [.int c, .int d])] Q Ed := by
  unfold f__law_by mDef0 m__law_by
  mir
  simp [fIx, Rv.asT, atI, ixN, strms]
  have bd : b * d ≠ 0 := Int.mul_ne_zero hb hd
  refine ⟨sa.mulW sc (by omega), sb.mulW sd (by omega), ?_⟩
  exact w_frac bd ((sb.mul sd).cm l) h
end DL

set_option linter.all false
set_option maxRecDepth 100000
set_option maxHeartbeats 1000000
namespace DL
open PySem L2 He DX DW
def rD (t b : Int) : D := .obj "Ratio" ["top", "bottom"] [.int t, .int b]
theorem nt_int {i : Int} : NoTy (.int i) := fun _ h => by cases h
theorem w_law_is {t b p q : Int} {Q : KD} {Ed : KX} (h : Q (.d (.bl (decide (t = p) && decide (b = q))))) : f__law_is [.d (rD t b), .d (.tup [.int p, .int q])] Q Ed := by
  unfold f__law_is mDef0 m__law_is rD
  mir
  simp [isC, isObjD, D.kd, look, strms, fIx, Rv.asT, atI, ixN]
  refine w_law_is_integer nt_int ?_
  simp [isInt]
  refine w_law_is_integer nt_int ?_
  simp [isInt]
  refine ⟨rfl, ?_⟩
  by_cases c : t = p
  · rw [if_pos c]
    rw [decide_eq_true c, Bool.true_and] at h
    exact ⟨rfl, h⟩
  · rw [if_neg c]
    rw [decide_eq_false c, Bool.false_and] at h
    exact h
theorem w_law_isF {x : D} {l : List D} {Q : KD} {Ed : KX} (nt : NoTy x) (n : isC "Ratio" x = false) (h : Q (.d (.bl false))) : f__law_is [.d x, .d (.tup l)] Q Ed := by
  unfold f__law_is mDef0 m__law_is
  mir
  cases x <;> simp [n] at n ⊢ <;> first | exact h | exact absurd rfl (nt _) | skip
/-- one draw -/
theorem w_draw {a : Addr} {m : Int} {Q : KD} {Ed : KX} (h0 : 0 < m) (h1 : m.natAbs < 2 ^ 8000) (h : ∀ d : Int, 0 ≤ d → d < m → Q (.d (.int d))) : mDraw [.strm a, .d (.int m)] Q Ed := ⟨a, m, rfl, h0, h1, h⟩
theorem small {m : Int} (h : m.natAbs < 2 ^ 100) : m.natAbs < 2 ^ 8000 := Nat.lt_of_lt_of_le h (Nat.pow_le_pow_right (by decide) (by decide))
theorem w_number {a : Addr} {Q : KD} {Ed : KX} (h : ∀ p q : Int, q ≠ 0 → Sb 60 p → Sb 60 q → Q (.d (frD p q))) : f__law_number [.strm a] Q Ed := by
  unfold f__law_number mDef0 m__law_number
  mir
  simp [strms, fPow, fI]
  refine ⟨⟨by decide, by decide, by decide⟩, fun a1 => w_draw (by decide) (small (by decide)) fun d h0 h1 => ?_⟩
  obtain ⟨s, hs, lo, hi⟩ : ∃ s : Int, atI [D.int 5, D.int 5, D.int 5, D.int 30, D.int 1000000000000] d = some (.int s) ∧ 5 ≤ s ∧ s ≤ 1000000000000 := by
    rcases (show d = 0 ∨ d = 1 ∨ d = 2 ∨ d = 3 ∨ d = 4 by omega) with rfl | rfl | rfl | rfl | rfl <;> exact ⟨_, rfl, by decide, by decide⟩
  simp only [fIx, Rv.asL, hs]
  refine ⟨?_, w_draw (by omega) (small (by omega)) fun t h2 h3 => ?_⟩
  · exact Sb.mulW (a := 2) (b := 50) (by unfold Sb; decide) (by unfold Sb; omega) (by decide)
  dsimp only
  intro a2
  refine w_draw (by decide) (small (by decide)) fun e h4 h5 => ?_
  obtain ⟨u, hu, lo2, hi2⟩ : ∃ u : Int, atI [D.int 1, D.int 1, D.int 4, D.int 12] e = some (.int u) ∧ 1 ≤ u ∧ u ≤ 12 := by
    rcases (show e = 0 ∨ e = 1 ∨ e = 2 ∨ e = 3 by omega) with rfl | rfl | rfl | rfl <;> exact ⟨_, rfl, by decide, by decide⟩
  simp only [fIx, Rv.asL, hu]
  refine ⟨by simp [strms], w_draw (by omega) (small (by omega)) fun b h6 h7 => ?_⟩
  dsimp only
  have s1 : Sb 60 (t - s) := by unfold Sb; omega
  have s2 : Sb 60 (1 + b) := by unfold Sb; omega
  exact w_frac (by omega) (s2.cm (by decide)) (h _ _ (by omega) s1 s2)
end DL

set_option linter.all false
set_option maxRecDepth 100000
set_option maxHeartbeats 1000000
/-! comprehensions and loops over mirrors -/
namespace DL
open PySem L2 He DX DW
inductive F2 (P : D → D → Prop) : List D → List D → Prop
  | nil : F2 P [] []
  | cons {x y : D} {l m : List D} : P x y → F2 P l m → F2 P (x :: l) (y :: m)
/-- [e for x in l]: each item's value is one of those that P tells -/
theorem lcD_yes {i : Nat} {me : ME} {ρ : Env} {Kc : List D → Prop} {P : D → D → Prop} : ∀ (l : List D) (out : List D), (∀ x ∈ l, ∀ (Q : KD), (∀ y, P x y → Q (.d y)) → me (ρ.set i (some (.d x))) Q (fun _ => False)) →
    out.length + l.length < 1000000 → (∀ ys, F2 P l ys → Kc (out ++ ys)) → lcD (gSet i) tYesD me ρ Kc l out
  | [], out, _, _, k => by
    have := k [] .nil
    rw [List.append_nil] at this
    exact this
  | x :: l, out, he, sz, k => by
    unfold lcD gSet tYesD
    rw [List.length_cons] at sz
    simp only [if_true]
    refine he x List.mem_cons_self _ fun y py => ⟨by omega, ?_⟩
    refine lcD_yes l (out ++ [y]) (fun z hz => he z (List.mem_cons_of_mem _ hz)) (by rw [List.length_append, List.length_singleton]; omega) fun ys hy => ?_
    have := k (y :: ys) (.cons py hy)
    rw [List.append_assoc]
    exact this
theorem upInts_len (lo : Int) (n : Nat) : (upInts lo n).length = n := by unfold upInts; rw [List.length_map, List.length_range]
theorem f2_all {P : D → Prop} : ∀ {l m : List D}, F2 (fun _ y => P y) l m → m.length = l.length ∧ ∀ y ∈ m, P y
  | _, _, .nil => ⟨rfl, fun _ h => by cases h⟩
  | _, _, .cons h t => by
    obtain ⟨a, b⟩ := f2_all t
    refine ⟨congrArg Nat.succ a, fun y hy => ?_⟩
    rcases List.mem_cons.mp hy with rfl | hy
    · exact h
    · exact b y hy
/-- a fraction in lowest terms of a number drawn -/
def Drawn (y : D) : Prop := ∃ p q : Int, q ≠ 0 ∧ Sb 60 p ∧ Sb 60 q ∧ y = frD p q
theorem w_weights {a : Addr} {n : Nat} {Q : KD} {Ed : KX} (hn : n ≤ 1000) (h : ∀ b l, l.length = n → (∀ y ∈ l, Drawn y) → Q (.new b l)) : f__law_weights [.strm a, .d (.int (n : Nat))] Q Ed := by
  unfold f__law_weights mDef0 m__law_weights
  mir
  simp only [eLc, itR1]
  mir
  refine ⟨⟨by omega, by omega⟩, fun i hi => by simp only [List.mem_singleton] at hi; subst hi; simp, fun b => ?_⟩
  refine lcD_yes (P := fun _ y => Drawn y) _ [] (fun x _ Q hQ => ?_) (by rw [upInts_len]; simp; omega) fun ys hy => ?_
  · mir
    simp [wipeD, strms]
    exact w_number fun p q hq sp sq => hQ _ ⟨p, q, hq, sp, sq, rfl⟩
  · obtain ⟨e, all⟩ := f2_all hy
    refine h b ([] ++ ys) ?_ fun y hy => all y (by simpa using hy)
    rw [List.nil_append, e, upInts_len]
    simp
end DL

set_option linter.all false
set_option maxRecDepth 100000
set_option maxHeartbeats 1000000
/-! loops over mirrors -/
namespace DL
open PySem L2 He DX DW
/-- for x in l: what holds ahead of turn k holds, with k + 1, behind it -/
theorem forD_inv {tg : MG} {body : MS} {M : ED} (I : Nat → Env → Prop) : ∀ (l : List D) (k : Nat) (ρ : Env), I k ρ →
    (∀ (j : Nat) x ρ (N : ED), l[j]? = some x → I (k + j) ρ → N.rt = M.rt → N.ex = M.ex → N.bk = M.nx → (∀ ρ', I (k + j + 1) ρ' → N.nx ρ') → (∀ ρ', I (k + j + 1) ρ' → N.ct ρ') → tg x ρ fun ρ1 => body ρ1 N) →
    (∀ ρ', I (k + l.length) ρ' → M.nx ρ') → forD tg body M l ρ
  | [], k, ρ, h, _, e => e ρ h
  | x :: l, k, ρ, h, s, e => by
    have go : ∀ ρ', I (k + 1) ρ' → forD tg body M l ρ' := fun ρ' h' => forD_inv I l (k + 1) ρ' h' (fun j y σ N hy hi r1 r2 r3 n1 n2 => s (j + 1) y σ N (by rw [List.getElem?_cons_succ]; exact hy) (by rw [show k + (j + 1) = k + 1 + j by omega]; exact hi) r1 r2 r3
      (fun ρ'' h'' => n1 ρ'' (by rw [show k + 1 + j + 1 = k + (j + 1) + 1 by omega]; exact h'')) (fun ρ'' h'' => n2 ρ'' (by rw [show k + 1 + j + 1 = k + (j + 1) + 1 by omega]; exact h''))) fun σ hσ => e σ (by rw [List.length_cons, show k + (l.length + 1) = k + 1 + l.length by omega]; exact hσ)
    exact s 0 x ρ _ rfl h rfl rfl rfl go go
theorem upInts_at {lo : Int} {n j : Nat} {x : D} (h : (upInts lo n)[j]? = some x) : j < n ∧ x = .int (lo + (j : Nat)) := by
  have hj := (List.getElem?_eq_some_iff.mp h).1
  rw [upInts_len] at hj
  unfold upInts at h
  rw [List.getElem?_map, List.getElem?_range hj] at h
  cases h
  exact ⟨hj, rfl⟩
/-- the answer of weights for amounts, as fractions; some pair that stands for it -/
def FrS (n : Nat) (y : D) : Prop := ∃ p q : Int, q ≠ 0 ∧ Sb n p ∧ Sb n q ∧ y = .tup [.int p, .int q]
end DL

set_option linter.all false
set_option maxRecDepth 100000
set_option maxHeartbeats 1000000
/-! ratios made -/
namespace DL
open PySem L2 He DX DW
theorem w_ratio {t b : Int} {Qd : List String → List D → Prop} {Ed : KX} (hb : b ≠ 0) (sz : b.natAbs < 2 ^ 8000) (h : Qd ["top", "bottom"] [.int (Rt.nrmT t b), .int (Rt.nrmB t b)]) : f_Ratio_x___init__ [.d (.int t), .d (.int b)] Qd Ed := by
  unfold f_Ratio_x___init__ mInit m_Ratio_x___init__
  intro x
  mir
  simp only [strms, List.nodup_nil, true_and]
  refine w_is_integer nt_int ?_
  dsimp only [isInt]
  rw [if_neg (by simp)]
  refine ⟨rfl, ?_⟩
  have nb : (false ^^ decide (V.int b = V.int 0)) = false := by
    rw [Bool.false_xor]
    exact decide_eq_false fun z => hb (V.int.inj z)
  rw [nb, if_neg (by simp)]
  obtain ⟨d1, d2⟩ := gcd_divX (t := t) hb sz
  unfold Rt.nrmT Rt.nrmB Rt.shr at h
  by_cases c : 0 < b
  · rw [if_pos (decide_eq_true c)]
    rw [if_pos c] at h
    simp [sFldD, eOp, eVar, fI, Rv.data, fldsOf, f_gcd, f2I]
    exact ⟨d1, d1, h⟩
  · rw [if_neg (by simpa using c)]
    rw [if_neg c] at h
    simp [sFldD, eOp, eVar, fI, Rv.data, fldsOf, f_gcd, f2I, eN, eUn, fNeg, fU, aCons, aNil]
    exact ⟨d2, d2, h⟩
/-- a number, a ratio or an integer, as a ratio -/
theorem w_number_r {t b : Int} {Q : KD} {Ed : KX} (h : Q (.d (.bl true))) : f_is_number [.d (rD t b)] Q Ed := by
  unfold f_is_number mDef0 m_is_number rD
  mir
  simp [isC, isObjD, D.kd]
  exact h
theorem w_as_ratio {t b : Int} {Q : KD} {Ed : KX} (h : Q (.d (rD t b))) : f_as_ratio [.d (rD t b)] Q Ed := by
  unfold f_as_ratio mDef m_as_ratio
  mir
  simp [isC, isObjD, D.kd, rD]
  exact h
theorem nrm1 (i : Int) : Rt.nrmT i 1 = i ∧ Rt.nrmB i 1 = 1 := by
  unfold Rt.nrmT Rt.nrmB Rt.shr
  simp
theorem w_as_ratioI {i : Int} {Q : KD} {Ed : KX} (h : Q (.d (rD i 1))) : f_as_ratio [.d (.int i)] Q Ed := by
  unfold f_as_ratio mDef m_as_ratio
  mir
  simp [isC, isObjD, D.kd, fMake, argsOf, Rv.arg, strms]
  refine w_ratio (by decide) (by decide) ?_
  rw [(nrm1 i).1, (nrm1 i).2]
  exact ⟨by decide, h⟩
end DL

set_option linter.all false
set_option maxRecDepth 100000
set_option maxHeartbeats 1000000
/-! questions made -/
namespace DL
open PySem L2 He DX DW
def gD (ax ce : D) (n : Nat) : D := .obj "Grid" ["axes", "cells", "size"] [ax, ce, .int (n : Int)]
def qD (g : D) (ws : List D) : D := .obj "Question" ["grid", "weights"] [g, .tup ws]
/-- a number: an integer or a ratio -/
inductive Num : D → D → Prop
  | int (i : Int) : Num (.int i) (rD i 1)
  | rat (t b : Int) : Num (rD t b) (rD t b)
theorem w_is_num {x y : D} (n : Num x y) {Q : KD} {Ed : KX} (h : Q (.d (.bl true))) : f_is_number [.d x] Q Ed := by
  cases n with
  | int i =>
    unfold f_is_number mDef0 m_is_number
    mir
    simp [isC, isObjD, D.kd]
    exact w_is_integer nt_int h
  | rat t b => exact w_number_r h
theorem w_as_num {x y : D} (n : Num x y) {Q : KD} {Ed : KX} (h : Q (.d y)) : f_as_ratio [.d x] Q Ed := by
  cases n with
  | int i => exact w_as_ratioI h
  | rat t b => exact w_as_ratio h
theorem w_seqL {l : List D} {Q : KD} {Ed : KX} (h : Q (.d (.bl true))) : f_is_sequence [.d (.lst l)] Q Ed := by
  unfold f_is_sequence mDef0 m_is_sequence
  mir
  simp [isB, isObjD, D.kd]
  exact h
theorem f2_const {P : D → D → Prop} {c : D} (hc : ∀ x y, P x y → y = c) : ∀ {l m : List D}, F2 P l m → m = List.replicate l.length c
  | _, _, .nil => rfl
  | _, _, .cons h t => by
    rw [f2_const hc t, hc _ _ h]
    rfl
theorem bools_rep (n : Nat) : bools (List.replicate n (D.bl true)) = some (List.replicate n true) := by
  induction n with
  | zero => rfl
  | succ n ih => simp [List.replicate_succ, bools, ih]
theorem f2_mem {P : D → D → Prop} : ∀ {l m : List D}, F2 P l m → ∀ x ∈ l, ∃ y, P x y
  | _, _, .nil => fun x hx => by cases hx
  | _, _, .cons p t => fun x hx => by
    rcases List.mem_cons.mp hx with rfl | hx
    · exact ⟨_, p⟩
    · exact f2_mem t x hx
theorem w_amounts {ax ce : D} {n : Nat} {l ys : List D} {Q : KD} {Ed : KX} (hl : l.length = n) (hn : n ≤ 1000) (al : F2 Num l ys) (h : Q (.d (.bl true))) : f_are_amounts [.d (gD ax ce n), .d (.lst l)] Q Ed := by
  unfold f_are_amounts mDef0 m_are_amounts gD
  mir
  refine ⟨by simp, w_seqL ?_⟩
  dsimp only
  rw [if_neg (by simp)]
  simp only [look, eLc, itQ, eVar, List.getElem?_cons_zero, List.getElem?_cons_succ]
  rw [if_neg (by decide), if_neg (by decide), if_pos trivial]
  dsimp only
  have e : (true ^^ decide (V.int (l.length : Int) = V.int (n : Int))) = false := by rw [hl]; simp
  refine ⟨rfl, ?_⟩
  rw [e, if_neg (by simp)]
  refine ⟨fun i hi => by simp only [List.mem_singleton] at hi; subst hi; simp, fun a => ?_⟩
  have inN := f2_mem al
  refine lcD_yes (P := fun _ y => y = D.bl true) _ [] (fun x hx Q hQ => ?_) (by simp; omega) fun zs hz => ?_
  · obtain ⟨y, hy⟩ := inN x hx
    simp [eCall0, aCons, aNil, eVar, wipeD, argsOf, Rv.arg, fCall, strms]
    exact w_is_num hy (hQ _ rfl)
  · rw [List.nil_append, f2_const (fun _ _ z => z) hz]
    unfold fAll fBs
    simp [Rv.asL, bools_rep, retK]
    exact h
end DL

set_option linter.all false
set_option maxRecDepth 100000
set_option maxHeartbeats 1000000
namespace DL
open PySem L2 He DX DW
theorem f2_one {P : D → D → Prop} (one : ∀ x y z, P x y → P x z → y = z) : ∀ {l m k : List D}, F2 P l m → F2 P l k → m = k
  | _, _, _, .nil, .nil => rfl
  | _, _, _, .cons a t, .cons b u => by rw [one _ _ _ a b, f2_one one t u]
theorem num_one (x y z : D) (a : Num x y) (b : Num x z) : y = z := by
  cases a with
  | int i => cases b; rfl
  | rat t b' =>
    cases b with
    | rat p q => rfl
theorem w_question {ax ce : D} {n : Nat} {l ys : List D} {Qd : List String → List D → Prop} {Ed : KX} (hl : l.length = n) (hn : n ≤ 1000) (al : F2 Num l ys) (h : Qd ["grid", "weights"] [gD ax ce n, .tup ys]) :
    f_Question_x___init__ [.d (gD ax ce n), .d (.lst l)] Qd Ed := by
  unfold f_Question_x___init__ mInit m_Question_x___init__
  intro x
  mir
  have ic : isC "Grid" (gD ax ce n) = true := by simp [isC, isObjD, D.kd, gD]
  simp only [gD] at ic ⊢
  rw [ic]
  rw [if_neg (by simp)]
  refine ⟨by simp [strms], ?_⟩
  refine w_amounts hl hn al ?_
  dsimp only
  rw [if_neg (by simp)]
  simp only [sFldD, eVar, Rv.data, eN, aCons, aNil, eLc, itQ, fTuple, Rv.asS, List.getElem?_cons_zero, List.getElem?_cons_succ, List.set_cons_zero]
  refine ⟨rfl, by decide, by decide, fun i hi => by simp only [List.mem_singleton] at hi; subst hi; simp, fun a => ?_⟩
  refine lcD_yes (P := Num) _ [] (fun x hx Q hQ => ?_) (by simp; omega) fun zs hz => ?_
  · obtain ⟨y, hy⟩ := f2_mem al x hx
    simp [eCall0, aCons, aNil, eVar, wipeD, argsOf, Rv.arg, fCall, strms]
    exact w_as_num hy (hQ _ hy)
  · rw [List.nil_append, f2_one num_one hz al]
    exact ⟨by decide, by decide, by decide, trivial, trivial, h⟩
end DL

set_option linter.all false
set_option maxRecDepth 100000
set_option maxHeartbeats 1000000
/-! sums over places -/
namespace DL
open PySem L2 He DX DW
def natsD (ps : List Nat) : List D := ps.map fun (p : Nat) => D.int (p : Int)
def oneI (ps : List Nat) (i : Nat) : Int := if i ∈ ps then 1 else 0
theorem scs_nats (ps : List Nat) : scs (natsD ps) = some (ps.map fun (p : Nat) => V.int (p : Int)) := by
  induction ps with
  | nil => rfl
  | cons p ps ih =>
    unfold natsD at ih ⊢
    simp [scs, D.sc, ih]
theorem inV_nats (ps : List Nat) (i : Nat) : inV (V.int (i : Int)) (ps.map fun (p : Nat) => V.int (p : Int)) = decide (i ∈ ps) := by
  unfold inV
  rw [List.any_map]
  induction ps with
  | nil => simp
  | cons p ps ih =>
    rw [List.any_cons, ih]
    by_cases c : i = p
    · subst c
      simp [eqV]
    · have : ¬ p = i := fun z => c z.symm
      have n2 : ¬ ((p : Nat) : Int) = (i : Int) := fun z => this (by exact_mod_cast z)
      simp [eqV, c, n2]
theorem f2_map {P : D → D → Prop} {α : Type} {f g : α → D} (h : ∀ a, P (f a) (g a)) : ∀ l : List α, F2 P (l.map f) (l.map g)
  | [] => .nil
  | a :: l => .cons (h a) (f2_map h l)
/-- the weights of a sum over places, as ratios -/
def onesR (n : Nat) (ps : List Nat) : List D := (List.range n).map fun i => rD (oneI ps i) 1
theorem w_sum_over {ax ce : D} {n : Nat} {ps : List Nat} {Q : KD} {Ed : KX} (hn : n ≤ 1000) (h : Q (.d (qD (gD ax ce n) (onesR n ps)))) : f_sum_over [.d (gD ax ce n), .d (.tup (natsD ps))] Q Ed := by
  unfold f_sum_over mDef m_sum_over
  mir
  simp only [gD, eLc, itR1]
  mir
  simp only [look]
  rw [if_neg (by decide), if_neg (by decide), if_pos trivial]
  dsimp only
  refine ⟨⟨by omega, by omega⟩, fun i hi => by simp only [List.mem_singleton] at hi; subst hi; simp, fun a => ?_⟩
  refine lcD_yes (P := fun x y => ∃ i : Nat, x = .int (i : Int) ∧ y = .int (oneI ps i)) _ [] (fun x hx Q hQ => ?_) (by rw [upInts_len]; simp; omega) fun zs hz => ?_
  · obtain ⟨i, hi, rfl⟩ : ∃ i : Nat, i < n ∧ x = .int (i : Int) := by
      obtain ⟨j, hj⟩ := List.mem_iff_getElem?.mp hx
      obtain ⟨h1, h2⟩ := upInts_at hj
      exact ⟨j, by simpa using h1, by simpa using h2⟩
    mir
    simp [wipeD, fIn, Rv.sc, D.sc, Rv.asS, scs_nats, inV_nats]
    have := hQ (.int (oneI ps i)) ⟨i, rfl, rfl⟩
    unfold oneI at this
    by_cases c : i ∈ ps
    · rw [if_pos c] at this ⊢; exact this
    · rw [if_neg c] at this ⊢; exact this
  · rw [List.nil_append]
    have e : zs = (List.range n).map fun i => D.int (oneI ps i) := by
      refine f2_one (P := fun x y => ∃ i : Nat, x = .int (i : Int) ∧ y = .int (oneI ps i)) (fun x y z => ?_) hz ?_
      · rintro ⟨i, rfl, rfl⟩ ⟨j, e, rfl⟩
        cases e
        rfl
      · unfold upInts
        simp only [Int.zero_add]
        exact f2_map (fun i => ⟨i, rfl, rfl⟩) _
    subst e
    simp only [fMake, argsOf, Rv.arg, List.map_nil, List.append_nil]
    refine ⟨by simp [strms], ?_⟩
    refine w_question (ys := onesR n ps) (by simp) hn (f2_map (fun i => .int _) _) ?_
    exact ⟨by decide, h⟩
theorem w_nothing_of {ax ce : D} {n : Nat} {Q : KD} {Ed : KX} (hn : n ≤ 1000) (h : Q (.d (qD (gD ax ce n) (onesR n [])))) : f_nothing_of [.d (gD ax ce n)] Q Ed := by
  unfold f_nothing_of mDef m_nothing_of
  mir
  refine ⟨by simp [strms], ?_⟩
  exact w_sum_over (ps := []) hn h
end DL

/-! plain mathematics of cells and wishes -/
set_option linter.all false
namespace PX
section
variable {α : Type} [DecidableEq α]
abbrev Pr (α : Type) := α × List α
def grow (cs : List (List α)) (ms : List α) : List (List α) := cs.flatMap fun c => ms.map fun m => c ++ [m]
def cellsF (cs : List (List α)) (as : List (Pr α)) : List (List α) := as.foldl (fun cs a => grow cs a.2) cs
def cellsL (as : List (Pr α)) : List (List α) := cellsF [[]] as
def names (as : List (Pr α)) : List α := as.map (·.1)
/-- one member for each axis -/
inductive At : List α → List (Pr α) → Prop
  | nil : At [] []
  | cons {m : α} {c : List α} {a : Pr α} {as : List (Pr α)} : m ∈ a.2 → At c as → At (m :: c) (a :: as)
theorem mem_grow {cs : List (List α)} {ms c : List α} : c ∈ grow cs ms ↔ ∃ d ∈ cs, ∃ m ∈ ms, c = d ++ [m] := by
  unfold grow
  simp only [List.mem_flatMap, List.mem_map, eq_comm]
theorem mem_cellsF : ∀ (as : List (Pr α)) (cs : List (List α)) (c : List α), c ∈ cellsF cs as ↔ ∃ d ∈ cs, ∃ t, At t as ∧ c = d ++ t
  | [], cs, c => by
    unfold cellsF
    constructor
    · intro h
      exact ⟨c, h, [], .nil, by simp⟩
    · rintro ⟨d, hd, t, ht, rfl⟩
      cases ht
      simpa using hd
  | a :: as, cs, c => by
    have ih := mem_cellsF as (grow cs a.2) c
    rw [show cellsF cs (a :: as) = cellsF (grow cs a.2) as from rfl, ih]
    constructor
    · rintro ⟨d, hd, t, ht, rfl⟩
      obtain ⟨e, he, m, hm, rfl⟩ := mem_grow.mp hd
      exact ⟨e, he, m :: t, .cons hm ht, by simp⟩
    · rintro ⟨d, hd, t, ht, rfl⟩
      cases ht with
      | cons hm ht => exact ⟨d ++ [_], mem_grow.mpr ⟨d, hd, _, hm, rfl⟩, _, ht, by simp⟩
theorem mem_cells {as : List (Pr α)} {c : List α} : c ∈ cellsL as ↔ At c as := by
  unfold cellsL
  rw [mem_cellsF]
  simp
theorem At.len : ∀ {c : List α} {as : List (Pr α)}, At c as → c.length = as.length
  | _, _, .nil => rfl
  | _, _, .cons _ t => congrArg Nat.succ t.len
theorem At.get : ∀ {c : List α} {as : List (Pr α)}, At c as → ∀ {i : Nat} {a : Pr α}, as[i]? = some a → ∃ m, c[i]? = some m ∧ m ∈ a.2
  | _, _, .nil, i, a, h => by simp at h
  | _, _, .cons hm t, 0, a, h => by
    simp only [List.getElem?_cons_zero, Option.some.injEq] at h
    subst h
    exact ⟨_, rfl, hm⟩
  | _, _, .cons hm t, i + 1, a, h => by
    simp only [List.getElem?_cons_succ] at h ⊢
    exact t.get h
theorem grow_len (cs : List (List α)) (ms : List α) : (grow cs ms).length = cs.length * ms.length := by
  unfold grow
  induction cs with
  | nil => simp
  | cons c cs ih => simp [ih, Nat.succ_mul, Nat.add_comm]
theorem cellsF_len : ∀ (as : List (Pr α)) (cs : List (List α)), (cellsF cs as).length = as.foldl (fun n a => n * a.2.length) cs.length
  | [], _ => rfl
  | a :: as, cs => by
    rw [show cellsF cs (a :: as) = cellsF (grow cs a.2) as from rfl, cellsF_len as, grow_len]
    rfl
theorem cellsL_len (as : List (Pr α)) : (cellsL as).length = as.foldl (fun n a => n * a.2.length) 1 := by
  unfold cellsL
  rw [cellsF_len]
  rfl
/-- a cell has one of the members of a pair -/
def fit1 (as : List (Pr α)) (c : List α) (w : Pr α) : Bool := match c[(names as).idxOf w.1]? with
  | some m => decide (m ∈ w.2)
  | none => false
def fits (as ws : List (Pr α)) (c : List α) : Bool := ws.all (fit1 as c)
def inReg (as ws : List (Pr α)) (i : Nat) : Bool := match (cellsL as)[i]? with
  | some c => fits as ws c
  | none => false
def region (as ws : List (Pr α)) : List Nat := (List.range (cellsL as).length).filter (inReg as ws)
theorem inReg_lt {as ws : List (Pr α)} {i : Nat} (h : inReg as ws i = true) : i < (cellsL as).length := by
  unfold inReg at h
  split at h
  · rename_i c e
    exact (List.getElem?_eq_some_iff.mp e).1
  · cases h
theorem mem_region {as ws : List (Pr α)} {i : Nat} : i ∈ region as ws ↔ inReg as ws i = true := by
  unfold region
  rw [List.mem_filter, List.mem_range]
  exact ⟨fun h => h.2, fun h => ⟨inReg_lt h, h⟩⟩
theorem fits_append (as ws vs : List (Pr α)) (c : List α) : fits as (ws ++ vs) c = (fits as ws c && fits as vs c) := by
  unfold fits
  rw [List.all_append]
theorem inReg_append (as ws vs : List (Pr α)) (i : Nat) : inReg as (ws ++ vs) i = (inReg as ws i && inReg as vs i) := by
  unfold inReg
  cases (cellsL as)[i]? with
  | none => rfl
  | some c => exact fits_append as ws vs c
theorem inReg_nil (as : List (Pr α)) {i : Nat} (h : i < (cellsL as).length) : inReg as [] i = true := by
  unfold inReg
  rw [List.getElem?_eq_getElem h]
  rfl
/-- a pair's axis is one of the grid's -/
theorem idx_at {as : List (Pr α)} {n : α} (h : n ∈ names as) : ∃ a, as[(names as).idxOf n]? = some a ∧ a.1 = n := by
  have hi : (names as).idxOf n < (names as).length := List.idxOf_lt_length_iff.mpr h
  have e : (names as)[(names as).idxOf n]? = some n := by
    rw [List.getElem?_eq_getElem hi, List.getElem_idxOf hi]
  unfold names at e hi
  rw [List.getElem?_map] at e
  unfold names
  cases q : as[(as.map (·.1)).idxOf n]? with
  | none => rw [q] at e; cases e
  | some a => rw [q] at e; cases e; exact ⟨a, rfl, rfl⟩
theorem idx_of {as : List (Pr α)} (nd : (names as).Nodup) {i : Nat} {a : Pr α} (h : as[i]? = some a) : (names as).idxOf a.1 = i := by
  have e : (names as)[i]? = some a.1 := by
    unfold names
    rw [List.getElem?_map, h]
    rfl
  have hi : i < (names as).length := (List.getElem?_eq_some_iff.mp e).1
  have ha : a.1 ∈ names as := List.mem_of_getElem? e
  have h2 : (names as).idxOf a.1 < (names as).length := List.idxOf_lt_length_iff.mpr ha
  have e2 : (names as)[(names as).idxOf a.1]? = some a.1 := by rw [List.getElem?_eq_getElem h2, List.getElem_idxOf h2]
  exact (List.getElem?_inj h2 nd).mp (e2.trans e.symm)
/-- a pair that has all members of its axis leaves nothing out -/
theorem fit1_all {as : List (Pr α)} {c : List α} {w : Pr α} (hc : At c as) (hn : w.1 ∈ names as) (all : ∀ a ∈ as, a.1 = w.1 → ∀ m ∈ a.2, m ∈ w.2) : fit1 as c w = true := by
  obtain ⟨a, ha, e⟩ := idx_at hn
  obtain ⟨m, hm, hin⟩ := hc.get ha
  unfold fit1
  rw [hm]
  exact decide_eq_true (all a (List.mem_of_getElem? ha) e m hin)
theorem fit1_none {as : List (Pr α)} {c : List α} {n : α} (hc : At c as) (hn : n ∈ names as) : fit1 as c (n, []) = false := by
  obtain ⟨a, ha, e⟩ := idx_at hn
  obtain ⟨m, hm, hin⟩ := hc.get ha
  unfold fit1
  rw [hm]
  simp
/-- the pair's members put into two lots -/
theorem fit1_split {as : List (Pr α)} {c : List α} {n : α} (hc : At c as) (hn : n ∈ names as) (ms ks : List α) : fit1 as c (n, ms ++ ks) = (fit1 as c (n, ms) || fit1 as c (n, ks)) := by
  obtain ⟨a, ha, e⟩ := idx_at hn
  obtain ⟨m, hm, hin⟩ := hc.get ha
  unfold fit1
  rw [hm]
  simp [List.mem_append]
theorem fit1_apart {as : List (Pr α)} {c : List α} {n : α} {ms ks : List α} (d : ∀ m ∈ ms, m ∉ ks) (h : fit1 as c (n, ms) = true) : fit1 as c (n, ks) = false := by
  unfold fit1 at h ⊢
  split at h
  · rename_i m e
    rw [e]
    exact decide_eq_false (d m (of_decide_eq_true h))
  · cases h
theorem inReg_at {as ws : List (Pr α)} {i : Nat} {c : List α} (h : (cellsL as)[i]? = some c) : inReg as ws i = fits as ws c := by
  unfold inReg
  rw [h]
/-! as the program goes about it: by a dict -/
def lk (ws : List (Pr α)) (n : α) : Option (List α) := match ws with
  | [] => none
  | w :: ws => if w.1 = n then some w.2 else lk ws n
theorem lk_some : ∀ {ws : List (Pr α)} {n : α} {ms : List α}, lk ws n = some ms → (n, ms) ∈ ws
  | [], _, _, h => by cases h
  | w :: ws, n, ms, h => by
    unfold lk at h
    split at h
    · rename_i e
      cases h
      rw [← e]
      exact List.mem_cons_self
    · exact List.mem_cons_of_mem _ (lk_some h)
theorem lk_none : ∀ {ws : List (Pr α)} {n : α}, lk ws n = none → n ∉ names ws
  | [], _, _ => by simp [names]
  | w :: ws, n, h => by
    unfold lk at h
    split at h
    · cases h
    · rename_i e
      intro z
      rcases List.mem_cons.mp z with z | z
      · exact e z.symm
      · exact lk_none h z
theorem lk_mem {ws : List (Pr α)} (nd : (names ws).Nodup) {w : Pr α} (h : w ∈ ws) : lk ws w.1 = some w.2 := by
  induction ws with
  | nil => cases h
  | cons v vs ih =>
    unfold names at nd
    rw [List.map_cons, List.nodup_cons] at nd
    rcases List.mem_cons.mp h with rfl | h
    · unfold lk; rw [if_pos rfl]
    · unfold lk
      rw [if_neg (fun z => nd.1 (by rw [z]; exact List.mem_map_of_mem h))]
      exact ih nd.2 h
def fitP (ws : List (Pr α)) (n m : α) : Bool := match lk ws n with
  | some ms => decide (m ∈ ms)
  | none => true
def fitsP (as ws : List (Pr α)) (c : List α) : Bool := (as.zip c).all fun p => fitP ws p.1.1 p.2
theorem fitsP_eq {as ws : List (Pr α)} {c : List α} (nd : (names as).Nodup) (nw : (names ws).Nodup) (sub : ∀ w ∈ ws, w.1 ∈ names as) (hc : At c as) : fitsP as ws c = fits as ws c := by
  rw [Bool.eq_iff_iff]
  unfold fitsP fits
  rw [List.all_eq_true, List.all_eq_true]
  constructor
  · intro h w hw
    obtain ⟨a, ha, e⟩ := idx_at (sub w hw)
    obtain ⟨m, hm, hin⟩ := hc.get ha
    have hz : (as.zip c)[(names as).idxOf w.1]? = some (a, m) := by
      rw [List.getElem?_zip_eq_some]
      exact ⟨ha, hm⟩
    have := h _ (List.mem_of_getElem? hz)
    unfold fitP at this
    rw [e, lk_mem nw hw] at this
    unfold fit1
    rw [hm]
    exact this
  · rintro hp ⟨a, m⟩ h
    obtain ⟨i, hi⟩ := List.mem_iff_getElem?.mp h
    rw [List.getElem?_zip_eq_some] at hi
    unfold fitP
    split
    · rename_i ms e
      have := hp _ (lk_some e)
      unfold fit1 at this
      rw [show ((a.1, ms) : Pr α).1 = a.1 from rfl, idx_of nd hi.1, hi.2] at this
      exact this
    · rfl
end
end PX

set_option linter.all false
set_option maxRecDepth 100000
set_option maxHeartbeats 1000000
/-! comprehensions whose items are known; texts, names -/
namespace DL
open PySem L2 He DX DW
theorem atI_k {α : Type} {xs : List α} {d : Int} {j : Nat} {v : α} (e : d = (j : Int)) (h : xs[j]? = some v) : atI xs d = some v := by
  subst e
  exact atI_nat h
theorem atI_0 {α : Type} (x : α) (l : List α) : atI (x :: l) 0 = some x := atI_k (j := 0) rfl rfl
theorem atI_1 {α : Type} (x y : α) (l : List α) : atI (x :: y :: l) 1 = some y := atI_k (j := 1) rfl rfl
theorem atI_2 {α : Type} (x y z : α) (l : List α) : atI (x :: y :: z :: l) 2 = some z := atI_k (j := 2) rfl rfl
/-- the mirrors' words opened, with calls' ends -/
macro "mi" : tactic => `(tactic| try simp only [sSeq, sSetD, sSetO, sSetS, sIf, sNext, sRet, sRetO, sDrop, sNever, sRetN, eCall0, eN, aCons, aNil, eVar, envOf, fCall, argsOf, Rv.arg, tBl, tNotD, tAndD, tOrD, eAnd, eOr, eNot, eIf, eOp, eC, eUn, eTup, eLst, mTup, mLst, retK, datas, Rv.data, Rv.any, Rv.asT, Rv.asL, Rv.asS, strms, List.nodup_nil, true_and, and_true,
  fI, fI0, fU, f1I, f2I, fAdd, fSub, fMul, fDiv, fMod, fNeg, fLt, fLe, fGt, fGe, fAbs, fMin, fMax, fDivX, fModX, fPow, fEq, fIsB, fIsC, fLen, fLenS, fInt, mFld, D.sc, Rv.sc, List.map_cons, List.map_nil, List.length_cons, List.length_nil, List.replicate, List.cons_append, List.nil_append, List.append_nil, List.getElem?_cons_zero, List.getElem?_cons_succ, List.set_cons_zero, List.set_cons_succ, Nat.reduceAdd, Nat.reduceSub, Nat.sub_zero, Nat.zero_add, Nat.sub_self,
  eLc, itR1, itR2, itS, itT, itQ, itStr, itZip, itEnumerate, wipeD, gSet, sFor, sApp, sRev, sAsg, sSetI, sRaise0, sRaise, Bool.false_xor, Bool.true_xor, if_true, Bool.false_eq_true, if_false, Bool.not_true, Bool.not_false, eIsN, eNotN, isNon, eChain, fMake, eMake0, eMeth0, eMethX, eFldS, sFldD, fIx, fTuple, fList, fOpS, fOpI, fOpR, fUnO, fCmpO, fNeO, notK, eDNew, eDIn, eDGet, dVal, dOwn, dkey, sDNew, sDPutD, sRetDct, sRetT, sAsgT, sTryD, sTryO, sTryE, eCallS, eMakeS, eMethS, eIndex, sFree, fCat, fCatA, fInT, eLenSet, Option.bind, atI_0, atI_1, atI_2, look, ↓reduceIte, String.reduceEq, List.nodup_cons, List.not_mem_nil, not_false_eq_true])
/-- what is plain ahead of the rest -/
macro "st" : tactic => `(tactic| repeat (with_reducible refine And.intro ?_ ?_; focus (first | exact True.intro | rfl | (intro z h; cases h; done) | (simp [strms]; done) | decide)))
/-- no name of a comprehension is one of the own things' -/
macro "cl" : tactic => `(tactic| (intro i hi; simp only [List.mem_cons, List.not_mem_nil, or_false] at hi; first | (subst hi; first | exact True.intro | simp) | (rcases hi with h | h <;> subst h <;> first | exact True.intro | simp) | (rcases hi with h | h | h <;> subst h <;> first | exact True.intro | simp)))
/-- one statement, then the rest -/
theorem seq_i {m n : MS} {ρ : Env} {M : ED} (h : m ρ { M with nx := fun ρ' => n ρ' M }) : sSeq m n ρ M := h
theorem lcD_go {tg : MG} {ct : MT} {me : ME} {ρ : Env} {Kc : List D → Prop} (f : D → Option D) : ∀ (l out : List D), (∀ x ∈ l, ∀ (yes : D → Prop) (no : Prop), (match f x with | some y => yes y | none => no) →
      tg x ρ fun ρ1 => ct ρ1 (fun b => if b = true then me ρ1 (fun r => match r.data with | some y => yes y | none => False) (fun _ => False) else no) fun _ => False) →
    out.length + l.length < 1000000 → Kc (out ++ l.filterMap f) → lcD tg ct me ρ Kc l out
  | [], out, _, _, k => by
    unfold lcD
    simpa using k
  | x :: l, out, h, sz, k => by
    unfold lcD
    rw [List.length_cons] at sz
    have hr : ∀ y ∈ l, _ := fun y hy => h y (List.mem_cons_of_mem _ hy)
    refine h x List.mem_cons_self (fun y => out.length < 1000000 ∧ lcD tg ct me ρ Kc l (out ++ [y])) (lcD tg ct me ρ Kc l out) ?_
    cases e : f x with
    | none => exact lcD_go f l out hr (by omega) (by rw [List.filterMap_cons_none e] at k; exact k)
    | some y =>
      refine ⟨by omega, lcD_go f l (out ++ [y]) hr (by rw [List.length_append, List.length_singleton]; omega) ?_⟩
      rw [List.filterMap_cons_some e] at k
      rw [List.append_assoc]
      exact k
/-- [e for x in l] -/
theorem lcD_map {tg : MG} {me : ME} {ρ : Env} {Kc : List D → Prop} (f : D → D) (l : List D) (h : ∀ x ∈ l, ∀ (Q : KD), Q (.d (f x)) → tg x ρ fun ρ1 => me ρ1 Q fun _ => False) (sz : l.length < 1000000) (k : Kc (l.map f)) : lcD tg tYesD me ρ Kc l [] := by
  refine lcD_go (fun x => some (f x)) l [] (fun x hx yes no hy => ?_) (by simpa using sz) (by simpa using k)
  unfold tYesD
  simp only [if_true]
  exact h x hx _ hy
/-- [x for x in l if c] -/
theorem lcD_filt {i : Nat} {ct : MT} {ρ : Env} {Kc : List D → Prop} (p : D → Bool) (l : List D) (hi : i < ρ.length) (h : ∀ x ∈ l, ∀ (Q : Bool → Prop), Q (p x) → ct (ρ.set i (some (.d x))) Q fun _ => False) (sz : l.length < 1000000) (k : Kc (l.filter p)) : lcD (gSet i) ct (eVar i) ρ Kc l [] := by
  refine lcD_go (fun x => if p x = true then some x else none) l [] (fun x hx yes no hy => ?_) (by simpa using sz) ?_
  · unfold gSet
    refine h x hx _ ?_
    by_cases c : p x = true
    · rw [if_pos c] at hy ⊢
      unfold eVar
      rw [List.getElem?_set_self hi]
      exact hy
    · rw [if_neg c] at hy ⊢
      exact hy
  · rw [List.nil_append]
    have : l.filterMap (fun x => if p x = true then some x else none) = l.filter p := by
      clear h sz k
      induction l with
      | nil => rfl
      | cons a l ih =>
        by_cases c : p a = true
        · rw [List.filterMap_cons_some (by rw [if_pos c]), ih, List.filter_cons_of_pos c]
        · rw [List.filterMap_cons_none (by rw [if_neg c]), ih, List.filter_cons_of_neg c]
    rw [this]
    exact k
theorem bools_map {α : Type} (f : α → Bool) : ∀ l : List α, bools (l.map fun x => D.bl (f x)) = some (l.map f)
  | [] => rfl
  | a :: l => by simp [bools, bools_map f l]
theorem all_map {α : Type} (f : α → Bool) (l : List α) : ((l.map f).all id) = l.all f := by
  induction l with
  | nil => rfl
  | cons a l ih => simp [ih]
/-- all([e for x in l]) -/
theorem lc_all {tg : MG} {me : ME} {ρ : Env} {a : Addr} {Q : KD} {Ed : KX} (f : D → Bool) (l : List D) (h : ∀ x ∈ l, ∀ (Q : KD), Q (.d (.bl (f x))) → tg x ρ fun ρ1 => me ρ1 Q fun _ => False) (sz : l.length < 1000000) (k : Q (.d (.bl (l.all f)))) :
    lcD tg tYesD me ρ (fun out => fAll [.new a out] Q Ed) l [] := by
  refine lcD_map (fun x => .bl (f x)) l h sz ?_
  simp only [fAll, fBs, Rv.asL, bools_map]
  rw [all_map]
  exact k
theorem lc_allT {tg : MG} {me : ME} {ρ : Env} {a : Addr} {Q : KD} {Ed : KX} (l : List D) (h : ∀ x ∈ l, ∀ (Q : KD), Q (.d (.bl true)) → tg x ρ fun ρ1 => me ρ1 Q fun _ => False) (sz : l.length < 1000000) (k : Q (.d (.bl true))) :
    lcD tg tYesD me ρ (fun out => fAll [.new a out] Q Ed) l [] := by
  refine lc_all (fun _ => true) l h sz ?_
  rw [show (l.all fun _ => true) = true from List.all_eq_true.mpr fun _ _ => rfl]
  exact k
theorem strsOf_map : ∀ l : List Str, strsOf (l.map D.str) = some l
  | [] => rfl
  | a :: l => by simp [strsOf, strsOf_map l]
def letD (c : Nat) : Bool := decide (c ∈ ("abcdefghijklmnopqrstuvwxyz" : Str).cps.toList)
def digD (c : Nat) : Bool := decide (c ∈ ("0123456789" : Str).cps.toList)
def firstLet (z : Str) : Bool := match z.cps.toList with
  | c :: _ => letD c
  | [] => false
def isWordS (z : Str) : Bool := decide (1 ≤ z.length ∧ z.length ≤ 8) && (firstLet z && z.cps.toList.all fun c => letD c || digD c)
def isNameS (z : Str) : Bool := isWordS z && !(decide (z = "sum") || decide (z = "each"))
def isNm : D → Bool
  | .str z => isNameS z | _ => false
theorem len_toList (z : Str) : z.length = z.cps.toList.length := by
  show z.cps.size = _
  simp
theorem w_is_word {z : Str} {Q : KD} {Ed : KX} (sz : z.length ≤ sizeLine) (h : Q (.d (.bl (isWordS z)))) : f_is_word [.d (.str z)] Q Ed := by
  unfold f_is_word mDef0 m_is_word
  mir
  simp only [eChain, eVar, eC, eN, aCons, aNil, fLenS, fLe, fI0, List.getElem?_cons_zero, envOf]
  unfold isWordS at h
  rw [len_toList] at h
  refine ⟨sz, ?_⟩
  rw [len_toList]
  cases e : z.cps.toList with
  | nil =>
    rw [e] at h
    simpa [retK] using h
  | cons c cs =>
    rw [e] at h
    by_cases c2 : (c :: cs).length ≤ 8
    · have hz : ¬ ((c :: cs).length : Int) < 1 := by simp only [List.length_cons]; omega
      have h1 : (1 : Int) ≤ ((c :: cs).length : Int) := by omega
      have h2 : ((c :: cs).length : Int) ≤ 8 := by omega
      rw [if_pos (decide_eq_true h1)]
      simp only [decide_eq_true h2]
      refine ⟨sz, ?_⟩
      simp only [Bool.not_true, Bool.false_eq_true, if_false]
      have hi : atI (c :: cs) 0 = some c := atI_k (j := 0) rfl rfl
      simp only [fIxS, e, hi, fInS]
      simp only [Bool.false_xor]
      have hd : decide (1 ≤ (c :: cs).length ∧ (c :: cs).length ≤ 8) = true := decide_eq_true ⟨by simp, c2⟩
      have hf : firstLet z = letD c := by unfold firstLet; rw [e]
      rw [hd, hf, Bool.true_and] at h
      show if letD c = true then _ else _
      by_cases cl : letD c = true
      · rw [if_pos cl]
        rw [cl, Bool.true_and] at h
        simp only [itStr, eVar, List.getElem?_cons_zero, eLc]
        refine ⟨fun i hi => by simp only [List.mem_singleton] at hi; subst hi; simp, fun a => ?_⟩
        have hs : signs z = (c :: cs).map fun x => D.str ⟨#[x]⟩ := by unfold signs; rw [e]
        rw [hs]
        refine lcD_map (fun x => match x with | .str w => .bl ((w.cps.toList.head?.map fun c => letD c || digD c).getD false) | _ => .bl false) _ (fun x hx Q hQ => ?_) (by rw [List.length_map]; omega) ?_
        · obtain ⟨d, _, rfl⟩ := List.mem_map.mp hx
          unfold gSet
          simp only [wipeD, eOr, eOp, eVar, eC, List.set_cons_zero, List.set_cons_succ, List.getElem?_cons_zero, List.getElem?_cons_succ, fInS, Bool.false_xor]
          have hQ' : Q (.d (.bl (letD d || digD d))) := hQ
          show if letD d = true then Q (.d (.bl true)) else Q (.d (.bl (digD d)))
          cases hl : letD d with
          | true => rw [hl] at hQ'; exact hQ'
          | false => rw [hl] at hQ'; exact hQ'
        · rw [List.map_map]
          simp only [fAll, fBs, Rv.asL]
          rw [show ((fun x => match x with | .str w => .bl ((w.cps.toList.head?.map fun c => letD c || digD c).getD false) | _ => .bl false) ∘ fun x => D.str ⟨#[x]⟩ : Nat → D) = fun x => .bl (letD x || digD x) from by funext x; simp]
          rw [bools_map]
          show retK Q (.d (.bl (((c :: cs).map fun x => letD x || digD x).all id)))
          rw [all_map]
          simpa [retK] using h
      · rw [if_neg cl]
        have : letD c = false := by simpa using cl
        rw [this, Bool.false_and] at h
        simpa [retK] using h
    · have h1 : (1 : Int) ≤ ((c :: cs).length : Int) := by simp only [List.length_cons]; omega
      have h2 : ¬ ((c :: cs).length : Int) ≤ 8 := by omega
      rw [if_pos (decide_eq_true h1)]
      simp only [decide_eq_false h2]
      have hd : decide (1 ≤ (c :: cs).length ∧ (c :: cs).length ≤ 8) = false := decide_eq_false (fun z => c2 z.2)
      rw [hd, Bool.false_and] at h
      simpa [retK] using h
end DL

set_option linter.all false
set_option maxRecDepth 100000
set_option maxHeartbeats 1000000
/-! names, rows of names -/
namespace DL
open PySem L2 He DX DW
theorem dcomm (z a : Str) : decide (z = a) = decide (a = z) := decide_eq_decide.mpr eq_comm
def isSeqD : D → Bool
  | .lst _ => true | .tup _ => true | .scr _ => true | _ => false
inductive RowD : D → List D → Prop
  | lst (l : List D) : RowD (.lst l) l
  | tup (l : List D) : RowD (.tup l) l
theorem RowD.asS {x : D} {l : List D} (h : RowD x l) : (Rv.d x).asS = some l := by cases h <;> rfl
theorem RowD.nt {x : D} {l : List D} (h : RowD x l) : NoTy x := by cases h <;> (intro z h; cases h)
theorem RowD.any {x : D} {l : List D} (h : RowD x l) : (Rv.d x).any = some x := by cases h <;> rfl
theorem w_is_seq {x : D} {Q : KD} {Ed : KX} (n : NoTy x) (h : Q (.d (.bl (isSeqD x)))) : f_is_sequence [.d x] Q Ed := by
  unfold f_is_sequence mDef0 m_is_sequence
  cases x <;> first | exact absurd rfl (n _) | (simp [sRet, eUn, fIsB, eVar, envOf, retK, Rv.any, isB, D.kd, isObjD, isSeqD] at h ⊢ <;> exact h)
theorem w_is_pair {x : D} {l : List D} {Q : KD} {Ed : KX} (r : RowD x l) (h : Q (.d (.bl (decide (l.length = 2))))) : f_is_pair [.d x] Q Ed := by
  unfold f_is_pair mDef0 m_is_pair
  mir
  refine ⟨by simp [strms], w_is_seq r.nt ?_⟩
  have hs : isSeqD x = true := by cases r <;> rfl
  rw [hs]
  have e : (decide (V.int (l.length : Int) = V.int 2)) = decide (l.length = 2) := by
    rw [Bool.eq_iff_iff, decide_eq_true_iff, decide_eq_true_iff]
    constructor
    · intro h; have := V.int.inj h; omega
    · intro h; rw [h]; rfl
  cases r <;> simp only [Rv.asS] <;> refine ⟨rfl, ?_⟩ <;> rw [Bool.false_xor, e] <;> exact h
theorem w_is_pairN {x : D} {Q : KD} {Ed : KX} (n : NoTy x) (s : isSeqD x = false) (h : Q (.d (.bl false))) : f_is_pair [.d x] Q Ed := by
  unfold f_is_pair mDef0 m_is_pair
  mir
  refine ⟨by simp [strms], w_is_seq n ?_⟩
  rw [s]
  exact h
def shortD (x : D) : Prop := ∀ z, x = .str z → z.length ≤ sizeLine
theorem w_is_name {x : D} {Q : KD} {Ed : KX} (n : NoTy x) (s : shortD x) (h : Q (.d (.bl (isNm x)))) : f_is_name [.d x] Q Ed := by
  unfold f_is_name mDef0 m_is_name
  cases x with
  | str z =>
    mi
    rw [show (["str"].any fun t => isB t (D.str z)) = true from by simp [isB, isObjD, D.kd], if_pos rfl]
    refine (w_is_word (s z rfl) ?_)
    dsimp only
    have h : Q (.d (.bl (isWordS z && !(decide (z = "sum") || decide (z = "each"))))) := h
    cases e : isWordS z with
    | false => rw [e] at h; exact h
    | true =>
      rw [e, Bool.true_and] at h
      rw [dcomm z, dcomm z] at h
      rw [if_pos rfl]
      simp only [strsOf, Option.map]
      refine ⟨rfl, ?_⟩
      simp only [List.any_cons, List.any_nil, Bool.or_false, isTx]
      exact h
  | ty z => exact absurd rfl (n z)
  | _ => simp [sRet, eAnd, eUn, fIsB, eVar, envOf, retK, Rv.any, isB, D.kd, isObjD, isNm] at h ⊢ <;> exact h
theorem w_are_names {x : D} {l : List D} {Q : KD} {Ed : KX} (r : RowD x l) (sz : l.length < 1000000) (ok : ∀ y ∈ l, NoTy y ∧ shortD y) (h : Q (.d (.bl (decide (0 < l.length) && l.all isNm)))) : f_are_names [.d x] Q Ed := by
  unfold f_are_names mDef0 m_are_names
  mir
  refine ⟨by simp [strms], w_is_seq r.nt ?_⟩
  have hs : isSeqD x = true := by cases r <;> rfl
  rw [hs]
  have go : ∀ (Q' : KD), (∀ b, b = (decide (0 < l.length) && l.all isNm) → Q' (.d (.bl b))) → (if decide ((0 : Int) < (l.length : Int)) = true then ∀ a, lcD (gSet 1) tYesD (eCall0 f_is_name (aCons (eVar 1) aNil)) (wipeD [some (Sl.d x), none] [1]) (fun out => fAll [.new a out] Q' fun _ => False) l [] else Q' (.d (.bl false))) := fun Q' k => by
    by_cases c : 0 < l.length
    · rw [if_pos (decide_eq_true (by omega))]
      intro a
      refine lcD_map (fun x => .bl (isNm x)) l (fun y hy Q2 h2 => ?_) sz ?_
      · simp [gSet, wipeD, eCall0, aCons, aNil, eVar, fCall, argsOf, Rv.arg, strms]
        exact w_is_name (ok y hy).1 (ok y hy).2 h2
      · simp only [fAll, fBs, Rv.asL]
        rw [bools_map]
        show Q' (.d (.bl ((l.map isNm).all id)))
        rw [all_map]
        refine k _ ?_
        rw [decide_eq_true c, Bool.true_and]
    · rw [if_neg (by simpa using (by omega : ¬ (0 : Int) < (l.length : Int)))]
      exact k _ (by rw [decide_eq_false c, Bool.false_and])
  have g := go Q (fun b e => by rw [e]; exact h)
  cases r <;> simp only [Rv.asS, if_true, fGt, fI0, eLc, itQ, eVar, List.getElem?_cons_zero]
  · split at g
    · rename_i c
      rw [if_pos c]
      exact ⟨fun i hi => by simp only [List.mem_singleton] at hi; subst hi; simp, g⟩
    · rename_i c
      rw [if_neg c]
      exact g
  · split at g
    · rename_i c
      rw [if_pos c]
      exact ⟨fun i hi => by simp only [List.mem_singleton] at hi; subst hi; simp, g⟩
    · rename_i c
      rw [if_neg c]
      exact g
theorem w_are_namesN {x : D} {Q : KD} {Ed : KX} (n : NoTy x) (s : isSeqD x = false) (h : Q (.d (.bl false))) : f_are_names [.d x] Q Ed := by
  unfold f_are_names mDef0 m_are_names
  mir
  refine ⟨by simp [strms], w_is_seq n ?_⟩
  rw [s]
  exact h
end DL

set_option linter.all false
set_option maxRecDepth 100000
set_option maxHeartbeats 1000000
/-! grids made -/
namespace DL
open PySem L2 He DX DW
abbrev Ax := Str × List Str
def strsT (l : List Str) : D := .tup (l.map .str)
def axT (a : Ax) : D := .tup [.str a.1, strsT a.2]
def axsT (as : List Ax) : D := .tup (as.map axT)
def cellsT (as : List Ax) : D := .tup ((PX.cellsL as).map strsT)
def nCells (as : List Ax) : Nat := (PX.cellsL as).length
def gridD (as : List Ax) : D := gD (axsT as) (cellsT as) (nCells as)
def NmS (l : List Str) : Prop := ∀ z ∈ l, isNameS z = true
structure GG (as : List Ax) : Prop where
  nd : (PX.names as).Nodup
  lo : 1 ≤ as.length
  hi : as.length ≤ 3
  ms : ∀ a ∈ as, a.2.Nodup ∧ 1 ≤ a.2.length ∧ a.2.length ≤ 4
  nn : NmS (PX.names as)
  nm : ∀ a ∈ as, NmS a.2
  sz : nCells as ≤ 8
theorem name_short {z : Str} (h : isNameS z = true) : z.length ≤ 8 := by
  unfold isNameS isWordS at h
  simp only [Bool.and_eq_true, decide_eq_true_eq] at h
  exact h.1.1.2
theorem short_ok {l : List Str} (h : ∀ z ∈ l, z.length ≤ 100) : ∀ y ∈ l.map D.str, NoTy y ∧ shortD y := fun y hy => by
  obtain ⟨z, hz, rfl⟩ := List.mem_map.mp hy
  refine ⟨fun w e => by (cases e), fun w e => by (cases e; exact Nat.le_trans (h z hz) (by decide))⟩
theorem NmS.short {l : List Str} (h : NmS l) : ∀ z ∈ l, z.length ≤ 100 := fun z hz => Nat.le_trans (name_short (h z hz)) (by decide)
theorem all_isNm {l : List Str} : (l.map D.str).all isNm = l.all isNameS := by
  rw [List.all_map]
  rfl
theorem NmS.all {l : List Str} (h : NmS l) : l.all isNameS = true := List.all_eq_true.mpr h
theorem vint_eq (a b : Nat) : decide (V.int (a : Int) = V.int (b : Int)) = decide (a = b) := by
  rw [Bool.eq_iff_iff, decide_eq_true_iff, decide_eq_true_iff]
  constructor
  · intro h; have := V.int.inj h; omega
  · intro h; rw [h]
theorem w_unlike {x : D} {l : List Str} {Q : KD} {Ed : KX} (r : RowD x (l.map D.str)) (sz : l.length ≤ 100) (sh : ∀ z ∈ l, z.length ≤ 100) (h : Q (.d (.bl (decide (0 < l.length) && l.all isNameS && decide l.Nodup)))) : f_are_unlike_names [.d x] Q Ed := by
  unfold f_are_unlike_names mDef0 m_are_unlike_names
  mi
  refine w_are_names r (by rw [List.length_map]; omega) (short_ok sh) ?_
  dsimp only
  rw [List.length_map, all_isNm]
  cases c : (decide (0 < l.length) && l.all isNameS) with
  | false => rw [c, Bool.false_and] at h; exact h
  | true =>
    rw [c, Bool.true_and] at h
    rw [if_pos rfl]
    have e : decide (V.int ((TxS.met l).length : Int) = V.int ((l.map D.str).length : Int)) = decide l.Nodup := by
      rw [vint_eq, List.length_map]
      exact decide_eq_decide.mpr (TxS.met_nodup l).2
    cases r <;> simp only [strsOf_map] <;> refine ⟨sz, rfl, ?_⟩ <;> rw [e] <;> exact h
theorem w_members_ok {x : D} {l : List Str} {Q : KD} {Ed : KX} (r : RowD x (l.map D.str)) (lo : 1 ≤ l.length) (hi : l.length ≤ 4) (nd : l.Nodup) (nm : NmS l) (h : Q (.d (.bl true))) : f_are_members [.d x] Q Ed := by
  unfold f_are_members mDef0 m_are_members
  mi
  refine w_unlike r (by omega) nm.short ?_
  dsimp only
  rw [nm.all, decide_eq_true nd, decide_eq_true (show 0 < l.length by omega)]
  simp only [Bool.and_true, if_true]
  have e : decide (((l.map D.str).length : Int) ≤ 4) = true := decide_eq_true (by rw [List.length_map]; omega)
  cases r <;> dsimp only <;> rw [e] <;> exact h
/-- axes, given in rows of any kind -/
def AxR (x : D) (a : Ax) : Prop := ∃ y, RowD x [.str a.1, y] ∧ RowD y (a.2.map D.str)
inductive AxRs : List D → List Ax → Prop
  | nil : AxRs [] []
  | cons {x : D} {a : Ax} {l : List D} {as : List Ax} : AxR x a → AxRs l as → AxRs (x :: l) (a :: as)
theorem AxRs.len : ∀ {l : List D} {as : List Ax}, AxRs l as → l.length = as.length
  | _, _, .nil => rfl
  | _, _, .cons _ t => congrArg Nat.succ t.len
theorem AxRs.mem : ∀ {l : List D} {as : List Ax}, AxRs l as → ∀ x ∈ l, ∃ a ∈ as, AxR x a
  | _, _, .nil, x, h => by cases h
  | _, _, .cons r t, x, h => by
    rcases List.mem_cons.mp h with rfl | h
    · exact ⟨_, List.mem_cons_self, r⟩
    · obtain ⟨a, ha, q⟩ := t.mem x h
      exact ⟨a, List.mem_cons_of_mem _ ha, q⟩
/-- what a def makes of each of the axes -/
theorem AxRs.map {f : D → D} {g : Ax → D} : ∀ {l : List D} {as : List Ax}, AxRs l as → (∀ x a, AxR x a → f x = g a) → l.map f = as.map g
  | _, _, .nil, _ => rfl
  | _, _, .cons r t, h => by rw [List.map_cons, List.map_cons, h _ _ r, t.map h]
theorem axr_T (a : Ax) : AxR (axT a) a := ⟨_, .tup _, .tup _⟩
theorem axrs_T : ∀ as : List Ax, AxRs (as.map axT) as
  | [] => .nil
  | a :: as => .cons (axr_T a) (axrs_T as)
theorem w_pairs_of_axes {x : D} {l : List D} {as : List Ax} {Q : KD} {Ed : KX} (r : RowD x l) (al : AxRs l as) (lo : 1 ≤ as.length) (hi : as.length ≤ 3) (h : Q (.d (.bl true))) : f_are_pairs_of_axes [.d x] Q Ed := by
  unfold f_are_pairs_of_axes mDef0 m_are_pairs_of_axes
  have hl := al.len
  mi
  refine w_is_seq r.nt ?_
  have hs : isSeqD x = true := by cases r <;> rfl
  rw [hs]
  have h1 : decide ((1 : Int) ≤ (l.length : Int)) = true := decide_eq_true (by omega)
  have h2 : decide ((l.length : Int) ≤ 3) = true := decide_eq_true (by omega)
  have go : ∀ (Q' : KD), Q' (.d (.bl true)) → (∀ a, lcD (gSet 1) tYesD (eCall0 f_is_pair (aCons (eVar 1) aNil)) [some (Sl.d x), none] (fun out => fAll [.new a out] Q' fun _ => False) l []) := fun Q' k a => by
    refine lcD_map (fun _ => .bl true) l (fun y hy Q2 h2 => ?_) (by omega) ?_
    · obtain ⟨a, _, q, rq, _⟩ := al.mem y hy
      mi
      exact w_is_pair rq h2
    · simp only [fAll, fBs, Rv.asL]
      rw [bools_map]
      show Q' (.d (.bl ((l.map fun _ => true).all id)))
      rw [all_map, show (l.all fun _ => true) = true from List.all_eq_true.mpr fun _ _ => rfl]
      exact k
  cases r <;> dsimp only <;> rw [h1] <;> simp only [if_true] <;> rw [h2] <;> simp only [if_true] <;> exact ⟨by cl, fun a => go _ h a⟩
end DL

set_option linter.all false
set_option maxRecDepth 100000
set_option maxHeartbeats 1000000
/-! cells; grids -/
namespace DL
open PySem L2 He DX DW
theorem lcD2_map {tg tg1 : MG} {it1 : MI} {me : ME} {vs1 : List Nat} {ρ : Env} {Kc : List D → Prop} (f : D → List D) : ∀ (l out : List D), (∀ x ∈ l, ∀ (P : List D → Prop) (out' : List D), out'.length + (f x).length < 1000000 → P (out' ++ f x) →
      tg x ρ fun ρ1 => it1 ρ1 (fun l1 => clean ρ1 vs1 ∧ lcD tg1 tYesD me (wipeD ρ1 vs1) P l1 out') fun _ => False) →
    out.length + (l.flatMap f).length < 1000000 → Kc (out ++ l.flatMap f) → lcD2 tg tYesD it1 tg1 tYesD me vs1 ρ Kc l out
  | [], out, _, _, k => by
    unfold lcD2
    simpa using k
  | x :: l, out, h, sz, k => by
    unfold lcD2
    simp only [tYesD, if_true]
    rw [List.flatMap_cons, List.length_append] at sz
    refine h x List.mem_cons_self _ out (by omega) ?_
    refine lcD2_map f l (out ++ f x) (fun y hy => h y (List.mem_cons_of_mem _ hy)) (by rw [List.length_append]; omega) ?_
    rw [List.flatMap_cons] at k
    rw [List.append_assoc]
    exact k
def addM (ms : List Str) : D → List D
  | .tup l => ms.map fun m => .tup (l ++ [.str m])
  | _ => []
theorem grow_map (cs : List (List Str)) (ms : List Str) : (cs.map strsT).flatMap (addM ms) = (PX.grow cs ms).map strsT := by
  unfold PX.grow
  induction cs with
  | nil => rfl
  | cons c cs ih =>
    rw [List.map_cons, List.flatMap_cons, ih, List.flatMap_cons, List.map_append]
    congr 1
    unfold strsT addM
    rw [List.map_map]
    apply List.map_congr_left
    intro m hm
    simp
theorem cellsF_snoc (cs : List (List Str)) (as : List Ax) (a : Ax) : PX.cellsF cs (as ++ [a]) = PX.grow (PX.cellsF cs as) a.2 := by
  unfold PX.cellsF
  rw [List.foldl_append]
  rfl
theorem take_snoc {α : Type} {l : List α} {j : Nat} {x : α} (h : l[j]? = some x) : l.take (j + 1) = l.take j ++ [x] := by
  rw [List.take_succ, h]
  rfl
theorem cells_le (as : List Ax) (h : ∀ a ∈ as, a.2.length ≤ 4) : (PX.cellsL as).length ≤ 4 ^ as.length := by
  rw [PX.cellsL_len]
  suffices ∀ n, as.foldl (fun n a => n * a.2.length) n ≤ n * 4 ^ as.length by simpa using this 1
  induction as with
  | nil => intro n; simp
  | cons a as ih =>
    intro n
    rw [List.foldl_cons, List.length_cons, Nat.pow_succ]
    refine Nat.le_trans (ih (fun b hb => h b (List.mem_cons_of_mem _ hb)) _) ?_
    have := h a List.mem_cons_self
    calc n * a.2.length * 4 ^ as.length ≤ n * 4 * 4 ^ as.length := Nat.mul_le_mul_right _ (Nat.mul_le_mul_left _ this)
      _ = n * (4 ^ as.length * 4) := by rw [Nat.mul_assoc, Nat.mul_comm 4]
def starF (c : List Str) : D → Option D
  | .str m => some (.tup (c.map .str ++ [.str m]))
  | _ => none
theorem star_fm (c ms : List Str) : (ms.map D.str).filterMap (starF c) = addM ms (.tup (c.map .str)) := by
  induction ms with
  | nil => rfl
  | cons m ms ih => rw [List.map_cons, List.filterMap_cons_some (show starF c (.str m) = some _ from rfl), ih]; rfl
theorem clean_none {ρ : Env} {vs : List Nat} (h : ∀ i ∈ vs, ρ[i]? = some none ∨ ∃ x, ρ[i]? = some (some (.d x))) : clean ρ vs := fun i hi => by
  rcases h i hi with e | ⟨x, e⟩ <;> rw [e] <;> trivial
theorem w_cells_of {as : List Ax} {Q : KD} {Ed : KX} (hi : as.length ≤ 3) (ms : ∀ a ∈ as, a.2.length ≤ 4) (h : Q (.d (cellsT as))) : f_cells_of [.d (axsT as)] Q Ed := by
  unfold f_cells_of mDef0 m_cells_of
  mi
  intro b0
  unfold axsT
  mi
  refine forD_inv (I := fun j ρ => ∃ s x y, ρ = [some (.d (axsT as)), some s, x, y, none, none] ∧ (x = none ∨ ∃ z, x = some (.d z)) ∧ (y = none ∨ ∃ z, y = some (.d z)) ∧
    (s = .d (.lst ((PX.cellsF [[]] (as.take j)).map strsT)) ∨ ∃ b, s = .own b ((PX.cellsF [[]] (as.take j)).map strsT))) _ 0 _ ⟨_, _, _, rfl, .inl rfl, .inl rfl, .inr ⟨b0, rfl⟩⟩ ?_ ?_
  · rintro j x ρ N hx ⟨s, u, v, rfl, _, _, hs⟩ e1 e2 e3 nx ct
    rw [Nat.zero_add] at hs
    rw [List.getElem?_map, Option.map_eq_some_iff] at hx
    obtain ⟨a, ha, rfl⟩ := hx
    have ham := List.mem_of_getElem? ha
    unfold axT
    simp only [gSets, gSets.go, List.set_cons_zero, List.set_cons_succ]
    have step : ∀ (L : List D), L = (PX.cellsF [[]] (as.take j)).map strsT →
        eLc2 (itS (eVar 1)) (gSet 4) tYesD (itT (eVar 3)) (gSet 5) tYesD (eStar (eVar 4) (aCons (eVar 5) aNil)) [4, 5] [5] [some (.d (axsT as)), some (.d (.lst L)), some (.d (.str a.1)), some (.d (strsT a.2)), none, none]
          (fun r => match r.data with | some x => N.nx [some (.d (axsT as)), some (.d x), some (.d (.str a.1)), some (.d (strsT a.2)), none, none] | none => False) N.ex := by
      rintro L rfl
      unfold eLc2
      mi
      refine ⟨by cl, fun d => ?_⟩
      have lim : ((PX.cellsF [[]] (as.take j)).map strsT |>.flatMap (addM a.2)).length < 1000000 := by
        rw [grow_map, List.length_map, PX.grow_len]
        have h1 : (PX.cellsL (as.take j)).length ≤ 4 ^ (as.take j).length := cells_le _ fun b hb => ms b (List.mem_of_mem_take hb)
        have h2 : (as.take j).length ≤ 3 := by rw [List.length_take]; omega
        have h3 : 4 ^ (as.take j).length ≤ 4 ^ 3 := Nat.pow_le_pow_right (by decide) h2
        have h4 := ms a ham
        unfold PX.cellsL at h1
        have h5 : (PX.cellsF [[]] (as.take j)).length * a.2.length ≤ 64 * 4 := Nat.mul_le_mul (by omega) h4
        omega
      refine lcD2_map (addM a.2) _ [] (fun x hx P out' so hP => ?_) (by simpa using lim) ?_
      · obtain ⟨c, hc, rfl⟩ := List.mem_map.mp hx
        unfold strsT
        mi
        refine ⟨by cl, ?_⟩
        refine lcD_go (starF c) _ out' (fun y hy yes no hyes => ?_) (by simpa [strsT, addM] using so) ?_
        · obtain ⟨m, hm, rfl⟩ := List.mem_map.mp hy
          mi
          simp only [eStar, tYesD]
          mi
          have cl : c.length ≤ 3 := by
            have h0 : c ∈ PX.cellsL (as.take j) := hc
            have := (PX.mem_cells.mp h0).len
            rw [this, List.length_take]
            omega
          refine ⟨by rw [List.length_map]; omega, hyes⟩
        · rw [star_fm]
          exact hP
      · rw [List.nil_append, grow_map, ← cellsF_snoc, ← take_snoc ha]
        exact nx _ ⟨_, _, _, rfl, .inr ⟨_, rfl⟩, .inr ⟨_, rfl⟩, .inl (by rw [Nat.zero_add])⟩
    rcases hs with rfl | ⟨b, rfl⟩
    · mi
      exact step _ rfl
    · mi
      exact step _ rfl
  · rintro ρ' ⟨s, u, v, rfl, _, _, hs⟩
    rw [Nat.zero_add, List.length_map, List.take_length] at hs
    have fin : Q (.d (.tup ((PX.cellsF [[]] as).map strsT))) := h
    rcases hs with rfl | ⟨b, rfl⟩
    · mi
      exact fin
    · mi
      exact fin
end DL

set_option linter.all false
set_option maxRecDepth 100000
set_option maxHeartbeats 1000000
/-! grids made; places of axes; members among others -/
namespace DL
open PySem L2 He DX DW
theorem names_map (as : List Ax) : (as.map fun a => D.str a.1) = (PX.names as).map D.str := by
  unfold PX.names
  rw [List.map_map]
  rfl
theorem w_grid {as : List Ax} {Qd : List String → List D → Prop} {Ed : KX} (g : GG as) (h : Qd ["axes", "cells", "size"] [axsT as, cellsT as, .int (nCells as : Nat)]) : f_Grid_x___init__ [.d (axsT as)] Qd Ed := by
  unfold f_Grid_x___init__ mInit m_Grid_x___init__
  intro x
  have g3 := g.hi
  mi
  refine w_pairs_of_axes (.tup _) (axrs_T as) g.lo g.hi ?_
  dsimp only
  rw [if_neg (by simp)]
  unfold axsT
  mi
  refine ⟨by cl, fun a => ?_⟩
  refine lcD_map (fun x => match x with | .tup (y :: _) => y | _ => .non) _ (fun y hy Q2 h2 => ?_) (by rw [List.length_map]; omega) ?_
  · obtain ⟨b, hb, rfl⟩ := List.mem_map.mp hy
    unfold axT at h2 ⊢
    mi
    exact h2
  rw [List.map_map, show ((fun x => match x with | .tup (y :: _) => y | _ => .non) ∘ axT) = fun a : Ax => D.str a.1 from rfl, names_map]
  refine w_unlike (.lst _) (by unfold PX.names; rw [List.length_map]; omega) g.nn.short ?_
  have n0 : 0 < (PX.names as).length := by unfold PX.names; rw [List.length_map]; exact g.lo
  rw [g.nn.all, decide_eq_true g.nd, decide_eq_true n0]
  mi
  refine ⟨by cl, fun a => ?_⟩
  refine lc_allT _ (fun y hy Q2 h2 => ?_) (by rw [List.length_map]; omega) ?_
  · obtain ⟨b, hb, rfl⟩ := List.mem_map.mp hy
    unfold axT
    mi
    obtain ⟨m1, m2, m3⟩ := g.ms b hb
    exact w_members_ok (.tup _) m2 m3 m1 (g.nm b hb) h2
  mi
  refine ⟨by cl, fun a => ?_⟩
  refine lcD_map id _ (fun y hy Q2 h2 => ?_) (by rw [List.length_map]; omega) ?_
  · obtain ⟨b, hb, rfl⟩ := List.mem_map.mp hy
    unfold axT strsT at h2 ⊢
    simp only [gRow, gMany]
    mi
    exact h2
  rw [List.map_id]
  refine ⟨by decide, by decide, by decide, ?_⟩
  try simp only [look, ↓reduceIte]
  refine ⟨by decide, w_cells_of g.hi (fun a ha => (g.ms a ha).2.2) ?_⟩
  mi
  refine ⟨by decide, by decide, by decide, ?_⟩
  try simp only [look, ↓reduceIte, String.reduceEq]
  unfold cellsT
  mi
  refine ⟨by decide, by decide, by decide, by decide, ?_⟩
  have e : ¬ (8 : Int) < (((PX.cellsL as).map strsT).length : Int) := by
    have := g.sz
    unfold nCells at this
    rw [List.length_map]
    omega
  rw [decide_eq_false e]
  refine ⟨by decide, ?_⟩
  rw [if_neg (by simp)]
  unfold nCells at h
  rw [List.length_map]
  exact h
def isS : D → Str → Bool
  | .str y, z => decide (z = y) | _, _ => false
theorem isStrD_eq (z : Str) (x : D) : isStrD z x = true ↔ x = .str z := by
  cases x <;> simp [isStrD, eq_comm]
theorem nums_at {l : List D} {j : Nat} {x : D} (h : (nums l)[j]? = some x) : ∃ y, l[j]? = some y ∧ x = .tup [.int (j : Nat), y] := by
  unfold nums pairs at h
  rw [List.getElem?_zipWith] at h
  cases e : l[j]? with
  | none => rw [e] at h; simp at h
  | some y =>
    have hj := (List.getElem?_eq_some_iff.mp e).1
    rw [e, List.getElem?_map, List.getElem?_range hj] at h
    simp only [Option.map_some] at h
    cases h
    exact ⟨y, rfl, rfl⟩
theorem nums_len (l : List D) : (nums l).length = l.length := by
  unfold nums pairs
  simp
/-- the place of an axis -/
theorem w_place_of_axis {as : List Ax} {x : D} {n : Nat} {ce : D} {Q : KD} {Ed : KX} (p : plainD x = true) (h1 : ∀ i a, as[i]? = some a → (∀ j b, j < i → as[j]? = some b → x ≠ .str b.1) → x = .str a.1 → Q (.d (.int (i : Nat)))) (h2 : (∀ a ∈ as, x ≠ .str a.1) → Q (.d .non)) :
    f_place_of_axis [.d (gD (axsT as) ce n), .d x] Q Ed := by
  unfold f_place_of_axis mDef0 m_place_of_axis gD axsT
  mi
  try simp only [look, ↓reduceIte]
  refine forD_inv (I := fun j ρ => (∃ u v, ρ = [some (.d (.obj "Grid" ["axes", "cells", "size"] [.tup (as.map axT), ce, .int (n : Int)])), some (.d x), u, v]) ∧ ∀ i a, i < j → as[i]? = some a → x ≠ .str a.1) _ 0 _ ⟨⟨_, _, rfl⟩, fun i a hi => absurd hi (Nat.not_lt_zero _)⟩ ?_ ?_
  · rintro j y ρ N hy ⟨⟨u, v, rfl⟩, hn⟩ e1 e2 e3 nx ct
    rw [Nat.zero_add] at hn
    obtain ⟨z, hz, rfl⟩ := nums_at hy
    rw [List.getElem?_map, Option.map_eq_some_iff] at hz
    obtain ⟨a, ha, rfl⟩ := hz
    unfold axT
    simp only [gSets, gSets.go]
    mi
    have ep : (Rv.d x).any = some x := by cases x <;> first | rfl | cases p
    simp only [fEqS, ep]
    refine ⟨p, ?_⟩
    mi
    cases c : isStrD a.1 x with
    | true =>
      rw [if_pos rfl, e1]
      exact h1 j a ha (fun i b hi hb => hn i b hi hb) ((isStrD_eq _ _).mp c)
    | false =>
      rw [if_neg (by simp)]
      refine nx _ ⟨⟨_, _, rfl⟩, fun i b hi hb => ?_⟩
      rcases Nat.lt_or_ge i j with q | q
      · exact hn i b q hb
      · have : i = j := by omega
        subst this
        rw [ha] at hb
        cases hb
        intro z
        rw [(isStrD_eq _ _).mpr z] at c
        cases c
  · rintro ρ' ⟨_, hn⟩
    refine h2 fun a ha z => ?_
    obtain ⟨i, hi⟩ := List.mem_iff_getElem?.mp ha
    refine hn i a ?_ hi z
    rw [Nat.zero_add, nums_len, List.length_map]
    exact (List.getElem?_eq_some_iff.mp hi).1
theorem scs_strs (l : List Str) : scs (l.map D.str) = some (l.map V.str) := by
  induction l with
  | nil => rfl
  | cons a l ih => simp [scs, D.sc, ih]
theorem inV_strs (z : Str) (l : List Str) : inV (.str z) (l.map V.str) = decide (z ∈ l) := by
  unfold inV
  rw [List.any_map, Bool.eq_iff_iff, List.any_eq_true, decide_eq_true_iff]
  constructor
  · rintro ⟨y, hy, e⟩
    have : y = z := by simpa [eqV] using e
    rw [← this]
    exact hy
  · intro h
    exact ⟨z, h, by simp [eqV]⟩
/-- names among others -/
theorem w_among {x : D} {l ks : List Str} {Q : KD} {Ed : KX} (r : RowD x (l.map D.str)) (sz : l.length ≤ 100) (sh : ∀ z ∈ l, z.length ≤ 100) (h : Q (.d (.bl (decide (0 < l.length) && l.all isNameS && l.all fun z => decide (z ∈ ks))))) :
    f_are_members_among [.d x, .d (strsT ks)] Q Ed := by
  unfold f_are_members_among mDef0 m_are_members_among strsT
  mi
  refine w_are_names r (by rw [List.length_map]; omega) (short_ok sh) ?_
  dsimp only
  rw [List.length_map, all_isNm]
  cases c : (decide (0 < l.length) && l.all isNameS) with
  | false => rw [c, Bool.false_and] at h; exact h
  | true =>
    rw [c, Bool.true_and] at h
    rw [if_pos rfl]
    have go : ∀ (ρ : Env) (Q' : KD) (a : Addr), ρ = [some (.d x), some (.d (.tup (ks.map .str))), none] → Q' (.d (.bl (l.all fun z => decide (z ∈ ks)))) → lcD (gSet 2) tYesD (eOp (fInT false) (eVar 2) (eVar 1)) ρ (fun out => fAll [.new a out] Q' Ed) (l.map .str) [] := by
      rintro ρ Q' a rfl k
      refine lc_all (fun y => match y with | .str z => decide (z ∈ ks) | _ => false) _ (fun y hy Q2 h2 => ?_) (by rw [List.length_map]; omega) ?_
      · obtain ⟨z, hz, rfl⟩ := List.mem_map.mp hy
        mi
        rw [strsOf_map]
        refine ⟨rfl, ?_⟩
        have e : (ks.any fun w => isTx w (.str z)) = decide (z ∈ ks) := by
          rw [Bool.eq_iff_iff, List.any_eq_true, decide_eq_true_iff]
          constructor
          · rintro ⟨w, hw, e⟩
            have : w = z := by simpa [isTx] using e
            rw [← this]
            exact hw
          · intro hz
            exact ⟨z, hz, by simp [isTx]⟩
        rw [e]
        exact h2
      · rw [List.all_map]
        exact k
    cases r
    · mi
      exact ⟨by cl, fun a => go _ _ a rfl h⟩
    · mi
      exact ⟨by cl, fun a => go _ _ a rfl h⟩
end DL

set_option linter.all false
set_option maxRecDepth 100000
set_option maxHeartbeats 1000000
/-! wishes -/
namespace DL
open PySem L2 He DX DW
/-- what is wrong with a pair of a wish -/
def chk (as : List Ax) (tk seen : List Str) (w : Ax) : Option Str :=
  if w.1 ∉ PX.names as ∨ w.1 ∈ tk ∨ w.1 ∈ seen then some "axis"
  else if (decide (0 < w.2.length) && w.2.all isNameS && w.2.all fun z => decide (z ∈ (PX.lk as w.1).getD [])) = true then none
  else some "members"
/-- the first wrong pair -/
def fb (as : List Ax) (tk : List Str) : List Str → Nat → List Ax → Option (Nat × Str)
  | _, _, [] => none
  | seen, j, w :: ws => match chk as tk seen w with
    | some wd => some (j, wd)
    | none => fb as tk (seen ++ [w.1]) (j + 1) ws
def wKs (ws : List Ax) : List Key := ws.map fun w => .inr w.1
def wDs (ws : List Ax) : List D := ws.map fun w => strsT w.2
def wDic (ws : List Ax) : D := .dic (wKs ws) (wDs ws)
theorem valD_ws (ws : List Ax) (n : Str) : valD (wKs ws) (wDs ws) (.inr n) = (PX.lk ws n).map strsT := by
  induction ws with
  | nil => rfl
  | cons w ws ih =>
    unfold wKs wDs at ih ⊢
    rw [List.map_cons, List.map_cons, valD, PX.lk]
    by_cases c : w.1 = n
    · rw [if_pos c, if_pos (by rw [c])]; rfl
    · rw [if_neg c, if_neg (fun z => c (Sum.inr.inj z)), ih]
theorem hasK_ws (ws : List Ax) (n : Str) : hasK (wKs ws) (.inr n) = decide (n ∈ PX.names ws) := by
  unfold hasK wKs PX.names
  rw [List.any_map, Bool.eq_iff_iff, List.any_eq_true, decide_eq_true_iff, List.mem_map]
  constructor
  · rintro ⟨w, hw, e⟩
    exact ⟨w, hw, Sum.inr.inj (of_decide_eq_true e)⟩
  · rintro ⟨w, hw, e⟩
    exact ⟨w, hw, decide_eq_true (congrArg Sum.inr e)⟩
theorem lk_isSome (ws : List Ax) (n : Str) : (PX.lk ws n).isSome = decide (n ∈ PX.names ws) := by
  cases e : PX.lk ws n with
  | none => exact (decide_eq_false (PX.lk_none e)).symm
  | some ms =>
    have := List.mem_map_of_mem (f := (·.1)) (PX.lk_some e)
    exact (decide_eq_true this).symm
theorem AxRs.at_ : ∀ {l : List D} {as : List Ax}, AxRs l as → ∀ {j : Nat} {x : D}, l[j]? = some x → ∃ a, as[j]? = some a ∧ AxR x a
  | _, _, .nil, j, x, h => by simp at h
  | _, _, .cons r t, 0, x, h => by
    simp only [List.getElem?_cons_zero, Option.some.injEq] at h
    subst h
    exact ⟨_, rfl, r⟩
  | _, _, .cons r t, j + 1, x, h => by
    simp only [List.getElem?_cons_succ] at h ⊢
    exact t.at_ h
theorem w_wantedN {x g t : D} {Q : KD} {Ed : KX} (n : NoTy x) (s : isSeqD x = false) (h : Ed ⟨"NoWish", ["place", "word"], [.int (-1), .str "wish"]⟩) : f_wanted_members [.d g, .d x, .d t] Q Ed := by
  unfold f_wanted_members mDef m_wanted_members
  mi
  refine w_is_seq n ?_
  rw [s]
  exact h
theorem w_wanted {as : List Ax} {x : D} {l : List D} {ws : List Ax} {tk : List Str} {Q : KD} {Ed : KX} (nd : (PX.names as).Nodup) (r : RowD x l) (al : AxRs l ws) (sz : ws.length ≤ 100) (sh : ∀ w ∈ ws, w.2.length ≤ 100 ∧ ∀ z ∈ w.2, z.length ≤ 100)
    (hQ : fb as tk [] 0 ws = none → Q (.d (wDic ws))) (hE : ∀ j wd, fb as tk [] 0 ws = some (j, wd) → Ed ⟨"NoWish", ["place", "word"], [.int (j : Nat), .str wd]⟩) :
    f_wanted_members [.d (gridD as), .d x, .d (strsT tk)] Q Ed := by
  unfold f_wanted_members mDef m_wanted_members
  have hl := al.len
  mi
  refine w_is_seq r.nt ?_
  have hs : isSeqD x = true := by cases r <;> rfl
  rw [hs]
  mi
  intro a0
  have go : ∀ (M : ED), M.ex = Ed → (∀ ρ', (∃ b, ρ'[3]? = some (some (.dct b (wKs ws) (wDs ws)))) → fb as tk [] 0 ws = none → M.nx ρ') → forD (gSets [4, 5])
      (sSeq (sIf (tNotD (tBl (eCall0 f_is_pair (aCons (eVar 5) aNil)))) 
          (sRaise "NoWish" ["place", "word"] (aCons (eVar 4) (aCons (eC (.str "pair")) aNil))) sNext) 
        (sSeq (sAsg (eVar 5) (gRow [(gSet 6), (gSet 7)])) 
        (sSeq (sSetD 8 (eCall0 f_place_of_axis (aCons (eVar 0) (aCons (eVar 6) aNil)))) 
        (sSeq (sIf (tOrD (tBl (eIsN (eVar 8))) (tOrD (tBl (eOp (fInT false) (eVar 6) (eVar 2))) (tBl (eDIn false (eVar 6) (dOwn 3))))) 
          (sRaise "NoWish" ["place", "word"] (aCons (eVar 4) (aCons (eC (.str "axis")) aNil))) sNext) 
        (sSeq (sIf (tNotD (tBl (eCall0 f_are_members_among (aCons (eVar 7) (aCons (eOp (fIx Rv.asT) (eOp (fIx Rv.asT) (eUn (mFld "axes") (eVar 0)) (eVar 8)) (eC (.int 1))) aNil))))) 
          (sRaise "NoWish" ["place", "word"] (aCons (eVar 4) (aCons (eC (.str "members")) aNil))) sNext) 
        (sDPutD 3 (eVar 6) (eN fTuple (aCons (eVar 7) aNil)))))))) M (nums l) [some (.d (gridD as)), some (.d x), some (.d (strsT tk)), some (.dct a0 [] []), none, none, none, none, none] := by
    intro M hex hnx
    refine forD_inv (I := fun j ρ => (∃ b p q u v w, ρ = [some (.d (gridD as)), some (.d x), some (.d (strsT tk)), some (.dct b (wKs (ws.take j)) (wDs (ws.take j))), p, q, u, v, w]) ∧ fb as tk [] 0 ws = fb as tk (PX.names (ws.take j)) j (ws.drop j)) _ 0 _ ⟨⟨a0, _, _, _, _, _, rfl⟩, rfl⟩ ?_ ?_
    · rintro j y ρ N hy ⟨⟨b, p, q, u, v, w, rfl⟩, hfb⟩ e1 e2 e3 nx ct
      rw [Nat.zero_add] at hfb
      obtain ⟨z, hz, rfl⟩ := nums_at hy
      obtain ⟨wa, hw, y2, rz, ry⟩ := al.at_ hz
      have hj : j < ws.length := (List.getElem?_eq_some_iff.mp hw).1
      have hwm : wa ∈ ws := List.mem_of_getElem? hw
      have hd : ws.drop j = wa :: ws.drop (j + 1) := by
        rw [List.drop_eq_getElem_cons hj]
        congr 1
        rw [List.getElem?_eq_getElem hj] at hw
        exact Option.some.inj hw
      rw [hd, fb] at hfb
      simp only [gSets, gSets.go]
      mi
      refine w_is_pair rz ?_
      rw [show decide (([.str wa.1, y2] : List D).length = 2) = true from rfl]
      mi
      have asg : ∀ (K : Env → Prop), K [some (.d (gridD as)), some (.d x), some (.d (strsT tk)), some (.dct b (wKs (ws.take j)) (wDs (ws.take j))), some (.d (.int (j : Nat))), some (.d z), some (.d (.str wa.1)), some (.d y2), w] →
          gRow [gSet 6, gSet 7] z [some (.d (gridD as)), some (.d x), some (.d (strsT tk)), some (.dct b (wKs (ws.take j)) (wDs (ws.take j))), some (.d (.int (j : Nat))), some (.d z), u, v, w] K := by
        intro K hK
        cases rz <;> simp only [gRow, gMany] <;> mi <;> exact hK
      refine asg _ ?_
      mi
      -- its axis is none
      have bad : (wa.1 ∉ PX.names as ∨ wa.1 ∈ tk ∨ wa.1 ∈ PX.names (ws.take j)) → N.ex ⟨"NoWish", ["place", "word"], [.int (j : Nat), .str "axis"]⟩ := fun h => by
        rw [e2, hex]
        refine hE j "axis" ?_
        rw [hfb, chk, if_pos h]
      refine w_place_of_axis rfl (fun i a ha first ea => ?_) (fun no => ?_)
      · have ea' : wa.1 = a.1 := by injection ea
        have hin : wa.1 ∈ PX.names as := by rw [ea']; exact List.mem_map_of_mem (f := (·.1)) (List.mem_of_getElem? ha)
        mi
        simp only [strsT, gridD, gD, axsT]
        mi
        rw [strsOf_map]
        refine ⟨rfl, ?_⟩
        have e4 : (tk.any fun w => isTx w (.str wa.1)) = decide (wa.1 ∈ tk) := by
          rw [Bool.eq_iff_iff, List.any_eq_true, decide_eq_true_iff]
          constructor
          · rintro ⟨w, hw, e⟩
            have : w = wa.1 := by simpa [isTx] using e
            rw [← this]
            exact hw
          · intro hz
            exact ⟨_, hz, by simp [isTx]⟩
        rw [e4]
        by_cases c1 : wa.1 ∈ tk
        · rw [if_pos (decide_eq_true c1)]
          exact bad (.inr (.inl c1))
        rw [if_neg (by simpa using c1), valD_ws, Option.isSome_map, lk_isSome]
        by_cases c2 : wa.1 ∈ PX.names (ws.take j)
        · rw [if_pos (decide_eq_true c2)]
          exact bad (.inr (.inr c2))
        rw [if_neg (by simpa using c2)]
        have hn : ¬ (wa.1 ∉ PX.names as ∨ wa.1 ∈ tk ∨ wa.1 ∈ PX.names (ws.take j)) := by
          rintro (h | h | h)
          · exact h hin
          · exact c1 h
          · exact c2 h
        rw [chk, if_neg hn] at hfb
        have hat : atI (as.map axT) (i : Int) = some (axT a) := atI_k rfl (by rw [List.getElem?_map, ha]; rfl)
        rw [hat]
        simp only [axT]
        mi
        have hlk : (PX.lk as wa.1).getD [] = a.2 := by
          rw [ea', PX.lk_mem nd (List.mem_of_getElem? ha)]
          rfl
        rw [hlk] at hfb
        refine w_among ry (sh wa hwm).1 (sh wa hwm).2 ?_
        dsimp only
        cases c3 : (decide (0 < wa.2.length) && wa.2.all isNameS && wa.2.all fun z => decide (z ∈ a.2)) with
        | false =>
          rw [c3] at hfb
          mi
          rw [e2, hex]
          exact hE j "members" hfb
        | true =>
          rw [c3] at hfb
          have ks : hasK (wKs (ws.take j)) (.inr wa.1) = false := by
            rw [hasK_ws]
            exact decide_eq_false c2
          have fin : N.nx [some (.d (gridD as)), some (.d x), some (.d (strsT tk)), some (.dct b (putKs (wKs (ws.take j)) (.inr wa.1)) (putDs (wKs (ws.take j)) (wDs (ws.take j)) (.inr wa.1) (strsT wa.2))), some (.d (.int (j : Nat))), some (.d z), some (.d (.str wa.1)), some (.d y2), some (.d (.int (i : Nat)))] := by
            refine nx _ ⟨⟨b, some (.d (.int (j : Nat))), some (.d z), some (.d (.str wa.1)), some (.d y2), some (.d (.int (i : Nat))), ?_⟩, ?_⟩
            · rw [Nat.zero_add, take_snoc hw]
              unfold putKs putDs
              rw [ks]
              unfold wKs wDs
              simp only [Bool.false_eq_true, if_false, List.map_append, List.map_cons, List.map_nil]
            · rw [Nat.zero_add, take_snoc hw, hfb]
              unfold PX.names
              rw [List.map_append]
              rfl
          have lks : (wKs (ws.take j)).length < 1000000 := by unfold wKs; rw [List.length_map, List.length_take]; omega
          cases ry <;> (mi; exact ⟨lks, fin⟩)
      · mi
        exact bad (.inl fun h => by
          obtain ⟨a, ha, e⟩ := List.mem_map.mp h
          exact no a ha (by rw [e]))
    · rintro ρ' ⟨⟨b, p, q, u, v, w, rfl⟩, hfb⟩
      rw [Nat.zero_add, nums_len, hl, List.take_length, List.drop_length] at hfb
      refine hnx _ ⟨b, ?_⟩ (by rw [hfb]; rfl)
      rw [Nat.zero_add, nums_len, hl, List.take_length]
      rfl
  cases r
  · mi
    refine go _ rfl ?_
    rintro ρ' ⟨b, hb⟩ hf
    dsimp only
    rw [hb]
    exact hQ hf
  · mi
    refine go _ rfl ?_
    rintro ρ' ⟨b, hb⟩ hf
    dsimp only
    rw [hb]
    exact hQ hf
end DL

set_option linter.all false
set_option maxRecDepth 100000
set_option maxHeartbeats 1000000
/-! regions -/
namespace DL
open PySem L2 He DX DW
theorem fb_ok {as : List Ax} {tk : List Str} : ∀ {ws : List Ax} {seen : List Str} {j : Nat}, fb as tk seen j ws = none → (PX.names ws).Nodup ∧ ∀ w ∈ ws, w.1 ∈ PX.names as ∧ w.1 ∉ tk ∧ w.1 ∉ seen ∧ 0 < w.2.length ∧ NmS w.2 ∧ ∀ z ∈ w.2, z ∈ (PX.lk as w.1).getD []
  | [], seen, j, _ => ⟨List.nodup_nil, fun w h => by cases h⟩
  | w :: ws, seen, j, h => by
    rw [fb] at h
    cases e : chk as tk seen w with
    | some wd => rw [e] at h; cases h
    | none =>
      rw [e] at h
      obtain ⟨h1, h2⟩ := fb_ok h
      unfold chk at e
      split at e
      · cases e
      · rename_i hn
        split at e
        · rename_i hc
          simp only [Bool.and_eq_true, decide_eq_true_eq, List.all_eq_true] at hc
          refine ⟨?_, fun v hv => ?_⟩
          · unfold PX.names at h1 ⊢
            rw [List.map_cons, List.nodup_cons]
            refine ⟨fun z => ?_, h1⟩
            obtain ⟨v, hv, ev⟩ := List.mem_map.mp z
            have := (h2 v hv).2.2.1
            rw [ev] at this
            exact this (List.mem_append_right _ List.mem_cons_self)
          · rcases List.mem_cons.mp hv with rfl | hv
            · exact ⟨Classical.byContradiction fun z => hn (.inl z), fun z => hn (.inr (.inl z)), fun z => hn (.inr (.inr z)), hc.1.1, hc.1.2, hc.2⟩
            · obtain ⟨a, b, c, d⟩ := h2 v hv
              exact ⟨a, b, fun z => c (List.mem_append_left _ z), d⟩
        · cases e
theorem pairs_at {l m : List D} {j : Nat} {x : D} (h : (pairs l m)[j]? = some x) : ∃ y z, l[j]? = some y ∧ m[j]? = some z ∧ x = .tup [y, z] := by
  unfold pairs at h
  rw [List.getElem?_zipWith] at h
  cases e : l[j]? with
  | none => rw [e] at h; simp at h
  | some y =>
    cases e2 : m[j]? with
    | none => rw [e, e2] at h; simp at h
    | some z =>
      rw [e, e2] at h
      cases h
      exact ⟨y, z, rfl, rfl, rfl⟩
theorem pairs_len {l m : List D} (h : l.length = m.length) : (pairs l m).length = l.length := by
  unfold pairs
  rw [List.length_zipWith]
  omega
theorem w_is_wanted {as ws : List Ax} {c : List Str} {Q : KD} {Ed : KX} (hl : c.length = as.length) (h : Q (.d (.bl (PX.fitsP as ws c)))) : f_is_wanted [.d (gridD as), .d (strsT c), .d (wDic ws)] Q Ed := by
  unfold f_is_wanted mDef0 m_is_wanted
  simp only [gridD, gD, axsT, strsT]
  mi
  refine ⟨by rw [List.length_map, List.length_map, hl], ?_⟩
  refine forD_inv (I := fun j ρ => (∃ g c u v w, ρ = [g, c, some (.d (wDic ws)), u, v, w]) ∧ ∀ i a m, i < j → as[i]? = some a → c[i]? = some m → PX.fitP ws a.1 m = true) _ 0 _ ⟨⟨_, _, _, _, _, rfl⟩, fun i a m hi => absurd hi (Nat.not_lt_zero _)⟩ ?_ ?_
  · rintro j y ρ N hy ⟨⟨g, c', u, v, w, rfl⟩, hn⟩ e1 e2 e3 nx ct
    rw [Nat.zero_add] at hn
    obtain ⟨y1, y2, h1, h2, rfl⟩ := pairs_at hy
    rw [List.getElem?_map, Option.map_eq_some_iff] at h1 h2
    obtain ⟨a, ha, rfl⟩ := h1
    obtain ⟨m, hm, rfl⟩ := h2
    simp only [gTupN, gMany, axT]
    mi
    simp only [wDic]
    mi
    rw [valD_ws, Option.isSome_map]
    have next : PX.fitP ws a.1 m = true → N.nx [g, c', some (.d (.dic (wKs ws) (wDs ws))), some (.d (.str a.1)), some (.d (strsT a.2)), some (.d (.str m))] := fun hf => by
      refine nx _ ⟨⟨g, c', _, _, _, rfl⟩, fun i b k hi hb hk => ?_⟩
      rcases Nat.lt_or_ge i j with q | q
      · exact hn i b k q hb hk
      · have : i = j := by omega
        subst this
        rw [ha] at hb
        rw [hm] at hk
        cases hb
        cases hk
        exact hf
    cases e : PX.lk ws a.1 with
    | none =>
      rw [if_neg (by simp)]
      mi
      exact next (by unfold PX.fitP; rw [e])
    | some ms =>
      simp only [Option.isSome_some, if_true, Option.map_some, strsT, fIn]
      mi
      rw [scs_strs]
      dsimp only
      rw [inV_strs]
      by_cases c2 : m ∈ ms
      · rw [decide_eq_true c2]
        mi
        exact next (by unfold PX.fitP; rw [e]; exact decide_eq_true c2)
      · rw [decide_eq_false c2]
        mi
        rw [e1]
        have : PX.fitsP as ws c = false := by
          unfold PX.fitsP
          rw [List.all_eq_false]
          refine ⟨(a, m), List.mem_of_getElem? (i := j) (by rw [List.getElem?_zip_eq_some]; exact ⟨ha, hm⟩), ?_⟩
          unfold PX.fitP
          simp [e, c2]
        rw [this] at h
        exact h
  · rintro ρ' ⟨_, hn⟩
    rw [Nat.zero_add, pairs_len (by rw [List.length_map, List.length_map, hl]), List.length_map] at hn
    have : PX.fitsP as ws c = true := by
      unfold PX.fitsP
      rw [List.all_eq_true]
      rintro ⟨a, m⟩ hz
      obtain ⟨i, hi⟩ := List.mem_iff_getElem?.mp hz
      rw [List.getElem?_zip_eq_some] at hi
      exact hn i a m (List.getElem?_eq_some_iff.mp hi.1).1 hi.1 hi.2
    rw [this] at h
    exact h
theorem nums_eq (l : List D) : nums l = (List.range l.length).map fun i => .tup [.int (i : Nat), l.getD i .non] := by
  refine List.ext_getElem? fun j => ?_
  cases e : l[j]? with
  | none =>
    have hj : l.length ≤ j := List.getElem?_eq_none_iff.mp e
    rw [List.getElem?_eq_none (by rw [nums_len]; exact hj), List.getElem?_eq_none (by rw [List.length_map, List.length_range]; exact hj)]
  | some y =>
    have hj := (List.getElem?_eq_some_iff.mp e).1
    have hj2 : j < (nums l).length := by rw [nums_len]; exact hj
    obtain ⟨y', e1, e2⟩ := nums_at (List.getElem?_eq_getElem hj2)
    rw [List.getElem?_eq_getElem hj2, e2, List.getElem?_map, List.getElem?_range hj]
    simp [e1]
theorem fm_filter {α : Type} (p : α → Bool) (f : α → D) : ∀ l : List α, l.filterMap (fun i => if p i = true then some (f i) else none) = (l.filter p).map f
  | [] => rfl
  | a :: l => by
    by_cases c : p a = true
    · rw [List.filterMap_cons_some (by rw [if_pos c]), List.filter_cons_of_pos c, List.map_cons, fm_filter p f l]
    · rw [List.filterMap_cons_none (by rw [if_neg c]), List.filter_cons_of_neg c, fm_filter p f l]
theorem fm_congr {α β : Type} {f g : α → Option β} : ∀ {l : List α}, (∀ x ∈ l, f x = g x) → l.filterMap f = l.filterMap g
  | [], _ => rfl
  | a :: l, h => by
    rw [List.filterMap_cons, List.filterMap_cons, h a List.mem_cons_self, fm_congr fun x hx => h x (List.mem_cons_of_mem _ hx)]
def regF (as ws : List Ax) : D → Option D
  | .tup [.int i, .tup l] => if PX.inReg as ws i.toNat = true then some (.int i) else none
  | _ => none
theorem regF_all (as ws : List Ax) : (nums ((PX.cellsL as).map strsT)).filterMap (regF as ws) = natsD (PX.region as ws) := by
  rw [nums_eq, List.filterMap_map, List.length_map]
  unfold natsD PX.region
  rw [← fm_filter]
  refine fm_congr fun i hi => ?_
  have hi' : i < (PX.cellsL as).length := List.mem_range.mp hi
  have e : ((PX.cellsL as).map strsT).getD i .non = strsT (PX.cellsL as)[i] := by
    rw [List.getD_eq_getElem?_getD, List.getElem?_map, List.getElem?_eq_getElem hi']
    rfl
  simp only [Function.comp, e, strsT, regF, Int.toNat_natCast]
theorem w_region_beside {as : List Ax} {x : D} {l : List D} {ws : List Ax} {tk : List Str} {Q : KD} {Ed : KX} (g : GG as) (r : RowD x l) (al : AxRs l ws) (sz : ws.length ≤ 100) (sh : ∀ w ∈ ws, w.2.length ≤ 100 ∧ ∀ z ∈ w.2, z.length ≤ 100)
    (hQ : fb as tk [] 0 ws = none → Q (.d (.tup (natsD (PX.region as ws))))) (hE : ∀ j wd, fb as tk [] 0 ws = some (j, wd) → Ed ⟨"NoWish", ["place", "word"], [.int (j : Nat), .str wd]⟩) :
    f_region_beside [.d (gridD as), .d x, .d (strsT tk)] Q Ed := by
  unfold f_region_beside mDef m_region_beside
  mi
  refine w_wanted g.nd r al sz sh (fun hf => ?_) hE
  obtain ⟨n1, n2⟩ := fb_ok hf
  mi
  simp only [gridD, gD, cellsT]
  mi
  refine ⟨by cl, fun a => ?_⟩
  have hz := g.sz
  unfold nCells at hz
  refine lcD_go (regF as ws) _ [] (fun y hy yes no hyes => ?_) (by rw [nums_len, List.length_map]; simp; omega) ?_
  · obtain ⟨i, hi⟩ := List.mem_iff_getElem?.mp hy
    obtain ⟨z, hz, rfl⟩ := nums_at hi
    rw [List.getElem?_map, Option.map_eq_some_iff] at hz
    obtain ⟨c, hc, rfl⟩ := hz
    have hat : PX.At c as := PX.mem_cells.mp (List.mem_of_getElem? hc)
    simp only [gSets, gSets.go]
    mi
    refine w_is_wanted hat.len ?_
    rw [PX.fitsP_eq g.nd n1 (fun w hw => (n2 w hw).1) hat]
    have e : PX.inReg as ws i = PX.fits as ws c := PX.inReg_at hc
    simp only [strsT, regF, Int.toNat_natCast, e] at hyes
    dsimp only
    cases q : PX.fits as ws c with
    | true => rw [q] at hyes; rw [if_pos rfl]; exact hyes
    | false => rw [q] at hyes; rw [if_neg (by simp)]; exact hyes
  · rw [List.nil_append, regF_all]
    mi
    exact hQ hf
theorem w_region_besideN {x g t : D} {Q : KD} {Ed : KX} (n : NoTy x) (s : isSeqD x = false) (h : Ed ⟨"NoWish", ["place", "word"], [.int (-1), .str "wish"]⟩) : f_region_beside [.d g, .d x, .d t] Q Ed := by
  unfold f_region_beside mDef m_region_beside
  mi
  exact w_wantedN n s h
theorem w_sum_of {as : List Ax} {x : D} {l : List D} {ws : List Ax} {Q : KD} {Ed : KX} (g : GG as) (r : RowD x l) (al : AxRs l ws) (sz : ws.length ≤ 100) (sh : ∀ w ∈ ws, w.2.length ≤ 100 ∧ ∀ z ∈ w.2, z.length ≤ 100)
    (hQ : fb as [] [] 0 ws = none → Q (.d (qD (gridD as) (onesR (nCells as) (PX.region as ws))))) (hE : ∀ j wd, fb as [] [] 0 ws = some (j, wd) → Ed ⟨"NoWish", ["place", "word"], [.int (j : Nat), .str wd]⟩) :
    f_sum_of [.d (gridD as), .d x] Q Ed := by
  unfold f_sum_of mDef m_sum_of f_Grid_x_region mDef m_Grid_x_region
  have hz := g.sz
  simp only [gridD, gD]
  mi
  refine ⟨by decide, ?_⟩
  refine w_region_beside (tk := []) g r al sz sh (fun hf => ?_) hE
  mi
  exact w_sum_over (by omega) (hQ hf)
theorem w_sum_ofN {as : List Ax} {x : D} {Q : KD} {Ed : KX} (n : NoTy x) (s : isSeqD x = false) (h : Ed ⟨"NoWish", ["place", "word"], [.int (-1), .str "wish"]⟩) : f_sum_of [.d (gridD as), .d x] Q Ed := by
  unfold f_sum_of mDef m_sum_of f_Grid_x_region mDef m_Grid_x_region
  simp only [gridD, gD]
  mi
  exact ⟨by decide, w_region_besideN n s h⟩
end DL

namespace Rt
theorem low_eq {t b t2 b2 : Int} (h : Low t b) (k : Low t2 b2) : t * b2 = t2 * b ↔ t = t2 ∧ b = b2 := by
  constructor
  · intro e
    have hb := h.pos
    have hk := k.pos
    have e1 : t.natAbs * b2.natAbs = t2.natAbs * b.natAbs := by rw [← Int.natAbs_mul, ← Int.natAbs_mul, e]
    have d1 : b.natAbs ∣ b2.natAbs := by
      have c : Nat.Coprime b.natAbs t.natAbs := by
        show Nat.gcd _ _ = 1
        rw [Nat.gcd_comm]
        exact h.cop
      exact c.dvd_of_dvd_mul_left ⟨t2.natAbs, by rw [e1, Nat.mul_comm]⟩
    have d2 : b2.natAbs ∣ b.natAbs := by
      have c : Nat.Coprime b2.natAbs t2.natAbs := by
        show Nat.gcd _ _ = 1
        rw [Nat.gcd_comm]
        exact k.cop
      exact c.dvd_of_dvd_mul_left ⟨t.natAbs, by rw [← e1, Nat.mul_comm]⟩
    have e2 := Nat.dvd_antisymm d1 d2
    have e3 : b = b2 := by omega
    subst e3
    exact ⟨Int.eq_of_mul_eq_mul_right (by omega) e, rfl⟩
  · rintro ⟨rfl, rfl⟩
    rfl
end Rt

/-! plain mathematics of sums of products of fractions -/
namespace Rt
theorem nrm_cross {p q : Int} (h : q ≠ 0) : nrmT p q * q = p * nrmB p q := by
  have hs := shr_ne (p := p) h
  have e1 : shr p q * nrmT p q = p := fdiv_mul hs (shr_dvd_l p q)
  have e2 : shr p q * nrmB p q = q := fdiv_mul hs (shr_dvd_r p q)
  have go : ∀ x y z : Int, z * x = p → z * y = q → x * q = p * y := by
    intro x y z h1 h2
    rw [← h1, ← h2]
    grind
  exact go _ _ _ e1 e2
/-- two fractions of one value have one lowest form -/
theorem nrm_same {p q t b : Int} (h : q ≠ 0) (l : Low t b) (e : t * q = b * p) : nrmT p q = t ∧ nrmB p q = b := by
  have c := nrm_cross (p := p) h
  refine (low_eq (nrm_low h) l).mp ?_
  refine Int.eq_of_mul_eq_mul_right h ?_
  generalize nrmT p q = x at *
  generalize nrmB p q = y at *
  grind
abbrev Frc := Int × Int
def plusF (x y : Frc) : Frc := (nrmT (x.1 * y.2 + y.1 * x.2) (x.2 * y.2), nrmB (x.1 * y.2 + y.1 * x.2) (x.2 * y.2))
def byF (x y : Frc) : Frc := (nrmT (x.1 * y.1) (x.2 * y.2), nrmB (x.1 * y.1) (x.2 * y.2))
/-- the sum of the products, step by step -/
def runF (ws as : List Frc) : Nat → Frc
  | 0 => (0, 1)
  | k + 1 => plusF (runF ws as k) (byF (ws.getD k (0, 1)) (as.getD k (0, 1)))
def lcmL (ns : List Frc) : Nat := ns.foldl (fun b n => Nat.lcm b n.2.natAbs) 1
def topsL (ns : List Frc) (B : Int) : List Int := ns.map fun n => n.1 * B.fdiv n.2
def dotL (xs ys : List Int) : Nat → Int
  | 0 => 0
  | k + 1 => dotL xs ys k + xs.getD k 0 * ys.getD k 0
theorem lcmL_snoc (ns : List Frc) (n : Frc) : lcmL (ns ++ [n]) = Nat.lcm (lcmL ns) n.2.natAbs := by
  unfold lcmL
  rw [List.foldl_append]
  rfl
theorem lcmL_dvd (ns : List Frc) : ∀ n ∈ ns, n.2.natAbs ∣ lcmL ns := by
  have go : ∀ (ns : List Frc) (b : Nat), b ∣ ns.foldl (fun b n => Nat.lcm b n.2.natAbs) b ∧ ∀ n ∈ ns, n.2.natAbs ∣ ns.foldl (fun b n => Nat.lcm b n.2.natAbs) b := by
    intro ns
    induction ns with
    | nil => exact fun b => ⟨Nat.dvd_refl b, fun n h => absurd h (by simp)⟩
    | cons m r ih =>
      intro b
      obtain ⟨h1, h2⟩ := ih (Nat.lcm b m.2.natAbs)
      rw [List.foldl_cons]
      refine ⟨Nat.dvd_trans (Nat.dvd_lcm_left _ _) h1, fun n hn => ?_⟩
      rcases List.mem_cons.mp hn with rfl | hn
      · exact Nat.dvd_trans (Nat.dvd_lcm_right _ _) h1
      · exact h2 n hn
  exact (go ns 1).2
theorem lcmL_pos (ns : List Frc) (h : ∀ n ∈ ns, 0 < n.2) : 0 < lcmL ns := by
  have go : ∀ (ns : List Frc) (b : Nat), 0 < b → (∀ n ∈ ns, 0 < n.2) → 0 < ns.foldl (fun b n => Nat.lcm b n.2.natAbs) b := by
    intro ns
    induction ns with
    | nil => exact fun b h _ => h
    | cons m r ih =>
      intro b hb h
      rw [List.foldl_cons]
      exact ih _ (Nat.lcm_pos hb (by have := h m List.mem_cons_self; omega)) fun n hn => h n (List.mem_cons_of_mem _ hn)
  exact go ns 1 (by decide) h
theorem lcmL_le (c : Nat) (ns : List Frc) (h : ∀ n ∈ ns, n.2.natAbs ≤ c) : lcmL ns ≤ c ^ ns.length := by
  have go : ∀ (ns : List Frc) (b : Nat), (∀ n ∈ ns, n.2.natAbs ≤ c) → ns.foldl (fun b n => Nat.lcm b n.2.natAbs) b ≤ b * c ^ ns.length := by
    intro ns
    induction ns with
    | nil => exact fun b h => by simp
    | cons m r ih =>
      intro b h
      rw [List.foldl_cons, List.length_cons, Nat.pow_succ]
      refine Nat.le_trans (ih _ fun n hn => h n (List.mem_cons_of_mem _ hn)) ?_
      have h1 : Nat.lcm b m.2.natAbs ≤ b * m.2.natAbs := Nat.div_le_self _ _
      have h2 : b * m.2.natAbs ≤ b * c := Nat.mul_le_mul_left _ (h m List.mem_cons_self)
      have h3 := Nat.mul_le_mul_right (c ^ r.length) (Nat.le_trans h1 h2)
      rw [show b * (c ^ r.length * c) = b * c * c ^ r.length by rw [Nat.mul_comm (c ^ r.length) c, Nat.mul_assoc]]
      exact h3
  have := go ns 1 h
  rwa [Nat.one_mul] at this
theorem getD_map' {α β : Type} (f : α → β) (l : List α) {d : α} {e : β} {j : Nat} (h : j < l.length) : (l.map f).getD j e = f (l.getD j d) := by
  rw [List.getD_eq_getElem?_getD, List.getD_eq_getElem?_getD, List.getElem?_map, List.getElem?_eq_getElem h]
  rfl
theorem run_step {s d x y wt wb at_ ab T B C u v : Int} (hd : d ≠ 0) (hy : y ≠ 0) (h2 : s * (B * C) = d * T) (h3 : x * (wb * ab) = (wt * at_) * y) (h4 : B = wb * u) (h5 : C = ab * v) :
    nrmT (s * y + x * d) (d * y) * (B * C) = nrmB (s * y + x * d) (d * y) * (T + (wt * u) * (at_ * v)) := by
  have hn : d * y ≠ 0 := Int.mul_ne_zero hd hy
  have h1 := nrm_cross (p := s * y + x * d) hn
  refine Int.eq_of_mul_eq_mul_right hn ?_
  generalize nrmT (s * y + x * d) (d * y) = s' at *
  generalize nrmB (s * y + x * d) (d * y) = d' at *
  grind
/-- the running sum has the value of the sum over one bottom -/
theorem run_val (ws as : List Frc) (hw : ∀ n ∈ ws, 0 < n.2) (ha : ∀ n ∈ as, 0 < n.2) : ∀ k, k ≤ ws.length → k ≤ as.length →
    Low (runF ws as k).1 (runF ws as k).2 ∧ (runF ws as k).1 * ((lcmL ws : Int) * (lcmL as : Int)) = (runF ws as k).2 * dotL (topsL ws (lcmL ws)) (topsL as (lcmL as)) k
  | 0, _, _ => ⟨⟨by show (0 : Int) < 1; decide, by show Nat.gcd 0 1 = 1; rfl⟩, by show (0 : Int) * _ = 1 * 0; simp⟩
  | k + 1, h1, h2 => by
    obtain ⟨l, e⟩ := run_val ws as hw ha k (by omega) (by omega)
    have m1 : ws.getD k (0, 1) = ws[k]'h1 := by rw [List.getD_eq_getElem?_getD, List.getElem?_eq_getElem h1]; rfl
    have m2 : as.getD k (0, 1) = as[k]'h2 := by rw [List.getD_eq_getElem?_getD, List.getElem?_eq_getElem h2]; rfl
    have p1 := hw _ (List.getElem_mem h1)
    have p2 := ha _ (List.getElem_mem h2)
    have dv1 : (ws[k]'h1).2 ∣ (lcmL ws : Int) := by
      rw [← Int.natAbs_dvd_natAbs]
      exact lcmL_dvd ws _ (List.getElem_mem h1)
    have dv2 : (as[k]'h2).2 ∣ (lcmL as : Int) := by
      rw [← Int.natAbs_dvd_natAbs]
      exact lcmL_dvd as _ (List.getElem_mem h2)
    have q1 : (lcmL ws : Int) = (ws[k]'h1).2 * (lcmL ws : Int).fdiv (ws[k]'h1).2 := (fdiv_mul (by omega) dv1).symm
    have q2 : (lcmL as : Int) = (as[k]'h2).2 * (lcmL as : Int).fdiv (as[k]'h2).2 := (fdiv_mul (by omega) dv2).symm
    have hq : (ws[k]'h1).2 * (as[k]'h2).2 ≠ 0 := Int.mul_ne_zero (by omega) (by omega)
    have lb := nrm_low (p := (ws[k]'h1).1 * (as[k]'h2).1) hq
    have cb := nrm_cross (p := (ws[k]'h1).1 * (as[k]'h2).1) hq
    have hd : (runF ws as k).2 ≠ 0 := Int.ne_of_gt l.pos
    have e2 := run_step hd (Int.ne_of_gt lb.pos) e cb q1 q2
    have d1 : dotL (topsL ws (lcmL ws)) (topsL as (lcmL as)) (k + 1) = dotL (topsL ws (lcmL ws)) (topsL as (lcmL as)) k + ((ws[k]'h1).1 * (lcmL ws : Int).fdiv (ws[k]'h1).2) * ((as[k]'h2).1 * (lcmL as : Int).fdiv (as[k]'h2).2) := by
      show _ + _ * _ = _
      unfold topsL
      rw [getD_map' (d := (0, 1)) _ _ h1, getD_map' (d := (0, 1)) _ _ h2, m1, m2]
    have r1 : runF ws as (k + 1) = plusF (runF ws as k) (byF (ws[k]'h1) (as[k]'h2)) := by
      show plusF _ (byF _ _) = _
      rw [m1, m2]
    rw [r1, d1]
    exact ⟨nrm_low (Int.mul_ne_zero hd (Int.ne_of_gt lb.pos)), e2⟩
/-- .. so the sum of products is the law's -/
theorem sum_is (ws as : List Frc) (hw : ∀ n ∈ ws, 0 < n.2) (ha : ∀ n ∈ as, 0 < n.2) (hl : ws.length = as.length) :
    nrmT (dotL (topsL ws (lcmL ws)) (topsL as (lcmL as)) ws.length) ((lcmL ws : Int) * (lcmL as : Int)) = (runF ws as ws.length).1 ∧
    nrmB (dotL (topsL ws (lcmL ws)) (topsL as (lcmL as)) ws.length) ((lcmL ws : Int) * (lcmL as : Int)) = (runF ws as ws.length).2 := by
  obtain ⟨l, e⟩ := run_val ws as hw ha ws.length (Nat.le_refl _) (by omega)
  have p1 := lcmL_pos ws hw
  have p2 := lcmL_pos as ha
  exact nrm_same (Int.mul_ne_zero (by omega) (by omega)) l e
end Rt

set_option linter.all false
set_option maxRecDepth 100000
set_option maxHeartbeats 1000000
/-! what is equal; ratios reckoned -/
namespace DL
open PySem L2 He DX DW
/-! data that can be told apart -/
def strsP (zs : List Str) : PyData := .tuple (zs.map .str)
def axP (a : Ax) : PyData := .tuple [.str a.1, strsP a.2]
theorem pys_map {α : Type} {f : α → D} {g : α → PyData} (h : ∀ x, D.py (f x) = some (g x)) : ∀ l : List α, pys (l.map f) = some (l.map g)
  | [] => rfl
  | a :: l => by rw [List.map_cons, List.map_cons, pys, h, pys_map h l]
theorem py_str (z : Str) : D.py (.str z) = some (.str z) := by simp [D.py]
theorem py_strs (zs : List Str) : D.py (strsT zs) = some (strsP zs) := by
  unfold strsT strsP
  rw [D.py, pys_map py_str]
  rfl
theorem py_ax (a : Ax) : D.py (axT a) = some (axP a) := by
  unfold axT axP
  rw [D.py, pys, pys, pys, py_str, py_strs]
  rfl
theorem py_axs (as : List Ax) : D.py (axsT as) = some (.tuple (as.map axP)) := by
  unfold axsT
  rw [D.py, pys_map py_ax]
  rfl
theorem eqvAll_map {α : Type} {f : α → PyData} (h : ∀ x y, PyData.eqv (f x) (f y) = true ↔ x = y) : ∀ xs ys : List α, PyData.eqvAll (xs.map f) (ys.map f) = true ↔ xs = ys
  | [], [] => by simp [PyData.eqvAll]
  | [], y :: ys => by simp [PyData.eqvAll]
  | x :: xs, [] => by simp [PyData.eqvAll]
  | x :: xs, y :: ys => by
    rw [List.map_cons, List.map_cons, PyData.eqvAll, Bool.and_eq_true, h, eqvAll_map h xs ys, List.cons.injEq]
theorem eqv_str (x y : Str) : PyData.eqv (.str x) (.str y) = true ↔ x = y := by
  rw [PyData.eqv]
  exact beq_iff_eq
theorem eqv_strs (xs ys : List Str) : PyData.eqv (strsP xs) (strsP ys) = true ↔ xs = ys := by
  unfold strsP
  rw [PyData.eqv]
  exact eqvAll_map eqv_str xs ys
theorem eqv_ax (a b : Ax) : PyData.eqv (axP a) (axP b) = true ↔ a = b := by
  unfold axP
  rw [PyData.eqv, PyData.eqvAll, PyData.eqvAll, PyData.eqvAll, Bool.and_eq_true, Bool.and_eq_true, eqv_str, eqv_strs]
  constructor
  · rintro ⟨h1, h2, _⟩
    exact Prod.ext h1 h2
  · rintro rfl
    exact ⟨rfl, rfl, rfl⟩
theorem eqv_axs (as bs : List Ax) : PyData.eqv (.tuple (as.map axP)) (.tuple (bs.map axP)) = true ↔ as = bs := by
  rw [PyData.eqv]
  exact eqvAll_map eqv_ax as bs
theorem lay_map {α : Type} {f : α → PyData} : ∀ {xs : List α}, (∀ x ∈ xs, (f x).canLay0 = true) → PyData.canLayAll0 (xs.map f) = true
  | [], _ => by rw [List.map_nil, PyData.canLayAll0]
  | x :: xs, h => by
    rw [List.map_cons, PyData.canLayAll0, h x List.mem_cons_self, lay_map fun y hy => h y (List.mem_cons_of_mem _ hy)]
    rfl
theorem depth_map {α : Type} {f : α → PyData} {n : Nat} (h : ∀ x, (f x).depth ≤ n) : ∀ xs : List α, PyData.depthAll (xs.map f) ≤ n
  | [] => by rw [List.map_nil, PyData.depthAll]; exact Nat.zero_le _
  | x :: xs => by
    rw [List.map_cons, PyData.depthAll]
    exact Nat.max_le.mpr ⟨h x, depth_map h xs⟩
theorem depth_str (x : Str) : (PyData.str x).depth ≤ 0 := by
  rw [PyData.depth]
  exact Nat.le_refl _
theorem depth_strs (zs : List Str) : (strsP zs).depth ≤ 1 := by
  unfold strsP
  rw [PyData.depth]
  have := depth_map (f := PyData.str) depth_str zs
  omega
theorem depth_ax (a : Ax) : (axP a).depth ≤ 2 := by
  unfold axP
  rw [PyData.depth, PyData.depthAll, PyData.depthAll, PyData.depthAll]
  have h1 := depth_str a.1
  have h2 := depth_strs a.2
  omega
theorem sign_le : ∀ c : Nat, (letD c || digD c) = true → c < 200 := by
  intro c h
  rw [Bool.or_eq_true] at h
  rcases h with h | h
  · have h2 : c ∈ ("abcdefghijklmnopqrstuvwxyz" : Str).cps.toList := of_decide_eq_true h
    revert h2
    have : ∀ d ∈ ("abcdefghijklmnopqrstuvwxyz" : Str).cps.toList, d < 200 := by decide +kernel
    exact this c
  · have h2 : c ∈ ("0123456789" : Str).cps.toList := of_decide_eq_true h
    revert h2
    have : ∀ d ∈ ("0123456789" : Str).cps.toList, d < 200 := by decide +kernel
    exact this c
theorem lay_name {z : Str} (h : isNameS z = true) : (PyData.str z).canLay0 = true := by
  rw [PyData.canLay0]
  show (z.cps.all _) = true
  rw [Array.all_eq_true]
  intro i hi
  have hm : z.cps[i] ∈ z.cps.toList := Array.mem_toList_iff.mpr (Array.getElem_mem hi)
  unfold isNameS isWordS at h
  simp only [Bool.and_eq_true] at h
  have := List.all_eq_true.mp h.1.2.2 _ hm
  exact decide_eq_true (Nat.lt_of_lt_of_le (sign_le _ this) (by decide))
theorem lay_strs {zs : List Str} (h : NmS zs) : (strsP zs).canLay0 = true := by
  unfold strsP
  rw [PyData.canLay0]
  exact lay_map fun z hz => lay_name (h z hz)
theorem lay_ax {a : Ax} (h1 : isNameS a.1 = true) (h2 : NmS a.2) : (axP a).canLay0 = true := by
  unfold axP
  rw [PyData.canLay0, PyData.canLayAll0, PyData.canLayAll0, PyData.canLayAll0, lay_name h1, lay_strs h2]
  rfl
theorem shaped_axs {as : List Ax} (h1 : NmS (PX.names as)) (h2 : ∀ a ∈ as, NmS a.2) : SeqAt.shaped (.tuple (as.map axP)) = true := by
  unfold SeqAt.shaped
  rw [PyData.canLay0, lay_map fun a ha => lay_ax (h1 _ (List.mem_map_of_mem (f := (·.1)) ha)) (h2 a ha), PyData.depth]
  have := depth_map depth_ax as
  exact decide_eq_true (by omega)
theorem iff_bool {b : Bool} {p : Prop} [Decidable p] (h : b = true ↔ p) : b = decide p := by
  rw [Bool.eq_iff_iff, h, decide_eq_true_iff]
theorem w_grid_eq {as bs : List Ax} {Q : KD} {Ed : KX} (g : GG as) (k : GG bs) (h : Q (.d (.bl (decide (as = bs))))) : f_Grid_x___eq__ [.d (gridD as), .d (gridD bs)] Q Ed := by
  unfold f_Grid_x___eq__ mDef0 m_Grid_x___eq__
  simp only [gridD, gD]
  mi
  rw [show isC "Grid" (D.obj "Grid" ["axes", "cells", "size"] [axsT bs, cellsT bs, D.int ↑(nCells bs)]) = true from rfl, if_pos rfl]
  simp only [fEqD, Rv.py, py_axs]
  refine ⟨shaped_axs g.nn g.nm, shaped_axs k.nn k.nm, ?_⟩
  rw [Bool.false_xor, iff_bool (eqv_axs as bs)]
  exact h
/-! ratios -/
abbrev Frc := Int × Int
def fR (f : Frc) : D := rD f.1 f.2
def frOf : D → Frc
  | .obj _ _ [.int t, .int b] => (t, b)
  | _ => (0, 1)
theorem frOf_fR (f : Frc) : frOf (fR f) = f := rfl
theorem fR_inj {a b : Frc} (h : fR a = fR b) : a = b := by rw [← frOf_fR a, h, frOf_fR]
theorem vi_eq (a b : Int) : decide (V.int a = V.int b) = decide (a = b) := by
  rw [Bool.eq_iff_iff, decide_eq_true_iff, decide_eq_true_iff]
  exact ⟨V.int.inj, fun h => by rw [h]⟩
theorem w_ratio_eq {x y : Frc} {Q : KD} {Ed : KX} (h : Q (.d (.bl (decide (x = y))))) : f_Ratio_x___eq__ [.d (fR x), .d (fR y)] Q Ed := by
  unfold f_Ratio_x___eq__ mDef0 m_Ratio_x___eq__
  simp only [fR, rD]
  mi
  rw [show isC "Ratio" (D.obj "Ratio" ["top", "bottom"] [D.int y.1, D.int y.2]) = true from rfl]
  mi
  have e : decide (x = y) = (decide (x.1 = y.1) && decide (x.2 = y.2)) := by
    rw [Bool.eq_iff_iff, Bool.and_eq_true, decide_eq_true_iff, decide_eq_true_iff, decide_eq_true_iff]
    exact Prod.ext_iff
  rw [e] at h
  refine ⟨rfl, ?_⟩
  rw [vi_eq]
  cases c : decide (x.1 = y.1) with
  | true =>
    rw [c, Bool.true_and] at h
    rw [if_pos rfl]
    refine ⟨rfl, ?_⟩
    rw [vi_eq]
    exact h
  | false => rw [c, Bool.false_and] at h; rw [if_neg (by simp)]; exact h
theorem w_ratio_eqI {x : Frc} {i : Int} {Q : KD} {Ed : KX} (h : Q (.d (.bl (decide (x.2 = 1) && decide (x.1 = i))))) : f_Ratio_x___eq__ [.d (fR x), .d (.int i)] Q Ed := by
  unfold f_Ratio_x___eq__ mDef0 m_Ratio_x___eq__
  simp only [fR, rD]
  mi
  rw [show isC "Ratio" (D.int i) = false from rfl]
  mi
  refine w_is_integer nt_int ?_
  simp only [isInt]
  mi
  refine ⟨rfl, ?_⟩
  rw [vi_eq]
  cases c : decide (x.2 = 1) with
  | true =>
    rw [c, Bool.true_and] at h
    rw [if_pos rfl]
    refine ⟨rfl, ?_⟩
    rw [vi_eq]
    exact h
  | false => rw [c, Bool.false_and] at h; rw [if_neg (by simp)]; exact h
def nrmF (p q : Int) : Frc := (Rt.nrmT p q, Rt.nrmB p q)
theorem sb8 {n : Nat} {x : Int} (h : Sb n x) (l : n ≤ 8000) : x.natAbs < 2 ^ 8000 := Nat.lt_of_lt_of_le h (Nat.pow_le_pow_right (by decide) l)
/-- Ratio(t, b) made within an operator -/
theorem w_made {t b : Int} {n : Nat} {Q : KD} {Ed : KX} (hb : b ≠ 0) (sb : Sb n b) (l : n ≤ 8000) (h : Q (.d (fR (nrmF t b)))) : f_Ratio_x___init__ [.d (.int t), .d (.int b)] (fun ns ds => okF "Ratio" ns = true ∧ Q (.d (.obj "Ratio" ns ds))) Ed :=
  w_ratio hb (sb8 sb l) ⟨by decide, h⟩
theorem w_radd {x y : Frc} {n m : Nat} {Q : KD} {Ed : KX} (hb : x.2 ≠ 0) (hd : y.2 ≠ 0) (sa : Sb n x.1) (sb : Sb n x.2) (sc : Sb m y.1) (sd : Sb m y.2) (l : n + m ≤ 4900) (h : Q (.d (fR (Rt.plusF x y)))) : f_Ratio_x___add__ [.d (fR x), .d (fR y)] Q Ed := by
  unfold f_Ratio_x___add__ mDef m_Ratio_x___add__
  mi
  refine w_number_r ?_
  mi
  refine w_as_ratio ?_
  simp only [fR, rD]
  mi
  refine ⟨sa.mulW sd (by omega), sc.mulW sb (by omega), sb.mulW sd (by omega), ?_⟩
  exact w_made (Int.mul_ne_zero hb hd) (sb.mul sd) (by omega) h
theorem w_rneg {x : Frc} {n : Nat} {Q : KD} {Ed : KX} (hb : x.2 ≠ 0) (sb : Sb n x.2) (l : n ≤ 8000) (h : Q (.d (fR (nrmF (-x.1) x.2)))) : f_Ratio_x___neg__ [.d (fR x)] Q Ed := by
  unfold f_Ratio_x___neg__ mDef m_Ratio_x___neg__
  simp only [fR, rD]
  mi
  exact w_made hb sb l h
theorem w_rmul {x y : Frc} {n m : Nat} {Q : KD} {Ed : KX} (hb : x.2 ≠ 0) (hd : y.2 ≠ 0) (sa : Sb n x.1) (sb : Sb n x.2) (sc : Sb m y.1) (sd : Sb m y.2) (l : n + m ≤ 4900) (h : Q (.d (fR (Rt.byF x y)))) : f_Ratio_x___mul__ [.d (fR x), .d (fR y)] Q Ed := by
  unfold f_Ratio_x___mul__ mDef m_Ratio_x___mul__
  mi
  refine w_number_r ?_
  mi
  refine w_as_ratio ?_
  simp only [fR, rD]
  mi
  refine ⟨sa.mulW sc (by omega), sb.mulW sd (by omega), ?_⟩
  exact w_made (Int.mul_ne_zero hb hd) (sb.mul sd) (by omega) h
end DL

set_option linter.all false
set_option maxRecDepth 100000
set_option maxHeartbeats 1000000
/-! questions reckoned -/
namespace DL
open PySem L2 He DX DW
def qq (as : List Ax) (ws : List Frc) : D := qD (gridD as) (ws.map fR)
structure FrB (n : Nat) (x : Frc) : Prop where
  nz : x.2 ≠ 0
  t : Sb n x.1
  b : Sb n x.2
theorem Sb.mono {n m : Nat} {x : Int} (h : Sb n x) (l : n ≤ m) : Sb m x := Nat.lt_of_lt_of_le h (Nat.pow_le_pow_right (by decide) l)
theorem FrB.mono {n m : Nat} {x : Frc} (h : FrB n x) (l : n ≤ m) : FrB m x := ⟨h.nz, h.t.mono l, h.b.mono l⟩
def onesF (n : Nat) (ps : List Nat) : List Frc := (List.range n).map fun i => (oneI ps i, 1)
theorem ones_eq (n : Nat) (ps : List Nat) : onesR n ps = (onesF n ps).map fR := by
  unfold onesR onesF
  rw [List.map_map]
  rfl
theorem onesF_len (n : Nat) (ps : List Nat) : (onesF n ps).length = n := by unfold onesF; rw [List.length_map, List.length_range]
theorem oneI_sb (ps : List Nat) (i : Nat) : Sb 1 (oneI ps i) := by
  unfold Sb oneI
  split <;> decide
theorem onesF_frb {n : Nat} {ps : List Nat} : ∀ x ∈ onesF n ps, FrB 1 x ∧ 0 < x.2 := fun x hx => by
  obtain ⟨i, _, rfl⟩ := List.mem_map.mp hx
  exact ⟨⟨by show (1 : Int) ≠ 0; decide, oneI_sb ps i, by show Sb 1 1; unfold Sb; decide⟩, by show (0 : Int) < 1; decide⟩
theorem num_fr (ws : List Frc) : F2 Num (ws.map fR) (ws.map fR) := f2_map (fun a => .rat _ _) ws
theorem w_make_q {as : List Ax} {ws : List Frc} {Q : KD} {Ed : KX} (hn : nCells as ≤ 1000) (hl : ws.length = nCells as) (h : Q (.d (qq as ws))) :
    f_Question_x___init__ [.d (gridD as), .d (.lst (ws.map fR))] (fun ns ds => okF "Question" ns = true ∧ Q (.d (.obj "Question" ns ds))) Ed :=
  w_question (ys := ws.map fR) (by rw [List.length_map, hl]) hn (num_fr ws) ⟨by decide, h⟩
theorem pairs_map {α : Type} (f : α → D) : ∀ (l m : List α), pairs (l.map f) (m.map f) = List.zipWith (fun x y => .tup [f x, f y]) l m
  | [], _ => by simp [pairs]
  | _ :: _, [] => by simp [pairs]
  | a :: l, b :: m => by
    have ih := pairs_map f l m
    unfold pairs at ih ⊢
    rw [List.map_cons, List.map_cons, List.zipWith_cons_cons, List.zipWith_cons_cons, ih]
theorem map_zipWith' {α β γ δ : Type} (g : γ → δ) (f : α → β → γ) : ∀ (l : List α) (m : List β), (List.zipWith f l m).map g = List.zipWith (fun x y => g (f x y)) l m
  | [], _ => by simp
  | _ :: _, [] => by simp
  | a :: l, b :: m => by simp [map_zipWith' g f l m]
theorem mem_zipWith {α β γ : Type} {f : α → β → γ} : ∀ {l : List α} {m : List β} {z : γ}, z ∈ List.zipWith f l m → ∃ x ∈ l, ∃ y ∈ m, z = f x y
  | [], _, z, h => by simp at h
  | _ :: _, [], z, h => by simp at h
  | a :: l, b :: m, z, h => by
    rw [List.zipWith_cons_cons, List.mem_cons] at h
    rcases h with rfl | h
    · exact ⟨a, List.mem_cons_self, b, List.mem_cons_self, rfl⟩
    · obtain ⟨x, hx, y, hy, e⟩ := mem_zipWith h
      exact ⟨x, List.mem_cons_of_mem _ hx, y, List.mem_cons_of_mem _ hy, e⟩
def onPair (f : D → D → D) : D → D
  | .tup [x, y] => f x y
  | _ => .non
def plusW (ws vs : List Frc) : List Frc := List.zipWith Rt.plusF ws vs
theorem plusW_len {ws vs : List Frc} {n : Nat} (h1 : ws.length = n) (h2 : vs.length = n) : (plusW ws vs).length = n := by unfold plusW; rw [List.length_zipWith]; omega
theorem w_qadd {as : List Ax} {ws vs : List Frc} {n m : Nat} {Q : KD} {Ed : KX} (g : GG as) (h1 : ws.length = nCells as) (h2 : vs.length = nCells as) (b1 : ∀ x ∈ ws, FrB n x) (b2 : ∀ x ∈ vs, FrB m x) (l : n + m ≤ 4900) (h : Q (.d (qq as (plusW ws vs)))) :
    f_Question_x___add__ [.d (qq as ws), .d (qq as vs)] Q Ed := by
  unfold f_Question_x___add__ mDef m_Question_x___add__
  have hz := g.sz
  simp only [qq, qD]
  mi
  rw [show isC "Question" (D.obj "Question" ["grid", "weights"] [gridD as, .tup (vs.map fR)]) = true from rfl]
  mi
  simp only [gridD, gD]
  st
  refine w_grid_eq g g ?_
  rw [decide_eq_true rfl]
  mi
  refine ⟨by rw [List.length_map, List.length_map, h1, h2], by cl, fun a => ?_⟩
  refine lcD_map (onPair fun x y => fR (Rt.plusF (frOf x) (frOf y))) _ (fun y hy Q2 hQ2 => ?_) (by rw [pairs_len (by rw [List.length_map, List.length_map, h1, h2]), List.length_map]; omega) ?_
  · rw [pairs_map] at hy
    obtain ⟨x, hx, y, hy', rfl⟩ := mem_zipWith hy
    obtain ⟨x1, x2, x3⟩ := b1 x hx
    obtain ⟨y1, y2, y3⟩ := b2 y hy'
    simp only [gSets, gSets.go, fR, rD]
    mi
    st
    exact w_radd x1 y1 x2 x3 y2 y3 l hQ2
  · rw [pairs_map, map_zipWith']
    mi
    have z := w_make_q (Ed := Ed) (ws := plusW ws vs) (by omega) (plusW_len h1 h2) h
    rw [show (List.zipWith (fun x y => onPair (fun x y => fR (Rt.plusF (frOf x) (frOf y))) (.tup [fR x, fR y])) ws vs) = (plusW ws vs).map fR from by unfold plusW; rw [map_zipWith']; rfl]
    exact z
theorem w_qneg {as : List Ax} {ws : List Frc} {n : Nat} {Q : KD} {Ed : KX} (g : GG as) (h1 : ws.length = nCells as) (b1 : ∀ x ∈ ws, FrB n x) (l : n ≤ 4900) (h : Q (.d (qq as (ws.map fun x => nrmF (-x.1) x.2)))) :
    f_Question_x___neg__ [.d (qq as ws)] Q Ed := by
  unfold f_Question_x___neg__ mDef m_Question_x___neg__
  have hz := g.sz
  simp only [qq, qD]
  mi
  refine ⟨by cl, fun a => ?_⟩
  refine lcD_map (fun x => fR (nrmF (-(frOf x).1) (frOf x).2)) _ (fun y hy Q2 hQ2 => ?_) (by rw [List.length_map]; omega) ?_
  · obtain ⟨x, hx, rfl⟩ := List.mem_map.mp hy
    obtain ⟨x1, x2, x3⟩ := b1 x hx
    simp only [fR, rD]
    mi
    st
    exact w_rneg x1 x3 (by omega) hQ2
  · mi
    have := w_make_q (Ed := Ed) (ws := ws.map fun x => nrmF (-x.1) x.2) (by omega) (by rw [List.length_map, h1]) h
    rw [List.map_map] at this ⊢
    exact this
theorem w_qsub {as : List Ax} {ws vs : List Frc} {n m : Nat} {Q : KD} {Ed : KX} (g : GG as) (h1 : ws.length = nCells as) (h2 : vs.length = nCells as) (b1 : ∀ x ∈ ws, FrB n x) (b2 : ∀ x ∈ vs, FrB m x) (b3 : ∀ x ∈ vs, FrB m (nrmF (-x.1) x.2)) (l : n + m ≤ 4900) (h : Q (.d (qq as (plusW ws (vs.map fun x => nrmF (-x.1) x.2))))) :
    f_Question_x___sub__ [.d (qq as ws), .d (qq as vs)] Q Ed := by
  unfold f_Question_x___sub__ mDef m_Question_x___sub__
  simp only [qq, qD]
  mi
  rw [show isC "Question" (D.obj "Question" ["grid", "weights"] [gridD as, .tup (vs.map fR)]) = true from rfl]
  mi
  st
  refine w_qneg g h2 b2 (by omega) ?_
  simp only [qq, qD]
  mi
  st
  refine w_qadd g h1 (by rw [List.length_map, h2]) b1 (fun x hx => ?_) l h
  obtain ⟨y, hy, rfl⟩ := List.mem_map.mp hx
  exact b3 y hy
theorem ns_strs (l : List Str) : D.ns.nss (l.map D.str) = true := by
  induction l with
  | nil => rfl
  | cons a l ih => simp [D.ns.nss, D.ns, ih]
theorem ns_fR (x : Frc) : (fR x).ns = true := rfl
theorem w_qeq {as : List Ax} {ws vs : List Frc} {Q : KD} {Ed : KX} (g : GG as) (hl : ws.length = vs.length) (h : Q (.d (.bl (decide (ws = vs))))) :
    f_Question_x___eq__ [.d (qq as ws), .d (qq as vs)] Q Ed := by
  unfold f_Question_x___eq__ mDef0 m_Question_x___eq__
  simp only [qq, qD]
  mi
  rw [show isC "Question" (D.obj "Question" ["grid", "weights"] [gridD as, .tup (vs.map fR)]) = true from rfl]
  mi
  simp only [gridD, gD]
  st
  refine w_grid_eq g g ?_
  rw [decide_eq_true rfl]
  mi
  simp only [fEqTup, Rv.asT]
  refine ⟨fun j => decide (ws[j]? = vs[j]?), fun j a b ha hb => ?_, ?_⟩
  · rw [List.getElem?_map, Option.map_eq_some_iff] at ha hb
    obtain ⟨x, hx, rfl⟩ := ha
    obtain ⟨y, hy, rfl⟩ := hb
    have e : decide (ws[j]? = vs[j]?) = decide (x = y) := by rw [hx, hy]; exact decide_eq_decide.mpr ⟨Option.some.inj, fun h => by rw [h]⟩
    refine ⟨rfl, rfl, rfl, rfl, fun q => ?_, fun Qd hq => w_ratio_eq (by rw [← e]; exact hq)⟩
    exact e.trans (decide_eq_true (fR_inj q))
  · have e : ((List.range (min (ws.map fR).length (vs.map fR).length)).all (fun j => decide (ws[j]? = vs[j]?)) && ((ws.map fR).length == (vs.map fR).length)) = decide (ws = vs) := by
      rw [List.length_map, List.length_map, hl, Nat.min_self, beq_self_eq_true, Bool.and_true, Bool.eq_iff_iff, List.all_eq_true, decide_eq_true_iff]
      constructor
      · intro h
        refine List.ext_getElem? fun j => ?_
        rcases Nat.lt_or_ge j vs.length with c | c
        · exact of_decide_eq_true (h j (List.mem_range.mpr c))
        · rw [List.getElem?_eq_none c, List.getElem?_eq_none (by omega)]
      · rintro rfl j _
        exact decide_eq_true rfl
    rw [e]
    exact h
theorem w_is_nothing {as : List Ax} {ws : List Frc} {Q : KD} {Ed : KX} (sz : ws.length ≤ 1000) (h : Q (.d (.bl (ws.all fun x => decide (x.2 = 1) && decide (x.1 = 0))))) : f_Question_x_is_nothing [.d (qq as ws)] Q Ed := by
  unfold f_Question_x_is_nothing mDef0 m_Question_x_is_nothing
  simp only [qq, qD]
  mi
  refine ⟨by cl, fun a => ?_⟩
  refine lc_all (fun x => decide ((frOf x).2 = 1) && decide ((frOf x).1 = 0)) _ (fun y hy Q2 h2 => ?_) (by rw [List.length_map]; omega) ?_
  · obtain ⟨x, hx, rfl⟩ := List.mem_map.mp hy
    simp only [fR, rD]
    mi
    st
    exact w_ratio_eqI h2
  · rw [List.all_map]
    exact h
end DL

set_option linter.all false
set_option maxRecDepth 100000
set_option maxHeartbeats 1000000
/-! sums of products -/
namespace DL
open PySem L2 He DX DW
open Rt (lcmL topsL dotL runF plusF byF)
def intsD (l : List Int) : List D := l.map .int
theorem lcm_bound {ns : List Frc} {c : Nat} (hl : ns.length ≤ 8) (hb : ∀ x ∈ ns, Sb c x.2) (hc : c * 8 ≤ 800) : lcmL ns < 2 ^ 900 := by
  have h1 := Rt.lcmL_le (2 ^ c) ns fun x hx => Nat.le_of_lt (hb x hx)
  refine Nat.lt_of_le_of_lt h1 ?_
  rw [← Nat.pow_mul]
  refine Nat.pow_lt_pow_right (by decide) ?_
  have : c * ns.length ≤ c * 8 := Nat.mul_le_mul_left _ hl
  omega
theorem quo_sb {ns : List Frc} {c : Nat} (hl : ns.length ≤ 8) (hp : ∀ x ∈ ns, 0 < x.2) (hb : ∀ x ∈ ns, Sb c x.2) (hc : c * 8 ≤ 800) {x : Frc} (hx : x ∈ ns) : Sb 900 ((lcmL ns : Int).fdiv x.2) := by
  have xp := hp x hx
  have dv : x.2 ∣ (lcmL ns : Int) := by
    rw [← Int.natAbs_dvd_natAbs]
    exact Rt.lcmL_dvd ns _ hx
  have e : x.2 * (lcmL ns : Int).fdiv x.2 = (lcmL ns : Int) := Rt.fdiv_mul (Int.ne_of_gt xp) dv
  have e2 : x.2.natAbs * ((lcmL ns : Int).fdiv x.2).natAbs = lcmL ns := by rw [← Int.natAbs_mul, e]; rfl
  have h2 : ((lcmL ns : Int).fdiv x.2).natAbs ∣ lcmL ns := ⟨x.2.natAbs, by rw [Nat.mul_comm]; exact e2.symm⟩
  exact Nat.lt_of_le_of_lt (Nat.le_of_dvd (Rt.lcmL_pos ns hp) h2) (lcm_bound hl hb hc)
theorem w_over_one {ns : List Frc} {n c : Nat} {Q : KD} {Ed : KX} (hl : ns.length ≤ 8) (hp : ∀ x ∈ ns, 0 < x.2) (ht : ∀ x ∈ ns, Sb n x.1) (hb : ∀ x ∈ ns, Sb c x.2) (hc : c * 8 ≤ 800) (hn : n ≤ 9000) (h : Q (.d (.tup [.lst (intsD (topsL ns (lcmL ns))), .int (lcmL ns : Nat)]))) :
    f_over_one [.d (.tup (ns.map fR))] Q Ed := by
  unfold f_over_one mDef0 m_over_one
  mi
  refine forD_inv (I := fun j ρ => ∃ u, ρ = [some (.d (.tup (ns.map fR))), some (.d (.int (lcmL (ns.take j) : Nat))), u] ∧ (u = none ∨ ∃ x, u = some (.d x))) _ 0 _ ⟨_, rfl, .inl rfl⟩ ?_ ?_
  · rintro j x ρ N hx ⟨u, rfl, _⟩ e1 e2 e3 nx ct
    rw [List.getElem?_map, Option.map_eq_some_iff] at hx
    obtain ⟨f, hf, rfl⟩ := hx
    have hm := List.mem_of_getElem? hf
    simp only [fR, rD]
    mi
    simp only [f_lcm, Int.natAbs_natCast]
    refine ⟨lcm_bound (c := c) (by rw [List.length_take]; omega) (fun x hx => hb x (List.mem_of_mem_take hx)) hc, Nat.lt_of_lt_of_le (hb f hm) (Nat.pow_le_pow_right (by decide) (by omega)), ?_⟩
    mi
    refine nx _ ⟨some (.d (fR f)), ?_, .inr ⟨_, rfl⟩⟩
    rw [Nat.zero_add, take_snoc hf, Rt.lcmL_snoc]
    rfl
  · rintro ρ' ⟨u, rfl, hu⟩
    rw [Nat.zero_add, List.length_map, List.take_length]
    mi
    refine ⟨by rcases hu with rfl | ⟨x, rfl⟩ <;> cl, fun a => ?_⟩
    refine lcD_map (fun x => .int ((frOf x).1 * (lcmL ns : Int).fdiv (frOf x).2)) _ (fun y hy Q2 h2 => ?_) (by rw [List.length_map]; omega) ?_
    · obtain ⟨x, hx, rfl⟩ := List.mem_map.mp hy
      simp only [fR, rD]
      mi
      have xp := hp x hx
      have hq := quo_sb hl hp hb hc hx
      have hlog : x.2.natAbs.log2 ≤ 900 := Nat.le_trans (hb x hx).log (by omega)
      refine ⟨⟨by omega, ?_⟩, (ht x hx).mulW hq (by omega), h2⟩
      omega
    · mi
      have e : (ns.map fR).map (fun x => D.int ((frOf x).1 * (lcmL ns : Int).fdiv (frOf x).2)) = intsD (topsL ns (lcmL ns)) := by
        unfold intsD topsL
        rw [List.map_map, List.map_map]
        rfl
      rw [e]
      exact h
theorem w_over_oneL {ns : List Frc} {n c : Nat} {Q : KD} {Ed : KX} (hl : ns.length ≤ 8) (hp : ∀ x ∈ ns, 0 < x.2) (ht : ∀ x ∈ ns, Sb n x.1) (hb : ∀ x ∈ ns, Sb c x.2) (hc : c * 8 ≤ 800) (hn : n ≤ 9000) (h : Q (.d (.tup [.lst (intsD (topsL ns (lcmL ns))), .int (lcmL ns : Nat)]))) :
    f_over_one [.d (.lst (ns.map fR))] Q Ed := by
  unfold f_over_one mDef0 m_over_one
  mi
  refine forD_inv (I := fun j ρ => ∃ u, ρ = [some (.d (.lst (ns.map fR))), some (.d (.int (lcmL (ns.take j) : Nat))), u] ∧ (u = none ∨ ∃ x, u = some (.d x))) _ 0 _ ⟨_, rfl, .inl rfl⟩ ?_ ?_
  · rintro j x ρ N hx ⟨u, rfl, _⟩ e1 e2 e3 nx ct
    rw [List.getElem?_map, Option.map_eq_some_iff] at hx
    obtain ⟨f, hf, rfl⟩ := hx
    have hm := List.mem_of_getElem? hf
    simp only [fR, rD]
    mi
    simp only [f_lcm, Int.natAbs_natCast]
    refine ⟨lcm_bound (c := c) (by rw [List.length_take]; omega) (fun x hx => hb x (List.mem_of_mem_take hx)) hc, Nat.lt_of_lt_of_le (hb f hm) (Nat.pow_le_pow_right (by decide) (by omega)), ?_⟩
    mi
    refine nx _ ⟨some (.d (fR f)), ?_, .inr ⟨_, rfl⟩⟩
    rw [Nat.zero_add, take_snoc hf, Rt.lcmL_snoc]
    rfl
  · rintro ρ' ⟨u, rfl, hu⟩
    rw [Nat.zero_add, List.length_map, List.take_length]
    mi
    refine ⟨by rcases hu with rfl | ⟨x, rfl⟩ <;> cl, fun a => ?_⟩
    refine lcD_map (fun x => .int ((frOf x).1 * (lcmL ns : Int).fdiv (frOf x).2)) _ (fun y hy Q2 h2 => ?_) (by rw [List.length_map]; omega) ?_
    · obtain ⟨x, hx, rfl⟩ := List.mem_map.mp hy
      simp only [fR, rD]
      mi
      have xp := hp x hx
      have hq := quo_sb hl hp hb hc hx
      have hlog : x.2.natAbs.log2 ≤ 900 := Nat.le_trans (hb x hx).log (by omega)
      refine ⟨⟨by omega, ?_⟩, (ht x hx).mulW hq (by omega), h2⟩
      omega
    · mi
      have e : (ns.map fR).map (fun x => D.int ((frOf x).1 * (lcmL ns : Int).fdiv (frOf x).2)) = intsD (topsL ns (lcmL ns)) := by
        unfold intsD topsL
        rw [List.map_map, List.map_map]
        rfl
      rw [e]
      exact h
theorem dot_go (xs ys : List Int) : ∀ k, k ≤ xs.length → k ≤ ys.length → (List.zipWith (fun x y => x * y) (xs.take k) (ys.take k)).sum = dotL xs ys k
  | 0, _, _ => by simp [dotL]
  | k + 1, h1, h2 => by
    have e1 : xs[k]? = some xs[k] := List.getElem?_eq_getElem h1
    have e2 : ys[k]? = some ys[k] := List.getElem?_eq_getElem h2
    rw [take_snoc e1, take_snoc e2, List.zipWith_append (by rw [List.length_take, List.length_take]; omega), List.sum_append, dot_go xs ys k (by omega) (by omega)]
    show _ = dotL xs ys k + xs.getD k 0 * ys.getD k 0
    rw [List.getD_eq_getElem?_getD, List.getD_eq_getElem?_getD, e1, e2]
    simp
theorem intsOf_map (l : List Int) : intsOf (l.map .int) = some l := by
  induction l with
  | nil => rfl
  | cons a l ih => simp [intsOf, ih]
theorem w_dot {xs ys : List Int} {n m : Nat} {Q : KD} {Ed : KX} (hl : xs.length = ys.length) (sz : xs.length ≤ 1000) (h1 : ∀ x ∈ xs, Sb n x) (h2 : ∀ y ∈ ys, Sb m y) (l : n + m < 1000000) (h : Q (.d (.int (dotL xs ys xs.length)))) : f_dot [.d (.lst (intsD xs)), .d (.lst (intsD ys))] Q Ed := by
  unfold f_dot mDef0 m_dot intsD
  mi
  refine ⟨by cl, fun a => ?_⟩
  refine lcD_map (onPair fun x y => match x, y with | .int i, .int j => .int (i * j) | _, _ => .non) _ (fun y hy Q2 hQ2 => ?_) (by rw [pairs_len (by rw [List.length_map, List.length_map, hl]), List.length_map]; omega) ?_
  · rw [pairs_map] at hy
    obtain ⟨x, hx, y, hy', rfl⟩ := mem_zipWith hy
    simp only [gSets, gSets.go]
    mi
    exact ⟨(h1 x hx).mulW (h2 y hy') l, hQ2⟩
  · rw [pairs_map, map_zipWith']
    simp only [fSum, fIs, Rv.asL]
    have e : List.zipWith (fun x y => onPair (fun x y => match x, y with | .int i, .int j => .int (i * j) | _, _ => .non) (.tup [.int x, .int y])) xs ys = (List.zipWith (fun x y => x * y) xs ys).map .int := by
      rw [map_zipWith']
      rfl
    rw [e, intsOf_map]
    mi
    have := dot_go xs ys xs.length (Nat.le_refl _) (by omega)
    rw [List.take_length, hl, List.take_length, ← hl] at this
    rw [this]
    exact h
theorem topsL_len (ns : List Frc) (B : Int) : (topsL ns B).length = ns.length := by unfold topsL; rw [List.length_map]
theorem tops_sb {ns : List Frc} {n c : Nat} (hl : ns.length ≤ 8) (hp : ∀ x ∈ ns, 0 < x.2) (ht : ∀ x ∈ ns, Sb n x.1) (hb : ∀ x ∈ ns, Sb c x.2) (hc : c * 8 ≤ 800) : ∀ y ∈ topsL ns (lcmL ns), Sb (n + 900) y := fun y hy => by
  obtain ⟨x, hx, rfl⟩ := List.mem_map.mp hy
  exact (ht x hx).mul (quo_sb hl hp hb hc hx)
theorem w_sop {ws vs : List Frc} {n c m d : Nat} {Q : KD} {Ed : KX} (hl : ws.length ≤ 8) (he : ws.length = vs.length) (wp : ∀ x ∈ ws, 0 < x.2) (wt : ∀ x ∈ ws, Sb n x.1) (wb : ∀ x ∈ ws, Sb c x.2) (vp : ∀ x ∈ vs, 0 < x.2) (vt : ∀ x ∈ vs, Sb m x.1) (vb : ∀ x ∈ vs, Sb d x.2) (hc : c * 8 ≤ 800) (hd : d * 8 ≤ 800) (hn : n ≤ 9000) (hm : m ≤ 9000)
    (h : Q (.d (fR (runF ws vs ws.length)))) : f_sum_of_products [.d (.tup (ws.map fR)), .d (.lst (vs.map fR))] Q Ed := by
  unfold f_sum_of_products mDef m_sum_of_products
  mi
  refine w_over_one hl wp wt wb hc hn ?_
  simp only [gSets, gSets.go]
  mi
  refine w_over_oneL (by omega) vp vt vb hd hm ?_
  simp only [gSets, gSets.go]
  mi
  have e1 := topsL_len ws (lcmL ws)
  have e2 := topsL_len vs (lcmL vs)
  refine w_dot (n := n + 900) (m := m + 900) (by rw [e1, e2, he]) (by rw [e1]; omega) (tops_sb hl wp wt wb hc) (tops_sb (by omega) vp vt vb hd) (by omega) ?_
  mi
  have s1 : Sb 900 (lcmL ws : Int) := by unfold Sb; rw [Int.natAbs_natCast]; exact lcm_bound hl wb hc
  have s2 : Sb 900 (lcmL vs : Int) := by unfold Sb; rw [Int.natAbs_natCast]; exact lcm_bound (by omega) vb hd
  refine ⟨s1.mulW s2 (by decide), ?_⟩
  have p1 := Rt.lcmL_pos ws wp
  have p2 := Rt.lcmL_pos vs vp
  refine w_made (Int.mul_ne_zero (by omega) (by omega)) (s1.mul s2) (by decide) ?_
  rw [e1]
  obtain ⟨q1, q2⟩ := Rt.sum_is ws vs wp vp he
  unfold nrmF
  rw [q1, q2]
  exact h
theorem w_amounts_fr {as : List Ax} {vs : List Frc} {Q : KD} {Ed : KX} (hn : nCells as ≤ 1000) (hl : vs.length = nCells as) (h : Q (.d (.bl true))) : f_are_amounts [.d (gridD as), .d (.lst (vs.map fR))] Q Ed :=
  w_amounts (ys := vs.map fR) (by rw [List.length_map, hl]) hn (num_fr vs) h
theorem w_q_at {as : List Ax} {ws vs : List Frc} {n c m d : Nat} {Q : KD} {Ed : KX} (g : GG as) (h1 : ws.length = nCells as) (h2 : vs.length = nCells as) (wp : ∀ x ∈ ws, 0 < x.2) (wt : ∀ x ∈ ws, Sb n x.1) (wb : ∀ x ∈ ws, Sb c x.2) (vp : ∀ x ∈ vs, 0 < x.2) (vt : ∀ x ∈ vs, Sb m x.1) (vb : ∀ x ∈ vs, Sb d x.2) (hc : c * 8 ≤ 800) (hd : d * 8 ≤ 800) (hn : n ≤ 9000) (hm : m ≤ 9000)
    (h : Q (.d (fR (runF ws vs (nCells as))))) : f_Question_x_at [.d (qq as ws), .d (.lst (vs.map fR))] Q Ed := by
  unfold f_Question_x_at mDef m_Question_x_at
  have hz := g.sz
  simp only [qq, qD]
  mi
  refine w_amounts_fr (by omega) h2 ?_
  mi
  refine ⟨by cl, fun a => ?_⟩
  refine lcD_map id _ (fun y hy Q2 hQ2 => ?_) (by rw [List.length_map]; omega) ?_
  · obtain ⟨x, hx, rfl⟩ := List.mem_map.mp hy
    mi
    exact w_as_ratio hQ2
  · rw [List.map_id]
    mi
    exact w_sop (by omega) (by omega) wp wt wb vp vt vb hc hd hn hm (by rw [h1]; exact h)
/-! the law's own fractions -/
def fT (f : Frc) : D := .tup [.int f.1, .int f.2]
theorem nrm_frb {n : Nat} {p q : Int} (hq : q ≠ 0) (sp : Sb n p) (sq : Sb n q) : FrB n (nrmF p q) ∧ 0 < (nrmF p q).2 := by
  have l := Rt.nrm_low (p := p) hq
  obtain ⟨h1, h2⟩ := Rt.nrm_le (p := p) hq
  exact ⟨⟨Int.ne_of_gt l.pos, Nat.lt_of_le_of_lt h1 sp, Nat.lt_of_le_of_lt h2 sq⟩, l.pos⟩
theorem Sb.add {n : Nat} {x y : Int} (h : Sb n x) (k : Sb n y) : Sb (n + 1) (x + y) := by
  unfold Sb at *
  have := Int.natAbs_add_le x y
  rw [Nat.pow_succ]
  omega
theorem plusF_frb {n m : Nat} {x y : Frc} (h : FrB n x) (k : FrB m y) : FrB (n + m + 1) (plusF x y) ∧ 0 < (plusF x y).2 :=
  nrm_frb (Int.mul_ne_zero h.nz k.nz) ((h.t.mul k.b).add ((Sb.mul k.t h.b).mono (Nat.le_of_eq (Nat.add_comm _ _)))) ((h.b.mul k.b).mono (by omega))
theorem byF_frb {n m : Nat} {x y : Frc} (h : FrB n x) (k : FrB m y) : FrB (n + m) (byF x y) ∧ 0 < (byF x y).2 := nrm_frb (Int.mul_ne_zero h.nz k.nz) (h.t.mul k.t) (h.b.mul k.b)
theorem w_lplus {x y : Frc} {n m : Nat} {Q : KD} {Ed : KX} (h1 : FrB n x) (h2 : FrB m y) (l : n + m ≤ 4900) (h : Q (.d (fT (plusF x y)))) : f__law_plus [.d (fT x), .d (fT y)] Q Ed := w_plus h1.nz h2.nz h1.t h1.b h2.t h2.b l h
theorem w_lby {x y : Frc} {n m : Nat} {Q : KD} {Ed : KX} (h1 : FrB n x) (h2 : FrB m y) (l : n + m ≤ 4900) (h : Q (.d (fT (byF x y)))) : f__law_by [.d (fT x), .d (fT y)] Q Ed := w_by h1.nz h2.nz h1.t h1.b h2.t h2.b l h
theorem run_frb {ws vs : List Frc} {n m : Nat} (b1 : ∀ x ∈ ws, FrB n x) (b2 : ∀ x ∈ vs, FrB m x) : ∀ j, j ≤ ws.length → j ≤ vs.length → FrB (1 + j * (n + m + 1)) (runF ws vs j)
  | 0, _, _ => ⟨by show (1 : Int) ≠ 0; decide, by show Sb _ 0; unfold Sb; exact Nat.pow_pos (by decide), (show Sb 1 1 by unfold Sb; decide).mono (by omega)⟩
  | j + 1, h1, h2 => by
    have ih := run_frb b1 b2 j (by omega) (by omega)
    have x1 := b1 ws[j] (List.getElem_mem h1)
    have x2 := b2 vs[j] (List.getElem_mem h2)
    have e1 : ws.getD j (0, 1) = ws[j] := by rw [List.getD_eq_getElem?_getD, List.getElem?_eq_getElem h1]; rfl
    have e2 : vs.getD j (0, 1) = vs[j] := by rw [List.getD_eq_getElem?_getD, List.getElem?_eq_getElem h2]; rfl
    have := (plusF_frb ih (byF_frb x1 x2).1).1
    unfold runF
    rw [e1, e2]
    refine this.mono ?_
    rw [Nat.succ_mul]
    omega
theorem w_law_at {ws vs : List Frc} {n m : Nat} {Q : KD} {Ed : KX} (hl : ws.length = vs.length) (sz : ws.length ≤ 100) (b1 : ∀ x ∈ ws, FrB n x) (b2 : ∀ x ∈ vs, FrB m x) (l : 1 + ws.length * (n + m + 1) + (n + m) ≤ 4900) (h : Q (.d (fT (runF ws vs ws.length)))) :
    f__law_at [.d (.lst (ws.map fT)), .d (.lst (vs.map fT))] Q Ed := by
  unfold f__law_at mDef0 m__law_at
  mi
  refine ⟨by rw [List.length_map]; omega, ?_⟩
  refine forD_inv (I := fun j ρ => j ≤ ws.length ∧ ∃ u, ρ = [some (.d (.lst (ws.map fT))), some (.d (.lst (vs.map fT))), some (.d (fT (runF ws vs j))), u]) _ 0 _ ⟨Nat.zero_le _, _, rfl⟩ ?_ ?_
  · rintro j x ρ N hx ⟨_, u, rfl⟩ e1 e2 e3 nx ct
    obtain ⟨hj, rfl⟩ := upInts_at hx
    rw [Nat.zero_add] at *
    have hj' : j < ws.length := by rw [List.length_map, Int.toNat_natCast] at hj; exact hj
    have hj2 : j < vs.length := by omega
    have g1 : atI (ws.map fT) (0 + (j : Nat) : Int) = some (fT ws[j]) := atI_k (Int.zero_add _) (by rw [List.getElem?_map, List.getElem?_eq_getElem hj']; rfl)
    have g2 : atI (vs.map fT) (0 + (j : Nat) : Int) = some (fT vs[j]) := atI_k (Int.zero_add _) (by rw [List.getElem?_map, List.getElem?_eq_getElem hj2]; rfl)
    mi
    rw [g1, g2]
    dsimp only
    have x1 := b1 ws[j] (List.getElem_mem hj')
    have x2 := b2 vs[j] (List.getElem_mem hj2)
    have r := run_frb b1 b2 j (by omega) (by omega)
    have lim : 1 + j * (n + m + 1) ≤ 1 + ws.length * (n + m + 1) := Nat.add_le_add_left (Nat.mul_le_mul_right _ (by omega)) _
    refine w_lby x1 x2 (by omega) ?_
    mi
    refine w_lplus r (byF_frb x1 x2).1 (by omega) ?_
    mi
    refine nx _ ⟨by omega, some (.d (.int (0 + (j : Nat) : Int))), ?_⟩
    have e1 : ws.getD j (0, 1) = ws[j] := by rw [List.getD_eq_getElem?_getD, List.getElem?_eq_getElem hj']; rfl
    have e2 : vs.getD j (0, 1) = vs[j] := by rw [List.getD_eq_getElem?_getD, List.getElem?_eq_getElem hj2]; rfl
    have e3 : runF ws vs (j + 1) = plusF (runF ws vs j) (byF ws[j] vs[j]) := by
      show plusF _ (byF _ _) = _
      rw [e1, e2]
    rw [e3]
  · rintro ρ' ⟨_, u, rfl⟩
    rw [Nat.zero_add, upInts_len, List.length_map, Int.toNat_natCast]
    mi
    exact h
end DL

set_option linter.all false
set_option maxRecDepth 100000
set_option maxHeartbeats 1000000
/-! the law's names, axes, cells -/
namespace DL
open PySem L2 He DX DW
theorem addM_tup (ms : List Str) (c : List Str) : addM ms (strsT c) = ms.map fun m => strsT (c ++ [m]) := by
  unfold addM strsT
  refine List.map_congr_left fun m hm => ?_
  simp
theorem w_law_cells {as : List Ax} {Q : KD} {Ed : KX} (hi : as.length ≤ 3) (ms : ∀ a ∈ as, a.2.length ≤ 4) (h : ∀ b, Q (.new b ((PX.cellsL as).map strsT))) : f__law_cells [.d (axsT as)] Q Ed := by
  unfold f__law_cells mDef0 m__law_cells
  mi
  intro b0
  simp only [axsT]
  mi
  refine forD_inv (I := fun j ρ => ∃ b x y z w, ρ = [some (.d (.tup (as.map axT))), some (.own b ((PX.cellsF [[]] (as.take j)).map strsT)), x, y, z, w]) _ 0 _ ⟨b0, _, _, _, _, rfl⟩ ?_ ?_
  · rintro j x ρ N hx ⟨b, u, v, w, s, rfl⟩ e1 e2 e3 nx ct
    rw [Nat.zero_add] at *
    rw [List.getElem?_map, Option.map_eq_some_iff] at hx
    obtain ⟨a, ha, rfl⟩ := hx
    have ham := List.mem_of_getElem? ha
    have lim : (PX.cellsF [[]] (as.take j)).length ≤ 64 := by
      have h1 : (PX.cellsL (as.take j)).length ≤ 4 ^ (as.take j).length := cells_le _ fun b hb => ms b (List.mem_of_mem_take hb)
      have h2 : (as.take j).length ≤ 3 := by rw [List.length_take]; omega
      have h3 : 4 ^ (as.take j).length ≤ 4 ^ 3 := Nat.pow_le_pow_right (by decide) h2
      unfold PX.cellsL at h1
      omega
    have h4 := ms a ham
    mi
    intro b1 b2
    mi
    -- over the cells
    refine forD_inv (I := fun i ρ => ∃ z w, ρ = [some (.d (.tup (as.map axT))), some (.own b ((PX.cellsF [[]] (as.take j)).map strsT)), some (.d (axT a)), some (.own b1 (((PX.cellsF [[]] (as.take j)).map strsT |>.take i).flatMap (addM a.2))), z, w]) _ 0 _ ⟨_, _, rfl⟩ ?_ ?_
    · rintro i x ρ N2 hx ⟨z, w', rfl⟩ f1 f2 f3 nx2 ct2
      rw [Nat.zero_add] at *
      have hx0 := hx
      rw [List.getElem?_map, Option.map_eq_some_iff] at hx
      obtain ⟨c, hc, rfl⟩ := hx
      have hci : i < (PX.cellsF [[]] (as.take j)).length := (List.getElem?_eq_some_iff.mp hc).1
      have hcl : c.length ≤ 3 := by
        have h0 : c ∈ PX.cellsL (as.take j) := List.mem_of_getElem? hc
        rw [(PX.mem_cells.mp h0).len, List.length_take]
        omega
      simp only [axT]
      mi
      simp only [strsT]
      mi
      have accl : ((((PX.cellsF [[]] (as.take j)).map strsT).take i).flatMap (addM a.2)).length ≤ i * a.2.length := by
        rw [← List.map_take, grow_map, List.length_map, PX.grow_len, List.length_take]
        exact Nat.mul_le_mul_right _ (Nat.min_le_left _ _)
      have hil : i * a.2.length ≤ 64 * 4 := Nat.mul_le_mul (by omega) h4
      refine forD_inv (I := fun k ρ => ∃ w, ρ = [some (.d (.tup (as.map axT))), some (.own b ((PX.cellsF [[]] (as.take j)).map strsT)), some (.d (axT a)), some (.own b1 ((((PX.cellsF [[]] (as.take j)).map strsT).take i).flatMap (addM a.2) ++ addM (a.2.take k) (strsT c))), some (.d (strsT c)), w]) _ 0 _ ⟨w', by unfold addM strsT; simp [axT, strsT]⟩ ?_ ?_
      · rintro k x ρ N3 hx3 ⟨w, rfl⟩ g1 g2 g3 nx3 ct3
        rw [Nat.zero_add] at *
        rw [List.getElem?_map, Option.map_eq_some_iff] at hx3
        obtain ⟨m, hm, rfl⟩ := hx3
        have hk := (List.getElem?_eq_some_iff.mp hm).1
        simp only [strsT, axT]
        mi
        refine ⟨by rw [List.length_map]; exact Nat.le_trans (show c.length + 1 ≤ 4 by omega) (by decide), ?_, ?_⟩
        · rw [List.length_append]
          have : (addM (a.2.take k) (D.tup (c.map D.str))).length ≤ 4 := by
            unfold addM
            rw [List.length_map, List.length_take]
            omega
          omega
        · refine nx3 _ ⟨some (.d (.str m)), ?_⟩
          have e : addM (a.2.take (k + 1)) (strsT c) = addM (a.2.take k) (strsT c) ++ [.tup (c.map D.str ++ [.str m])] := by
            rw [addM_tup, addM_tup, take_snoc hm, List.map_append]
            simp [strsT]
          rw [e, ← List.append_assoc]
          rfl
      · rintro ρ' ⟨w, rfl⟩
        rw [Nat.zero_add, List.length_map, List.take_length]
        refine nx2 _ ⟨some (.d (strsT c)), w, ?_⟩
        rw [take_snoc hx0, List.flatMap_append, List.flatMap_singleton]
    · rintro ρ' ⟨z, w', rfl⟩
      rw [Nat.zero_add, List.take_length (l := (PX.cellsF [[]] (as.take j)).map strsT), grow_map, ← cellsF_snoc, ← take_snoc ha]
      mi
      intro b3
      exact nx _ ⟨b3, _, _, _, _, rfl⟩
  · rintro ρ' ⟨b, x, y, z, w, rfl⟩
    rw [Nat.zero_add, List.length_map, List.take_length]
    mi
    exact h b
/-! names drawn -/
theorem nodup_le {l m : List Str} (nd : l.Nodup) (h : ∀ x ∈ l, x ∈ m) : l.length ≤ m.length := by
  induction l generalizing m with
  | nil => exact Nat.zero_le _
  | cons a l ih =>
    rw [List.nodup_cons] at nd
    have ha := h a List.mem_cons_self
    have := ih (m := m.erase a) nd.2 fun x hx => (List.mem_erase_of_ne (fun z => nd.1 (by rw [← z]; exact hx))).mpr (h x (List.mem_cons_of_mem _ hx))
    rw [List.length_erase_of_mem ha] at this
    have hp := List.length_pos_of_mem ha
    rw [List.length_cons]
    omega
def abc : List Nat := ("abcdefghijklmnopqrstuvwxyz" : Str).cps.toList
def abcS : List Str := abc.map fun c => ⟨#[c]⟩
theorem abc_len : abc.length = 26 := by decide +kernel
theorem abcS_nd : abcS.Nodup := by decide +kernel
theorem abc_let : ∀ c ∈ abc, letD c = true := fun c h => decide_eq_true h
theorem one_name {c : Nat} (h : c ∈ abc) : isNameS ⟨#[c]⟩ = true := by
  have e : ∀ d ∈ abc, isNameS ⟨#[d]⟩ = true := by decide +kernel
  exact e c h
/-- a name in the making: so many signs -/
structure NmW (n : Nat) (z : Str) : Prop where
  len : z.length = n
  fst : firstLet z = true
  all : ∀ c ∈ z.cps.toList, (letD c || digD c) = true
theorem NmW.word {n : Nat} {z : Str} (h : NmW n z) (h1 : 1 ≤ n) (h8 : n ≤ 8) : isWordS z = true := by
  unfold isWordS
  rw [h.len, h.fst, decide_eq_true ⟨h1, h8⟩, List.all_eq_true.mpr h.all]
  rfl
theorem app_list (a b : Str) : (a ++ b).cps.toList = a.cps.toList ++ b.cps.toList := by
  show (a.cps ++ b.cps).toList = _
  simp
theorem NmW.snoc {n : Nat} {z : Str} {c : Nat} (h : NmW n z) (hn : 1 ≤ n) (hc : (letD c || digD c) = true) : NmW (n + 1) (z ++ ⟨#[c]⟩) := by
  refine ⟨?_, ?_, fun d hd => ?_⟩
  · rw [len_toList, app_list, List.length_append, ← len_toList, h.len]
    rfl
  · have := h.fst
    unfold firstLet at this ⊢
    rw [app_list]
    cases e : z.cps.toList with
    | nil =>
      have := h.len
      rw [len_toList, e] at this
      simp at this
      omega
    | cons a l => rw [e] at this; exact this
  · rw [app_list] at hd
    rcases List.mem_append.mp hd with hd | hd
    · exact h.all d hd
    · have : d = c := by simpa using hd
      rw [this]
      exact hc
end DL

set_option linter.all false
set_option maxRecDepth 100000
set_option maxHeartbeats 1000000
/-! the law's names -/
namespace DL
open PySem L2 He DX DW
theorem atI_mem {α : Type} {l : List α} {d : Int} (h0 : 0 ≤ d) (h1 : d < (l.length : Int)) : ∃ c, atI l d = some c ∧ c ∈ l := by
  have hd : d.toNat < l.length := by omega
  exact ⟨l[d.toNat], atI_k (j := d.toNat) (by omega) (List.getElem?_eq_getElem hd), List.getElem_mem hd⟩
/-- what is plain ahead of a draw -/
theorem w_dr {a : Addr} {m : Int} {Q : KD} {Ed : KX} (h0 : 0 < m) (h1 : m.natAbs < 2 ^ 100) (h : ∀ d : Int, 0 ≤ d → d < m → Q (.d (.int d))) : mDraw [.strm a, .d (.int m)] Q Ed := w_draw h0 (small h1) h
abbrev ltr : Str := "abcdefghijklmnopqrstuvwxyz"
abbrev dgt : Str := "0123456789"
theorem both_len : (ltr ++ dgt).cps.toList.length = 36 := by decide +kernel
theorem both_all : ∀ c ∈ (ltr ++ dgt).cps.toList, (letD c || digD c) = true := by decide +kernel
theorem signs_abc : signs ltr = abcS.map .str := by
  unfold signs abcS abc
  rw [List.map_map]
  rfl
theorem first_one {c : Nat} (h : letD c = true) : NmW 1 ⟨#[c]⟩ := ⟨rfl, h, fun d hd => by
  have : d = c := by simpa using hd
  rw [this, h]
  rfl⟩
theorem not_word {z : Str} (h : isWordS z = true) (h2 : ¬ isNameS z = true) : z = "sum" ∨ z = "each" := by
  unfold isNameS at h2
  rw [h, Bool.true_and] at h2
  simp only [Bool.not_eq_true', Bool.not_eq_false, Bool.or_eq_true, decide_eq_true_eq] at h2
  exact h2
theorem w_law_names {a : Addr} {n : Nat} {Q : KD} {Ed : KX} (hn : n ≤ 4) (h : ∀ b (l : List Str), l.length = n → l.Nodup → NmS l → Q (.new b (l.map .str))) : f__law_names [.strm a, .d (.int (n : Nat))] Q Ed := by
  unfold f__law_names mDef0 m__law_names
  mi
  intro b0
  refine ⟨by omega, ?_⟩
  refine forD_inv (I := fun j ρ => ∃ (fs : List Str) (u v w x : Option Sl), ρ = [some (.strm a), some (.d (.int (n : Nat))), some (.d (.str ltr)), some (.own b0 (fs.map .str)), u, v, w, x] ∧ fs.length = j ∧ fs.Nodup ∧ NmS fs) _ 0 _ ⟨[], _, _, _, _, rfl, rfl, List.nodup_nil, fun _ h => by cases h⟩ ?_ ?_
  · rintro j x ρ N hx ⟨fs, u, v, w, y, rfl, fl, fn, fm⟩ e1 e2 e3 nx ct
    rw [Nat.zero_add] at *
    obtain ⟨hj, rfl⟩ := upInts_at hx
    rw [Int.toNat_natCast] at hj
    mi
    refine w_dr (by decide) (by decide) fun d h0 h1 => ?_
    obtain ⟨c, hc, hca⟩ := atI_mem (l := ltr.cps.toList) h0 (by rw [show ltr.cps.toList.length = 26 from abc_len]; exact h1)
    simp only [fIxS, hc]
    refine ⟨by decide, ?_⟩
    mi
    intro b1
    refine w_dr (by decide) (by decide) fun d2 h2 h3 => ?_
    obtain ⟨m, hm, lo, hi⟩ : ∃ m : Int, atI [D.int 1, D.int 3, D.int 8] d2 = some (.int m) ∧ 1 ≤ m ∧ m ≤ 8 := by
      rcases (show d2 = 0 ∨ d2 = 1 ∨ d2 = 2 by omega) with rfl | rfl | rfl <;> exact ⟨_, rfl, by decide, by decide⟩
    mi
    rw [hm]
    mi
    refine w_dr (by omega) (by omega) fun t h4 h5 => ?_
    refine ⟨by omega, ?_⟩
    refine forD_inv (I := fun i ρ => ∃ (z : Str) (u v : Option Sl), ρ = [some (.strm a), some (.d (.int (n : Nat))), some (.d (.str ltr)), some (.own b0 (fs.map .str)), some (.d (.int (0 + (j : Nat) : Int))), some (.d (.str z)), u, v] ∧ NmW (1 + i) z) _ 0 _ ⟨_, _, _, rfl, first_one (abc_let c hca)⟩ ?_ ?_
    · rintro i x ρ N2 hx ⟨z, u, v, rfl, hz⟩ f1 f2 f3 nx2 ct2
      rw [Nat.zero_add] at *
      obtain ⟨hi2, rfl⟩ := upInts_at hx
      mi
      simp only [fAddS]
      refine ⟨by decide, ?_⟩
      mi
      refine w_dr (by decide) (by decide) fun d3 h6 h7 => ?_
      obtain ⟨c3, hc3, hca3⟩ := atI_mem (l := (ltr ++ dgt).cps.toList) h6 (by rw [both_len]; exact h7)
      simp only [fIxS, hc3]
      refine ⟨by decide, ?_⟩
      mi
      have hzl : z.length ≤ 1 + i := Nat.le_of_eq hz.len
      refine ⟨by have : z.length + (⟨#[c3]⟩ : Str).length ≤ 100 := (show z.length + 1 ≤ 100 by omega); exact Nat.le_trans this (by decide), ?_⟩
      exact nx2 _ ⟨_, _, _, rfl, by rw [← Nat.add_assoc]; exact hz.snoc (by omega) (both_all c3 hca3)⟩
    · rintro ρ' ⟨z, u, v, rfl, hz⟩
      rw [Nat.zero_add, upInts_len] at hz
      have hw := hz.word (by omega) (by omega)
      mi
      rw [signs_abc]
      refine forD_inv (I := fun i ρ => ∃ (z : Str) (v : Option Sl), ρ = [some (.strm a), some (.d (.int (n : Nat))), some (.d (.str ltr)), some (.own b0 (fs.map .str)), some (.d (.int (0 + (j : Nat) : Int))), some (.d (.str z)), u, v] ∧ isWordS z = true ∧ ((z ∈ fs ∨ z = "sum" ∨ z = "each") → ∀ y ∈ abcS.take i, y ∈ fs)) _ 0 _ ⟨_, _, rfl, hw, fun _ y hy => by cases hy⟩ ?_ ?_
      · rintro i x ρ N2 hx ⟨z, v, rfl, hz, al⟩ f1 f2 f3 nx2 ct2
        rw [Nat.zero_add] at *
        rw [List.getElem?_map, Option.map_eq_some_iff] at hx
        obtain ⟨y, hy, rfl⟩ := hx
        have hym := List.mem_of_getElem? hy
        mi
        simp only [fIn]
        mi
        rw [scs_strs]
        mi
        rw [inV_strs]
        have yn : isNameS y = true := by
          obtain ⟨c, hc, rfl⟩ := List.mem_map.mp hym
          exact one_name hc
        have yw : isWordS y = true := by
          unfold isNameS at yn
          rw [Bool.and_eq_true] at yn
          exact yn.1
        have nres : ∀ {z : Str}, isNameS z = true → ¬ (z = "sum" ∨ z = "each") := fun {z} hz h => by
          unfold isNameS at hz
          simp only [Bool.and_eq_true, Bool.not_eq_true', Bool.or_eq_false_iff, decide_eq_false_iff_not] at hz
          exact h.elim hz.2.1 hz.2.2
        have k1 : y ∉ fs → N2.nx [some (.strm a), some (.d (.int (n : Nat))), some (.d (.str ltr)), some (.own b0 (fs.map .str)), some (.d (.int (0 + (j : Nat) : Int))), some (.d (.str y)), u, some (.d (.str y))] := fun hn =>
          nx2 _ ⟨_, _, rfl, yw, fun h => absurd h fun h => h.elim hn (nres yn)⟩
        have k2 : ((z ∈ fs ∨ z = "sum" ∨ z = "each") → y ∈ fs) → N2.nx [some (.strm a), some (.d (.int (n : Nat))), some (.d (.str ltr)), some (.own b0 (fs.map .str)), some (.d (.int (0 + (j : Nat) : Int))), some (.d (.str z)), u, some (.d (.str y))] := fun hy2 =>
          nx2 _ ⟨_, _, rfl, hz, fun h w hw => by
            rw [take_snoc hy] at hw
            rcases List.mem_append.mp hw with hw | hw
            · exact al h w hw
            · rw [List.mem_singleton.mp hw]; exact hy2 h⟩
        have br : (if (!inV (V.str y) (fs.map V.str)) = true then N2.nx [some (.strm a), some (.d (.int (n : Nat))), some (.d (.str ltr)), some (.own b0 (fs.map .str)), some (.d (.int (0 + (j : Nat) : Int))), some (.d (.str y)), u, some (.d (.str y))] else N2.nx [some (.strm a), some (.d (.int (n : Nat))), some (.d (.str ltr)), some (.own b0 (fs.map .str)), some (.d (.int (0 + (j : Nat) : Int))), some (.d (.str z)), u, some (.d (.str y))]) := by
          rw [inV_strs]
          by_cases c : y ∈ fs
          · rw [decide_eq_true c, if_neg (by simp)]
            exact k2 fun _ => c
          · rw [decide_eq_false c, if_pos (by simp)]
            exact k1 c
        by_cases c : z ∈ fs
        · rw [if_pos (decide_eq_true c)]
          exact br
        · rw [if_neg (by simpa using c)]
          intro a1
          rw [show scs [D.str (Str.ofString "sum"), D.str (Str.ofString "each")] = some ((["sum", "each"] : List Str).map V.str) from rfl]
          dsimp only
          rw [inV_strs]
          by_cases c2 : z ∈ (["sum", "each"] : List Str)
          · rw [if_pos (decide_eq_true c2)]
            exact br
          · rw [if_neg (by simpa using c2)]
            refine k2 fun h => absurd h ?_
            rintro (h | h | h)
            · exact c h
            · exact c2 (by rw [h]; exact List.mem_cons_self)
            · exact c2 (by rw [h]; exact List.mem_cons_of_mem _ List.mem_cons_self)
      · rintro ρ' ⟨z, v, rfl, hz, al⟩
        rw [Nat.zero_add, List.length_map, List.take_length] at al
        have hno : ¬ (z ∈ fs ∨ z = "sum" ∨ z = "each") := fun h => by
          have := nodup_le abcS_nd (al h)
          have e : abcS.length = 26 := by unfold abcS; rw [List.length_map]; exact abc_len
          omega
        have hzn : isNameS z = true := by
          by_cases c : isNameS z = true
          · exact c
          · exact absurd (.inr (not_word hz c)) hno
        mi
        refine ⟨by rw [List.length_map]; omega, nx _ ⟨fs ++ [z], some (.d (.int (0 + (j : Nat) : Int))), some (.d (.str z)), u, v, ?_, ?_, ?_, ?_⟩⟩
        · rw [List.map_append]; rfl
        · rw [List.length_append, fl]; rfl
        · rw [List.nodup_append]
          exact ⟨fn, by simp, fun x hx y hy e => hno (.inl (by rw [List.mem_singleton.mp hy] at e; rw [← e]; exact hx))⟩
        · intro w hw
          rcases List.mem_append.mp hw with hw | hw
          · exact fm w hw
          · rw [List.mem_singleton.mp hw]; exact hzn
  · rintro ρ' ⟨fs, u, v, w, y, rfl, fl, fn, fm⟩
    rw [Nat.zero_add, upInts_len, Int.toNat_natCast] at fl
    mi
    exact h _ fs fl fn fm
end DL

set_option linter.all false
set_option maxRecDepth 100000
set_option maxHeartbeats 1000000
/-! the law's axes and wishes -/
namespace DL
open PySem L2 He DX DW
theorem w_law_axes {a : Addr} {Q : KD} {Ed : KX} (h : ∀ as : List Ax, GG as → Q (.d (axsT as))) : f__law_axes [.strm a] Q Ed := by
  unfold f__law_axes mDef0 m__law_axes
  mi
  refine w_dr (by decide) (by decide) fun d h0 h1 => ?_
  mi
  intro b0
  obtain ⟨n, hn, n4⟩ : ∃ n : Nat, (1 + d : Int) = (n : Nat) ∧ (1 ≤ n ∧ n ≤ 3) := ⟨(1 + d).toNat, by omega, by omega, by omega⟩
  rw [hn]
  refine w_law_names (by omega) fun b1 l ll ln lm => ?_
  mi
  refine forD_inv (I := fun j ρ => ∃ (as : List Ax) (room : Int) (u v : Option Sl), ρ = [some (.strm a), some (.d (.int (n : Nat))), some (.d (.int room)), some (.own b0 (as.map axT)), u, v] ∧ PX.names as = l.take j ∧ (∀ x ∈ as, x.2.Nodup ∧ 1 ≤ x.2.length ∧ x.2.length ≤ 4) ∧ (∀ x ∈ as, NmS x.2) ∧ 1 ≤ room ∧ (nCells as : Int) * room ≤ 8) _ 0 _ ⟨[], 8, _, _, rfl, rfl, fun _ h => (by cases h), fun _ h => (by cases h), by decide, by decide⟩ ?_ ?_
  · rintro j x ρ N hx ⟨as, room, u, v, rfl, nm, ms, mn, r1, rc⟩ e1 e2 e3 nx ct
    rw [Nat.zero_add] at *
    rw [List.getElem?_map, Option.map_eq_some_iff] at hx
    obtain ⟨y, hy, rfl⟩ := hx
    have hj := (List.getElem?_eq_some_iff.mp hy).1
    mi
    refine w_dr (by split <;> omega) (by split <;> omega) fun d2 h2 h3 => ?_
    mi
    have hd : d2 < 4 ∧ d2 < room := by split at h3 <;> omega
    obtain ⟨k, hk, k4⟩ : ∃ k : Nat, (1 + d2 : Int) = (k : Nat) ∧ (1 ≤ k ∧ k ≤ 4) := ⟨(1 + d2).toNat, by omega, by omega, by omega⟩
    have hkr : (k : Int) ≤ room := by omega
    have rlim : room ≤ 8 := by
      have : (1 : Int) ≤ nCells as := by
        have hp : 0 < nCells as := by
          unfold nCells
          rw [PX.cellsL_len]
          suffices ∀ m, 0 < m → 0 < as.foldl (fun n a => n * a.2.length) m from this 1 (by decide)
          clear nm rc
          induction as with
          | nil => intro m hm; exact hm
          | cons b bs ih =>
            intro m hm
            exact ih (fun x hx => ms x (List.mem_cons_of_mem _ hx)) (fun x hx => mn x (List.mem_cons_of_mem _ hx)) _ (Nat.mul_pos hm (ms b List.mem_cons_self).2.1)
        omega
      have h := Int.mul_le_mul_of_nonneg_right this (by omega : (0 : Int) ≤ room)
      omega
    rw [hk]
    refine ⟨⟨by omega, ?_⟩, ?_⟩
    · rw [Int.natAbs_natCast]
      have : k.log2 ≤ k := Nat.log2_le_self k
      omega
    refine w_law_names (by omega) fun b2 m lm2 nm2 mm => ?_
    mi
    refine ⟨?_, nx _ ⟨as ++ [(y, m)], room.fdiv k, some (.d (.str y)), some (.d (.int (k : Nat))), ?_, ?_, ?_, ?_, ?_, ?_⟩⟩
    · have : as.length = (l.take j).length := by rw [← nm]; unfold PX.names; rw [List.length_map]
      rw [List.length_take] at this
      rw [List.length_map]
      omega
    · rw [List.map_append]; rfl
    · unfold PX.names at nm ⊢
      rw [take_snoc hy, List.map_append, nm]
      rfl
    · intro x hx
      rcases List.mem_append.mp hx with hx | hx
      · exact ms x hx
      · rw [List.mem_singleton.mp hx]
        exact ⟨nm2, by show 1 ≤ m.length; omega, by show m.length ≤ 4; omega⟩
    · intro x hx
      rcases List.mem_append.mp hx with hx | hx
      · exact mn x hx
      · rw [List.mem_singleton.mp hx]
        exact mm
    · rw [Int.fdiv_eq_ediv_of_nonneg _ (by omega)]
      exact Int.le_ediv_of_mul_le (by omega) (by omega)
    · have e : nCells (as ++ [(y, m)]) = nCells as * k := by
        unfold nCells PX.cellsL
        rw [cellsF_snoc, PX.grow_len, lm2]
      rw [e, Int.fdiv_eq_ediv_of_nonneg _ (by omega), Int.natCast_mul, Int.mul_assoc]
      have h1 : (k : Int) * (room / k) ≤ room := Int.mul_ediv_self_le (by omega)
      have h2 := Int.mul_le_mul_of_nonneg_left h1 (by omega : (0 : Int) ≤ nCells as)
      omega
  · rintro ρ' ⟨as, room, u, v, rfl, nm, ms, mn, r1, rc⟩
    rw [Nat.zero_add, List.length_map, List.take_length] at nm
    mi
    have hl : as.length = l.length := by rw [← nm]; unfold PX.names; rw [List.length_map]
    refine h as ⟨by rw [nm]; exact ln, by omega, by omega, ms, by rw [nm]; exact lm, mn, ?_⟩
    have : (nCells as : Int) * 1 ≤ nCells as * room := Int.mul_le_mul_of_nonneg_left r1 (by omega)
    omega
end DL

set_option linter.all false
set_option maxRecDepth 100000
set_option maxHeartbeats 1000000
/-! the law's wishes -/
namespace DL
open PySem L2 He DX DW
theorem coin {d : Int} {A B : Prop} (a : A) (b : B) : if decide (V.int d = V.int 0) = true then A else B := by split <;> assumption
abbrev tCoin : MT := tBl (eOp (fEq false) (eCall0 mDraw (aCons (eVar 0) (aCons (eC (.int 2)) aNil))) (eC (.int 0)))
theorem w_coin {a : Addr} {ρ : Env} {Q : Bool → Prop} {Ed : KX} (h : ρ[0]? = some (some (.strm a))) (t : Q true) (f : Q false) : tCoin ρ Q Ed := by
  unfold tCoin
  mi
  rw [h]
  mi
  refine w_dr (by decide) (by decide) fun d h0 h1 => ?_
  refine ⟨rfl, ?_⟩
  cases decide (V.int d = V.int 0)
  · exact f
  · exact t
theorem lcD_sub {i : Nat} {a : Addr} {ρ : Env} {Kc : List D → Prop} (h0 : ρ[0]? = some (some (.strm a))) (hi : i < ρ.length) (i0 : i ≠ 0) : ∀ (l out : List D), out.length + l.length < 1000000 → (∀ ys, ys.Sublist l → Kc (out ++ ys)) → lcD (gSet i) tCoin (eVar i) ρ Kc l out
  | [], out, _, k => by
    unfold lcD
    have := k [] (List.Sublist.refl _)
    rwa [List.append_nil] at this
  | x :: l, out, sz, k => by
    unfold lcD gSet
    rw [List.length_cons] at sz
    refine w_coin (a := a) (by rw [List.getElem?_set_ne (Ne.symm (Ne.symm i0))]; exact h0) ?_ ?_
    · rw [if_pos rfl]
      unfold eVar
      rw [List.getElem?_set_self hi]
      refine ⟨by omega, lcD_sub h0 hi i0 l (out ++ [x]) (by rw [List.length_append, List.length_singleton]; omega) fun ys hy => ?_⟩
      have := k (x :: ys) (hy.cons_cons x)
      rw [List.append_assoc]
      exact this
    · rw [if_neg (by simp)]
      exact lcD_sub h0 hi i0 l out (by omega) fun ys hy => k ys (hy.cons x)
/-- a wish that is right -/
structure GW (as ws : List Ax) : Prop where
  nd : (PX.names ws).Nodup
  ok : ∀ w ∈ ws, ∃ a ∈ as, a.1 = w.1 ∧ 1 ≤ w.2.length ∧ w.2.length ≤ 4 ∧ ∀ m ∈ w.2, m ∈ a.2
theorem nodup_back {α : Type} {l : List α} (h : l.Nodup) : l.reverse.Nodup := List.pairwise_reverse.mpr (h.imp fun h => Ne.symm h)
theorem py_strl (zs : List Str) : pys (zs.map .str) = some (zs.map .str) := pys_map py_str zs
theorem shaped_strl {zs : List Str} (h : NmS zs) : SeqAt.shaped (.list (zs.map .str)) = true := by
  unfold SeqAt.shaped
  rw [PyData.canLay0, lay_map fun z hz => lay_name (h z hz), PyData.depth]
  have := depth_map (f := PyData.str) depth_str zs
  exact decide_eq_true (by omega)
theorem eqv_strl (xs ys : List Str) : PyData.eqv (.list (xs.map .str)) (.list (ys.map .str)) = decide (xs = ys) := by
  refine iff_bool ?_
  rw [PyData.eqv]
  exact eqvAll_map eqv_str xs ys
theorem rep_one {α : Type} (x : α) (n : Nat) : (List.replicate n [x]).flatten = List.replicate n x := by
  induction n with
  | zero => rfl
  | succ n ih => rw [List.replicate_succ, List.flatten_cons, ih, List.replicate_succ]; rfl
theorem w_law_wish {a : Addr} {as : List Ax} {Q : KD} {Ed : KX} (g : GG as) (h : ∀ ws : List Ax, GW as ws → Q (.d (axsT ws))) : f__law_wish [.strm a, .d (axsT as)] Q Ed := by
  unfold f__law_wish mDef0 m__law_wish
  mi
  intro b0
  simp only [axsT]
  mi
  intro b1
  refine w_dr (by decide) (by decide) fun d h0 h1 => ?_
  refine ⟨rfl, ?_⟩
  have g3 := g.hi
  have main : ∀ (os : List Ax), (PX.names os).Nodup → (∀ x ∈ os, x ∈ as) → ∀ (Z : Env → Prop), (∀ ρ', (∃ ws, GW as ws ∧ ∃ c, ρ'[2]? = some (some (.own c (ws.map axT)))) → Z ρ') → forD (gSets [4, 5]) (sIf tCoin
          (sSeq (sSetO 6 (eLc (itT (eVar 5)) (gSet 7) tCoin (eVar 7) [7])) 
          (sSeq (sIf (tBl (eOp (fEqD false) (eVar 6) (eLst aNil))) 
            (sSetO 6 (eOp fRep (eLst (aCons (eOp (fIx Rv.asT) (eVar 5) (eCall0 mDraw (aCons (eVar 0) (aCons (eN fLen (aCons (eVar 5) aNil)) aNil)))) aNil)) (eOp fAdd (eC (.int 1)) (eCall0 mDraw (aCons (eVar 0) (aCons (eC (.int 2)) aNil)))))) sNext) 
          (sSeq (sIf tCoin (sRev 6) sNext) 
          (sApp 2 (eTup (aCons (eVar 4) (aCons (eN fTuple (aCons (eVar 6) aNil)) aNil))))))) sNext)
      ⟨Z, Q, fun _ => False, fun _ => False, fun _ => False⟩ (os.map axT) [some (.strm a), some (.d (.tup (as.map axT))), some (.own b0 []), some (.d (.lst (os.map axT))), none, none, none, none] := by
    intro os ond oin Z hZ
    refine forD_inv (I := fun j ρ => ∃ (ws : List Ax) (u v w : Option Sl), ρ = [some (.strm a), some (.d (.tup (as.map axT))), some (.own b0 (ws.map axT)), some (.d (.lst (os.map axT))), u, v, w, none] ∧ (w = none ∨ ∃ c l, w = some (.own c l)) ∧ (PX.names ws).Sublist ((PX.names os).take j) ∧ ∀ w ∈ ws, ∃ a ∈ as, a.1 = w.1 ∧ 1 ≤ w.2.length ∧ w.2.length ≤ 4 ∧ ∀ m ∈ w.2, m ∈ a.2) _ 0 _ ⟨[], _, _, _, rfl, .inl rfl, List.Sublist.refl _, fun _ h => by cases h⟩ ?_ ?_
    · rintro j x ρ N hx ⟨ws, u, v, w, rfl, hw, sub, ok⟩ e1 e2 e3 nx ct
      rw [Nat.zero_add] at *
      rw [List.getElem?_map, Option.map_eq_some_iff] at hx
      obtain ⟨y, hy, rfl⟩ := hx
      have hym := oin y (List.mem_of_getElem? hy)
      have hj := (List.getElem?_eq_some_iff.mp hy).1
      obtain ⟨ynd, y1, y4⟩ := g.ms y hym
      have ynm := g.nm y hym
      have hno : (PX.names os)[j]? = some y.1 := by unfold PX.names; rw [List.getElem?_map, hy]; rfl
      have wl : ws.length ≤ 3 := by
        have h1 := sub.length_le
        have h2 : (PX.names ws).length = ws.length := by unfold PX.names; rw [List.length_map]
        have h3 : os.length ≤ as.length := by
          have := nodup_le ond (m := PX.names as) fun z hz => by
            obtain ⟨q, hq, rfl⟩ := List.mem_map.mp hz
            exact List.mem_map_of_mem (f := (·.1)) (oin q hq)
          unfold PX.names at this
          rw [List.length_map, List.length_map] at this
          exact this
        have h4 : ((PX.names os).take j).length ≤ os.length := by unfold PX.names; rw [List.length_take, List.length_map]; omega
        omega
      rw [show axT y = .tup [.str y.1, strsT y.2] from rfl]
      simp only [gSets, gSets.go, List.set_cons_zero, List.set_cons_succ, sIf]
      refine w_coin (a := a) rfl ?_ ?_
      rotate_left
      · rw [if_neg (by simp)]
        unfold sNext
        refine nx _ ⟨ws, _, _, w, rfl, hw, ?_, ok⟩
        rw [take_snoc hno]
        exact sub.trans (List.sublist_append_left _ _)
      rw [if_pos rfl]
      have fin : ∀ (c : Addr) (zs : List Str), 1 ≤ zs.length → zs.length ≤ 4 → (∀ z ∈ zs, z ∈ y.2) → (sSeq (sIf tCoin (sRev 6) sNext) (sApp 2 (eTup (aCons (eVar 4) (aCons (eN fTuple (aCons (eVar 6) aNil)) aNil))))) [some (.strm a), some (.d (.tup (as.map axT))), some (.own b0 (ws.map axT)), some (.d (.lst (os.map axT))), some (.d (.str y.1)), some (.d (strsT y.2)), some (.own c (zs.map .str)), none] N := by
        intro c zs z1 z4 zin
        have fin2 : ∀ (zs : List Str), 1 ≤ zs.length → zs.length ≤ 4 → (∀ z ∈ zs, z ∈ y.2) → N.nx [some (.strm a), some (.d (.tup (as.map axT))), some (.own b0 (ws.map axT ++ [.tup [.str y.1, .tup (zs.map .str)]])), some (.d (.lst (os.map axT))), some (.d (.str y.1)), some (.d (strsT y.2)), some (.own c (zs.map .str)), none] := by
          intro zs z1 z4 zin
          refine nx _ ⟨ws ++ [(y.1, zs)], some (.d (.str y.1)), some (.d (strsT y.2)), some (.own c (zs.map .str)), ?_, .inr ⟨_, _, rfl⟩, ?_, ?_⟩
          · rw [List.map_append]; rfl
          · rw [take_snoc hno]
            unfold PX.names at sub ⊢
            rw [List.map_append]
            exact sub.append (List.Sublist.refl _)
          · intro q hq
            rcases List.mem_append.mp hq with hq | hq
            · exact ok q hq
            · rw [List.mem_singleton.mp hq]
              exact ⟨y, hym, rfl, z1, z4, zin⟩
        have lim : (ws.map axT).length < 1000000 := by rw [List.length_map]; omega
        unfold sSeq sIf
        refine w_coin (a := a) rfl ?_ ?_
        · rw [if_pos rfl]
          mi
          refine ⟨lim, ?_⟩
          have := fin2 zs.reverse (by rw [List.length_reverse]; exact z1) (by rw [List.length_reverse]; exact z4) (fun z hz => zin z (List.mem_reverse.mp hz))
          rw [List.map_reverse] at this
          exact this
        · rw [if_neg (by simp)]
          mi
          exact ⟨lim, fin2 zs z1 z4 zin⟩
      have w7 : ∀ (Kc : Env → Prop), (∀ (c : Addr) (l : List Str), l.Sublist y.2 → Kc [some (.strm a), some (.d (.tup (as.map axT))), some (.own b0 (ws.map axT)), some (.d (.lst (os.map axT))), some (.d (.str y.1)), some (.d (strsT y.2)), some (.own c (l.map .str)), none]) →
          sSetO 6 (eLc (itT (eVar 5)) (gSet 7) tCoin (eVar 7) [7]) [some (.strm a), some (.d (.tup (as.map axT))), some (.own b0 (ws.map axT)), some (.d (.lst (os.map axT))), some (.d (.str y.1)), some (.d (strsT y.2)), w, none] { N with nx := Kc } := by
        intro Kc hK
        unfold sSetO eLc itT eVar strsT
        simp only [List.getElem?_cons_zero, List.getElem?_cons_succ]
        refine ⟨by cl, fun c => ?_⟩
        refine lcD_sub (a := a) rfl (by simp [wipeD]) (by decide) _ [] (by rw [List.length_map]; simp; omega) fun ys hys => ?_
        obtain ⟨l, hl, rfl⟩ := List.sublist_map_iff.mp hys
        exact hK c l hl
      have w8 : ∀ (c : Addr) (l : List Str), l.Sublist y.2 → ∀ (Kc : Env → Prop), (∀ (c : Addr) (zs : List Str), 1 ≤ zs.length → zs.length ≤ 4 → (∀ z ∈ zs, z ∈ y.2) → Kc [some (.strm a), some (.d (.tup (as.map axT))), some (.own b0 (ws.map axT)), some (.d (.lst (os.map axT))), some (.d (.str y.1)), some (.d (strsT y.2)), some (.own c (zs.map .str)), none]) →
          sIf (tBl (eOp (fEqD false) (eVar 6) (eLst aNil))) 
            (sSetO 6 (eOp fRep (eLst (aCons (eOp (fIx Rv.asT) (eVar 5) (eCall0 mDraw (aCons (eVar 0) (aCons (eN fLen (aCons (eVar 5) aNil)) aNil)))) aNil)) (eOp fAdd (eC (.int 1)) (eCall0 mDraw (aCons (eVar 0) (aCons (eC (.int 2)) aNil)))))) sNext [some (.strm a), some (.d (.tup (as.map axT))), some (.own b0 (ws.map axT)), some (.d (.lst (os.map axT))), some (.d (.str y.1)), some (.d (strsT y.2)), some (.own c (l.map .str)), none] { N with nx := Kc } := by
        intro c l hl Kc hK
        have lnm : NmS l := fun z hz => ynm z (hl.subset hz)
        have ll := hl.length_le
        simp only [strsT]
        mi
        intro c2
        simp only [fEqD, Rv.py, py_strl, pys]
        refine ⟨shaped_strl lnm, shaped_strl (zs := []) (fun _ h => by cases h), ?_⟩
        mi
        rw [show PyData.eqv (.list (l.map .str)) (.list []) = decide (l = []) from eqv_strl l []]
        by_cases c3 : l = []
        · rw [if_pos (decide_eq_true c3), List.length_map]
          refine w_dr (by omega) (by omega) fun d h0 h1 => ?_
          obtain ⟨z, hz, hzin⟩ := atI_mem h0 h1
          have e : atI (y.2.map D.str) d = some (.str z) := by
            obtain ⟨k, hk⟩ : ∃ k : Nat, d = (k : Int) := ⟨d.toNat, by omega⟩
            have hk2 : k < y.2.length := by omega
            have e1 : atI y.2 d = some y.2[k] := atI_k hk (List.getElem?_eq_getElem hk2)
            rw [e1] at hz
            cases hz
            exact atI_k hk (by rw [List.getElem?_map, List.getElem?_eq_getElem hk2]; rfl)
          mi
          rw [e]
          intro c5
          refine w_dr (by decide) (by decide) fun d2 h2 h3 => ?_
          mi
          simp only [fRep, Rv.asL]
          refine ⟨by omega, by omega, ?_, fun c6 => ?_⟩
          · exact Nat.le_trans (show [D.str z].length * (1 + d2).toNat ≤ 2 by simp; omega) (by decide)
          · rw [rep_one]
            have := hK c6 (List.replicate (1 + d2).toNat z) (by rw [List.length_replicate]; omega) (by rw [List.length_replicate]; omega) (fun w hw => by rw [(List.mem_replicate.mp hw).2]; exact hzin)
            rw [List.map_replicate] at this
            exact this
        · rw [if_neg (by simpa using c3)]
          exact hK c l (by cases l with | nil => exact absurd rfl c3 | cons _ _ => simp) (by omega) (fun z hz => hl.subset hz)
      unfold sSeq
      refine w7 _ fun c l hl => ?_
      refine w8 c l hl _ fun c' zs z1 z4 zin => ?_
      have := fin c' zs z1 z4 zin
      unfold sSeq at this
      exact this
    · rintro ρ' ⟨ws, u, v, w, rfl, hw, sub, ok⟩
      rw [Nat.zero_add, List.length_map, List.take_of_length_le (by unfold PX.names; rw [List.length_map]; exact Nat.le_refl _)] at sub
      exact hZ _ ⟨ws, ⟨sub.nodup ond, ok⟩, _, rfl⟩
  have back : ∀ (os : List Ax), os = as ∨ os = as.reverse → (PX.names os).Nodup ∧ ∀ x ∈ os, x ∈ as := by
    rintro os (rfl | rfl)
    · exact ⟨g.nd, fun _ h => h⟩
    · refine ⟨?_, fun x hx => List.mem_reverse.mp hx⟩
      unfold PX.names
      rw [List.map_reverse]
      exact nodup_back g.nd
  have fin : ∀ (os : List Ax), os = as ∨ os = as.reverse → _ := fun os ho => main os (back os ho).1 (back os ho).2
  cases decide (V.int d = V.int 0) with
  | true =>
    rw [if_pos rfl, ← List.map_reverse]
    refine fin as.reverse (.inr rfl) _ ?_
    rintro ρ' ⟨ws, gw, c, hc⟩
    rw [hc]
    exact h ws gw
  | false =>
    rw [if_neg (by simp)]
    refine fin as (.inl rfl) _ ?_
    rintro ρ' ⟨ws, gw, c, hc⟩
    rw [hc]
    exact h ws gw
end DL

set_option linter.all false
set_option maxRecDepth 100000
set_option maxHeartbeats 1000000
/-! the law's regions and questions -/
namespace DL
open PySem L2 He DX DW
theorem idx_strs {z : Str} : ∀ {l : List Str}, z ∈ l → idx (.str z) (l.map V.str) = some (l.idxOf z)
  | [], h => by cases h
  | y :: l, h => by
    rw [List.map_cons, idx]
    by_cases c : y = z
    · rw [if_pos (by simp [eqV, c]), c, List.idxOf_cons_self]
    · rw [if_neg (by simp [eqV, c])]
      rcases List.mem_cons.mp h with e | h
      · exact absurd e.symm c
      · rw [idx_strs h, List.idxOf_cons, beq_false_of_ne c]
        rfl
theorem w_law_region {as ws : List Ax} {Q : KD} {Ed : KX} (g : GG as) (sub : ∀ w ∈ ws, w.1 ∈ PX.names as) (h : ∀ b, Q (.new b (natsD (PX.region as ws)))) : f__law_region [.d (axsT as), .d (axsT ws)] Q Ed := by
  unfold f__law_region mDef0 m__law_region
  mi
  have g3 := g.hi
  refine w_law_cells g.hi (fun a ha => (g.ms a ha).2.2) fun b0 => ?_
  mi
  simp only [axsT]
  mi
  refine ⟨by cl, fun b1 => ?_⟩
  refine lcD_map (fun x => match x with | .tup (y :: _) => y | _ => .non) _ (fun y hy Q2 h2 => ?_) (by rw [List.length_map]; omega) ?_
  · obtain ⟨b, hb, rfl⟩ := List.mem_map.mp hy
    unfold axT at h2 ⊢
    mi
    exact h2
  rw [List.map_map, show ((fun x => match x with | .tup (y :: _) => y | _ => .non) ∘ axT) = fun a : Ax => D.str a.1 from rfl, names_map]
  mi
  intro b2
  have hz := g.sz
  unfold nCells at hz
  refine ⟨by rw [List.length_map]; omega, ?_⟩
  refine forD_inv (I := fun j ρ => ∃ (u v w x : Option Sl), ρ = [some (.d (.tup (as.map axT))), some (.d (.tup (ws.map axT))), some (.own b0 ((PX.cellsL as).map strsT)), some (.own b1 ((PX.names as).map .str)), some (.own b2 (natsD ((List.range j).filter (PX.inReg as ws)))), u, v, w, x, none]) _ 0 _ ⟨_, _, _, _, rfl⟩ ?_ ?_
  · rintro j x ρ N hx ⟨u, v, w, y, rfl⟩ e1 e2 e3 nx ct
    rw [Nat.zero_add] at *
    obtain ⟨hj, rfl⟩ := upInts_at hx
    rw [Int.toNat_natCast, List.length_map] at hj
    have hc : (PX.cellsL as)[j]? = some (PX.cellsL as)[j] := List.getElem?_eq_getElem hj
    generalize hcc : (PX.cellsL as)[j] = c at hc
    have hat : PX.At c as := PX.mem_cells.mp (List.mem_of_getElem? hc)
    have step : ∀ (Z : Env → Prop), (∀ x y, Z [some (.d (.tup (as.map axT))), some (.d (.tup (ws.map axT))), some (.own b0 ((PX.cellsL as).map strsT)), some (.own b1 ((PX.names as).map .str)), some (.own b2 (natsD ((List.range j).filter (PX.inReg as ws)))), some (.d (.int (0 + (j : Nat) : Int))), some (.d (.bl (PX.fits as ws c))), x, y, none]) →
        sFor (itT (eVar 1)) (gSets [7, 8]) 
          (sIf (tBl (eOp (fIn true) (eOp (fIx Rv.asT) (eOp (fIx Rv.asL) (eVar 2) (eVar 5)) (eIndex (eVar 3) (aCons (eVar 7) aNil))) (eVar 8))) 
            (sSetD 6 (eC (.bl false))) sNext) [some (.d (.tup (as.map axT))), some (.d (.tup (ws.map axT))), some (.own b0 ((PX.cellsL as).map strsT)), some (.own b1 ((PX.names as).map .str)), some (.own b2 (natsD ((List.range j).filter (PX.inReg as ws)))), some (.d (.int (0 + (j : Nat) : Int))), some (.d (.bl true)), w, y, none] { N with nx := Z } := by
      intro Z hZ
      mi
      refine forD_inv (I := fun k ρ => ∃ (x y : Option Sl), ρ = [some (.d (.tup (as.map axT))), some (.d (.tup (ws.map axT))), some (.own b0 ((PX.cellsL as).map strsT)), some (.own b1 ((PX.names as).map .str)), some (.own b2 (natsD ((List.range j).filter (PX.inReg as ws)))), some (.d (.int (0 + (j : Nat) : Int))), some (.d (.bl (PX.fits as (ws.take k) c))), x, y, none]) _ 0 _ ⟨_, _, rfl⟩ ?_ ?_
      · rintro k x ρ N2 hx2 ⟨x', y', rfl⟩ f1 f2 f3 nx2 ct2
        rw [Nat.zero_add] at *
        rw [List.getElem?_map, Option.map_eq_some_iff] at hx2
        obtain ⟨q, hq, rfl⟩ := hx2
        have hin := sub q (List.mem_of_getElem? hq)
        rw [show axT q = .tup [.str q.1, strsT q.2] from rfl]
        simp only [gSets, gSets.go]
        mi
        have e1 : atI ((PX.cellsL as).map strsT) (0 + (j : Nat) : Int) = some (strsT c) := atI_k (Int.zero_add _) (by rw [List.getElem?_map, hc]; rfl)
        rw [e1]
        simp only [strsT]
        mi
        rw [scs_strs]
        dsimp only
        rw [idx_strs hin]
        dsimp only
        obtain ⟨a, ha, ea⟩ := PX.idx_at hin
        obtain ⟨m, hm, _⟩ := hat.get ha
        have e2 : atI (c.map D.str) (((PX.names as).idxOf q.1 : Nat) : Int) = some (.str m) := atI_k rfl (by rw [List.getElem?_map, hm]; rfl)
        rw [e2]
        simp only [fIn]
        mi
        rw [scs_strs]
        dsimp only
        rw [inV_strs]
        have ef : PX.fits as (ws.take (k + 1)) c = (PX.fits as (ws.take k) c && decide (m ∈ q.2)) := by
          rw [take_snoc hq, PX.fits_append]
          congr 1
          unfold PX.fits PX.fit1
          rw [List.all_cons, List.all_nil, Bool.and_true, hm]
        cases cd : decide (m ∈ q.2) with
        | true =>
          rw [cd, Bool.and_true] at ef
          rw [if_neg (by simp), ← ef]
          exact nx2 _ ⟨_, _, rfl⟩
        | false =>
          rw [cd, Bool.and_false] at ef
          rw [if_pos (by simp), ← ef]
          exact nx2 _ ⟨_, _, rfl⟩
      · rintro ρ' ⟨x, y, rfl⟩
        rw [Nat.zero_add, List.length_map, List.take_length]
        exact hZ _ _
    have next : ∀ (Z : Env → Prop), (∀ ρ', (∃ (u v w x : Option Sl), ρ' = [some (.d (.tup (as.map axT))), some (.d (.tup (ws.map axT))), some (.own b0 ((PX.cellsL as).map strsT)), some (.own b1 ((PX.names as).map .str)), some (.own b2 (natsD ((List.range (j + 1)).filter (PX.inReg as ws)))), u, v, w, x, none]) → Z ρ') → ∀ x y, sIf (tBl (eVar 6)) (sApp 4 (eVar 5)) sNext [some (.d (.tup (as.map axT))), some (.d (.tup (ws.map axT))), some (.own b0 ((PX.cellsL as).map strsT)), some (.own b1 ((PX.names as).map .str)), some (.own b2 (natsD ((List.range j).filter (PX.inReg as ws)))), some (.d (.int (0 + (j : Nat) : Int))), some (.d (.bl (PX.fits as ws c))), x, y, none] { N with nx := Z } := by
      intro Z hZ x y
      have hr : (List.range (j + 1)).filter (PX.inReg as ws) = (List.range j).filter (PX.inReg as ws) ++ (if PX.fits as ws c = true then [j] else []) := by
        rw [List.range_succ, List.filter_append]
        congr 1
        rw [List.filter_cons, List.filter_nil, PX.inReg_at hc]
      mi
      cases cf : PX.fits as ws c with
      | true =>
        rw [cf, if_pos rfl] at hr
        rw [if_pos rfl]
        have hlen : (natsD ((List.range j).filter (PX.inReg as ws))).length ≤ j := by
          unfold natsD
          rw [List.length_map]
          refine Nat.le_trans (List.length_filter_le _ _) ?_
          rw [List.length_range]
          exact Nat.le_refl _
        refine ⟨by omega, hZ _ ⟨some (.d (.int (0 + (j : Nat) : Int))), some (.d (.bl true)), x, y, ?_⟩⟩
        rw [hr]
        unfold natsD
        rw [List.map_append, Int.zero_add]
        rfl
      | false =>
        rw [cf, if_neg (by simp), List.append_nil] at hr
        rw [if_neg (by simp)]
        refine hZ _ ⟨some (.d (.int (0 + (j : Nat) : Int))), some (.d (.bl false)), x, y, ?_⟩
        rw [hr]
    unfold gSet sSeq sSetD eC
    simp only [Rv.data, List.set_cons_zero, List.set_cons_succ]
    refine step _ fun x y => ?_
    exact next N.nx nx x y
  · rintro ρ' ⟨u, v, w, x, rfl⟩
    rw [Nat.zero_add, upInts_len, Int.toNat_natCast, List.length_map]
    mi
    exact h b2
theorem w_law_ones {n : Nat} {ps : List Nat} {Q : KD} {Ed : KX} (hn : n ≤ 1000) (h : ∀ b, Q (.new b ((onesF n ps).map fT))) : f__law_ones [.d (.int (n : Nat)), .d (.lst (natsD ps))] Q Ed := by
  unfold f__law_ones mDef0 m__law_ones
  mi
  refine ⟨by omega, by cl, fun b => ?_⟩
  refine lcD_map (fun x => match x with | .int i => fT (oneI ps i.toNat, 1) | _ => .non) _ (fun y hy Q2 h2 => ?_) (by rw [upInts_len, Int.toNat_natCast]; omega) ?_
  · obtain ⟨j, hj⟩ := List.mem_iff_getElem?.mp hy
    obtain ⟨hj, rfl⟩ := upInts_at hj
    mi
    simp only [fIn]
    mi
    rw [scs_nats]
    dsimp only
    rw [Int.zero_add, inV_nats]
    rw [Int.zero_add] at h2
    have h2 : Q2 (.d (fT (oneI ps ((j : Int)).toNat, 1))) := h2
    rw [Int.toNat_natCast] at h2
    unfold oneI fT at h2
    by_cases c : j ∈ ps
    · rw [decide_eq_true c]
      rw [if_pos c] at h2
      exact h2
    · rw [decide_eq_false c]
      rw [if_neg c] at h2
      exact h2
  · have e : (upInts 0 ((n : Int).toNat)).map (fun x => match x with | .int i => fT (oneI ps i.toNat, 1) | _ => .non) = (onesF n ps).map fT := by
      unfold upInts onesF
      rw [List.map_map, List.map_map, Int.toNat_natCast]
      refine List.map_congr_left fun i hi => ?_
      simp
    rw [e]
    exact h b
theorem w_law_given {vs : List Frc} {n : Nat} {Q : KD} {Ed : KX} (sz : vs.length ≤ 1000) (lw : ∀ x ∈ vs, Rt.Low x.1 x.2) (sb : ∀ x ∈ vs, Sb n x.2) (l : n ≤ 8000) (h : ∀ b, Q (.new b (vs.map fR))) : f__law_given [.d (.lst (vs.map fT))] Q Ed := by
  unfold f__law_given mDef0 m__law_given
  mi
  refine ⟨by cl, fun b => ?_⟩
  refine lcD_map (fun x => match x with | .tup [.int t, .int b] => fR (t, b) | _ => .non) _ (fun y hy Q2 h2 => ?_) (by rw [List.length_map]; omega) ?_
  · obtain ⟨x, hx, rfl⟩ := List.mem_map.mp hy
    simp only [fT] at h2 ⊢
    mi
    obtain ⟨e1, e2⟩ := Rt.nrm_of_low (lw x hx)
    refine w_made (Int.ne_of_gt (lw x hx).pos) (sb x hx) l ?_
    unfold nrmF
    rw [e1, e2]
    exact h2
  · rw [List.map_map]
    exact h b
theorem w_lis {x y : Frc} {Q : KD} {Ed : KX} (h : Q (.d (.bl (decide (x = y))))) : f__law_is [.d (fR x), .d (fT y)] Q Ed := by
  refine w_law_is ?_
  have e : (decide (x.1 = y.1) && decide (x.2 = y.2)) = decide (x = y) := by
    rw [Bool.eq_iff_iff, Bool.and_eq_true, decide_eq_true_iff, decide_eq_true_iff, decide_eq_true_iff]
    exact Prod.ext_iff.symm
  rw [e]
  exact h
theorem w_asks {as : List Ax} {ws : List Frc} {Q : KD} {Ed : KX} (g : GG as) (sz : ws.length ≤ 1000) (h : Q (.d (.bl true))) : f__law_asks [.d (qq as ws), .d (gridD as), .d (.lst (ws.map fT))] Q Ed := by
  unfold f__law_asks mDef0 m__law_asks
  simp only [qq, qD]
  mi
  rw [show isC "Question" (D.obj "Question" ["grid", "weights"] [gridD as, .tup (ws.map fR)]) = true from rfl]
  mi
  simp only [gridD, gD]
  st
  refine w_grid_eq g g ?_
  rw [decide_eq_true rfl]
  mi
  rw [show ((["tuple"] : List String).any fun t => isB t (.tup (ws.map fR))) = true from rfl]
  mi
  st
  have e : decide (V.int ((ws.map fR).length : Int) = V.int ((ws.map fT).length : Int)) = true := decide_eq_true (by rw [List.length_map, List.length_map])
  rw [e]
  mi
  refine ⟨rfl, by rw [List.length_map]; omega, by cl, fun b => ?_⟩
  refine lc_allT _ (fun y hy Q2 h2 => ?_) (by rw [upInts_len, Int.toNat_natCast, List.length_map]; omega) h
  obtain ⟨j, hj⟩ := List.mem_iff_getElem?.mp hy
  obtain ⟨hj2, rfl⟩ := upInts_at hj
  rw [Int.toNat_natCast, List.length_map] at hj2
  mi
  have e1 : atI (ws.map fR) (0 + (j : Nat) : Int) = some (fR ws[j]) := atI_k (Int.zero_add _) (by rw [List.getElem?_map, List.getElem?_eq_getElem hj2]; rfl)
  have e2 : atI (ws.map fT) (0 + (j : Nat) : Int) = some (fT ws[j]) := atI_k (Int.zero_add _) (by rw [List.getElem?_map, List.getElem?_eq_getElem hj2]; rfl)
  rw [e1, e2]
  mi
  refine w_lis ?_
  rw [decide_eq_true rfl]
  exact h2
end DL

set_option linter.all false
set_option maxRecDepth 100000
set_option maxHeartbeats 1000000
/-! sums for each member; what is refused -/
namespace DL
open PySem L2 He DX DW
theorem w_sum_overL {ax ce : D} {n : Nat} {ps : List Nat} {Q : KD} {Ed : KX} (hn : n ≤ 1000) (h : Q (.d (qD (gD ax ce n) (onesR n ps)))) : f_sum_over [.d (gD ax ce n), .d (.lst (natsD ps))] Q Ed := by
  unfold f_sum_over mDef m_sum_over
  mir
  simp only [gD, eLc, itR1]
  mir
  simp only [look]
  rw [if_neg (by decide), if_neg (by decide), if_pos trivial]
  dsimp only
  refine ⟨⟨by omega, by omega⟩, fun i hi => by simp only [List.mem_singleton] at hi; subst hi; simp, fun a => ?_⟩
  refine lcD_yes (P := fun x y => ∃ i : Nat, x = .int (i : Int) ∧ y = .int (oneI ps i)) _ [] (fun x hx Q hQ => ?_) (by rw [upInts_len]; simp; omega) fun zs hz => ?_
  · obtain ⟨i, hi, rfl⟩ : ∃ i : Nat, i < n ∧ x = .int (i : Int) := by
      obtain ⟨j, hj⟩ := List.mem_iff_getElem?.mp hx
      obtain ⟨h1, h2⟩ := upInts_at hj
      exact ⟨j, by simpa using h1, by simpa using h2⟩
    mir
    simp [wipeD, fIn, Rv.sc, D.sc, Rv.asS, scs_nats, inV_nats]
    have := hQ (.int (oneI ps i)) ⟨i, rfl, rfl⟩
    unfold oneI at this
    by_cases c : i ∈ ps
    · rw [if_pos c] at this ⊢; exact this
    · rw [if_neg c] at this ⊢; exact this
  · rw [List.nil_append]
    have e : zs = (List.range n).map fun i => D.int (oneI ps i) := by
      refine f2_one (P := fun x y => ∃ i : Nat, x = .int (i : Int) ∧ y = .int (oneI ps i)) (fun x y z => ?_) hz ?_
      · rintro ⟨i, rfl, rfl⟩ ⟨j, e, rfl⟩
        cases e
        rfl
      · unfold upInts
        simp only [Int.zero_add]
        exact f2_map (fun i => ⟨i, rfl, rfl⟩) _
    subst e
    simp only [fMake, argsOf, Rv.arg, List.map_nil, List.append_nil]
    refine ⟨by simp [strms], ?_⟩
    refine w_question (ys := onesR n ps) (by simp) hn (f2_map (fun i => .int _) _) ?_
    exact ⟨by decide, h⟩

theorem onesF_congr {n : Nat} {ps qs : List Nat} (h : ∀ i < n, i ∈ ps ↔ i ∈ qs) : onesF n ps = onesF n qs := by
  unfold onesF
  refine List.map_congr_left fun i hi => ?_
  have := h i (List.mem_range.mp hi)
  unfold oneI
  by_cases c : i ∈ ps
  · rw [if_pos c, if_pos (this.mp c)]
  · rw [if_neg c, if_neg fun z => c (this.mpr z)]
theorem fit1_one {as : List Ax} {c : List Str} {n m k : Str} (h : c[(PX.names as).idxOf n]? = some k) : PX.fit1 as c (n, [m]) = decide (k = m) := by
  unfold PX.fit1
  rw [h]
  exact decide_eq_decide.mpr List.mem_singleton
def inM (as : List Ax) (n m : Str) : D → Bool
  | .int i => PX.inReg as [(n, [m])] i.toNat
  | _ => false
theorem filt_nats (as : List Ax) (n m : Str) (ps : List Nat) : (natsD ps).filter (inM as n m) = natsD (ps.filter (PX.inReg as [(n, [m])])) := by
  unfold natsD
  rw [List.filter_map]
  rfl
def eachQ (as ws : List Ax) (n : Str) (ms : List Str) : List D := ms.map fun m => qq as (onesF (nCells as) (PX.region as (ws ++ [(n, [m])])))
theorem w_each {as : List Ax} {x : D} {l : List D} {ws : List Ax} {a : Ax} {Q : KD} {Ed : KX} (g : GG as) (ha : a ∈ as) (r : RowD x l) (al : AxRs l ws) (sz : ws.length ≤ 100) (sh : ∀ w ∈ ws, w.2.length ≤ 100 ∧ ∀ z ∈ w.2, z.length ≤ 100)
    (hQ : fb as [a.1] [] 0 ws = none → ∀ b, Q (.new b (eachQ as ws a.1 a.2))) (hE : ∀ j wd, fb as [a.1] [] 0 ws = some (j, wd) → Ed ⟨"NoWish", ["place", "word"], [.int (j : Nat), .str wd]⟩) :
    f_each_of [.d (gridD as), .d (.str a.1), .d x] Q Ed := by
  unfold f_each_of mDef m_each_of
  mi
  refine w_place_of_axis rfl (fun i b hb first eb => ?_) (fun no => absurd rfl (no a ha))
  have eb' : a.1 = b.1 := by injection eb
  have hidx : (PX.names as).idxOf a.1 = i := by rw [eb']; exact PX.idx_of g.nd hb
  have hab : b = a := by
    obtain ⟨k, hk⟩ := List.mem_iff_getElem?.mp ha
    have := PX.idx_of g.nd hk
    rw [hidx] at this
    subst this
    rw [hb] at hk
    exact Option.some.inj hk
  subst hab
  mi
  refine w_region_beside (tk := [b.1]) g r al sz sh (fun hf => ?_) hE
  simp only [gridD, gD, axsT]
  mi
  rw [show atI (as.map axT) (i : Int) = some (axT b) from atI_k rfl (by rw [List.getElem?_map, hb]; rfl)]
  simp only [axT, strsT]
  mi
  refine ⟨by cl, fun c => ?_⟩
  have hz := g.sz
  unfold nCells at hz
  obtain ⟨m1, m2, m3⟩ := g.ms b ha
  refine lcD_map (fun y => match y with | .str m => qq as (onesF (nCells as) (PX.region as (ws ++ [(b.1, [m])]))) | _ => .non) _ (fun y hy Q2 h2 => ?_) (by rw [List.length_map]; omega) ?_
  · obtain ⟨m, hm, rfl⟩ := List.mem_map.mp hy
    mi
    refine ⟨by cl, fun c2 => ?_⟩
    have rl : (PX.region as ws).length ≤ 8 := by
      unfold PX.region
      refine Nat.le_trans (List.length_filter_le _ _) ?_
      rw [List.length_range]
      exact hz
    refine lcD_filt (inM as b.1 m) _ (by simp) (fun p hp Q3 h3 => ?_) (by unfold natsD; rw [List.length_map]; omega) ?_
    · obtain ⟨p, hp', rfl⟩ := List.mem_map.mp hp
      have hp2 := PX.inReg_lt (PX.mem_region.mp hp')
      have hc : (PX.cellsL as)[p]? = some (PX.cellsL as)[p] := List.getElem?_eq_getElem hp2
      generalize (PX.cellsL as)[p] = cell at hc
      have hat : PX.At cell as := PX.mem_cells.mp (List.mem_of_getElem? hc)
      obtain ⟨k, hk, _⟩ := hat.get hb
      simp only [cellsT]
      mi
      rw [show atI ((PX.cellsL as).map strsT) (p : Int) = some (strsT cell) from atI_k rfl (by rw [List.getElem?_map, hc]; rfl)]
      simp only [strsT]
      mi
      rw [show atI (cell.map D.str) (i : Int) = some (.str k) from atI_k rfl (by rw [List.getElem?_map, hk]; rfl)]
      mi
      refine ⟨rfl, ?_⟩
      have e : inM as b.1 m (.int (p : Nat)) = decide (V.str k = V.str m) := by
        show PX.inReg as [(b.1, [m])] ((p : Int)).toNat = _
        rw [Int.toNat_natCast, PX.inReg_at hc]
        unfold PX.fits
        rw [List.all_cons, List.all_nil, Bool.and_true, fit1_one (by rw [hidx]; exact hk)]
        exact decide_eq_decide.mpr ⟨fun h => by rw [h], fun h => by injection h⟩
      rw [e] at h3
      exact h3
    · rw [filt_nats]
      mi
      refine w_sum_overL (ax := axsT as) (ce := cellsT as) (by unfold nCells; omega) ?_
      rw [ones_eq]
      have e : onesF (nCells as) ((PX.region as ws).filter (PX.inReg as [(b.1, [m])])) = onesF (nCells as) (PX.region as (ws ++ [(b.1, [m])])) := onesF_congr fun i hi => by
        rw [List.mem_filter, PX.mem_region, PX.mem_region, PX.inReg_append, Bool.and_eq_true]
      rw [e]
      exact h2
  · rw [List.map_map]
    mi
    exact hQ hf c
theorem w_each_no {as : List Ax} {x y : D} {Q : KD} {Ed : KX} (p : plainD x = true) (no : ∀ a ∈ as, x ≠ .str a.1) (h : Ed ⟨"NoAxis", [], []⟩) : f_each_of [.d (gridD as), .d x, .d y] Q Ed := by
  unfold f_each_of mDef m_each_of
  mi
  refine w_place_of_axis p (fun i b hb _ eb => absurd eb (no b (List.mem_of_getElem? hb))) (fun _ => ?_)
  mi
  exact h
theorem w_eachN {as : List Ax} {a : Ax} {y : D} {Q : KD} {Ed : KX} (ha : a ∈ as) (n : NoTy y) (s : isSeqD y = false) (h : Ed ⟨"NoWish", ["place", "word"], [.int (-1), .str "wish"]⟩) : f_each_of [.d (gridD as), .d (.str a.1), .d y] Q Ed := by
  unfold f_each_of mDef m_each_of
  mi
  refine w_place_of_axis rfl (fun i b hb _ eb => ?_) (fun no => absurd rfl (no a ha))
  mi
  exact w_region_besideN n s h
/-! what is told of it -/
theorem w_parted_ok {g x y : D} {L : List D} {Q : KD} {Ed : KX} (run : ∀ (Q' : KD) (Ed' : KX), (∀ b, Q' (.new b L)) → f_each_of [.d g, .d x, .d y] Q' Ed') (h : ∀ c b, Q (.tp c [.inr (b, L), .inl .non, .inl (.bl true)])) : f__law_parted [.d g, .d x, .d y] Q Ed := by
  unfold f__law_parted mDef0 m__law_parted
  mi
  refine run _ _ fun b => ?_
  mi
  simp only [itsOf, itOf]
  mi
  simp only [Option.map_some]
  refine ⟨fun b' l' hb => ?_, by simp [newsI], fun c => h c b⟩
  simp only [List.mem_cons, Sum.inr.injEq, Prod.mk.injEq, List.not_mem_nil, or_false] at hb
  rcases hb with ⟨rfl, rfl⟩ | hb | hb
  · simp
  · cases hb
  · cases hb
theorem w_parted_bad {g x y : D} {e : Ex} {r : D} {Q : KD} {Ed : KX} (run : ∀ (Q' : KD) (Ed' : KX), Ed' e → f_each_of [.d g, .d x, .d y] Q' Ed') (he : (e = ⟨"NoAxis", [], []⟩ ∧ r = .str "axis") ∨ ∃ p w, e = ⟨"NoWish", ["place", "word"], [p, w]⟩ ∧ r = .tup [p, w])
    (h : ∀ c, Q (.tp c [.inl .non, .inl r, .inl (.bl true)])) : f__law_parted [.d g, .d x, .d y] Q Ed := by
  unfold f__law_parted mDef0 m__law_parted
  mi
  refine run _ _ ?_
  rcases he with ⟨rfl, rfl⟩ | ⟨p, w, rfl, rfl⟩
  · simp only [hdAs]
    refine ⟨by simp [errNames], fun _ a d => ?_, fun h => by simp [exSub] at h⟩
    mi
    simp only [eXup]
    mi
    simp only [itsOf, itOf]
    mi
    simp only [Option.map_some]
    exact ⟨fun b' l' hb => by simp at hb, by simp [newsI], fun c => h c⟩
  · simp only [hdAs]
    refine ⟨by simp [errNames], fun h => by simp [exSub] at h, fun _ => ?_⟩
    refine ⟨by simp [errNames], fun _ a d => ?_, fun h => by simp [exSub] at h⟩
    mi
    simp only [eXf, eXup]
    mi
    refine ⟨by decide, by decide, ?_⟩
    simp only [itsOf, itOf]
    mi
    simp only [Option.map_some]
    exact ⟨fun b' l' hb => by simp at hb, by simp [newsI], fun c => h c⟩
theorem w_summed_bad {g x p w : D} {Q : KD} {Ed : KX} (run : ∀ (Q' : KD) (Ed' : KX), Ed' ⟨"NoWish", ["place", "word"], [p, w]⟩ → f_sum_of [.d g, .d x] Q' Ed') (h : Q (.d (.tup [p, w]))) : f__law_summed [.d g, .d x] Q Ed := by
  unfold f__law_summed mDef0 m__law_summed
  mi
  refine run _ _ ?_
  simp only [hdAs]
  refine ⟨by simp [errNames], fun _ a d => ?_, fun h => by simp [exSub] at h⟩
  mi
  simp only [eXf]
  mi
  exact ⟨by decide, by decide, h⟩
/-! what is first wrong -/
def wok (as : List Ax) (w : Ax) : Bool := decide (0 < w.2.length) && w.2.all isNameS && w.2.all fun z => decide (z ∈ (PX.lk as w.1).getD [])
theorem fb_app {as : List Ax} {tk : List Str} : ∀ (ws vs : List Ax) (seen : List Str) (j : Nat), fb as tk seen j ws = none → fb as tk seen j (ws ++ vs) = fb as tk (seen ++ PX.names ws) (j + ws.length) vs
  | [], vs, seen, j, _ => by simp [PX.names]
  | w :: ws, vs, seen, j, h => by
    rw [List.cons_append, fb]
    rw [fb] at h
    cases e : chk as tk seen w with
    | some wd => rw [e] at h; cases h
    | none =>
      rw [e] at h
      dsimp only
      rw [fb_app ws vs _ _ h]
      unfold PX.names
      rw [List.map_cons, List.length_cons, List.append_assoc, List.singleton_append, show j + 1 + ws.length = j + (ws.length + 1) by omega]
theorem fb_none {as : List Ax} {tk : List Str} : ∀ (ws : List Ax) (seen : List Str) (j : Nat), (PX.names ws).Nodup → (∀ w ∈ ws, w.1 ∈ PX.names as ∧ w.1 ∉ tk ∧ w.1 ∉ seen ∧ wok as w = true) → fb as tk seen j ws = none
  | [], seen, j, _, _ => rfl
  | w :: ws, seen, j, nd, h => by
    obtain ⟨h1, h2, h3, h4⟩ := h w List.mem_cons_self
    unfold PX.names at nd
    rw [List.map_cons, List.nodup_cons] at nd
    have e : chk as tk seen w = none := by
      unfold chk
      rw [if_neg (fun q => q.elim (fun q => q h1) fun q => q.elim h2 h3)]
      exact if_pos h4
    rw [fb, e]
    refine fb_none ws _ _ nd.2 fun v hv => ?_
    obtain ⟨g1, g2, g3, g4⟩ := h v (List.mem_cons_of_mem _ hv)
    refine ⟨g1, g2, fun q => ?_, g4⟩
    rcases List.mem_append.mp q with q | q
    · exact g3 q
    · rw [List.mem_singleton] at q
      exact nd.1 (by rw [← q]; exact List.mem_map_of_mem (f := (·.1)) hv)
theorem GW.wok {as ws : List Ax} (g : GG as) (h : GW as ws) : ∀ w ∈ ws, w.1 ∈ PX.names as ∧ wok as w = true := fun w hw => by
  obtain ⟨a, ha, e, l1, l4, sub⟩ := h.ok w hw
  refine ⟨by rw [← e]; exact List.mem_map_of_mem (f := (·.1)) ha, ?_⟩
  unfold DL.wok
  rw [← e, PX.lk_mem g.nd ha, decide_eq_true (by omega : 0 < w.2.length), Bool.true_and, Bool.and_eq_true, List.all_eq_true, List.all_eq_true]
  exact ⟨fun z hz => g.nm a ha z (sub z hz), fun z hz => decide_eq_true (sub z hz)⟩
theorem GW.fb {as ws : List Ax} (g : GG as) (h : GW as ws) {tk : List Str} (no : ∀ n ∈ tk, n ∉ PX.names ws) : fb as tk [] 0 ws = none :=
  fb_none ws [] 0 h.nd fun w hw => by
    obtain ⟨h1, h2⟩ := h.wok g w hw
    exact ⟨h1, fun q => no _ q (List.mem_map_of_mem (f := (·.1)) hw), fun q => (by cases q), h2⟩
theorem GW.short {as ws : List Ax} (g : GG as) (h : GW as ws) : ws.length ≤ 3 ∧ ∀ w ∈ ws, w.2.length ≤ 100 ∧ ∀ z ∈ w.2, z.length ≤ 100 := by
  refine ⟨?_, fun w hw => ?_⟩
  · have := nodup_le h.nd (m := PX.names as) fun z hz => by
      obtain ⟨q, hq, rfl⟩ := List.mem_map.mp hz
      exact (h.wok g q hq).1
    unfold PX.names at this
    rw [List.length_map, List.length_map] at this
    have := g.hi
    omega
  · obtain ⟨a, ha, e, l1, l4, sub⟩ := h.ok w hw
    exact ⟨by omega, fun z hz => (g.nm a ha).short z (sub z hz)⟩
/-- a pair that names a taken axis -/
theorem fb_taken {as : List Ax} {n : Str} : ∀ (ws : List Ax) (seen : List Str) (j : Nat), (PX.names ws).Nodup → (∀ w ∈ ws, w.1 ∈ PX.names as ∧ w.1 ∉ seen ∧ wok as w = true) → n ∈ PX.names ws → fb as [n] seen j ws = some (j + (PX.names ws).idxOf n, ("axis" : Str))
  | [], seen, j, _, _, h => by cases h
  | w :: ws, seen, j, nd, h, hn => by
    obtain ⟨h1, h3, h4⟩ := h w List.mem_cons_self
    unfold PX.names at nd hn ⊢
    rw [List.map_cons, List.nodup_cons] at nd
    rw [List.map_cons] at hn ⊢
    rw [fb, List.idxOf_cons]
    by_cases c : w.1 = n
    · have e : chk as [n] seen w = some ("axis" : Str) := by
        unfold chk
        rw [if_pos (.inr (.inl (by rw [c]; exact List.mem_cons_self)))]
      rw [e, c, beq_self_eq_true]
      rfl
    · have e : chk as [n] seen w = none := by
        unfold chk
        rw [if_neg (fun q => q.elim (fun q => q h1) fun q => q.elim (fun q => c (List.mem_singleton.mp q)) h3)]
        exact if_pos h4
      rw [e, beq_false_of_ne c]
      dsimp only
      have hn' : n ∈ PX.names ws := by
        rcases List.mem_cons.mp hn with q | q
        · exact absurd q.symm c
        · exact q
      rw [fb_taken ws _ _ nd.2 (fun v hv => ?_) hn']
      · show some (_, _) = some (_, _)
        rw [cond_false]
        unfold PX.names
        rw [show j + 1 + (List.map (fun x => x.fst) ws).idxOf n = j + ((List.map (fun x => x.fst) ws).idxOf n + 1) by omega]
      · obtain ⟨g1, g3, g4⟩ := h v (List.mem_cons_of_mem _ hv)
        refine ⟨g1, fun q => ?_, g4⟩
        rcases List.mem_append.mp q with q | q
        · exact g3 q
        · rw [List.mem_singleton] at q
          exact nd.1 (by rw [← q]; exact List.mem_map_of_mem (f := (·.1)) hv)
end DL

set_option linter.all false
set_option maxRecDepth 100000
set_option maxHeartbeats 200000
/-! the law's look at one wish -/
namespace DL
open PySem L2 He DX DW
open Rt (plusF runF)
theorem lc_names {i : Nat} {ρ : Env} {Kc : List D → Prop} (ws : List Ax) (hi : i < ρ.length) (sz : ws.length ≤ 1000) (k : Kc ((PX.names ws).map .str)) : lcD (gSet i) tYesD (eOp (fIx Rv.asT) (eVar i) (eC (.int 0))) ρ Kc (ws.map axT) [] := by
  refine lcD_map (fun x => match x with | .tup (y :: _) => y | _ => .non) _ (fun y hy Q2 h2 => ?_) (by rw [List.length_map]; omega) ?_
  · obtain ⟨b, hb, rfl⟩ := List.mem_map.mp hy
    unfold axT at h2 ⊢
    unfold gSet eOp eVar eC
    dsimp only
    rw [List.getElem?_set_self hi]
    simp only [fIx, Rv.asT, atI_0]
    exact h2
  · rw [List.map_map, show ((fun x => match x with | .tup (y :: _) => y | _ => .non) ∘ axT) = fun a : Ax => D.str a.1 from rfl, names_map]
    exact k
/-- the weights of a part of the members: their sum so far -/
theorem ones_add {n : Nat} {ps qs rs : List Nat} (h : ∀ i < n, oneI ps i + oneI qs i = oneI rs i) : plusW (onesF n ps) (onesF n qs) = onesF n rs := by
  unfold plusW onesF
  rw [List.zipWith_map_left, List.zipWith_map_right, List.zipWith_self]
  refine List.map_congr_left fun i hi => ?_
  have := h i (List.mem_range.mp hi)
  show (Rt.nrmT _ _, Rt.nrmB _ _) = _
  simp only [Int.mul_one, Int.one_mul]
  rw [(nrm1 _).1, (nrm1 _).2, this]
theorem oneI_reg {as ws : List Ax} {i : Nat} : oneI (PX.region as ws) i = if PX.inReg as ws i = true then 1 else 0 := by
  unfold oneI
  by_cases c : PX.inReg as ws i = true
  · rw [if_pos c, if_pos (PX.mem_region.mpr c)]
  · rw [if_neg c, if_neg fun z => c (PX.mem_region.mp z)]
/-- a region parted at an axis -/
theorem reg_part {as ws : List Ax} {a : Ax} (g : GG as) (ha : a ∈ as) {k : Nat} {m : Str} (hk : a.2[k]? = some m) : ∀ i < nCells as, oneI (PX.region as (ws ++ [(a.1, a.2.take k)])) i + oneI (PX.region as (ws ++ [(a.1, [m])])) i = oneI (PX.region as (ws ++ [(a.1, a.2.take (k + 1))])) i := by
  intro i hi
  have hc : (PX.cellsL as)[i]? = some (PX.cellsL as)[i] := List.getElem?_eq_getElem hi
  generalize (PX.cellsL as)[i] = c at hc
  have hat : PX.At c as := PX.mem_cells.mp (List.mem_of_getElem? hc)
  have hn : a.1 ∈ PX.names as := List.mem_map_of_mem (f := (·.1)) ha
  rw [oneI_reg, oneI_reg, oneI_reg, PX.inReg_append, PX.inReg_append, PX.inReg_append, take_snoc hk]
  rw [PX.inReg_at hc, PX.inReg_at hc, PX.inReg_at hc, PX.inReg_at hc]
  have f1 : ∀ w : Ax, PX.fits as [w] c = PX.fit1 as c w := fun w => by unfold PX.fits; rw [List.all_cons, List.all_nil, Bool.and_true]
  rw [f1, f1, f1, PX.fit1_split hat hn]
  have nd := (g.ms a ha).1
  have ap : PX.fit1 as c (a.1, a.2.take k) = true → PX.fit1 as c (a.1, [m]) = false := PX.fit1_apart fun z hz hm => by
    rw [List.mem_singleton] at hm
    subst hm
    obtain ⟨j, hj⟩ := List.mem_iff_getElem?.mp hz
    rw [List.getElem?_take] at hj
    split at hj
    · rename_i hjk
      have h1 : j < a.2.length := (List.getElem?_eq_some_iff.mp hj).1
      have := (List.getElem?_inj h1 nd).mp (hj.trans hk.symm)
      omega
    · cases hj
  cases PX.fits as ws c <;> cases q1 : PX.fit1 as c (a.1, a.2.take k) <;> cases q2 : PX.fit1 as c (a.1, [m]) <;> first | rfl | (rw [ap q1] at q2; cases q2)
theorem reg_none {as ws : List Ax} {a : Ax} (ha : a ∈ as) : onesF (nCells as) (PX.region as (ws ++ [(a.1, [])])) = onesF (nCells as) [] := onesF_congr fun i hi => by
  have hc : (PX.cellsL as)[i]? = some (PX.cellsL as)[i] := List.getElem?_eq_getElem hi
  have hat : PX.At (PX.cellsL as)[i] as := PX.mem_cells.mp (List.mem_of_getElem? hc)
  have hn : a.1 ∈ PX.names as := List.mem_map_of_mem (f := (·.1)) ha
  rw [PX.mem_region, PX.inReg_append, PX.inReg_at hc, PX.inReg_at hc]
  have := PX.fit1_none hat hn
  unfold PX.fits
  rw [List.all_cons, List.all_nil, Bool.and_true, this, Bool.and_false]
  simp
theorem reg_all {as ws : List Ax} {a : Ax} (g : GG as) (ha : a ∈ as) : onesF (nCells as) (PX.region as (ws ++ [a])) = onesF (nCells as) (PX.region as ws) := onesF_congr fun i hi => by
  have hc : (PX.cellsL as)[i]? = some (PX.cellsL as)[i] := List.getElem?_eq_getElem hi
  have hat : PX.At (PX.cellsL as)[i] as := PX.mem_cells.mp (List.mem_of_getElem? hc)
  have hn : a.1 ∈ PX.names as := List.mem_map_of_mem (f := (·.1)) ha
  rw [PX.mem_region, PX.mem_region, PX.inReg_append, PX.inReg_at hc, PX.inReg_at hc]
  have : PX.fit1 as (PX.cellsL as)[i] a = true := PX.fit1_all hat hn fun b hb e m hm => by
    obtain ⟨k, hk⟩ := List.mem_iff_getElem?.mp ha
    obtain ⟨j, hj⟩ := List.mem_iff_getElem?.mp hb
    have h1 := PX.idx_of g.nd hk
    have h2 := PX.idx_of g.nd hj
    rw [e, h1] at h2
    subst h2
    rw [hk] at hj
    cases hj
    exact hm
  unfold PX.fits
  rw [List.all_cons, List.all_nil, Bool.and_true, this, Bool.and_true]
theorem eq_IS {neg : Bool} {i j : Int} {z w : Str} {Q : KD} {Ed : KX} (hz : (PyData.str z).canLay0 = true) (hw : (PyData.str w).canLay0 = true) (h : Q (.d (.bl (neg ^^ (decide (i = j) && decide (z = w)))))) : fEqD neg (.d (.tup [.int i, .str z])) (.d (.tup [.int j, .str w])) Q Ed := by
  simp only [fEqD, Rv.py, D.py, pys, Option.map_some]
  have dp : ∀ (i : Int) (z : Str), (PyData.tuple [.int i, .str z]).depth ≤ 1 := fun i z => by
    simp [PyData.depth, PyData.depthAll]
  have sh : ∀ (i : Int) (z : Str), (PyData.str z).canLay0 = true → SeqAt.shaped (.tuple [.int i, .str z]) = true := fun i z hz => by
    unfold SeqAt.shaped
    rw [PyData.canLay0, PyData.canLayAll0, PyData.canLayAll0, PyData.canLayAll0, hz, PyData.canLay0]
    exact decide_eq_true (Nat.le_trans (dp i z) (by decide : 1 ≤ 64))
  refine ⟨sh i z hz, sh j w hw, ?_⟩
  have e : PyData.eqv (.tuple [.int i, .str z]) (.tuple [.int j, .str w]) = (decide (i = j) && decide (z = w)) := by
    rw [PyData.eqv, PyData.eqvAll, PyData.eqvAll, PyData.eqvAll, Bool.and_true, PyData.eqv, iff_bool (eqv_str z w)]
    rfl
  rw [e]
  exact h
def inW (as ws : List Ax) : D → Bool
  | .int i => PX.inReg as ws i.toNat
  | _ => false
theorem filt_natsW (as ws : List Ax) (ps : List Nat) : (natsD ps).filter (inW as ws) = natsD (ps.filter (PX.inReg as ws)) := by
  unfold natsD
  rw [List.filter_map]
  rfl
end DL

set_option linter.all false
set_option maxRecDepth 100000
set_option maxHeartbeats 200000
namespace DL
open PySem L2 He DX DW
open Rt (plusF runF)
theorem w_right {as ws : List Ax} {a : Ax} {vs : List Frc} {Q : KD} {Ed : KX} (g : GG as) (gw : GW as ws) (ha : a ∈ as) (hl : vs.length = nCells as) (lw : ∀ x ∈ vs, Rt.Low x.1 x.2) (fb60 : ∀ x ∈ vs, FrB 60 x) (h : Q (.d (.bl true))) :
    f__law_right [.d (gridD as), .d (axsT as), .d (axsT ws), .d (axT a), .d (.lst (vs.map fT))] Q Ed := by
  unfold f__law_right mDef0 m__law_right
  have hz := g.sz
  have subw : ∀ w ∈ ws, w.1 ∈ PX.names as := fun w hw => (gw.wok g w hw).1
  obtain ⟨wl, wsh⟩ := gw.short g
  mi
  refine w_law_region g subw fun b0 => ?_
  mi
  refine w_sum_of g (.tup _) (axrs_T ws) (by omega) wsh (fun hf => ?_) (fun j wd hf => by rw [gw.fb g (fun n hn => by cases hn)] at hf; cases hf)
  rw [ones_eq]
  simp only [gridD, gD]
  mi
  refine w_law_ones (by omega) fun b1 => ?_
  mi
  refine w_asks g (by rw [onesF_len]; omega) ?_
  simp only [axT]
  mi
  by_cases c : a.1 ∈ PX.names ws
  · have hfb : fb as [a.1] [] 0 ws = some (0 + (PX.names ws).idxOf a.1, ("axis" : Str)) := fb_taken ws [] 0 gw.nd (fun w hw => ⟨(gw.wok g w hw).1, fun q => (by cases q), (gw.wok g w hw).2⟩) c
    refine w_parted_bad (e := ⟨"NoWish", ["place", "word"], [.int ((0 + (PX.names ws).idxOf a.1 : Nat) : Int), .str "axis"]⟩) (r := .tup [.int ((0 + (PX.names ws).idxOf a.1 : Nat) : Int), .str "axis"]) (fun Q' Ed' k => w_each g ha (.tup _) (axrs_T ws) (by omega) wsh (fun hf2 => by rw [hfb] at hf2; cases hf2) fun j wd hf2 => by rw [hfb] at hf2; cases hf2; exact k) (.inr ⟨_, _, rfl, rfl⟩) fun b2 => ?_
    simp only [setIts]
    mi
    simp only [axsT]
    mi
    refine ⟨by cl, fun b3 => lc_names ws (by simp) (by omega) ?_⟩
    simp only [fIn]
    mi
    rw [scs_strs]
    dsimp only
    rw [inV_strs, if_pos (decide_eq_true c)]
    refine ⟨by cl, fun b4 => lc_names ws (by simp) (by omega) ?_⟩
    mi
    rw [scs_strs]
    dsimp only
    rw [idx_strs c]
    mi
    refine eq_IS (by decide +kernel) (by decide +kernel) ?_
    rw [decide_eq_true rfl, decide_eq_true rfl]
    exact h
  · have hfb : fb as [a.1] [] 0 ws = none := gw.fb g fun n hn => by rw [List.mem_singleton.mp hn]; exact c
    have good : ∀ (Q' : KD) (Ed' : KX), (∀ b, Q' (.new b (eachQ as ws a.1 a.2))) → f_each_of [.d (gridD as), .d (.str a.1), .d (axsT ws)] Q' Ed' := fun Q' Ed' k => w_each g ha (.tup _) (axrs_T ws) (by omega) wsh (fun _ => k) fun j wd hf2 => by rw [hfb] at hf2; cases hf2
    refine w_parted_ok good fun b2 b3 => ?_
    simp only [setIts]
    mi
    simp only [axsT]
    mi
    refine ⟨by cl, fun b4 => lc_names ws (by simp) (by omega) ?_⟩
    simp only [fIn]
    mi
    rw [scs_strs]
    dsimp only
    rw [inV_strs, if_neg (by simpa using c)]
    rw [show ((["list"] : List String).any fun t => isB t (.lst (eachQ as ws a.1 a.2))) = true from rfl]
    simp only [strsT]
    mi
    have elen : decide (V.int ((eachQ as ws a.1 a.2).length : Int) = V.int ((a.2.map D.str).length : Int)) = true := decide_eq_true (by unfold eachQ; rw [List.length_map, List.length_map])
    rw [elen]
    st
    mi
    refine ⟨rfl, w_nothing_of (by omega) ?_⟩
    rw [ones_eq]
    mi
    obtain ⟨m1, m2, m4⟩ := g.ms a ha
    refine ⟨by rw [List.length_map]; omega, ?_⟩
    refine forD_inv (I := fun j ρ => ∃ (x y : Option Sl), ρ = [some (.d (gridD as)), some (.d (axsT as)), some (.d (axsT ws)), some (.d (axT a)), some (.d (.lst (vs.map fT))), some (.d (.lst (natsD (PX.region as ws)))), some (.own b3 (eachQ as ws a.1 a.2)), some (.d .non), some (.d (.bl true)), some (.d (qq as (onesF (nCells as) (PX.region as (ws ++ [(a.1, a.2.take j)]))))), x, y, none, none]) _ 0 _ ⟨none, none, ?_⟩ ?_ ?_
    · rw [List.take_zero, reg_none ha]
      rfl
    · rintro j x ρ N hx ⟨x', y', rfl⟩ - - - nx -
      rw [Nat.zero_add] at nx ⊢
      obtain ⟨hj, rfl⟩ := upInts_at hx
      rw [Int.toNat_natCast, List.length_map] at hj
      have hm : a.2[j]? = some a.2[j] := List.getElem?_eq_getElem hj
      generalize hmm : a.2[j] = m at hm
      have hd : (0 + (j : Nat) : Int) = (j : Nat) := Int.zero_add _
      have sub1 : ∀ w ∈ ([(a.1, [m])] : List Ax), w.1 ∈ PX.names as := fun w hw => by
        rw [List.mem_singleton.mp hw]
        exact List.mem_map_of_mem (f := (·.1)) ha
      have et : atI (eachQ as ws a.1 a.2) (0 + (j : Nat) : Int) = some (qq as (onesF (nCells as) (PX.region as (ws ++ [(a.1, [m])])))) := atI_k hd (by unfold eachQ; rw [List.getElem?_map, hm]; rfl)
      have em : atI (a.2.map D.str) (0 + (j : Nat) : Int) = some (.str m) := atI_k hd (by rw [List.getElem?_map, hm]; rfl)
      have ep : onesF (nCells as) ((PX.region as [(a.1, [m])]).filter (PX.inReg as ws)) = onesF (nCells as) (PX.region as (ws ++ [(a.1, [m])])) := onesF_congr fun i hi => by
        rw [List.mem_filter, PX.mem_region, PX.mem_region, PX.inReg_append, Bool.and_eq_true]
        exact And.comm
      have q1 : ∀ (Z : Env → Prop), Z [some (.d (gridD as)), some (.d (axsT as)), some (.d (axsT ws)), some (.d (axT a)), some (.d (.lst (vs.map fT))), some (.d (.lst (natsD (PX.region as ws)))), some (.own b3 (eachQ as ws a.1 a.2)), some (.d .non), some (.d (.bl true)), some (.d (qq as (onesF (nCells as) (PX.region as (ws ++ [(a.1, a.2.take j)]))))), some (.d (.int (0 + (j : Nat) : Int))), some (.d (.lst (natsD ((PX.region as [(a.1, [m])]).filter (PX.inReg as ws))))), none, none] →
          sSetD 11 (eLc (itS (eCall0 f__law_region (aCons (eVar 1) (aCons (eTup (aCons (eTup (aCons (eOp (fIx Rv.asT) (eVar 3) (eC (.int 0))) (aCons (eTup (aCons (eOp (fIx Rv.asT) (eOp (fIx Rv.asT) (eVar 3) (eC (.int 1))) (eVar 10)) aNil)) aNil))) aNil)) aNil)))) (gSet 13) (tBl (eOp (fIn false) (eVar 13) (eVar 5))) (eVar 13) [13])
            [some (.d (gridD as)), some (.d (axsT as)), some (.d (axsT ws)), some (.d (axT a)), some (.d (.lst (vs.map fT))), some (.d (.lst (natsD (PX.region as ws)))), some (.own b3 (eachQ as ws a.1 a.2)), some (.d .non), some (.d (.bl true)), some (.d (qq as (onesF (nCells as) (PX.region as (ws ++ [(a.1, a.2.take j)]))))), some (.d (.int (0 + (j : Nat) : Int))), y', none, none] { N with nx := Z } := by
        intro Z hZ
        mi
        simp only [axT]
        mi
        simp only [strsT]
        mi
        rw [em]
        mi
        refine w_law_region (ws := [(a.1, [m])]) g sub1 fun b5 => ?_
        mi
        refine ⟨by cl, fun b6 => ?_⟩
        have rl : (PX.region as [(a.1, [m])]).length ≤ 8 := by
          unfold PX.region
          refine Nat.le_trans (List.length_filter_le _ _) ?_
          rw [List.length_range]
          exact hz
        refine lcD_filt (inW as ws) _ (by simp) (fun p hp Q3 h3 => ?_) (by unfold natsD; rw [List.length_map]; omega) ?_
        · obtain ⟨p, hp', rfl⟩ := List.mem_map.mp hp
          mi
          simp only [fIn]
          mi
          rw [scs_nats]
          dsimp only
          rw [inV_nats]
          have e : inW as ws (.int (p : Nat)) = decide (p ∈ PX.region as ws) := by
            show PX.inReg as ws ((p : Int)).toNat = _
            rw [Int.toNat_natCast]
            exact iff_bool PX.mem_region.symm
          rw [e] at h3
          exact h3
        · rw [filt_natsW]
          exact hZ
      have q2 : ∀ (Z : Env → Prop), Z [some (.d (gridD as)), some (.d (axsT as)), some (.d (axsT ws)), some (.d (axT a)), some (.d (.lst (vs.map fT))), some (.d (.lst (natsD (PX.region as ws)))), some (.own b3 (eachQ as ws a.1 a.2)), some (.d .non), some (.d (.bl true)), some (.d (qq as (onesF (nCells as) (PX.region as (ws ++ [(a.1, a.2.take j)]))))), some (.d (.int (0 + (j : Nat) : Int))), some (.d (.lst (natsD ((PX.region as [(a.1, [m])]).filter (PX.inReg as ws))))), none, none] → sIf (tNotD (tBl (eCall0 f__law_asks (aCons (eOp (fIx Rv.asL) (eVar 6) (eVar 10)) (aCons (eVar 0) (aCons (eCall0 f__law_ones (aCons (eUn (mFld "size") (eVar 0)) (aCons (eVar 11) aNil))) aNil)))))) (sRet (eC (.bl false))) sNext
          [some (.d (gridD as)), some (.d (axsT as)), some (.d (axsT ws)), some (.d (axT a)), some (.d (.lst (vs.map fT))), some (.d (.lst (natsD (PX.region as ws)))), some (.own b3 (eachQ as ws a.1 a.2)), some (.d .non), some (.d (.bl true)), some (.d (qq as (onesF (nCells as) (PX.region as (ws ++ [(a.1, a.2.take j)]))))), some (.d (.int (0 + (j : Nat) : Int))), some (.d (.lst (natsD ((PX.region as [(a.1, [m])]).filter (PX.inReg as ws))))), none, none] { N with nx := Z } := by
        intro Z hZ
        mi
        rw [et]
        simp only [gridD, gD]
        mi
        refine w_law_ones (by omega) fun b5 => ?_
        rw [ep]
        mi
        refine w_asks g (by rw [onesF_len]; omega) ?_
        mi
        exact hZ
      have q3 : ∀ (Z : Env → Prop), Z [some (.d (gridD as)), some (.d (axsT as)), some (.d (axsT ws)), some (.d (axT a)), some (.d (.lst (vs.map fT))), some (.d (.lst (natsD (PX.region as ws)))), some (.own b3 (eachQ as ws a.1 a.2)), some (.d .non), some (.d (.bl true)), some (.d (qq as (onesF (nCells as) (PX.region as (ws ++ [(a.1, a.2.take j)]))))), some (.d (.int (0 + (j : Nat) : Int))), some (.d (.lst (natsD ((PX.region as [(a.1, [m])]).filter (PX.inReg as ws))))), none, none] → sIf (tNotD (tBl (eCall0 f__law_is (aCons (eMeth0 "Question" "at" f_Question_x_at (eOp (fIx Rv.asL) (eVar 6) (eVar 10)) (aCons (eCall0 f__law_given (aCons (eVar 4) aNil)) aNil)) (aCons (eCall0 f__law_at (aCons (eCall0 f__law_ones (aCons (eUn (mFld "size") (eVar 0)) (aCons (eVar 11) aNil))) (aCons (eVar 4) aNil))) aNil))))) (sRet (eC (.bl false))) sNext
          [some (.d (gridD as)), some (.d (axsT as)), some (.d (axsT ws)), some (.d (axT a)), some (.d (.lst (vs.map fT))), some (.d (.lst (natsD (PX.region as ws)))), some (.own b3 (eachQ as ws a.1 a.2)), some (.d .non), some (.d (.bl true)), some (.d (qq as (onesF (nCells as) (PX.region as (ws ++ [(a.1, a.2.take j)]))))), some (.d (.int (0 + (j : Nat) : Int))), some (.d (.lst (natsD ((PX.region as [(a.1, [m])]).filter (PX.inReg as ws))))), none, none] { N with nx := Z } := by
        intro Z hZ
        mi
        rw [et]
        simp only [qq, qD]
        mi
        st
        refine w_law_given (n := 60) (by omega) lw (fun x hx => (fb60 x hx).b) (by decide) fun b5 => ?_
        mi
        refine w_q_at (n := 1) (c := 1) (m := 60) (d := 60) g (onesF_len _ _) hl (fun x hx => (onesF_frb x hx).2) (fun x hx => (onesF_frb x hx).1.t) (fun x hx => (onesF_frb x hx).1.b) (fun x hx => (lw x hx).pos) (fun x hx => (fb60 x hx).t) (fun x hx => (fb60 x hx).b) (by decide) (by decide) (by decide) (by decide) ?_
        simp only [gridD, gD]
        mi
        refine w_law_ones (by omega) fun b6 => ?_
        rw [ep]
        mi
        refine w_law_at (n := 1) (m := 60) (by rw [onesF_len, hl]) (by rw [onesF_len]; omega) (fun x hx => (onesF_frb x hx).1) fb60 (by rw [onesF_len]; omega) ?_
        mi
        rw [onesF_len]
        refine w_lis ?_
        rw [decide_eq_true rfl]
        mi
        exact hZ
      have q4 : sSetD 9 (eOp (fun x y Q _ => fOpS "Question" "Question" f_Question_x___add__ x y Q fun _ => False) (eVar 9) (eOp (fIx Rv.asL) (eVar 6) (eVar 10))) [some (.d (gridD as)), some (.d (axsT as)), some (.d (axsT ws)), some (.d (axT a)), some (.d (.lst (vs.map fT))), some (.d (.lst (natsD (PX.region as ws)))), some (.own b3 (eachQ as ws a.1 a.2)), some (.d .non), some (.d (.bl true)), some (.d (qq as (onesF (nCells as) (PX.region as (ws ++ [(a.1, a.2.take j)]))))), some (.d (.int (0 + (j : Nat) : Int))), some (.d (.lst (natsD ((PX.region as [(a.1, [m])]).filter (PX.inReg as ws))))), none, none] N := by
        mi
        rw [et]
        simp only [qq, qD]
        mi
        st
        refine w_qadd (n := 1) (m := 1) g (onesF_len _ _) (onesF_len _ _) (fun x hx => (onesF_frb x hx).1) (fun x hx => (onesF_frb x hx).1) (by decide) ?_
        rw [ones_add (reg_part g ha hm)]
        mi
        exact nx _ ⟨some (.d (.int (0 + (j : Nat) : Int))), some (.d (.lst (natsD ((PX.region as [(a.1, [m])]).filter (PX.inReg as ws))))), rfl⟩
      refine seq_i (q1 _ ?_)
      refine seq_i (q2 _ ?_)
      exact seq_i (q3 _ q4)
    · rintro ρ' ⟨x', y', rfl⟩
      rw [Nat.zero_add, upInts_len, Int.toNat_natCast, List.length_map, List.take_length, reg_all g ha]
      mi
      have el : (eachQ as ws a.1 a.2).length = a.2.length := by unfold eachQ; rw [List.length_map]
      refine ⟨by rw [el]; omega, ?_⟩
      refine w_sum_of g (.tup _) (axrs_T ws) (by omega) wsh (fun hf => ?_) (fun j wd hf => by rw [gw.fb g (fun n hn => by cases hn)] at hf; cases hf)
      rw [ones_eq]
      simp only [qq, qD]
      mi
      st
      refine w_qeq g rfl ?_
      rw [decide_eq_true rfl]
      mi
      simp only [axT]
      mi
      refine good _ _ fun b5 => ?_
      simp only [strsT]
      mi
      refine ⟨rfl, ?_⟩
      have elen : decide (V.int ((eachQ as ws a.1 a.2).length : Int) = V.int ((a.2.map D.str).length : Int)) = true := decide_eq_true (by unfold eachQ; rw [List.length_map, List.length_map])
      rw [elen]
      exact h
end DL

set_option linter.all false
set_option maxRecDepth 100000
set_option maxHeartbeats 200000
/-! what each pair leaves out -/
namespace DL
open PySem L2 He DX DW
def othersOf (known ms : List Str) : List Str := known.filter fun m => !decide (m ∈ ms)
theorem neg_one (i : Int) : nrmF (-i) 1 = (-i, 1) := by
  unfold nrmF
  rw [(nrm1 _).1, (nrm1 _).2]
theorem ones_sub {n : Nat} {ps qs rs : List Nat} (h : ∀ i < n, oneI ps i - oneI qs i = oneI rs i) : plusW (onesF n ps) ((onesF n qs).map fun x => nrmF (-x.1) x.2) = onesF n rs := by
  unfold plusW onesF
  rw [List.map_map, List.zipWith_map_left, List.zipWith_map_right, List.zipWith_self]
  refine List.map_congr_left fun i hi => ?_
  have := h i (List.mem_range.mp hi)
  show Rt.plusF _ (nrmF _ 1) = _
  rw [neg_one]
  show (Rt.nrmT _ _, Rt.nrmB _ _) = _
  simp only [Int.mul_one, Int.one_mul]
  rw [(nrm1 _).1, (nrm1 _).2, ← this, Int.sub_eq_add_neg]
theorem reg_out {as vs : List Ax} {w a : Ax} (g : GG as) (ha : a ∈ as) (e : a.1 = w.1) (sub : ∀ m ∈ w.2, m ∈ a.2) : ∀ i < nCells as, oneI (PX.region as vs) i - oneI (PX.region as (vs ++ [(w.1, othersOf a.2 w.2)])) i = oneI (PX.region as (vs ++ [w])) i := by
  intro i hi
  have hc : (PX.cellsL as)[i]? = some (PX.cellsL as)[i] := List.getElem?_eq_getElem hi
  generalize (PX.cellsL as)[i] = c at hc
  have hat : PX.At c as := PX.mem_cells.mp (List.mem_of_getElem? hc)
  obtain ⟨k, hk⟩ := List.mem_iff_getElem?.mp ha
  have hidx := PX.idx_of g.nd hk
  obtain ⟨m, hm, hin⟩ := hat.get hk
  rw [oneI_reg, oneI_reg, oneI_reg, PX.inReg_append, PX.inReg_append]
  rw [PX.inReg_at hc, PX.inReg_at hc, PX.inReg_at hc]
  have f1 : ∀ w : Ax, PX.fits as [w] c = PX.fit1 as c w := fun w => by unfold PX.fits; rw [List.all_cons, List.all_nil, Bool.and_true]
  have h1 : PX.fit1 as c w = decide (m ∈ w.2) := by
    unfold PX.fit1
    rw [← e, hidx, hm]
  have h2 : PX.fit1 as c (w.1, othersOf a.2 w.2) = !decide (m ∈ w.2) := by
    unfold PX.fit1
    rw [show ((w.1, othersOf a.2 w.2) : Ax).1 = a.1 from e.symm, hidx, hm]
    refine (iff_bool ?_).symm
    unfold othersOf
    rw [List.mem_filter]
    exact ⟨fun h => ⟨hin, h⟩, fun h => h.2⟩
  rw [f1, f1, h1, h2]
  cases PX.fits as vs c <;> cases decide (m ∈ w.2) <;> rfl
theorem reg_same {as vs : List Ax} {w a : Ax} (g : GG as) (ha : a ∈ as) (e : a.1 = w.1) (no : othersOf a.2 w.2 = []) : onesF (nCells as) (PX.region as (vs ++ [w])) = onesF (nCells as) (PX.region as vs) := onesF_congr fun i hi => by
  have hc : (PX.cellsL as)[i]? = some (PX.cellsL as)[i] := List.getElem?_eq_getElem hi
  generalize (PX.cellsL as)[i] = c at hc
  have hat : PX.At c as := PX.mem_cells.mp (List.mem_of_getElem? hc)
  obtain ⟨k, hk⟩ := List.mem_iff_getElem?.mp ha
  have hidx := PX.idx_of g.nd hk
  obtain ⟨m, hm, hin⟩ := hat.get hk
  rw [PX.mem_region, PX.mem_region, PX.inReg_append, PX.inReg_at hc, PX.inReg_at hc]
  have h1 : PX.fit1 as c w = true := by
    unfold PX.fit1
    rw [← e, hidx, hm]
    refine decide_eq_true ?_
    by_cases q : m ∈ w.2
    · exact q
    · have : m ∈ othersOf a.2 w.2 := List.mem_filter.mpr ⟨hin, by simp [q]⟩
      rw [no] at this
      cases this
  unfold PX.fits
  rw [List.all_cons, List.all_nil, Bool.and_true, h1, Bool.and_true]
theorem AxRs.append : ∀ {l m : List D} {as bs : List Ax}, AxRs l as → AxRs m bs → AxRs (l ++ m) (as ++ bs)
  | _, _, _, _, .nil, b => b
  | _, _, _, _, .cons r t, b => .cons r (t.append b)
theorem w_left_out {as ws : List Ax} {Q : KD} {Ed : KX} (g : GG as) (gw : GW as ws) (h : Q (.d (.bl true))) : f__law_left_out [.d (gridD as), .d (axsT as), .d (axsT ws)] Q Ed := by
  unfold f__law_left_out mDef0 m__law_left_out
  have hz := g.sz
  have g3 := g.hi
  obtain ⟨wl, wsh⟩ := gw.short g
  mi
  intro b0
  refine w_sum_of g (.lst []) .nil (by decide) (fun w h => by cases h) (fun hf => ?_) (fun j wd hf => by cases hf)
  rw [ones_eq]
  mi
  intro b1
  simp only [axsT]
  mi
  refine forD_inv (I := fun j ρ => ∃ (x y z u v : Option Sl), ρ = [some (.d (gridD as)), some (.d (axsT as)), some (.d (axsT ws)), some (.d (qq as (onesF (nCells as) (PX.region as (ws.take j))))), some (.own b1 ((ws.take j).map axT)), x, y, z, u, v, none]) _ 0 _ ⟨none, none, none, none, none, rfl⟩ ?_ ?_
  · rintro j x ρ N hx ⟨x', y', z', u', v', rfl⟩ - - - nx -
    rw [Nat.zero_add] at nx ⊢
    rw [List.getElem?_map, Option.map_eq_some_iff] at hx
    obtain ⟨w, hw, rfl⟩ := hx
    have hwm := List.mem_of_getElem? hw
    have hj := (List.getElem?_eq_some_iff.mp hw).1
    obtain ⟨a0, ha0, ea0, lo, hi, subm⟩ := gw.ok w hwm
    rw [show axT w = .tup [.str w.1, strsT w.2] from rfl]
    simp only [gSets, gSets.go, List.set_cons_zero, List.set_cons_succ]
    have q1 : ∀ (Z : Env → Prop), (∀ z u v, Z [some (.d (gridD as)), some (.d (axsT as)), some (.d (axsT ws)), some (.d (qq as (onesF (nCells as) (PX.region as (ws.take (j + 1)))))), some (.own b1 ((ws.take j).map axT)), some (.d (.str w.1)), some (.d (strsT w.2)), z, u, v, none]) →
        sFor (itT (eVar 1)) (gSets [7, 8]) 
         (sSeq (sSetD 9 (eLc (itT (eVar 8)) (gSet 10) (tBl (eOp (fIn true) (eVar 10) (eVar 6))) (eVar 10) [10])) 
         (sIf (tAndD (tBl (eOp (fEq false) (eVar 7) (eVar 5))) (tBl (eOp (fEqD true) (eVar 9) (eLst aNil)))) 
          (sSetD 3 (eOp (fun x y Q _ => fOpS "Question" "Question" f_Question_x___sub__ x y Q fun _ => False) (eVar 3) (eCall0 f_sum_of (aCons (eVar 0) (aCons (eOp fCat (eVar 4) (eLst (aCons (eTup (aCons (eVar 5) (aCons (eVar 9) aNil))) aNil))) aNil))))) sNext))
        [some (.d (gridD as)), some (.d (axsT as)), some (.d (axsT ws)), some (.d (qq as (onesF (nCells as) (PX.region as (ws.take j))))), some (.own b1 ((ws.take j).map axT)), some (.d (.str w.1)), some (.d (strsT w.2)), z', u', v', none] { N with nx := Z } := by
      intro Z hZ
      mi
      simp only [axsT]
      mi
      refine forD_inv (I := fun k ρ => ∃ (z u v : Option Sl), ρ = [some (.d (gridD as)), some (.d (axsT as)), some (.d (axsT ws)), some (.d (qq as (onesF (nCells as) (if w.1 ∈ PX.names (as.take k) then PX.region as (ws.take j ++ [w]) else PX.region as (ws.take j))))), some (.own b1 ((ws.take j).map axT)), some (.d (.str w.1)), some (.d (strsT w.2)), z, u, v, none]) _ 0 _ ⟨z', u', v', ?_⟩ ?_ ?_
      · rw [List.take_zero, if_neg (by simp [PX.names])]
        rfl
      · rintro k x ρ N2 hx2 ⟨z, u, v, rfl⟩ - - - nx2 -
        rw [Nat.zero_add] at nx2 ⊢
        rw [List.getElem?_map, Option.map_eq_some_iff] at hx2
        obtain ⟨a, ha, rfl⟩ := hx2
        have ham := List.mem_of_getElem? ha
        rw [show axT a = .tup [.str a.1, strsT a.2] from rfl]
        simp only [gSets, gSets.go, List.set_cons_zero, List.set_cons_succ]
        generalize hr : (if w.1 ∈ PX.names (as.take k) then PX.region as (ws.take j ++ [w]) else PX.region as (ws.take j)) = r0
        have p1 : ∀ (Z : Env → Prop), Z [some (.d (gridD as)), some (.d (axsT as)), some (.d (axsT ws)), some (.d (qq as (onesF (nCells as) r0))), some (.own b1 ((ws.take j).map axT)), some (.d (.str w.1)), some (.d (strsT w.2)), some (.d (.str a.1)), some (.d (strsT a.2)), some (.d (.lst ((othersOf a.2 w.2).map .str))), none] →
            sSetD 9 (eLc (itT (eVar 8)) (gSet 10) (tBl (eOp (fIn true) (eVar 10) (eVar 6))) (eVar 10) [10]) [some (.d (gridD as)), some (.d (axsT as)), some (.d (axsT ws)), some (.d (qq as (onesF (nCells as) r0))), some (.own b1 ((ws.take j).map axT)), some (.d (.str w.1)), some (.d (strsT w.2)), some (.d (.str a.1)), some (.d (strsT a.2)), v, none] { N2 with nx := Z } := by
          intro Z hZ
          simp only [strsT]
          mi
          refine ⟨by cl, fun b5 => ?_⟩
          refine lcD_filt (fun y => match y with | .str m => !decide (m ∈ w.2) | _ => false) _ (by simp) (fun y hy Q3 h3 => ?_) (by rw [List.length_map]; have := (g.ms a ham).2.2; omega) ?_
          · obtain ⟨m, hm, rfl⟩ := List.mem_map.mp hy
            mi
            simp only [fIn]
            mi
            rw [scs_strs]
            dsimp only
            rw [inV_strs]
            exact h3
          · have e : (a.2.map D.str).filter (fun y => match y with | .str m => !decide (m ∈ w.2) | _ => false) = (othersOf a.2 w.2).map .str := by
              unfold othersOf
              rw [List.filter_map]
              rfl
            rw [e]
            exact hZ
        refine seq_i (p1 _ ?_)
        have stay : a.1 ≠ w.1 → N2.nx [some (.d (gridD as)), some (.d (axsT as)), some (.d (axsT ws)), some (.d (qq as (onesF (nCells as) r0))), some (.own b1 ((ws.take j).map axT)), some (.d (.str w.1)), some (.d (strsT w.2)), some (.d (.str a.1)), some (.d (strsT a.2)), some (.d (.lst ((othersOf a.2 w.2).map .str))), none] := fun ne => by
          refine nx2 _ ⟨some (.d (.str a.1)), some (.d (strsT a.2)), some (.d (.lst ((othersOf a.2 w.2).map .str))), ?_⟩
          have e : w.1 ∈ PX.names (as.take (k + 1)) ↔ w.1 ∈ PX.names (as.take k) := by
            unfold PX.names
            rw [take_snoc ha, List.map_append, List.mem_append]
            exact ⟨fun h => h.elim id fun h => absurd (List.mem_singleton.mp h).symm ne, .inl⟩
          rw [← hr]
          by_cases q : w.1 ∈ PX.names (as.take k)
          · rw [if_pos q, if_pos (e.mpr q)]
          · rw [if_neg q, if_neg fun z => q (e.mp z)]
        have onm : NmS (othersOf a.2 w.2) := fun z hz => g.nm a ham z (List.mem_filter.mp hz).1
        have r0e : a.1 = w.1 → r0 = PX.region as (ws.take j) := fun e => by
          rw [← hr, if_neg]
          intro hin
          unfold PX.names at hin
          obtain ⟨i, hi⟩ := List.mem_iff_getElem?.mp hin
          rw [List.getElem?_map, Option.map_eq_some_iff] at hi
          obtain ⟨b, hb, eb⟩ := hi
          rw [List.getElem?_take] at hb
          split at hb
          · rename_i hik
            have h1 := PX.idx_of g.nd hb
            have h2 := PX.idx_of g.nd ha
            rw [eb, ← e, h2] at h1
            omega
          · cases hb
        have into : a.1 = w.1 → w.1 ∈ PX.names (as.take (k + 1)) := fun e => by
          unfold PX.names
          rw [take_snoc ha, List.map_append, ← e]
          exact List.mem_append_right _ List.mem_cons_self
        have done : ∀ l : List Frc, l = onesF (nCells as) (PX.region as (ws.take j ++ [w])) → a.1 = w.1 → N2.nx [some (.d (gridD as)), some (.d (axsT as)), some (.d (axsT ws)), some (.d (qq as l)), some (.own b1 ((ws.take j).map axT)), some (.d (.str w.1)), some (.d (strsT w.2)), some (.d (.str a.1)), some (.d (strsT a.2)), some (.d (.lst ((othersOf a.2 w.2).map .str))), none] := fun l hl e => by
          refine nx2 _ ⟨some (.d (.str a.1)), some (.d (strsT a.2)), some (.d (.lst ((othersOf a.2 w.2).map .str))), ?_⟩
          rw [if_pos (into e), hl]
        mi
        refine ⟨rfl, ?_⟩
        by_cases ce : a.1 = w.1
        · rw [if_pos (decide_eq_true (by rw [ce]))]
          intro b6
          simp only [fEqD, Rv.py, D.py, py_strl, pys, Option.map_some]
          refine ⟨shaped_strl onm, shaped_strl (zs := []) (fun _ h => by cases h), ?_⟩
          rw [show PyData.eqv (.list ((othersOf a.2 w.2).map .str)) (.list []) = decide (othersOf a.2 w.2 = []) from eqv_strl (othersOf a.2 w.2) []]
          have haa : a = a0 := by
            obtain ⟨k0, hk0⟩ := List.mem_iff_getElem?.mp ha0
            have h1 := PX.idx_of g.nd ha
            have h2 := PX.idx_of g.nd hk0
            rw [ea0, ← ce, h1] at h2
            subst h2
            rw [ha] at hk0
            exact Option.some.inj hk0
          subst haa
          rw [r0e ce] at *
          by_cases co : othersOf a.2 w.2 = []
          · rw [decide_eq_true co]
            mi
            exact done _ (reg_same g ham ce co).symm ce
          · rw [decide_eq_false co]
            mi
            intro b7
            refine ⟨by rw [List.length_map, List.length_take]; exact Nat.le_trans (show min j ws.length + 1 ≤ 4 by omega) (by decide), fun b8 => ?_⟩
            have gw2 : GW as (ws.take j ++ [(w.1, othersOf a.2 w.2)]) := by
              refine ⟨?_, fun q hq => ?_⟩
              · have := gw.nd
                have h1 : (PX.names (ws.take (j + 1))).Nodup := by
                  unfold PX.names at this ⊢
                  rw [List.map_take]
                  exact this.sublist (List.take_sublist _ _)
                unfold PX.names at h1 ⊢
                rw [take_snoc hw, List.map_append] at h1
                rw [List.map_append]
                exact h1
              · rcases List.mem_append.mp hq with hq | hq
                · exact gw.ok q (List.mem_of_mem_take hq)
                · rw [List.mem_singleton.mp hq]
                  refine ⟨a, ham, ce, ?_, ?_, fun m hm => (List.mem_filter.mp hm).1⟩
                  · cases e : othersOf a.2 w.2 with
                    | nil => exact absurd e co
                    | cons _ _ => simp
                  · have := (g.ms a ham).2.2
                    exact Nat.le_trans (List.length_filter_le _ _) this
            obtain ⟨wl2, wsh2⟩ := gw2.short g
            refine w_sum_of (ws := ws.take j ++ [(w.1, othersOf a.2 w.2)]) g (.lst _) ((axrs_T (ws.take j)).append (.cons ⟨_, .tup _, .lst _⟩ .nil)) (by omega) wsh2 (fun hf => ?_) (fun j wd hf => by rw [gw2.fb g (fun n hn => by cases hn)] at hf; cases hf)
            rw [ones_eq]
            simp only [qq, qD]
            mi
            st
            refine w_qsub (n := 1) (m := 1) g (onesF_len _ _) (onesF_len _ _) (fun x hx => (onesF_frb x hx).1) (fun x hx => (onesF_frb x hx).1) (fun x hx => ?_) (by decide) ?_
            · obtain ⟨i, _, rfl⟩ := List.mem_map.mp hx
              show FrB 1 (nrmF _ 1)
              rw [neg_one]
              refine ⟨by show (1 : Int) ≠ 0; decide, ?_, by show Sb 1 1; unfold Sb; decide⟩
              show Sb 1 (-(oneI _ i))
              unfold Sb
              rw [Int.natAbs_neg]
              exact oneI_sb _ i
            · rw [ones_sub (reg_out g ham ce subm)]
              mi
              exact done _ rfl ce
        · rw [if_neg (by simpa using ce)]
          exact stay ce
      · rintro ρ' ⟨z, u, v, rfl⟩
        rw [Nat.zero_add, List.length_map, List.take_length, if_pos (by rw [← ea0]; exact List.mem_map_of_mem (f := (·.1)) ha0), ← take_snoc hw]
        exact hZ _ _ _
    refine seq_i (q1 _ fun z u v => ?_)
    mi
    refine ⟨by rw [List.length_map, List.length_take]; omega, ?_⟩
    refine nx _ ⟨some (.d (.str w.1)), some (.d (strsT w.2)), z, u, v, ?_⟩
    rw [take_snoc hw, List.map_append]
    rfl
  · rintro ρ' ⟨x', y', z', u', v', rfl⟩
    rw [Nat.zero_add, List.length_map, List.take_length]
    mi
    refine w_sum_of g (.tup _) (axrs_T ws) (by omega) wsh (fun hf => ?_) (fun j wd hf => by rw [gw.fb g (fun n hn => by cases hn)] at hf; cases hf)
    rw [ones_eq]
    simp only [qq, qD]
    mi
    st
    refine w_qeq g rfl ?_
    rw [decide_eq_true rfl]
    exact h
end DL

set_option linter.all false
set_option maxRecDepth 100000
set_option maxHeartbeats 400000
/-! the law -/
namespace DL
open PySem L2 He DX DW
theorem axs_at {as : List Ax} {d : Int} (h0 : 0 ≤ d) (h1 : d < (as.length : Int)) : ∃ a, a ∈ as ∧ atI (as.map axT) d = some (axT a) := by
  have hd : d.toNat < as.length := by omega
  exact ⟨as[d.toNat], List.getElem_mem hd, atI_k (j := d.toNat) (by omega) (by rw [List.getElem?_map, List.getElem?_eq_getElem hd]; rfl)⟩
theorem drawn_fr {n : Nat} {l : List D} (hl : l.length = n) (al : ∀ y ∈ l, Drawn y) : ∃ vs : List Frc, l = vs.map fT ∧ vs.length = n ∧ (∀ x ∈ vs, Rt.Low x.1 x.2) ∧ ∀ x ∈ vs, FrB 60 x := by
  induction l generalizing n with
  | nil => exact ⟨[], rfl, hl, fun _ h => (by cases h), fun _ h => (by cases h)⟩
  | cons y l ih =>
    obtain ⟨vs, rfl, h2, h3, h4⟩ := ih rfl fun z hz => al z (List.mem_cons_of_mem _ hz)
    obtain ⟨p, q, hq, sp, sq, rfl⟩ := al y List.mem_cons_self
    refine ⟨nrmF p q :: vs, rfl, by rw [← hl]; simp, fun x hx => ?_, fun x hx => ?_⟩
    · rcases List.mem_cons.mp hx with rfl | hx
      · exact Rt.nrm_low hq
      · exact h3 x hx
    · rcases List.mem_cons.mp hx with rfl | hx
      · exact (nrm_frb hq sp sq).1
      · exact h4 x hx
theorem zz_name : isNameS "zzzzzzzz" = true ∧ isNameS "zz" = true := by decide +kernel
def zz : List Str := ["zzzzzzzz", "zz"]
def dueW (ws : List Ax) (a : Ax) : Str := if a.1 ∈ PX.names ws then "axis" else "members"
def oddL (a : Ax) : List D := [.non, .str "", .str "sum", .int 3, axT a, .lst [.str a.1], .dic [] [], .str "zzzzzzzz"]
theorem lay_words : (PyData.str "axis").canLay0 = true ∧ (PyData.str "members").canLay0 = true ∧ (PyData.str "wish").canLay0 = true := by decide +kernel
theorem lay_due (ws : List Ax) (a : Ax) : (PyData.str (dueW ws a)).canLay0 = true := by
  unfold dueW
  split
  · exact lay_words.1
  · exact lay_words.2.1
theorem fb_wrong {as ws : List Ax} {a : Ax} (g : GG as) (gw : GW as ws) (ha : a ∈ as) (no : ("zzzzzzzz" : Str) ∉ a.2 ∨ ("zz" : Str) ∉ a.2) : fb as [] [] 0 (ws ++ [(a.1, zz)]) = some (ws.length, dueW ws a) := by
  rw [fb_app ws _ [] 0 (gw.fb g fun n hn => by cases hn), fb, List.nil_append, Nat.zero_add]
  have hn : a.1 ∈ PX.names as := List.mem_map_of_mem (f := (·.1)) ha
  have e : chk as [] (PX.names ws) (a.1, zz) = some (dueW ws a) := by
    unfold chk dueW
    by_cases c : a.1 ∈ PX.names ws
    · rw [if_pos (.inr (.inr c)), if_pos c]
    · rw [if_neg (fun q => q.elim (fun q => q hn) fun q => q.elim (fun q => by cases q) c), if_neg c, if_neg]
      rw [PX.lk_mem g.nd ha]
      intro q
      simp only [Bool.and_eq_true, List.all_eq_true, decide_eq_true_eq] at q
      have q2 := q.2
      exact no.elim (fun z => z (q2 _ List.mem_cons_self)) fun z => z (q2 _ (List.mem_cons_of_mem _ List.mem_cons_self))
  rw [e]
theorem eq_S {neg : Bool} {z w : Str} {Q : KD} {Ed : KX} (hz : (PyData.str z).canLay0 = true) (hw : (PyData.str w).canLay0 = true) (h : Q (.d (.bl (neg ^^ decide (z = w))))) : fEqD neg (.d (.str z)) (.d (.str w)) Q Ed := by
  simp only [fEqD, Rv.py, D.py]
  have sh : ∀ z : Str, (PyData.str z).canLay0 = true → SeqAt.shaped (.str z) = true := fun z hz => by
    unfold SeqAt.shaped
    rw [hz, PyData.depth]
    rfl
  refine ⟨sh z hz, sh w hw, ?_⟩
  rw [iff_bool (eqv_str z w)]
  exact h
theorem wrong_short {as ws : List Ax} {a : Ax} (g : GG as) (gw : GW as ws) : (ws ++ [(a.1, zz)]).length ≤ 100 ∧ ∀ w ∈ ws ++ [(a.1, zz)], w.2.length ≤ 100 ∧ ∀ z ∈ w.2, z.length ≤ 100 := by
  obtain ⟨wl, wsh⟩ := gw.short g
  refine ⟨by rw [List.length_append, List.length_singleton]; omega, fun w hw => ?_⟩
  rcases List.mem_append.mp hw with hw | hw
  · exact wsh w hw
  · rw [List.mem_singleton.mp hw]
    refine ⟨(by decide : (2 : Nat) ≤ 100), fun z hz => ?_⟩
    have h1 : ∀ z ∈ zz, z.length ≤ 100 := by decide +kernel
    exact h1 z hz
theorem w_law {ns : List Int} {Q : KD} {Ed : KX} (hn : ns.length ≤ 63) (h : Q (.d (.bl true))) : f_law [.d (.scr ns)] Q Ed := by
  unfold f_law mDef0 m_law
  mi
  refine ⟨ns, 0, rfl, by decide, fun s0 c f n => ?_⟩
  mi
  refine w_law_axes fun as g => ?_
  have hz := g.sz
  mi
  refine w_grid g ?_
  st
  refine w_nothing_of (by omega) ?_
  rw [ones_eq]
  mi
  intro b0
  refine w_law_ones (ps := []) (by omega) fun b1 => ?_
  mi
  refine w_asks g (by rw [onesF_len]; omega) ?_
  mi
  refine w_nothing_of (by omega) ?_
  rw [ones_eq]
  simp only [qD]
  mi
  st
  refine w_is_nothing (as := as) (by rw [onesF_len]; omega) ?_
  have e0 : ((onesF (nCells as) []).all fun x => decide (x.2 = 1) && decide (x.1 = 0)) = true := by
    rw [List.all_eq_true]
    intro x hx
    obtain ⟨i, _, rfl⟩ := List.mem_map.mp hx
    show (decide ((1 : Int) = 1) && decide (oneI [] i = 0)) = true
    unfold oneI
    simp
  rw [e0]
  mi
  have hln : (ns.map D.int).length = ns.length := List.length_map ..
  refine ⟨⟨by decide, by decide, by split <;> split <;> omega, by split <;> split <;> omega⟩, ?_⟩
  have cnt : ((if (if 9 < ((ns.map D.int).length : Int) then (9 : Int) else ((ns.map D.int).length : Int)) > 2 then (if 9 < ((ns.map D.int).length : Int) then (9 : Int) else ((ns.map D.int).length : Int)) else 2) - 1).toNat ≤ 100 := by split <;> split <;> omega
  generalize ((if (if 9 < ((ns.map D.int).length : Int) then (9 : Int) else ((ns.map D.int).length : Int)) > 2 then (if 9 < ((ns.map D.int).length : Int) then (9 : Int) else ((ns.map D.int).length : Int)) else 2) - 1).toNat = cn at cnt
  refine forD_inv (I := fun j ρ => ∃ (s1 : Addr) (x4 x5 x6 x7 x8 x9 : Option Sl), ρ = [some (.d (.scr ns)), some (.strm s1), some (.d (axsT as)), some (.d (gridD as)), x4, x5, x6, x7, x8, x9, none, none, none]) _ 0 _ ⟨s0, none, none, none, none, none, none, rfl⟩ ?_ ?_
  · rintro j x ρ N hx ⟨s1, x4, x5, x6, x7, x8, x9, rfl⟩ hrt - - nx -
    obtain ⟨hj, rfl⟩ := upInts_at hx
    obtain ⟨k, hk, k1000⟩ : ∃ k : Nat, (1 + (j : Nat) : Int) = (k : Nat) ∧ k < 1000 := ⟨1 + j, by omega, by omega⟩
    rw [hk]
    simp only [gSet, List.set_cons_zero, List.set_cons_succ]
    have p1 : ∀ (Z : Env → Prop), (∀ s1, Z [some (.d (.scr ns)), some (.strm s1), some (.d (axsT as)), some (.d (gridD as)), some (.d (.int ((k : Nat) : Int))), x5, x6, x7, x8, x9, none, none, none]) → sSetS 1 (eCall0 mStream (aCons (eVar 0) (aCons (eVar 4) aNil))) [some (.d (.scr ns)), some (.strm s1), some (.d (axsT as)), some (.d (gridD as)), some (.d (.int ((k : Nat) : Int))), x5, x6, x7, x8, x9, none, none, none] { N with nx := Z } := by
      intro Z hZ
      mi
      refine ⟨ns, k, rfl, k1000, fun s0 c f n => ?_⟩
      mi
      exact hZ s0
    refine seq_i (p1 _ fun s1 => ?_)
    have p2 : ∀ (Z : Env → Prop), (∀ ws, GW as ws → Z [some (.d (.scr ns)), some (.strm s1), some (.d (axsT as)), some (.d (gridD as)), some (.d (.int ((k : Nat) : Int))), some (.d (axsT ws)), x6, x7, x8, x9, none, none, none]) → sSetD 5 (eCall0 f__law_wish (aCons (eVar 1) (aCons (eVar 2) aNil))) [some (.d (.scr ns)), some (.strm s1), some (.d (axsT as)), some (.d (gridD as)), some (.d (.int ((k : Nat) : Int))), x5, x6, x7, x8, x9, none, none, none] { N with nx := Z } := by
      intro Z hZ
      mi
      refine w_law_wish g fun ws gw => ?_
      mi
      exact hZ ws gw
    refine seq_i (p2 _ fun ws gw => ?_)
    have p3 : ∀ (Z : Env → Prop), (∀ a ∈ as, Z [some (.d (.scr ns)), some (.strm s1), some (.d (axsT as)), some (.d (gridD as)), some (.d (.int ((k : Nat) : Int))), some (.d (axsT ws)), some (.d (axT a)), x7, x8, x9, none, none, none]) → sSetD 6 (eOp (fIx Rv.asT) (eVar 2) (eCall0 mDraw (aCons (eVar 1) (aCons (eN fLen (aCons (eVar 2) aNil)) aNil)))) [some (.d (.scr ns)), some (.strm s1), some (.d (axsT as)), some (.d (gridD as)), some (.d (.int ((k : Nat) : Int))), some (.d (axsT ws)), x6, x7, x8, x9, none, none, none] { N with nx := Z } := by
      intro Z hZ
      have g1 := g.lo
      have g3 := g.hi
      simp only [axsT]
      mi
      refine w_dr (by rw [List.length_map]; omega) (by rw [List.length_map]; omega) fun d h0 h1 => ?_
      rw [List.length_map] at h1
      obtain ⟨a, ha, ea⟩ := axs_at h0 h1
      dsimp only
      rw [ea]
      simp only [axsT] at hZ
      exact hZ a ha
    refine seq_i (p3 _ fun a ha => ?_)
    have p4 : ∀ (Z : Env → Prop), Z [some (.d (.scr ns)), some (.strm s1), some (.d (axsT as)), some (.d (gridD as)), some (.d (.int ((k : Nat) : Int))), some (.d (axsT ws)), some (.d (axT a)), x7, x8, x9, none, none, none] → sIf (tOrD (tNotD (tBl (eCall0 f__law_right (aCons (eVar 3) (aCons (eVar 2) (aCons (eVar 5) (aCons (eVar 6) (aCons (eCall0 f__law_weights (aCons (eVar 1) (aCons (eUn (mFld "size") (eVar 3)) aNil))) aNil)))))))) (tNotD (tBl (eCall0 f__law_left_out (aCons (eVar 3) (aCons (eVar 2) (aCons (eVar 5) aNil))))))) 
          (sRet (eC (.bl false))) sNext [some (.d (.scr ns)), some (.strm s1), some (.d (axsT as)), some (.d (gridD as)), some (.d (.int ((k : Nat) : Int))), some (.d (axsT ws)), some (.d (axT a)), x7, x8, x9, none, none, none] { N with nx := Z } := by
      intro Z hZ
      simp only [gridD, gD]
      mi
      refine w_weights (by omega) fun b l hl al => ?_
      obtain ⟨vs, rfl, v1, v2, v3⟩ := drawn_fr hl al
      mi
      refine w_right g gw ha v1 v2 v3 ?_
      mi
      refine w_left_out g gw ?_
      mi
      exact hZ
    refine seq_i (p4 _ ?_)
    have p5 : ∀ (Z : Env → Prop), Z [some (.d (.scr ns)), some (.strm s1), some (.d (axsT as)), some (.d (gridD as)), some (.d (.int ((k : Nat) : Int))), some (.d (axsT ws)), some (.d (axT a)), some (.d (axsT (ws ++ [(a.1, zz)]))), x8, x9, none, none, none] → sSetD 7 (eOp fCatA (eVar 5) (eTup (aCons (eTup (aCons (eOp (fIx Rv.asT) (eVar 6) (eC (.int 0))) (aCons (eTup (aCons (eC (.str "zzzzzzzz")) (aCons (eC (.str "zz")) aNil))) aNil))) aNil))) [some (.d (.scr ns)), some (.strm s1), some (.d (axsT as)), some (.d (gridD as)), some (.d (.int ((k : Nat) : Int))), some (.d (axsT ws)), some (.d (axT a)), x7, x8, x9, none, none, none] { N with nx := Z } := by
      intro Z hZ
      obtain ⟨wl, _⟩ := gw.short g
      simp only [axT, axsT]
      mi
      refine ⟨by rw [List.length_map]; exact Nat.le_trans (show ws.length + 1 ≤ 100 by omega) (by decide), ?_⟩
      have e : axsT (ws ++ [(a.1, zz)]) = .tup (ws.map axT ++ [.tup [.str a.1, .tup [.str "zzzzzzzz", .str "zz"]]]) := by
        unfold axsT
        rw [List.map_append]
        rfl
      rw [e] at hZ
      exact hZ
    refine seq_i (p5 _ ?_)
    have p6 : ∀ (Z : Env → Prop), Z [some (.d (.scr ns)), some (.strm s1), some (.d (axsT as)), some (.d (gridD as)), some (.d (.int ((k : Nat) : Int))), some (.d (axsT ws)), some (.d (axT a)), some (.d (axsT (ws ++ [(a.1, zz)]))), some (.d (.tup [.int (ws.length : Nat), .str (dueW ws a)])), x9, none, none, none] → sSetD 8 (eTup (aCons (eN fLen (aCons (eVar 5) aNil)) (aCons (eOp (fIx Rv.asL) (eLst (aCons (eC (.str "members")) (aCons (eC (.str "axis")) aNil))) (eN fInt (aCons (eOp (fIn false) (eOp (fIx Rv.asT) (eVar 6) (eC (.int 0))) (eLc (itT (eVar 5)) (gSet 12) tYesD (eOp (fIx Rv.asT) (eVar 12) (eC (.int 0))) [12])) aNil))) aNil))) [some (.d (.scr ns)), some (.strm s1), some (.d (axsT as)), some (.d (gridD as)), some (.d (.int ((k : Nat) : Int))), some (.d (axsT ws)), some (.d (axT a)), some (.d (axsT (ws ++ [(a.1, zz)]))), x8, x9, none, none, none] { N with nx := Z } := by
      intro Z hZ
      obtain ⟨wl, _⟩ := gw.short g
      simp only [axT, axsT]
      mi
      intro b1
      refine ⟨by cl, fun b2 => lc_names ws (by simp) (by omega) ?_⟩
      simp only [fIn]
      mi
      rw [scs_strs]
      dsimp only
      rw [inV_strs, List.length_map]
      unfold dueW at hZ
      by_cases c : a.1 ∈ PX.names ws
      · rw [if_pos c] at hZ
        rw [decide_eq_true c]
        mi
        exact hZ
      · rw [if_neg c] at hZ
        rw [decide_eq_false c]
        mi
        exact hZ
    refine seq_i (p6 _ ?_)
    have p7 : ∀ (Z : Env → Prop), Z [some (.d (.scr ns)), some (.strm s1), some (.d (axsT as)), some (.d (gridD as)), some (.d (.int ((k : Nat) : Int))), some (.d (axsT ws)), some (.d (axT a)), some (.d (axsT (ws ++ [(a.1, zz)]))), some (.d (.tup [.int (ws.length : Nat), .str (dueW ws a)])), x9, none, none, none] → sIf (tAndD (tOrD (tBl (eOp (fIn true) (eC (.str "zzzzzzzz")) (eOp (fIx Rv.asT) (eVar 6) (eC (.int 1))))) (tBl (eOp (fIn true) (eC (.str "zz")) (eOp (fIx Rv.asT) (eVar 6) (eC (.int 1)))))) (tBl (eOp (fEqD true) (eCall0 f__law_summed (aCons (eVar 3) (aCons (eVar 7) aNil))) (eVar 8)))) 
          (sRet (eC (.bl false))) sNext [some (.d (.scr ns)), some (.strm s1), some (.d (axsT as)), some (.d (gridD as)), some (.d (.int ((k : Nat) : Int))), some (.d (axsT ws)), some (.d (axT a)), some (.d (axsT (ws ++ [(a.1, zz)]))), some (.d (.tup [.int (ws.length : Nat), .str (dueW ws a)])), x9, none, none, none] { N with nx := Z } := by
      intro Z hZ
      obtain ⟨l1, l2⟩ := wrong_short (a := a) g gw
      have bad : (("zzzzzzzz" : Str) ∉ a.2 ∨ ("zz" : Str) ∉ a.2) → ∀ (Q' : KD) (Ed' : KX), Ed' ⟨"NoWish", ["place", "word"], [.int (ws.length : Nat), .str (dueW ws a)]⟩ → f_sum_of [.d (gridD as), .d (axsT (ws ++ [(a.1, zz)]))] Q' Ed' := fun no Q' Ed' k =>
        w_sum_of g (.tup _) (axrs_T _) l1 l2 (fun hf => by rw [fb_wrong g gw ha no] at hf; cases hf) fun j wd hf => by rw [fb_wrong g gw ha no] at hf; cases hf; exact k
      have fin : (("zzzzzzzz" : Str) ∉ a.2 ∨ ("zz" : Str) ∉ a.2) → ∀ (Q' : KD) (Ed' : KX), Q' (.d (.tup [.int (ws.length : Nat), .str (dueW ws a)])) → f__law_summed [.d (gridD as), .d (axsT (ws ++ [(a.1, zz)]))] Q' Ed' := fun no Q' Ed' k => w_summed_bad (bad no) k
      simp only [axT]
      mi
      simp only [strsT, fIn]
      mi
      rw [scs_strs]
      dsimp only
      rw [inV_strs]
      have go : (("zzzzzzzz" : Str) ∉ a.2 ∨ ("zz" : Str) ∉ a.2) → _ := fin
      by_cases c1 : ("zzzzzzzz" : Str) ∈ a.2
      · rw [decide_eq_true c1]
        mi
        rw [inV_strs]
        by_cases c2 : ("zz" : Str) ∈ a.2
        · rw [decide_eq_true c2]
          mi
          exact hZ
        · rw [decide_eq_false c2]
          mi
          refine fin (.inr c2) _ _ ?_
          refine eq_IS (lay_due ws a) (lay_due ws a) ?_
          rw [decide_eq_true rfl, decide_eq_true rfl]
          mi
          exact hZ
      · rw [decide_eq_false c1]
        mi
        refine fin (.inl c1) _ _ ?_
        refine eq_IS (lay_due ws a) (lay_due ws a) ?_
        rw [decide_eq_true rfl, decide_eq_true rfl]
        mi
        exact hZ
    refine seq_i (p7 _ ?_)
    have p8 : ∀ (Z : Env → Prop), (∀ od ∈ oddL a, Z [some (.d (.scr ns)), some (.strm s1), some (.d (axsT as)), some (.d (gridD as)), some (.d (.int ((k : Nat) : Int))), some (.d (axsT ws)), some (.d (axT a)), some (.d (axsT (ws ++ [(a.1, zz)]))), some (.d (.tup [.int (ws.length : Nat), .str (dueW ws a)])), some (.d od), none, none, none]) → sSetD 9 (eOp (fIx Rv.asL) (eLst (aCons (eC .non) (aCons (eC (.str "")) (aCons (eC (.str "sum")) (aCons (eC (.int 3)) (aCons (eVar 6) (aCons (eLst (aCons (eOp (fIx Rv.asT) (eVar 6) (eC (.int 0))) aNil)) (aCons eDNew (aCons (eC (.str "zzzzzzzz")) aNil))))))))) (eCall0 mDraw (aCons (eVar 1) (aCons (eC (.int 8)) aNil)))) [some (.d (.scr ns)), some (.strm s1), some (.d (axsT as)), some (.d (gridD as)), some (.d (.int ((k : Nat) : Int))), some (.d (axsT ws)), some (.d (axT a)), some (.d (axsT (ws ++ [(a.1, zz)]))), some (.d (.tup [.int (ws.length : Nat), .str (dueW ws a)])), x9, none, none, none] { N with nx := Z } := by
      intro Z hZ
      simp only [axT] at hZ ⊢
      mi
      intro b1 b2
      refine w_dr (by decide) (by decide) fun d h0 h1 => ?_
      obtain ⟨od, ho, hin⟩ := atI_mem (l := oddL a) (d := d) h0 h1
      have e : oddL a = [.non, .str "", .str "sum", .int 3, .tup [.str a.1, strsT a.2], .lst [.str a.1], .dic [] [], .str "zzzzzzzz"] := rfl
      rw [e] at ho
      mi
      rw [ho]
      mi
      exact hZ od hin
    refine seq_i (p8 _ fun od hod => ?_)
    have p9 : ∀ (Z : Env → Prop), Z [some (.d (.scr ns)), some (.strm s1), some (.d (axsT as)), some (.d (gridD as)), some (.d (.int ((k : Nat) : Int))), some (.d (axsT ws)), some (.d (axT a)), some (.d (axsT (ws ++ [(a.1, zz)]))), some (.d (.tup [.int (ws.length : Nat), .str (dueW ws a)])), some (.d od), none, none, none] → sIf (tAndD (tBl (eOp (fInT true) (eVar 9) (eLc (itT (eVar 2)) (gSets [10, 11]) tYesD (eVar 10) [10, 11]))) (tBl (eOp (fEqD true) (eOp (fIx Rv.asT) (eCall0 f__law_parted (aCons (eVar 3) (aCons (eVar 9) (aCons (eVar 7) aNil)))) (eC (.int 1))) (eC (.str "axis"))))) 
          (sRet (eC (.bl false))) sNext [some (.d (.scr ns)), some (.strm s1), some (.d (axsT as)), some (.d (gridD as)), some (.d (.int ((k : Nat) : Int))), some (.d (axsT ws)), some (.d (axT a)), some (.d (axsT (ws ++ [(a.1, zz)]))), some (.d (.tup [.int (ws.length : Nat), .str (dueW ws a)])), some (.d od), none, none, none] { N with nx := Z } := by
      intro Z hZ
      have g3 := g.hi
      have op : plainD od = true ∧ askD od = true ∧ (Rv.d od).any = some od := by
        simp only [oddL, List.mem_cons, List.not_mem_nil, or_false] at hod
        rcases hod with rfl | rfl | rfl | rfl | rfl | rfl | rfl | rfl <;> exact ⟨rfl, rfl, rfl⟩
      have oa := op.2.2
      simp only [Rv.any] at oa
      simp only [axsT]
      mi
      refine ⟨by cl, fun b1 => ?_⟩
      refine lcD_map (fun x => match x with | .tup (y :: _) => y | _ => .non) _ (fun y hy Q2 h2 => ?_) (by rw [List.length_map]; omega) ?_
      · obtain ⟨b, hb, rfl⟩ := List.mem_map.mp hy
        simp only [axT, gSets, gSets.go] at h2 ⊢
        mi
        exact h2
      rw [List.map_map, show ((fun x => match x with | .tup (y :: _) => y | _ => .non) ∘ axT) = fun a : Ax => D.str a.1 from rfl, names_map]
      mi
      rw [oa, strsOf_map]
      dsimp only
      refine ⟨op.2.1, ?_⟩
      cases ci : (PX.names as).any fun z => isTx z od with
      | true =>
        mi
        exact hZ
      | false =>
        mi
        have no : ∀ b ∈ as, od ≠ .str b.1 := fun b hb e => by
          rw [List.any_eq_false] at ci
          exact ci b.1 (List.mem_map_of_mem (f := (·.1)) hb) (by rw [e]; simp [isTx])
        refine w_parted_bad (e := ⟨"NoAxis", [], []⟩) (r := .str "axis") (fun Q' Ed' k => w_each_no op.1 no k) (.inl ⟨rfl, rfl⟩) fun b5 => ?_
        mi
        simp only [itD]
        refine eq_S lay_words.1 lay_words.1 ?_
        rw [decide_eq_true rfl]
        mi
        exact hZ
    refine seq_i (p9 _ ?_)
    mi
    refine w_summed_bad (fun Q' Ed' k => w_sum_ofN (fun z h => by cases h) rfl k) ?_
    refine eq_IS lay_words.2.2 lay_words.2.2 ?_
    rw [decide_eq_true rfl, decide_eq_true rfl]
    mi
    simp only [axT]
    mi
    refine w_parted_bad (e := ⟨"NoWish", ["place", "word"], [.int (-1), .str "wish"]⟩) (r := .tup [.int (-1), .str "wish"]) (fun Q' Ed' k => w_eachN ha (fun z h => by cases h) rfl k) (.inr ⟨_, _, rfl, rfl⟩) fun b5 => ?_
    mi
    simp only [itD]
    refine eq_IS lay_words.2.2 lay_words.2.2 ?_
    rw [decide_eq_true rfl, decide_eq_true rfl]
    mi
    exact nx _ ⟨s1, _, _, _, _, _, _, rfl⟩
  · rintro ρ' ⟨s1, x4, x5, x6, x7, x8, x9, rfl⟩
    mi
    exact h
end DL

set_option Elab.async false
set_option linter.all false
set_option maxRecDepth 100000
set_option maxHeartbeats 8000000
/-! the end: from the facts to the law's def -/
namespace DL
open PySem L2 He DX DW
theorem facts {P : Program} {w : World} {K : PySem.W.Frag} {h : Heap} {mg : Str → Option Value} {f : Addr} (X : K.In h) (G : h.Ns mainGlobals mg) (hfa : mg ("law" : Str) = some (.ref f)) (c : SaysX KF.fa KF.fn [] [] KF.ex w h K) :
    ∃ fd : FuncData, (∀ (s : Shared) (v : Value), BindsTo s fd ⟨[v], []⟩ [("script", v)]) ∧ ∀ base : Heap, K.In base → base.Ns mainGlobals mg → FnOk P w K mg base CX0 12 f fd ["script"] (spD K 1 f_law) := by
  have D := c.t.d
  have M := c.more
  have ex_at := @KF.ex_at K
  obtain ⟨fdL, FL⟩ := (D.def_ 0 (d := KF.dg_law) rfl)
  have e := hfa.symm.trans (glo_ok X G (D.fact 0 (f := .glo "law") rfl))
  cases e
  have bL := FunD.bindsA (ps := ["script"]) FL fun _ _ _ _ _ _ us hl => match us, hl with | [_], _ => rfl
  refine ⟨fdL, fun s v => bL s [v] rfl, fun base _ _ => ?_⟩
  have T : TT mg := ⟨(free_ok X G (D.fact 1 (f := .free "isinstance") rfl)), (free_ok X G (D.fact 2 (f := .free "int") rfl)), (free_ok X G (D.fact 3 (f := .free "bool") rfl)), (free_ok X G (D.fact 4 (f := .free "str") rfl)), (free_ok X G (D.fact 5 (f := .free "list") rfl)), (free_ok X G (D.fact 6 (f := .free "tuple") rfl)), (free_ok X G (D.fact 7 (f := .free "dict") rfl)), (free_ok X G (D.fact 8 (f := .free "set") rfl)), (free_ok X G (D.fact 9 (f := .free "abs") rfl)), (free_ok X G (D.fact 10 (f := .free "len") rfl)), (free_ok X G (D.fact 11 (f := .free "range") rfl)), (free_ok X G (D.fact 12 (f := .free "min") rfl)), (free_ok X G (D.fact 13 (f := .free "max") rfl)), (free_ok X G (D.fact 14 (f := .free "all") rfl)), (free_ok X G (D.fact 15 (f := .free "any") rfl)), (free_ok X G (D.fact 16 (f := .free "sum") rfl)), (free_ok X G (D.fact 17 (f := .free "sorted") rfl)), (free_ok X G (D.fact 18 (f := .free "enumerate") rfl)), (free_ok X G (D.fact 19 (f := .free "zip") rfl)), (free_ok X G (D.fact 20 (f := .free "repr") rfl))⟩
  have pRatio : Pres K "Ratio" := ⟨by decide, eqO_ok (D.fact 21 (f := .glo "Ratio") rfl)⟩
  have pGrid : Pres K "Grid" := ⟨by decide, eqO_ok (D.fact 22 (f := .glo "Grid") rfl)⟩
  have pQuestion : Pres K "Question" := ⟨by decide, eqO_ok (D.fact 23 (f := .glo "Question") rfl)⟩
  have qListed : PySem.W.nsIn K mainGlobals "Listed" = some none := (eqO_ok (D.fact 24 (f := .free "Listed") rfl))
  have qExpression : PySem.W.nsIn K mainGlobals "Expression" = some none := (eqO_ok (D.fact 25 (f := .free "Expression") rfl))
  have qReading : PySem.W.nsIn K mainGlobals "Reading" = some none := (eqO_ok (D.fact 26 (f := .free "Reading") rfl))
  have qPlanned : PySem.W.nsIn K mainGlobals "Planned" = some none := (eqO_ok (D.fact 27 (f := .free "Planned") rfl))
  have qExact : PySem.W.nsIn K mainGlobals "Exact" = some none := (eqO_ok (D.fact 28 (f := .free "Exact") rfl))
  have qRough : PySem.W.nsIn K mainGlobals "Rough" = some none := (eqO_ok (D.fact 29 (f := .free "Rough") rfl))
  have qBook : PySem.W.nsIn K mainGlobals "Book" = some none := (eqO_ok (D.fact 30 (f := .free "Book") rfl))
  have qHistory : PySem.W.nsIn K mainGlobals "History" = some none := (eqO_ok (D.fact 31 (f := .free "History") rfl))
  have qPromise : PySem.W.nsIn K mainGlobals "Promise" = some none := (eqO_ok (D.fact 32 (f := .free "Promise") rfl))
  have qDoubt : PySem.W.nsIn K mainGlobals "Doubt" = some none := (eqO_ok (D.fact 33 (f := .free "Doubt") rfl))
  have qEnd : PySem.W.nsIn K mainGlobals "End" = some none := (eqO_ok (D.fact 34 (f := .free "End") rfl))
  have qConflict : PySem.W.nsIn K mainGlobals "Conflict" = some none := (eqO_ok (D.fact 35 (f := .free "Conflict") rfl))
  have qOffer : PySem.W.nsIn K mainGlobals "Offer" = some none := (eqO_ok (D.fact 36 (f := .free "Offer") rfl))
  have qGoal : PySem.W.nsIn K mainGlobals "Goal" = some none := (eqO_ok (D.fact 37 (f := .free "Goal") rfl))
  have qRefuter : PySem.W.nsIn K mainGlobals "Refuter" = some none := (eqO_ok (D.fact 38 (f := .free "Refuter") rfl))
  have qBounded : PySem.W.nsIn K mainGlobals "Bounded" = some none := (eqO_ok (D.fact 39 (f := .free "Bounded") rfl))
  have qOutcome : PySem.W.nsIn K mainGlobals "Outcome" = some none := (eqO_ok (D.fact 40 (f := .free "Outcome") rfl))
  have qCombination : PySem.W.nsIn K mainGlobals "Combination" = some none := (eqO_ok (D.fact 41 (f := .free "Combination") rfl))
  have qSpan : PySem.W.nsIn K mainGlobals "Span" = some none := (eqO_ok (D.fact 42 (f := .free "Span") rfl))
  have qFrame : PySem.W.nsIn K mainGlobals "Frame" = some none := (eqO_ok (D.fact 43 (f := .free "Frame") rfl))
  have qSearch : PySem.W.nsIn K mainGlobals "Search" = some none := (eqO_ok (D.fact 44 (f := .free "Search") rfl))
  have qRow : PySem.W.nsIn K mainGlobals "Row" = some none := (eqO_ok (D.fact 45 (f := .free "Row") rfl))
  have qHeld : PySem.W.nsIn K mainGlobals "Held" = some none := (eqO_ok (D.fact 46 (f := .free "Held") rfl))
  have qSketch : PySem.W.nsIn K mainGlobals "Sketch" = some none := (eqO_ok (D.fact 47 (f := .free "Sketch") rfl))
  have qBranch : PySem.W.nsIn K mainGlobals "Branch" = some none := (eqO_ok (D.fact 48 (f := .free "Branch") rfl))
  have qState : PySem.W.nsIn K mainGlobals "State" = some none := (eqO_ok (D.fact 49 (f := .free "State") rfl))
  have qKept : PySem.W.nsIn K mainGlobals "Kept" = some none := (eqO_ok (D.fact 50 (f := .free "Kept") rfl))
  have qPage : PySem.W.nsIn K mainGlobals "Page" = some none := (eqO_ok (D.fact 51 (f := .free "Page") rfl))
  have TX : Tx K := by
    refine tx_ok (ex_at M 0 (f := fun K => KF.txB K [("Ratio", ["top", "bottom"]), ("Grid", ["axes", "cells", "size"]), ("Question", ["grid", "weights"])] [("Ratio", "Grid"), ("Ratio", "Question"), ("Grid", "Ratio"), ("Grid", "Question"), ("Question", "Ratio"), ("Question", "Grid")]) rfl) (by decide) (by decide) fun c hc => ?_
    have hm := flds_mem hc.1
    simp only [clsNames, List.mem_cons, List.not_mem_nil, or_false] at hm
    rcases hm with rfl | rfl | rfl | rfl | rfl | rfl | rfl | rfl | rfl | rfl | rfl | rfl | rfl | rfl | rfl | rfl | rfl | rfl | rfl | rfl | rfl | rfl | rfl | rfl | rfl | rfl | rfl | rfl | rfl | rfl | rfl
    · decide
    · decide
    · decide
    · exact absurd (hc.2.symm.trans qListed) (by simp)
    · exact absurd (hc.2.symm.trans qExpression) (by simp)
    · exact absurd (hc.2.symm.trans qReading) (by simp)
    · exact absurd (hc.2.symm.trans qPlanned) (by simp)
    · exact absurd (hc.2.symm.trans qExact) (by simp)
    · exact absurd (hc.2.symm.trans qRough) (by simp)
    · exact absurd (hc.2.symm.trans qBook) (by simp)
    · exact absurd (hc.2.symm.trans qHistory) (by simp)
    · exact absurd (hc.2.symm.trans qPromise) (by simp)
    · exact absurd (hc.2.symm.trans qDoubt) (by simp)
    · exact absurd (hc.2.symm.trans qEnd) (by simp)
    · exact absurd (hc.2.symm.trans qConflict) (by simp)
    · exact absurd (hc.2.symm.trans qOffer) (by simp)
    · exact absurd (hc.2.symm.trans qGoal) (by simp)
    · exact absurd (hc.2.symm.trans qRefuter) (by simp)
    · exact absurd (hc.2.symm.trans qBounded) (by simp)
    · exact absurd (hc.2.symm.trans qOutcome) (by simp)
    · exact absurd (hc.2.symm.trans qCombination) (by simp)
    · exact absurd (hc.2.symm.trans qSpan) (by simp)
    · exact absurd (hc.2.symm.trans qFrame) (by simp)
    · exact absurd (hc.2.symm.trans qSearch) (by simp)
    · exact absurd (hc.2.symm.trans qRow) (by simp)
    · exact absurd (hc.2.symm.trans qHeld) (by simp)
    · exact absurd (hc.2.symm.trans qSketch) (by simp)
    · exact absurd (hc.2.symm.trans qBranch) (by simp)
    · exact absurd (hc.2.symm.trans qState) (by simp)
    · exact absurd (hc.2.symm.trans qKept) (by simp)
    · exact absurd (hc.2.symm.trans qPage) (by simp)
  have hKDIGITS : mgStr mg "DIGITS" "0123456789" := (str_ok X G (D.fact 52 (f := .str "DIGITS" "0123456789") rfl))
  have hKLETTERS : mgStr mg "LETTERS" "abcdefghijklmnopqrstuvwxyz" := (str_ok X G (D.fact 53 (f := .str "LETTERS" "abcdefghijklmnopqrstuvwxyz") rfl))
  have hKMOST_NAME_LENGTH : mgInt mg "MOST_NAME_LENGTH" 8 := (int_ok X G (D.fact 54 (f := .int "MOST_NAME_LENGTH" 8) rfl))
  have hKRESERVED : mgTup K mg "RESERVED" ["sum", "each"] := ⟨_, (glo_ok X G (D.fact 55 (f := .glo "RESERVED") rfl)), fun H => (tupB_ok (ex_at M 1 (f := fun K => tupB K "RESERVED" [.str "sum", .str "each"]) rfl)) H⟩
  have hKMOST_DIGITS : mgInt mg "MOST_DIGITS" 60 := (int_ok X G (D.fact 56 (f := .int "MOST_DIGITS" 60) rfl))
  have hKMOST_AXES : mgInt mg "MOST_AXES" 3 := (int_ok X G (D.fact 57 (f := .int "MOST_AXES" 3) rfl))
  have hKMOST_MEMBERS : mgInt mg "MOST_MEMBERS" 4 := (int_ok X G (D.fact 58 (f := .int "MOST_MEMBERS" 4) rfl))
  have mgc_NoRatio : mg "NoRatio" = some (.ref (He.ga K "NoRatio")) := (glo_ok X G (D.fact 59 (f := .glo "NoRatio") rfl))
  have XNoRatio : EXn K (He.ga K "NoRatio") ["word"] := exn_ok (ex_at M 2 (f := fun K => KF.exnB K "NoRatio" ["word"]) rfl)
  have hgcd : mg "gcd" = some (.builtin "math.gcd") := PySem.W.mg_of X G (of_decide_eq_true (ex_at M 3 (f := fun K => decide (PySem.W.nsIn K mainGlobals "gcd" = some (some (.builtin "math.gcd")))) rfl))
  have mgc_Ratio : mg "Ratio" = some (.ref (He.ga K "Ratio")) := (glo_ok X G (D.fact 21 (f := .glo "Ratio") rfl))
  have hlcm : mg "lcm" = some (.builtin "math.lcm") := PySem.W.mg_of X G (of_decide_eq_true (ex_at M 4 (f := fun K => decide (PySem.W.nsIn K mainGlobals "lcm" = some (some (.builtin "math.lcm")))) rfl))
  have mgc_Grid : mg "Grid" = some (.ref (He.ga K "Grid")) := (glo_ok X G (D.fact 22 (f := .glo "Grid") rfl))
  have mgc_NoWish : mg "NoWish" = some (.ref (He.ga K "NoWish")) := (glo_ok X G (D.fact 60 (f := .glo "NoWish") rfl))
  have XNoWish : EXn K (He.ga K "NoWish") ["place", "word"] := exn_ok (ex_at M 5 (f := fun K => KF.exnB K "NoWish" ["place", "word"]) rfl)
  have mgc_Question : mg "Question" = some (.ref (He.ga K "Question")) := (glo_ok X G (D.fact 23 (f := .glo "Question") rfl))
  have mgc_NoQuestion : mg "NoQuestion" = some (.ref (He.ga K "NoQuestion")) := (glo_ok X G (D.fact 61 (f := .glo "NoQuestion") rfl))
  have XNoQuestion : EXn K (He.ga K "NoQuestion") ["word"] := exn_ok (ex_at M 6 (f := fun K => KF.exnB K "NoQuestion" ["word"]) rfl)
  have mgc_NoAmounts : mg "NoAmounts" = some (.ref (He.ga K "NoAmounts")) := (glo_ok X G (D.fact 62 (f := .glo "NoAmounts") rfl))
  have XNoAmounts : EX0 K (He.ga K "NoAmounts") := ex0_ok (ex_at M 7 (f := fun K => KF.nfB K (ga K "NoAmounts")) rfl)
  have NGrid : PySem.W.findIn K (.ref (He.ga K "Grid")) "__ne__" = some (some (.builtin "object.__ne__")) := (of_decide_eq_true (ex_at M 8 (f := fun K => decide (PySem.W.findIn K (.ref (ga K "Grid")) "__ne__" = some (some (.builtin "object.__ne__")))) rfl))
  have BGrid : PySem.W.mroIn K (He.ga K "Grid") (.type "object") = some true := (of_decide_eq_true (ex_at M 9 (f := fun K => decide (PySem.W.mroIn K (ga K "Grid") (.type "object") = some true)) rfl))
  have mgc_NoGrid : mg "NoGrid" = some (.ref (He.ga K "NoGrid")) := (glo_ok X G (D.fact 63 (f := .glo "NoGrid") rfl))
  have XNoGrid : EXn K (He.ga K "NoGrid") ["word"] := exn_ok (ex_at M 10 (f := fun K => KF.exnB K "NoGrid" ["word"]) rfl)
  have hKMOST_CELLS : mgInt mg "MOST_CELLS" 8 := (int_ok X G (D.fact 64 (f := .int "MOST_CELLS" 8) rfl))
  have mgc_OtherGrid : mg "OtherGrid" = some (.ref (He.ga K "OtherGrid")) := (glo_ok X G (D.fact 65 (f := .glo "OtherGrid") rfl))
  have XOtherGrid : EX0 K (He.ga K "OtherGrid") := ex0_ok (ex_at M 11 (f := fun K => KF.nfB K (ga K "OtherGrid")) rfl)
  have ORatio : OwnC K (He.ga K "Ratio") := ⟨(of_decide_eq_true (ex_at M 12 (f := fun K => decide (PySem.W.selfFirst K (ga K "Ratio") = true)) rfl)), (of_decide_eq_true (ex_at M 13 (f := fun K => decide (PySem.W.subIn K (.type "int") (.ref (ga K "Ratio")) = some false)) rfl)), (of_decide_eq_true (ex_at M 14 (f := fun K => decide (PySem.W.subIn K (.ref (ga K "Ratio")) (.type "int") = some false)) rfl))⟩
  have OQuestion : OwnC K (He.ga K "Question") := ⟨(of_decide_eq_true (ex_at M 15 (f := fun K => decide (PySem.W.selfFirst K (ga K "Question") = true)) rfl)), (of_decide_eq_true (ex_at M 16 (f := fun K => decide (PySem.W.subIn K (.type "int") (.ref (ga K "Question")) = some false)) rfl)), (of_decide_eq_true (ex_at M 17 (f := fun K => decide (PySem.W.subIn K (.ref (ga K "Question")) (.type "int") = some false)) rfl))⟩
  have mgc_NoAxis : mg "NoAxis" = some (.ref (He.ga K "NoAxis")) := (glo_ok X G (D.fact 66 (f := .glo "NoAxis") rfl))
  have XNoAxis : EX0 K (He.ga K "NoAxis") := ex0_ok (ex_at M 18 (f := fun K => KF.nfB K (ga K "NoAxis")) rfl)
  have mgc_ToldError : mg "ToldError" = some (.ref (He.ga K "ToldError")) := (glo_ok X G (D.fact 67 (f := .glo "ToldError") rfl))
  have ER : Ers K errNames := ers_ok (ex_at M 19 (f := fun K => KF.ersB K ["ToldError", "NoRatio", "NoGrid", "NoWish", "NoAxis", "NoQuestion", "NoAmounts", "OtherGrid"] [("ToldError", "ToldError", true), ("ToldError", "NoRatio", false), ("ToldError", "NoGrid", false), ("ToldError", "NoWish", false), ("ToldError", "NoAxis", false), ("ToldError", "NoQuestion", false), ("ToldError", "NoAmounts", false), ("ToldError", "OtherGrid", false), ("NoRatio", "ToldError", true), ("NoRatio", "NoRatio", true), ("NoRatio", "NoGrid", false), ("NoRatio", "NoWish", false), ("NoRatio", "NoAxis", false), ("NoRatio", "NoQuestion", false), ("NoRatio", "NoAmounts", false), ("NoRatio", "OtherGrid", false), ("NoGrid", "ToldError", true), ("NoGrid", "NoRatio", false), ("NoGrid", "NoGrid", true), ("NoGrid", "NoWish", false), ("NoGrid", "NoAxis", false), ("NoGrid", "NoQuestion", false), ("NoGrid", "NoAmounts", false), ("NoGrid", "OtherGrid", false), ("NoWish", "ToldError", true), ("NoWish", "NoRatio", false), ("NoWish", "NoGrid", false), ("NoWish", "NoWish", true), ("NoWish", "NoAxis", false), ("NoWish", "NoQuestion", false), ("NoWish", "NoAmounts", false), ("NoWish", "OtherGrid", false), ("NoAxis", "ToldError", true), ("NoAxis", "NoRatio", false), ("NoAxis", "NoGrid", false), ("NoAxis", "NoWish", false), ("NoAxis", "NoAxis", true), ("NoAxis", "NoQuestion", false), ("NoAxis", "NoAmounts", false), ("NoAxis", "OtherGrid", false), ("NoQuestion", "ToldError", true), ("NoQuestion", "NoRatio", false), ("NoQuestion", "NoGrid", false), ("NoQuestion", "NoWish", false), ("NoQuestion", "NoAxis", false), ("NoQuestion", "NoQuestion", true), ("NoQuestion", "NoAmounts", false), ("NoQuestion", "OtherGrid", false), ("NoAmounts", "ToldError", true), ("NoAmounts", "NoRatio", false), ("NoAmounts", "NoGrid", false), ("NoAmounts", "NoWish", false), ("NoAmounts", "NoAxis", false), ("NoAmounts", "NoQuestion", false), ("NoAmounts", "NoAmounts", true), ("NoAmounts", "OtherGrid", false), ("OtherGrid", "ToldError", true), ("OtherGrid", "NoRatio", false), ("OtherGrid", "NoGrid", false), ("OtherGrid", "NoWish", false), ("OtherGrid", "NoAxis", false), ("OtherGrid", "NoQuestion", false), ("OtherGrid", "NoAmounts", false), ("OtherGrid", "OtherGrid", true)]) rfl) (by decide)
  have FNoAxis : XFc K "NoAxis" [] := xfc_ok (ex_at M 20 (f := fun K => KF.xfcB K "NoAxis" []) rfl)
  have FNoWish : XFc K "NoWish" ["place", "word"] := xfc_ok (ex_at M 21 (f := fun K => KF.xfcB K "NoWish" ["place", "word"]) rfl)
  have G_law_stream : GloOk P w K mg base CX0 1 "_law_stream" ["script", "k"] (spD K 2 mStream) := GF.ok (glo_gf (st := KF.top 56) (D.fact 68 (f := .glo "_law_stream") rfl) (D.def_ 1 (d := KF.dg__law_stream) rfl)) X G (fun f fd F => DW.d_stream F T) fun _ _ _ _ _ _ us hl => match us, hl with | [_, _], _ => rfl
  have G_law_draw : GloOk P w K mg base CX0 1 "_law_draw" ["stream", "many"] (spD K 2 mDraw) := GF.ok (glo_gf (st := KF.top 57) (D.fact 69 (f := .glo "_law_draw") rfl) (D.def_ 2 (d := KF.dg__law_draw) rfl)) X G (fun f fd F => DW.d_draw F T) fun _ _ _ _ _ _ us hl => match us, hl with | [_, _], _ => rfl
  have G_law_common : GloOk P w K mg base CX0 1 "_law_common" ["one", "rest"] (spD K 2 mCommon) := GF.ok (glo_gf (st := KF.top 58) (D.fact 70 (f := .glo "_law_common") rfl) (D.def_ 3 (d := KF.dg__law_common) rfl)) X G (fun f fd F => DW.d_common F T) fun _ _ _ _ _ _ us hl => match us, hl with | [_, _], _ => rfl
  have GNoRatio_x___init__ : ErrOk P w K mg base (He.ga K "NoRatio") 1 ["self", "word"] (spXI (He.ga K "NoRatio") ["word"]) := by
    obtain ⟨fd, F⟩ := (D.def_ 4 (d := KF.dg_NoRatio_x___init__) rfl)
    exact ⟨_, fd, ok_NoRatio_x___init__ F XNoRatio, (of_decide_eq_true (ex_at M 22 (f := fun K => decide (PySem.W.findIn K (.ref (ga K "NoRatio")) "__init__" = some (some (.ref (ma K (ga K "NoRatio") "__init__"))))) rfl)), (of_decide_eq_true (ex_at M 23 (f := fun K => decide (PySem.W.typeIn K (.ref (ma K (ga K "NoRatio") "__init__")) = some (.type "function"))) rfl)), F.bindsN fun _ _ _ _ _ _ us hl => match us, hl with | [_, _], _ => rfl⟩
  have GNoGrid_x___init__ : ErrOk P w K mg base (He.ga K "NoGrid") 1 ["self", "word"] (spXI (He.ga K "NoGrid") ["word"]) := by
    obtain ⟨fd, F⟩ := (D.def_ 5 (d := KF.dg_NoGrid_x___init__) rfl)
    exact ⟨_, fd, ok_NoGrid_x___init__ F XNoGrid, (of_decide_eq_true (ex_at M 24 (f := fun K => decide (PySem.W.findIn K (.ref (ga K "NoGrid")) "__init__" = some (some (.ref (ma K (ga K "NoGrid") "__init__"))))) rfl)), (of_decide_eq_true (ex_at M 25 (f := fun K => decide (PySem.W.typeIn K (.ref (ma K (ga K "NoGrid") "__init__")) = some (.type "function"))) rfl)), F.bindsN fun _ _ _ _ _ _ us hl => match us, hl with | [_, _], _ => rfl⟩
  have GNoQuestion_x___init__ : ErrOk P w K mg base (He.ga K "NoQuestion") 1 ["self", "word"] (spXI (He.ga K "NoQuestion") ["word"]) := by
    obtain ⟨fd, F⟩ := (D.def_ 6 (d := KF.dg_NoQuestion_x___init__) rfl)
    exact ⟨_, fd, ok_NoQuestion_x___init__ F XNoQuestion, (of_decide_eq_true (ex_at M 26 (f := fun K => decide (PySem.W.findIn K (.ref (ga K "NoQuestion")) "__init__" = some (some (.ref (ma K (ga K "NoQuestion") "__init__"))))) rfl)), (of_decide_eq_true (ex_at M 27 (f := fun K => decide (PySem.W.typeIn K (.ref (ma K (ga K "NoQuestion") "__init__")) = some (.type "function"))) rfl)), F.bindsN fun _ _ _ _ _ _ us hl => match us, hl with | [_, _], _ => rfl⟩
  have GNoWish_x___init__ : ErrOk P w K mg base (He.ga K "NoWish") 1 ["self", "place", "word"] (spXI (He.ga K "NoWish") ["place", "word"]) := by
    obtain ⟨fd, F⟩ := (D.def_ 7 (d := KF.dg_NoWish_x___init__) rfl)
    exact ⟨_, fd, ok_NoWish_x___init__ F XNoWish, (of_decide_eq_true (ex_at M 28 (f := fun K => decide (PySem.W.findIn K (.ref (ga K "NoWish")) "__init__" = some (some (.ref (ma K (ga K "NoWish") "__init__"))))) rfl)), (of_decide_eq_true (ex_at M 29 (f := fun K => decide (PySem.W.typeIn K (.ref (ma K (ga K "NoWish") "__init__")) = some (.type "function"))) rfl)), F.bindsN fun _ _ _ _ _ _ us hl => match us, hl with | [_, _, _], _ => rfl⟩
  have Gis_integer : GloOk P w K mg base CX0 1 "is_integer" ["found"] (spD K 1 f_is_integer) := GF.ok (glo_gf (st := KF.top 17) (D.fact 71 (f := .glo "is_integer") rfl) (D.def_ 8 (d := KF.dg_is_integer) rfl)) X G (fun f fd F => ok_is_integer F TX T) fun _ _ _ _ _ _ us hl => match us, hl with | [_], _ => rfl
  have Gis_sequence : GloOk P w K mg base CX0 1 "is_sequence" ["found"] (spD K 1 f_is_sequence) := GF.ok (glo_gf (st := KF.top 18) (D.fact 72 (f := .glo "is_sequence") rfl) (D.def_ 9 (d := KF.dg_is_sequence) rfl)) X G (fun f fd F => ok_is_sequence F TX T) fun _ _ _ _ _ _ us hl => match us, hl with | [_], _ => rfl
  have Gis_pair : GloOk P w K mg base CX0 2 "is_pair" ["found"] (spD K 1 f_is_pair) := GF.ok (glo_gf (st := KF.top 19) (D.fact 73 (f := .glo "is_pair") rfl) (D.def_ 10 (d := KF.dg_is_pair) rfl)) X G (fun f fd F => ok_is_pair F TX T Gis_sequence) fun _ _ _ _ _ _ us hl => match us, hl with | [_], _ => rfl
  have Gis_word : GloOk P w K mg base CX0 1 "is_word" ["found"] (spD K 1 f_is_word) := GF.ok (glo_gf (st := KF.top 20) (D.fact 74 (f := .glo "is_word") rfl) (D.def_ 11 (d := KF.dg_is_word) rfl)) X G (fun f fd F => ok_is_word F TX T hKDIGITS hKLETTERS hKMOST_NAME_LENGTH) fun _ _ _ _ _ _ us hl => match us, hl with | [_], _ => rfl
  have Gis_name : GloOk P w K mg base CX0 2 "is_name" ["found"] (spD K 1 f_is_name) := GF.ok (glo_gf (st := KF.top 21) (D.fact 75 (f := .glo "is_name") rfl) (D.def_ 12 (d := KF.dg_is_name) rfl)) X G (fun f fd F => ok_is_name F TX T hKRESERVED Gis_word) fun _ _ _ _ _ _ us hl => match us, hl with | [_], _ => rfl
  have Gare_names : GloOk P w K mg base CX0 3 "are_names" ["found"] (spD K 1 f_are_names) := GF.ok (glo_gf (st := KF.top 22) (D.fact 76 (f := .glo "are_names") rfl) (D.def_ 13 (d := KF.dg_are_names) rfl)) X G (fun f fd F => ok_are_names F TX T Gis_name Gis_sequence) fun _ _ _ _ _ _ us hl => match us, hl with | [_], _ => rfl
  have Gare_unlike_names : GloOk P w K mg base CX0 4 "are_unlike_names" ["found"] (spD K 1 f_are_unlike_names) := GF.ok (glo_gf (st := KF.top 23) (D.fact 77 (f := .glo "are_unlike_names") rfl) (D.def_ 14 (d := KF.dg_are_unlike_names) rfl)) X G (fun f fd F => ok_are_unlike_names F TX T Gare_names) fun _ _ _ _ _ _ us hl => match us, hl with | [_], _ => rfl
  have Gis_figure : GloOk P w K mg base CX0 1 "is_figure" ["text"] (spD K 1 f_is_figure) := GF.ok (glo_gf (st := KF.top 24) (D.fact 78 (f := .glo "is_figure") rfl) (D.def_ 15 (d := KF.dg_is_figure) rfl)) X G (fun f fd F => ok_is_figure F TX T hKDIGITS hKMOST_DIGITS) fun _ _ _ _ _ _ us hl => match us, hl with | [_], _ => rfl
  have Gare_pairs_of_axes : GloOk P w K mg base CX0 3 "are_pairs_of_axes" ["axes"] (spD K 1 f_are_pairs_of_axes) := GF.ok (glo_gf (st := KF.top 30) (D.fact 79 (f := .glo "are_pairs_of_axes") rfl) (D.def_ 16 (d := KF.dg_are_pairs_of_axes) rfl)) X G (fun f fd F => ok_are_pairs_of_axes F TX T hKMOST_AXES Gis_pair Gis_sequence) fun _ _ _ _ _ _ us hl => match us, hl with | [_], _ => rfl
  have Gare_members : GloOk P w K mg base CX0 5 "are_members" ["found"] (spD K 1 f_are_members) := GF.ok (glo_gf (st := KF.top 31) (D.fact 80 (f := .glo "are_members") rfl) (D.def_ 17 (d := KF.dg_are_members) rfl)) X G (fun f fd F => ok_are_members F TX T hKMOST_MEMBERS Gare_unlike_names) fun _ _ _ _ _ _ us hl => match us, hl with | [_], _ => rfl
  have Gplace_of_axis : GloOk P w K mg base CX0 1 "place_of_axis" ["grid", "name"] (spD K 2 f_place_of_axis) := GF.ok (glo_gf (st := KF.top 33) (D.fact 81 (f := .glo "place_of_axis") rfl) (D.def_ 18 (d := KF.dg_place_of_axis) rfl)) X G (fun f fd F => ok_place_of_axis F TX T) fun _ _ _ _ _ _ us hl => match us, hl with | [_, _], _ => rfl
  have Gare_members_among : GloOk P w K mg base CX0 4 "are_members_among" ["found", "members"] (spD K 2 f_are_members_among) := GF.ok (glo_gf (st := KF.top 36) (D.fact 82 (f := .glo "are_members_among") rfl) (D.def_ 19 (d := KF.dg_are_members_among) rfl)) X G (fun f fd F => ok_are_members_among F TX T Gare_names) fun _ _ _ _ _ _ us hl => match us, hl with | [_, _], _ => rfl
  have GRatio_x___init__ : MkDOk P w K mg base (He.ga K "Ratio") (L2.CX P w) 3 ["self", "top", "bottom"] [.int 1] (spI K "Ratio" 2 f_Ratio_x___init__) := by
    obtain ⟨fd, F⟩ := (D.def_ 20 (d := KF.dg_Ratio_x___init__) rfl)
    obtain ⟨ds, vd, bd⟩ := FunD.binds1 F (ps := ["self", "top", "bottom"]) 3 1 (List.cons_ne_nil _ _) rfl fun _ _ _ _ _ _ _ us its hl hi => match us, its, hl, hi with | [_, _, _], [_], _, _ => ⟨_, rfl, rfl⟩
    obtain ⟨ds', vd', bd'⟩ := FunD.binds1 F (ps := ["self", "top", "bottom"]) 2 0 (List.cons_ne_nil _ _) rfl fun _ _ _ _ _ _ _ us its hl hi => match us, its, hl, hi with | [_, _], [_], _, _ => ⟨_, rfl, rfl⟩
    cases vd
    exact ⟨_, fd, ok_Ratio_x___init__ F TX T mgc_NoRatio XNoRatio hgcd Gis_integer GNoRatio_x___init__, ⟨(of_decide_eq_true (ex_at M 30 (f := fun K => decide (PySem.W.makesIn K (ga K "Ratio") = true)) rfl)), (of_decide_eq_true (ex_at M 31 (f := fun K => decide (PySem.W.findIn K (.ref (ga K "Ratio")) "__init__" = some (some (.ref (ma K (ga K "Ratio") "__init__"))))) rfl)), (of_decide_eq_true (ex_at M 32 (f := fun K => decide (PySem.W.isFn K (.ref (ma K (ga K "Ratio") "__init__")) = true)) rfl)), (of_decide_eq_true (ex_at M 33 (f := fun K => decide (PySem.W.keepIn K (.ref (ga K "Ratio")) = true)) rfl))⟩, bd, ds', vd', bd'⟩
  have Gis_number : GloOk P w K mg base CX0 2 "is_number" ["found"] (spD K 1 f_is_number) := GF.ok (glo_gf (st := KF.top 40) (D.fact 83 (f := .glo "is_number") rfl) (D.def_ 21 (d := KF.dg_is_number) rfl)) X G (fun f fd F => ok_is_number F TX T pRatio mgc_Ratio Gis_integer) fun _ _ _ _ _ _ us hl => match us, hl with | [_], _ => rfl
  have Gas_ratio : GloOk P w K mg base (L2.CX P w) 5 "as_ratio" ["number"] (spD K 1 f_as_ratio) := GF.ok (glo_gf (st := KF.top 41) (D.fact 84 (f := .glo "as_ratio") rfl) (D.def_ 22 (d := KF.dg_as_ratio) rfl)) X G (fun f fd F => ok_as_ratio F TX T pRatio mgc_Ratio GRatio_x___init__) fun _ _ _ _ _ _ us hl => match us, hl with | [_], _ => rfl
  have Gsign_of_difference : GloOk P w K mg base (L2.CX P w) 6 "sign_of_difference" ["one", "other"] (spD K 2 f_sign_of_difference) := GF.ok (glo_gf (st := KF.top 42) (D.fact 85 (f := .glo "sign_of_difference") rfl) (D.def_ 23 (d := KF.dg_sign_of_difference) rfl)) X G (fun f fd F => ok_sign_of_difference F TX T Gas_ratio) fun _ _ _ _ _ _ us hl => match us, hl with | [_, _], _ => rfl
  have GRatio_x___neg__ : MthOk P w K mg base (He.ga K "Ratio") (L2.CX P w) 5 "__neg__" ["self"] (spD K 1 f_Ratio_x___neg__) := MTF.ok (meth_mf (q := "Ratio.__neg__") (st := inClass (KF.top 39) 7) (meth_ok (D.fact 86 (f := .meth "Ratio" "__neg__") rfl)) (D.def_ 24 (d := KF.dg_Ratio_x___neg__) rfl)) (fun f fd F => ok_Ratio_x___neg__ F TX T pRatio mgc_Ratio GRatio_x___init__) fun _ _ _ _ _ _ us hl => match us, hl with | [_], _ => rfl
  have GRatio_x___abs__ : MthOk P w K mg base (He.ga K "Ratio") (L2.CX P w) 5 "__abs__" ["self"] (spD K 1 f_Ratio_x___abs__) := MTF.ok (meth_mf (q := "Ratio.__abs__") (st := inClass (KF.top 39) 8) (meth_ok (D.fact 87 (f := .meth "Ratio" "__abs__") rfl)) (D.def_ 25 (d := KF.dg_Ratio_x___abs__) rfl)) (fun f fd F => ok_Ratio_x___abs__ F TX T pRatio mgc_Ratio GRatio_x___init__) fun _ _ _ _ _ _ us hl => match us, hl with | [_], _ => rfl
  have GRatio_x_over : MthOk P w K mg base (He.ga K "Ratio") (L2.CX P w) 6 "over" ["self", "number"] (spD K 2 f_Ratio_x_over) := MTF.ok (meth_mf (q := "Ratio.over") (st := inClass (KF.top 39) 9) (meth_ok (D.fact 88 (f := .meth "Ratio" "over") rfl)) (D.def_ 26 (d := KF.dg_Ratio_x_over) rfl)) (fun f fd F => ok_Ratio_x_over F TX T pRatio mgc_Ratio Gas_ratio GRatio_x___init__) fun _ _ _ _ _ _ us hl => match us, hl with | [_, _], _ => rfl
  have GRatio_x___eq__ : MthOk P w K mg base (He.ga K "Ratio") CX0 2 "__eq__" ["self", "other"] (spD K 2 f_Ratio_x___eq__) := MTF.ok (meth_mf (q := "Ratio.__eq__") (st := inClass (KF.top 39) 10) (meth_ok (D.fact 89 (f := .meth "Ratio" "__eq__") rfl)) (D.def_ 27 (d := KF.dg_Ratio_x___eq__) rfl)) (fun f fd F => ok_Ratio_x___eq__ F TX T pRatio mgc_Ratio Gis_integer) fun _ _ _ _ _ _ us hl => match us, hl with | [_, _], _ => rfl
  have Gover_one : GloOk P w K mg base CX0 1 "over_one" ["numbers"] (spD K 1 f_over_one) := GF.ok (glo_gf (st := KF.top 44) (D.fact 90 (f := .glo "over_one") rfl) (D.def_ 28 (d := KF.dg_over_one) rfl)) X G (fun f fd F => ok_over_one F TX T hlcm) fun _ _ _ _ _ _ us hl => match us, hl with | [_], _ => rfl
  have Gdot : GloOk P w K mg base CX0 1 "dot" ["ones", "others"] (spD K 2 f_dot) := GF.ok (glo_gf (st := KF.top 45) (D.fact 91 (f := .glo "dot") rfl) (D.def_ 29 (d := KF.dg_dot) rfl)) X G (fun f fd F => ok_dot F TX T) fun _ _ _ _ _ _ us hl => match us, hl with | [_, _], _ => rfl
  have Gsum_of_products : GloOk P w K mg base (L2.CX P w) 5 "sum_of_products" ["ones", "others"] (spD K 2 f_sum_of_products) := GF.ok (glo_gf (st := KF.top 46) (D.fact 92 (f := .glo "sum_of_products") rfl) (D.def_ 30 (d := KF.dg_sum_of_products) rfl)) X G (fun f fd F => ok_sum_of_products F TX T pRatio mgc_Ratio Gover_one GRatio_x___init__ Gdot) fun _ _ _ _ _ _ us hl => match us, hl with | [_, _], _ => rfl
  have Gare_amounts : GloOk P w K mg base CX0 3 "are_amounts" ["grid", "found"] (spD K 2 f_are_amounts) := GF.ok (glo_gf (st := KF.top 49) (D.fact 93 (f := .glo "are_amounts") rfl) (D.def_ 31 (d := KF.dg_are_amounts) rfl)) X G (fun f fd F => ok_are_amounts F TX T Gis_sequence Gis_number) fun _ _ _ _ _ _ us hl => match us, hl with | [_, _], _ => rfl
  have GGrid_x___eq__ : MthOk P w K mg base (He.ga K "Grid") CX0 1 "__eq__" ["self", "other"] (spD K 2 f_Grid_x___eq__) := MTF.ok (meth_mf (q := "Grid.__eq__") (st := inClass (KF.top 29) 1) (meth_ok (D.fact 94 (f := .meth "Grid" "__eq__") rfl)) (D.def_ 32 (d := KF.dg_Grid_x___eq__) rfl)) (fun f fd F => ok_Grid_x___eq__ F TX T pGrid mgc_Grid) fun _ _ _ _ _ _ us hl => match us, hl with | [_, _], _ => rfl
  have Gcells_of : GloOk P w K mg base CX0 1 "cells_of" ["axes"] (spD K 1 f_cells_of) := GF.ok (glo_gf (st := KF.top 32) (D.fact 95 (f := .glo "cells_of") rfl) (D.def_ 33 (d := KF.dg_cells_of) rfl)) X G (fun f fd F => ok_cells_of F TX T) fun _ _ _ _ _ _ us hl => match us, hl with | [_], _ => rfl
  have Gwanted_members : GloOk P w K mg base (L2.CX P w) 5 "wanted_members" ["grid", "wish", "taken"] (spD K 3 f_wanted_members) := GF.ok (glo_gf (st := KF.top 35) (D.fact 96 (f := .glo "wanted_members") rfl) (D.def_ 34 (d := KF.dg_wanted_members) rfl)) X G (fun f fd F => ok_wanted_members F TX T mgc_NoWish XNoWish Gis_sequence GNoWish_x___init__ Gis_pair Gplace_of_axis Gare_members_among) fun _ _ _ _ _ _ us hl => match us, hl with | [_, _, _], _ => rfl
  have Gis_wanted : GloOk P w K mg base CX0 1 "is_wanted" ["grid", "cell", "wanted"] (spD K 3 f_is_wanted) := GF.ok (glo_gf (st := KF.top 37) (D.fact 97 (f := .glo "is_wanted") rfl) (D.def_ 35 (d := KF.dg_is_wanted) rfl)) X G (fun f fd F => ok_is_wanted F TX T) fun _ _ _ _ _ _ us hl => match us, hl with | [_, _, _], _ => rfl
  have GRatio_x___add__ : MthOk P w K mg base (He.ga K "Ratio") (L2.CX P w) 6 "__add__" ["self", "other"] (spD K 2 f_Ratio_x___add__) := MTF.ok (meth_mf (q := "Ratio.__add__") (st := inClass (KF.top 39) 1) (meth_ok (D.fact 98 (f := .meth "Ratio" "__add__") rfl)) (D.def_ 36 (d := KF.dg_Ratio_x___add__) rfl)) (fun f fd F => ok_Ratio_x___add__ F TX T pRatio mgc_Ratio Gis_number Gas_ratio GRatio_x___init__) fun _ _ _ _ _ _ us hl => match us, hl with | [_, _], _ => rfl
  have GRatio_x___sub__ : MthOk P w K mg base (He.ga K "Ratio") (L2.CX P w) 6 "__sub__" ["self", "other"] (spD K 2 f_Ratio_x___sub__) := MTF.ok (meth_mf (q := "Ratio.__sub__") (st := inClass (KF.top 39) 3) (meth_ok (D.fact 99 (f := .meth "Ratio" "__sub__") rfl)) (D.def_ 37 (d := KF.dg_Ratio_x___sub__) rfl)) (fun f fd F => ok_Ratio_x___sub__ F TX T pRatio mgc_Ratio Gis_number Gas_ratio GRatio_x___init__) fun _ _ _ _ _ _ us hl => match us, hl with | [_, _], _ => rfl
  have GRatio_x___mul__ : MthOk P w K mg base (He.ga K "Ratio") (L2.CX P w) 6 "__mul__" ["self", "other"] (spD K 2 f_Ratio_x___mul__) := MTF.ok (meth_mf (q := "Ratio.__mul__") (st := inClass (KF.top 39) 5) (meth_ok (D.fact 100 (f := .meth "Ratio" "__mul__") rfl)) (D.def_ 38 (d := KF.dg_Ratio_x___mul__) rfl)) (fun f fd F => ok_Ratio_x___mul__ F TX T pRatio mgc_Ratio Gis_number Gas_ratio GRatio_x___init__) fun _ _ _ _ _ _ us hl => match us, hl with | [_, _], _ => rfl
  have GQuestion_x___eq__ : MthOk P w K mg base (He.ga K "Question") CX0 4 "__eq__" ["self", "other"] (spD K 2 f_Question_x___eq__) := MTF.ok (meth_mf (q := "Question.__eq__") (st := inClass (KF.top 48) 1) (meth_ok (D.fact 101 (f := .meth "Question" "__eq__") rfl)) (D.def_ 39 (d := KF.dg_Question_x___eq__) rfl)) (fun f fd F => ok_Question_x___eq__ F TX T pQuestion pRatio mgc_Question GRatio_x___eq__ GGrid_x___eq__) fun _ _ _ _ _ _ us hl => match us, hl with | [_, _], _ => rfl
  have GQuestion_x___init__ : MkOk P w K mg base (He.ga K "Question") (L2.CX P w) 6 ["self", "grid", "weights"] (spI K "Question" 2 f_Question_x___init__) := by
    obtain ⟨fd, F⟩ := (D.def_ 40 (d := KF.dg_Question_x___init__) rfl)
    exact ⟨_, fd, ok_Question_x___init__ F TX T pGrid mgc_Grid mgc_NoQuestion XNoQuestion GNoQuestion_x___init__ Gare_amounts Gas_ratio, ⟨(of_decide_eq_true (ex_at M 34 (f := fun K => decide (PySem.W.makesIn K (ga K "Question") = true)) rfl)), (of_decide_eq_true (ex_at M 35 (f := fun K => decide (PySem.W.findIn K (.ref (ga K "Question")) "__init__" = some (some (.ref (ma K (ga K "Question") "__init__"))))) rfl)), (of_decide_eq_true (ex_at M 36 (f := fun K => decide (PySem.W.isFn K (.ref (ma K (ga K "Question") "__init__")) = true)) rfl)), (of_decide_eq_true (ex_at M 37 (f := fun K => decide (PySem.W.keepIn K (.ref (ga K "Question")) = true)) rfl))⟩, F.bindsN fun _ _ _ _ _ _ us hl => match us, hl with | [_, _, _], _ => rfl⟩
  have GQuestion_x___neg__ : MthOk P w K mg base (He.ga K "Question") (L2.CX P w) 8 "__neg__" ["self"] (spD K 1 f_Question_x___neg__) := MTF.ok (meth_mf (q := "Question.__neg__") (st := inClass (KF.top 48) 4) (meth_ok (D.fact 102 (f := .meth "Question" "__neg__") rfl)) (D.def_ 41 (d := KF.dg_Question_x___neg__) rfl)) (fun f fd F => ok_Question_x___neg__ F TX T pQuestion mgc_Question GQuestion_x___init__ GRatio_x___neg__) fun _ _ _ _ _ _ us hl => match us, hl with | [_], _ => rfl
  have GQuestion_x_at : MthOk P w K mg base (He.ga K "Question") (L2.CX P w) 6 "at" ["self", "amounts"] (spD K 2 f_Question_x_at) := MTF.ok (meth_mf (q := "Question.at") (st := inClass (KF.top 48) 8) (meth_ok (D.fact 103 (f := .meth "Question" "at") rfl)) (D.def_ 42 (d := KF.dg_Question_x_at) rfl)) (fun f fd F => ok_Question_x_at F TX T mgc_NoAmounts XNoAmounts Gare_amounts Gsum_of_products Gas_ratio) fun _ _ _ _ _ _ us hl => match us, hl with | [_, _], _ => rfl
  have GQuestion_x_is_nothing : MthOk P w K mg base (He.ga K "Question") CX0 3 "is_nothing" ["self"] (spD K 1 f_Question_x_is_nothing) := MTF.ok (meth_mf (q := "Question.is_nothing") (st := inClass (KF.top 48) 9) (meth_ok (D.fact 104 (f := .meth "Question" "is_nothing") rfl)) (D.def_ 43 (d := KF.dg_Question_x_is_nothing) rfl)) (fun f fd F => ok_Question_x_is_nothing F TX T GRatio_x___eq__) fun _ _ _ _ _ _ us hl => match us, hl with | [_], _ => rfl
  have Gsum_over : GloOk P w K mg base (L2.CX P w) 8 "sum_over" ["grid", "places"] (spD K 2 f_sum_over) := GF.ok (glo_gf (st := KF.top 53) (D.fact 105 (f := .glo "sum_over") rfl) (D.def_ 44 (d := KF.dg_sum_over) rfl)) X G (fun f fd F => ok_sum_over F TX T pQuestion mgc_Question GQuestion_x___init__) fun _ _ _ _ _ _ us hl => match us, hl with | [_, _], _ => rfl
  have G_law_is_integer : GloOk P w K mg base CX0 1 "_law_is_integer" ["thing"] (spD K 1 f__law_is_integer) := GF.ok (glo_gf (st := KF.top 55) (D.fact 106 (f := .glo "_law_is_integer") rfl) (D.def_ 45 (d := KF.dg__law_is_integer) rfl)) X G (fun f fd F => ok__law_is_integer F TX T) fun _ _ _ _ _ _ us hl => match us, hl with | [_], _ => rfl
  have G_law_frac : GloOk P w K mg base CX0 2 "_law_frac" ["top", "bottom"] (spD K 2 f__law_frac) := GF.ok (glo_gf (st := KF.top 59) (D.fact 107 (f := .glo "_law_frac") rfl) (D.def_ 46 (d := KF.dg__law_frac) rfl)) X G (fun f fd F => ok__law_frac F TX T G_law_common) fun _ _ _ _ _ _ us hl => match us, hl with | [_, _], _ => rfl
  have G_law_plus : GloOk P w K mg base CX0 3 "_law_plus" ["one", "other"] (spD K 2 f__law_plus) := GF.ok (glo_gf (st := KF.top 60) (D.fact 108 (f := .glo "_law_plus") rfl) (D.def_ 47 (d := KF.dg__law_plus) rfl)) X G (fun f fd F => ok__law_plus F TX T G_law_frac) fun _ _ _ _ _ _ us hl => match us, hl with | [_, _], _ => rfl
  have G_law_by : GloOk P w K mg base CX0 3 "_law_by" ["one", "other"] (spD K 2 f__law_by) := GF.ok (glo_gf (st := KF.top 61) (D.fact 109 (f := .glo "_law_by") rfl) (D.def_ 48 (d := KF.dg__law_by) rfl)) X G (fun f fd F => ok__law_by F TX T G_law_frac) fun _ _ _ _ _ _ us hl => match us, hl with | [_, _], _ => rfl
  have G_law_is : GloOk P w K mg base CX0 2 "_law_is" ["told", "due"] (spD K 2 f__law_is) := GF.ok (glo_gf (st := KF.top 62) (D.fact 110 (f := .glo "_law_is") rfl) (D.def_ 49 (d := KF.dg__law_is) rfl)) X G (fun f fd F => ok__law_is F TX T pRatio mgc_Ratio G_law_is_integer) fun _ _ _ _ _ _ us hl => match us, hl with | [_, _], _ => rfl
  have G_law_number : GloOk P w K mg base CX0 3 "_law_number" ["stream"] (spD K 1 f__law_number) := GF.ok (glo_gf (st := KF.top 63) (D.fact 111 (f := .glo "_law_number") rfl) (D.def_ 50 (d := KF.dg__law_number) rfl)) X G (fun f fd F => ok__law_number F TX T G_law_draw G_law_frac) fun _ _ _ _ _ _ us hl => match us, hl with | [_], _ => rfl
  have G_law_names : GloOk P w K mg base CX0 2 "_law_names" ["stream", "many"] (spD K 2 f__law_names) := GF.ok (glo_gf (st := KF.top 64) (D.fact 112 (f := .glo "_law_names") rfl) (D.def_ 51 (d := KF.dg__law_names) rfl)) X G (fun f fd F => ok__law_names F TX T G_law_draw) fun _ _ _ _ _ _ us hl => match us, hl with | [_, _], _ => rfl
  have G_law_axes : GloOk P w K mg base CX0 3 "_law_axes" ["stream"] (spD K 1 f__law_axes) := GF.ok (glo_gf (st := KF.top 65) (D.fact 113 (f := .glo "_law_axes") rfl) (D.def_ 52 (d := KF.dg__law_axes) rfl)) X G (fun f fd F => ok__law_axes F TX T G_law_draw G_law_names) fun _ _ _ _ _ _ us hl => match us, hl with | [_], _ => rfl
  have G_law_cells : GloOk P w K mg base CX0 1 "_law_cells" ["axes"] (spD K 1 f__law_cells) := GF.ok (glo_gf (st := KF.top 66) (D.fact 114 (f := .glo "_law_cells") rfl) (D.def_ 53 (d := KF.dg__law_cells) rfl)) X G (fun f fd F => ok__law_cells F TX T) fun _ _ _ _ _ _ us hl => match us, hl with | [_], _ => rfl
  have G_law_wish : GloOk P w K mg base CX0 2 "_law_wish" ["stream", "axes"] (spD K 2 f__law_wish) := GF.ok (glo_gf (st := KF.top 67) (D.fact 115 (f := .glo "_law_wish") rfl) (D.def_ 54 (d := KF.dg__law_wish) rfl)) X G (fun f fd F => ok__law_wish F TX T G_law_draw) fun _ _ _ _ _ _ us hl => match us, hl with | [_, _], _ => rfl
  have G_law_region : GloOk P w K mg base CX0 2 "_law_region" ["axes", "wish"] (spD K 2 f__law_region) := GF.ok (glo_gf (st := KF.top 68) (D.fact 116 (f := .glo "_law_region") rfl) (D.def_ 55 (d := KF.dg__law_region) rfl)) X G (fun f fd F => ok__law_region F TX T G_law_cells) fun _ _ _ _ _ _ us hl => match us, hl with | [_, _], _ => rfl
  have G_law_weights : GloOk P w K mg base CX0 4 "_law_weights" ["stream", "size"] (spD K 2 f__law_weights) := GF.ok (glo_gf (st := KF.top 69) (D.fact 117 (f := .glo "_law_weights") rfl) (D.def_ 56 (d := KF.dg__law_weights) rfl)) X G (fun f fd F => ok__law_weights F TX T G_law_number) fun _ _ _ _ _ _ us hl => match us, hl with | [_, _], _ => rfl
  have G_law_at : GloOk P w K mg base CX0 4 "_law_at" ["weights", "amounts"] (spD K 2 f__law_at) := GF.ok (glo_gf (st := KF.top 70) (D.fact 118 (f := .glo "_law_at") rfl) (D.def_ 57 (d := KF.dg__law_at) rfl)) X G (fun f fd F => ok__law_at F TX T G_law_plus G_law_by) fun _ _ _ _ _ _ us hl => match us, hl with | [_, _], _ => rfl
  have G_law_given : GloOk P w K mg base CX0 5 "_law_given" ["fracs"] (spD K 1 f__law_given) := GF.ok (glo_gf (st := KF.top 71) (D.fact 119 (f := .glo "_law_given") rfl) (D.def_ 58 (d := KF.dg__law_given) rfl)) X G (fun f fd F => ok__law_given F TX T pRatio mgc_Ratio GRatio_x___init__) fun _ _ _ _ _ _ us hl => match us, hl with | [_], _ => rfl
  have G_law_asks : GloOk P w K mg base CX0 3 "_law_asks" ["told", "grid", "weights"] (spD K 3 f__law_asks) := GF.ok (glo_gf (st := KF.top 72) (D.fact 120 (f := .glo "_law_asks") rfl) (D.def_ 59 (d := KF.dg__law_asks) rfl)) X G (fun f fd F => ok__law_asks F TX T pQuestion mgc_Question NGrid BGrid GGrid_x___eq__ G_law_is) fun _ _ _ _ _ _ us hl => match us, hl with | [_, _, _], _ => rfl
  have G_law_ones : GloOk P w K mg base CX0 1 "_law_ones" ["size", "places"] (spD K 2 f__law_ones) := GF.ok (glo_gf (st := KF.top 73) (D.fact 121 (f := .glo "_law_ones") rfl) (D.def_ 60 (d := KF.dg__law_ones) rfl)) X G (fun f fd F => ok__law_ones F TX T) fun _ _ _ _ _ _ us hl => match us, hl with | [_, _], _ => rfl
  have GGrid_x___init__ : MkOk P w K mg base (He.ga K "Grid") (L2.CX P w) 6 ["self", "axes"] (spI K "Grid" 1 f_Grid_x___init__) := by
    obtain ⟨fd, F⟩ := (D.def_ 61 (d := KF.dg_Grid_x___init__) rfl)
    exact ⟨_, fd, ok_Grid_x___init__ F TX T mgc_NoGrid XNoGrid hKMOST_CELLS Gare_pairs_of_axes GNoGrid_x___init__ Gare_unlike_names Gare_members Gcells_of, ⟨(of_decide_eq_true (ex_at M 38 (f := fun K => decide (PySem.W.makesIn K (ga K "Grid") = true)) rfl)), (of_decide_eq_true (ex_at M 39 (f := fun K => decide (PySem.W.findIn K (.ref (ga K "Grid")) "__init__" = some (some (.ref (ma K (ga K "Grid") "__init__"))))) rfl)), (of_decide_eq_true (ex_at M 40 (f := fun K => decide (PySem.W.isFn K (.ref (ma K (ga K "Grid") "__init__")) = true)) rfl)), (of_decide_eq_true (ex_at M 41 (f := fun K => decide (PySem.W.keepIn K (.ref (ga K "Grid")) = true)) rfl))⟩, F.bindsN fun _ _ _ _ _ _ us hl => match us, hl with | [_, _], _ => rfl⟩
  have Gregion_beside : GloOk P w K mg base (L2.CX P w) 6 "region_beside" ["grid", "wish", "taken"] (spD K 3 f_region_beside) := GF.ok (glo_gf (st := KF.top 34) (D.fact 122 (f := .glo "region_beside") rfl) (D.def_ 62 (d := KF.dg_region_beside) rfl)) X G (fun f fd F => ok_region_beside F TX T Gwanted_members Gis_wanted) fun _ _ _ _ _ _ us hl => match us, hl with | [_, _, _], _ => rfl
  have GGrid_x_region : MthOk P w K mg base (He.ga K "Grid") (L2.CX P w) 7 "region" ["self", "wish"] (spD K 2 f_Grid_x_region) := MTF.ok (meth_mf (q := "Grid.region") (st := inClass (KF.top 29) 3) (meth_ok (D.fact 123 (f := .meth "Grid" "region") rfl)) (D.def_ 63 (d := KF.dg_Grid_x_region) rfl)) (fun f fd F => ok_Grid_x_region F TX T Gregion_beside) fun _ _ _ _ _ _ us hl => match us, hl with | [_, _], _ => rfl
  have GQuestion_x___add__ : MthOk P w K mg base (He.ga K "Question") (L2.CX P w) 8 "__add__" ["self", "other"] (spD K 2 f_Question_x___add__) := MTF.ok (meth_mf (q := "Question.__add__") (st := inClass (KF.top 48) 2) (meth_ok (D.fact 124 (f := .meth "Question" "__add__") rfl)) (D.def_ 64 (d := KF.dg_Question_x___add__) rfl)) (fun f fd F => ok_Question_x___add__ F TX T pQuestion mgc_OtherGrid mgc_Question XOtherGrid ORatio NGrid BGrid GGrid_x___eq__ GQuestion_x___init__ GRatio_x___add__) fun _ _ _ _ _ _ us hl => match us, hl with | [_, _], _ => rfl
  have GQuestion_x___sub__ : MthOk P w K mg base (He.ga K "Question") (L2.CX P w) 9 "__sub__" ["self", "other"] (spD K 2 f_Question_x___sub__) := MTF.ok (meth_mf (q := "Question.__sub__") (st := inClass (KF.top 48) 3) (meth_ok (D.fact 125 (f := .meth "Question" "__sub__") rfl)) (D.def_ 65 (d := KF.dg_Question_x___sub__) rfl)) (fun f fd F => ok_Question_x___sub__ F TX T pQuestion mgc_Question OQuestion GQuestion_x___neg__ GQuestion_x___add__) fun _ _ _ _ _ _ us hl => match us, hl with | [_, _], _ => rfl
  have GQuestion_x_over : MthOk P w K mg base (He.ga K "Question") (L2.CX P w) 8 "over" ["self", "number"] (spD K 2 f_Question_x_over) := MTF.ok (meth_mf (q := "Question.over") (st := inClass (KF.top 48) 7) (meth_ok (D.fact 126 (f := .meth "Question" "over") rfl)) (D.def_ 66 (d := KF.dg_Question_x_over) rfl)) (fun f fd F => ok_Question_x_over F TX T pQuestion pRatio mgc_Question GQuestion_x___init__ GRatio_x_over) fun _ _ _ _ _ _ us hl => match us, hl with | [_, _], _ => rfl
  have Geach_of : GloOk P w K mg base (L2.CX P w) 9 "each_of" ["grid", "axis", "wish"] (spD K 3 f_each_of) := GF.ok (glo_gf (st := KF.top 52) (D.fact 127 (f := .glo "each_of") rfl) (D.def_ 67 (d := KF.dg_each_of) rfl)) X G (fun f fd F => ok_each_of F TX T mgc_NoAxis XNoAxis Gplace_of_axis Gregion_beside Gsum_over) fun _ _ _ _ _ _ us hl => match us, hl with | [_, _, _], _ => rfl
  have Gsum_of : GloOk P w K mg base (L2.CX P w) 9 "sum_of" ["grid", "wish"] (spD K 2 f_sum_of) := GF.ok (glo_gf (st := KF.top 50) (D.fact 128 (f := .glo "sum_of") rfl) (D.def_ 68 (d := KF.dg_sum_of) rfl)) X G (fun f fd F => ok_sum_of F TX T pGrid Gsum_over GGrid_x_region) fun _ _ _ _ _ _ us hl => match us, hl with | [_, _], _ => rfl
  have Gnothing_of : GloOk P w K mg base (L2.CX P w) 9 "nothing_of" ["grid"] (spD K 1 f_nothing_of) := GF.ok (glo_gf (st := KF.top 51) (D.fact 129 (f := .glo "nothing_of") rfl) (D.def_ 69 (d := KF.dg_nothing_of) rfl)) X G (fun f fd F => ok_nothing_of F TX T Gsum_over) fun _ _ _ _ _ _ us hl => match us, hl with | [_], _ => rfl
  have G_law_parted : GloOk P w K mg base CX0 10 "_law_parted" ["grid", "axis", "wish"] (spD K 3 f__law_parted) := GF.ok (glo_gf (st := KF.top 74) (D.fact 130 (f := .glo "_law_parted") rfl) (D.def_ 70 (d := KF.dg__law_parted) rfl)) X G (fun f fd F => ok__law_parted F TX T mgc_NoAxis mgc_NoWish mgc_ToldError ER FNoAxis FNoWish Geach_of) fun _ _ _ _ _ _ us hl => match us, hl with | [_, _, _], _ => rfl
  have G_law_summed : GloOk P w K mg base CX0 10 "_law_summed" ["grid", "wish"] (spD K 2 f__law_summed) := GF.ok (glo_gf (st := KF.top 75) (D.fact 131 (f := .glo "_law_summed") rfl) (D.def_ 71 (d := KF.dg__law_summed) rfl)) X G (fun f fd F => ok__law_summed F TX T mgc_NoWish ER FNoWish Gsum_of) fun _ _ _ _ _ _ us hl => match us, hl with | [_, _], _ => rfl
  have G_law_right : GloOk P w K mg base CX0 11 "_law_right" ["grid", "axes", "wish", "axis", "amounts"] (spD K 5 f__law_right) := GF.ok (glo_gf (st := KF.top 76) (D.fact 132 (f := .glo "_law_right") rfl) (D.def_ 72 (d := KF.dg__law_right) rfl)) X G (fun f fd F => ok__law_right F TX T pQuestion OQuestion G_law_region G_law_asks G_law_ones Gsum_of G_law_parted Gnothing_of G_law_is G_law_at GQuestion_x_at G_law_given GQuestion_x___add__ Geach_of GQuestion_x___eq__) fun _ _ _ _ _ _ us hl => match us, hl with | [_, _, _, _, _], _ => rfl
  have G_law_left_out : GloOk P w K mg base CX0 10 "_law_left_out" ["grid", "axes", "wish"] (spD K 3 f__law_left_out) := GF.ok (glo_gf (st := KF.top 77) (D.fact 133 (f := .glo "_law_left_out") rfl) (D.def_ 73 (d := KF.dg__law_left_out) rfl)) X G (fun f fd F => ok__law_left_out F TX T OQuestion Gsum_of GQuestion_x___sub__ GQuestion_x___eq__) fun _ _ _ _ _ _ us hl => match us, hl with | [_, _, _], _ => rfl
  exact ok_law FL TX T pGrid pQuestion mgc_Grid G_law_stream G_law_axes GGrid_x___init__ GQuestion_x_is_nothing Gnothing_of G_law_asks G_law_ones G_law_wish G_law_draw G_law_left_out G_law_right G_law_weights G_law_summed G_law_parted
end DL

set_option Elab.async false
set_option linter.all false
set_option maxRecDepth 100000
set_option maxHeartbeats 0
open PySem PySem.W PySem.Calls PyProof.Rows
theorem PySem.Challenge.cw_toldwithin_k08_whole_sums_over_regions_holds : PySem.Challenge.rw_toldwithin_k08_whole_sums_over_regions.Holds := by
  w_on; o_law
  refine HandSHeadRun.head_imp (r := OpenLaw.row PySem.Challenge.rw_toldwithin_k08_whole_sums_over_regions) (q := view (OpenLaw.row PySem.Challenge.rw_toldwithin_k08_whole_sums_over_regions).prog [0, 78]) (H := KF.hk) (ob := KF.ob) (M := 20000) (loose := KF.loose) (d := HandSHeadRun.topDef (OpenLaw.row PySem.Challenge.rw_toldwithin_k08_whole_sums_over_regions).prog 78) (kwd := []) KF.ob_eq
    KF.run (by kernel_rfl) (by kernel_rfl) (by kernel_rfl) (by rfl) (by first | assumption | decide +kernel) (by decide +kernel) ⟨rfl, rfl, rfl, rfl, rfl, by decide +kernel⟩ ?hw ?hc
  case hw => w_witness2
  case hc =>
    refine L2.walk_ofE (l := PySem.Challenge.rw_toldwithin_k08_whole_sums_over_regions) (n := 63) (k := 12) (x := "script") (CX := L2.CX0) rfl (by decide) (by kernel_rfl) ⟨rfl, by decide, by decide⟩ ?F (fun _ _ _ _ z => z)
    intro w mg fa h Y G hmg0
    obtain ⟨K, KX, c⟩ := Y
    have hmg : mg ("law" : PySem.Str) = some (.ref fa) := by
      have e : (HandSHeadRun.topDef (OpenLaw.row PySem.Challenge.rw_toldwithin_k08_whole_sums_over_regions).prog 78).name = ("law" : PySem.Str) := by kernel_rfl
      rw [← e]
      exact hmg0
    obtain ⟨fd, hb, hF⟩ := DL.facts (P := (PySem.Challenge.rw_toldwithin_k08_whole_sums_over_regions).prog) (w := w) KX G hmg c
    exact ⟨K, fd, DL.spD K 1 DL.f_law, KX, hb, fun H a ns hl _ hS => DL.law_sp hS fun Q Ed k => DL.w_law hl k, hF⟩
