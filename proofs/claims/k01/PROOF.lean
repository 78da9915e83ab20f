import PyProof.Rows.All
import Wide.All
import OpenK.AllK
import Wide.FinOn
import HandS.Words
import HandS.WordsExc
import HandS.Defaults
import HandS.Head0
import HandS.Head1
import HandS.Head2
import HandS.HeadEnd
import HandS.HeadHook1
import HandS.HeadHook2
import HandS.HeadHook3
import HandS.HeadHook4
import HandS.Ends
import HandS.Exc
import KE.KExcIs
import HandS.ExcIs
import HandS.ExcInit
import HandS.ExcField
import HandS.ExcValue
import HandS.Small
import PyProof.ReprRoads
import PyProof.CallFns
import HandS.IsInst
import HandS.Wide
import HandS.WordsList
import HandS.TryOnly
import HandS.MakeKw
import HandS.Comp
import HandS.Text
import HandS.Walk
import HandS.Steps
import HandS.Dict
import HandS.Star
import HandS.StrMore
import HandS.FStr
import PySem.Challenge.RW_toldwithin_k01_errors_of_the_package
set_option Elab.async false
set_option linter.all false
set_option maxRecDepth 100000
set_option maxHeartbeats 0
/-! law k01: the run of the top, and the facts that are asked of what it leaves -/
namespace K1
open PySem PySem.Spec PyProof.Rows L2 He
def top (i : Nat) : Stmt := PySem.Challenge.pw_toldwithin_k01_errors_of_the_package.main.body.getD i (.Pass ⟨0, 0, 0, 0⟩)
abbrev sStream : Stmt := top 40
abbrev sDraw : Stmt := top 41
abbrev sMA : Stmt := top 42
abbrev sMB : Stmt := top 43
abbrev sMC : Stmt := top 44
abbrev sMD : Stmt := top 45
abbrev sMade : Stmt := top 46
abbrev sField : Stmt := top 47
abbrev sKinds : Stmt := top 48
abbrev sRows : Stmt := top 49
abbrev sLaw : Stmt := top 50
abbrev st0 : Stmt := inClass (top 2) 1
abbrev si0 : Stmt := inClass (top 2) 0
abbrev st1 : Stmt := inClass (top 3) 1
abbrev si1 : Stmt := inClass (top 3) 0
abbrev st2 : Stmt := inClass (top 4) 0
abbrev st3 : Stmt := inClass (top 5) 1
abbrev si3 : Stmt := inClass (top 5) 0
abbrev st4 : Stmt := inClass (top 6) 0
abbrev st5 : Stmt := inClass (top 7) 1
abbrev si5 : Stmt := inClass (top 7) 0
abbrev st6 : Stmt := inClass (top 8) 0
abbrev st7 : Stmt := inClass (top 9) 0
abbrev st8 : Stmt := inClass (top 10) 1
abbrev si8 : Stmt := inClass (top 10) 0
abbrev st9 : Stmt := inClass (top 11) 1
abbrev si9 : Stmt := inClass (top 11) 0
abbrev st10 : Stmt := inClass (top 12) 1
abbrev si10 : Stmt := inClass (top 12) 0
abbrev st11 : Stmt := inClass (top 13) 1
abbrev si11 : Stmt := inClass (top 13) 0
abbrev st12 : Stmt := inClass (top 14) 1
abbrev si12 : Stmt := inClass (top 14) 0
abbrev st13 : Stmt := inClass (top 15) 1
abbrev si13 : Stmt := inClass (top 15) 0
abbrev st14 : Stmt := inClass (top 16) 1
abbrev si14 : Stmt := inClass (top 16) 0
abbrev st15 : Stmt := inClass (top 17) 1
abbrev si15 : Stmt := inClass (top 17) 0
abbrev st16 : Stmt := inClass (top 18) 1
abbrev si16 : Stmt := inClass (top 18) 0
abbrev st17 : Stmt := inClass (top 19) 0
abbrev st18 : Stmt := inClass (top 20) 0
abbrev st19 : Stmt := inClass (top 21) 0
abbrev st20 : Stmt := inClass (top 22) 0
abbrev st21 : Stmt := inClass (top 23) 0
abbrev st22 : Stmt := inClass (top 24) 0
abbrev st23 : Stmt := inClass (top 25) 0
abbrev st24 : Stmt := inClass (top 26) 0
abbrev st25 : Stmt := inClass (top 27) 1
abbrev si25 : Stmt := inClass (top 27) 0
abbrev st26 : Stmt := inClass (top 28) 1
abbrev si26 : Stmt := inClass (top 28) 0
abbrev st27 : Stmt := inClass (top 29) 1
abbrev si27 : Stmt := inClass (top 29) 0
abbrev st28 : Stmt := inClass (top 30) 0
abbrev st29 : Stmt := inClass (top 31) 1
abbrev si29 : Stmt := inClass (top 31) 0
abbrev st30 : Stmt := inClass (top 32) 0
abbrev st31 : Stmt := inClass (top 33) 0
abbrev st32 : Stmt := inClass (top 34) 0
abbrev st33 : Stmt := inClass (top 35) 1
abbrev si33 : Stmt := inClass (top 35) 0
abbrev st34 : Stmt := inClass (top 36) 0
abbrev st35 : Stmt := inClass (top 37) 1
abbrev si35 : Stmt := inClass (top 37) 0
abbrev st36 : Stmt := inClass (top 38) 1
abbrev si36 : Stmt := inClass (top 38) 0
abbrev st37 : Stmt := inClass (top 1) 0
abbrev veMro : List Value := [.type "ValueError", .type "Exception", .type "BaseException", .type "object"]
/-- the class that stands at C, its line bm -/
def clsB (K : PySem.W.Frag) (C : Addr) (bm : List Value) : Bool := match K.lookup C with
  | some ⟨cl, _, .cls cd, sl⟩ => decide (cl = .type "type") && (decide (cd.mro = .ref C :: bm) && (cd.hasDict && (!cd.hasDel && (match sl.toList with
      | [_, _, _, _, some (.builtin n), _] => decide (n = "ValueError.__new__")
      | _ => false))))
  | _ => false
def baseB (K : PySem.W.Frag) (nm : Str) (bm : List Value) : Bool :=
  eqO (PySem.W.nsIn K mainGlobals nm) (some (some (.ref (ga K nm)))) && (eqO (PySem.W.findIn K (.ref (ga K nm)) "__getattribute__") (some (some (.builtin "BaseException.__getattribute__"))) && (eqO (PySem.W.findIn K (.ref (ga K nm)) "__getattr__") (some none) &&
  (decide (PySem.W.subIn K (.ref (ga K nm)) (.type "BaseException") = some true) && (PySem.W.hasDictIn K (ga K nm) && (eqO (PySem.W.findIn K (.ref (ga K nm)) "__class__") (some (some (.builtin "object.__class__"))) && (decide (PySem.W.mroIn K (ga K nm) (.type "object") = some true) &&
  (PySem.W.isClsIn K (ga K nm) && (decide (PySem.W.typeIn K (.ref (ga K nm)) = some (.type "type")) && (PySem.W.keepIn K (.ref (ga K nm)) && (eqO (PySem.W.findIn K (.ref (ga K nm)) "told") (some (some (.ref (ma K (ga K nm) "told")))) && (PySem.W.isFn K (.ref (ma K (ga K nm) "told")) && clsB K (ga K nm) bm)))))))))))
def zeroB (K : PySem.W.Frag) (nm : Str) (bm : List Value) : Bool := baseB K nm bm && PySem.W.excIn K (ga K nm) veMro "ValueError.__new__"
def iniB (K : PySem.W.Frag) (nm : Str) : Bool := eqO (PySem.W.findIn K (.ref (ga K nm)) "__setattr__") (some (some (.builtin "object.__setattr__"))) && (eqO (PySem.W.findIn K (.ref (ga K nm)) "__init__") (some (some (.ref (ma K (ga K nm) "__init__")))) && decide (PySem.W.typeIn K (.ref (ma K (ga K nm) "__init__")) = some (.type "function")))
def noB (K : PySem.W.Frag) (nm f : Str) : Bool := eqO (PySem.W.findIn K (.ref (ga K nm)) f) (some none)
def oneB (K : PySem.W.Frag) (nm f : Str) (bm : List Value) : Bool := baseB K nm bm && (iniB K nm && noB K nm f)
def twoB (K : PySem.W.Frag) (nm f g : Str) (bm : List Value) : Bool := baseB K nm bm && (iniB K nm && (noB K nm f && noB K nm g))
def objB (K : PySem.W.Frag) : Bool := eqO (PySem.W.specialIn K (.builtin "object.__class__") "__get__") (some (some (.builtin "getset_descriptor.__get__"))) && decide (PySem.W.takesIn K (.builtin "object.__class__") = some true)
def apB (K : PySem.W.Frag) : Bool := decide ([ga K "NoRatio", ga K "NoGrid", ga K "NoCell", ga K "NoWish", ga K "NoAxis", ga K "NoQuestion", ga K "NoAmounts", ga K "OtherGrid", ga K "NoExpression", ga K "BadText", ga K "NoMeaning", ga K "NoEntry", ga K "NoBook", ga K "SameTime", ga K "SameName", ga K "TooMany", ga K "NoName", ga K "NoTime", ga K "NoHistory", ga K "NoWeights", ga K "NoSide", ga K "NoNumber", ga K "Clash", ga K "Endless", ga K "NoCount", ga K "NoOffer", ga K "NoGoal", ga K "NoOffers", ga K "NoChoice", ga K "NoGoals", ga K "NoUndo", ga K "NoRedo", ga K "NoNames", ga K "NoQuestions", ga K "NoLine", ga K "Conflicted", ga K "BadLine", ga K "ToldError"] : List Addr).Nodup
def ck0 : PySem.W.Frag → Bool := fun K => oneB K "NoRatio" "word" (.ref (ga K "ToldError") :: veMro)
def ck1 : PySem.W.Frag → Bool := fun K => oneB K "NoGrid" "word" (.ref (ga K "ToldError") :: veMro)
def ck2 : PySem.W.Frag → Bool := fun K => zeroB K "NoCell" (.ref (ga K "ToldError") :: veMro)
def ck3 : PySem.W.Frag → Bool := fun K => twoB K "NoWish" "place" "word" (.ref (ga K "ToldError") :: veMro)
def ck4 : PySem.W.Frag → Bool := fun K => zeroB K "NoAxis" (.ref (ga K "ToldError") :: veMro)
def ck5 : PySem.W.Frag → Bool := fun K => oneB K "NoQuestion" "word" (.ref (ga K "ToldError") :: veMro)
def ck6 : PySem.W.Frag → Bool := fun K => zeroB K "NoAmounts" (.ref (ga K "ToldError") :: veMro)
def ck7 : PySem.W.Frag → Bool := fun K => zeroB K "OtherGrid" (.ref (ga K "ToldError") :: veMro)
def ck8 : PySem.W.Frag → Bool := fun K => oneB K "NoExpression" "word" (.ref (ga K "ToldError") :: veMro)
def ck9 : PySem.W.Frag → Bool := fun K => oneB K "BadText" "place" (.ref (ga K "ToldError") :: veMro)
def ck10 : PySem.W.Frag → Bool := fun K => oneB K "NoMeaning" "word" (.ref (ga K "ToldError") :: veMro)
def ck11 : PySem.W.Frag → Bool := fun K => oneB K "NoEntry" "word" (.ref (ga K "ToldError") :: veMro)
def ck12 : PySem.W.Frag → Bool := fun K => oneB K "NoBook" "word" (.ref (ga K "ToldError") :: veMro)
def ck13 : PySem.W.Frag → Bool := fun K => oneB K "SameTime" "time" (.ref (ga K "ToldError") :: veMro)
def ck14 : PySem.W.Frag → Bool := fun K => oneB K "SameName" "name" (.ref (ga K "ToldError") :: veMro)
def ck15 : PySem.W.Frag → Bool := fun K => oneB K "TooMany" "most" (.ref (ga K "ToldError") :: veMro)
def ck16 : PySem.W.Frag → Bool := fun K => oneB K "NoName" "name" (.ref (ga K "ToldError") :: veMro)
def ck17 : PySem.W.Frag → Bool := fun K => zeroB K "NoTime" (.ref (ga K "ToldError") :: veMro)
def ck18 : PySem.W.Frag → Bool := fun K => zeroB K "NoHistory" (.ref (ga K "ToldError") :: veMro)
def ck19 : PySem.W.Frag → Bool := fun K => zeroB K "NoWeights" (.ref (ga K "ToldError") :: veMro)
def ck20 : PySem.W.Frag → Bool := fun K => zeroB K "NoSide" (.ref (ga K "ToldError") :: veMro)
def ck21 : PySem.W.Frag → Bool := fun K => zeroB K "NoNumber" (.ref (ga K "ToldError") :: veMro)
def ck22 : PySem.W.Frag → Bool := fun K => zeroB K "Clash" (.ref (ga K "ToldError") :: veMro)
def ck23 : PySem.W.Frag → Bool := fun K => zeroB K "Endless" (.ref (ga K "ToldError") :: veMro)
def ck24 : PySem.W.Frag → Bool := fun K => zeroB K "NoCount" (.ref (ga K "ToldError") :: veMro)
def ck25 : PySem.W.Frag → Bool := fun K => oneB K "NoOffer" "word" (.ref (ga K "ToldError") :: veMro)
def ck26 : PySem.W.Frag → Bool := fun K => oneB K "NoGoal" "word" (.ref (ga K "ToldError") :: veMro)
def ck27 : PySem.W.Frag → Bool := fun K => oneB K "NoOffers" "place" (.ref (ga K "ToldError") :: veMro)
def ck28 : PySem.W.Frag → Bool := fun K => zeroB K "NoChoice" (.ref (ga K "ToldError") :: veMro)
def ck29 : PySem.W.Frag → Bool := fun K => oneB K "NoGoals" "place" (.ref (ga K "ToldError") :: veMro)
def ck30 : PySem.W.Frag → Bool := fun K => zeroB K "NoUndo" (.ref (ga K "ToldError") :: veMro)
def ck31 : PySem.W.Frag → Bool := fun K => zeroB K "NoRedo" (.ref (ga K "ToldError") :: veMro)
def ck32 : PySem.W.Frag → Bool := fun K => zeroB K "NoNames" (.ref (ga K "ToldError") :: veMro)
def ck33 : PySem.W.Frag → Bool := fun K => oneB K "NoQuestions" "place" (.ref (ga K "ToldError") :: veMro)
def ck34 : PySem.W.Frag → Bool := fun K => zeroB K "NoLine" (.ref (ga K "ToldError") :: veMro)
def ck35 : PySem.W.Frag → Bool := fun K => twoB K "Conflicted" "kind" "what" (.ref (ga K "ToldError") :: veMro)
def ck36 : PySem.W.Frag → Bool := fun K => twoB K "BadLine" "place" "word" (.ref (ga K "ToldError") :: veMro)
def ck37 : PySem.W.Frag → Bool := fun K => zeroB K "ToldError" veMro
def cks1 : List (PySem.W.Frag → Bool) := [objB, apB, ck0, ck1, ck2, ck3, ck4, ck5, ck6, ck7, ck8, ck9, ck10, ck11, ck12, ck13, ck14, ck15, ck16, ck17, ck18]
def cks2 : List (PySem.W.Frag → Bool) := [ck19, ck20, ck21, ck22, ck23, ck24, ck25, ck26, ck27, ck28, ck29, ck30, ck31, ck32, ck33, ck34, ck35, ck36, ck37]
def ex (K : PySem.W.Frag) : Bool := (cks1.all fun f => f K) && cks2.all fun f => f K
def dg_sStream : DefD := ⟨("_law_stream", none), "_law_stream", "_law_stream", defArgs sStream, defBody sStream, defScope sStream, [], []⟩
def dg_sDraw : DefD := ⟨("_law_draw", none), "_law_draw", "_law_draw", defArgs sDraw, defBody sDraw, defScope sDraw, [], []⟩
def dg_sMA : DefD := ⟨("_law_made_a", none), "_law_made_a", "_law_made_a", defArgs sMA, defBody sMA, defScope sMA, [], []⟩
def dg_sMB : DefD := ⟨("_law_made_b", none), "_law_made_b", "_law_made_b", defArgs sMB, defBody sMB, defScope sMB, [], []⟩
def dg_sMC : DefD := ⟨("_law_made_c", none), "_law_made_c", "_law_made_c", defArgs sMC, defBody sMC, defScope sMC, [], []⟩
def dg_sMD : DefD := ⟨("_law_made_d", none), "_law_made_d", "_law_made_d", defArgs sMD, defBody sMD, defScope sMD, [], []⟩
def dg_sMade : DefD := ⟨("_law_made", none), "_law_made", "_law_made", defArgs sMade, defBody sMade, defScope sMade, [], []⟩
def dg_sField : DefD := ⟨("_law_field", none), "_law_field", "_law_field", defArgs sField, defBody sField, defScope sField, [], []⟩
def dg_sKinds : DefD := ⟨("_law_kinds", none), "_law_kinds", "_law_kinds", defArgs sKinds, defBody sKinds, defScope sKinds, [], []⟩
def dg_sRows : DefD := ⟨("_law_rows", none), "_law_rows", "_law_rows", defArgs sRows, defBody sRows, defScope sRows, [], []⟩
def dg_sLaw : DefD := ⟨("law", none), "law", "law", defArgs sLaw, defBody sLaw, defScope sLaw, [], []⟩
def dt0 : DefD := ⟨("NoRatio", some "told"), "told", "NoRatio.told", defArgs st0, defBody st0, defScope st0, [], []⟩
def di0 : DefD := ⟨("NoRatio", some "__init__"), "__init__", "NoRatio.__init__", defArgs si0, defBody si0, defScope si0, [], []⟩
def dt1 : DefD := ⟨("NoGrid", some "told"), "told", "NoGrid.told", defArgs st1, defBody st1, defScope st1, [], []⟩
def di1 : DefD := ⟨("NoGrid", some "__init__"), "__init__", "NoGrid.__init__", defArgs si1, defBody si1, defScope si1, [], []⟩
def dt2 : DefD := ⟨("NoCell", some "told"), "told", "NoCell.told", defArgs st2, defBody st2, defScope st2, [], []⟩
def dt3 : DefD := ⟨("NoWish", some "told"), "told", "NoWish.told", defArgs st3, defBody st3, defScope st3, [], []⟩
def di3 : DefD := ⟨("NoWish", some "__init__"), "__init__", "NoWish.__init__", defArgs si3, defBody si3, defScope si3, [], []⟩
def dt4 : DefD := ⟨("NoAxis", some "told"), "told", "NoAxis.told", defArgs st4, defBody st4, defScope st4, [], []⟩
def dt5 : DefD := ⟨("NoQuestion", some "told"), "told", "NoQuestion.told", defArgs st5, defBody st5, defScope st5, [], []⟩
def di5 : DefD := ⟨("NoQuestion", some "__init__"), "__init__", "NoQuestion.__init__", defArgs si5, defBody si5, defScope si5, [], []⟩
def dt6 : DefD := ⟨("NoAmounts", some "told"), "told", "NoAmounts.told", defArgs st6, defBody st6, defScope st6, [], []⟩
def dt7 : DefD := ⟨("OtherGrid", some "told"), "told", "OtherGrid.told", defArgs st7, defBody st7, defScope st7, [], []⟩
def dt8 : DefD := ⟨("NoExpression", some "told"), "told", "NoExpression.told", defArgs st8, defBody st8, defScope st8, [], []⟩
def di8 : DefD := ⟨("NoExpression", some "__init__"), "__init__", "NoExpression.__init__", defArgs si8, defBody si8, defScope si8, [], []⟩
def dt9 : DefD := ⟨("BadText", some "told"), "told", "BadText.told", defArgs st9, defBody st9, defScope st9, [], []⟩
def di9 : DefD := ⟨("BadText", some "__init__"), "__init__", "BadText.__init__", defArgs si9, defBody si9, defScope si9, [], []⟩
def dt10 : DefD := ⟨("NoMeaning", some "told"), "told", "NoMeaning.told", defArgs st10, defBody st10, defScope st10, [], []⟩
def di10 : DefD := ⟨("NoMeaning", some "__init__"), "__init__", "NoMeaning.__init__", defArgs si10, defBody si10, defScope si10, [], []⟩
def dt11 : DefD := ⟨("NoEntry", some "told"), "told", "NoEntry.told", defArgs st11, defBody st11, defScope st11, [], []⟩
def di11 : DefD := ⟨("NoEntry", some "__init__"), "__init__", "NoEntry.__init__", defArgs si11, defBody si11, defScope si11, [], []⟩
def dt12 : DefD := ⟨("NoBook", some "told"), "told", "NoBook.told", defArgs st12, defBody st12, defScope st12, [], []⟩
def di12 : DefD := ⟨("NoBook", some "__init__"), "__init__", "NoBook.__init__", defArgs si12, defBody si12, defScope si12, [], []⟩
def dt13 : DefD := ⟨("SameTime", some "told"), "told", "SameTime.told", defArgs st13, defBody st13, defScope st13, [], []⟩
def di13 : DefD := ⟨("SameTime", some "__init__"), "__init__", "SameTime.__init__", defArgs si13, defBody si13, defScope si13, [], []⟩
def dt14 : DefD := ⟨("SameName", some "told"), "told", "SameName.told", defArgs st14, defBody st14, defScope st14, [], []⟩
def di14 : DefD := ⟨("SameName", some "__init__"), "__init__", "SameName.__init__", defArgs si14, defBody si14, defScope si14, [], []⟩
def dt15 : DefD := ⟨("TooMany", some "told"), "told", "TooMany.told", defArgs st15, defBody st15, defScope st15, [], []⟩
def di15 : DefD := ⟨("TooMany", some "__init__"), "__init__", "TooMany.__init__", defArgs si15, defBody si15, defScope si15, [], []⟩
def dt16 : DefD := ⟨("NoName", some "told"), "told", "NoName.told", defArgs st16, defBody st16, defScope st16, [], []⟩
def di16 : DefD := ⟨("NoName", some "__init__"), "__init__", "NoName.__init__", defArgs si16, defBody si16, defScope si16, [], []⟩
def dt17 : DefD := ⟨("NoTime", some "told"), "told", "NoTime.told", defArgs st17, defBody st17, defScope st17, [], []⟩
def dt18 : DefD := ⟨("NoHistory", some "told"), "told", "NoHistory.told", defArgs st18, defBody st18, defScope st18, [], []⟩
def dt19 : DefD := ⟨("NoWeights", some "told"), "told", "NoWeights.told", defArgs st19, defBody st19, defScope st19, [], []⟩
def dt20 : DefD := ⟨("NoSide", some "told"), "told", "NoSide.told", defArgs st20, defBody st20, defScope st20, [], []⟩
def dt21 : DefD := ⟨("NoNumber", some "told"), "told", "NoNumber.told", defArgs st21, defBody st21, defScope st21, [], []⟩
def dt22 : DefD := ⟨("Clash", some "told"), "told", "Clash.told", defArgs st22, defBody st22, defScope st22, [], []⟩
def dt23 : DefD := ⟨("Endless", some "told"), "told", "Endless.told", defArgs st23, defBody st23, defScope st23, [], []⟩
def dt24 : DefD := ⟨("NoCount", some "told"), "told", "NoCount.told", defArgs st24, defBody st24, defScope st24, [], []⟩
def dt25 : DefD := ⟨("NoOffer", some "told"), "told", "NoOffer.told", defArgs st25, defBody st25, defScope st25, [], []⟩
def di25 : DefD := ⟨("NoOffer", some "__init__"), "__init__", "NoOffer.__init__", defArgs si25, defBody si25, defScope si25, [], []⟩
def dt26 : DefD := ⟨("NoGoal", some "told"), "told", "NoGoal.told", defArgs st26, defBody st26, defScope st26, [], []⟩
def di26 : DefD := ⟨("NoGoal", some "__init__"), "__init__", "NoGoal.__init__", defArgs si26, defBody si26, defScope si26, [], []⟩
def dt27 : DefD := ⟨("NoOffers", some "told"), "told", "NoOffers.told", defArgs st27, defBody st27, defScope st27, [], []⟩
def di27 : DefD := ⟨("NoOffers", some "__init__"), "__init__", "NoOffers.__init__", defArgs si27, defBody si27, defScope si27, [], []⟩
def dt28 : DefD := ⟨("NoChoice", some "told"), "told", "NoChoice.told", defArgs st28, defBody st28, defScope st28, [], []⟩
def dt29 : DefD := ⟨("NoGoals", some "told"), "told", "NoGoals.told", defArgs st29, defBody st29, defScope st29, [], []⟩
def di29 : DefD := ⟨("NoGoals", some "__init__"), "__init__", "NoGoals.__init__", defArgs si29, defBody si29, defScope si29, [], []⟩
def dt30 : DefD := ⟨("NoUndo", some "told"), "told", "NoUndo.told", defArgs st30, defBody st30, defScope st30, [], []⟩
def dt31 : DefD := ⟨("NoRedo", some "told"), "told", "NoRedo.told", defArgs st31, defBody st31, defScope st31, [], []⟩
def dt32 : DefD := ⟨("NoNames", some "told"), "told", "NoNames.told", defArgs st32, defBody st32, defScope st32, [], []⟩
def dt33 : DefD := ⟨("NoQuestions", some "told"), "told", "NoQuestions.told", defArgs st33, defBody st33, defScope st33, [], []⟩
def di33 : DefD := ⟨("NoQuestions", some "__init__"), "__init__", "NoQuestions.__init__", defArgs si33, defBody si33, defScope si33, [], []⟩
def dt34 : DefD := ⟨("NoLine", some "told"), "told", "NoLine.told", defArgs st34, defBody st34, defScope st34, [], []⟩
def dt35 : DefD := ⟨("Conflicted", some "told"), "told", "Conflicted.told", defArgs st35, defBody st35, defScope st35, [], []⟩
def di35 : DefD := ⟨("Conflicted", some "__init__"), "__init__", "Conflicted.__init__", defArgs si35, defBody si35, defScope si35, [], []⟩
def dt36 : DefD := ⟨("BadLine", some "told"), "told", "BadLine.told", defArgs st36, defBody st36, defScope st36, [], []⟩
def di36 : DefD := ⟨("BadLine", some "__init__"), "__init__", "BadLine.__init__", defArgs si36, defBody si36, defScope si36, [], []⟩
def dt37 : DefD := ⟨("ToldError", some "told"), "told", "ToldError.told", defArgs st37, defBody st37, defScope st37, [], []⟩
def fn0 : List DefD := [dg_sStream, dg_sDraw, dg_sMA, dg_sMB, dg_sMC, dg_sMD, dg_sMade, dg_sField, dg_sKinds, dg_sRows, dg_sLaw, dt0, di0, dt1, di1, dt2, dt3, di3, dt4, dt5, di5, dt6, dt7, dt8, di8, dt9, di9, dt10, di10, dt11]
def fn1 : List DefD := [di11, dt12, di12, dt13, di13, dt14, di14, dt15, di15, dt16, di16, dt17, dt18, dt19, dt20, dt21, dt22, dt23, dt24, dt25, di25, dt26, di26, dt27, di27, dt28, dt29, di29, dt30, dt31]
def fn2 : List DefD := [dt32, dt33, di33, dt34, dt35, di35, dt36, di36, dt37]
def fn : List DefD := fn0 ++ fn1 ++ fn2
def fa : List Fa := [.glo "_law_stream", .glo "_law_draw", .glo "_law_made_a", .glo "_law_made_b", .glo "_law_made_c", .glo "_law_made_d", .glo "_law_made", .glo "_law_field", .glo "_law_kinds", .glo "_law_rows", .glo "law", .free "isinstance", .free "int", .free "abs", .free "len", .free "range", .free "sum", .free "repr", .free "ValueError"]
abbrev R : PySem.W.OpenRow := PySem.W.OpenLaw.row PySem.Challenge.rw_toldwithin_k01_errors_of_the_package
abbrev hk : PySem.W.Hook := He.hookX 4 fa fn [] [] ex
def ob (s : PySem.W.SharedT) : He.AlX := He.obsX 4 fa fn [] [] ex (HandSHeadRun.getT s)
theorem ob_eq (s : PySem.W.SharedT) : ob s = hk.obs s.abs := He.obsX_eq (HandSHeadRun.getT_eq s)
def loose1 : List Str := ["__name__", "ToldError", "NoRatio", "NoGrid", "NoCell", "NoWish", "NoAxis", "NoQuestion", "NoAmounts", "OtherGrid", "NoExpression", "BadText", "NoMeaning", "NoEntry", "NoBook", "SameTime", "SameName", "TooMany", "NoName", "NoTime", "NoHistory", "NoWeights", "NoSide", "NoNumber", "Clash"]
def loose2 : List Str := ["Endless", "NoCount", "NoOffer", "NoGoal", "NoOffers", "NoChoice", "NoGoals", "NoUndo", "NoRedo", "NoNames", "NoQuestions", "NoLine", "Conflicted", "BadLine", "_law_stream", "_law_draw", "_law_made_a", "_law_made_b", "_law_made_c", "_law_made_d", "_law_made", "_law_field", "_law_kinds", "_law_rows"]
def loose : List Str := loose1 ++ loose2
theorem run (w : World) : HandSHeadRun.RunEq R (PySem.W.view R.prog [50]) hk ob 12000 loose w := by
  intro os
  kernel_rfl
end K1

set_option Elab.async false
set_option linter.all false
set_option maxRecDepth 100000
set_option maxHeartbeats 4000000
/-! defs that are run where no text of a container is being written -/
namespace L2
open PySem PySem.Spec PyProof.Rows
/-- a def's promise, kept where nothing above writes a container's text -/
structure FnG (P : Program) (w : World) (K : PySem.W.Frag) (mg : Str → Option Value) (base : Heap) (CX : CXT) (k : Nat) (f : Addr) (fd : FuncData) (ps : List Str) (sp : Sp) : Prop where
  len : ∀ vs H Q E, sp vs H Q E → vs.length = ps.length
  go : ∀ (A : Around), Room k A → A.guards = some [] → ∀ (outer : List Env) (s : Shared) (H : Hp), Env0 P w K mg base A outer s H → ∀ (args : Args) (us : List Value), BindsTo s fd args (ps.zip us) →
    ∀ vs : List V, Vals vs us → ∀ (Q : VK) (E : XK), sp vs H Q E → codeAny (model P w) A (.call (.ref f) args) (CR CX outer P w H s Q E) s
theorem FnOk.g {P : Program} {w : World} {K : PySem.W.Frag} {mg : Str → Option Value} {base : Heap} {CX : CXT} {k : Nat} {f : Addr} {fd : FuncData} {ps : List Str} {sp : Sp} (F : FnOk P w K mg base CX k f fd ps sp) : FnG P w K mg base CX k f fd ps sp :=
  ⟨F.len, fun A hr _ outer s H e0 args us hb vs r Q E h => F.run A outer s H args us vs Q E hr e0 hb r h⟩
section
variable {P : Program} {w : World} {K : PySem.W.Frag} {mg : Str → Option Value} {base : Heap} {CX : CXT} {k : Nat} {f : Addr} {N ps : List Str} {sp : Sp}
/-- .. by its body -/
theorem FunD.okG {x qual : Str} {params : Arguments} {body : List Stmt} {scope : Scope} {dvs : List V} {kws : List (Str × V)} {fd : FuncData} (F : FunD K x qual params body scope dvs kws f fd) (S : FnScope N ps scope)
    (len : ∀ vs H Q E, sp vs H Q E → vs.length = ps.length)
    (walk : ∀ (cdv : Value) (A : Around) (outer : List Env) (s : Shared) (H : Hp) (vs : List V) (Q : VK) (E : XK), Room k (A.deeper (envOfC qual scope s.heap.objs.size f cdv)) → A.guards = some [] → sp vs H Q E →
      ∃ t, PSs (cxOf CX P w K mg base N qual scope f cdv A outer s H E) body t ∧ t { nx := fun _ H' => Q .non H', rt := Q } (start N vs) H) : FnG P w K mg base CX (k + 1) f fd ps sp := by
  obtain ⟨oc, od, dV, kV, doc, pm, an, cdv, ct, osl, rfl, at_, code, _, _⟩ := F.ex
  refine ⟨len, fun A room gd outer s H env args us bd vs rv Q E h => ?_⟩
  have inK : K.In s.heap := env.mod.kin.keeps fun b o e => (env.bs b o e).1
  refine codeAny_call_function room.depth (inK _ _ at_) rfl S.co S.gen rfl (PySem.W.codeRec_of inK code) (bd _ _ _ _ ?_)
  have kinds : ∀ y ∈ ps.zip us, scope.names.lookup y.1 = some .local ∨ (scope.names.lookup y.1 = some .cell ∧ ((cellsFrom (s.heap.objs.size + 1) scope.names []).lookup y.1).isSome = true) := by
    rintro ⟨n, v⟩ hy
    exact (S.par n (List.of_mem_zip hy).1).imp id fun q => ⟨q, PySem.W.cellsFrom_some _ _ _ (.inl q)⟩
  refine wpAny_newFunctionEnv_cells S.kind kinds fun e' he s1 inc => ?_
  subst he
  obtain ⟨t, body_, hq⟩ := walk cdv A outer s H vs Q E (room.deeper _) gd h
  refine ⟨(env.mod.nolimit.keeps fun b o e => (env.bs b o e).1).keeps inc.toInCall.keep, codeAny_func (wpAny_mono (body_.run [] s1 (start N vs) H _ (inv_start S room.hd env (len _ _ _ _ h) rv inc) hq) (fun fl s' hs => ?_) fun _ _ z => z)⟩
  match fl, hs with
  | .ret u, hs =>
    obtain ⟨v, σ', H', J, r1, q1⟩ := hs
    exact ⟨v, H', J.os, J.bare, J.base, J.hok, r1, q1⟩
  | .next, hs =>
    obtain ⟨σ', H', J, q1⟩ := hs
    exact ⟨V.non, H', J.os, J.bare, J.base, J.hok, rfl, q1⟩
  | .brk, hs =>
    obtain ⟨_, _, _, q1⟩ := hs
    exact q1.elim
  | .cont, hs =>
    obtain ⟨_, _, _, q1⟩ := hs
    exact q1.elim
end
section
variable {X : Cx} {CX : CXT} {k : Nat} {f : Addr} {fd : FuncData} {ps : List Str} {sp : Sp} {dvs : List V} {ds : List Value} {E : XK} {x : Str} {p pos : Pos} {e : Expr} {es : List Expr} {t : TA}
/-- f(e, ..) -/
theorem pe_callG (F : FnG X.prog X.w X.K X.mg X.base CX k f fd ps sp) (hr : Room k X.A) (gd : X.A.guards = some []) (hg : Gl X x) (hm : X.mg x = some (.ref f)) (hk : PySem.W.keepIn X.K (.ref f) = true) (hb : Binds X.K fd ps ds) (hd : Vals dvs ds) (hx : Passes CX X E)
    (ha : PA X (e :: es) t) (hdb : (x == ("__debug__" : Str)) = false := by decide) (he : starEach (e :: es) X.env = (false, eval e X.env) :: starEach es X.env := by rfl) (hpl : (backTo pos (starEach es X.env)).any (·.1) = false := by rfl) :
    PE X (.Call (.Name x p) (e :: es) [] pos) (tCall sp dvs E t) := by
  constructor
  intro pins s σ H Q I h
  refine wpAny_Call_Name_kw (ld_glob I hg hm (PySem.W.callWith_K (h₀ := X.base) I.ok.mod.kin hk (thn (ha.run pos pins s σ H _ I h) fun us s1 hh => ?_) he hpl) hdb)
  obtain ⟨vs, H1, I1, r, q⟩ := hh
  have ll : (us ++ ds).length = ps.length := by
    rw [← (r.append hd).length]
    exact F.len _ _ _ _ q
  refine ⟨I1.kIn, wpAny_call (codeAny_mono (F.go X.A hr gd X.stack s1 H1 I1.env0 ⟨us, []⟩ (us ++ ds) (hb s1 us I1.kIn ll) (vs ++ dvs) (r.append hd) Q E q) fun res s' z => ?_)⟩
  match res, z with
  | .error er, z => exact hx pins σ H1 s1 er s' I1 z
  | .ok (.ret u), z => exact I1.after z
  | .ok .next, z => exact z.elim
  | .ok .brk, z => exact z.elim
  | .ok .cont, z => exact z.elim
end
end L2

set_option Elab.async false
set_option linter.all false
set_option maxRecDepth 100000
set_option maxHeartbeats 4000000
/-! the end of a law whose def is promised so -/
namespace L2
open PySem PySem.Spec PyProof.Rows
section
variable {P : Program} {w : World} {K : PySem.W.Frag} {mg mb : Str → Option Value} {CX : CXT} {k : Nat} {fa a : Addr} {fd : FuncData} {x : Str} {sp : Sp} {s₁ : Shared} {vs : List Value} {ns : List Int} {H : Hp}
/-- what a law's call must come to -/
abbrev LawEnd (s₁ : Shared) : Result → Shared → Prop := fun r s' => r = .ok (.ret (.bool true)) ∧ OldK s₁.heap s'.heap ∧ s'.os = s₁.os ∧ AllBare s'.gens
/-- .. where at most the script is tracked -/
theorem law_from (KX : K.In s₁.heap) (hns : s₁.heap.Ns mainGlobals mg) (hb : s₁.heap.Ns builtinsNs mb) (hbb : ∀ x : Str, x ≠ "__name__" → mb x = bootBuiltins x) (hlim : s₁.heap.NoLimit) (hg : s₁.gens = #[])
    (ha : s₁.heap.get? a = some { cls := .type "list", data := .seq vs.toArray }) (hr : Room k callerA)
    (F : ∀ base : Heap, K.In base → base.Ns mainGlobals mg → FnG P w K mg base CX k fa fd [x] sp) (hbind : ∀ (s : Shared) (u : Value), BindsTo s fd ⟨[u], []⟩ [(x, u)])
    (hsp : sp [.ref a] H (fun v _ => v = .bl true) fun _ _ _ => False) (hCX : ∀ e s', CX [] H s₁ (fun _ _ _ => False) e s' → False)
    (only : ∀ b, H b = none ∨ (b = a ∧ K.lookup a = none ∧ ∃ o ys, H b = some (.frz o (.lst ys)))) (ok : HOk P w H s₁.heap) :
    codeAny (model P w) callerA (.call (.ref fa) ⟨[.ref a], []⟩) (LawEnd s₁) s₁ := by
  have apart : ∀ {b : Addr} {o : Obj}, s₁.heap.get? b = some o → b ≠ a → (hidT s₁.heap H).get? b = some o := fun {b o} e n => hidT_get e ((only b).resolve_right fun z => n z.1)
  have noDict : ∀ {b : Addr} {o : Obj} {es : Array DictEntry} {ep : Nat}, s₁.heap.get? b = some o → o.data = .dict es ep → b ≠ a := fun {b o es ep} e d z => by
    rw [z, ha] at e
    cases e
    exact absurd (show Data.seq vs.toArray 0 = Data.dict es ep from d) (by intro y; cases y)
  have names : ∀ {b : Addr} {m : Str → Option Value}, s₁.heap.Ns b m → (hidT s₁.heap H).Ns b m := by
    rintro b m ⟨o, es, ep, e, d, r⟩
    exact ⟨o, es, ep, apart e (noDict e d), d, r⟩
  have inB : K.In (hidT s₁.heap H) := by
    intro b o e
    rcases only b with n | ⟨rfl, n, _⟩
    · exact hidT_get (KX b o e) n
    · rw [n] at e
      cases e
  have md : Mod K mg (hidT s₁.heap H) := by
    obtain ⟨mc, h1, h2⟩ := hlim
    exact ⟨inB, names hns, ⟨mb, names hb, hbb⟩, ⟨mc, names h1, h2⟩⟩
  have env : Env0 P w K mg (hidT s₁.heap H) callerA [] s₁ H := ⟨rfl, md, fun b o e => of_hidT e, by rw [hidT_size]; exact Nat.le_refl _, trivial, fun b h => (List.not_mem_nil h).elim, ok, .of_eq hg⟩
  refine codeAny_mono ((F _ inB (names hns)).go callerA hr rfl [] s₁ H env ⟨[.ref a], []⟩ [.ref a] (hbind s₁ (.ref a)) [.ref a] (.cons rfl .nil) _ _ hsp) fun r s' z => ?_
  match r, z with
  | .error e, z => exact (hCX e s' z).elim
  | .ok .next, z => exact z.elim
  | .ok .brk, z => exact z.elim
  | .ok .cont, z => exact z.elim
  | .ok (.ret u), z =>
    obtain ⟨v, H', os, bare, un, ok', ru, rfl⟩ := z
    cases (show u = Value.bool true from ru)
    refine ⟨rfl, OldK.of_keep fun b o e => ?_, os, bare⟩
    rcases only b with n | ⟨_, _, ob, ys, f⟩
    · exact un.keep b o e n (fun h => (List.not_mem_nil h).elim) (fun h => (List.not_mem_nil h).elim)
    · obtain ⟨c1, _⟩ := ok b _ f
      obtain ⟨c2, _⟩ := ok' b _ (un.frzs b ob _ f)
      rw [e] at c1
      cases c1
      exact c2
/-- a law's call, the script a list that may be tracked -/
theorem law_runG (KX : K.In s₁.heap) (hns : s₁.heap.Ns mainGlobals mg) (hb : s₁.heap.Ns builtinsNs mb) (hbb : ∀ x : Str, x ≠ "__name__" → mb x = bootBuiltins x) (hlim : s₁.heap.NoLimit) (hg : s₁.gens = #[])
    (ha : s₁.heap.get? a = some { cls := .type "list", data := .seq vs.toArray }) (hi : IntsAre vs ns) (hl : ns.length ≤ sizeLine) (hr : Room k callerA)
    (F : ∀ base : Heap, K.In base → base.Ns mainGlobals mg → FnG P w K mg base CX k fa fd [x] sp) (hbind : ∀ (s : Shared) (u : Value), BindsTo s fd ⟨[u], []⟩ [(x, u)])
    (hsp : ∀ H : Hp, SqL K H a (ns.map V.int) → sp [.ref a] H (fun v _ => v = .bl true) fun _ _ _ => False) (hCX : ∀ H e s', CX [] H s₁ (fun _ _ _ => False) e s' → False) :
    codeAny (model P w) callerA (.call (.ref fa) ⟨[.ref a], []⟩) (LawEnd s₁) s₁ := by
  have rv := vals_ints hi
  have lv := hi.length
  have hi2 : vs.toArray.size ≤ sizeLine := by rw [List.size_toArray, lv]; exact hl
  by_cases q : K.lookup a = none
  · refine law_from (H := fun b => if b = a then some (.frz { cls := .type "list", data := .seq vs.toArray } (.lst (ns.map V.int))) else none) KX hns hb hbb hlim hg ha hr F hbind (hsp _ (.inl (.inr ⟨{ cls := .type "list", data := .seq vs.toArray }, if_pos rfl⟩))) (hCX _) (fun b => ?_) fun b u z => ?_
    · by_cases h : b = a
      · exact .inr ⟨h, q, _, _, if_pos h⟩
      · exact .inl (if_neg h)
    · by_cases h : b = a
      · have e := (if_pos h).symm.trans z
        cases e
        subst h
        exact ⟨ha, by rw [List.length_map]; exact hl, vs, _, rv, ha⟩
      · have e := (if_neg h).symm.trans z
        cases e
  · obtain ⟨o, ho⟩ := Option.ne_none_iff_exists'.mp q
    have e := KX a o ho
    rw [ha] at e
    cases e
    exact law_from (H := fun _ => none) KX hns hb hbb hlim hg ha hr F hbind (hsp _ (.inr ⟨_, vs.toArray, _, ho, rfl, rfl, rfl, hi2, rv⟩)) (hCX _) (fun _ => .inl rfl) fun b u z => by cases z
end
/-- the goal that the head leaves, from the law's promise -/
theorem walk_ofG {l : PySem.W.OpenLaw} {n k : Nat} {q : Program} {loose : List Str} {XP : (Str → Option Value) → Heap → Prop} {YP : World → Heap → Prop} {d : DefRec} {K : Params → PySem.W.Frag} {CX : World → CXT} {sp : World → Sp} {x : Str}
    (hn : l.most = some n) (hn2 : n ≤ sizeLine) (hdf : d.params.defaults = []) (hr : Room k callerA) (hY : ∀ (w : World) (h : Heap), YP w h → (K w.params).In h)
    (F : ∀ (w : World) (mg : Str → Option Value) (fa : Addr) (h : Heap), (K w.params).In h → h.Ns mainGlobals mg → mg d.name = some (.ref fa) →
      ∃ fd : FuncData, (∀ (s : Shared) (u : Value), BindsTo s fd ⟨[u], []⟩ [(x, u)]) ∧ ∀ base : Heap, (K w.params).In base → base.Ns mainGlobals mg → FnG l.prog w (K w.params) mg base (CX w) k fa fd [x] (sp w))
    (hsp : ∀ (w : World) (H : Hp) (a : Addr) (ns : List Int), ns.length ≤ n → SqL (K w.params) H a (ns.map V.int) → sp w [.ref a] H (fun v _ => v = .bl true) fun _ _ _ => False)
    (hCX : ∀ (w : World) (H : Hp) (s : Shared) (e : Value) (s' : Shared), CX w [] H s (fun _ _ _ => False) e s' → False) : PySem.W.WalkO q loose XP YP l.row.toRowW d [] (fun f vs => PySem.call f vs) := by
  refine Att.attach_call hn hdf ?_
  intro w s₀ s₁ mg mb fa o pm cd doc a vs ns G Y _ _ _ at_ obj its len gens
  have inK := hY w _ Y
  obtain ⟨fd, bd, ok⟩ := F w mg fa _ inK G.T.g at_
  exact law_runG inK G.T.g G.T.b G.T.builtins G.T.nolimit gens obj its (Nat.le_trans len hn2) hr ok bd (fun H hS => hsp w H a ns len hS) fun H e s' => hCX w H s₁ e s'
end L2

set_option Elab.async false
set_option linter.all false
set_option maxRecDepth 100000
set_option maxHeartbeats 4000000
/-! exceptions of one's own held as values: made, their fields read, asked for their kinds, their methods called -/
namespace PySem.W
open PySem PySem.Calls PyProof.Rows
theorem canon_bexc_ga : (Manifest.canonical "BaseException.__getattribute__" != "object.__getattribute__") = false := by decide +kernel
section
variable {prog : Program} {w : World} {A : Around} {E : Value → Shared → Prop} {s : Shared} {K : Frag} {x C : Addr} {ox : Obj} {od : Option Obj} {name : Str} {pl : Sem Bool} {Q : Value × List Value → Shared → Prop}
/-- e.m, ready to be called: a def of e's class -/
theorem method_fnE {f : Addr} (X : K.In s.heap) (I : InstAt s.heap x ox C od) (hga : findIn K (.ref C) "__getattribute__" = some (some (.builtin "BaseException.__getattribute__"))) (hk : findIn K (.ref C) "__getattr__" = some none)
    (hf : findIn K (.ref C) name = some (some (.ref f))) (ht : typeIn K (.ref f) = some (.type "function")) (hs : shadowIn od name = some false) (h : Q (.ref f, [.ref x]) s) :
    wpAny (model prog w) A (getMethod (.ref x) name pl) Q E s := by
  have hcan := canon_bexc_ga
  unfold getMethod specialOf
  refine wpAny_bind (wpAny_bind (I.type.here ((looks_findIn X hga).here ?_)))
  dsimp only
  rw [hcan, if_neg (by decide)]
  refine wpAny_bind (wpAny_bind (I.type.here ((looks_findIn X hk).here ?_)))
  refine wpAny_bind (wpAny_bind (I.type.here ((looks_findIn X hf).here (wpAny_bind ((looks_typeIn X ht).here ?_)))))
  rw [if_neg (by decide +kernel)]
  refine wpAny_bind (wpAny_loadPart I.at_ ?_)
  have hd := I.dict
  cases e : ox.dict with
  | none => exact wpAny_bind (wpAny_rule (wpAny_pure h))
  | some dx =>
    cases od with
    | none => rw [e] at hd; exact hd.elim
    | some o =>
      rw [e] at hd
      obtain ⟨r, a, b⟩ := Option.map_eq_some_iff.mp hs
      refine wpAny_bind (wpAny_bind (wpAny_loadPart hd ?_))
      rw [nsLook_of a]
      refine wpAny_pure ?_
      rw [b]
      exact wpAny_bind (wpAny_rule (wpAny_pure h))
end
end PySem.W
namespace L2
open PySem PySem.Spec PyProof.Rows
/-- at a: an exception of the class at C, held as a value, its fields fs -/
def ErrAt (H : Hp) (a C : Addr) (fs : List (Str × V)) : Prop := (∃ d, H a = some (exo a C (some d)) ∧ H d = some (exd d fs)) ∨ (fs = [] ∧ H a = some (exo a C none))
theorem ErrAt.keep {H H' : Hp} {a C : Addr} {fs : List (Str × V)} (e : ErrAt H a C fs) (s : ∀ b o, H b = some o → H' b = some o) : ErrAt H' a C fs := by
  rcases e with ⟨d, h1, h2⟩ | ⟨h1, h2⟩
  · exact .inl ⟨d, s _ _ h1, s _ _ h2⟩
  · exact .inr ⟨h1, s _ _ h2⟩
/-- what its class must be -/
structure ErrC (K : PySem.W.Frag) (C : Addr) : Prop where
  ga : PySem.W.findIn K (.ref C) "__getattribute__" = some (some (.builtin "BaseException.__getattribute__"))
  gg : PySem.W.findIn K (.ref C) "__getattr__" = some none
  ex : PySem.W.subIn K (.ref C) (.type "BaseException") = some true
  hd : PySem.W.hasDictIn K C = true
  ca : PySem.W.findIn K (.ref C) "__class__" = some (some (.builtin "object.__class__"))
  cm : PySem.W.mroIn K C (.type "object") = some true
  ic : PySem.W.isClsIn K C = true
  ty : PySem.W.typeIn K (.ref C) = some (.type "type")
  kC : PySem.W.keepIn K (.ref C) = true
/-- .. of the model's own class object -/
structure ObjC (K : PySem.W.Frag) : Prop where
  cn : PySem.W.specialIn K (.builtin "object.__class__") "__get__" = some (some (.builtin "getset_descriptor.__get__"))
  ct : PySem.W.takesIn K (.builtin "object.__class__") = some true
section
variable {X : Cx} {pins : List (Addr × Obj)} {σ : St} {H : Hp} {s : Shared} {a C : Addr} {fs : List (Str × V)}
theorem err_inst (I : Inv X pins σ H s) (e : ErrAt H a C fs) : ∃ ox od, PySem.W.InstAt s.heap a ox C od ∧ ∀ f, (match od with | none => fs.lookup f = none | some o => ∃ r, PySem.W.lookIn f o = some r ∧ RelO (fs.lookup f) r) := by
  rcases e with ⟨d, h1, h2⟩ | ⟨rfl, h1⟩
  · obtain ⟨t0, ho⟩ := exo_at I.hok h1
    obtain ⟨mA, hn, r⟩ := exd_at I.hok h2
    obtain ⟨od, hod, hl⟩ := lookIn_ns hn
    exact ⟨_, some od, ⟨ho, rfl, rfl, hod⟩, fun f => ⟨mA f, hl f, r f⟩⟩
  · obtain ⟨t0, ho⟩ := exo_at I.hok h1
    exact ⟨_, none, ⟨ho, rfl, rfl, trivial⟩, fun f => rfl⟩
/-- isinstance(e, c) -/
theorem call_isErr (O : ObjC X.K) : CallR X (.builtin "isinstance") (fun xs H Q => ∃ (a C : Addr) (fs : List (Str × V)) (c : V) (cv : Value) (b : Bool), xs = [.ref a, c] ∧ ErrAt H a C fs ∧ ErrC X.K C ∧ (∀ u, RelV c u → u = cv) ∧ PySem.W.kitOne X.K (.ref C) cv = some b ∧ Q (.bl b) H) := by
  intro pins s σ H xs us Q I r h
  obtain ⟨a, C, fs, c, cv, b, rfl, he, T, hcv, e, q⟩ := h
  obtain ⟨u1, u2, rfl, r1, r2⟩ := vals2 r
  cases (show u1 = Value.ref a from r1)
  cases hcv _ r2
  obtain ⟨ox, od, J, _⟩ := err_inst I he
  exact PySem.W.kia_one (PySem.W.kitx_exc T.ic T.ga T.gg T.ex T.ca O.cn O.ct T.cm) I.kIn J e (fun z => nomatch z) fun tk => ⟨.bl b, H, I.kept (t' := tk) fun _ _ z => z, rfl, q⟩
variable {e o : Expr} {te ta : TE} {n : Str} {pos p apos : Pos}
/-- e.f, a field of it -/
def tErrF (K : PySem.W.Frag) (n : Str) (te : TE) : TE := fun σ H Q => te σ H fun x H1 => ∃ (a C : Addr) (fs : List (Str × V)) (v : V), x = .ref a ∧ ErrAt H1 a C fs ∧ ErrC K C ∧ PySem.W.findIn K (.ref C) n = some none ∧ fs.lookup n = some v ∧ Q v H1
theorem pe_errf (he : PE X e te) (hb : attributeBase e n X.env (eval e X.env) = eval e X.env := by rfl) : PE X (.Attribute e n pos) (tErrF X.K n te) := by
  refine ⟨fun pins s σ H Q I h => ?_⟩
  refine attr_of hb (thn (he.run pins s σ H _ I h) fun u s1 hh => ?_)
  obtain ⟨x, H1, I1, rx, a, C, fs, v, ex, ea, T, hno, l, q⟩ := hh
  subst ex
  obtain rfl : u = Value.ref a := rx
  obtain ⟨ox, od, J, hl⟩ := err_inst I1 ea
  have hn := hl n
  cases od with
  | none => rw [show fs.lookup n = none from hn] at l; cases l
  | some o =>
    obtain ⟨r, h1, h2⟩ := hn
    obtain ⟨u, rfl, ru⟩ := RelO.some_of (v := v) (o := r) (by rw [← l]; exact h2)
    exact HandSPX.exc_get I1.kIn J T.ga T.gg T.ex (PySem.W.findObj_own T.hd hno rfl h1) (handed_of ru) ⟨v, H1, I1.tok _, ru, q⟩
/-- a method of the class that tells the text w -/
def Tells (P : Program) (w : World) (K : PySem.W.Frag) (mg : Str → Option Value) (base : Heap) (CX : CXT) (k : Nat) (m : Str) (sp : Sp) (C : Addr) : Prop := ∃ (f : Addr) (fd : FuncData), PySem.W.findIn K (.ref C) m = some (some (.ref f)) ∧ PySem.W.isFn K (.ref f) = true ∧ PySem.W.keepIn K (.ref f) = true ∧ FnOk P w K mg base CX k f fd ["self"] sp ∧ Binds K fd ["self"] []
/-- e.m() -/
def tErrM (X : Cx) (CX : CXT) (k : Nat) (m : Str) (te : TE) : TE := fun σ H Q => te σ H fun x H1 => ∃ (a C : Addr) (fs : List (Str × V)) (sp : Sp), x = .ref a ∧ ErrAt H1 a C fs ∧ ErrC X.K C ∧ fs.lookup m = none ∧ Tells X.prog X.w X.K X.mg X.base CX k m sp C ∧ sp [.ref a] H1 Q (fun _ _ _ => False)
theorem pe_errm0 {CX : CXT} {k : Nat} {m : Str} {pl : Sem Bool} (he : PE X o te) (hr : Room k X.A) (hx : Passes CX X (fun _ _ _ => False))
    (ht : eval (.Call (.Attribute o m apos) [] [] pos) X.env = (do
      let ov ← eval o X.env
      standAt apos.atName
      let (f, first) ← holding [ov] (getMethod ov m pl)
      callWith pos f first (backTo pos (starEach [] X.env)) (backToKw pos (keywordEach [] X.env))) := by rfl) :
    PE X (.Call (.Attribute o m apos) [] [] pos) (tErrM X CX k m te) := by
  refine ⟨fun pins s σ H Q I h => ?_⟩
  refine PySem.W.methodCall_KW (pl := pl) (thn (he.run pins s σ H _ I h) fun u s1 ⟨x, H1, I1, rx, a, C, fs, sp, ex, ea, T, l, ⟨f, fd, h1, h2, h3, F, hb⟩, q⟩ => ?_) ht
  subst ex
  obtain rfl : u = Value.ref a := rx
  obtain ⟨ox, od, J, hl⟩ := err_inst I1 ea
  refine PySem.W.method_fnE I1.kIn J T.ga T.gg h1 (beq_iff_eq.mp h2) ?_ ?_
  · have hn := hl m
    cases od with
    | none => rfl
    | some o =>
      obtain ⟨r, e1, e2⟩ := hn
      rw [l] at e2
      have hr0 : r = none := RelO.none_of e2
      subst hr0
      show (PySem.W.lookIn m o).map (·.isSome) = some false
      rw [e1]
      rfl
  · exact PySem.W.callWith_K0 (first := [.ref a]) I1.kIn h3 (run_fn (us := [.ref a]) (vs := [.ref a]) (ds := []) (dvs := []) F hr hb .nil hx I1 (.cons rfl .nil) q)
variable {es : List Expr} {t : TA} {x : Str}
/-- X(e, ..), X an own exception class with an __init__ of its own, as a value -/
def tNewO (C : Addr) (sp : Sp) (dvs : List V) (ta : TA) : TE := fun σ H Q => ta σ H fun vs H1 => vs.length ≤ 1000 ∧ ∀ a, H1 a = none → sp (.ref a :: (vs ++ dvs)) (upd H1 a (exo a C none)) (fun v H2 => v = .non ∧ Q (.ref a) H2) (fun _ _ _ => False)
theorem pe_newO {CX : CXT} {fI : Addr} {k : Nat} {fd : FuncData} {ps : List Str} {sp : Sp} {ds : List Value} {dvs : List V} (T : OexC X.K C) (iC : PySem.W.findIn X.K (.ref C) "__init__" = some (some (.ref fI))) (tI : PySem.W.typeIn X.K (.ref fI) = some (.type "function"))
    (F1 : FnOk X.prog X.w X.K X.mg X.base CX k fI fd ps sp) (hr : Room (k + 1) X.A) (hb : Binds X.K fd ps ds) (hd : Vals dvs ds) (hx : Passes CX X (fun _ _ _ => False)) (hg : Gl X x) (hm : X.mg x = some (.ref C)) (ha : PA X (e :: es) t)
    (hdb : (x == ("__debug__" : Str)) = false := by decide) (he : starEach (e :: es) X.env = (false, eval e X.env) :: starEach es X.env := by rfl) (hpl : (backTo pos (starEach es X.env)).any (·.1) = false := by rfl) :
    PE X (.Call (.Name x p) (e :: es) [] pos) (tNewO C sp dvs t) := by
  refine ⟨fun pins s σ H Q I h => ?_⟩
  obtain ⟨nm, q, N, bs, bm, sn, sub, ab, col, dd, k0, k1, k2, k3, k5, hC, hbm⟩ := T.cls
  refine wpAny_Call_Name_kw (ld_glob I hg hm ?_ hdb)
  refine PySem.W.callWith_K (h₀ := X.base) I.ok.mod.kin T.kC (thn (ha.run pos pins s σ H _ I h) fun us s1 ⟨vs, H1, I1, r1, hz, q1⟩ => ⟨I1.kIn, ?_⟩) he hpl
  show wpAny _ _ (call (.ref C) us) _ _ _
  obtain ⟨hp, g, dr, tk, os⟩ := s1
  have hsz : hp.objs.size ≤ hp.objs.size + 1 := Nat.le_succ _
  have hn : H1 (hp.objs.size + 1) = none := I1.hok.fresh hsz
  have hq := q1 (hp.objs.size + 1) hn
  have kk : ∀ b o, hp.get? b = some o → ((hp.push (PySem.W.kdv_tup us)).push (PySem.HandSPX.excO C hp.objs.size)).get? b = some o := fun b o e => Heap.get?_push_of_some _ (Heap.get?_push_of_some _ e)
  have hget : ((hp.push (PySem.W.kdv_tup us)).push (PySem.HandSPX.excO C hp.objs.size)).get? (hp.objs.size + 1) = some (PySem.HandSPX.excO C hp.objs.size) := by heap_get
  have I2 : Inv X pins σ (upd H1 (hp.objs.size + 1) (exo (hp.objs.size + 1) C none)) ⟨(hp.push (PySem.W.kdv_tup us)).push (PySem.HandSPX.excO C hp.objs.size), g, dr, tk, os⟩ :=
    I1.laid (t' := tk) (a := hp.objs.size + 1) (o := exo (hp.objs.size + 1) C none) (h' := (hp.push (PySem.W.kdv_tup us)).push (PySem.HandSPX.excO C hp.objs.size)) kk hsz (exo_ok hget)
  have r2 : Vals (V.ref (hp.objs.size + 1) :: (vs ++ dvs)) (Value.ref (hp.objs.size + 1) :: (us ++ ds)) := .cons rfl (r1.append hd)
  have hl : (Value.ref (hp.objs.size + 1) :: us ++ ds).length = ps.length := by
    have e := r2.length
    rw [F1.len _ _ _ _ hq] at e
    exact e.symm
  have hus : us.length ≤ sizeLine := by
    rw [← Paired.length r1, sizeLine_eq]
    omega
  refine wpAny_call (PySem.HandSPX.call_own F.excBase_ValueError (fun Y => PySem.HandSPX.refsVE_contains Y bm hbm) (I1.kIn _ _ hC) (PySem.W.looks_findIn I1.kIn iC) (fun self => PySem.W.bind_fn I1.kIn self tI) hus
    (codeAny_mono (F1.run _ X.stack _ _ ⟨Value.ref (hp.objs.size + 1) :: us, []⟩ (Value.ref (hp.objs.size + 1) :: (us ++ ds)) _ _ (fun _ _ _ => False) (hr.make C us []) (I2.env0.make C us []) (hb _ (Value.ref (hp.objs.size + 1) :: us) I2.kIn hl) r2 hq) fun r s' hq' => ?_))
  cases r with
  | error er => exact hx pins σ _ _ er s' I2 hq'
  | ok fl =>
    cases fl with
    | ret u =>
      obtain ⟨v, H2, I3, rv, ev, q3⟩ := I2.after hq'
      subst ev
      exact ⟨rv, ⟨V.ref (hp.objs.size + 1), H2, I3, rfl, q3⟩⟩
    | next => exact False.elim hq'
    | brk => exact False.elim hq'
    | cont => exact False.elim hq'
/-- X(), X an own exception class without own __init__, as a value -/
def tNew0 (C : Addr) : TE := fun _ H Q => ∀ a, H a = none → Q (.ref a) (upd H a (exo a C none))
theorem pe_new0 {bmB : List Value} {B newId initId : String} (F : ExcBaseFacts B newId initId bmB) (q : PySem.W.excIn X.K C bmB newId = true) (gC : X.mg x = some (.ref C)) (kC : PySem.W.keepIn X.K (.ref C) = true) (hg : Gl X x)
    (hdb : (x == ("__debug__" : Str)) = false := by decide) : PE X (.Call (.Name x p) [] [] pos) (tNew0 C) := by
  refine ⟨fun pins s σ H Q I h => ?_⟩
  refine wpAny_Call_Name_kw (ld_glob I hg gC ?_ hdb)
  refine PySem.W.callWith_K0 I.kIn kC ?_
  show wpAny _ _ (call (.ref C) []) _ _ _
  obtain ⟨bm, N, nm, qn, bs, hdct, sn, sub, ab, col, dd, k0, k1, k2, k3, k5, mN, hC, hN, hni, T⟩ := exc_obj I.kIn q
  refine wpAny_call_exc_subT F T hC hN hni (fun h' a hm => ?_) (by show 0 ≤ sizeLine; exact Nat.zero_le _)
  have hn : H a = none := I.hok.gone hm.new
  obtain ⟨t, ht, _, _⟩ := hm.there
  exact ⟨.ref a, upd H a (exo a C none), I.laidN hm.keeps hm.new hn (exo_ok ht), rfl, h a hn⟩
end
/-! what the classes say -/
section
variable {K : PySem.W.Frag} {C D : Addr} {nm q : Str} {N : Addr} {bs bm : List Value} {hdct : Bool} {sn : List Str} {sub : List Value} {ab : Bool} {col : Option Bool} {dd : Option Addr} {m0 m1 m2 m3 m5 : Option Value} {nid : String}
theorem sub_of (l : K.lookup C = some (excClassObj nm q C N bs bm hdct sn sub ab col dd m0 m1 m2 m3 m5 nid)) (v : Value) : PySem.W.subIn K (.ref C) v = some ((Value.ref C :: bm).contains v) := by
  show PySem.W.mroIn K C v = _
  unfold PySem.W.mroIn PySem.W.clsIn
  rw [l]
  rfl
end
end L2

set_option Elab.async false
set_option linter.all false
set_option maxRecDepth 100000
set_option maxHeartbeats 4000000
/-! repr(v), v a datum, where no container's text is being written -/
namespace L2
open PySem PySem.Spec PyProof.Rows
def rRepr (K : PySem.W.Frag) : List V → Hp → VK → Prop := fun xs H Q => ∃ v d, xs = [v] ∧ Dp K H v d ∧ d.showable = true ∧ d.shown.length ≤ sizeLine ∧ d.hasDict = false ∧ d.depth ≤ 64 ∧ Q (.str d.shown) H
theorem repr_ref {X : Cx} (gd : X.A.guards = some []) (hu : X.A.units + 66 < cLine) {pins : List (Addr × Obj)} {s : Shared} {σ : St} {H : Hp} {Q : VK} {a : Addr} {d : PyData} (I : Inv X pins σ H s) (hd : Dp X.K H (.ref a) d) (h1 : d.showable = true) (h2 : d.shown.length ≤ sizeLine)
    (h3 : d.hasDict = false) (h4 : d.depth ≤ 64) (q : Q (.str d.shown) H) : wpAny (model X.prog X.w) X.A (call (.builtin "repr") [.ref a]) (EP X pins σ Q) X.xe s := by
  obtain ⟨as, r⟩ := hd.reads I _ _ (u := Value.ref a) rfl
  exact PySem.repr_of_reads' r h1 (PySem.PyData.noDict_hsm h3) gd (by omega) (fun _ _ z => z) (fun h' u tk hk => ⟨.str d.shown, H, I.kept hk, ⟨u, rfl⟩, q⟩) h2
theorem call_reprD {X : Cx} (gd : X.A.guards = some []) (hu : X.A.units + 66 < cLine) : CallR X (.builtin "repr") (rRepr X.K) := by
  intro pins s σ H xs us Q I r h
  obtain ⟨v, d, rfl, hd, h1, h2, h3, h4, q⟩ := h
  cases r with
  | cons r1 rr =>
    cases rr
    cases hd with
    | non => cases r1; exact PySem.P.repr_of_none ⟨.str "None", H, I.tok _, ⟨_, rfl⟩, q⟩
    | bl b => cases r1; exact PySem.P.repr_of_bool ⟨.str (if b then "True" else "False"), H, I.tok _, ⟨_, rfl⟩, q⟩
    | int i =>
      obtain ⟨t, rfl⟩ := r1
      exact PySem.P.repr_of_int (of_decide_eq_true h1) ⟨.str (toString i), H, I.tok _, ⟨_, rfl⟩, q⟩
    | str x =>
      obtain ⟨t, rfl⟩ := r1
      exact PySem.P.repr_of_str ⟨.str (reprText x), H, I.tok _, ⟨_, rfl⟩, q⟩ h2
    | lst a b => cases r1; exact repr_ref gd hu I (.lst a b) h1 h2 h3 h4 q
    | tup a b => cases r1; exact repr_ref gd hu I (.tup a b) h1 h2 h3 h4 q
/-- what this law writes -/
def Thing (H : Hp) (v : V) : Prop := v = .non ∨ v = .int 0 ∨ v = .int (-7) ∨ v = .str "a" ∨ v = .str "" ∨ (∃ p, v = .ref p ∧ H p = some (.tup [.int 1, .int 2])) ∨ v = .str "axis" ∨ v = .int (10 ^ 30) ∨ v = .bl true
theorem Thing.keep {H H' : Hp} {v : V} (h : Thing H v) (s : ∀ b o, H b = some o → H' b = some o) : Thing H' v := by
  rcases h with h | h | h | h | h | ⟨p, h, e⟩ | h | h | h
  · exact .inl h
  · exact .inr (.inl h)
  · exact .inr (.inr (.inl h))
  · exact .inr (.inr (.inr (.inl h)))
  · exact .inr (.inr (.inr (.inr (.inl h))))
  · exact .inr (.inr (.inr (.inr (.inr (.inl ⟨p, h, s _ _ e⟩)))))
  · exact .inr (.inr (.inr (.inr (.inr (.inr (.inl h))))))
  · exact .inr (.inr (.inr (.inr (.inr (.inr (.inr (.inl h)))))))
  · exact .inr (.inr (.inr (.inr (.inr (.inr (.inr (.inr h)))))))
/-- it is a datum that can be written -/
theorem Thing.dp {K : PySem.W.Frag} {H : Hp} {v : V} (h : Thing H v) : ∃ d, Dp K H v d ∧ d.showable = true ∧ d.shown.length ≤ sizeLine ∧ d.hasDict = false ∧ d.depth ≤ 64 := by
  rcases h with rfl | rfl | rfl | rfl | rfl | ⟨p, rfl, e⟩ | rfl | rfl | rfl
  · exact ⟨_, .non, by decide +kernel, by decide +kernel, by decide +kernel, by decide +kernel⟩
  · exact ⟨_, .int _, by decide +kernel, by decide +kernel, by decide +kernel, by decide +kernel⟩
  · exact ⟨_, .int _, by decide +kernel, by decide +kernel, by decide +kernel, by decide +kernel⟩
  · exact ⟨_, .str _, by decide +kernel, by decide +kernel, by decide +kernel, by decide +kernel⟩
  · exact ⟨_, .str _, by decide +kernel, by decide +kernel, by decide +kernel, by decide +kernel⟩
  · exact ⟨.tuple [.int 1, .int 2], .tup (.inl (.inl e)) (.cons (.int _) (.cons (.int _) .nil)), by decide +kernel, by decide +kernel, by decide +kernel, by decide +kernel⟩
  · exact ⟨_, .str _, by decide +kernel, by decide +kernel, by decide +kernel, by decide +kernel⟩
  · exact ⟨_, .int _, by decide +kernel, by decide +kernel, by decide +kernel, by decide +kernel⟩
  · exact ⟨_, .bl _, by decide +kernel, by decide +kernel, by decide +kernel, by decide +kernel⟩
end L2

set_option Elab.async false
set_option linter.all false
set_option maxRecDepth 100000
set_option maxHeartbeats 4000000
/-! law k01: words for what its defs ask of things -/
namespace K1
open PySem L2 TL
abbrev FnP (K : PySem.W.Frag) (x q : Str) (st : Stmt) (dvs : List V) (f : Addr) (fd : FuncData) : Prop := FunD K x q (defArgs st) (defBody st) (defScope st) dvs [] f fd
section
variable (P : Program) (w : World) (K : PySem.W.Frag) (mg : Str → Option Value) (base : Heap)
def GloOk (CX : CXT) (k : Nat) (x : Str) (ps : List Str) (sp : Sp) : Prop := ∃ f fd, FnOk P w K mg base CX k f fd ps sp ∧ mg x = some (.ref f) ∧ PySem.W.keepIn K (.ref f) = true ∧ Binds K fd ps []
def MthOk (C : Addr) (CX : CXT) (k : Nat) (m : Str) (ps : List Str) (sp : Sp) : Prop := ∃ f fd, FnOk P w K mg base CX k f fd ps sp ∧ Meth K C m f ∧ Binds K fd ps []
def MkOk (C : Addr) (CX : CXT) (k : Nat) (ps : List Str) (sp : Sp) : Prop := ∃ f fd, FnOk P w K mg base CX k f fd ps sp ∧ Mk K C f ∧ Binds K fd ps []
def ErrOk (E : Addr) (k : Nat) (ps : List Str) (sp : Sp) : Prop := ∃ f fd, FnOk P w K mg base CX0 k f fd ps sp ∧ PySem.W.findIn K (.ref E) "__init__" = some (some (.ref f)) ∧ PySem.W.typeIn K (.ref f) = some (.type "function") ∧ Binds K fd ps []
end
theorem itF {c : Bool} {A B : Prop} (h : c = false) (k : B) : if c = true then A else B := by
  subst h
  exact iteF k
theorem itT {c : Bool} {A B : Prop} (h : c = true) (k : A) : if c = true then A else B := by
  subst h
  exact iteT k
theorem dec_vi {i j : Int} : decide (V.int i = V.int j) = decide (i = j) := decide_eq_decide.mpr ⟨V.int.inj, congrArg V.int⟩
theorem big1000 {n : Nat} (h : n ≤ 1000) : n ≤ sizeLine := Nat.le_trans h (by decide)
theorem new {H : Hp} {p : Addr} {o : HO} (n : H p = none) : Same H (upd H p o) := fun b u e => by
  rw [upd_ne (ne_of_none e n)]
  exact e
theorem gname_step {i : Nat} {x : V} {σ : St} {H : Hp} {Q : St → Hp → Prop} (h : Q (σ.set i (some x)) H) : gName i x σ H Q := h
theorem at_any {xs : List V} {d : Int} (h0 : 0 ≤ d) (h1 : d < (xs.length : Int)) : ∃ v, v ∈ xs ∧ atI xs d = some v := by
  obtain ⟨n, rfl⟩ := Int.eq_ofNat_of_zero_le h0
  exact ⟨xs[n]'(by omega), List.getElem_mem _, atI_nat (List.getElem?_eq_getElem (by omega))⟩
/-- what of the text is asked -/
structure Txt (K : PySem.W.Frag) (mg : Str → Option Value) : Prop where
  isinst : mg "isinstance" = none
  int : mg "int" = none
  abs : mg "abs" = none
  len : mg "len" = none
  range : mg "range" = none
  sum : mg "sum" = none
  repr : mg "repr" = none
  verr : mg "ValueError" = none
/-- sizes that every number here stays below -/
def Sz (n : Nat) (z : Int) : Prop := z.natAbs < 2 ^ n
/-- nothing but what stands at l has changed -/
def But (l : Addr) (H H' : Hp) : Prop := ∀ b o, b ≠ l → H b = some o → H' b = some o
theorem But.trans {l : Addr} {H H1 H2 : Hp} (a : But l H H1) (b : But l H1 H2) : But l H H2 := fun c o n e => b c o n (a c o n e)
theorem But.of {l : Addr} {H H' : Hp} (s : Same H H') : But l H H' := fun c o _ e => s c o e
/-- the stream: three ints in a list -/
def Strm (H : Hp) (l : Addr) : Prop := ∃ c f n : Int, H l = some (.lst [.int c, .int f, .int n])
def spStream (K : PySem.W.Frag) : Sp := fun vs H Q _ => ∃ (a : Addr) (ns : List Int) (k : Nat), vs = [.ref a, .int k] ∧ SqL K H a (ns.map V.int) ∧ k < 1000 ∧ ∀ p H', Same H H' → H p = none → Strm H' p → Q (.ref p) H'
def spDraw : Sp := fun vs H Q _ => ∃ (l : Addr) (m : Int), vs = [.ref l, .int m] ∧ Strm H l ∧ 0 < m ∧ Sz 8000 m ∧ ∀ (d : Int) H', 0 ≤ d → d < m → But l H H' → Strm H' l → Q (.int d) H'
section
variable {P : Program} {w : World} {K : PySem.W.Frag} {mg : Str → Option Value} {base : Heap} {C E B f g h : Addr} {fd gd hd : FuncData}
theorem scStream : FnScope ["script", "k", "cell"] ["script", "k"] (defScope sStream) := ⟨rfl, rfl, rfl, by decide +kernel, rfl, by decide +kernel, by decide +kernel⟩
theorem ok_stream (F : FnP K "_law_stream" "_law_stream" sStream [] f fd) (T : Txt K mg) : FnOk P w K mg base CX0 1 f fd ["script", "k"] (spStream K) := by
  refine F.ok scStream (fun vs H Q X z => ?_) (fun cdv A outer s H vs Q X hr z => ?_)
  · obtain ⟨a, ns, k, rfl, _⟩ := z
    rfl
  · obtain ⟨a, ns, k, rfl, hS, hk, q⟩ := z
    refine ⟨_, PSs.nox (pss_cons (ps_set (i := 2) scStream.nd rfl (Or.inl rfl) pe_int)
      (pss_cons (ps_if (pt_cmpR op_lt (pv 1) (pe_callB call_len_seq (by rfl) T.len PySem.boot_len (pa_cons (pv 0) pa_nil)) (nomark _))
        (pss_one (ps_set (i := 2) scStream.nd rfl (Or.inl rfl) (pe_callB call_abs (by rfl) T.abs (by decide +kernel) (pa_cons (pe_ix ix_list (pv 0) (pv 1) (fun _ _ => rfl)) pa_nil)))) pss_nil)
      (pss_one (ps_ret (pe_lst (pa_cons (pv 2) (pa_cons (pe_callTy call_int1 (by rfl) T.int (by decide +kernel) (pa_cons (pe_cmpR op_ge (pv 2) (pe_op op_pow pe_int pe_int) (nomark _)) pa_nil)) (pa_cons (pe_op op_mul pe_int (pv 1)) pa_nil)))))))), ?_⟩
    -- what comes behind, whatever the cell
    have tail : ∀ c : Int, ∃ v, ([some (V.ref a), some (V.int (k : Int)), some (V.int c)] : St)[2]? = some (some v) ∧ ∃ y, ([some (V.ref a), some (V.int (k : Int)), some (V.int c)] : St)[2]? = some (some y) ∧
        ∃ i j, V.int 10 = V.int i ∧ V.int 18 = V.int j ∧ CPow i j ∧ ∃ i' j', y = V.int i' ∧ V.int (i ^ j.toNat) = V.int j' ∧
          ((∃ i, [V.bl (decide (j' ≤ i'))] = [V.int i] ∧ False) ∨ ∃ kk, [V.bl (decide (j' ≤ i'))] = [V.bl kk] ∧ ∃ z, ([some (V.ref a), some (V.int (k : Int)), some (V.int c)] : St)[1]? = some (some z) ∧ ∃ i j, V.int 1000 = V.int i ∧ z = V.int j ∧ CMul i j ∧
            ([v, V.int (if kk then 1 else 0), V.int (i * j)] : List V).length ≤ sizeLine ∧ ∀ p, H p = none → Q (.ref p) (upd H p (.lst [v, V.int (if kk then 1 else 0), V.int (i * j)]))) := fun c =>
      ⟨_, rfl, _, rfl, _, _, rfl, rfl, ⟨by decide, by decide, by decide⟩, _, _, rfl, rfl, .inr ⟨_, rfl, _, rfl, _, _, rfl, rfl, .inl ⟨by decide, by decide⟩, (by show 3 ≤ sizeLine; decide), fun p hp => q p _ (fun b o e => by rw [upd_ne (ne_of_none e hp)]; exact e) hp ⟨_, _, _, upd_same⟩⟩⟩
    have hlen : (ns.map V.int).length = ns.length := List.length_map ..
    refine ⟨_, rfl, _, rfl, a, _, rfl, .inl hS, _, _, rfl, rfl, _, rfl, ?_⟩
    by_cases c : (k : Int) < ((ns.map V.int).length : Int)
    · refine itT (decide_eq_true c) ?_
      have hk2 : k < ns.length := by rw [hlen] at c; omega
      refine ⟨_, rfl, _, rfl, a, _, (k : Int), V.int ns[k], rfl, rfl, hS, atI_nat (by rw [List.getElem?_map, List.getElem?_eq_getElem hk2]; rfl), _, rfl, ?_⟩
      obtain ⟨v, h1, y, h2, i, j, h3, h4, h5, i', j', h6, h7, h8⟩ := tail (if ns[k] < 0 then -ns[k] else ns[k])
      refine ⟨v, h1, y, h2, i, j, h3, h4, h5, i', j', h6, h7, ?_⟩
      rcases h8 with ⟨_, _, z⟩ | z
      · exact z.elim
      · exact .inr z
    · refine itF (decide_eq_false c) ?_
      obtain ⟨v, h1, y, h2, i, j, h3, h4, h5, i', j', h6, h7, h8⟩ := tail 0
      refine ⟨v, h1, y, h2, i, j, h3, h4, h5, i', j', h6, h7, ?_⟩
      rcases h8 with ⟨_, _, z⟩ | z
      · exact z.elim
      · exact .inr z
theorem mod_in {x m : Int} (h : 0 < m) : 0 ≤ x % m ∧ x % m < m := ⟨Int.emod_nonneg _ (by omega), Int.emod_lt_of_pos _ h⟩
theorem scDraw : FnScope ["stream", "many", "digit", "mixed"] ["stream", "many"] (defScope sDraw) := ⟨rfl, rfl, rfl, by decide +kernel, rfl, by decide +kernel, by decide +kernel⟩
theorem ok_draw (F : FnP K "_law_draw" "_law_draw" sDraw [] f fd) (T : Txt K mg) : FnOk P w K mg base CX0 1 f fd ["stream", "many"] spDraw := by
  refine F.ok scDraw (fun vs H Q X z => ?_) (fun cdv A outer s H vs Q X hr z => ?_)
  · obtain ⟨l, m, rfl, _⟩ := z
    rfl
  · obtain ⟨l, m, rfl, ⟨c, e, n, hl⟩, hm, hs, q⟩ := z
    refine ⟨_, PSs.nox (pss_cons (ps_asg (pe_op op_add (pe_ix ix_list (pv 0) pe_int (fun _ _ => rfl)) pe_int) (pg_sub (pv 0) pe_int set_list))
      (pss_cons (ps_if (PW.pt (pw_and (pt_cmpR op_eq (pe_ix ix_list (pv 0) pe_int (fun _ _ => rfl)) pe_int (nomark _)) (pw_and1 (pt_cmpR op_gt (pe_ix ix_list (pv 0) pe_int (fun _ _ => rfl)) pe_int (nomark _)))))
        (pss_cons (ps_set (i := 2) scDraw.nd rfl (Or.inl rfl) (pe_op op_mod (pe_callTy call_int1 (by rfl) T.int (by decide +kernel) (pa_cons (pe_ix ix_list (pv 0) pe_int (fun _ _ => rfl)) pa_nil)) (pv 1)))
        (pss_cons (ps_asg (pe_op op_fdivW (pe_callTy call_int1 (by rfl) T.int (by decide +kernel) (pa_cons (pe_ix ix_list (pv 0) pe_int (fun _ _ => rfl)) pa_nil)) (pv 1)) (pg_sub (pv 0) pe_int set_list))
        (pss_one (ps_ret (pv 2))))) pss_nil)
      (pss_cons (ps_set (i := 3) scDraw.nd rfl (Or.inl rfl) (pe_op op_mod (pe_callTy call_int1 (by rfl) T.int (by decide +kernel) (pa_cons (pe_op op_mul (pe_op op_add (pe_op op_add (pe_ix ix_list (pv 0) pe_int (fun _ _ => rfl)) (pe_op op_mul pe_int (pe_ix ix_list (pv 0) pe_int (fun _ _ => rfl)))) pe_int) pe_int) pa_nil)) pe_int))
      (pss_cons (ps_set (i := 3) scDraw.nd rfl (Or.inl rfl) (pe_op op_mod (pe_callTy call_int1 (by rfl) T.int (by decide +kernel) (pa_cons (pe_op op_mul (pv 3) (pe_op op_add (pe_op op_fdiv (pv 3) pe_int) pe_int)) pa_nil)) pe_int))
      (pss_cons (ps_set (i := 3) scDraw.nd rfl (Or.inl rfl) (pe_op op_mod (pe_callTy call_int1 (by rfl) T.int (by decide +kernel) (pa_cons (pe_op op_mul (pv 3) (pe_op op_add (pe_op op_fdiv (pv 3) pe_int) pe_int)) pa_nil)) pe_int))
      (pss_one (ps_ret (pe_op op_mod (pe_callTy call_int1 (by rfl) T.int (by decide +kernel) (pa_cons (pe_op op_fdiv (pv 3) pe_int) pa_nil)) (pv 1))))))))), ?_⟩
    -- stream[2] = stream[2] + 1
    refine ⟨_, rfl, l, _, _, V.int n, rfl, rfl, SqL.of hl, at_of (j := 2) rfl rfl, _, _, rfl, rfl, _, rfl, l, _, _, 2, rfl, rfl, hl, rfl, ?_⟩
    have h1 : (upd H l (.lst [V.int c, V.int e, V.int (n + 1)])) l = some (.lst [V.int c, V.int e, V.int (n + 1)]) := upd_same
    -- the test
    refine ⟨_, rfl, l, _, _, V.int e, rfl, rfl, SqL.of h1, at_of (j := 1) rfl rfl, rfl, _, rfl, ?_⟩
    rcases Decidable.em (V.int e = V.int 1) with c1 | c1
    · refine itT (decide_eq_true c1) ?_
      refine ⟨_, rfl, l, _, _, V.int c, rfl, rfl, SqL.of h1, at_of (j := 0) rfl rfl, _, _, rfl, rfl, _, rfl, ?_⟩
      rcases Decidable.em ((0 : Int) < c) with c2 | c2
      · refine itT (decide_eq_true c2) ?_
        have hs' := PySem.Flt.log2_lt_of (by decide) hs
        refine ⟨_, rfl, l, _, _, V.int c, rfl, rfl, SqL.of h1, at_of (j := 0) rfl rfl, .inl ⟨_, rfl, _, rfl, _, _, rfl, rfl, hm, ?_⟩⟩
        refine ⟨_, rfl, l, _, _, V.int c, rfl, rfl, SqL.of h1, at_of (j := 0) rfl rfl, .inl ⟨_, rfl, _, rfl, _, _, rfl, rfl, ⟨hm, by omega⟩, _, rfl, l, _, _, 0, rfl, rfl, h1, rfl, ?_⟩⟩
        refine ⟨_, rfl, ?_⟩
        exact q _ _ (mod_in hm).1 (mod_in hm).2 (fun b o ne e => by rw [upd_ne ne, upd_ne ne]; exact e) ⟨_, _, _, upd_same⟩
      · refine itF (decide_eq_false c2) ?_
        -- the mixed one
        refine ⟨_, rfl, l, _, _, V.int c, rfl, rfl, SqL.of h1, at_of (j := 0) rfl rfl, _, rfl, l, _, _, V.int (n + 1), rfl, rfl, SqL.of h1, at_of (j := 2) rfl rfl, _, _, rfl, rfl, .inl ⟨by decide, by decide⟩, _, _, rfl, rfl, _, _, rfl, rfl, _, _, rfl, rfl, .inr ⟨by decide, by decide⟩, .inl ⟨_, rfl, _, _, rfl, rfl, (by show (0 : Int) < 2147483647; decide), ?_⟩⟩
        obtain ⟨a0, a1⟩ := mod_in (x := (c + 7919 * (n + 1) + 1) * 48271) (m := 2147483647) (by decide)
        refine ⟨_, rfl, _, rfl, _, _, rfl, rfl, ⟨by decide, by decide⟩, _, _, rfl, rfl, _, _, rfl, rfl, .inl ⟨by omega, by omega⟩, .inl ⟨_, rfl, _, _, rfl, rfl, (by show (0 : Int) < 2147483647; decide), ?_⟩⟩
        refine ⟨_, rfl, _, rfl, _, _, rfl, rfl, ⟨by decide, by decide⟩, _, _, rfl, rfl, _, _, rfl, rfl, .inl ⟨?_, ?_⟩, .inl ⟨_, rfl, _, _, rfl, rfl, (by show (0 : Int) < 2147483399; decide), ?_⟩⟩
        · exact Int.lt_of_lt_of_le (by decide) (mod_in (by decide)).1
        · exact Int.lt_trans (mod_in (by decide)).2 (by decide)
        refine ⟨_, rfl, _, _, rfl, rfl, ⟨by decide, by decide⟩, .inl ⟨_, rfl, _, rfl, _, _, rfl, rfl, hm, ?_⟩⟩
        exact q _ _ (mod_in hm).1 (mod_in hm).2 (fun b o ne e => by rw [upd_ne ne]; exact e) ⟨_, _, _, upd_same⟩
    · refine itF (decide_eq_false c1) (iteF ?_)
      -- the mixed one
      refine ⟨_, rfl, l, _, _, V.int c, rfl, rfl, SqL.of h1, at_of (j := 0) rfl rfl, _, rfl, l, _, _, V.int (n + 1), rfl, rfl, SqL.of h1, at_of (j := 2) rfl rfl, _, _, rfl, rfl, .inl ⟨by decide, by decide⟩, _, _, rfl, rfl, _, _, rfl, rfl, _, _, rfl, rfl, .inr ⟨by decide, by decide⟩, .inl ⟨_, rfl, _, _, rfl, rfl, (by show (0 : Int) < 2147483647; decide), ?_⟩⟩
      obtain ⟨a0, a1⟩ := mod_in (x := (c + 7919 * (n + 1) + 1) * 48271) (m := 2147483647) (by decide)
      refine ⟨_, rfl, _, rfl, _, _, rfl, rfl, ⟨by decide, by decide⟩, _, _, rfl, rfl, _, _, rfl, rfl, .inl ⟨by omega, by omega⟩, .inl ⟨_, rfl, _, _, rfl, rfl, (by show (0 : Int) < 2147483647; decide), ?_⟩⟩
      refine ⟨_, rfl, _, rfl, _, _, rfl, rfl, ⟨by decide, by decide⟩, _, _, rfl, rfl, _, _, rfl, rfl, .inl ⟨?_, ?_⟩, .inl ⟨_, rfl, _, _, rfl, rfl, (by show (0 : Int) < 2147483399; decide), ?_⟩⟩
      · exact Int.lt_of_lt_of_le (by decide) (mod_in (by decide)).1
      · exact Int.lt_trans (mod_in (by decide)).2 (by decide)
      refine ⟨_, rfl, _, _, rfl, rfl, ⟨by decide, by decide⟩, .inl ⟨_, rfl, _, rfl, _, _, rfl, rfl, hm, ?_⟩⟩
      exact q _ _ (mod_in hm).1 (mod_in hm).2 (fun b o ne e => by rw [upd_ne ne]; exact e) ⟨_, _, _, upd_same⟩
end

end K1

set_option Elab.async false
set_option linter.all false
set_option maxRecDepth 100000
set_option maxHeartbeats 4000000
/-! law k01: the classes, their __init__s and what they tell -/
namespace K1
open PySem L2 TL
abbrev rr (n : Str) (fs : List Str) : Str × List Str := (n, fs)
def rws : List (Str × List Str) := [rr "NoRatio" ["word"], rr "NoGrid" ["word"], rr "NoCell" [], rr "NoWish" ["place", "word"], rr "NoAxis" [], rr "NoQuestion" ["word"], rr "NoAmounts" [], rr "OtherGrid" [],
  rr "NoExpression" ["word"], rr "BadText" ["place"], rr "NoMeaning" ["word"], rr "NoEntry" ["word"], rr "NoBook" ["word"], rr "SameTime" ["time"], rr "SameName" ["name"], rr "TooMany" ["most"],
  rr "NoName" ["name"], rr "NoTime" [], rr "NoHistory" [], rr "NoWeights" [], rr "NoSide" [], rr "NoNumber" [], rr "Clash" [], rr "Endless" [],
  rr "NoCount" [], rr "NoOffer" ["word"], rr "NoGoal" ["word"], rr "NoOffers" ["place"], rr "NoChoice" [], rr "NoGoals" ["place"], rr "NoUndo" [], rr "NoRedo" [],
  rr "NoNames" [], rr "NoQuestions" ["place"], rr "NoLine" [], rr "Conflicted" ["kind", "what"], rr "BadLine" ["place", "word"], rr "ToldError" []]
def nmOf (k : Nat) : Str := (rws.getD k (rr "" [])).1
def fdsOf (k : Nat) : List Str := (rws.getD k (rr "" [])).2
/-- its fields -/
def fsOf (k : Nat) (one other : V) : List (Str × V) := match fdsOf k with
  | [] => []
  | [f] => [(f, one)]
  | f :: g :: _ => [(g, other), (f, one)]
def spTold (w : Str) : Sp := fun vs H Q _ => ∃ x, vs = [x] ∧ Q (.str w) H
def spI1 (C : Addr) (f : Str) : Sp := fun vs H Q _ => ∃ a v, vs = [.ref a, v] ∧ H a = some (exo a C none) ∧ ∀ d, H d = none → d ≠ a → Q .non (upd (upd H d (exd d [(f, v)])) a (exo a C (some d)))
def spI2 (C : Addr) (f g : Str) : Sp := fun vs H Q _ => ∃ a v u, vs = [.ref a, v, u] ∧ H a = some (exo a C none) ∧ ∀ d, H d = none → d ≠ a → Q .non (upd (upd (upd H d (exd d [(f, v)])) a (exo a C (some d))) d (exd d [(g, u), (f, v)]))
def scOf (ns : List Str) : Scope := { kind := .function, names := ns.map fun n => (n, NameKind.local), isGenerator := false, isCoroutine := false, more := [] }
/-- def told(self): return w -/
def IsTold (st : Stmt) (w : Str) : Prop := defScope st = scOf ["self"] ∧ ∃ n p1 p2, defBody st = [.Return (some (.Constant (.str w) n p1)) p2]
/-- def __init__(self, f): self.f = f -/
def IsI1 (st : Stmt) (f : Str) : Prop := defScope st = scOf ["self", f] ∧ ∃ p1 p2 p3 p4, defBody st = [.Assign [.Attribute (.Name "self" p1) f p2] (.Name f p3) p4]
def IsI2 (st : Stmt) (f g : Str) : Prop := defScope st = scOf ["self", f, g] ∧ ∃ p1 p2 p3 p4 q1 q2 q3 q4, defBody st = [.Assign [.Attribute (.Name "self" p1) f p2] (.Name f p3) p4, .Assign [.Attribute (.Name "self" q1) g q2] (.Name g q3) q4]
section
variable {P : Program} {w : World} {K : PySem.W.Frag} {mg : Str → Option Value} {base : Heap} {C f h : Addr} {fd : FuncData} {q x y t : Str} {st : Stmt}
theorem scTold : FnScope ["self"] ["self"] (scOf ["self"]) := ⟨rfl, rfl, rfl, by decide +kernel, rfl, by decide +kernel, by decide +kernel⟩
theorem ok_told (F : FnP K "told" q st [] f fd) (S : IsTold st t) : FnOk P w K mg base CX0 1 f fd ["self"] (spTold t) := by
  obtain ⟨hs, n, p1, p2, hb⟩ := S
  have F' : FunD K "told" q (defArgs st) [.Return (some (.Constant (.str t) n p1)) p2] (scOf ["self"]) [] [] f fd := by rw [← hs, ← hb]; exact F
  refine F'.ok scTold (fun vs H Q X z => ?_) (fun cdv A outer s H vs Q X hr z => ?_)
  · obtain ⟨x, rfl, _⟩ := z
    rfl
  · obtain ⟨x, rfl, k⟩ := z
    exact ⟨_, PSs.nox (pss_one (ps_ret pe_str)), k⟩
/-- names that can stand so -/
structure Nm1 (x : Str) : Prop where
  sc : FnScope ["self", x] ["self", x] (scOf ["self", x])
  lk : (scOf ["self", x]).names.lookup x = some NameKind.local
  d : (x == ("__debug__" : Str)) = false
  c : (x == ("__classdict__" : Str)) = false
structure Nm2 (x y : Str) : Prop where
  sc : FnScope ["self", x, y] ["self", x, y] (scOf ["self", x, y])
  lx : (scOf ["self", x, y]).names.lookup x = some NameKind.local
  ly : (scOf ["self", x, y]).names.lookup y = some NameKind.local
  dx : (x == ("__debug__" : Str)) = false
  cx : (x == ("__classdict__" : Str)) = false
  dy : (y == ("__debug__" : Str)) = false
  cy : (y == ("__classdict__" : Str)) = false
theorem ok_i1 (h1 : Nm1 x) (F : FnP K "__init__" q st [] f fd) (S : IsI1 st x) (T : OexC K C) (no : PySem.W.findIn K (.ref C) x = some none) : FnOk P w K mg base CX0 1 f fd ["self", x] (spI1 C x) := by
  obtain ⟨hs, p1, p2, p3, p4, hb⟩ := S
  have F' : FunD K "__init__" q (defArgs st) [.Assign [.Attribute (.Name "self" p1) x p2] (.Name x p3) p4] (scOf ["self", x]) [] [] f fd := by rw [← hs, ← hb]; exact F
  refine F'.ok h1.sc (fun vs H Q X z => ?_) (fun cdv A outer s H vs Q X hr z => ?_)
  · obtain ⟨a, v, rfl, _⟩ := z
    rfl
  · obtain ⟨a, v, rfl, ha, k⟩ := z
    refine ⟨_, PSs.nox (pss_one (ps_ost (pv 0) (pv 1 (hv := Or.inl h1.lk) (hd := h1.d) (hcd := h1.c)))), ?_⟩
    exact ⟨_, rfl, _, rfl, a, C, rfl, T, no, .inl ⟨ha, fun d hd ne => k d hd ne⟩⟩
theorem ok_i2 (h1 : Nm2 x y) (F : FnP K "__init__" q st [] f fd) (S : IsI2 st x y) (T : OexC K C) (nx : PySem.W.findIn K (.ref C) x = some none) (ny : PySem.W.findIn K (.ref C) y = some none) : FnOk P w K mg base CX0 1 f fd ["self", x, y] (spI2 C x y) := by
  obtain ⟨hs, p1, p2, p3, p4, q1, q2, q3, q4, hb⟩ := S
  have F' : FunD K "__init__" q (defArgs st) [.Assign [.Attribute (.Name "self" p1) x p2] (.Name x p3) p4, .Assign [.Attribute (.Name "self" q1) y q2] (.Name y q3) q4] (scOf ["self", x, y]) [] [] f fd := by rw [← hs, ← hb]; exact F
  refine F'.ok h1.sc (fun vs H Q X z => ?_) (fun cdv A outer s H vs Q X hr z => ?_)
  · obtain ⟨a, v, u, rfl, _⟩ := z
    rfl
  · obtain ⟨a, v, u, rfl, ha, k⟩ := z
    refine ⟨_, PSs.nox (pss_cons (ps_ost (pv 0) (pv 1 (hv := Or.inl h1.lx) (hd := h1.dx) (hcd := h1.cx))) (pss_one (ps_ost (pv 0) (pv 2 (hv := Or.inl h1.ly) (hd := h1.dy) (hcd := h1.cy))))), ?_⟩
    refine ⟨_, rfl, _, rfl, a, C, rfl, T, nx, .inl ⟨ha, fun d hd ne => ?_⟩⟩
    exact ⟨_, rfl, _, rfl, a, C, rfl, T, ny, .inr ⟨d, _, upd_same, by rw [upd_ne ne, upd_same], (by show 1 ≤ 900; decide), k d hd ne⟩⟩
end
theorem nm_word : Nm1 "word" := ⟨⟨rfl, rfl, rfl, by decide +kernel, rfl, by decide +kernel, by decide +kernel⟩, rfl, by decide +kernel, by decide +kernel⟩
theorem nm_place : Nm1 "place" := ⟨⟨rfl, rfl, rfl, by decide +kernel, rfl, by decide +kernel, by decide +kernel⟩, rfl, by decide +kernel, by decide +kernel⟩
theorem nm_time : Nm1 "time" := ⟨⟨rfl, rfl, rfl, by decide +kernel, rfl, by decide +kernel, by decide +kernel⟩, rfl, by decide +kernel, by decide +kernel⟩
theorem nm_name : Nm1 "name" := ⟨⟨rfl, rfl, rfl, by decide +kernel, rfl, by decide +kernel, by decide +kernel⟩, rfl, by decide +kernel, by decide +kernel⟩
theorem nm_most : Nm1 "most" := ⟨⟨rfl, rfl, rfl, by decide +kernel, rfl, by decide +kernel, by decide +kernel⟩, rfl, by decide +kernel, by decide +kernel⟩
theorem nm_pw : Nm2 "place" "word" := ⟨⟨rfl, rfl, rfl, by decide +kernel, rfl, by decide +kernel, by decide +kernel⟩, rfl, rfl, by decide +kernel, by decide +kernel, by decide +kernel, by decide +kernel⟩
theorem nm_kw : Nm2 "kind" "what" := ⟨⟨rfl, rfl, rfl, by decide +kernel, rfl, by decide +kernel, by decide +kernel⟩, rfl, rfl, by decide +kernel, by decide +kernel, by decide +kernel, by decide +kernel⟩
end K1

set_option Elab.async false
set_option linter.all false
set_option maxRecDepth 100000
set_option maxHeartbeats 4000000
/-! law k01: exceptions made by the row's number -/
namespace K1
open PySem L2 TL
/-- ValueError's own kinds -/
abbrev veTail : List Value := [.type "Exception", .type "BaseException", .type "object"]
section
variable (P : Program) (w : World) (K : PySem.W.Frag) (mg : Str → Option Value) (base : Heap) (c : Nat → Addr)
/-- how the exceptions of the row k are made -/
def Makes (k : Nat) : Prop := match fdsOf k with
  | [] => PySem.W.excIn K (c k) [.type "ValueError", .type "Exception", .type "BaseException", .type "object"] "ValueError.__new__" = true
  | [f] => OexC K (c k) ∧ ErrOk P w K mg base (c k) 1 ["self", f] (spI1 (c k) f)
  | f :: g :: _ => OexC K (c k) ∧ ErrOk P w K mg base (c k) 1 ["self", f, g] (spI2 (c k) f g)
def lowN (k : Nat) : Str := ("refused " : Str) ++ Txt.lower (nmOf k)
/-- the class of the row k, as the defs see it -/
structure Cl (k : Nat) : Prop where
  at_ : mg (nmOf k) = some (.ref (c k))
  ec : ErrC K (c k)
  no : ∀ f ∈ fdsOf k, PySem.W.findIn K (.ref (c k)) f = some none
  told : Tells P w K mg base CX0 1 "told" (spTold (lowN k)) (c k)
  made : Makes P w K mg base c k
  kinds : ∀ j, j < 37 → PySem.W.kitOne K (.ref (c k)) (.ref (c j)) = some (decide (k = j))
  up : PySem.W.kitOne K (.ref (c k)) (.ref (c 37)) = some true
  ve : PySem.W.kitOne K (.ref (c k)) (.type "ValueError") = some true
abbrev Cls38 : Prop := ∀ k, k < 38 → Cl P w K mg base c k
end
def Made (c : Nat → Addr) (k : Nat) (one other : V) (H : Hp) (Q : VK) : Prop := ∀ a H', Same H H' → ErrAt H' a (c k) (fsOf k one other) → Q (.ref a) H'
def tM0 (C : Addr) : TE := fun _ H Q => ∀ a H', Same H H' → ErrAt H' a C [] → Q (.ref a) H'
def tM1 (C : Addr) (f : Str) (i : Nat) : TE := fun σ H Q => ∃ v, σ[i]? = some (some v) ∧ ∀ a H', Same H H' → ErrAt H' a C [(f, v)] → Q (.ref a) H'
def tM2 (C : Addr) (f g : Str) (i j : Nat) : TE := fun σ H Q => ∃ v, σ[i]? = some (some v) ∧ ∃ u, σ[j]? = some (some u) ∧ ∀ a H', Same H H' → ErrAt H' a C [(g, u), (f, v)] → Q (.ref a) H'
theorem PE.weak {X : Cx} {e : Expr} {t t' : TE} (h : PE X e t) (k : ∀ σ H Q, t' σ H Q → t σ H Q) : PE X e t' := ⟨fun pins s σ H Q I z => h.run pins s σ H Q I (k σ H Q z)⟩
section
variable {X : Cx} {C : Addr} {x f g : Str} {e e1 : Expr} {i j : Nat} {p pos : Pos} {fI : Addr} {fd : FuncData}
theorem mk0 (q : PySem.W.excIn X.K C [.type "ValueError", .type "Exception", .type "BaseException", .type "object"] "ValueError.__new__" = true) (T : ErrC X.K C) (hm : X.mg x = some (.ref C)) (hg : Gl X x) (hdb : (x == ("__debug__" : Str)) = false := by decide) : PE X (.Call (.Name x p) [] [] pos) (tM0 C) :=
  PE.weak (pe_new0 PySem.F.excBase_ValueError q hm T.kC hg hdb) fun σ H Q k a ha => k a _ (new ha) (.inr ⟨rfl, upd_same⟩)
theorem same3 {H : Hp} {a d : Addr} {o o1 o2 : HO} (ha : H a = none) (hd : upd H a o d = none) (ne : d ≠ a) : Same H (upd (upd (upd H a o) d o1) a o2) := fun b u e => by
  have hb : b ≠ a := ne_of_none e ha
  rw [upd_ne ne] at hd
  rw [upd_ne hb, upd_ne (ne_of_none e hd), upd_ne hb]
  exact e
theorem mk1 (M : OexC X.K C ∧ ErrOk X.prog X.w X.K X.mg X.base C 1 ["self", f] (spI1 C f)) (hr : Room 2 X.A) (hx : Passes CX0 X (fun _ _ _ => False)) (hm : X.mg x = some (.ref C)) (hg : Gl X x) (he : PE X e (tVar i))
    (hdb : (x == ("__debug__" : Str)) = false := by decide) (hs : starEach [e] X.env = (false, eval e X.env) :: starEach [] X.env := by rfl) : PE X (.Call (.Name x p) [e] [] pos) (tM1 C f i) := by
  obtain ⟨T, fI, fd, F, a, t, b⟩ := M
  refine PE.weak (pe_newO T a t F hr b .nil hx hg hm (pa_cons he pa_nil hs) hdb hs rfl) fun σ H Q k => ?_
  obtain ⟨v, hv, k⟩ := k
  exact ⟨v, hv, (by show 1 ≤ 1000; decide), fun a ha => ⟨a, v, rfl, upd_same, fun d hd ne => ⟨rfl, k a _ (same3 ha hd ne) (.inl ⟨d, upd_same, by rw [upd_ne ne, upd_same]⟩)⟩⟩⟩
theorem mk2 (M : OexC X.K C ∧ ErrOk X.prog X.w X.K X.mg X.base C 1 ["self", f, g] (spI2 C f g)) (hr : Room 2 X.A) (hx : Passes CX0 X (fun _ _ _ => False)) (hm : X.mg x = some (.ref C)) (hg : Gl X x) (he : PE X e (tVar i)) (he1 : PE X e1 (tVar j))
    (hdb : (x == ("__debug__" : Str)) = false := by decide) (hs : starEach [e, e1] X.env = (false, eval e X.env) :: starEach [e1] X.env := by rfl) (hs1 : starEach [e1] X.env = (false, eval e1 X.env) :: starEach [] X.env := by rfl) (hpl : (backTo pos (starEach [e1] X.env)).any (·.1) = false := by rfl) : PE X (.Call (.Name x p) [e, e1] [] pos) (tM2 C f g i j) := by
  obtain ⟨T, fI, fd, F, a, t, b⟩ := M
  refine PE.weak (pe_newO T a t F hr b .nil hx hg hm (pa_cons he (pa_cons he1 pa_nil hs1) hs) hdb hs hpl) fun σ H Q k => ?_
  obtain ⟨v, hv, u, hu, k⟩ := k
  refine ⟨v, hv, u, hu, (by show 2 ≤ 1000; decide), fun a ha => ⟨a, v, u, rfl, upd_same, fun d hd ne => ⟨rfl, k a _ ?_ (.inl ⟨d, by rw [upd_ne (Ne.symm ne), upd_same], upd_same⟩)⟩⟩⟩
  intro b o e
  rw [upd_ne (fun z => by rw [z] at e; rw [upd_ne ne, e] at hd; cases hd)]
  exact same3 ha hd ne b o e
end
def spMd (c : Nat → Addr) (m : Nat → Bool) : Sp := fun vs H Q _ => ∃ (k : Nat) (one other : V), vs = [.int k, one, other] ∧ k < 38 ∧ (if m k = true then Made c k one other H Q else Q .non H)
theorem dec_k {k n : Nat} : decide (V.int (k : Int) = V.int (n : Int)) = decide (k = n) := decide_eq_decide.mpr ⟨fun h => Int.ofNat.inj (V.int.inj h), fun h => by rw [h]⟩
section
variable {P : Program} {w : World} {K : PySem.W.Frag} {mg : Str → Option Value} {base : Heap} {c : Nat → Addr} {f : Addr} {fd : FuncData}
def mA (k : Nat) : Bool := [0, 4, 8, 12, 16, 20, 24, 28, 32, 36].contains k
theorem scA : FnScope ["which", "one", "other"] ["which", "one", "other"] (defScope sMA) := ⟨rfl, rfl, rfl, by decide +kernel, rfl, by decide +kernel, by decide +kernel⟩
theorem ok_ma (F : FnP K "_law_made_a" "_law_made_a" sMA [] f fd) (G : Cls38 P w K mg base c) : FnOk P w K mg base CX0 3 f fd ["which", "one", "other"] (spMd c mA) := by
  refine F.ok scA (fun vs H Q X z => ?_) (fun cdv A outer s H vs Q X hr z => ?_)
  · obtain ⟨k, one, other, rfl, _⟩ := z
    rfl
  · obtain ⟨k, one, other, rfl, hk, z⟩ := z
    refine ⟨_, PSs.nox (pss_cons (ps_if (pt_cmpR op_eq (pv 0) pe_int (nomark _)) (pss_one (ps_ret (mk1 (G 0 (by decide)).made hr pass0 (G 0 (by decide)).at_ (by rfl) (pv 1)))) pss_nil)
      (pss_cons (ps_if (pt_cmpR op_eq (pv 0) pe_int (nomark _)) (pss_one (ps_ret (mk0 (G 4 (by decide)).made (G 4 (by decide)).ec (G 4 (by decide)).at_ (by rfl)))) pss_nil)
      (pss_cons (ps_if (pt_cmpR op_eq (pv 0) pe_int (nomark _)) (pss_one (ps_ret (mk1 (G 8 (by decide)).made hr pass0 (G 8 (by decide)).at_ (by rfl) (pv 1)))) pss_nil)
      (pss_cons (ps_if (pt_cmpR op_eq (pv 0) pe_int (nomark _)) (pss_one (ps_ret (mk1 (G 12 (by decide)).made hr pass0 (G 12 (by decide)).at_ (by rfl) (pv 1)))) pss_nil)
      (pss_cons (ps_if (pt_cmpR op_eq (pv 0) pe_int (nomark _)) (pss_one (ps_ret (mk1 (G 16 (by decide)).made hr pass0 (G 16 (by decide)).at_ (by rfl) (pv 1)))) pss_nil)
      (pss_cons (ps_if (pt_cmpR op_eq (pv 0) pe_int (nomark _)) (pss_one (ps_ret (mk0 (G 20 (by decide)).made (G 20 (by decide)).ec (G 20 (by decide)).at_ (by rfl)))) pss_nil)
      (pss_cons (ps_if (pt_cmpR op_eq (pv 0) pe_int (nomark _)) (pss_one (ps_ret (mk0 (G 24 (by decide)).made (G 24 (by decide)).ec (G 24 (by decide)).at_ (by rfl)))) pss_nil)
      (pss_cons (ps_if (pt_cmpR op_eq (pv 0) pe_int (nomark _)) (pss_one (ps_ret (mk0 (G 28 (by decide)).made (G 28 (by decide)).ec (G 28 (by decide)).at_ (by rfl)))) pss_nil)
      (pss_cons (ps_if (pt_cmpR op_eq (pv 0) pe_int (nomark _)) (pss_one (ps_ret (mk0 (G 32 (by decide)).made (G 32 (by decide)).ec (G 32 (by decide)).at_ (by rfl)))) pss_nil)
      (pss_cons (ps_if (pt_cmpR op_eq (pv 0) pe_int (nomark _)) (pss_one (ps_ret (mk2 (G 36 (by decide)).made hr pass0 (G 36 (by decide)).at_ (by rfl) (pv 1) (pv 2)))) pss_nil)
      (pss_one (ps_ret pe_non)))))))))))), ?_⟩
    refine ⟨_, rfl, rfl, _, rfl, ?_⟩
    rcases Decidable.em (V.int (k : Int) = V.int 0) with e | e0
    · refine itT (decide_eq_true e) ?_
      obtain rfl : k = 0 := Int.ofNat.inj (V.int.inj e)
      rw [if_pos (by decide)] at z
      exact ⟨_, rfl, z⟩
    refine itF (decide_eq_false e0) ?_
    replace e0 : k ≠ 0 := fun h => e0 (by rw [h]; rfl)
    refine ⟨_, rfl, rfl, _, rfl, ?_⟩
    rcases Decidable.em (V.int (k : Int) = V.int 4) with e | e4
    · refine itT (decide_eq_true e) ?_
      obtain rfl : k = 4 := Int.ofNat.inj (V.int.inj e)
      rw [if_pos (by decide)] at z
      exact z
    refine itF (decide_eq_false e4) ?_
    replace e4 : k ≠ 4 := fun h => e4 (by rw [h]; rfl)
    refine ⟨_, rfl, rfl, _, rfl, ?_⟩
    rcases Decidable.em (V.int (k : Int) = V.int 8) with e | e8
    · refine itT (decide_eq_true e) ?_
      obtain rfl : k = 8 := Int.ofNat.inj (V.int.inj e)
      rw [if_pos (by decide)] at z
      exact ⟨_, rfl, z⟩
    refine itF (decide_eq_false e8) ?_
    replace e8 : k ≠ 8 := fun h => e8 (by rw [h]; rfl)
    refine ⟨_, rfl, rfl, _, rfl, ?_⟩
    rcases Decidable.em (V.int (k : Int) = V.int 12) with e | e12
    · refine itT (decide_eq_true e) ?_
      obtain rfl : k = 12 := Int.ofNat.inj (V.int.inj e)
      rw [if_pos (by decide)] at z
      exact ⟨_, rfl, z⟩
    refine itF (decide_eq_false e12) ?_
    replace e12 : k ≠ 12 := fun h => e12 (by rw [h]; rfl)
    refine ⟨_, rfl, rfl, _, rfl, ?_⟩
    rcases Decidable.em (V.int (k : Int) = V.int 16) with e | e16
    · refine itT (decide_eq_true e) ?_
      obtain rfl : k = 16 := Int.ofNat.inj (V.int.inj e)
      rw [if_pos (by decide)] at z
      exact ⟨_, rfl, z⟩
    refine itF (decide_eq_false e16) ?_
    replace e16 : k ≠ 16 := fun h => e16 (by rw [h]; rfl)
    refine ⟨_, rfl, rfl, _, rfl, ?_⟩
    rcases Decidable.em (V.int (k : Int) = V.int 20) with e | e20
    · refine itT (decide_eq_true e) ?_
      obtain rfl : k = 20 := Int.ofNat.inj (V.int.inj e)
      rw [if_pos (by decide)] at z
      exact z
    refine itF (decide_eq_false e20) ?_
    replace e20 : k ≠ 20 := fun h => e20 (by rw [h]; rfl)
    refine ⟨_, rfl, rfl, _, rfl, ?_⟩
    rcases Decidable.em (V.int (k : Int) = V.int 24) with e | e24
    · refine itT (decide_eq_true e) ?_
      obtain rfl : k = 24 := Int.ofNat.inj (V.int.inj e)
      rw [if_pos (by decide)] at z
      exact z
    refine itF (decide_eq_false e24) ?_
    replace e24 : k ≠ 24 := fun h => e24 (by rw [h]; rfl)
    refine ⟨_, rfl, rfl, _, rfl, ?_⟩
    rcases Decidable.em (V.int (k : Int) = V.int 28) with e | e28
    · refine itT (decide_eq_true e) ?_
      obtain rfl : k = 28 := Int.ofNat.inj (V.int.inj e)
      rw [if_pos (by decide)] at z
      exact z
    refine itF (decide_eq_false e28) ?_
    replace e28 : k ≠ 28 := fun h => e28 (by rw [h]; rfl)
    refine ⟨_, rfl, rfl, _, rfl, ?_⟩
    rcases Decidable.em (V.int (k : Int) = V.int 32) with e | e32
    · refine itT (decide_eq_true e) ?_
      obtain rfl : k = 32 := Int.ofNat.inj (V.int.inj e)
      rw [if_pos (by decide)] at z
      exact z
    refine itF (decide_eq_false e32) ?_
    replace e32 : k ≠ 32 := fun h => e32 (by rw [h]; rfl)
    refine ⟨_, rfl, rfl, _, rfl, ?_⟩
    rcases Decidable.em (V.int (k : Int) = V.int 36) with e | e36
    · refine itT (decide_eq_true e) ?_
      obtain rfl : k = 36 := Int.ofNat.inj (V.int.inj e)
      rw [if_pos (by decide)] at z
      exact ⟨_, rfl, _, rfl, z⟩
    refine itF (decide_eq_false e36) ?_
    replace e36 : k ≠ 36 := fun h => e36 (by rw [h]; rfl)
    rw [if_neg (fun h => by
      have := List.contains_iff_mem.mp h
      simp only [List.mem_cons, List.not_mem_nil, or_false] at this
      omega)] at z
    exact z
def mB (k : Nat) : Bool := [1, 5, 9, 13, 17, 21, 25, 29, 33].contains k
theorem scB : FnScope ["which", "one", "other"] ["which", "one", "other"] (defScope sMB) := ⟨rfl, rfl, rfl, by decide +kernel, rfl, by decide +kernel, by decide +kernel⟩
theorem ok_mb (F : FnP K "_law_made_b" "_law_made_b" sMB [] f fd) (G : Cls38 P w K mg base c) : FnOk P w K mg base CX0 3 f fd ["which", "one", "other"] (spMd c mB) := by
  refine F.ok scB (fun vs H Q X z => ?_) (fun cdv A outer s H vs Q X hr z => ?_)
  · obtain ⟨k, one, other, rfl, _⟩ := z
    rfl
  · obtain ⟨k, one, other, rfl, hk, z⟩ := z
    refine ⟨_, PSs.nox (pss_cons (ps_if (pt_cmpR op_eq (pv 0) pe_int (nomark _)) (pss_one (ps_ret (mk1 (G 1 (by decide)).made hr pass0 (G 1 (by decide)).at_ (by rfl) (pv 1)))) pss_nil)
      (pss_cons (ps_if (pt_cmpR op_eq (pv 0) pe_int (nomark _)) (pss_one (ps_ret (mk1 (G 5 (by decide)).made hr pass0 (G 5 (by decide)).at_ (by rfl) (pv 1)))) pss_nil)
      (pss_cons (ps_if (pt_cmpR op_eq (pv 0) pe_int (nomark _)) (pss_one (ps_ret (mk1 (G 9 (by decide)).made hr pass0 (G 9 (by decide)).at_ (by rfl) (pv 1)))) pss_nil)
      (pss_cons (ps_if (pt_cmpR op_eq (pv 0) pe_int (nomark _)) (pss_one (ps_ret (mk1 (G 13 (by decide)).made hr pass0 (G 13 (by decide)).at_ (by rfl) (pv 1)))) pss_nil)
      (pss_cons (ps_if (pt_cmpR op_eq (pv 0) pe_int (nomark _)) (pss_one (ps_ret (mk0 (G 17 (by decide)).made (G 17 (by decide)).ec (G 17 (by decide)).at_ (by rfl)))) pss_nil)
      (pss_cons (ps_if (pt_cmpR op_eq (pv 0) pe_int (nomark _)) (pss_one (ps_ret (mk0 (G 21 (by decide)).made (G 21 (by decide)).ec (G 21 (by decide)).at_ (by rfl)))) pss_nil)
      (pss_cons (ps_if (pt_cmpR op_eq (pv 0) pe_int (nomark _)) (pss_one (ps_ret (mk1 (G 25 (by decide)).made hr pass0 (G 25 (by decide)).at_ (by rfl) (pv 1)))) pss_nil)
      (pss_cons (ps_if (pt_cmpR op_eq (pv 0) pe_int (nomark _)) (pss_one (ps_ret (mk1 (G 29 (by decide)).made hr pass0 (G 29 (by decide)).at_ (by rfl) (pv 1)))) pss_nil)
      (pss_cons (ps_if (pt_cmpR op_eq (pv 0) pe_int (nomark _)) (pss_one (ps_ret (mk1 (G 33 (by decide)).made hr pass0 (G 33 (by decide)).at_ (by rfl) (pv 1)))) pss_nil)
      (pss_one (ps_ret pe_non))))))))))), ?_⟩
    refine ⟨_, rfl, rfl, _, rfl, ?_⟩
    rcases Decidable.em (V.int (k : Int) = V.int 1) with e | e1
    · refine itT (decide_eq_true e) ?_
      obtain rfl : k = 1 := Int.ofNat.inj (V.int.inj e)
      rw [if_pos (by decide)] at z
      exact ⟨_, rfl, z⟩
    refine itF (decide_eq_false e1) ?_
    replace e1 : k ≠ 1 := fun h => e1 (by rw [h]; rfl)
    refine ⟨_, rfl, rfl, _, rfl, ?_⟩
    rcases Decidable.em (V.int (k : Int) = V.int 5) with e | e5
    · refine itT (decide_eq_true e) ?_
      obtain rfl : k = 5 := Int.ofNat.inj (V.int.inj e)
      rw [if_pos (by decide)] at z
      exact ⟨_, rfl, z⟩
    refine itF (decide_eq_false e5) ?_
    replace e5 : k ≠ 5 := fun h => e5 (by rw [h]; rfl)
    refine ⟨_, rfl, rfl, _, rfl, ?_⟩
    rcases Decidable.em (V.int (k : Int) = V.int 9) with e | e9
    · refine itT (decide_eq_true e) ?_
      obtain rfl : k = 9 := Int.ofNat.inj (V.int.inj e)
      rw [if_pos (by decide)] at z
      exact ⟨_, rfl, z⟩
    refine itF (decide_eq_false e9) ?_
    replace e9 : k ≠ 9 := fun h => e9 (by rw [h]; rfl)
    refine ⟨_, rfl, rfl, _, rfl, ?_⟩
    rcases Decidable.em (V.int (k : Int) = V.int 13) with e | e13
    · refine itT (decide_eq_true e) ?_
      obtain rfl : k = 13 := Int.ofNat.inj (V.int.inj e)
      rw [if_pos (by decide)] at z
      exact ⟨_, rfl, z⟩
    refine itF (decide_eq_false e13) ?_
    replace e13 : k ≠ 13 := fun h => e13 (by rw [h]; rfl)
    refine ⟨_, rfl, rfl, _, rfl, ?_⟩
    rcases Decidable.em (V.int (k : Int) = V.int 17) with e | e17
    · refine itT (decide_eq_true e) ?_
      obtain rfl : k = 17 := Int.ofNat.inj (V.int.inj e)
      rw [if_pos (by decide)] at z
      exact z
    refine itF (decide_eq_false e17) ?_
    replace e17 : k ≠ 17 := fun h => e17 (by rw [h]; rfl)
    refine ⟨_, rfl, rfl, _, rfl, ?_⟩
    rcases Decidable.em (V.int (k : Int) = V.int 21) with e | e21
    · refine itT (decide_eq_true e) ?_
      obtain rfl : k = 21 := Int.ofNat.inj (V.int.inj e)
      rw [if_pos (by decide)] at z
      exact z
    refine itF (decide_eq_false e21) ?_
    replace e21 : k ≠ 21 := fun h => e21 (by rw [h]; rfl)
    refine ⟨_, rfl, rfl, _, rfl, ?_⟩
    rcases Decidable.em (V.int (k : Int) = V.int 25) with e | e25
    · refine itT (decide_eq_true e) ?_
      obtain rfl : k = 25 := Int.ofNat.inj (V.int.inj e)
      rw [if_pos (by decide)] at z
      exact ⟨_, rfl, z⟩
    refine itF (decide_eq_false e25) ?_
    replace e25 : k ≠ 25 := fun h => e25 (by rw [h]; rfl)
    refine ⟨_, rfl, rfl, _, rfl, ?_⟩
    rcases Decidable.em (V.int (k : Int) = V.int 29) with e | e29
    · refine itT (decide_eq_true e) ?_
      obtain rfl : k = 29 := Int.ofNat.inj (V.int.inj e)
      rw [if_pos (by decide)] at z
      exact ⟨_, rfl, z⟩
    refine itF (decide_eq_false e29) ?_
    replace e29 : k ≠ 29 := fun h => e29 (by rw [h]; rfl)
    refine ⟨_, rfl, rfl, _, rfl, ?_⟩
    rcases Decidable.em (V.int (k : Int) = V.int 33) with e | e33
    · refine itT (decide_eq_true e) ?_
      obtain rfl : k = 33 := Int.ofNat.inj (V.int.inj e)
      rw [if_pos (by decide)] at z
      exact ⟨_, rfl, z⟩
    refine itF (decide_eq_false e33) ?_
    replace e33 : k ≠ 33 := fun h => e33 (by rw [h]; rfl)
    rw [if_neg (fun h => by
      have := List.contains_iff_mem.mp h
      simp only [List.mem_cons, List.not_mem_nil, or_false] at this
      omega)] at z
    exact z
def mC (k : Nat) : Bool := [2, 6, 10, 14, 18, 22, 26, 30, 34].contains k
theorem scC : FnScope ["which", "one", "other"] ["which", "one", "other"] (defScope sMC) := ⟨rfl, rfl, rfl, by decide +kernel, rfl, by decide +kernel, by decide +kernel⟩
theorem ok_mc (F : FnP K "_law_made_c" "_law_made_c" sMC [] f fd) (G : Cls38 P w K mg base c) : FnOk P w K mg base CX0 3 f fd ["which", "one", "other"] (spMd c mC) := by
  refine F.ok scC (fun vs H Q X z => ?_) (fun cdv A outer s H vs Q X hr z => ?_)
  · obtain ⟨k, one, other, rfl, _⟩ := z
    rfl
  · obtain ⟨k, one, other, rfl, hk, z⟩ := z
    refine ⟨_, PSs.nox (pss_cons (ps_if (pt_cmpR op_eq (pv 0) pe_int (nomark _)) (pss_one (ps_ret (mk0 (G 2 (by decide)).made (G 2 (by decide)).ec (G 2 (by decide)).at_ (by rfl)))) pss_nil)
      (pss_cons (ps_if (pt_cmpR op_eq (pv 0) pe_int (nomark _)) (pss_one (ps_ret (mk0 (G 6 (by decide)).made (G 6 (by decide)).ec (G 6 (by decide)).at_ (by rfl)))) pss_nil)
      (pss_cons (ps_if (pt_cmpR op_eq (pv 0) pe_int (nomark _)) (pss_one (ps_ret (mk1 (G 10 (by decide)).made hr pass0 (G 10 (by decide)).at_ (by rfl) (pv 1)))) pss_nil)
      (pss_cons (ps_if (pt_cmpR op_eq (pv 0) pe_int (nomark _)) (pss_one (ps_ret (mk1 (G 14 (by decide)).made hr pass0 (G 14 (by decide)).at_ (by rfl) (pv 1)))) pss_nil)
      (pss_cons (ps_if (pt_cmpR op_eq (pv 0) pe_int (nomark _)) (pss_one (ps_ret (mk0 (G 18 (by decide)).made (G 18 (by decide)).ec (G 18 (by decide)).at_ (by rfl)))) pss_nil)
      (pss_cons (ps_if (pt_cmpR op_eq (pv 0) pe_int (nomark _)) (pss_one (ps_ret (mk0 (G 22 (by decide)).made (G 22 (by decide)).ec (G 22 (by decide)).at_ (by rfl)))) pss_nil)
      (pss_cons (ps_if (pt_cmpR op_eq (pv 0) pe_int (nomark _)) (pss_one (ps_ret (mk1 (G 26 (by decide)).made hr pass0 (G 26 (by decide)).at_ (by rfl) (pv 1)))) pss_nil)
      (pss_cons (ps_if (pt_cmpR op_eq (pv 0) pe_int (nomark _)) (pss_one (ps_ret (mk0 (G 30 (by decide)).made (G 30 (by decide)).ec (G 30 (by decide)).at_ (by rfl)))) pss_nil)
      (pss_cons (ps_if (pt_cmpR op_eq (pv 0) pe_int (nomark _)) (pss_one (ps_ret (mk0 (G 34 (by decide)).made (G 34 (by decide)).ec (G 34 (by decide)).at_ (by rfl)))) pss_nil)
      (pss_one (ps_ret pe_non))))))))))), ?_⟩
    refine ⟨_, rfl, rfl, _, rfl, ?_⟩
    rcases Decidable.em (V.int (k : Int) = V.int 2) with e | e2
    · refine itT (decide_eq_true e) ?_
      obtain rfl : k = 2 := Int.ofNat.inj (V.int.inj e)
      rw [if_pos (by decide)] at z
      exact z
    refine itF (decide_eq_false e2) ?_
    replace e2 : k ≠ 2 := fun h => e2 (by rw [h]; rfl)
    refine ⟨_, rfl, rfl, _, rfl, ?_⟩
    rcases Decidable.em (V.int (k : Int) = V.int 6) with e | e6
    · refine itT (decide_eq_true e) ?_
      obtain rfl : k = 6 := Int.ofNat.inj (V.int.inj e)
      rw [if_pos (by decide)] at z
      exact z
    refine itF (decide_eq_false e6) ?_
    replace e6 : k ≠ 6 := fun h => e6 (by rw [h]; rfl)
    refine ⟨_, rfl, rfl, _, rfl, ?_⟩
    rcases Decidable.em (V.int (k : Int) = V.int 10) with e | e10
    · refine itT (decide_eq_true e) ?_
      obtain rfl : k = 10 := Int.ofNat.inj (V.int.inj e)
      rw [if_pos (by decide)] at z
      exact ⟨_, rfl, z⟩
    refine itF (decide_eq_false e10) ?_
    replace e10 : k ≠ 10 := fun h => e10 (by rw [h]; rfl)
    refine ⟨_, rfl, rfl, _, rfl, ?_⟩
    rcases Decidable.em (V.int (k : Int) = V.int 14) with e | e14
    · refine itT (decide_eq_true e) ?_
      obtain rfl : k = 14 := Int.ofNat.inj (V.int.inj e)
      rw [if_pos (by decide)] at z
      exact ⟨_, rfl, z⟩
    refine itF (decide_eq_false e14) ?_
    replace e14 : k ≠ 14 := fun h => e14 (by rw [h]; rfl)
    refine ⟨_, rfl, rfl, _, rfl, ?_⟩
    rcases Decidable.em (V.int (k : Int) = V.int 18) with e | e18
    · refine itT (decide_eq_true e) ?_
      obtain rfl : k = 18 := Int.ofNat.inj (V.int.inj e)
      rw [if_pos (by decide)] at z
      exact z
    refine itF (decide_eq_false e18) ?_
    replace e18 : k ≠ 18 := fun h => e18 (by rw [h]; rfl)
    refine ⟨_, rfl, rfl, _, rfl, ?_⟩
    rcases Decidable.em (V.int (k : Int) = V.int 22) with e | e22
    · refine itT (decide_eq_true e) ?_
      obtain rfl : k = 22 := Int.ofNat.inj (V.int.inj e)
      rw [if_pos (by decide)] at z
      exact z
    refine itF (decide_eq_false e22) ?_
    replace e22 : k ≠ 22 := fun h => e22 (by rw [h]; rfl)
    refine ⟨_, rfl, rfl, _, rfl, ?_⟩
    rcases Decidable.em (V.int (k : Int) = V.int 26) with e | e26
    · refine itT (decide_eq_true e) ?_
      obtain rfl : k = 26 := Int.ofNat.inj (V.int.inj e)
      rw [if_pos (by decide)] at z
      exact ⟨_, rfl, z⟩
    refine itF (decide_eq_false e26) ?_
    replace e26 : k ≠ 26 := fun h => e26 (by rw [h]; rfl)
    refine ⟨_, rfl, rfl, _, rfl, ?_⟩
    rcases Decidable.em (V.int (k : Int) = V.int 30) with e | e30
    · refine itT (decide_eq_true e) ?_
      obtain rfl : k = 30 := Int.ofNat.inj (V.int.inj e)
      rw [if_pos (by decide)] at z
      exact z
    refine itF (decide_eq_false e30) ?_
    replace e30 : k ≠ 30 := fun h => e30 (by rw [h]; rfl)
    refine ⟨_, rfl, rfl, _, rfl, ?_⟩
    rcases Decidable.em (V.int (k : Int) = V.int 34) with e | e34
    · refine itT (decide_eq_true e) ?_
      obtain rfl : k = 34 := Int.ofNat.inj (V.int.inj e)
      rw [if_pos (by decide)] at z
      exact z
    refine itF (decide_eq_false e34) ?_
    replace e34 : k ≠ 34 := fun h => e34 (by rw [h]; rfl)
    rw [if_neg (fun h => by
      have := List.contains_iff_mem.mp h
      simp only [List.mem_cons, List.not_mem_nil, or_false] at this
      omega)] at z
    exact z
def mD (k : Nat) : Bool := [3, 7, 11, 15, 19, 23, 27, 31, 35].contains k
theorem scD : FnScope ["which", "one", "other"] ["which", "one", "other"] (defScope sMD) := ⟨rfl, rfl, rfl, by decide +kernel, rfl, by decide +kernel, by decide +kernel⟩
theorem ok_md (F : FnP K "_law_made_d" "_law_made_d" sMD [] f fd) (G : Cls38 P w K mg base c) : FnOk P w K mg base CX0 3 f fd ["which", "one", "other"] (spMd c mD) := by
  refine F.ok scD (fun vs H Q X z => ?_) (fun cdv A outer s H vs Q X hr z => ?_)
  · obtain ⟨k, one, other, rfl, _⟩ := z
    rfl
  · obtain ⟨k, one, other, rfl, hk, z⟩ := z
    refine ⟨_, PSs.nox (pss_cons (ps_if (pt_cmpR op_eq (pv 0) pe_int (nomark _)) (pss_one (ps_ret (mk2 (G 3 (by decide)).made hr pass0 (G 3 (by decide)).at_ (by rfl) (pv 1) (pv 2)))) pss_nil)
      (pss_cons (ps_if (pt_cmpR op_eq (pv 0) pe_int (nomark _)) (pss_one (ps_ret (mk0 (G 7 (by decide)).made (G 7 (by decide)).ec (G 7 (by decide)).at_ (by rfl)))) pss_nil)
      (pss_cons (ps_if (pt_cmpR op_eq (pv 0) pe_int (nomark _)) (pss_one (ps_ret (mk1 (G 11 (by decide)).made hr pass0 (G 11 (by decide)).at_ (by rfl) (pv 1)))) pss_nil)
      (pss_cons (ps_if (pt_cmpR op_eq (pv 0) pe_int (nomark _)) (pss_one (ps_ret (mk1 (G 15 (by decide)).made hr pass0 (G 15 (by decide)).at_ (by rfl) (pv 1)))) pss_nil)
      (pss_cons (ps_if (pt_cmpR op_eq (pv 0) pe_int (nomark _)) (pss_one (ps_ret (mk0 (G 19 (by decide)).made (G 19 (by decide)).ec (G 19 (by decide)).at_ (by rfl)))) pss_nil)
      (pss_cons (ps_if (pt_cmpR op_eq (pv 0) pe_int (nomark _)) (pss_one (ps_ret (mk0 (G 23 (by decide)).made (G 23 (by decide)).ec (G 23 (by decide)).at_ (by rfl)))) pss_nil)
      (pss_cons (ps_if (pt_cmpR op_eq (pv 0) pe_int (nomark _)) (pss_one (ps_ret (mk1 (G 27 (by decide)).made hr pass0 (G 27 (by decide)).at_ (by rfl) (pv 1)))) pss_nil)
      (pss_cons (ps_if (pt_cmpR op_eq (pv 0) pe_int (nomark _)) (pss_one (ps_ret (mk0 (G 31 (by decide)).made (G 31 (by decide)).ec (G 31 (by decide)).at_ (by rfl)))) pss_nil)
      (pss_cons (ps_if (pt_cmpR op_eq (pv 0) pe_int (nomark _)) (pss_one (ps_ret (mk2 (G 35 (by decide)).made hr pass0 (G 35 (by decide)).at_ (by rfl) (pv 1) (pv 2)))) pss_nil)
      (pss_one (ps_ret pe_non))))))))))), ?_⟩
    refine ⟨_, rfl, rfl, _, rfl, ?_⟩
    rcases Decidable.em (V.int (k : Int) = V.int 3) with e | e3
    · refine itT (decide_eq_true e) ?_
      obtain rfl : k = 3 := Int.ofNat.inj (V.int.inj e)
      rw [if_pos (by decide)] at z
      exact ⟨_, rfl, _, rfl, z⟩
    refine itF (decide_eq_false e3) ?_
    replace e3 : k ≠ 3 := fun h => e3 (by rw [h]; rfl)
    refine ⟨_, rfl, rfl, _, rfl, ?_⟩
    rcases Decidable.em (V.int (k : Int) = V.int 7) with e | e7
    · refine itT (decide_eq_true e) ?_
      obtain rfl : k = 7 := Int.ofNat.inj (V.int.inj e)
      rw [if_pos (by decide)] at z
      exact z
    refine itF (decide_eq_false e7) ?_
    replace e7 : k ≠ 7 := fun h => e7 (by rw [h]; rfl)
    refine ⟨_, rfl, rfl, _, rfl, ?_⟩
    rcases Decidable.em (V.int (k : Int) = V.int 11) with e | e11
    · refine itT (decide_eq_true e) ?_
      obtain rfl : k = 11 := Int.ofNat.inj (V.int.inj e)
      rw [if_pos (by decide)] at z
      exact ⟨_, rfl, z⟩
    refine itF (decide_eq_false e11) ?_
    replace e11 : k ≠ 11 := fun h => e11 (by rw [h]; rfl)
    refine ⟨_, rfl, rfl, _, rfl, ?_⟩
    rcases Decidable.em (V.int (k : Int) = V.int 15) with e | e15
    · refine itT (decide_eq_true e) ?_
      obtain rfl : k = 15 := Int.ofNat.inj (V.int.inj e)
      rw [if_pos (by decide)] at z
      exact ⟨_, rfl, z⟩
    refine itF (decide_eq_false e15) ?_
    replace e15 : k ≠ 15 := fun h => e15 (by rw [h]; rfl)
    refine ⟨_, rfl, rfl, _, rfl, ?_⟩
    rcases Decidable.em (V.int (k : Int) = V.int 19) with e | e19
    · refine itT (decide_eq_true e) ?_
      obtain rfl : k = 19 := Int.ofNat.inj (V.int.inj e)
      rw [if_pos (by decide)] at z
      exact z
    refine itF (decide_eq_false e19) ?_
    replace e19 : k ≠ 19 := fun h => e19 (by rw [h]; rfl)
    refine ⟨_, rfl, rfl, _, rfl, ?_⟩
    rcases Decidable.em (V.int (k : Int) = V.int 23) with e | e23
    · refine itT (decide_eq_true e) ?_
      obtain rfl : k = 23 := Int.ofNat.inj (V.int.inj e)
      rw [if_pos (by decide)] at z
      exact z
    refine itF (decide_eq_false e23) ?_
    replace e23 : k ≠ 23 := fun h => e23 (by rw [h]; rfl)
    refine ⟨_, rfl, rfl, _, rfl, ?_⟩
    rcases Decidable.em (V.int (k : Int) = V.int 27) with e | e27
    · refine itT (decide_eq_true e) ?_
      obtain rfl : k = 27 := Int.ofNat.inj (V.int.inj e)
      rw [if_pos (by decide)] at z
      exact ⟨_, rfl, z⟩
    refine itF (decide_eq_false e27) ?_
    replace e27 : k ≠ 27 := fun h => e27 (by rw [h]; rfl)
    refine ⟨_, rfl, rfl, _, rfl, ?_⟩
    rcases Decidable.em (V.int (k : Int) = V.int 31) with e | e31
    · refine itT (decide_eq_true e) ?_
      obtain rfl : k = 31 := Int.ofNat.inj (V.int.inj e)
      rw [if_pos (by decide)] at z
      exact z
    refine itF (decide_eq_false e31) ?_
    replace e31 : k ≠ 31 := fun h => e31 (by rw [h]; rfl)
    refine ⟨_, rfl, rfl, _, rfl, ?_⟩
    rcases Decidable.em (V.int (k : Int) = V.int 35) with e | e35
    · refine itT (decide_eq_true e) ?_
      obtain rfl : k = 35 := Int.ofNat.inj (V.int.inj e)
      rw [if_pos (by decide)] at z
      exact ⟨_, rfl, _, rfl, z⟩
    refine itF (decide_eq_false e35) ?_
    replace e35 : k ≠ 35 := fun h => e35 (by rw [h]; rfl)
    rw [if_neg (fun h => by
      have := List.contains_iff_mem.mp h
      simp only [List.mem_cons, List.not_mem_nil, or_false] at this
      omega)] at z
    exact z
end
end K1

set_option Elab.async false
set_option linter.all false
set_option maxRecDepth 100000
set_option maxHeartbeats 4000000
/-! law k01: _law_made and _law_field -/
namespace K1
open PySem L2 TL
def spMade (c : Nat → Addr) : Sp := fun vs H Q _ => ∃ (k : Nat) (one other : V), vs = [.int k, one, other] ∧ k < 38 ∧ Made c k one other H Q
theorem nx_ {n : St → Hp → Prop} {r2 : VK} {b2 c2 : St → Hp → Prop} {σ : St} {H : Hp} (h : n σ H) : tNext { nx := n, rt := r2, bk := b2, ct := c2 } σ H := h
theorem sq {a b : TS} {D : Ends} {σ : St} {H : Hp} (h : a { D with nx := b D } σ H) : tSeq a b D σ H := h
theorem md_step {c : Nat → Addr} {m : Nat → Bool} {k : Nat} {one other : V} {H : Hp} {Q : VK} {E : XK} (hk : k < 38)
    (q : ∀ v H', Same H H' → ((v = .non ∧ m k = false) ∨ ∃ a, v = .ref a ∧ m k = true ∧ ErrAt H' a (c k) (fsOf k one other)) → Q v H') : spMd c m [.int k, one, other] H Q E := by
  refine ⟨k, one, other, rfl, hk, ?_⟩
  cases h : m k with
  | true => exact fun a H' s e => q _ _ s (.inr ⟨a, rfl, h, e⟩)
  | false => exact q _ _ (Same.refl H) (.inl ⟨rfl, h⟩)
theorem rest_d : ∀ k < 38, mA k = false → mB k = false → mC k = false → k ≠ 37 → mD k = true := by decide +kernel
section
variable {P : Program} {w : World} {K : PySem.W.Frag} {mg : Str → Option Value} {base : Heap} {c : Nat → Addr} {f : Addr} {fd : FuncData}
theorem scMade : FnScope ["which", "one", "other", "found"] ["which", "one", "other"] (defScope sMade) := ⟨rfl, rfl, rfl, by decide +kernel, rfl, by decide +kernel, by decide +kernel⟩
theorem ok_made (F : FnP K "_law_made" "_law_made" sMade [] f fd) (T : Txt K mg) (G : Cls38 P w K mg base c) (DA : GloOk P w K mg base CX0 3 "_law_made_a" ["which", "one", "other"] (spMd c mA)) (DB : GloOk P w K mg base CX0 3 "_law_made_b" ["which", "one", "other"] (spMd c mB))
    (DC : GloOk P w K mg base CX0 3 "_law_made_c" ["which", "one", "other"] (spMd c mC)) (DD : GloOk P w K mg base CX0 3 "_law_made_d" ["which", "one", "other"] (spMd c mD)) : FnOk P w K mg base CX0 4 f fd ["which", "one", "other"] (spMade c) := by
  obtain ⟨a1, d1, G1, m1, k1, b1⟩ := DA
  obtain ⟨a2, d2, G2, m2, k2, b2⟩ := DB
  obtain ⟨a3, d3, G3, m3, k3, b3⟩ := DC
  obtain ⟨a4, d4, G4, m4, k4, b4⟩ := DD
  refine F.ok scMade (fun vs H Q X z => ?_) (fun cdv A outer s H vs Q X hr z => ?_)
  · obtain ⟨k, one, other, rfl, _⟩ := z
    rfl
  · obtain ⟨k, one, other, rfl, hk, z⟩ := z
    refine ⟨_, PSs.nox (pss_cons (ps_for PassesOwn.never rfl (pi_list (pe_lst (pa_cons (pe_call G1 hr rfl m1 k1 b1 .nil pass0 (pa_cons (pv 0) (pa_cons (pv 1) (pa_cons (pv 2) pa_nil))))
        (pa_cons (pe_call G2 hr rfl m2 k2 b2 .nil pass0 (pa_cons (pv 0) (pa_cons (pv 1) (pa_cons (pv 2) pa_nil)))) (pa_cons (pe_call G3 hr rfl m3 k3 b3 .nil pass0 (pa_cons (pv 0) (pa_cons (pv 1) (pa_cons (pv 2) pa_nil)))) pa_nil))))) (pg_name (i := 3) scMade.nd rfl (Or.inl rfl))
        (pss_one (ps_if (pt_cmpR op_notN1 (pv 3) pe_non (nomark _)) (pss_one (ps_ret (pv 3))) pss_nil)))
      (pss_cons (ps_if (pt_cmpR op_eq (pv 0) pe_int (nomark _)) (pss_one (ps_ret (mk0 (G 37 (by decide)).made (G 37 (by decide)).ec (G 37 (by decide)).at_ (by rfl)))) pss_nil)
      (pss_one (ps_ret (pe_call G4 hr rfl m4 k4 b4 .nil pass0 (pa_cons (pv 0) (pa_cons (pv 1) (pa_cons (pv 2) pa_nil)))))))), ?_⟩
    refine ⟨_, rfl, _, rfl, _, rfl, md_step (E := E0) hk fun v1 H1 s1 e1 => ?_⟩
    refine ⟨_, rfl, _, rfl, _, rfl, md_step (E := E0) hk fun v2 H2 s2 e2 => ?_⟩
    refine ⟨_, rfl, _, rfl, _, rfl, md_step (E := E0) hk fun v3 H3 s3 e3 => ?_⟩
    refine ⟨(by show 3 ≤ sizeLine; decide), fun p np => ⟨p, rfl, ⟨_, SqL.of upd_same⟩, ?_⟩⟩
    have sH3 : Same H3 (upd H3 p (.lst [v1, v2, v3])) := new np
    have sH : Same H (upd H3 p (.lst [v1, v2, v3])) := (s1.trans (s2.trans s3)).trans sH3
    have E1 : ∀ a, v1 = .ref a → ErrAt H3 a (c k) (fsOf k one other) := fun a h => by
      rcases e1 with ⟨h2, _⟩ | ⟨b, h2, _, e⟩
      · rw [h2] at h; cases h
      · rw [h2] at h; cases h; exact e.keep (s2.trans s3)
    have E2 : ∀ a, v2 = .ref a → ErrAt H3 a (c k) (fsOf k one other) := fun a h => by
      rcases e2 with ⟨h2, _⟩ | ⟨b, h2, _, e⟩
      · rw [h2] at h; cases h
      · rw [h2] at h; cases h; exact e.keep s3
    have E3 : ∀ a, v3 = .ref a → ErrAt H3 a (c k) (fsOf k one other) := fun a h => by
      rcases e3 with ⟨h2, _⟩ | ⟨b, h2, _, e⟩
      · rw [h2] at h; cases h
      · rw [h2] at h; cases h; exact e
    have alt : ∀ x ∈ [v1, v2, v3], x = .non ∨ ∃ a, x = .ref a ∧ ErrAt H3 a (c k) (fsOf k one other) := fun x hx => by
      rcases List.mem_cons.mp hx with rfl | hx
      · rcases e1 with ⟨h2, _⟩ | ⟨b, h2, _, e⟩
        · exact .inl h2
        · exact .inr ⟨b, h2, E1 b h2⟩
      rcases List.mem_cons.mp hx with rfl | hx
      · rcases e2 with ⟨h2, _⟩ | ⟨b, h2, _, e⟩
        · exact .inl h2
        · exact .inr ⟨b, h2, E2 b h2⟩
      rcases List.mem_cons.mp hx with rfl | hx
      · rcases e3 with ⟨h2, _⟩ | ⟨b, h2, _, e⟩
        · exact .inl h2
        · exact .inr ⟨b, h2, E3 b h2⟩
      · cases hx
    refine for_it walk_list (fun i σ H' => H' = upd H3 p (.lst [v1, v2, v3]) ∧ (∃ u, σ = [some (.int k), some one, some other, u]) ∧ ∀ j, j < i → ∀ x, [v1, v2, v3][j]? = some x → x = .non) ⟨rfl, ⟨_, rfl⟩, fun j h => absurd h (Nat.not_lt_zero j)⟩ (fun _ _ _ _ h => by rw [h.1]; exact SqL.of upd_same) ?_ ?_
    · rintro i x σ H4 H4' hi ⟨rfl, ⟨u, rfl⟩, hj⟩ ⟨rfl, hx⟩
      refine ⟨_, rfl, rfl, _, rfl, ?_⟩
      rcases alt x (List.mem_of_getElem? hx) with rfl | ⟨a, rfl, ea⟩
      · refine itF (by simp) (nx_ ⟨rfl, ⟨_, rfl⟩, fun j hj' y hy => ?_⟩)
        rcases Nat.lt_or_eq_of_le (Nat.le_of_lt_succ hj') with h | rfl
        · exact hj j h y hy
        · rw [hx] at hy; cases hy; rfl
      · exact itT (by simp) ⟨_, rfl, z a _ sH (ea.keep sH3)⟩
    · rintro σ H4 ⟨rfl, ⟨u, rfl⟩, hj⟩
      have n1 := hj 0 (by show 0 < 3; decide) v1 rfl
      have n2 := hj 1 (by show 1 < 3; decide) v2 rfl
      have n3 := hj 2 (by show 2 < 3; decide) v3 rfl
      subst n1 n2 n3
      have f1 : mA k = false := by rcases e1 with ⟨_, h⟩ | ⟨_, h, _⟩; exact h; cases h
      have f2 : mB k = false := by rcases e2 with ⟨_, h⟩ | ⟨_, h, _⟩; exact h; cases h
      have f3 : mC k = false := by rcases e3 with ⟨_, h⟩ | ⟨_, h, _⟩; exact h; cases h
      refine ⟨_, rfl, rfl, _, rfl, ?_⟩
      rcases Decidable.em (V.int (k : Int) = V.int 37) with e | e
      · refine itT (decide_eq_true e) ?_
        obtain rfl : k = 37 := Int.ofNat.inj (V.int.inj e)
        exact fun a H' s ea => z a H' (sH.trans s) ea
      · refine itF (decide_eq_false e) ?_
        have hd := rest_d k hk f1 f2 f3 fun h => e (by rw [h]; rfl)
        refine ⟨_, rfl, _, rfl, _, rfl, md_step (E := E0) hk fun v4 H5 s5 e5 => ?_⟩
        rcases e5 with ⟨_, h⟩ | ⟨a, rfl, _, ea⟩
        · rw [hd] at h; cases h
        · exact z a _ (sH.trans s5) ea
def spField (c : Nat → Addr) : Sp := fun vs H Q _ => ∃ (a : Addr) (k : Nat) (fs : List (Str × V)) (wd : Str) (v : V), vs = [.ref a, .str wd] ∧ k < 38 ∧ ErrAt H a (c k) fs ∧ wd ∈ fdsOf k ∧ fs.lookup wd = some v ∧ Q v H
theorem all_fields : ∀ k < 38, ∀ f ∈ fdsOf k, f ∈ (["word", "place", "time", "name", "most", "kind", "what"] : List Str) := by decide +kernel
theorem scField : FnScope ["error", "word"] ["error", "word"] (defScope sField) := ⟨rfl, rfl, rfl, by decide +kernel, rfl, by decide +kernel, by decide +kernel⟩
theorem ok_field (F : FnP K "_law_field" "_law_field" sField [] f fd) (G : Cls38 P w K mg base c) : FnOk P w K mg base CX0 1 f fd ["error", "word"] (spField c) := by
  refine F.ok scField (fun vs H Q X z => ?_) (fun cdv A outer s H vs Q X hr z => ?_)
  · obtain ⟨a, k, fs, wd, v, rfl, _⟩ := z
    rfl
  · obtain ⟨a, k, fs, wd, v, rfl, hk, ea, hw, l, z⟩ := z
    have ec := (G k hk).ec
    have no := (G k hk).no wd hw
    have hm := all_fields k hk wd hw
    refine ⟨_, PSs.nox (pss_cons (ps_if (pt_cmpR op_eq (pv 1) pe_str (nomark _)) (pss_one (ps_ret (pe_errf (pv 0)))) pss_nil)
      (pss_cons (ps_if (pt_cmpR op_eq (pv 1) pe_str (nomark _)) (pss_one (ps_ret (pe_errf (pv 0)))) pss_nil)
      (pss_cons (ps_if (pt_cmpR op_eq (pv 1) pe_str (nomark _)) (pss_one (ps_ret (pe_errf (pv 0)))) pss_nil)
      (pss_cons (ps_if (pt_cmpR op_eq (pv 1) pe_str (nomark _)) (pss_one (ps_ret (pe_errf (pv 0)))) pss_nil)
      (pss_cons (ps_if (pt_cmpR op_eq (pv 1) pe_str (nomark _)) (pss_one (ps_ret (pe_errf (pv 0)))) pss_nil)
      (pss_cons (ps_if (pt_cmpR op_eq (pv 1) pe_str (nomark _)) (pss_one (ps_ret (pe_errf (pv 0)))) pss_nil)
      (pss_cons (ps_if (pt_cmpR op_eq (pv 1) pe_str (nomark _)) (pss_one (ps_ret (pe_errf (pv 0)))) pss_nil)
      (pss_one (ps_ret pe_non))))))))), ?_⟩
    refine ⟨_, rfl, rfl, _, rfl, ?_⟩
    rcases Decidable.em (V.str wd = V.str "word") with e | e0
    · refine itT (decide_eq_true e) ?_
      cases V.str.inj e
      exact ⟨_, rfl, a, c k, fs, v, rfl, ea, ec, no, l, z⟩
    refine itF (decide_eq_false e0) ?_
    replace e0 : wd ≠ "word" := fun h => e0 (by rw [h])
    refine ⟨_, rfl, rfl, _, rfl, ?_⟩
    rcases Decidable.em (V.str wd = V.str "place") with e | e1
    · refine itT (decide_eq_true e) ?_
      cases V.str.inj e
      exact ⟨_, rfl, a, c k, fs, v, rfl, ea, ec, no, l, z⟩
    refine itF (decide_eq_false e1) ?_
    replace e1 : wd ≠ "place" := fun h => e1 (by rw [h])
    refine ⟨_, rfl, rfl, _, rfl, ?_⟩
    rcases Decidable.em (V.str wd = V.str "time") with e | e2
    · refine itT (decide_eq_true e) ?_
      cases V.str.inj e
      exact ⟨_, rfl, a, c k, fs, v, rfl, ea, ec, no, l, z⟩
    refine itF (decide_eq_false e2) ?_
    replace e2 : wd ≠ "time" := fun h => e2 (by rw [h])
    refine ⟨_, rfl, rfl, _, rfl, ?_⟩
    rcases Decidable.em (V.str wd = V.str "name") with e | e3
    · refine itT (decide_eq_true e) ?_
      cases V.str.inj e
      exact ⟨_, rfl, a, c k, fs, v, rfl, ea, ec, no, l, z⟩
    refine itF (decide_eq_false e3) ?_
    replace e3 : wd ≠ "name" := fun h => e3 (by rw [h])
    refine ⟨_, rfl, rfl, _, rfl, ?_⟩
    rcases Decidable.em (V.str wd = V.str "most") with e | e4
    · refine itT (decide_eq_true e) ?_
      cases V.str.inj e
      exact ⟨_, rfl, a, c k, fs, v, rfl, ea, ec, no, l, z⟩
    refine itF (decide_eq_false e4) ?_
    replace e4 : wd ≠ "most" := fun h => e4 (by rw [h])
    refine ⟨_, rfl, rfl, _, rfl, ?_⟩
    rcases Decidable.em (V.str wd = V.str "kind") with e | e5
    · refine itT (decide_eq_true e) ?_
      cases V.str.inj e
      exact ⟨_, rfl, a, c k, fs, v, rfl, ea, ec, no, l, z⟩
    refine itF (decide_eq_false e5) ?_
    replace e5 : wd ≠ "kind" := fun h => e5 (by rw [h])
    refine ⟨_, rfl, rfl, _, rfl, ?_⟩
    rcases Decidable.em (V.str wd = V.str "what") with e | e6
    · refine itT (decide_eq_true e) ?_
      cases V.str.inj e
      exact ⟨_, rfl, a, c k, fs, v, rfl, ea, ec, no, l, z⟩
    refine itF (decide_eq_false e6) ?_
    replace e6 : wd ≠ "what" := fun h => e6 (by rw [h])
    exfalso
    simp only [List.mem_cons, List.not_mem_nil, or_false] at hm
    rcases hm with h | h | h | h | h | h | h
    · exact e0 h
    · exact e1 h
    · exact e2 h
    · exact e3 h
    · exact e4 h
    · exact e5 h
    · exact e6 h
end
end K1

set_option Elab.async false
set_option linter.all false
set_option maxRecDepth 100000
set_option maxHeartbeats 4000000
/-! law k01: _law_kinds -/
namespace K1
open PySem L2 TL
def kL (k n : Nat) : List V := (List.range n).map fun j => V.bl (decide (k = j))
def spKinds (c : Nat → Addr) : Sp := fun vs H Q _ => ∃ (a : Addr) (k : Nat) (fs : List (Str × V)), vs = [.ref a] ∧ k < 38 ∧ ErrAt H a (c k) fs ∧ ∀ H', Same H H' → Q (.int (if k < 37 then 1 else 0)) H'
theorem kL_add (k : Nat) : ∀ n, kL k n ++ [V.bl (decide (k = n))] = kL k (n + 1) := fun n => by
  unfold kL
  rw [List.range_succ, List.map_append]
  rfl
theorem kL3 (k n : Nat) : kL k n ++ [V.bl (decide (k = n)), V.bl (decide (k = n + 1)), V.bl (decide (k = n + 2))] = kL k (n + 3) := by
  rw [show [V.bl (decide (k = n)), V.bl (decide (k = n + 1)), V.bl (decide (k = n + 2))] = [V.bl (decide (k = n))] ++ ([V.bl (decide (k = n + 1))] ++ [V.bl (decide (k = n + 2))]) from rfl, ← List.append_assoc, kL_add, ← List.append_assoc, kL_add, kL_add]
theorem kL_len (k n : Nat) : (kL k n).length = n := by
  unfold kL
  rw [List.length_map, List.length_range]
def kI (k : Nat) : List Int := (List.range 37).map fun j => if decide (k = j) then 1 else 0
theorem kI_len (k : Nat) : (kI k).length = 37 := by
  unfold kI
  rw [List.length_map, List.length_range]
theorem kI_all (k : Nat) : (kI k).take 37 = kI k := List.take_of_length_le (Nat.le_of_eq (kI_len k))
theorem kI_take (k j : Nat) (h : j < 37) : some (HO.lst (((kI k).take j).map V.int ++ [V.int (if decide (k = j) then 1 else 0)])) = some (HO.lst (((kI k).take (j + 1)).map V.int)) := by
  have e : (kI k)[j]? = some (if decide (k = j) then 1 else 0) := by
    unfold kI
    rw [List.getElem?_map, List.getElem?_range h]
    rfl
  rw [List.take_add_one, e, List.map_append]
  rfl
theorem kI_sum : ∀ k < 38, (kI k).sum = if k < 37 then 1 else 0 := by decide +kernel
/-- isinstance(error, the class of the row j) -/
def tK (c : Nat → Addr) (j : Nat) : TE := fun σ H Q => ∃ (a : Addr) (k : Nat) (fs : List (Str × V)), σ[0]? = some (some (.ref a)) ∧ k < 38 ∧ ErrAt H a (c k) fs ∧ Q (.bl (decide (k = j))) H
theorem pe_k {X : Cx} {c : Nat → Addr} {j : Nat} {p p1 p2 pos : Pos} {x : Str} (hj : j < 37) (G : Cls38 X.prog X.w X.K X.mg X.base c) (O : ObjC X.K) (hg : Gl X "isinstance") (hm : X.mg "isinstance" = none) (he : PE X (.Name "error" p1) (tVar 0)) (hc : PE X (.Name x p2) (tC (.ref (c j))))
    (hs : starEach [.Name "error" p1, .Name x p2] X.env = (false, eval (.Name "error" p1) X.env) :: starEach [.Name x p2] X.env := by rfl) : PE X (.Call (.Name "isinstance" p) [.Name "error" p1, .Name x p2] [] pos) (tK c j) :=
  PE.weak (pe_callB (call_isErr O) hg hm (by decide +kernel) (pa_cons he (pa_cons hc pa_nil))) fun σ H Q z => by
    obtain ⟨a, k, fs, h, hk, ea, q⟩ := z
    exact ⟨_, h, a, c k, fs, .ref (c j), .ref (c j), decide (k = j), rfl, ea, (G k hk).ec, fun u h => h, (G k hk).kinds j hj, q⟩
def tK3 (c : Nat → Addr) (n : Nat) : TE := fun σ H Q => ∃ (a : Addr) (k : Nat) (fs : List (Str × V)), σ[0]? = some (some (.ref a)) ∧ k < 38 ∧ ErrAt H a (c k) fs ∧ ∀ p, H p = none → Q (.ref p) (upd H p (.lst [V.bl (decide (k = n)), V.bl (decide (k = n + 1)), V.bl (decide (k = n + 2))]))
theorem pe_k3 {X : Cx} {c : Nat → Addr} {n : Nat} {es : List Expr} {pos : Pos} (h : PA X es (tCons (tK c n) (tCons (tK c (n + 1)) (tCons (tK c (n + 2)) tNil)))) : PE X (.List es pos) (tK3 c n) :=
  PE.weak (pe_lst h) fun σ H Q z => by
    obtain ⟨a, k, fs, e, hk, ea, q⟩ := z
    exact ⟨a, k, fs, e, hk, ea, a, k, fs, e, hk, ea, a, k, fs, e, hk, ea, (by show 3 ≤ sizeLine; decide), q⟩
def tKc (c : Nat → Addr) (n m : Nat) : TE := fun σ H Q => ∃ (a : Addr) (k : Nat) (fs : List (Str × V)) (l : Addr), σ[0]? = some (some (.ref a)) ∧ σ[1]? = some (some (.ref l)) ∧ k < 38 ∧ ErrAt H a (c k) fs ∧ H l = some (.lst (kL k n)) ∧ ∀ l' H', Same H H' → H' l' = some (.lst (kL k (n + m))) → Q (.ref l') H'
theorem pe_kc {X : Cx} {c : Nat → Addr} {n : Nat} {es : List Expr} {e : Expr} {p pos : Pos} (hn : n ≤ 900) (he : PE X e (tVar 1)) (h : PA X es (tCons (tK c n) (tCons (tK c (n + 1)) (tCons (tK c (n + 2)) tNil)))) : PE X (.BinOp e .Add (.List es p) pos) (tKc c n 3) :=
  PE.weak (pe_op op_cat he (pe_k3 h)) fun σ H Q z => by
    obtain ⟨a, k, fs, l, e, e1, hk, ea, el, q⟩ := z
    refine ⟨_, e1, a, k, fs, e, hk, ea, fun b nb => ⟨l, b, _, _, rfl, rfl, new nb _ _ el, upd_same, ?_, fun p np => q p _ ((new nb).trans (new np)) ?_⟩⟩
    · rw [kL_len]
      exact Nat.le_trans (show n + 3 ≤ 1000 by omega) (by decide)
    · rw [upd_same, kL3]
theorem pe_kc1 {X : Cx} {c : Nat → Addr} {n : Nat} {es : List Expr} {e : Expr} {p pos : Pos} (hn : n ≤ 900) (he : PE X e (tVar 1)) (h : PA X es (tCons (tK c n) tNil)) : PE X (.BinOp e .Add (.List es p) pos) (tKc c n 1) :=
  PE.weak (pe_op op_cat he (pe_lst h)) fun σ H Q z => by
    obtain ⟨a, k, fs, l, e, e1, hk, ea, el, q⟩ := z
    refine ⟨_, e1, a, k, fs, e, hk, ea, (by show 1 ≤ sizeLine; decide), fun b nb => ⟨l, b, _, _, rfl, rfl, new nb _ _ el, upd_same, ?_, fun p np => q p _ ((new nb).trans (new np)) ?_⟩⟩
    · rw [kL_len]
      exact Nat.le_trans (show n + 1 ≤ 1000 by omega) (by decide)
    · rw [upd_same, kL_add]
section
variable {P : Program} {w : World} {K : PySem.W.Frag} {mg : Str → Option Value} {base : Heap} {c : Nat → Addr} {f : Addr} {fd : FuncData}
theorem scKinds : FnScope ["error", "kinds", "kind"] ["error"] (defScope sKinds) := ⟨rfl, rfl, rfl, by decide +kernel, rfl, by decide +kernel, by decide +kernel⟩
theorem ok_kinds (F : FnP K "_law_kinds" "_law_kinds" sKinds [] f fd) (T : Txt K mg) (O : ObjC K) (G : Cls38 P w K mg base c) : FnOk P w K mg base CX0 1 f fd ["error"] (spKinds c) := by
  refine F.ok scKinds (fun vs H Q X z => ?_) (fun cdv A outer s H vs Q X hr z => ?_)
  · obtain ⟨a, k, fs, rfl, _⟩ := z
    rfl
  · obtain ⟨a, k, fs, rfl, hk, ea, z⟩ := z
    refine ⟨_, PSs.nox (pss_cons (ps_set (i := 1) scKinds.nd rfl (Or.inl rfl) (pe_k3 (n := 0) (pa_cons (pe_k (by decide) G O (by rfl) T.isinst (pv 0) (pe_glob (v := .ref (c 0)) (by rfl) (G 0 (by decide)).at_ rfl)) (pa_cons (pe_k (by decide) G O (by rfl) T.isinst (pv 0) (pe_glob (v := .ref (c 1)) (by rfl) (G 1 (by decide)).at_ rfl)) (pa_cons (pe_k (by decide) G O (by rfl) T.isinst (pv 0) (pe_glob (v := .ref (c 2)) (by rfl) (G 2 (by decide)).at_ rfl)) pa_nil)))))
      (pss_cons (ps_set (i := 1) scKinds.nd rfl (Or.inl rfl) (pe_kc (n := 3) (by decide) (pv 1) (pa_cons (pe_k (by decide) G O (by rfl) T.isinst (pv 0) (pe_glob (v := .ref (c 3)) (by rfl) (G 3 (by decide)).at_ rfl)) (pa_cons (pe_k (by decide) G O (by rfl) T.isinst (pv 0) (pe_glob (v := .ref (c 4)) (by rfl) (G 4 (by decide)).at_ rfl)) (pa_cons (pe_k (by decide) G O (by rfl) T.isinst (pv 0) (pe_glob (v := .ref (c 5)) (by rfl) (G 5 (by decide)).at_ rfl)) pa_nil)))))
      (pss_cons (ps_set (i := 1) scKinds.nd rfl (Or.inl rfl) (pe_kc (n := 6) (by decide) (pv 1) (pa_cons (pe_k (by decide) G O (by rfl) T.isinst (pv 0) (pe_glob (v := .ref (c 6)) (by rfl) (G 6 (by decide)).at_ rfl)) (pa_cons (pe_k (by decide) G O (by rfl) T.isinst (pv 0) (pe_glob (v := .ref (c 7)) (by rfl) (G 7 (by decide)).at_ rfl)) (pa_cons (pe_k (by decide) G O (by rfl) T.isinst (pv 0) (pe_glob (v := .ref (c 8)) (by rfl) (G 8 (by decide)).at_ rfl)) pa_nil)))))
      (pss_cons (ps_set (i := 1) scKinds.nd rfl (Or.inl rfl) (pe_kc (n := 9) (by decide) (pv 1) (pa_cons (pe_k (by decide) G O (by rfl) T.isinst (pv 0) (pe_glob (v := .ref (c 9)) (by rfl) (G 9 (by decide)).at_ rfl)) (pa_cons (pe_k (by decide) G O (by rfl) T.isinst (pv 0) (pe_glob (v := .ref (c 10)) (by rfl) (G 10 (by decide)).at_ rfl)) (pa_cons (pe_k (by decide) G O (by rfl) T.isinst (pv 0) (pe_glob (v := .ref (c 11)) (by rfl) (G 11 (by decide)).at_ rfl)) pa_nil)))))
      (pss_cons (ps_set (i := 1) scKinds.nd rfl (Or.inl rfl) (pe_kc (n := 12) (by decide) (pv 1) (pa_cons (pe_k (by decide) G O (by rfl) T.isinst (pv 0) (pe_glob (v := .ref (c 12)) (by rfl) (G 12 (by decide)).at_ rfl)) (pa_cons (pe_k (by decide) G O (by rfl) T.isinst (pv 0) (pe_glob (v := .ref (c 13)) (by rfl) (G 13 (by decide)).at_ rfl)) (pa_cons (pe_k (by decide) G O (by rfl) T.isinst (pv 0) (pe_glob (v := .ref (c 14)) (by rfl) (G 14 (by decide)).at_ rfl)) pa_nil)))))
      (pss_cons (ps_set (i := 1) scKinds.nd rfl (Or.inl rfl) (pe_kc (n := 15) (by decide) (pv 1) (pa_cons (pe_k (by decide) G O (by rfl) T.isinst (pv 0) (pe_glob (v := .ref (c 15)) (by rfl) (G 15 (by decide)).at_ rfl)) (pa_cons (pe_k (by decide) G O (by rfl) T.isinst (pv 0) (pe_glob (v := .ref (c 16)) (by rfl) (G 16 (by decide)).at_ rfl)) (pa_cons (pe_k (by decide) G O (by rfl) T.isinst (pv 0) (pe_glob (v := .ref (c 17)) (by rfl) (G 17 (by decide)).at_ rfl)) pa_nil)))))
      (pss_cons (ps_set (i := 1) scKinds.nd rfl (Or.inl rfl) (pe_kc (n := 18) (by decide) (pv 1) (pa_cons (pe_k (by decide) G O (by rfl) T.isinst (pv 0) (pe_glob (v := .ref (c 18)) (by rfl) (G 18 (by decide)).at_ rfl)) (pa_cons (pe_k (by decide) G O (by rfl) T.isinst (pv 0) (pe_glob (v := .ref (c 19)) (by rfl) (G 19 (by decide)).at_ rfl)) (pa_cons (pe_k (by decide) G O (by rfl) T.isinst (pv 0) (pe_glob (v := .ref (c 20)) (by rfl) (G 20 (by decide)).at_ rfl)) pa_nil)))))
      (pss_cons (ps_set (i := 1) scKinds.nd rfl (Or.inl rfl) (pe_kc (n := 21) (by decide) (pv 1) (pa_cons (pe_k (by decide) G O (by rfl) T.isinst (pv 0) (pe_glob (v := .ref (c 21)) (by rfl) (G 21 (by decide)).at_ rfl)) (pa_cons (pe_k (by decide) G O (by rfl) T.isinst (pv 0) (pe_glob (v := .ref (c 22)) (by rfl) (G 22 (by decide)).at_ rfl)) (pa_cons (pe_k (by decide) G O (by rfl) T.isinst (pv 0) (pe_glob (v := .ref (c 23)) (by rfl) (G 23 (by decide)).at_ rfl)) pa_nil)))))
      (pss_cons (ps_set (i := 1) scKinds.nd rfl (Or.inl rfl) (pe_kc (n := 24) (by decide) (pv 1) (pa_cons (pe_k (by decide) G O (by rfl) T.isinst (pv 0) (pe_glob (v := .ref (c 24)) (by rfl) (G 24 (by decide)).at_ rfl)) (pa_cons (pe_k (by decide) G O (by rfl) T.isinst (pv 0) (pe_glob (v := .ref (c 25)) (by rfl) (G 25 (by decide)).at_ rfl)) (pa_cons (pe_k (by decide) G O (by rfl) T.isinst (pv 0) (pe_glob (v := .ref (c 26)) (by rfl) (G 26 (by decide)).at_ rfl)) pa_nil)))))
      (pss_cons (ps_set (i := 1) scKinds.nd rfl (Or.inl rfl) (pe_kc (n := 27) (by decide) (pv 1) (pa_cons (pe_k (by decide) G O (by rfl) T.isinst (pv 0) (pe_glob (v := .ref (c 27)) (by rfl) (G 27 (by decide)).at_ rfl)) (pa_cons (pe_k (by decide) G O (by rfl) T.isinst (pv 0) (pe_glob (v := .ref (c 28)) (by rfl) (G 28 (by decide)).at_ rfl)) (pa_cons (pe_k (by decide) G O (by rfl) T.isinst (pv 0) (pe_glob (v := .ref (c 29)) (by rfl) (G 29 (by decide)).at_ rfl)) pa_nil)))))
      (pss_cons (ps_set (i := 1) scKinds.nd rfl (Or.inl rfl) (pe_kc (n := 30) (by decide) (pv 1) (pa_cons (pe_k (by decide) G O (by rfl) T.isinst (pv 0) (pe_glob (v := .ref (c 30)) (by rfl) (G 30 (by decide)).at_ rfl)) (pa_cons (pe_k (by decide) G O (by rfl) T.isinst (pv 0) (pe_glob (v := .ref (c 31)) (by rfl) (G 31 (by decide)).at_ rfl)) (pa_cons (pe_k (by decide) G O (by rfl) T.isinst (pv 0) (pe_glob (v := .ref (c 32)) (by rfl) (G 32 (by decide)).at_ rfl)) pa_nil)))))
      (pss_cons (ps_set (i := 1) scKinds.nd rfl (Or.inl rfl) (pe_kc (n := 33) (by decide) (pv 1) (pa_cons (pe_k (by decide) G O (by rfl) T.isinst (pv 0) (pe_glob (v := .ref (c 33)) (by rfl) (G 33 (by decide)).at_ rfl)) (pa_cons (pe_k (by decide) G O (by rfl) T.isinst (pv 0) (pe_glob (v := .ref (c 34)) (by rfl) (G 34 (by decide)).at_ rfl)) (pa_cons (pe_k (by decide) G O (by rfl) T.isinst (pv 0) (pe_glob (v := .ref (c 35)) (by rfl) (G 35 (by decide)).at_ rfl)) pa_nil)))))
      (pss_cons (ps_set (i := 1) scKinds.nd rfl (Or.inl rfl) (pe_kc1 (n := 36) (by decide) (pv 1) (pa_cons (pe_k (by decide) G O (by rfl) T.isinst (pv 0) (pe_glob (v := .ref (c 36)) (by rfl) (G 36 (by decide)).at_ rfl)) pa_nil)))
      (pss_one (ps_ret (pe_callB (cr_sum (by rfl)) (by rfl) T.sum (by decide +kernel) (pa_cons (pe_lc (own := [("kind", 2)]) (g := gName 2) (tt := tYes) (by rfl) scKinds.nd (pi_list (pv 1)) (blkOk_by (own := [("kind", 2)]) (N := ["error", "kinds", "kind"]) (sc := defScope sKinds) (by decide +kernel)) (fun _ _ _ _ _ => pg_name (i := 2) scKinds.nd rfl (Or.inl rfl)) (fun _ _ _ _ _ => pts_nil)
        (fun _ _ _ _ _ => show PE _ _ (tCB (fun xs H Q => (∃ i, xs = [V.int i] ∧ Q (.int i) H) ∨ ∃ k, xs = [V.bl k] ∧ Q (.int (if k then 1 else 0)) H) (tCons (tVar 2) tNil)) from pe_callTy call_int1 (by rfl) T.int (by decide +kernel) (pa_cons (pv 2) pa_nil))) pa_nil))))))))))))))))), ?_⟩
    refine ⟨a, k, fs, rfl, hk, ea, fun l1 nl1 => ?_⟩
    have s1 := new (o := .lst [V.bl (decide (k = 0)), V.bl (decide (k = 0 + 1)), V.bl (decide (k = 0 + 2))]) nl1
    have e1 : upd H l1 (.lst [V.bl (decide (k = 0)), V.bl (decide (k = 0 + 1)), V.bl (decide (k = 0 + 2))]) l1 = some (.lst (kL k 3)) := by rw [upd_same]; rfl
    refine ⟨a, k, fs, l1, rfl, rfl, hk, ea.keep s1, e1, fun l2 H2 t2 e2 => ?_⟩
    have s2 := s1.trans t2
    refine ⟨a, k, fs, l2, rfl, rfl, hk, ea.keep s2, e2, fun l3 H3 t3 e3 => ?_⟩
    have s3 := s2.trans t3
    refine ⟨a, k, fs, l3, rfl, rfl, hk, ea.keep s3, e3, fun l4 H4 t4 e4 => ?_⟩
    have s4 := s3.trans t4
    refine ⟨a, k, fs, l4, rfl, rfl, hk, ea.keep s4, e4, fun l5 H5 t5 e5 => ?_⟩
    have s5 := s4.trans t5
    refine ⟨a, k, fs, l5, rfl, rfl, hk, ea.keep s5, e5, fun l6 H6 t6 e6 => ?_⟩
    have s6 := s5.trans t6
    refine ⟨a, k, fs, l6, rfl, rfl, hk, ea.keep s6, e6, fun l7 H7 t7 e7 => ?_⟩
    have s7 := s6.trans t7
    refine ⟨a, k, fs, l7, rfl, rfl, hk, ea.keep s7, e7, fun l8 H8 t8 e8 => ?_⟩
    have s8 := s7.trans t8
    refine ⟨a, k, fs, l8, rfl, rfl, hk, ea.keep s8, e8, fun l9 H9 t9 e9 => ?_⟩
    have s9 := s8.trans t9
    refine ⟨a, k, fs, l9, rfl, rfl, hk, ea.keep s9, e9, fun l10 H10 t10 e10 => ?_⟩
    have s10 := s9.trans t10
    refine ⟨a, k, fs, l10, rfl, rfl, hk, ea.keep s10, e10, fun l11 H11 t11 e11 => ?_⟩
    have s11 := s10.trans t11
    refine ⟨a, k, fs, l11, rfl, rfl, hk, ea.keep s11, e11, fun l12 H12 t12 e12 => ?_⟩
    have s12 := s11.trans t12
    refine ⟨a, k, fs, l12, rfl, rfl, hk, ea.keep s12, e12, fun l13 H13 t13 e13 => ?_⟩
    have s13 := s12.trans t13
    refine ⟨_, rfl, l13, rfl, ⟨_, SqL.of e13⟩, fun D nD => ?_⟩
    refine lc_it (walk_list (xs := kL k 37)) (fun j H' => Same H13 H' ∧ H' D = some (.lst (((kI k).take j).map V.int))) ⟨new nD, upd_same⟩ (fun j H' _ h => SqL.of (h.1 _ _ e13)) ?_ ?_
    · rintro j v H1 H2 hj ⟨s1', ed⟩ ⟨rfl, hv⟩
      have hj' : j < 37 := by rw [kL_len] at hj; exact hj
      have ev : v = .bl (decide (k = j)) := by
        unfold kL at hv
        rw [List.getElem?_map, List.getElem?_range hj'] at hv
        exact (Option.some.inj hv).symm
      subst ev
      refine ⟨rfl, ?_⟩
      unfold tYes
      refine iteT ⟨_, rfl, .inr ⟨_, rfl, _, ed, ?_, fun b o e => ?_, ?_⟩⟩
      · rw [List.length_map, List.length_take]
        exact Nat.lt_of_le_of_lt (Nat.le_trans (Nat.min_le_left _ _) (show j ≤ 37 by omega)) (by decide)
      · rw [upd_ne (ne_of_none e nD)]
        exact s1' _ _ e
      · rw [upd_same, kI_take k j hj']
    · rintro H1 ⟨s1', ed⟩
      refine ⟨D, kI k, rfl, SqL.of ?_, ?_⟩
      · rw [ed, kL_len, kI_all]
      · rw [kI_sum k hk]
        exact z _ (s13.trans s1')
end
end K1

set_option Elab.async false
set_option linter.all false
set_option maxRecDepth 100000
set_option maxHeartbeats 4000000
/-! law k01: _law_rows -/
namespace K1
open PySem L2 TL
def RowAt (H : Hp) (v : V) (k : Nat) : Prop := ∃ t l, v = .ref t ∧ H t = some (.tup [.str (nmOf k), .ref l]) ∧ H l = some (.lst ((fdsOf k).map V.str))
theorem RowAt.keep {H H' : Hp} {v : V} {k : Nat} (h : RowAt H v k) (s : Same H H') : RowAt H' v k := let ⟨t, l, e, h1, h2⟩ := h; ⟨t, l, e, s _ _ h1, s _ _ h2⟩
/-- the rows from n on, m of them -/
def RowsL (H : Hp) (vs : List V) (n m : Nat) : Prop := vs.length = m ∧ ∀ i v, vs[i]? = some v → RowAt H v (n + i)
def RowsAt (H : Hp) (p : Addr) (n m : Nat) : Prop := ∃ vs, H p = some (.lst vs) ∧ RowsL H vs n m
theorem RowsL.keep {H H' : Hp} {vs : List V} {n m : Nat} (h : RowsL H vs n m) (s : Same H H') : RowsL H' vs n m := ⟨h.1, fun i v e => (h.2 i v e).keep s⟩
theorem RowsAt.keep {H H' : Hp} {p : Addr} {n m : Nat} (h : RowsAt H p n m) (s : Same H H') : RowsAt H' p n m := let ⟨vs, e, r⟩ := h; ⟨vs, s _ _ e, r.keep s⟩
theorem RowsL.nil (H : Hp) (n : Nat) : RowsL H [] n 0 := ⟨rfl, fun i v e => by simp at e⟩
theorem RowsL.cons {H : Hp} {v : V} {vs : List V} {n m : Nat} (a : RowAt H v n) (h : RowsL H vs (n + 1) m) : RowsL H (v :: vs) n (m + 1) := by
  refine ⟨by rw [List.length_cons, h.1], fun i u e => ?_⟩
  cases i with
  | zero => cases e; exact a
  | succ i =>
    have := h.2 i u e
    rw [show n + (i + 1) = n + 1 + i by omega]
    exact this
theorem RowsL.app {H : Hp} {us vs : List V} {n m : Nat} (a : RowsL H us 0 n) (h : RowsL H vs n m) : RowsL H (us ++ vs) 0 (n + m) := by
  refine ⟨by rw [List.length_append, a.1, h.1], fun i v e => ?_⟩
  rcases Nat.lt_or_ge i us.length with q | q
  · rw [List.getElem?_append_left q] at e
    exact a.2 i v e
  · rw [List.getElem?_append_right q] at e
    have := h.2 _ v e
    rw [a.1] at this q
    rw [show 0 + i = n + (i - n) by omega]
    exact this
def tR (k : Nat) : TE := fun _ H Q => ∀ v H', Same H H' → RowAt H' v k → Q v H'
section
variable {X : Cx} {k n : Nat} {es : List Expr} {p p1 p2 p3 p4 pos : Pos} {j j1 j2 : Nat}
theorem pe_r0 {b : Nat} (hf : fdsOf k = []) (h : PA X [.Constant (.str (nmOf k)) j p1, .List [] p2] (tCons (tC (.str (nmOf k))) (tCons (tLst tNil) tNil))) : PE X (.Tuple [.Constant (.str (nmOf k)) j p1, .List [] p2] b pos) (tR k) :=
  PE.weak (pe_tup h) fun σ H Q q => ⟨(by show 0 ≤ sizeLine; decide), fun l nl => ⟨(by show 2 ≤ sizeLine; decide), fun t nt => q _ _ ((new nl).trans (new nt)) ⟨t, l, rfl, upd_same, by rw [hf]; exact new nt _ _ upd_same⟩⟩⟩
theorem pe_r1 {b : Nat} {f : Str} (hf : fdsOf k = [f]) (h : PA X [.Constant (.str (nmOf k)) j p1, .List [.Constant (.str f) j1 p3] p2] (tCons (tC (.str (nmOf k))) (tCons (tLst (tCons (tC (.str f)) tNil)) tNil))) : PE X (.Tuple [.Constant (.str (nmOf k)) j p1, .List [.Constant (.str f) j1 p3] p2] b pos) (tR k) :=
  PE.weak (pe_tup h) fun σ H Q q => ⟨(by show 1 ≤ sizeLine; decide), fun l nl => ⟨(by show 2 ≤ sizeLine; decide), fun t nt => q _ _ ((new nl).trans (new nt)) ⟨t, l, rfl, upd_same, by rw [hf]; exact new nt _ _ upd_same⟩⟩⟩
theorem pe_r2 {b : Nat} {f g : Str} (hf : fdsOf k = [f, g]) (h : PA X [.Constant (.str (nmOf k)) j p1, .List [.Constant (.str f) j1 p3, .Constant (.str g) j2 p4] p2] (tCons (tC (.str (nmOf k))) (tCons (tLst (tCons (tC (.str f)) (tCons (tC (.str g)) tNil))) tNil))) : PE X (.Tuple [.Constant (.str (nmOf k)) j p1, .List [.Constant (.str f) j1 p3, .Constant (.str g) j2 p4] p2] b pos) (tR k) :=
  PE.weak (pe_tup h) fun σ H Q q => ⟨(by show 2 ≤ sizeLine; decide), fun l nl => ⟨(by show 2 ≤ sizeLine; decide), fun t nt => q _ _ ((new nl).trans (new nt)) ⟨t, l, rfl, upd_same, by rw [hf]; exact new nt _ _ upd_same⟩⟩⟩
def tRs (n m : Nat) : TE := fun _ H Q => ∀ p H', Same H H' → RowsAt H' p n m → Q (.ref p) H'
theorem pe_rs4 (h : PA X es (tCons (tR n) (tCons (tR (n + 1)) (tCons (tR (n + 2)) (tCons (tR (n + 3)) tNil))))) : PE X (.List es pos) (tRs n 4) :=
  PE.weak (pe_lst h) fun σ H Q q v1 H1 s1 r1 v2 H2 s2 r2 v3 H3 s3 r3 v4 H4 s4 r4 => ⟨(by show 4 ≤ sizeLine; decide), fun p np => q p _ ((s1.trans (s2.trans (s3.trans s4))).trans (new np))
    ⟨_, upd_same, (((((RowsL.nil H4 _).cons r4).cons (r3.keep s4)).cons (r2.keep (s3.trans s4))).cons (r1.keep (s2.trans (s3.trans s4)))).keep (new np)⟩⟩
theorem pe_rs2 (h : PA X es (tCons (tR n) (tCons (tR (n + 1)) tNil))) : PE X (.List es pos) (tRs n 2) :=
  PE.weak (pe_lst h) fun σ H Q q v1 H1 s1 r1 v2 H2 s2 r2 => ⟨(by show 2 ≤ sizeLine; decide), fun p np => q p _ ((s1.trans s2).trans (new np))
    ⟨_, upd_same, (((RowsL.nil H2 _).cons r2).cons (r1.keep s2)).keep (new np)⟩⟩
def tRc (n m : Nat) : TE := fun σ H Q => ∃ l, σ[0]? = some (some (.ref l)) ∧ RowsAt H l 0 n ∧ ∀ l' H', Same H H' → RowsAt H' l' 0 (n + m) → Q (.ref l') H'
theorem pe_rc {m : Nat} {e e2 : Expr} (hn : n + m ≤ 900) (he : PE X e (tVar 0)) (h : PE X e2 (tRs n m)) : PE X (.BinOp e .Add e2 pos) (tRc n m) :=
  PE.weak (pe_op op_cat he h) fun σ H Q z => by
    obtain ⟨l, e, ⟨vs, el, r⟩, q⟩ := z
    refine ⟨_, e, fun b H1 s1 ⟨us, eb, r1⟩ => ⟨l, b, _, _, rfl, rfl, s1 _ _ el, eb, ?_, fun p np => q p _ (s1.trans (new np)) ⟨_, upd_same, ((r.keep s1).app r1).keep (new np)⟩⟩⟩
    rw [r.1, r1.1]
    exact Nat.le_trans hn (by decide)
end
def spRows : Sp := fun vs H Q _ => vs = [] ∧ ∀ p H', Same H H' → RowsAt H' p 0 38 → Q (.ref p) H'
section
variable {P : Program} {w : World} {K : PySem.W.Frag} {mg : Str → Option Value} {base : Heap} {c : Nat → Addr} {f : Addr} {fd : FuncData}
theorem scRows : FnScope ["rows"] [] (defScope sRows) := ⟨rfl, rfl, rfl, by decide +kernel, rfl, by decide +kernel, by decide +kernel⟩
theorem ok_rows (F : FnP K "_law_rows" "_law_rows" sRows [] f fd) : FnOk P w K mg base CX0 1 f fd [] spRows := by
  refine F.ok scRows (fun vs H Q X z => ?_) (fun cdv A outer s H vs Q X hr z => ?_)
  · obtain ⟨rfl, _⟩ := z
    rfl
  · obtain ⟨rfl, z⟩ := z
    refine ⟨_, PSs.nox (pss_cons (ps_set (i := 0) scRows.nd rfl (Or.inl rfl) (pe_rs4 (n := 0) (pa_cons (pe_r1 (k := 0) rfl (pa_cons pe_str (pa_cons (pe_lst (pa_cons pe_str pa_nil)) pa_nil))) (pa_cons (pe_r1 (k := 1) rfl (pa_cons pe_str (pa_cons (pe_lst (pa_cons pe_str pa_nil)) pa_nil))) (pa_cons (pe_r0 (k := 2) rfl (pa_cons pe_str (pa_cons (pe_lst pa_nil) pa_nil))) (pa_cons (pe_r2 (k := 3) rfl (pa_cons pe_str (pa_cons (pe_lst (pa_cons pe_str (pa_cons pe_str pa_nil))) pa_nil))) pa_nil))))))
      (pss_cons (ps_set (i := 0) scRows.nd rfl (Or.inl rfl) (pe_rc (n := 4) (m := 4) (by decide) (pv 0) (pe_rs4 (n := 4) (pa_cons (pe_r0 (k := 4) rfl (pa_cons pe_str (pa_cons (pe_lst pa_nil) pa_nil))) (pa_cons (pe_r1 (k := 5) rfl (pa_cons pe_str (pa_cons (pe_lst (pa_cons pe_str pa_nil)) pa_nil))) (pa_cons (pe_r0 (k := 6) rfl (pa_cons pe_str (pa_cons (pe_lst pa_nil) pa_nil))) (pa_cons (pe_r0 (k := 7) rfl (pa_cons pe_str (pa_cons (pe_lst pa_nil) pa_nil))) pa_nil)))))))
      (pss_cons (ps_set (i := 0) scRows.nd rfl (Or.inl rfl) (pe_rc (n := 8) (m := 4) (by decide) (pv 0) (pe_rs4 (n := 8) (pa_cons (pe_r1 (k := 8) rfl (pa_cons pe_str (pa_cons (pe_lst (pa_cons pe_str pa_nil)) pa_nil))) (pa_cons (pe_r1 (k := 9) rfl (pa_cons pe_str (pa_cons (pe_lst (pa_cons pe_str pa_nil)) pa_nil))) (pa_cons (pe_r1 (k := 10) rfl (pa_cons pe_str (pa_cons (pe_lst (pa_cons pe_str pa_nil)) pa_nil))) (pa_cons (pe_r1 (k := 11) rfl (pa_cons pe_str (pa_cons (pe_lst (pa_cons pe_str pa_nil)) pa_nil))) pa_nil)))))))
      (pss_cons (ps_set (i := 0) scRows.nd rfl (Or.inl rfl) (pe_rc (n := 12) (m := 4) (by decide) (pv 0) (pe_rs4 (n := 12) (pa_cons (pe_r1 (k := 12) rfl (pa_cons pe_str (pa_cons (pe_lst (pa_cons pe_str pa_nil)) pa_nil))) (pa_cons (pe_r1 (k := 13) rfl (pa_cons pe_str (pa_cons (pe_lst (pa_cons pe_str pa_nil)) pa_nil))) (pa_cons (pe_r1 (k := 14) rfl (pa_cons pe_str (pa_cons (pe_lst (pa_cons pe_str pa_nil)) pa_nil))) (pa_cons (pe_r1 (k := 15) rfl (pa_cons pe_str (pa_cons (pe_lst (pa_cons pe_str pa_nil)) pa_nil))) pa_nil)))))))
      (pss_cons (ps_set (i := 0) scRows.nd rfl (Or.inl rfl) (pe_rc (n := 16) (m := 4) (by decide) (pv 0) (pe_rs4 (n := 16) (pa_cons (pe_r1 (k := 16) rfl (pa_cons pe_str (pa_cons (pe_lst (pa_cons pe_str pa_nil)) pa_nil))) (pa_cons (pe_r0 (k := 17) rfl (pa_cons pe_str (pa_cons (pe_lst pa_nil) pa_nil))) (pa_cons (pe_r0 (k := 18) rfl (pa_cons pe_str (pa_cons (pe_lst pa_nil) pa_nil))) (pa_cons (pe_r0 (k := 19) rfl (pa_cons pe_str (pa_cons (pe_lst pa_nil) pa_nil))) pa_nil)))))))
      (pss_cons (ps_set (i := 0) scRows.nd rfl (Or.inl rfl) (pe_rc (n := 20) (m := 4) (by decide) (pv 0) (pe_rs4 (n := 20) (pa_cons (pe_r0 (k := 20) rfl (pa_cons pe_str (pa_cons (pe_lst pa_nil) pa_nil))) (pa_cons (pe_r0 (k := 21) rfl (pa_cons pe_str (pa_cons (pe_lst pa_nil) pa_nil))) (pa_cons (pe_r0 (k := 22) rfl (pa_cons pe_str (pa_cons (pe_lst pa_nil) pa_nil))) (pa_cons (pe_r0 (k := 23) rfl (pa_cons pe_str (pa_cons (pe_lst pa_nil) pa_nil))) pa_nil)))))))
      (pss_cons (ps_set (i := 0) scRows.nd rfl (Or.inl rfl) (pe_rc (n := 24) (m := 4) (by decide) (pv 0) (pe_rs4 (n := 24) (pa_cons (pe_r0 (k := 24) rfl (pa_cons pe_str (pa_cons (pe_lst pa_nil) pa_nil))) (pa_cons (pe_r1 (k := 25) rfl (pa_cons pe_str (pa_cons (pe_lst (pa_cons pe_str pa_nil)) pa_nil))) (pa_cons (pe_r1 (k := 26) rfl (pa_cons pe_str (pa_cons (pe_lst (pa_cons pe_str pa_nil)) pa_nil))) (pa_cons (pe_r1 (k := 27) rfl (pa_cons pe_str (pa_cons (pe_lst (pa_cons pe_str pa_nil)) pa_nil))) pa_nil)))))))
      (pss_cons (ps_set (i := 0) scRows.nd rfl (Or.inl rfl) (pe_rc (n := 28) (m := 4) (by decide) (pv 0) (pe_rs4 (n := 28) (pa_cons (pe_r0 (k := 28) rfl (pa_cons pe_str (pa_cons (pe_lst pa_nil) pa_nil))) (pa_cons (pe_r1 (k := 29) rfl (pa_cons pe_str (pa_cons (pe_lst (pa_cons pe_str pa_nil)) pa_nil))) (pa_cons (pe_r0 (k := 30) rfl (pa_cons pe_str (pa_cons (pe_lst pa_nil) pa_nil))) (pa_cons (pe_r0 (k := 31) rfl (pa_cons pe_str (pa_cons (pe_lst pa_nil) pa_nil))) pa_nil)))))))
      (pss_cons (ps_set (i := 0) scRows.nd rfl (Or.inl rfl) (pe_rc (n := 32) (m := 4) (by decide) (pv 0) (pe_rs4 (n := 32) (pa_cons (pe_r0 (k := 32) rfl (pa_cons pe_str (pa_cons (pe_lst pa_nil) pa_nil))) (pa_cons (pe_r1 (k := 33) rfl (pa_cons pe_str (pa_cons (pe_lst (pa_cons pe_str pa_nil)) pa_nil))) (pa_cons (pe_r0 (k := 34) rfl (pa_cons pe_str (pa_cons (pe_lst pa_nil) pa_nil))) (pa_cons (pe_r2 (k := 35) rfl (pa_cons pe_str (pa_cons (pe_lst (pa_cons pe_str (pa_cons pe_str pa_nil))) pa_nil))) pa_nil)))))))
      (pss_cons (ps_set (i := 0) scRows.nd rfl (Or.inl rfl) (pe_rc (n := 36) (m := 2) (by decide) (pv 0) (pe_rs2 (n := 36) (pa_cons (pe_r2 (k := 36) rfl (pa_cons pe_str (pa_cons (pe_lst (pa_cons pe_str (pa_cons pe_str pa_nil))) pa_nil))) (pa_cons (pe_r0 (k := 37) rfl (pa_cons pe_str (pa_cons (pe_lst pa_nil) pa_nil))) pa_nil)))))
      (pss_one (ps_ret (pv 0))))))))))))), ?_⟩
    intro l1 H1 s1 e1
    refine ⟨l1, rfl, e1, fun l2 H2 t2 e2 => ?_⟩
    have s2 := s1.trans t2
    refine ⟨l2, rfl, e2, fun l3 H3 t3 e3 => ?_⟩
    have s3 := s2.trans t3
    refine ⟨l3, rfl, e3, fun l4 H4 t4 e4 => ?_⟩
    have s4 := s3.trans t4
    refine ⟨l4, rfl, e4, fun l5 H5 t5 e5 => ?_⟩
    have s5 := s4.trans t5
    refine ⟨l5, rfl, e5, fun l6 H6 t6 e6 => ?_⟩
    have s6 := s5.trans t6
    refine ⟨l6, rfl, e6, fun l7 H7 t7 e7 => ?_⟩
    have s7 := s6.trans t7
    refine ⟨l7, rfl, e7, fun l8 H8 t8 e8 => ?_⟩
    have s8 := s7.trans t8
    refine ⟨l8, rfl, e8, fun l9 H9 t9 e9 => ?_⟩
    have s9 := s8.trans t9
    refine ⟨l9, rfl, e9, fun l10 H10 t10 e10 => ?_⟩
    have s10 := s9.trans t10
    exact ⟨_, rfl, z l10 _ s10 e10⟩
end
end K1

set_option Elab.async false
set_option linter.all false
set_option maxRecDepth 100000
set_option maxHeartbeats 4000000
/-! law k01: the law -/
namespace K1
open PySem L2 TL
abbrev NL : List Str := ["script", "rows", "at", "stream", "things", "one", "other", "error", "name", "fields", "k"]
def spLaw (K : PySem.W.Frag) : Sp := fun vs H Q _ => ∃ (a : Addr) (ns : List Int), vs = [.ref a] ∧ SqL K H a (ns.map V.int) ∧ ns.length ≤ 63 ∧ ∀ H', Q (.bl true) H'
theorem mt_lower {X : Cx} : MtR X "str.lower" (fun x xs H Q => ∃ a, x = .str a ∧ xs = [] ∧ PySem.Builtin.Str.tooLong (Txt.lower a).length = false ∧ Q (.str (Txt.lower a)) H) :=
  mt0 (C := fun a => PySem.Builtin.Str.tooLong (Txt.lower a).length = false) (g := fun a => .str (Txt.lower a)) fun a t s Q hc h => PySem.SC.lower hc (h _ _ ⟨_, rfl⟩)
theorem low_fits : ∀ k < 38, PySem.Builtin.Str.tooLong (Txt.lower (nmOf k)).length = false := by decide +kernel
theorem nm_told : ∀ k < 38, decide (nmOf k = "ToldError") = decide (k = 37) := by decide +kernel
theorem fds_ok : ∀ k < 38, (fdsOf k).length ≤ 2 ∧ (fdsOf k).Nodup ∧ ("told" : Str) ∉ fdsOf k := by decide +kernel
theorem field_at {k j : Nat} {one other : V} {wd : Str} (hk : k < 38) (h : (fdsOf k)[j]? = some wd) : ∃ val, [one, other][j]? = some val ∧ (fsOf k one other).lookup wd = some val ∧ (val = one ∨ val = other) := by
  obtain ⟨h1, h2, _⟩ := fds_ok k hk
  unfold fsOf
  revert h h1 h2
  generalize fdsOf k = l
  intro h h1 h2
  match l, h, h1, h2 with
  | [], h, _, _ => simp at h
  | [f], h, _, _ =>
    cases j with
    | zero =>
      cases h
      exact ⟨one, rfl, by simp [List.lookup], .inl rfl⟩
    | succ j => simp at h
  | [f, g], h, _, h2 =>
    cases j with
    | zero =>
      cases h
      have ne : (wd == g) = false := by
        have := (List.nodup_cons.mp h2).1
        simp only [List.mem_cons, List.not_mem_nil, or_false] at this
        simpa using this
      exact ⟨one, rfl, by simp [List.lookup, ne], .inl rfl⟩
    | succ j =>
      cases j with
      | zero =>
        cases h
        exact ⟨other, rfl, by simp [List.lookup], .inr rfl⟩
      | succ j => simp at h
  | f :: g :: r :: l, _, h1, _ => exact absurd h1 (by simp only [List.length_cons]; omega)
theorem no_told {k : Nat} {one other : V} (hk : k < 38) : (fsOf k one other).lookup ("told" : Str) = none := by
  obtain ⟨_, _, h⟩ := fds_ok k hk
  unfold fsOf
  revert h
  generalize fdsOf k = l
  intro h
  have nb : ∀ f : Str, ("told" : Str) ≠ f → (("told" : Str) == f) = false := fun f h => by simpa using h
  match l, h with
  | [], _ => rfl
  | [f], h =>
    simp only [List.mem_cons, List.not_mem_nil, or_false] at h
    simp [List.lookup, nb f h]
  | f :: g :: r, h =>
    simp only [List.mem_cons, not_or] at h
    simp [List.lookup, nb f h.1, nb g h.2.1]
theorem thing_but {H H' : Hp} {p : Addr} {v : V} (h : Thing H v) (st : Strm H p) (b : But p H H') : Thing H' v := by
  rcases h with h | h | h | h | h | ⟨q, h, e⟩ | h | h | h
  · exact .inl h
  · exact .inr (.inl h)
  · exact .inr (.inr (.inl h))
  · exact .inr (.inr (.inr (.inl h)))
  · exact .inr (.inr (.inr (.inr (.inl h))))
  · refine .inr (.inr (.inr (.inr (.inr (.inl ⟨q, h, b _ _ (fun z => ?_) e⟩)))))
    obtain ⟨x, y, z', hl⟩ := st
    rw [z, hl] at e
    cases e
  · exact .inr (.inr (.inr (.inr (.inr (.inr (.inl h))))))
  · exact .inr (.inr (.inr (.inr (.inr (.inr (.inr (.inl h)))))))
  · exact .inr (.inr (.inr (.inr (.inr (.inr (.inr (.inr h)))))))
theorem sz9 : Sz 8000 9 := Nat.lt_of_lt_of_le (show (9 : Int).natAbs < 2 ^ 10 by decide) (Nat.pow_le_pow_right (by decide) (by decide))
theorem low_len : ∀ k < 38, ("refused " : Str).length + (Txt.lower (nmOf k)).length ≤ sizeLine := by decide +kernel
def dOf : V → PyData
  | .bl b => .bool b
  | .int i => .int i
  | .str x => .str x
  | .ref _ => .tuple [.int 1, .int 2]
  | _ => .none
theorem thing_dp {K : PySem.W.Frag} {H : Hp} {v : V} (h : Thing H v) : Dp K H v (dOf v) ∧ (dOf v).showable = true ∧ (dOf v).shown.length ≤ sizeLine ∧ (dOf v).hasDict = false ∧ (dOf v).depth ≤ 64 := by
  rcases h with rfl | rfl | rfl | rfl | rfl | ⟨p, rfl, e⟩ | rfl | rfl | rfl
  · exact ⟨.non, by decide +kernel, by decide +kernel, by decide +kernel, by decide +kernel⟩
  · exact ⟨.int _, by decide +kernel, by decide +kernel, by decide +kernel, by decide +kernel⟩
  · exact ⟨.int _, by decide +kernel, by decide +kernel, by decide +kernel, by decide +kernel⟩
  · exact ⟨.str _, by decide +kernel, by decide +kernel, by decide +kernel, by decide +kernel⟩
  · exact ⟨.str _, by decide +kernel, by decide +kernel, by decide +kernel, by decide +kernel⟩
  · exact ⟨.tup (.inl (.inl e)) (.cons (.int _) (.cons (.int _) .nil)), show PyData.showable (.tuple [.int 1, .int 2]) = true by decide +kernel, show (PyData.shown (.tuple [.int 1, .int 2])).length ≤ sizeLine by decide +kernel, show PyData.hasDict (.tuple [.int 1, .int 2]) = false by decide +kernel, show PyData.depth (.tuple [.int 1, .int 2]) ≤ 64 by decide +kernel⟩
  · exact ⟨.str _, by decide +kernel, by decide +kernel, by decide +kernel, by decide +kernel⟩
  · exact ⟨.int _, by decide +kernel, by decide +kernel, by decide +kernel, by decide +kernel⟩
  · exact ⟨.bl _, by decide +kernel, by decide +kernel, by decide +kernel, by decide +kernel⟩
theorem kn_eq : ∀ i < 38, (!decide (V.int (if i < 37 then 1 else 0) = V.int (if (!decide (V.str (nmOf i) = V.str "ToldError")) = true then 1 else 0))) = false := by decide +kernel
theorem thing_of {H : Hp} {q : Addr} (eq : H q = some (.tup [V.int 1, V.int 2])) : ∀ v ∈ [V.non, V.int 0, V.int (-7), V.str "a", V.str "", V.ref q, V.str "axis", V.int (10 ^ (30 : Int).toNat), V.bl true], Thing H v := fun v hv => by
  simp only [List.mem_cons, List.not_mem_nil, or_false] at hv
  rcases hv with h | h | h | h | h | h | h | h | h
  · exact .inl h
  · exact .inr (.inl h)
  · exact .inr (.inr (.inl h))
  · exact .inr (.inr (.inr (.inl h)))
  · exact .inr (.inr (.inr (.inr (.inl h))))
  · exact .inr (.inr (.inr (.inr (.inr (.inl ⟨q, h, eq⟩)))))
  · exact .inr (.inr (.inr (.inr (.inr (.inr (.inl h))))))
  · exact .inr (.inr (.inr (.inr (.inr (.inr (.inr (.inl h)))))))
  · exact .inr (.inr (.inr (.inr (.inr (.inr (.inr (.inr h)))))))
theorem same_but {l : Addr} {H0 H1 H2 : Hp} (s : Same H0 H1) (n : H0 l = none) (b : But l H1 H2) : Same H0 H2 := fun c o e => b c o (ne_of_none e n) (s c o e)
theorem Strm.same {H H' : Hp} {l : Addr} (st : Strm H l) (s : Same H H') : Strm H' l := let ⟨c, e, n, h⟩ := st; ⟨c, e, n, s _ _ h⟩
theorem sql_keep {K : PySem.W.Frag} {H H' : Hp} {a : Addr} {xs : List V} (s : Same H H') (h : SqL K H a xs) : SqL K H' a xs := by
  rcases h with (h | ⟨o, h⟩) | h
  · exact .inl (.inl (s _ _ h))
  · exact .inl (.inr ⟨o, s _ _ h⟩)
  · exact .inr h
section
variable {P : Program} {w : World} {K : PySem.W.Frag} {mg : Str → Option Value} {base : Heap} {c : Nat → Addr} {f : Addr} {fd : FuncData}
theorem scLaw : FnScope NL ["script"] (defScope sLaw) := ⟨rfl, rfl, rfl, by decide +kernel, rfl, by decide +kernel, by decide +kernel⟩
theorem ok_law (F : FnP K "law" "law" sLaw [] f fd) (T : Txt K mg) (O : ObjC K) (G : Cls38 P w K mg base c) (LR : GloOk P w K mg base CX0 1 "_law_rows" [] spRows) (LS : GloOk P w K mg base CX0 1 "_law_stream" ["script", "k"] (spStream K)) (LD : GloOk P w K mg base CX0 1 "_law_draw" ["stream", "many"] spDraw)
    (LM : GloOk P w K mg base CX0 4 "_law_made" ["which", "one", "other"] (spMade c)) (LK : GloOk P w K mg base CX0 1 "_law_kinds" ["error"] (spKinds c)) (LF : GloOk P w K mg base CX0 1 "_law_field" ["error", "word"] (spField c)) : FnG P w K mg base CX0 5 f fd ["script"] (spLaw K) := by
  obtain ⟨lR, ldR, LR, mR, kR, dR⟩ := LR
  obtain ⟨lS, ldS, LS, mS, kS, dS⟩ := LS
  obtain ⟨lD, ldD, LD, mD, kD, dD⟩ := LD
  obtain ⟨lM, ldM, LM, mM, kM, dM⟩ := LM
  obtain ⟨lK, ldK, LK, mK, kK, dK⟩ := LK
  obtain ⟨lF, ldF, LF, mF, kF, dF⟩ := LF
  refine F.okG scLaw (fun vs H Q X z => ?_) (fun cdv A outer s H vs Q X hr gd z => ?_)
  · obtain ⟨a, ns, rfl, _⟩ := z
    rfl
  · obtain ⟨a, ns, rfl, hS, hlen, z⟩ := z
    have hr1 : Room 1 (A.deeper (PyProof.Rows.envOfC "law" (defScope sLaw) s.heap.objs.size f cdv)) := hr.mono (by decide)
    have gd' : (A.deeper (PyProof.Rows.envOfC "law" (defScope sLaw) s.heap.objs.size f cdv)).guards = some [] := gd
    have hu : (A.deeper (PyProof.Rows.envOfC "law" (defScope sLaw) s.heap.objs.size f cdv)).units + 66 < cLine := by have := hr.un; omega
    refine ⟨_, PSs.nox (pss_cons (ps_set (i := 1) scLaw.nd rfl (Or.inl rfl) (pe_call0 LR hr1 rfl mR kR dR .nil pass0))
        (pss_cons (ps_for PassesOwn.never rfl (pi_range1 rfl T.range (pa_cons (pe_callB call_len_seq (by rfl) T.len PySem.boot_len (pa_cons (pv 1) pa_nil)) pa_nil)) (pg_name (i := 2) scLaw.nd rfl (Or.inl rfl)) (pss_cons (ps_set (i := 3) scLaw.nd rfl (Or.inl rfl) (pe_call LS hr1 rfl mS kS dS .nil pass0 (pa_cons (pv 0) (pa_cons (pv 2) pa_nil))))
        (pss_cons (ps_set (i := 4) scLaw.nd rfl (Or.inl rfl) (pe_lst (pa_cons pe_non (pa_cons pe_int (pa_cons (pe_un un_neg pe_int) (pa_cons pe_str (pa_cons pe_str (pa_cons (pe_tup (pa_cons pe_int (pa_cons pe_int pa_nil))) (pa_cons pe_str (pa_cons (pe_op op_pow pe_int pe_int) (pa_cons pe_bl pa_nil)))))))))))
        (pss_cons (ps_set (i := 5) scLaw.nd rfl (Or.inl rfl) (pe_ix ix_list (pv 4) (pe_call LD hr1 rfl mD kD dD .nil pass0 (pa_cons (pv 3) (pa_cons pe_int pa_nil))) (fun _ _ => rfl)))
        (pss_cons (ps_set (i := 6) scLaw.nd rfl (Or.inl rfl) (pe_ix ix_list (pv 4) (pe_call LD hr1 rfl mD kD dD .nil pass0 (pa_cons (pv 3) (pa_cons pe_int pa_nil))) (fun _ _ => rfl)))
        (pss_cons (ps_set (i := 7) scLaw.nd rfl (Or.inl rfl) (pe_call LM hr rfl mM kM dM .nil pass0 (pa_cons (pv 2) (pa_cons (pv 5) (pa_cons (pv 6) pa_nil)))))
        (pss_cons (ps_asg (pe_ix ix_list (pv 1) (pv 2) (fun _ _ => rfl)) (pg_tup rfl (pgs_cons (pg_name (i := 8) scLaw.nd rfl (Or.inl rfl)) (pgs_cons (pg_name (i := 9) scLaw.nd rfl (Or.inl rfl)) pgs_nil))))
        (pss_cons (ps_if (PW.pt (pw_or (pt_not (pt_val (pe_callB (call_isErr O) (by rfl) T.isinst (by decide +kernel) (pa_cons (pv 7) (pa_cons (pe_glob (v := .ref (c 37)) (by rfl) (G 37 (by decide)).at_ rfl) pa_nil))))) (pw_or1 (pt_cmpR op_ne (pe_call LK hr1 rfl mK kK dK .nil pass0 (pa_cons (pv 7) pa_nil)) (pe_callTy call_int1 (by rfl) T.int (by decide +kernel) (pa_cons (pe_cmpR op_ne (pv 8) pe_str (nomark _)) pa_nil)) (nomark _))))) (pss_one (ps_ret pe_bl)) pss_nil)
        (pss_cons (ps_for PassesOwn.never rfl (pi_range1 rfl T.range (pa_cons (pe_callB call_len_seq (by rfl) T.len PySem.boot_len (pa_cons (pv 9) pa_nil)) pa_nil)) (pg_name (i := 10) scLaw.nd rfl (Or.inl rfl)) (pss_one (ps_if (pt_cmpR op_ne (pe_callB (call_reprD gd' hu) (by rfl) T.repr (by decide +kernel) (pa_cons (pe_call LF hr1 rfl mF kF dF .nil pass0 (pa_cons (pv 7) (pa_cons (pe_ix ix_list (pv 9) (pv 10) (fun _ _ => rfl)) pa_nil))) pa_nil)) (pe_callB (call_reprD gd' hu) (by rfl) T.repr (by decide +kernel) (pa_cons (pe_ix ix_list (pe_lst (pa_cons (pv 5) (pa_cons (pv 6) pa_nil))) (pv 10) (fun _ _ => rfl)) pa_nil)) (nomark _)) (pss_one (ps_ret pe_bl)) pss_nil)))
        (pss_one (ps_if (PW.pt (pw_or (pt_cmpR op_ne (pe_errm0 (pv 7) hr1 pass0) (pe_op op_add_str pe_str (pe_bm0 PySem.F.plainAttrs_str PySem.F.slot_str_lower PySem.F.type_str_lower mt_lower (pv 8))) (nomark _)) (pw_or1 (pt_not (pt_val (pe_callB (call_isErr O) (by rfl) T.isinst (by decide +kernel) (pa_cons (pv 7) (pa_cons (pe_bltn (v := .ty "ValueError") (by rfl) T.verr (by decide +kernel) rfl) pa_nil)))))))) (pss_one (ps_ret pe_bl)) pss_nil)))))))))))
        (pss_one (ps_ret pe_bl)))), ?_⟩
    refine ⟨rfl, fun l H1 s1 r1 => ?_⟩
    obtain ⟨rs, el, rl⟩ := r1
    refine ⟨_, rfl, l, rs, rfl, .inl (SqL.of el), _, rfl, (by rw [rl.1]; decide), (by rw [rl.1]; decide), ?_⟩
    rw [show ((rs.length : Int)).toNat = 38 by rw [rl.1]; rfl]
    refine for_it (walk_range (lo := 0) (n := 38)) (fun i σ H' => Same H1 H' ∧ ∃ v2 v3 v4 v5 v6 v7 v8 v9 v10 : Option V, σ = [some (.ref a), some (.ref l), v2, v3, v4, v5, v6, v7, v8, v9, v10]) ⟨Same.refl _, _, _, _, _, _, _, _, _, _, rfl⟩ (fun _ _ _ _ _ => trivial) ?_ (fun σ H' _ => z H')
    rintro i x σ H2 H2' hi ⟨s2, v2, v3, v4, v5, v6, v7, v8, v9, v10, rfl⟩ ⟨rfl, rfl⟩
    rw [show (fun i : Nat => V.int (0 + (i : Int))) i = V.int (i : Int) from congrArg V.int (Int.zero_add _)]
    refine ⟨_, rfl, _, rfl, a, ns, i, rfl, sql_keep (s1.trans s2) hS, (by omega), fun p H3 s3 n3 st3 => ?_⟩
    refine ⟨_, rfl, (by show 2 ≤ sizeLine; decide), fun q nq => ⟨_, _, rfl, rfl, ⟨by decide, by decide, by decide⟩, (by show 9 ≤ sizeLine; decide), fun t nt => ?_⟩⟩
    have s34 := (new (o := .tup [V.int 1, V.int 2]) nq).trans (new (o := .lst [V.non, V.int 0, V.int (-7), V.str "a", V.str "", V.ref q, V.str "axis", V.int (10 ^ (30 : Int).toNat), V.bl true]) nt)
    have et : (upd (upd H3 q (.tup [V.int 1, V.int 2])) t (.lst [V.non, V.int 0, V.int (-7), V.str "a", V.str "", V.ref q, V.str "axis", V.int (10 ^ (30 : Int).toNat), V.bl true])) t = some (.lst [V.non, V.int 0, V.int (-7), V.str "a", V.str "", V.ref q, V.str "axis", V.int (10 ^ (30 : Int).toNat), V.bl true]) := upd_same
    have eq : (upd (upd H3 q (.tup [V.int 1, V.int 2])) t (.lst [V.non, V.int 0, V.int (-7), V.str "a", V.str "", V.ref q, V.str "axis", V.int (10 ^ (30 : Int).toNat), V.bl true])) q = some (.tup [V.int 1, V.int 2]) := new nt _ _ upd_same
    have ntp : t ≠ p := fun h => by
      obtain ⟨_, _, _, hp⟩ := st3.same (new (o := .tup [V.int 1, V.int 2]) nq)
      rw [h, hp] at nt
      cases nt
    generalize (upd (upd H3 q (.tup [V.int 1, V.int 2])) t (.lst [V.non, V.int 0, V.int (-7), V.str "a", V.str "", V.ref q, V.str "axis", V.int (10 ^ (30 : Int).toNat), V.bl true])) = H4 at s34 et eq ⊢
    have st4 := st3.same s34
    have th : ∀ v ∈ [V.non, V.int 0, V.int (-7), V.str "a", V.str "", V.ref q, V.str "axis", V.int (10 ^ (30 : Int).toNat), V.bl true], Thing H4 v := thing_of eq
    generalize hths : [V.non, V.int 0, V.int (-7), V.str "a", V.str "", V.ref q, V.str "axis", V.int (10 ^ (30 : Int).toNat), V.bl true] = ths at et th
    have hlen9 : ths.length = 9 := by rw [← hths]; rfl
    refine ⟨_, rfl, _, rfl, p, 9, rfl, st4, (by decide), sz9, fun d1 H5 a0 a1 b5 st5 => ?_⟩
    obtain ⟨one, m1, i1⟩ := at_any (xs := ths) a0 (by rw [hlen9]; exact a1)
    refine ⟨t, _, d1, one, rfl, rfl, SqL.of (b5 _ _ ntp et), i1, ?_⟩
    refine ⟨_, rfl, _, rfl, p, 9, rfl, st5, (by decide), sz9, fun d2 H6 a2 a3 b6 st6 => ?_⟩
    obtain ⟨other, m2, i2⟩ := at_any (xs := ths) a2 (by rw [hlen9]; exact a3)
    refine ⟨t, _, d2, other, rfl, rfl, SqL.of (b6 _ _ ntp (b5 _ _ ntp et)), i2, ?_⟩
    have b46 : But p H4 H6 := b5.trans b6
    have t1 : Thing H6 one := thing_but (th one m1) st4 b46
    have t2 : Thing H6 other := thing_but (th other m2) st4 b46
    have s26 : Same H2' H6 := same_but (s3.trans s34) n3 b46
    refine ⟨_, rfl, _, rfl, _, rfl, i, one, other, rfl, hi, fun e H7 s7 ea => ?_⟩
    have s17 : Same H1 H7 := s2.trans (s26.trans s7)
    obtain ⟨v, hv⟩ : ∃ v, rs[i]? = some v := ⟨_, List.getElem?_eq_getElem (by rw [rl.1]; exact hi)⟩
    obtain ⟨tu, fl, rfl, h1, h2⟩ := (rl.keep s17).2 i v hv
    rw [Nat.zero_add] at h1 h2
    refine ⟨_, rfl, _, rfl, l, rs, i, .ref tu, rfl, rfl, SqL.of (s17 _ _ el), atI_nat hv, tu, _, rfl, SqT.of h1, rfl, _, _, rfl, _, _, rfl, rfl, ?_⟩
    have ec := (G i hi).ec
    refine ⟨_, rfl, e, c i, _, .ref (c 37), .ref (c 37), true, rfl, ea, ec, fun u h => h, (G i hi).up, _, rfl, ?_⟩
    refine iteF ?_
    refine ⟨_, rfl, e, i, _, rfl, hi, ea, fun H8 s8 => ⟨_, rfl, rfl, .inr ⟨_, rfl, rfl, _, rfl, ?_⟩⟩⟩
    refine itF (kn_eq i hi) ?_
    have ea8 := ea.keep s8
    have s78 : Same H6 H8 := s7.trans s8
    have s18 : Same H1 H8 := s17.trans s8
    have h28 := s8 _ _ h2
    refine nx_ ?_
    refine sq ?_
    refine ⟨_, rfl, fl, _, rfl, .inl (SqL.of h28), _, rfl, (by rw [List.length_map]; have := (fds_ok i hi).1; omega), (by rw [List.length_map]; have := (fds_ok i hi).1; omega), ?_⟩
    rw [show ((((fdsOf i).map V.str).length : Int)).toNat = (fdsOf i).length by rw [List.length_map]; rfl]
    refine for_it (walk_range (lo := 0) (n := (fdsOf i).length)) (fun j σ H' => Same H8 H' ∧ ∃ v10 : Option V, σ = [some (.ref a), some (.ref l), some (.int i), some (.ref p), some (.ref t), some one, some other, some (.ref e), some (.str (nmOf i)), some (.ref fl), v10]) ⟨Same.refl _, _, rfl⟩ (fun _ _ _ _ _ => trivial) ?_ ?_
    · rintro j x σ H9 H9' hj ⟨s9, w10, rfl⟩ ⟨rfl, rfl⟩
      rw [show (fun i : Nat => V.int (0 + (i : Int))) j = V.int (j : Int) from congrArg V.int (Int.zero_add _)]
      obtain ⟨wd, hwd⟩ : ∃ wd, (fdsOf i)[j]? = some wd := ⟨_, List.getElem?_eq_getElem hj⟩
      obtain ⟨val, e1, e2, e3⟩ := field_at (one := one) (other := other) hi hwd
      have tv : Thing H9' val := by
        rcases e3 with rfl | rfl
        · exact t1.keep (s78.trans s9)
        · exact t2.keep (s78.trans s9)
      obtain ⟨g1, g2, g3, g4, g5⟩ := thing_dp (K := K) tv
      refine ⟨_, rfl, _, rfl, _, rfl, fl, _, j, .str wd, rfl, rfl, SqL.of (s9 _ _ h28), atI_nat (by rw [List.getElem?_map, hwd]; rfl), e, i, _, wd, val, rfl, hi, ea8.keep s9, List.mem_of_getElem? hwd, e2, val, dOf val, rfl, g1, g2, g3, g4, g5, ?_⟩
      refine ⟨_, rfl, _, rfl, (by show 2 ≤ sizeLine; decide), fun b nb => ⟨_, rfl, b, _, j, val, rfl, rfl, SqL.of upd_same, atI_nat e1, ?_⟩⟩
      obtain ⟨g1', g2', g3', g4', g5'⟩ := thing_dp (K := K) (tv.keep (new (o := .lst [one, other]) nb))
      refine ⟨val, dOf val, rfl, g1', g2', g3', g4', g5', rfl, _, rfl, ?_⟩
      refine itF (by simp) ?_
      exact nx_ ⟨s9.trans (new nb), _, rfl⟩
    · rintro σ H9 ⟨s9, w10, rfl⟩
      have ea9 := ea8.keep s9
      refine ⟨_, rfl, e, c i, _, spTold (lowN i), rfl, ea9, ec, no_told hi, (G i hi).told, _, rfl, ?_⟩
      refine ⟨_, rfl, rfl, _, rfl, rfl, low_fits i hi, _, _, rfl, rfl, ?_, rfl, _, rfl, ?_⟩
      · exact low_len i hi
      refine itF (by unfold lowN; simp) ?_
      refine ⟨_, rfl, e, c i, _, .ty "ValueError", .type "ValueError", true, rfl, ea9, ec, fun u h => h, (G i hi).ve, _, rfl, ?_⟩
      refine iteF ?_
      exact nx_ ⟨s18.trans s9, _, _, _, _, _, _, _, _, _, rfl⟩
end
end K1

set_option Elab.async false
set_option linter.all false
set_option maxRecDepth 100000
set_option maxHeartbeats 4000000
/-! law k01: what the top has left, and the end -/
namespace K1
open PySem L2 TL
abbrev Lk (K : PySem.W.Frag) (f : Addr) (o : Obj) : Prop := K.lookup f = some o
/-- a def without defaults stands at f -/
theorem fnp {K : PySem.W.Frag} {x q : Str} {st : Stmt} {f : Addr} {oc : Value} {od an : Option Addr} {osl : Array (Option Value)} {kV doc pm cdv ct : Value}
    (l : K.lookup f = some ⟨oc, od, .func (PySem.W.fnOf x q (defArgs st) (defBody st) (defScope st) .none kV doc pm an cdv ct), osl⟩) (c : PySem.W.codeIn K cdv q = true) (k : PySem.W.keepIn K (.ref f) = true) : ∃ fd, FnP K x q st [] f fd :=
  ⟨_, ⟨oc, od, .none, kV, doc, pm, an, cdv, ct, osl, rfl, l, c, .inl ⟨rfl, rfl⟩, .inl rfl⟩, k⟩
/-- a global def -/
def GF (K : PySem.W.Frag) (x : Str) (st : Stmt) : Prop := ∃ f, PySem.W.nsIn K mainGlobals x = some (some (.ref f)) ∧ ∃ fd, FnP K x x st [] f fd
/-- a method of C -/
def MF (K : PySem.W.Frag) (C : Addr) (x q : Str) (st : Stmt) : Prop := ∃ f, PySem.W.findIn K (.ref C) x = some (some (.ref f)) ∧ PySem.W.isFn K (.ref f) = true ∧ ∃ fd, FnP K x q st [] f fd
section
variable {P : Program} {w : World} {K : PySem.W.Frag} {mg : Str → Option Value} {base h : Heap} {CX : CXT} {k : Nat} {x q : Str} {ps : List Str} {st : Stmt} {sp : Sp} {C : Addr}
theorem GF.ok (g : GF K x st) (X : K.In h) (G : h.Ns mainGlobals mg) (ok : ∀ f fd, FnP K x x st [] f fd → FnOk P w K mg base CX k f fd ps sp)
    (b : ∀ (kV doc pm : Value) (an : Option Addr) (cdv ct : Value) (us : List Value), us.length = ps.length → bindArgs (PySem.W.fnOf x x (defArgs st) (defBody st) (defScope st) .none kV doc pm an cdv ct) ⟨us, []⟩ = pure (ps.zip us)) : GloOk P w K mg base CX k x ps sp := by
  obtain ⟨f, a, fd, F⟩ := g
  exact ⟨f, fd, ok f fd F, PySem.W.mg_of X G a, F.kp, F.bindsN b⟩
theorem MF.ok (g : MF K C x q st) (ok : ∀ f fd, FnP K x q st [] f fd → FnOk P w K mg base CX k f fd ps sp)
    (b : ∀ (kV doc pm : Value) (an : Option Addr) (cdv ct : Value) (us : List Value), us.length = ps.length → bindArgs (PySem.W.fnOf x q (defArgs st) (defBody st) (defScope st) .none kV doc pm an cdv ct) ⟨us, []⟩ = pure (ps.zip us)) : MthOk P w K mg base C CX k x ps sp := by
  obtain ⟨f, a, i, fd, F⟩ := g
  exact ⟨f, fd, ok f fd F, ⟨a, i, F.kp⟩, F.bindsN b⟩
theorem MF.meth (g : MF K C x q st) : ∃ f, Meth K C x f := by
  obtain ⟨f, a, i, fd, F⟩ := g
  exact ⟨f, a, i, F.kp⟩
end
theorem kit_sub {K : PySem.W.Frag} {C : Addr} {n : String} {b : Bool} (h : PySem.W.subIn K (.ref C) (.type n) = some b) (hm : PySem.W.kitMeta n = true) : PySem.W.kitOne K (.ref C) (.type n) = some b := by
  unfold PySem.W.kitOne
  rw [if_neg (by simp)]
  show (if PySem.W.kitMeta n = true then PySem.W.subIn K (.ref C) (.type n) else none) = some b
  rw [if_pos hm]
  exact h
theorem kit_cl {K : PySem.W.Frag} {C : Addr} {t : Value} {b : Bool} (hc : PySem.W.isClsIn K C = true) (ht : PySem.W.typeIn K (.ref C) = some (.type "type")) (h : PySem.W.subIn K t (.ref C) = some b) : PySem.W.kitCls K t (.ref C) = some b := by
  have e : ((PySem.W.clsIn K C).isSome && PySem.W.typeIn K (.ref C) == some (.type "type")) = true := by
    rw [show (PySem.W.clsIn K C).isSome = true from hc, ht] <;> rfl
  show (if ((PySem.W.clsIn K C).isSome && PySem.W.typeIn K (.ref C) == some (.type "type")) = true then PySem.W.subIn K t (.ref C) else none) = some b
  rw [if_pos e]
  exact h
theorem kit_tyc {K : PySem.W.Frag} {C : Addr} {n : String} {b : Bool} (hc : PySem.W.isClsIn K C = true) (ht : PySem.W.typeIn K (.ref C) = some (.type "type")) (h : PySem.W.subIn K (.type n) (.ref C) = some b) : PySem.W.kitOne K (.type n) (.ref C) = some b := by
  unfold PySem.W.kitOne
  rw [if_neg (by simp)]
  exact kit_cl hc ht h
abbrev ObjAt (K : PySem.W.Frag) (C : Addr) (bm : List Value) : Prop := ∃ nm q N bs sn sub ab col dd m0 m1 m2 m3 m5, K.lookup C = some (excClassObj nm q C N bs bm true sn sub ab col dd m0 m1 m2 m3 m5 "ValueError.__new__")
theorem obj_mk {K : PySem.W.Frag} {C : Addr} {bm bm' : List Value} {hdct : Bool} {nm q : Str} {N : Addr} {bs : List Value} {sn : List Str} {sub : List Value} {ab : Bool} {col : Option Bool} {dd : Option Addr} {m0 m1 m2 m3 m5 : Option Value}
    (l : K.lookup C = some (excClassObj nm q C N bs bm' hdct sn sub ab col dd m0 m1 m2 m3 m5 "ValueError.__new__")) (hb : bm' = bm) (hh : hdct = true) : ObjAt K C bm := by
  subst hb hh
  exact ⟨nm, q, N, bs, sn, sub, ab, col, dd, m0, m1, m2, m3, m5, l⟩
/-- a class of errors -/
structure CB (K : PySem.W.Frag) (C : Addr) (nm q : Str) (st : Stmt) (bm : List Value) : Prop where
  at_ : PySem.W.nsIn K mainGlobals nm = some (some (.ref C))
  ga : PySem.W.findIn K (.ref C) "__getattribute__" = some (some (.builtin "BaseException.__getattribute__"))
  gg : PySem.W.findIn K (.ref C) "__getattr__" = some none
  ex : PySem.W.subIn K (.ref C) (.type "BaseException") = some true
  hd : PySem.W.hasDictIn K C = true
  ca : PySem.W.findIn K (.ref C) "__class__" = some (some (.builtin "object.__class__"))
  cm : PySem.W.mroIn K C (.type "object") = some true
  ic : PySem.W.isClsIn K C = true
  ty : PySem.W.typeIn K (.ref C) = some (.type "type")
  kC : PySem.W.keepIn K (.ref C) = true
  told : MF K C "told" q st
  obj : ObjAt K C bm
/-- .. without an __init__ of its own -/
structure C0 (K : PySem.W.Frag) (C : Addr) (nm q : Str) (st : Stmt) (bm : List Value) : Prop where
  b : CB K C nm q st bm
  ex : PySem.W.excIn K C veMro "ValueError.__new__" = true
abbrev IniAt (K : PySem.W.Frag) (C : Addr) (q : Str) (st : Stmt) : Prop := ∃ f, PySem.W.findIn K (.ref C) "__init__" = some (some (.ref f)) ∧ PySem.W.typeIn K (.ref f) = some (.type "function") ∧ ∃ fd, FnP K "__init__" q st [] f fd
/-- .. with one that keeps one field -/
structure C1 (K : PySem.W.Frag) (C : Addr) (nm q qi fl : Str) (st si : Stmt) (bm : List Value) : Prop where
  b : CB K C nm q st bm
  sa : PySem.W.findIn K (.ref C) "__setattr__" = some (some (.builtin "object.__setattr__"))
  no : PySem.W.findIn K (.ref C) fl = some none
  ini : IniAt K C qi si
structure C2 (K : PySem.W.Frag) (C : Addr) (nm q qi fl gl : Str) (st si : Stmt) (bm : List Value) : Prop where
  b : CB K C nm q st bm
  sa : PySem.W.findIn K (.ref C) "__setattr__" = some (some (.builtin "object.__setattr__"))
  no : PySem.W.findIn K (.ref C) fl = some none
  no2 : PySem.W.findIn K (.ref C) gl = some none
  ini : IniAt K C qi si
section
variable {K : PySem.W.Frag} {C T : Addr} {nm q : Str} {st : Stmt} {bm : List Value}
theorem CB.ec (b : CB K C nm q st bm) : ErrC K C := ⟨b.ga, b.gg, b.ex, b.hd, b.ca, b.cm, b.ic, b.ty, b.kC⟩
theorem CB.ox (b : CB K C nm q st bm) (h : PySem.HandSPX.refsVE bm = true) (sa : PySem.W.findIn K (.ref C) "__setattr__" = some (some (.builtin "object.__setattr__"))) : OexC K C := by
  obtain ⟨nm, q, N, bs, sn, sub, ab, col, dd, m0, m1, m2, m3, m5, l⟩ := b.obj
  exact ⟨⟨nm, q, N, bs, bm, sn, sub, ab, col, dd, m0, m1, m2, m3, m5, l, h⟩, sa, b.ex, b.ty, b.kC⟩
theorem CB.sub (b : CB K C nm q st bm) (v : Value) : PySem.W.subIn K (.ref C) v = some ((Value.ref C :: bm).contains v) := by
  obtain ⟨nm, q, N, bs, sn, sub, ab, col, dd, m0, m1, m2, m3, m5, l⟩ := b.obj
  exact sub_of l v
theorem kit_self {t : Value} : PySem.W.kitOne K t t = some true := by
  unfold PySem.W.kitOne
  rw [if_pos (beq_self_eq_true t)]
theorem kit_one {D : Addr} {t : Value} {b : Bool} (hne : (t == .ref D) = false) (h : PySem.W.kitCls K t (.ref D) = some b) : PySem.W.kitOne K t (.ref D) = some b := by
  unfold PySem.W.kitOne
  rw [hne, if_neg Bool.false_ne_true]
  exact h
theorem ref_ne {a b : Addr} (h : a ≠ b) : (Value.ref a == Value.ref b) = false := by
  refine Bool.eq_false_iff.mpr fun z => h (Value.ref.inj (beq_iff_eq.mp z))
theorem ve_kit (b : CB K C nm q st bm) (h : (Value.ref C :: bm).contains (.type "ValueError") = true) : PySem.W.kitOne K (.ref C) (.type "ValueError") = some true :=
  kit_sub (by rw [b.sub, h]) (by decide +kernel)
theorem not_in {C D T : Addr} (h1 : D ≠ C) (h2 : D ≠ T) : (Value.ref C :: .ref T :: veMro).contains (.ref D) = false := by
  refine Bool.eq_false_iff.mpr fun z => ?_
  have := List.contains_iff_mem.mp z
  simp only [List.mem_cons, List.not_mem_nil, or_false, Value.ref.injEq, reduceCtorEq] at this
  rcases this with h | h
  · exact h1 h
  · exact h2 h
theorem not_in0 {C D : Addr} (h1 : D ≠ C) : (Value.ref C :: veMro).contains (.ref D) = false := by
  refine Bool.eq_false_iff.mpr fun z => ?_
  have := List.contains_iff_mem.mp z
  simp only [List.mem_cons, List.not_mem_nil, or_false, Value.ref.injEq, reduceCtorEq] at this
  exact h1 this
theorem in_up {C T : Addr} : (Value.ref C :: .ref T :: veMro).contains (.ref T) = true := List.contains_iff_mem.mpr (List.mem_cons_of_mem _ List.mem_cons_self)
theorem in_ve {C T : Addr} : (Value.ref C :: .ref T :: veMro).contains (.type "ValueError") = true := List.contains_iff_mem.mpr (List.mem_cons_of_mem _ (List.mem_cons_of_mem _ List.mem_cons_self))
theorem in_ve0 {C : Addr} : (Value.ref C :: veMro).contains (.type "ValueError") = true := List.contains_iff_mem.mpr (List.mem_cons_of_mem _ List.mem_cons_self)
end
/-- the names of the classes stand for unlike places -/
abbrev Apart (c : Nat → Addr) : Prop := ∀ i < 38, ∀ j < 38, c i = c j → i = j
section
variable {P : Program} {w : World} {K : PySem.W.Frag} {mg : Str → Option Value} {base h : Heap} {c : Nat → Addr} {k : Nat} {nm q qi fl gl t : Str} {st si : Stmt}
/-- what of a class does not hang on its __init__ -/
theorem cl_kinds (hk : k < 37) (ap : Apart c) (b : CB K (c k) nm q st (.ref (c 37) :: veMro)) (cl : ∀ j < 38, PySem.W.isClsIn K (c j) = true ∧ PySem.W.typeIn K (.ref (c j)) = some (.type "type")) : (∀ j, j < 37 → PySem.W.kitOne K (.ref (c k)) (.ref (c j)) = some (decide (k = j))) ∧ PySem.W.kitOne K (.ref (c k)) (.ref (c 37)) = some true := by
  refine ⟨fun j hj => ?_, ?_⟩
  · rcases Decidable.em (k = j) with rfl | ne
    · rw [kit_self, decide_eq_true rfl]
    · rw [decide_eq_false ne]
      have n1 : c j ≠ c k := fun e => ne (ap j (by omega) k (by omega) e).symm
      have n2 : c j ≠ c 37 := fun e => by have := ap j (by omega) 37 (by omega) e; omega
      obtain ⟨c1, c2⟩ := cl j (by omega)
      exact kit_one (ref_ne (Ne.symm n1)) (kit_cl c1 c2 (by rw [b.sub, not_in n1 n2]))
  · have n1 : c k ≠ c 37 := fun e => by have := ap k (by omega) 37 (by omega) e; omega
    obtain ⟨c1, c2⟩ := cl 37 (by omega)
    exact kit_one (ref_ne n1) (kit_cl c1 c2 (by rw [b.sub, in_up]))
theorem cl_kinds0 (ap : Apart c) (b : CB K (c 37) nm q st veMro) (cl : ∀ j < 38, PySem.W.isClsIn K (c j) = true ∧ PySem.W.typeIn K (.ref (c j)) = some (.type "type")) : (∀ j, j < 37 → PySem.W.kitOne K (.ref (c 37)) (.ref (c j)) = some (decide (37 = j))) ∧ PySem.W.kitOne K (.ref (c 37)) (.ref (c 37)) = some true := by
  refine ⟨fun j hj => ?_, kit_self⟩
  rw [decide_eq_false (show ¬ 37 = j by omega)]
  have n1 : c j ≠ c 37 := fun e => by have := ap j (by omega) 37 (by omega) e; omega
  obtain ⟨c1, c2⟩ := cl j (by omega)
  exact kit_one (ref_ne (Ne.symm n1)) (kit_cl c1 c2 (by rw [b.sub, not_in0 n1]))
abbrev Bnd (x q : Str) (st : Stmt) (ps : List Str) : Prop := ∀ (kV doc pm : Value) (an : Option Addr) (cdv ct : Value) (us : List Value), us.length = ps.length → bindArgs (PySem.W.fnOf x q (defArgs st) (defBody st) (defScope st) .none kV doc pm an cdv ct) ⟨us, []⟩ = pure (ps.zip us)
theorem CB.tells {C : Addr} {bm : List Value} (b : CB K C nm q st bm) (S : IsTold st t) (bd : Bnd "told" q st ["self"]) : Tells P w K mg base CX0 1 "told" (spTold t) C := by
  obtain ⟨f, a, i, fd, F⟩ := b.told
  exact ⟨f, fd, a, i, F.kp, ok_told F S, F.bindsN bd⟩
theorem mk_one {C : Addr} {bm : List Value} (b : C1 K C nm q qi fl st si bm) (h : PySem.HandSPX.refsVE bm = true) (n : Nm1 fl) (S : IsI1 si fl) (bd : Bnd "__init__" qi si ["self", fl]) : OexC K C ∧ ErrOk P w K mg base C 1 ["self", fl] (spI1 C fl) := by
  obtain ⟨f, a, i, fd, F⟩ := b.ini
  have T := b.b.ox h b.sa
  exact ⟨T, f, fd, ok_i1 n F S T b.no, a, i, F.bindsN bd⟩
theorem mk_two {C : Addr} {bm : List Value} (b : C2 K C nm q qi fl gl st si bm) (h : PySem.HandSPX.refsVE bm = true) (n : Nm2 fl gl) (S : IsI2 si fl gl) (bd : Bnd "__init__" qi si ["self", fl, gl]) : OexC K C ∧ ErrOk P w K mg base C 1 ["self", fl, gl] (spI2 C fl gl) := by
  obtain ⟨f, a, i, fd, F⟩ := b.ini
  have T := b.b.ox h b.sa
  exact ⟨T, f, fd, ok_i2 n F S T b.no b.no2, a, i, F.bindsN bd⟩
end
theorem low0 : lowN 0 = "refused noratio" := by decide +kernel
theorem tx0 : IsTold st0 "refused noratio" := ⟨rfl, _, _, _, rfl⟩
theorem ix0 : IsI1 si0 "word" := ⟨rfl, _, _, _, _, rfl⟩
theorem low1 : lowN 1 = "refused nogrid" := by decide +kernel
theorem tx1 : IsTold st1 "refused nogrid" := ⟨rfl, _, _, _, rfl⟩
theorem ix1 : IsI1 si1 "word" := ⟨rfl, _, _, _, _, rfl⟩
theorem low2 : lowN 2 = "refused nocell" := by decide +kernel
theorem tx2 : IsTold st2 "refused nocell" := ⟨rfl, _, _, _, rfl⟩
theorem low3 : lowN 3 = "refused nowish" := by decide +kernel
theorem tx3 : IsTold st3 "refused nowish" := ⟨rfl, _, _, _, rfl⟩
theorem ix3 : IsI2 si3 "place" "word" := ⟨rfl, _, _, _, _, _, _, _, _, rfl⟩
theorem low4 : lowN 4 = "refused noaxis" := by decide +kernel
theorem tx4 : IsTold st4 "refused noaxis" := ⟨rfl, _, _, _, rfl⟩
theorem low5 : lowN 5 = "refused noquestion" := by decide +kernel
theorem tx5 : IsTold st5 "refused noquestion" := ⟨rfl, _, _, _, rfl⟩
theorem ix5 : IsI1 si5 "word" := ⟨rfl, _, _, _, _, rfl⟩
theorem low6 : lowN 6 = "refused noamounts" := by decide +kernel
theorem tx6 : IsTold st6 "refused noamounts" := ⟨rfl, _, _, _, rfl⟩
theorem low7 : lowN 7 = "refused othergrid" := by decide +kernel
theorem tx7 : IsTold st7 "refused othergrid" := ⟨rfl, _, _, _, rfl⟩
theorem low8 : lowN 8 = "refused noexpression" := by decide +kernel
theorem tx8 : IsTold st8 "refused noexpression" := ⟨rfl, _, _, _, rfl⟩
theorem ix8 : IsI1 si8 "word" := ⟨rfl, _, _, _, _, rfl⟩
theorem low9 : lowN 9 = "refused badtext" := by decide +kernel
theorem tx9 : IsTold st9 "refused badtext" := ⟨rfl, _, _, _, rfl⟩
theorem ix9 : IsI1 si9 "place" := ⟨rfl, _, _, _, _, rfl⟩
theorem low10 : lowN 10 = "refused nomeaning" := by decide +kernel
theorem tx10 : IsTold st10 "refused nomeaning" := ⟨rfl, _, _, _, rfl⟩
theorem ix10 : IsI1 si10 "word" := ⟨rfl, _, _, _, _, rfl⟩
theorem low11 : lowN 11 = "refused noentry" := by decide +kernel
theorem tx11 : IsTold st11 "refused noentry" := ⟨rfl, _, _, _, rfl⟩
theorem ix11 : IsI1 si11 "word" := ⟨rfl, _, _, _, _, rfl⟩
theorem low12 : lowN 12 = "refused nobook" := by decide +kernel
theorem tx12 : IsTold st12 "refused nobook" := ⟨rfl, _, _, _, rfl⟩
theorem ix12 : IsI1 si12 "word" := ⟨rfl, _, _, _, _, rfl⟩
theorem low13 : lowN 13 = "refused sametime" := by decide +kernel
theorem tx13 : IsTold st13 "refused sametime" := ⟨rfl, _, _, _, rfl⟩
theorem ix13 : IsI1 si13 "time" := ⟨rfl, _, _, _, _, rfl⟩
theorem low14 : lowN 14 = "refused samename" := by decide +kernel
theorem tx14 : IsTold st14 "refused samename" := ⟨rfl, _, _, _, rfl⟩
theorem ix14 : IsI1 si14 "name" := ⟨rfl, _, _, _, _, rfl⟩
theorem low15 : lowN 15 = "refused toomany" := by decide +kernel
theorem tx15 : IsTold st15 "refused toomany" := ⟨rfl, _, _, _, rfl⟩
theorem ix15 : IsI1 si15 "most" := ⟨rfl, _, _, _, _, rfl⟩
theorem low16 : lowN 16 = "refused noname" := by decide +kernel
theorem tx16 : IsTold st16 "refused noname" := ⟨rfl, _, _, _, rfl⟩
theorem ix16 : IsI1 si16 "name" := ⟨rfl, _, _, _, _, rfl⟩
theorem low17 : lowN 17 = "refused notime" := by decide +kernel
theorem tx17 : IsTold st17 "refused notime" := ⟨rfl, _, _, _, rfl⟩
theorem low18 : lowN 18 = "refused nohistory" := by decide +kernel
theorem tx18 : IsTold st18 "refused nohistory" := ⟨rfl, _, _, _, rfl⟩
theorem low19 : lowN 19 = "refused noweights" := by decide +kernel
theorem tx19 : IsTold st19 "refused noweights" := ⟨rfl, _, _, _, rfl⟩
theorem low20 : lowN 20 = "refused noside" := by decide +kernel
theorem tx20 : IsTold st20 "refused noside" := ⟨rfl, _, _, _, rfl⟩
theorem low21 : lowN 21 = "refused nonumber" := by decide +kernel
theorem tx21 : IsTold st21 "refused nonumber" := ⟨rfl, _, _, _, rfl⟩
theorem low22 : lowN 22 = "refused clash" := by decide +kernel
theorem tx22 : IsTold st22 "refused clash" := ⟨rfl, _, _, _, rfl⟩
theorem low23 : lowN 23 = "refused endless" := by decide +kernel
theorem tx23 : IsTold st23 "refused endless" := ⟨rfl, _, _, _, rfl⟩
theorem low24 : lowN 24 = "refused nocount" := by decide +kernel
theorem tx24 : IsTold st24 "refused nocount" := ⟨rfl, _, _, _, rfl⟩
theorem low25 : lowN 25 = "refused nooffer" := by decide +kernel
theorem tx25 : IsTold st25 "refused nooffer" := ⟨rfl, _, _, _, rfl⟩
theorem ix25 : IsI1 si25 "word" := ⟨rfl, _, _, _, _, rfl⟩
theorem low26 : lowN 26 = "refused nogoal" := by decide +kernel
theorem tx26 : IsTold st26 "refused nogoal" := ⟨rfl, _, _, _, rfl⟩
theorem ix26 : IsI1 si26 "word" := ⟨rfl, _, _, _, _, rfl⟩
theorem low27 : lowN 27 = "refused nooffers" := by decide +kernel
theorem tx27 : IsTold st27 "refused nooffers" := ⟨rfl, _, _, _, rfl⟩
theorem ix27 : IsI1 si27 "place" := ⟨rfl, _, _, _, _, rfl⟩
theorem low28 : lowN 28 = "refused nochoice" := by decide +kernel
theorem tx28 : IsTold st28 "refused nochoice" := ⟨rfl, _, _, _, rfl⟩
theorem low29 : lowN 29 = "refused nogoals" := by decide +kernel
theorem tx29 : IsTold st29 "refused nogoals" := ⟨rfl, _, _, _, rfl⟩
theorem ix29 : IsI1 si29 "place" := ⟨rfl, _, _, _, _, rfl⟩
theorem low30 : lowN 30 = "refused noundo" := by decide +kernel
theorem tx30 : IsTold st30 "refused noundo" := ⟨rfl, _, _, _, rfl⟩
theorem low31 : lowN 31 = "refused noredo" := by decide +kernel
theorem tx31 : IsTold st31 "refused noredo" := ⟨rfl, _, _, _, rfl⟩
theorem low32 : lowN 32 = "refused nonames" := by decide +kernel
theorem tx32 : IsTold st32 "refused nonames" := ⟨rfl, _, _, _, rfl⟩
theorem low33 : lowN 33 = "refused noquestions" := by decide +kernel
theorem tx33 : IsTold st33 "refused noquestions" := ⟨rfl, _, _, _, rfl⟩
theorem ix33 : IsI1 si33 "place" := ⟨rfl, _, _, _, _, rfl⟩
theorem low34 : lowN 34 = "refused noline" := by decide +kernel
theorem tx34 : IsTold st34 "refused noline" := ⟨rfl, _, _, _, rfl⟩
theorem low35 : lowN 35 = "refused conflicted" := by decide +kernel
theorem tx35 : IsTold st35 "refused conflicted" := ⟨rfl, _, _, _, rfl⟩
theorem ix35 : IsI2 si35 "kind" "what" := ⟨rfl, _, _, _, _, _, _, _, _, rfl⟩
theorem low36 : lowN 36 = "refused badline" := by decide +kernel
theorem tx36 : IsTold st36 "refused badline" := ⟨rfl, _, _, _, rfl⟩
theorem ix36 : IsI2 si36 "place" "word" := ⟨rfl, _, _, _, _, _, _, _, _, rfl⟩
theorem low37 : lowN 37 = "refused tolderror" := by decide +kernel
theorem tx37 : IsTold st37 "refused tolderror" := ⟨rfl, _, _, _, rfl⟩
def cOf (l : List Addr) (k : Nat) : Addr := l.getD k 0
theorem cOf_inj {l : List Addr} (ap : l.Nodup) (i : Nat) (hi : i < l.length) (j : Nat) (hj : j < l.length) (e : cOf l i = cOf l j) : i = j := by
  unfold cOf at e
  rw [List.getD_eq_getElem?_getD, List.getD_eq_getElem?_getD, List.getElem?_eq_getElem hi, List.getElem?_eq_getElem hj] at e
  have e' : l[i] = l[j] := e
  have p := List.pairwise_iff_getElem.mp ap
  rcases Nat.lt_trichotomy i j with h | h | h
  · exact absurd e' (p i j hi hj h)
  · exact h
  · exact absurd e'.symm (p j i hj hi h)
theorem cls_mk {P : Program} {w : World} {K : PySem.W.Frag} {mg : Str → Option Value} {base h : Heap} {c0 c1 c2 c3 c4 c5 c6 c7 c8 c9 c10 c11 c12 c13 c14 c15 c16 c17 c18 c19 c20 c21 c22 c23 c24 c25 c26 c27 c28 c29 c30 c31 c32 c33 c34 c35 c36 c37 : Addr} (X : K.In h) (G : h.Ns mainGlobals mg) (ap : [c0, c1, c2, c3, c4, c5, c6, c7, c8, c9, c10, c11, c12, c13, c14, c15, c16, c17, c18, c19, c20, c21, c22, c23, c24, c25, c26, c27, c28, c29, c30, c31, c32, c33, c34, c35, c36, c37].Nodup)
    (h0 : C1 K c0 "NoRatio" "NoRatio.told" "NoRatio.__init__" "word" st0 si0 (.ref c37 :: veMro))
    (h1 : C1 K c1 "NoGrid" "NoGrid.told" "NoGrid.__init__" "word" st1 si1 (.ref c37 :: veMro))
    (h2 : C0 K c2 "NoCell" "NoCell.told" st2 (.ref c37 :: veMro))
    (h3 : C2 K c3 "NoWish" "NoWish.told" "NoWish.__init__" "place" "word" st3 si3 (.ref c37 :: veMro))
    (h4 : C0 K c4 "NoAxis" "NoAxis.told" st4 (.ref c37 :: veMro))
    (h5 : C1 K c5 "NoQuestion" "NoQuestion.told" "NoQuestion.__init__" "word" st5 si5 (.ref c37 :: veMro))
    (h6 : C0 K c6 "NoAmounts" "NoAmounts.told" st6 (.ref c37 :: veMro))
    (h7 : C0 K c7 "OtherGrid" "OtherGrid.told" st7 (.ref c37 :: veMro))
    (h8 : C1 K c8 "NoExpression" "NoExpression.told" "NoExpression.__init__" "word" st8 si8 (.ref c37 :: veMro))
    (h9 : C1 K c9 "BadText" "BadText.told" "BadText.__init__" "place" st9 si9 (.ref c37 :: veMro))
    (h10 : C1 K c10 "NoMeaning" "NoMeaning.told" "NoMeaning.__init__" "word" st10 si10 (.ref c37 :: veMro))
    (h11 : C1 K c11 "NoEntry" "NoEntry.told" "NoEntry.__init__" "word" st11 si11 (.ref c37 :: veMro))
    (h12 : C1 K c12 "NoBook" "NoBook.told" "NoBook.__init__" "word" st12 si12 (.ref c37 :: veMro))
    (h13 : C1 K c13 "SameTime" "SameTime.told" "SameTime.__init__" "time" st13 si13 (.ref c37 :: veMro))
    (h14 : C1 K c14 "SameName" "SameName.told" "SameName.__init__" "name" st14 si14 (.ref c37 :: veMro))
    (h15 : C1 K c15 "TooMany" "TooMany.told" "TooMany.__init__" "most" st15 si15 (.ref c37 :: veMro))
    (h16 : C1 K c16 "NoName" "NoName.told" "NoName.__init__" "name" st16 si16 (.ref c37 :: veMro))
    (h17 : C0 K c17 "NoTime" "NoTime.told" st17 (.ref c37 :: veMro))
    (h18 : C0 K c18 "NoHistory" "NoHistory.told" st18 (.ref c37 :: veMro))
    (h19 : C0 K c19 "NoWeights" "NoWeights.told" st19 (.ref c37 :: veMro))
    (h20 : C0 K c20 "NoSide" "NoSide.told" st20 (.ref c37 :: veMro))
    (h21 : C0 K c21 "NoNumber" "NoNumber.told" st21 (.ref c37 :: veMro))
    (h22 : C0 K c22 "Clash" "Clash.told" st22 (.ref c37 :: veMro))
    (h23 : C0 K c23 "Endless" "Endless.told" st23 (.ref c37 :: veMro))
    (h24 : C0 K c24 "NoCount" "NoCount.told" st24 (.ref c37 :: veMro))
    (h25 : C1 K c25 "NoOffer" "NoOffer.told" "NoOffer.__init__" "word" st25 si25 (.ref c37 :: veMro))
    (h26 : C1 K c26 "NoGoal" "NoGoal.told" "NoGoal.__init__" "word" st26 si26 (.ref c37 :: veMro))
    (h27 : C1 K c27 "NoOffers" "NoOffers.told" "NoOffers.__init__" "place" st27 si27 (.ref c37 :: veMro))
    (h28 : C0 K c28 "NoChoice" "NoChoice.told" st28 (.ref c37 :: veMro))
    (h29 : C1 K c29 "NoGoals" "NoGoals.told" "NoGoals.__init__" "place" st29 si29 (.ref c37 :: veMro))
    (h30 : C0 K c30 "NoUndo" "NoUndo.told" st30 (.ref c37 :: veMro))
    (h31 : C0 K c31 "NoRedo" "NoRedo.told" st31 (.ref c37 :: veMro))
    (h32 : C0 K c32 "NoNames" "NoNames.told" st32 (.ref c37 :: veMro))
    (h33 : C1 K c33 "NoQuestions" "NoQuestions.told" "NoQuestions.__init__" "place" st33 si33 (.ref c37 :: veMro))
    (h34 : C0 K c34 "NoLine" "NoLine.told" st34 (.ref c37 :: veMro))
    (h35 : C2 K c35 "Conflicted" "Conflicted.told" "Conflicted.__init__" "kind" "what" st35 si35 (.ref c37 :: veMro))
    (h36 : C2 K c36 "BadLine" "BadLine.told" "BadLine.__init__" "place" "word" st36 si36 (.ref c37 :: veMro))
    (h37 : C0 K c37 "ToldError" "ToldError.told" st37 veMro)
    : Cls38 P w K mg base (cOf [c0, c1, c2, c3, c4, c5, c6, c7, c8, c9, c10, c11, c12, c13, c14, c15, c16, c17, c18, c19, c20, c21, c22, c23, c24, c25, c26, c27, c28, c29, c30, c31, c32, c33, c34, c35, c36, c37]) := by
  have ap2 : Apart (cOf [c0, c1, c2, c3, c4, c5, c6, c7, c8, c9, c10, c11, c12, c13, c14, c15, c16, c17, c18, c19, c20, c21, c22, c23, c24, c25, c26, c27, c28, c29, c30, c31, c32, c33, c34, c35, c36, c37]) := fun i hi j hj e => by
    exact cOf_inj ap i hi j hj e
  have cl : ∀ j < 38, PySem.W.isClsIn K (cOf [c0, c1, c2, c3, c4, c5, c6, c7, c8, c9, c10, c11, c12, c13, c14, c15, c16, c17, c18, c19, c20, c21, c22, c23, c24, c25, c26, c27, c28, c29, c30, c31, c32, c33, c34, c35, c36, c37] j) = true ∧ PySem.W.typeIn K (.ref (cOf [c0, c1, c2, c3, c4, c5, c6, c7, c8, c9, c10, c11, c12, c13, c14, c15, c16, c17, c18, c19, c20, c21, c22, c23, c24, c25, c26, c27, c28, c29, c30, c31, c32, c33, c34, c35, c36, c37] j)) = some (.type "type") := fun j hj => by
    match j, hj with
    | 0, _ => exact ⟨h0.b.ic, h0.b.ty⟩
    | 1, _ => exact ⟨h1.b.ic, h1.b.ty⟩
    | 2, _ => exact ⟨h2.b.ic, h2.b.ty⟩
    | 3, _ => exact ⟨h3.b.ic, h3.b.ty⟩
    | 4, _ => exact ⟨h4.b.ic, h4.b.ty⟩
    | 5, _ => exact ⟨h5.b.ic, h5.b.ty⟩
    | 6, _ => exact ⟨h6.b.ic, h6.b.ty⟩
    | 7, _ => exact ⟨h7.b.ic, h7.b.ty⟩
    | 8, _ => exact ⟨h8.b.ic, h8.b.ty⟩
    | 9, _ => exact ⟨h9.b.ic, h9.b.ty⟩
    | 10, _ => exact ⟨h10.b.ic, h10.b.ty⟩
    | 11, _ => exact ⟨h11.b.ic, h11.b.ty⟩
    | 12, _ => exact ⟨h12.b.ic, h12.b.ty⟩
    | 13, _ => exact ⟨h13.b.ic, h13.b.ty⟩
    | 14, _ => exact ⟨h14.b.ic, h14.b.ty⟩
    | 15, _ => exact ⟨h15.b.ic, h15.b.ty⟩
    | 16, _ => exact ⟨h16.b.ic, h16.b.ty⟩
    | 17, _ => exact ⟨h17.b.ic, h17.b.ty⟩
    | 18, _ => exact ⟨h18.b.ic, h18.b.ty⟩
    | 19, _ => exact ⟨h19.b.ic, h19.b.ty⟩
    | 20, _ => exact ⟨h20.b.ic, h20.b.ty⟩
    | 21, _ => exact ⟨h21.b.ic, h21.b.ty⟩
    | 22, _ => exact ⟨h22.b.ic, h22.b.ty⟩
    | 23, _ => exact ⟨h23.b.ic, h23.b.ty⟩
    | 24, _ => exact ⟨h24.b.ic, h24.b.ty⟩
    | 25, _ => exact ⟨h25.b.ic, h25.b.ty⟩
    | 26, _ => exact ⟨h26.b.ic, h26.b.ty⟩
    | 27, _ => exact ⟨h27.b.ic, h27.b.ty⟩
    | 28, _ => exact ⟨h28.b.ic, h28.b.ty⟩
    | 29, _ => exact ⟨h29.b.ic, h29.b.ty⟩
    | 30, _ => exact ⟨h30.b.ic, h30.b.ty⟩
    | 31, _ => exact ⟨h31.b.ic, h31.b.ty⟩
    | 32, _ => exact ⟨h32.b.ic, h32.b.ty⟩
    | 33, _ => exact ⟨h33.b.ic, h33.b.ty⟩
    | 34, _ => exact ⟨h34.b.ic, h34.b.ty⟩
    | 35, _ => exact ⟨h35.b.ic, h35.b.ty⟩
    | 36, _ => exact ⟨h36.b.ic, h36.b.ty⟩
    | 37, _ => exact ⟨h37.b.ic, h37.b.ty⟩
    | n + 38, h => exact absurd h (by omega)
  intro k hk
  match k, hk with
  | 0, _ =>
    have kd := cl_kinds (by decide) ap2 (k := 0) h0.b cl
    exact { at_ := PySem.W.mg_of X G h0.b.at_, ec := h0.b.ec, told := by rw [low0]; exact h0.b.tells tx0 (fun _ _ _ _ _ _ us hl => match us, hl with | [_], _ => rfl), kinds := kd.1, up := kd.2, ve := ve_kit h0.b in_ve, made := (mk_one h0 rfl nm_word ix0 fun _ _ _ _ _ _ us hl => match us, hl with | [_, _], _ => rfl), no := (fun f hf => by
        obtain rfl := List.mem_singleton.mp hf
        exact h0.no) }
  | 1, _ =>
    have kd := cl_kinds (by decide) ap2 (k := 1) h1.b cl
    exact { at_ := PySem.W.mg_of X G h1.b.at_, ec := h1.b.ec, told := by rw [low1]; exact h1.b.tells tx1 (fun _ _ _ _ _ _ us hl => match us, hl with | [_], _ => rfl), kinds := kd.1, up := kd.2, ve := ve_kit h1.b in_ve, made := (mk_one h1 rfl nm_word ix1 fun _ _ _ _ _ _ us hl => match us, hl with | [_, _], _ => rfl), no := (fun f hf => by
        obtain rfl := List.mem_singleton.mp hf
        exact h1.no) }
  | 2, _ =>
    have kd := cl_kinds (by decide) ap2 (k := 2) h2.b cl
    exact { at_ := PySem.W.mg_of X G h2.b.at_, ec := h2.b.ec, told := by rw [low2]; exact h2.b.tells tx2 (fun _ _ _ _ _ _ us hl => match us, hl with | [_], _ => rfl), kinds := kd.1, up := kd.2, ve := ve_kit h2.b in_ve, made := (h2.ex), no := (fun f hf => by cases hf) }
  | 3, _ =>
    have kd := cl_kinds (by decide) ap2 (k := 3) h3.b cl
    exact { at_ := PySem.W.mg_of X G h3.b.at_, ec := h3.b.ec, told := by rw [low3]; exact h3.b.tells tx3 (fun _ _ _ _ _ _ us hl => match us, hl with | [_], _ => rfl), kinds := kd.1, up := kd.2, ve := ve_kit h3.b in_ve, made := (mk_two h3 rfl nm_pw ix3 fun _ _ _ _ _ _ us hl => match us, hl with | [_, _, _], _ => rfl), no := (fun f hf => by
        rcases List.mem_cons.mp hf with rfl | hf
        · exact h3.no
        · obtain rfl := List.mem_singleton.mp hf
          exact h3.no2) }
  | 4, _ =>
    have kd := cl_kinds (by decide) ap2 (k := 4) h4.b cl
    exact { at_ := PySem.W.mg_of X G h4.b.at_, ec := h4.b.ec, told := by rw [low4]; exact h4.b.tells tx4 (fun _ _ _ _ _ _ us hl => match us, hl with | [_], _ => rfl), kinds := kd.1, up := kd.2, ve := ve_kit h4.b in_ve, made := (h4.ex), no := (fun f hf => by cases hf) }
  | 5, _ =>
    have kd := cl_kinds (by decide) ap2 (k := 5) h5.b cl
    exact { at_ := PySem.W.mg_of X G h5.b.at_, ec := h5.b.ec, told := by rw [low5]; exact h5.b.tells tx5 (fun _ _ _ _ _ _ us hl => match us, hl with | [_], _ => rfl), kinds := kd.1, up := kd.2, ve := ve_kit h5.b in_ve, made := (mk_one h5 rfl nm_word ix5 fun _ _ _ _ _ _ us hl => match us, hl with | [_, _], _ => rfl), no := (fun f hf => by
        obtain rfl := List.mem_singleton.mp hf
        exact h5.no) }
  | 6, _ =>
    have kd := cl_kinds (by decide) ap2 (k := 6) h6.b cl
    exact { at_ := PySem.W.mg_of X G h6.b.at_, ec := h6.b.ec, told := by rw [low6]; exact h6.b.tells tx6 (fun _ _ _ _ _ _ us hl => match us, hl with | [_], _ => rfl), kinds := kd.1, up := kd.2, ve := ve_kit h6.b in_ve, made := (h6.ex), no := (fun f hf => by cases hf) }
  | 7, _ =>
    have kd := cl_kinds (by decide) ap2 (k := 7) h7.b cl
    exact { at_ := PySem.W.mg_of X G h7.b.at_, ec := h7.b.ec, told := by rw [low7]; exact h7.b.tells tx7 (fun _ _ _ _ _ _ us hl => match us, hl with | [_], _ => rfl), kinds := kd.1, up := kd.2, ve := ve_kit h7.b in_ve, made := (h7.ex), no := (fun f hf => by cases hf) }
  | 8, _ =>
    have kd := cl_kinds (by decide) ap2 (k := 8) h8.b cl
    exact { at_ := PySem.W.mg_of X G h8.b.at_, ec := h8.b.ec, told := by rw [low8]; exact h8.b.tells tx8 (fun _ _ _ _ _ _ us hl => match us, hl with | [_], _ => rfl), kinds := kd.1, up := kd.2, ve := ve_kit h8.b in_ve, made := (mk_one h8 rfl nm_word ix8 fun _ _ _ _ _ _ us hl => match us, hl with | [_, _], _ => rfl), no := (fun f hf => by
        obtain rfl := List.mem_singleton.mp hf
        exact h8.no) }
  | 9, _ =>
    have kd := cl_kinds (by decide) ap2 (k := 9) h9.b cl
    exact { at_ := PySem.W.mg_of X G h9.b.at_, ec := h9.b.ec, told := by rw [low9]; exact h9.b.tells tx9 (fun _ _ _ _ _ _ us hl => match us, hl with | [_], _ => rfl), kinds := kd.1, up := kd.2, ve := ve_kit h9.b in_ve, made := (mk_one h9 rfl nm_place ix9 fun _ _ _ _ _ _ us hl => match us, hl with | [_, _], _ => rfl), no := (fun f hf => by
        obtain rfl := List.mem_singleton.mp hf
        exact h9.no) }
  | 10, _ =>
    have kd := cl_kinds (by decide) ap2 (k := 10) h10.b cl
    exact { at_ := PySem.W.mg_of X G h10.b.at_, ec := h10.b.ec, told := by rw [low10]; exact h10.b.tells tx10 (fun _ _ _ _ _ _ us hl => match us, hl with | [_], _ => rfl), kinds := kd.1, up := kd.2, ve := ve_kit h10.b in_ve, made := (mk_one h10 rfl nm_word ix10 fun _ _ _ _ _ _ us hl => match us, hl with | [_, _], _ => rfl), no := (fun f hf => by
        obtain rfl := List.mem_singleton.mp hf
        exact h10.no) }
  | 11, _ =>
    have kd := cl_kinds (by decide) ap2 (k := 11) h11.b cl
    exact { at_ := PySem.W.mg_of X G h11.b.at_, ec := h11.b.ec, told := by rw [low11]; exact h11.b.tells tx11 (fun _ _ _ _ _ _ us hl => match us, hl with | [_], _ => rfl), kinds := kd.1, up := kd.2, ve := ve_kit h11.b in_ve, made := (mk_one h11 rfl nm_word ix11 fun _ _ _ _ _ _ us hl => match us, hl with | [_, _], _ => rfl), no := (fun f hf => by
        obtain rfl := List.mem_singleton.mp hf
        exact h11.no) }
  | 12, _ =>
    have kd := cl_kinds (by decide) ap2 (k := 12) h12.b cl
    exact { at_ := PySem.W.mg_of X G h12.b.at_, ec := h12.b.ec, told := by rw [low12]; exact h12.b.tells tx12 (fun _ _ _ _ _ _ us hl => match us, hl with | [_], _ => rfl), kinds := kd.1, up := kd.2, ve := ve_kit h12.b in_ve, made := (mk_one h12 rfl nm_word ix12 fun _ _ _ _ _ _ us hl => match us, hl with | [_, _], _ => rfl), no := (fun f hf => by
        obtain rfl := List.mem_singleton.mp hf
        exact h12.no) }
  | 13, _ =>
    have kd := cl_kinds (by decide) ap2 (k := 13) h13.b cl
    exact { at_ := PySem.W.mg_of X G h13.b.at_, ec := h13.b.ec, told := by rw [low13]; exact h13.b.tells tx13 (fun _ _ _ _ _ _ us hl => match us, hl with | [_], _ => rfl), kinds := kd.1, up := kd.2, ve := ve_kit h13.b in_ve, made := (mk_one h13 rfl nm_time ix13 fun _ _ _ _ _ _ us hl => match us, hl with | [_, _], _ => rfl), no := (fun f hf => by
        obtain rfl := List.mem_singleton.mp hf
        exact h13.no) }
  | 14, _ =>
    have kd := cl_kinds (by decide) ap2 (k := 14) h14.b cl
    exact { at_ := PySem.W.mg_of X G h14.b.at_, ec := h14.b.ec, told := by rw [low14]; exact h14.b.tells tx14 (fun _ _ _ _ _ _ us hl => match us, hl with | [_], _ => rfl), kinds := kd.1, up := kd.2, ve := ve_kit h14.b in_ve, made := (mk_one h14 rfl nm_name ix14 fun _ _ _ _ _ _ us hl => match us, hl with | [_, _], _ => rfl), no := (fun f hf => by
        obtain rfl := List.mem_singleton.mp hf
        exact h14.no) }
  | 15, _ =>
    have kd := cl_kinds (by decide) ap2 (k := 15) h15.b cl
    exact { at_ := PySem.W.mg_of X G h15.b.at_, ec := h15.b.ec, told := by rw [low15]; exact h15.b.tells tx15 (fun _ _ _ _ _ _ us hl => match us, hl with | [_], _ => rfl), kinds := kd.1, up := kd.2, ve := ve_kit h15.b in_ve, made := (mk_one h15 rfl nm_most ix15 fun _ _ _ _ _ _ us hl => match us, hl with | [_, _], _ => rfl), no := (fun f hf => by
        obtain rfl := List.mem_singleton.mp hf
        exact h15.no) }
  | 16, _ =>
    have kd := cl_kinds (by decide) ap2 (k := 16) h16.b cl
    exact { at_ := PySem.W.mg_of X G h16.b.at_, ec := h16.b.ec, told := by rw [low16]; exact h16.b.tells tx16 (fun _ _ _ _ _ _ us hl => match us, hl with | [_], _ => rfl), kinds := kd.1, up := kd.2, ve := ve_kit h16.b in_ve, made := (mk_one h16 rfl nm_name ix16 fun _ _ _ _ _ _ us hl => match us, hl with | [_, _], _ => rfl), no := (fun f hf => by
        obtain rfl := List.mem_singleton.mp hf
        exact h16.no) }
  | 17, _ =>
    have kd := cl_kinds (by decide) ap2 (k := 17) h17.b cl
    exact { at_ := PySem.W.mg_of X G h17.b.at_, ec := h17.b.ec, told := by rw [low17]; exact h17.b.tells tx17 (fun _ _ _ _ _ _ us hl => match us, hl with | [_], _ => rfl), kinds := kd.1, up := kd.2, ve := ve_kit h17.b in_ve, made := (h17.ex), no := (fun f hf => by cases hf) }
  | 18, _ =>
    have kd := cl_kinds (by decide) ap2 (k := 18) h18.b cl
    exact { at_ := PySem.W.mg_of X G h18.b.at_, ec := h18.b.ec, told := by rw [low18]; exact h18.b.tells tx18 (fun _ _ _ _ _ _ us hl => match us, hl with | [_], _ => rfl), kinds := kd.1, up := kd.2, ve := ve_kit h18.b in_ve, made := (h18.ex), no := (fun f hf => by cases hf) }
  | 19, _ =>
    have kd := cl_kinds (by decide) ap2 (k := 19) h19.b cl
    exact { at_ := PySem.W.mg_of X G h19.b.at_, ec := h19.b.ec, told := by rw [low19]; exact h19.b.tells tx19 (fun _ _ _ _ _ _ us hl => match us, hl with | [_], _ => rfl), kinds := kd.1, up := kd.2, ve := ve_kit h19.b in_ve, made := (h19.ex), no := (fun f hf => by cases hf) }
  | 20, _ =>
    have kd := cl_kinds (by decide) ap2 (k := 20) h20.b cl
    exact { at_ := PySem.W.mg_of X G h20.b.at_, ec := h20.b.ec, told := by rw [low20]; exact h20.b.tells tx20 (fun _ _ _ _ _ _ us hl => match us, hl with | [_], _ => rfl), kinds := kd.1, up := kd.2, ve := ve_kit h20.b in_ve, made := (h20.ex), no := (fun f hf => by cases hf) }
  | 21, _ =>
    have kd := cl_kinds (by decide) ap2 (k := 21) h21.b cl
    exact { at_ := PySem.W.mg_of X G h21.b.at_, ec := h21.b.ec, told := by rw [low21]; exact h21.b.tells tx21 (fun _ _ _ _ _ _ us hl => match us, hl with | [_], _ => rfl), kinds := kd.1, up := kd.2, ve := ve_kit h21.b in_ve, made := (h21.ex), no := (fun f hf => by cases hf) }
  | 22, _ =>
    have kd := cl_kinds (by decide) ap2 (k := 22) h22.b cl
    exact { at_ := PySem.W.mg_of X G h22.b.at_, ec := h22.b.ec, told := by rw [low22]; exact h22.b.tells tx22 (fun _ _ _ _ _ _ us hl => match us, hl with | [_], _ => rfl), kinds := kd.1, up := kd.2, ve := ve_kit h22.b in_ve, made := (h22.ex), no := (fun f hf => by cases hf) }
  | 23, _ =>
    have kd := cl_kinds (by decide) ap2 (k := 23) h23.b cl
    exact { at_ := PySem.W.mg_of X G h23.b.at_, ec := h23.b.ec, told := by rw [low23]; exact h23.b.tells tx23 (fun _ _ _ _ _ _ us hl => match us, hl with | [_], _ => rfl), kinds := kd.1, up := kd.2, ve := ve_kit h23.b in_ve, made := (h23.ex), no := (fun f hf => by cases hf) }
  | 24, _ =>
    have kd := cl_kinds (by decide) ap2 (k := 24) h24.b cl
    exact { at_ := PySem.W.mg_of X G h24.b.at_, ec := h24.b.ec, told := by rw [low24]; exact h24.b.tells tx24 (fun _ _ _ _ _ _ us hl => match us, hl with | [_], _ => rfl), kinds := kd.1, up := kd.2, ve := ve_kit h24.b in_ve, made := (h24.ex), no := (fun f hf => by cases hf) }
  | 25, _ =>
    have kd := cl_kinds (by decide) ap2 (k := 25) h25.b cl
    exact { at_ := PySem.W.mg_of X G h25.b.at_, ec := h25.b.ec, told := by rw [low25]; exact h25.b.tells tx25 (fun _ _ _ _ _ _ us hl => match us, hl with | [_], _ => rfl), kinds := kd.1, up := kd.2, ve := ve_kit h25.b in_ve, made := (mk_one h25 rfl nm_word ix25 fun _ _ _ _ _ _ us hl => match us, hl with | [_, _], _ => rfl), no := (fun f hf => by
        obtain rfl := List.mem_singleton.mp hf
        exact h25.no) }
  | 26, _ =>
    have kd := cl_kinds (by decide) ap2 (k := 26) h26.b cl
    exact { at_ := PySem.W.mg_of X G h26.b.at_, ec := h26.b.ec, told := by rw [low26]; exact h26.b.tells tx26 (fun _ _ _ _ _ _ us hl => match us, hl with | [_], _ => rfl), kinds := kd.1, up := kd.2, ve := ve_kit h26.b in_ve, made := (mk_one h26 rfl nm_word ix26 fun _ _ _ _ _ _ us hl => match us, hl with | [_, _], _ => rfl), no := (fun f hf => by
        obtain rfl := List.mem_singleton.mp hf
        exact h26.no) }
  | 27, _ =>
    have kd := cl_kinds (by decide) ap2 (k := 27) h27.b cl
    exact { at_ := PySem.W.mg_of X G h27.b.at_, ec := h27.b.ec, told := by rw [low27]; exact h27.b.tells tx27 (fun _ _ _ _ _ _ us hl => match us, hl with | [_], _ => rfl), kinds := kd.1, up := kd.2, ve := ve_kit h27.b in_ve, made := (mk_one h27 rfl nm_place ix27 fun _ _ _ _ _ _ us hl => match us, hl with | [_, _], _ => rfl), no := (fun f hf => by
        obtain rfl := List.mem_singleton.mp hf
        exact h27.no) }
  | 28, _ =>
    have kd := cl_kinds (by decide) ap2 (k := 28) h28.b cl
    exact { at_ := PySem.W.mg_of X G h28.b.at_, ec := h28.b.ec, told := by rw [low28]; exact h28.b.tells tx28 (fun _ _ _ _ _ _ us hl => match us, hl with | [_], _ => rfl), kinds := kd.1, up := kd.2, ve := ve_kit h28.b in_ve, made := (h28.ex), no := (fun f hf => by cases hf) }
  | 29, _ =>
    have kd := cl_kinds (by decide) ap2 (k := 29) h29.b cl
    exact { at_ := PySem.W.mg_of X G h29.b.at_, ec := h29.b.ec, told := by rw [low29]; exact h29.b.tells tx29 (fun _ _ _ _ _ _ us hl => match us, hl with | [_], _ => rfl), kinds := kd.1, up := kd.2, ve := ve_kit h29.b in_ve, made := (mk_one h29 rfl nm_place ix29 fun _ _ _ _ _ _ us hl => match us, hl with | [_, _], _ => rfl), no := (fun f hf => by
        obtain rfl := List.mem_singleton.mp hf
        exact h29.no) }
  | 30, _ =>
    have kd := cl_kinds (by decide) ap2 (k := 30) h30.b cl
    exact { at_ := PySem.W.mg_of X G h30.b.at_, ec := h30.b.ec, told := by rw [low30]; exact h30.b.tells tx30 (fun _ _ _ _ _ _ us hl => match us, hl with | [_], _ => rfl), kinds := kd.1, up := kd.2, ve := ve_kit h30.b in_ve, made := (h30.ex), no := (fun f hf => by cases hf) }
  | 31, _ =>
    have kd := cl_kinds (by decide) ap2 (k := 31) h31.b cl
    exact { at_ := PySem.W.mg_of X G h31.b.at_, ec := h31.b.ec, told := by rw [low31]; exact h31.b.tells tx31 (fun _ _ _ _ _ _ us hl => match us, hl with | [_], _ => rfl), kinds := kd.1, up := kd.2, ve := ve_kit h31.b in_ve, made := (h31.ex), no := (fun f hf => by cases hf) }
  | 32, _ =>
    have kd := cl_kinds (by decide) ap2 (k := 32) h32.b cl
    exact { at_ := PySem.W.mg_of X G h32.b.at_, ec := h32.b.ec, told := by rw [low32]; exact h32.b.tells tx32 (fun _ _ _ _ _ _ us hl => match us, hl with | [_], _ => rfl), kinds := kd.1, up := kd.2, ve := ve_kit h32.b in_ve, made := (h32.ex), no := (fun f hf => by cases hf) }
  | 33, _ =>
    have kd := cl_kinds (by decide) ap2 (k := 33) h33.b cl
    exact { at_ := PySem.W.mg_of X G h33.b.at_, ec := h33.b.ec, told := by rw [low33]; exact h33.b.tells tx33 (fun _ _ _ _ _ _ us hl => match us, hl with | [_], _ => rfl), kinds := kd.1, up := kd.2, ve := ve_kit h33.b in_ve, made := (mk_one h33 rfl nm_place ix33 fun _ _ _ _ _ _ us hl => match us, hl with | [_, _], _ => rfl), no := (fun f hf => by
        obtain rfl := List.mem_singleton.mp hf
        exact h33.no) }
  | 34, _ =>
    have kd := cl_kinds (by decide) ap2 (k := 34) h34.b cl
    exact { at_ := PySem.W.mg_of X G h34.b.at_, ec := h34.b.ec, told := by rw [low34]; exact h34.b.tells tx34 (fun _ _ _ _ _ _ us hl => match us, hl with | [_], _ => rfl), kinds := kd.1, up := kd.2, ve := ve_kit h34.b in_ve, made := (h34.ex), no := (fun f hf => by cases hf) }
  | 35, _ =>
    have kd := cl_kinds (by decide) ap2 (k := 35) h35.b cl
    exact { at_ := PySem.W.mg_of X G h35.b.at_, ec := h35.b.ec, told := by rw [low35]; exact h35.b.tells tx35 (fun _ _ _ _ _ _ us hl => match us, hl with | [_], _ => rfl), kinds := kd.1, up := kd.2, ve := ve_kit h35.b in_ve, made := (mk_two h35 rfl nm_kw ix35 fun _ _ _ _ _ _ us hl => match us, hl with | [_, _, _], _ => rfl), no := (fun f hf => by
        rcases List.mem_cons.mp hf with rfl | hf
        · exact h35.no
        · obtain rfl := List.mem_singleton.mp hf
          exact h35.no2) }
  | 36, _ =>
    have kd := cl_kinds (by decide) ap2 (k := 36) h36.b cl
    exact { at_ := PySem.W.mg_of X G h36.b.at_, ec := h36.b.ec, told := by rw [low36]; exact h36.b.tells tx36 (fun _ _ _ _ _ _ us hl => match us, hl with | [_], _ => rfl), kinds := kd.1, up := kd.2, ve := ve_kit h36.b in_ve, made := (mk_two h36 rfl nm_pw ix36 fun _ _ _ _ _ _ us hl => match us, hl with | [_, _, _], _ => rfl), no := (fun f hf => by
        rcases List.mem_cons.mp hf with rfl | hf
        · exact h36.no
        · obtain rfl := List.mem_singleton.mp hf
          exact h36.no2) }
  | 37, _ =>
    have kd := cl_kinds0 ap2 h37.b cl
    exact { at_ := PySem.W.mg_of X G h37.b.at_, ec := h37.b.ec, told := by rw [low37]; exact h37.b.tells tx37 (fun _ _ _ _ _ _ us hl => match us, hl with | [_], _ => rfl), kinds := kd.1, up := kd.2, ve := ve_kit h37.b in_ve0, made := (h37.ex), no := (fun f hf => by cases hf) }
  | n + 38, h => exact absurd h (by omega)
structure NF (K : PySem.W.Frag) : Prop where
  isinst : PySem.W.nsIn K mainGlobals "isinstance" = some none
  int : PySem.W.nsIn K mainGlobals "int" = some none
  abs : PySem.W.nsIn K mainGlobals "abs" = some none
  len : PySem.W.nsIn K mainGlobals "len" = some none
  range : PySem.W.nsIn K mainGlobals "range" = some none
  sum : PySem.W.nsIn K mainGlobals "sum" = some none
  repr : PySem.W.nsIn K mainGlobals "repr" = some none
  verr : PySem.W.nsIn K mainGlobals "ValueError" = some none
theorem txt_mk {K : PySem.W.Frag} {h : Heap} {mg : Str → Option Value} (X : K.In h) (G : h.Ns mainGlobals mg) (n : NF K) : Txt K mg where
  isinst := PySem.W.mg_none_of X G n.isinst
  int := PySem.W.mg_none_of X G n.int
  abs := PySem.W.mg_none_of X G n.abs
  len := PySem.W.mg_none_of X G n.len
  range := PySem.W.mg_none_of X G n.range
  sum := PySem.W.mg_none_of X G n.sum
  repr := PySem.W.mg_none_of X G n.repr
  verr := PySem.W.mg_none_of X G n.verr
theorem all_mk {P : Program} {w : World} {K : PySem.W.Frag} {h : Heap} {mg : Str → Option Value} {fa : Addr} {c : Nat → Addr} (X : K.In h) (G : h.Ns mainGlobals mg) (hfa : mg "law" = some (.ref fa)) (T : Txt K mg) (O : ObjC K) (cl : ∀ base : Heap, Cls38 P w K mg base c)
    (f1 : GF K "_law_stream" sStream) (f2 : GF K "_law_draw" sDraw) (f3 : GF K "_law_made_a" sMA) (f4 : GF K "_law_made_b" sMB) (f5 : GF K "_law_made_c" sMC) (f6 : GF K "_law_made_d" sMD) (f7 : GF K "_law_made" sMade) (f8 : GF K "_law_field" sField) (f9 : GF K "_law_kinds" sKinds) (f10 : GF K "_law_rows" sRows) (f11 : GF K "law" sLaw) :
    ∃ fd : FuncData, (∀ (s : Shared) (v : Value), BindsTo s fd ⟨[v], []⟩ [("script", v)]) ∧ ∀ base : Heap, K.In base → base.Ns mainGlobals mg → FnG P w K mg base CX0 5 fa fd ["script"] (spLaw K) := by
  obtain ⟨fL, aL, fdL, FL⟩ := f11
  have e := hfa.symm.trans (PySem.W.mg_of X G aL)
  cases e
  have bL := FL.bindsA (ps := ["script"]) fun _ _ _ _ _ _ us hl => match us, hl with | [_], _ => rfl
  refine ⟨fdL, fun s v => bL s [v] rfl, fun base _ _ => ?_⟩
  have C := cl base
  have D1 : GloOk P w K mg base CX0 1 "_law_stream" ["script", "k"] (spStream K) := f1.ok X G (fun f fd F => ok_stream F T) fun _ _ _ _ _ _ us hl => match us, hl with | [_, _], _ => rfl
  have D2 : GloOk P w K mg base CX0 1 "_law_draw" ["stream", "many"] spDraw := f2.ok X G (fun f fd F => ok_draw F T) fun _ _ _ _ _ _ us hl => match us, hl with | [_, _], _ => rfl
  have D3 : GloOk P w K mg base CX0 3 "_law_made_a" ["which", "one", "other"] (spMd c mA) := f3.ok X G (fun f fd F => ok_ma F C) fun _ _ _ _ _ _ us hl => match us, hl with | [_, _, _], _ => rfl
  have D4 : GloOk P w K mg base CX0 3 "_law_made_b" ["which", "one", "other"] (spMd c mB) := f4.ok X G (fun f fd F => ok_mb F C) fun _ _ _ _ _ _ us hl => match us, hl with | [_, _, _], _ => rfl
  have D5 : GloOk P w K mg base CX0 3 "_law_made_c" ["which", "one", "other"] (spMd c mC) := f5.ok X G (fun f fd F => ok_mc F C) fun _ _ _ _ _ _ us hl => match us, hl with | [_, _, _], _ => rfl
  have D6 : GloOk P w K mg base CX0 3 "_law_made_d" ["which", "one", "other"] (spMd c mD) := f6.ok X G (fun f fd F => ok_md F C) fun _ _ _ _ _ _ us hl => match us, hl with | [_, _, _], _ => rfl
  have D7 : GloOk P w K mg base CX0 4 "_law_made" ["which", "one", "other"] (spMade c) := f7.ok X G (fun f fd F => ok_made F T C D3 D4 D5 D6) fun _ _ _ _ _ _ us hl => match us, hl with | [_, _, _], _ => rfl
  have D8 : GloOk P w K mg base CX0 1 "_law_field" ["error", "word"] (spField c) := f8.ok X G (fun f fd F => ok_field F C) fun _ _ _ _ _ _ us hl => match us, hl with | [_, _], _ => rfl
  have D9 : GloOk P w K mg base CX0 1 "_law_kinds" ["error"] (spKinds c) := f9.ok X G (fun f fd F => ok_kinds F T O C) fun _ _ _ _ _ _ us hl => match us, hl with | [_], _ => rfl
  have D10 : GloOk P w K mg base CX0 1 "_law_rows" [] spRows := f10.ok X G (fun f fd F => ok_rows F) fun _ _ _ _ _ _ us hl => match us, hl with | [], _ => rfl
  exact ok_law FL T O C D10 D1 D2 D7 D9 D8
theorem walk {l : PySem.W.OpenLaw} {q : Program} {loose : List Str} {XP : (Str → Option Value) → Heap → Prop} {YP : World → Heap → Prop} {d : DefRec} {K : Params → PySem.W.Frag} (hn : l.most = some 63) (hdf : d.params.defaults = [])
    (hY : ∀ (w : World) (h : Heap), YP w h → (K w.params).In h)
    (F : ∀ (w : World) (mg : Str → Option Value) (fa : Addr) (h : Heap), (K w.params).In h → h.Ns mainGlobals mg → mg d.name = some (.ref fa) →
      ∃ fd : FuncData, (∀ (s : Shared) (u : Value), BindsTo s fd ⟨[u], []⟩ [("script", u)]) ∧ ∀ base : Heap, (K w.params).In base → base.Ns mainGlobals mg → FnG l.prog w (K w.params) mg base CX0 5 fa fd ["script"] (spLaw (K w.params))) :
    PySem.W.WalkO q loose XP YP l.row.toRowW d [] (fun f vs => PySem.call f vs) :=
  L2.walk_ofG (n := 63) (k := 5) (x := "script") (CX := fun _ => CX0) (sp := fun w => spLaw (K w.params)) hn (by decide) hdf ⟨rfl, by decide, by decide⟩ hY F (fun _ _ a ns hl hS => ⟨a, ns, rfl, hS, hl, fun _ => rfl⟩) fun _ _ _ _ _ z => z
end K1

set_option Elab.async false
set_option linter.all false
set_option maxRecDepth 100000
set_option maxHeartbeats 4000000
/-! law k01: what the run of the top has left, as facts by names -/
namespace K1
open PySem L2 TL He
theorem walk_ofGE {l : PySem.W.OpenLaw} {n k : Nat} {q : Program} {loose : List Str} {XP : (Str → Option Value) → Heap → Prop} {YP : World → Heap → Prop} {d : DefRec} {CX : CXT} {x : Str}
    (hn : l.most = some n) (hn2 : n ≤ sizeLine) (hdf : d.params.defaults = []) (hr : Room k callerA)
    (F : ∀ (w : World) (mg : Str → Option Value) (fa : Addr) (h : Heap), YP w h → h.Ns mainGlobals mg → mg d.name = some (.ref fa) →
      ∃ (K : PySem.W.Frag) (fd : FuncData) (sp : Sp), K.In h ∧ (∀ (s : Shared) (u : Value), BindsTo s fd ⟨[u], []⟩ [(x, u)]) ∧ (∀ (H : Hp) (a : Addr) (ns : List Int), ns.length ≤ n → SqL K H a (ns.map V.int) → sp [.ref a] H (fun v _ => v = .bl true) fun _ _ _ => False) ∧
        ∀ base : Heap, K.In base → base.Ns mainGlobals mg → FnG l.prog w K mg base CX k fa fd [x] sp)
    (hCX : ∀ (H : Hp) (s : Shared) (e : Value) (s' : Shared), CX [] H s (fun _ _ _ => False) e s' → False) : PySem.W.WalkO q loose XP YP l.row.toRowW d [] (fun f vs => PySem.call f vs) := by
  refine Att.attach_call hn hdf fun w s₀ s₁ mg mb fa o pm cd doc a vs ns G Y _ _ _ at_ obj its len gens => ?_
  obtain ⟨K, fd, sp, KX, bd, hsp, ok⟩ := F w mg fa _ Y G.T.g at_
  exact law_runG KX G.T.g G.T.b G.T.builtins G.T.nolimit gens obj its (Nat.le_trans len hn2) hr ok bd (fun H hS => hsp H a ns len hS) fun H e s' => hCX H s₁ e s'
theorem clsB_ok {K : PySem.W.Frag} {C : Addr} {bm : List Value} (h : clsB K C bm = true) : ObjAt K C bm := by
  unfold clsB at h
  split at h
  · rename_i cl od cd sl e
    obtain ⟨h1, h⟩ := ba h
    obtain ⟨h2, h⟩ := ba h
    obtain ⟨h3, h⟩ := ba h
    obtain ⟨h4, h⟩ := ba h
    split at h
    · rename_i m0 m1 m2 m3 n m5 es
      have e1 := of_decide_eq_true h1
      have e2 := of_decide_eq_true h2
      have e5 := of_decide_eq_true h
      obtain ⟨sl⟩ := sl
      have es' : sl = [m0, m1, m2, m3, some (.builtin n), m5] := es
      subst e1 es' e5
      obtain ⟨x1, x2, x3, x4, x5, x6, x7, x8, x9, x10, x11⟩ := cd
      dsimp only at e2 h3 h4
      subst e2 h3
      have h4' : x11 = false := by cases x11 with | true => cases h4 | false => rfl
      subst h4'
      exact ⟨_, _, _, _, _, _, _, _, _, _, _, _, _, _, e⟩
    · cases h
  · cases h
theorem base_ok {K : PySem.W.Frag} {nm q : Str} {st : Stmt} {bm : List Value} (h : baseB K nm bm = true) (F : ∃ fd, FnP K "told" q st [] (ma K (ga K nm) "told") fd) : CB K (ga K nm) nm q st bm := by
  obtain ⟨a1, h⟩ := ba h
  obtain ⟨a2, h⟩ := ba h
  obtain ⟨a3, h⟩ := ba h
  obtain ⟨a4, h⟩ := ba h
  obtain ⟨a5, h⟩ := ba h
  obtain ⟨a6, h⟩ := ba h
  obtain ⟨a7, h⟩ := ba h
  obtain ⟨a8, h⟩ := ba h
  obtain ⟨a9, h⟩ := ba h
  obtain ⟨b1, h⟩ := ba h
  obtain ⟨b2, h⟩ := ba h
  obtain ⟨b3, h⟩ := ba h
  exact ⟨eqO_ok a1, eqO_ok a2, eqO_ok a3, of_decide_eq_true a4, a5, eqO_ok a6, of_decide_eq_true a7, a8, of_decide_eq_true a9, b1, ⟨_, eqO_ok b2, b3, F⟩, clsB_ok h⟩
section
variable {K : PySem.W.Frag} {nm q qi f g : Str} {st si : Stmt} {bm : List Value}
theorem zero_ok (h : zeroB K nm bm = true) (F : ∃ fd, FnP K "told" q st [] (ma K (ga K nm) "told") fd) : C0 K (ga K nm) nm q st bm := by
  obtain ⟨a, b⟩ := ba h
  exact ⟨base_ok a F, b⟩
theorem one_ok (h : oneB K nm f bm = true) (F : ∃ fd, FnP K "told" q st [] (ma K (ga K nm) "told") fd) (I : ∃ fd, FnP K "__init__" qi si [] (ma K (ga K nm) "__init__") fd) : C1 K (ga K nm) nm q qi f st si bm := by
  obtain ⟨a, h⟩ := ba h
  obtain ⟨h, d⟩ := ba h
  obtain ⟨b1, h⟩ := ba h
  obtain ⟨b2, b3⟩ := ba h
  exact ⟨base_ok a F, eqO_ok b1, eqO_ok d, ⟨_, eqO_ok b2, of_decide_eq_true b3, I⟩⟩
theorem two_ok (h : twoB K nm f g bm = true) (F : ∃ fd, FnP K "told" q st [] (ma K (ga K nm) "told") fd) (I : ∃ fd, FnP K "__init__" qi si [] (ma K (ga K nm) "__init__") fd) : C2 K (ga K nm) nm q qi f g st si bm := by
  obtain ⟨a, h⟩ := ba h
  obtain ⟨h, d⟩ := ba h
  obtain ⟨b1, h⟩ := ba h
  obtain ⟨b2, b3⟩ := ba h
  obtain ⟨d1, d2⟩ := ba d
  exact ⟨base_ok a F, eqO_ok b1, eqO_ok d1, eqO_ok d2, ⟨_, eqO_ok b2, of_decide_eq_true b3, I⟩⟩
end
theorem obj_ok {K : PySem.W.Frag} (h : objB K = true) : ObjC K := ⟨eqO_ok (ba h).1, of_decide_eq_true (ba h).2⟩
theorem ex1 {K : PySem.W.Frag} (h : ex K = true) (i : Nat) {f : PySem.W.Frag → Bool} (e : cks1[i]? = some f := by rfl) : f K = true := List.all_eq_true.mp (ba h).1 f (List.mem_of_getElem? e)
theorem ex2 {K : PySem.W.Frag} (h : ex K = true) (i : Nat) {f : PySem.W.Frag → Bool} (e : cks2[i]? = some f := by rfl) : f K = true := List.all_eq_true.mp (ba h).2 f (List.mem_of_getElem? e)
theorem glo_gf {K : PySem.W.Frag} {x : Str} {st : Stmt} (c : (Fa.glo x).ok K = true) (F : ∃ fd, FnP K x x st [] (ga K x) fd) : GF K x st := ⟨_, eqO_ok c, F⟩
theorem facts {P : Program} {w : World} {K : PySem.W.Frag} {h : Heap} {mg : Str → Option Value} {f : Addr} (X : K.In h) (G : h.Ns mainGlobals mg) (hfa : mg "law" = some (.ref f)) (c : SaysX fa fn [] [] ex w h K) :
    ∃ fd : FuncData, (∀ (s : Shared) (v : Value), BindsTo s fd ⟨[v], []⟩ [("script", v)]) ∧ ∀ base : Heap, K.In base → base.Ns mainGlobals mg → FnG P w K mg base CX0 5 f fd ["script"] (spLaw K) := by
  have D := c.t.d
  have M := c.more
  have T : Txt K mg := ⟨free_ok X G (D.fact 11 (f := .free "isinstance") rfl), free_ok X G (D.fact 12 (f := .free "int") rfl), free_ok X G (D.fact 13 (f := .free "abs") rfl), free_ok X G (D.fact 14 (f := .free "len") rfl), free_ok X G (D.fact 15 (f := .free "range") rfl), free_ok X G (D.fact 16 (f := .free "sum") rfl), free_ok X G (D.fact 17 (f := .free "repr") rfl), free_ok X G (D.fact 18 (f := .free "ValueError") rfl)⟩
  have h0 : C1 K (ga K "NoRatio") "NoRatio" "NoRatio.told" "NoRatio.__init__" "word" st0 si0 (.ref (ga K "ToldError") :: veMro) := one_ok (ex1 M 2 (f := ck0)) (D.def_ 11 (d := dt0) rfl) (D.def_ 12 (d := di0) rfl)
  have h1 : C1 K (ga K "NoGrid") "NoGrid" "NoGrid.told" "NoGrid.__init__" "word" st1 si1 (.ref (ga K "ToldError") :: veMro) := one_ok (ex1 M 3 (f := ck1)) (D.def_ 13 (d := dt1) rfl) (D.def_ 14 (d := di1) rfl)
  have h2 : C0 K (ga K "NoCell") "NoCell" "NoCell.told" st2 (.ref (ga K "ToldError") :: veMro) := zero_ok (ex1 M 4 (f := ck2)) (D.def_ 15 (d := dt2) rfl)
  have h3 : C2 K (ga K "NoWish") "NoWish" "NoWish.told" "NoWish.__init__" "place" "word" st3 si3 (.ref (ga K "ToldError") :: veMro) := two_ok (ex1 M 5 (f := ck3)) (D.def_ 16 (d := dt3) rfl) (D.def_ 17 (d := di3) rfl)
  have h4 : C0 K (ga K "NoAxis") "NoAxis" "NoAxis.told" st4 (.ref (ga K "ToldError") :: veMro) := zero_ok (ex1 M 6 (f := ck4)) (D.def_ 18 (d := dt4) rfl)
  have h5 : C1 K (ga K "NoQuestion") "NoQuestion" "NoQuestion.told" "NoQuestion.__init__" "word" st5 si5 (.ref (ga K "ToldError") :: veMro) := one_ok (ex1 M 7 (f := ck5)) (D.def_ 19 (d := dt5) rfl) (D.def_ 20 (d := di5) rfl)
  have h6 : C0 K (ga K "NoAmounts") "NoAmounts" "NoAmounts.told" st6 (.ref (ga K "ToldError") :: veMro) := zero_ok (ex1 M 8 (f := ck6)) (D.def_ 21 (d := dt6) rfl)
  have h7 : C0 K (ga K "OtherGrid") "OtherGrid" "OtherGrid.told" st7 (.ref (ga K "ToldError") :: veMro) := zero_ok (ex1 M 9 (f := ck7)) (D.def_ 22 (d := dt7) rfl)
  have h8 : C1 K (ga K "NoExpression") "NoExpression" "NoExpression.told" "NoExpression.__init__" "word" st8 si8 (.ref (ga K "ToldError") :: veMro) := one_ok (ex1 M 10 (f := ck8)) (D.def_ 23 (d := dt8) rfl) (D.def_ 24 (d := di8) rfl)
  have h9 : C1 K (ga K "BadText") "BadText" "BadText.told" "BadText.__init__" "place" st9 si9 (.ref (ga K "ToldError") :: veMro) := one_ok (ex1 M 11 (f := ck9)) (D.def_ 25 (d := dt9) rfl) (D.def_ 26 (d := di9) rfl)
  have h10 : C1 K (ga K "NoMeaning") "NoMeaning" "NoMeaning.told" "NoMeaning.__init__" "word" st10 si10 (.ref (ga K "ToldError") :: veMro) := one_ok (ex1 M 12 (f := ck10)) (D.def_ 27 (d := dt10) rfl) (D.def_ 28 (d := di10) rfl)
  have h11 : C1 K (ga K "NoEntry") "NoEntry" "NoEntry.told" "NoEntry.__init__" "word" st11 si11 (.ref (ga K "ToldError") :: veMro) := one_ok (ex1 M 13 (f := ck11)) (D.def_ 29 (d := dt11) rfl) (D.def_ 30 (d := di11) rfl)
  have h12 : C1 K (ga K "NoBook") "NoBook" "NoBook.told" "NoBook.__init__" "word" st12 si12 (.ref (ga K "ToldError") :: veMro) := one_ok (ex1 M 14 (f := ck12)) (D.def_ 31 (d := dt12) rfl) (D.def_ 32 (d := di12) rfl)
  have h13 : C1 K (ga K "SameTime") "SameTime" "SameTime.told" "SameTime.__init__" "time" st13 si13 (.ref (ga K "ToldError") :: veMro) := one_ok (ex1 M 15 (f := ck13)) (D.def_ 33 (d := dt13) rfl) (D.def_ 34 (d := di13) rfl)
  have h14 : C1 K (ga K "SameName") "SameName" "SameName.told" "SameName.__init__" "name" st14 si14 (.ref (ga K "ToldError") :: veMro) := one_ok (ex1 M 16 (f := ck14)) (D.def_ 35 (d := dt14) rfl) (D.def_ 36 (d := di14) rfl)
  have h15 : C1 K (ga K "TooMany") "TooMany" "TooMany.told" "TooMany.__init__" "most" st15 si15 (.ref (ga K "ToldError") :: veMro) := one_ok (ex1 M 17 (f := ck15)) (D.def_ 37 (d := dt15) rfl) (D.def_ 38 (d := di15) rfl)
  have h16 : C1 K (ga K "NoName") "NoName" "NoName.told" "NoName.__init__" "name" st16 si16 (.ref (ga K "ToldError") :: veMro) := one_ok (ex1 M 18 (f := ck16)) (D.def_ 39 (d := dt16) rfl) (D.def_ 40 (d := di16) rfl)
  have h17 : C0 K (ga K "NoTime") "NoTime" "NoTime.told" st17 (.ref (ga K "ToldError") :: veMro) := zero_ok (ex1 M 19 (f := ck17)) (D.def_ 41 (d := dt17) rfl)
  have h18 : C0 K (ga K "NoHistory") "NoHistory" "NoHistory.told" st18 (.ref (ga K "ToldError") :: veMro) := zero_ok (ex1 M 20 (f := ck18)) (D.def_ 42 (d := dt18) rfl)
  have h19 : C0 K (ga K "NoWeights") "NoWeights" "NoWeights.told" st19 (.ref (ga K "ToldError") :: veMro) := zero_ok (ex2 M 0 (f := ck19)) (D.def_ 43 (d := dt19) rfl)
  have h20 : C0 K (ga K "NoSide") "NoSide" "NoSide.told" st20 (.ref (ga K "ToldError") :: veMro) := zero_ok (ex2 M 1 (f := ck20)) (D.def_ 44 (d := dt20) rfl)
  have h21 : C0 K (ga K "NoNumber") "NoNumber" "NoNumber.told" st21 (.ref (ga K "ToldError") :: veMro) := zero_ok (ex2 M 2 (f := ck21)) (D.def_ 45 (d := dt21) rfl)
  have h22 : C0 K (ga K "Clash") "Clash" "Clash.told" st22 (.ref (ga K "ToldError") :: veMro) := zero_ok (ex2 M 3 (f := ck22)) (D.def_ 46 (d := dt22) rfl)
  have h23 : C0 K (ga K "Endless") "Endless" "Endless.told" st23 (.ref (ga K "ToldError") :: veMro) := zero_ok (ex2 M 4 (f := ck23)) (D.def_ 47 (d := dt23) rfl)
  have h24 : C0 K (ga K "NoCount") "NoCount" "NoCount.told" st24 (.ref (ga K "ToldError") :: veMro) := zero_ok (ex2 M 5 (f := ck24)) (D.def_ 48 (d := dt24) rfl)
  have h25 : C1 K (ga K "NoOffer") "NoOffer" "NoOffer.told" "NoOffer.__init__" "word" st25 si25 (.ref (ga K "ToldError") :: veMro) := one_ok (ex2 M 6 (f := ck25)) (D.def_ 49 (d := dt25) rfl) (D.def_ 50 (d := di25) rfl)
  have h26 : C1 K (ga K "NoGoal") "NoGoal" "NoGoal.told" "NoGoal.__init__" "word" st26 si26 (.ref (ga K "ToldError") :: veMro) := one_ok (ex2 M 7 (f := ck26)) (D.def_ 51 (d := dt26) rfl) (D.def_ 52 (d := di26) rfl)
  have h27 : C1 K (ga K "NoOffers") "NoOffers" "NoOffers.told" "NoOffers.__init__" "place" st27 si27 (.ref (ga K "ToldError") :: veMro) := one_ok (ex2 M 8 (f := ck27)) (D.def_ 53 (d := dt27) rfl) (D.def_ 54 (d := di27) rfl)
  have h28 : C0 K (ga K "NoChoice") "NoChoice" "NoChoice.told" st28 (.ref (ga K "ToldError") :: veMro) := zero_ok (ex2 M 9 (f := ck28)) (D.def_ 55 (d := dt28) rfl)
  have h29 : C1 K (ga K "NoGoals") "NoGoals" "NoGoals.told" "NoGoals.__init__" "place" st29 si29 (.ref (ga K "ToldError") :: veMro) := one_ok (ex2 M 10 (f := ck29)) (D.def_ 56 (d := dt29) rfl) (D.def_ 57 (d := di29) rfl)
  have h30 : C0 K (ga K "NoUndo") "NoUndo" "NoUndo.told" st30 (.ref (ga K "ToldError") :: veMro) := zero_ok (ex2 M 11 (f := ck30)) (D.def_ 58 (d := dt30) rfl)
  have h31 : C0 K (ga K "NoRedo") "NoRedo" "NoRedo.told" st31 (.ref (ga K "ToldError") :: veMro) := zero_ok (ex2 M 12 (f := ck31)) (D.def_ 59 (d := dt31) rfl)
  have h32 : C0 K (ga K "NoNames") "NoNames" "NoNames.told" st32 (.ref (ga K "ToldError") :: veMro) := zero_ok (ex2 M 13 (f := ck32)) (D.def_ 60 (d := dt32) rfl)
  have h33 : C1 K (ga K "NoQuestions") "NoQuestions" "NoQuestions.told" "NoQuestions.__init__" "place" st33 si33 (.ref (ga K "ToldError") :: veMro) := one_ok (ex2 M 14 (f := ck33)) (D.def_ 61 (d := dt33) rfl) (D.def_ 62 (d := di33) rfl)
  have h34 : C0 K (ga K "NoLine") "NoLine" "NoLine.told" st34 (.ref (ga K "ToldError") :: veMro) := zero_ok (ex2 M 15 (f := ck34)) (D.def_ 63 (d := dt34) rfl)
  have h35 : C2 K (ga K "Conflicted") "Conflicted" "Conflicted.told" "Conflicted.__init__" "kind" "what" st35 si35 (.ref (ga K "ToldError") :: veMro) := two_ok (ex2 M 16 (f := ck35)) (D.def_ 64 (d := dt35) rfl) (D.def_ 65 (d := di35) rfl)
  have h36 : C2 K (ga K "BadLine") "BadLine" "BadLine.told" "BadLine.__init__" "place" "word" st36 si36 (.ref (ga K "ToldError") :: veMro) := two_ok (ex2 M 17 (f := ck36)) (D.def_ 66 (d := dt36) rfl) (D.def_ 67 (d := di36) rfl)
  have h37 : C0 K (ga K "ToldError") "ToldError" "ToldError.told" st37 veMro := zero_ok (ex2 M 18 (f := ck37)) (D.def_ 68 (d := dt37) rfl)
  have ap : ([ga K "NoRatio", ga K "NoGrid", ga K "NoCell", ga K "NoWish", ga K "NoAxis", ga K "NoQuestion", ga K "NoAmounts", ga K "OtherGrid", ga K "NoExpression", ga K "BadText", ga K "NoMeaning", ga K "NoEntry", ga K "NoBook", ga K "SameTime", ga K "SameName", ga K "TooMany", ga K "NoName", ga K "NoTime", ga K "NoHistory", ga K "NoWeights", ga K "NoSide", ga K "NoNumber", ga K "Clash", ga K "Endless", ga K "NoCount", ga K "NoOffer", ga K "NoGoal", ga K "NoOffers", ga K "NoChoice", ga K "NoGoals", ga K "NoUndo", ga K "NoRedo", ga K "NoNames", ga K "NoQuestions", ga K "NoLine", ga K "Conflicted", ga K "BadLine", ga K "ToldError"] : List Addr).Nodup := of_decide_eq_true (ex1 M 1 (f := apB))
  exact all_mk X G hfa T (obj_ok (ex1 M 0 (f := objB))) (fun base => cls_mk X G ap h0 h1 h2 h3 h4 h5 h6 h7 h8 h9 h10 h11 h12 h13 h14 h15 h16 h17 h18 h19 h20 h21 h22 h23 h24 h25 h26 h27 h28 h29 h30 h31 h32 h33 h34 h35 h36 h37) (glo_gf (D.fact 0 (f := .glo "_law_stream") rfl) (D.def_ 0 (d := dg_sStream) rfl)) (glo_gf (D.fact 1 (f := .glo "_law_draw") rfl) (D.def_ 1 (d := dg_sDraw) rfl)) (glo_gf (D.fact 2 (f := .glo "_law_made_a") rfl) (D.def_ 2 (d := dg_sMA) rfl)) (glo_gf (D.fact 3 (f := .glo "_law_made_b") rfl) (D.def_ 3 (d := dg_sMB) rfl)) (glo_gf (D.fact 4 (f := .glo "_law_made_c") rfl) (D.def_ 4 (d := dg_sMC) rfl)) (glo_gf (D.fact 5 (f := .glo "_law_made_d") rfl) (D.def_ 5 (d := dg_sMD) rfl)) (glo_gf (D.fact 6 (f := .glo "_law_made") rfl) (D.def_ 6 (d := dg_sMade) rfl)) (glo_gf (D.fact 7 (f := .glo "_law_field") rfl) (D.def_ 7 (d := dg_sField) rfl)) (glo_gf (D.fact 8 (f := .glo "_law_kinds") rfl) (D.def_ 8 (d := dg_sKinds) rfl)) (glo_gf (D.fact 9 (f := .glo "_law_rows") rfl) (D.def_ 9 (d := dg_sRows) rfl)) (glo_gf (D.fact 10 (f := .glo "law") rfl) (D.def_ 10 (d := dg_sLaw) rfl))
end K1

set_option Elab.async false
set_option linter.all false
set_option maxRecDepth 100000
set_option maxHeartbeats 0
open PySem PySem.W PySem.Calls PyProof.Rows
theorem PySem.Challenge.cw_toldwithin_k01_errors_of_the_package_holds : PySem.Challenge.rw_toldwithin_k01_errors_of_the_package.Holds := by
  w_on; o_law
  refine HandSHeadRun.head_any (r := OpenLaw.row PySem.Challenge.rw_toldwithin_k01_errors_of_the_package) (q := view (OpenLaw.row PySem.Challenge.rw_toldwithin_k01_errors_of_the_package).prog [50]) (H := K1.hk) (ob := K1.ob) (M := 12000) (loose := K1.loose) (d := HandSHeadRun.topDef (OpenLaw.row PySem.Challenge.rw_toldwithin_k01_errors_of_the_package).prog 50) (kwd := []) K1.ob_eq
    (by kernel_rfl) (fun s => by kernel_rfl) K1.run (by kernel_rfl) (by kernel_rfl) (by kernel_rfl) (by rfl) (by first | assumption | decide +kernel) (by decide +kernel) ⟨rfl, rfl, rfl, rfl, rfl, by decide +kernel⟩ ?hw ?hc
  case hw => w_witness2
  case hc =>
    refine K1.walk_ofGE (l := PySem.Challenge.rw_toldwithin_k01_errors_of_the_package) (n := 63) (k := 5) (x := "script") (CX := L2.CX0) rfl (by decide) (by kernel_rfl) ⟨rfl, by decide, by decide⟩ ?F (fun _ _ _ _ z => z)
    intro w mg fa h Y G hmg0
    obtain ⟨K, KX, c⟩ := Y
    have hmg : mg ("law" : PySem.Str) = some (.ref fa) := by
      have e : (HandSHeadRun.topDef (OpenLaw.row PySem.Challenge.rw_toldwithin_k01_errors_of_the_package).prog 50).name = ("law" : PySem.Str) := by kernel_rfl
      rw [← e]
      exact hmg0
    obtain ⟨fd, hb, hF⟩ := K1.facts (P := (PySem.Challenge.rw_toldwithin_k01_errors_of_the_package).prog) (w := w) KX G hmg c
    exact ⟨K, fd, K1.spLaw K, KX, hb, fun H a ns hl hS => ⟨a, ns, rfl, hS, hl, fun _ => rfl⟩, hF⟩
